import PyProof.Rows.All
import Wide.All
import OpenK.AllK
import Wide.FinOn
import HandS.ForMost
import HandS.ExcInit
import PyProof.ReprReads
import PyProof.ReprRoads
import HandS.Conv
import KE.KExcIs
import HandS.Defaults
import HandS.Wide
import KE.GoesMore
import KE.GoesEnum
import KE.SortData
import KE.KeyNested
import HandS.TupSets
import PyProof.TupleOfSeq
import KE.GoesZip
import KE.KDictZip
import HandS.Zip
import HandS.Style
import HandS.IsInst
import HandS.TupLe
import HandS.Iter
import HandS.TupAny
import HandS.More
import KE.DataEq
import PySem.Challenge.RW_onlyseen_k03_what_holds_and_where_it_bre
set_option Elab.async false
set_option linter.all false
set_option maxRecDepth 100000
set_option maxHeartbeats 4000000
namespace PySem
namespace KwX
open Builtin Builtin.ObjectAttr PySem.HandSPX
section
variable {M : Model} {A : Around} {E : Value → Shared → Prop} {h : Heap} {g : Array GenState} {d : Drawn} {t : Nat} {os : OsState}
variable {nm q : Str} {C N : Addr} {bs bm bmB : List Value} {hdct : Bool} {sn : List Str} {sub : List Value} {ab : Bool} {col : Option Bool} {dd : Option Addr} {k0 k1 k2 k3 k5 : Option Value} {B newId initId : String}
theorem check_new_kw (F : ExcBaseFacts B newId initId bmB) (hT : ∀ X : String, bm.contains (.type X) = bmB.contains (.type X)) {kx : Str} {kv : Value} {Q : Unit → Shared → Prop}
    (hC : h.get? C = some (excClassObj nm q C N bs bm hdct sn sub ab col dd k0 k1 k2 k3 k5 newId)) (hq : Q () ⟨h, g, d, t, os⟩) : wpAny M A (checkBuiltinCall newId ⟨[.ref C], [(kx, kv)]⟩) Q E ⟨h, g, d, t, os⟩ := by
  have hcont : (Value.ref C :: bm).contains (.type B) = true := by rw [List.contains_cons, hT, F.hasB, Bool.or_true]
  have hstar := F.noStar
  simp only [checkBuiltinCall, F.newKind, F.newSplit, F.newRow]
  repeat (first | refine wpAny_loadPart_at hC ?_ | (refine wpAny_isSubtype_exc hC ?_; rw [hcont]) | refine wpAny_staticBase_exc hC ?_ | refine wpAny_madeBy_exc hC ?_ | simp only [bne_self_eq_false, Bool.false_eq_true, if_false] | wp_step)
  exact hq
end
section
variable {prog : Program} {w : World} {A : Around} {E : Value → Shared → Prop} {R : Result → Shared → Prop} {h : Heap} {g : Array GenState} {d : Drawn} {t : Nat} {os : OsState}
variable {nm q : Str} {C N : Addr} {bs bm bmB : List Value} {hdct : Bool} {sn : List Str} {sub : List Value} {ab : Bool} {col : Option Bool} {dd : Option Addr} {k0 k1 k2 k3 k5 : Option Value} {B newId initId : String}
theorem new_kw (F : ExcBaseFacts B newId initId bmB) (hT : ∀ X : String, bm.contains (.type X) = bmB.contains (.type X)) {kx : Str} {kv : Value}
    (hC : h.get? C = some (excClassObj nm q C N bs bm hdct sn sub ab col dd k0 k1 k2 k3 k5 newId))
    (hq : R (.ok (.ret (.ref (h.objs.size + 1)))) ⟨(h.push { cls := .type "tuple", data := .seq #[] }).push
      { cls := .ref C, data := .fields #[.ref h.objs.size, .none, .none, .none, .bool false, .none] }, g, d, t, os⟩) :
    codeAny (model prog w) A (.builtin newId ⟨[.ref C], [(kx, kv)]⟩) R ⟨h, g, d, t, os⟩ := by
  have hends := F.ends
  have hrest : ([] : List Value).length ≤ sizeLine := Nat.zero_le _
  have hcB : (Value.ref C :: bm).contains (.type B) = true := by rw [List.contains_cons, hT, F.hasB, Bool.or_true]
  have hcA : (Value.ref C :: bm).contains (.type "AttributeError") = false := by rw [List.contains_cons, hT, F.noAttr]; rfl
  have hcN : (Value.ref C :: bm).contains (.type "NameError") = false := by rw [List.contains_cons, hT, F.noName]; rfl
  refine codeAny_builtinAt F.entry ?_
  unfold Builtin.«BaseException.__new__»
  refine wpAt_bind ?_
  show wpAt _ _ _ (stack >>= _) _ _ _
  refine wpAt_bind (wpAt_stack fun p below => wpAt_of_wpAny ?_)
  wp_walk
  refine wpAt_of_wpAny ?_
  rw [F.owner]
  repeat (first | with_reducible refine wpAny_madeHere_exc F.canon hC ?_ | with_reducible refine wpAny_loadPart_at hC ?_ | (with_reducible refine wpAny_isSubtype_exc hC ?_; first | rw [hcB] | rw [hcA] | rw [hcN]) | wp_step)
  show R _ _
  rw [Heap.size_push]
  exact hq
theorem type_call_kw (F : ExcBaseFacts B newId initId bmB) (hT : ∀ X : String, bm.contains (.type X) = bmB.contains (.type X)) {kx : Str} {kv : Value} {fI : Addr} {Q : Fin → Shared → Prop}
    (hC : h.get? C = some (excClassObj nm q C N bs bm hdct sn sub ab col dd k0 k1 k2 k3 k5 newId))
    (hi : W.Looks (model prog w) h (typeLookup (.ref C) "__init__") (some (.ref fI))) (hb : ∀ self, W.Looks (model prog w) h (bindSpecial (.ref fI) self) (.ref fI, [self]))
    (hq : codeAny (model prog w) A (.call (.ref fI) ⟨[.ref (h.objs.size + 1)], [(kx, kv)]⟩)
      (fun r s' => match r with | .ok (.ret v) => v = .none ∧ Q (.done (.ret (.ref (h.objs.size + 1)))) s' | .ok _ => False | .error e => E e s')
      ⟨(h.push (W.kdv_tup [])).push (excO C h.objs.size), g, d, t, os⟩) :
    wpAny (model prog w) A (Builtin.«type.__call__» ⟨[.ref C], [(kx, kv)]⟩) Q E ⟨h, g, d, t, os⟩ := by
  repeat (first | with_reducible refine wpAny_loadPart_at hC ?_ | with_reducible refine wpAny_madeBy_exc hC ?_ | wp_step)
  refine codeAny_call_builtin_code (Code.quiet_builtin _ F.quiet) (check_new_kw F hT hC ?_)
  refine new_kw F hT hC ?_
  show wpAny _ _ _ _ _ _
  have k : ∀ b o, h.get? b = some o → ((h.push (W.kdv_tup [])).push (excO C h.objs.size)).get? b = some o := fun b o e => Heap.get?_push_of_some _ (Heap.get?_push_of_some _ e)
  have hC₁ := k _ _ hC
  have hget : ((h.push (W.kdv_tup [])).push (excO C h.objs.size)).get? (h.objs.size + 1) = some (excO C h.objs.size) := by heap_get
  have hcC : (Value.ref C :: bm).contains (.ref C) = true := by simp
  have i1 := hi.keeps k
  have b1 := (hb (.ref (h.objs.size + 1))).keeps k
  unfold isInstance
  repeat (first | with_reducible refine wpAny_loadPart_at hget ?_ | (with_reducible refine wpAny_isSubtype_exc hC₁ ?_; rw [hcC]) | wp_step)
  show wpAny _ _ (typeLookup (.ref C) _) _ _ _
  refine i1.at ?_
  refine wpAny_holding (wpAny_bind (b1.at ?_))
  refine wpAny_bind (wpAny_call (codeAny_mono hq fun r s' z => ?_))
  rcases r with e | (v | _ | _ | _) <;> first | exact z | exact z.elim | skip
  obtain ⟨rfl, z⟩ := z
  first
    | exact wpAny_pure (wpAny_pure z)
    | (wp_walk; exact z)
theorem call_kw (F : ExcBaseFacts B newId initId bmB) (hT : ∀ X : String, bm.contains (.type X) = bmB.contains (.type X)) {kx : Str} {kv : Value} {fI : Addr}
    (hC : h.get? C = some (excClassObj nm q C N bs bm hdct sn sub ab col dd k0 k1 k2 k3 k5 newId))
    (hi : W.Looks (model prog w) h (typeLookup (.ref C) "__init__") (some (.ref fI))) (hb : ∀ self, W.Looks (model prog w) h (bindSpecial (.ref fI) self) (.ref fI, [self]))
    (hq : codeAny (model prog w) (A.under (.builtin "type.__call__" ⟨[.ref C], [(kx, kv)]⟩)) (.call (.ref fI) ⟨[.ref (h.objs.size + 1)], [(kx, kv)]⟩) (W.InitBack (h.objs.size + 1) R)
      ⟨(h.push (W.kdv_tup [])).push (excO C h.objs.size), g, d, t, os⟩) :
    codeAny (model prog w) A (.call (.ref C) ⟨[], [(kx, kv)]⟩) R ⟨h, g, d, t, os⟩ := by
  have f1 := tc_lookup
  have f2 := tc_bind (.ref C)
  have hTy : (⟨h, g, d, t, os⟩ : Shared).TypeIs (.ref C) "type" := ⟨_, hC, rfl⟩
  refine codeAny_of_tree ?_
  show wpAny _ _ (callAny (.ref C) _) _ _ _
  repeat (any_goals (first | assumption | with_reducible refine wpAny_loadPart_at hC ?_ | wp_step))
  refine ⟨rfl, ?_⟩
  refine codeAny_call_builtin_at (Code.quiet_builtin _ (by decide +kernel)) entry_typeCall (wpAny_check_type_call_sub hC (type_call_kw F hT hC hi hb ?_))
  refine codeAny_mono hq fun r s' z => ?_
  rcases r with e | (v | _ | _ | _) <;> exact z
end
end KwX
end PySem

set_option Elab.async false
set_option linter.all false
set_option maxRecDepth 100000
set_option maxHeartbeats 4000000
namespace L2
open PySem PySem.Spec PyProof.Rows
def keyD : Key → PyData
  | .inl i => .int i
  | .inr x => .str x
mutual
inductive Dat (H : Hp) : V → PyData → Prop
  | non : Dat H .non .none
  | bl (b : Bool) : Dat H (.bl b) (.bool b)
  | int (i : Int) : Dat H (.int i) (.int i)
  | str (x : Str) : Dat H (.str x) (.str x)
  | lst {a : Addr} {xs : List V} {ds : List PyData} : H a = some (.lst xs) → DatAll H xs ds → Dat H (.ref a) (.list ds)
  | tup {a : Addr} {xs : List V} {ds : List PyData} : H a = some (.tup xs) → DatAll H xs ds → Dat H (.ref a) (.tuple ds)
  | dct {a : Addr} {kvs : List (Key × V)} {ds : List (PyData × PyData)} : H a = some (.dK kvs) → DatKv H kvs ds → Dat H (.ref a) (.dict ds)
inductive DatAll (H : Hp) : List V → List PyData → Prop
  | nil : DatAll H [] []
  | cons {v : V} {d : PyData} {vs : List V} {ds : List PyData} : Dat H v d → DatAll H vs ds → DatAll H (v :: vs) (d :: ds)
inductive DatKv (H : Hp) : List (Key × V) → List (PyData × PyData) → Prop
  | nil : DatKv H [] []
  | cons {k : Key} {v : V} {d : PyData} {kvs : List (Key × V)} {ds : List (PyData × PyData)} : Dat H v d → DatKv H kvs ds → DatKv H ((k, v) :: kvs) ((keyD k, d) :: ds)
end
mutual
theorem Dat.same {H H' : Hp} (S : Same H H') : ∀ {v : V} {d : PyData}, Dat H v d → Dat H' v d
  | _, _, .non => .non
  | _, _, .bl b => .bl b
  | _, _, .int i => .int i
  | _, _, .str x => .str x
  | _, _, .lst e h => .lst (S _ _ e) (DatAll.same S h)
  | _, _, .tup e h => .tup (S _ _ e) (DatAll.same S h)
  | _, _, .dct e h => .dct (S _ _ e) (DatKv.same S h)
theorem DatAll.same {H H' : Hp} (S : Same H H') : ∀ {vs : List V} {ds : List PyData}, DatAll H vs ds → DatAll H' vs ds
  | _, _, .nil => .nil
  | _, _, .cons h t => .cons (Dat.same S h) (DatAll.same S t)
theorem DatKv.same {H H' : Hp} (S : Same H H') : ∀ {kvs : List (Key × V)} {ds : List (PyData × PyData)}, DatKv H kvs ds → DatKv H' kvs ds
  | _, _, .nil => .nil
  | _, _, .cons h t => .cons (Dat.same S h) (DatKv.same S t)
end
theorem DatAll.snoc {H : Hp} : ∀ {vs : List V} {ds : List PyData} {v : V} {d : PyData}, DatAll H vs ds → Dat H v d → DatAll H (vs ++ [v]) (ds ++ [d])
  | _, _, _, _, .nil, h => .cons h .nil
  | _, _, _, _, .cons a t, h => .cons a (DatAll.snoc t h)
theorem DatAll.len {H : Hp} : ∀ {vs : List V} {ds : List PyData}, DatAll H vs ds → vs.length = ds.length
  | _, _, .nil => rfl
  | _, _, .cons _ t => by rw [List.length_cons, List.length_cons, DatAll.len t]
section
variable {P : Program} {w : World} {H : Hp} {h : Heap}
mutual
theorem reads_of_dat (ok : HOk P w H h) : ∀ {v : V} {d : PyData} {u : Value}, Dat H v d → RelV v u → ∃ as, Reads h u d as
  | _, _, _, .non, r => by cases (show _ = Value.none from r); exact ⟨_, .none⟩
  | _, _, _, .bl b, r => by cases (show _ = Value.bool b from r); exact ⟨_, .bool b⟩
  | _, _, _, .int i, r => by obtain ⟨t, rfl⟩ := r; exact ⟨_, .int i t⟩
  | _, _, _, .str x, r => by obtain ⟨t, rfl⟩ := r; exact ⟨_, .str x t⟩
  | _, _, _, .lst (a := a) e hh, r => by
    cases (show _ = Value.ref a from r)
    obtain ⟨_, its, n, rv, e1⟩ := (show ObjOk P w H h a (.lst _) from ok a _ e)
    obtain ⟨as, R⟩ := readsAll_of_dat ok hh rv
    exact ⟨_, .list e1 rfl rfl R⟩
  | _, _, _, .tup (a := a) e hh, r => by
    cases (show _ = Value.ref a from r)
    obtain ⟨_, its, rv, o, e1, e2, n, e3⟩ := (show ObjOk P w H h a (.tup _) from ok a _ e)
    obtain ⟨as, R⟩ := readsAll_of_dat ok hh rv
    exact ⟨_, .tuple e1 e2 e3 R⟩
  | _, _, _, .dct (a := a) e hh, r => by
    cases (show _ = Value.ref a from r)
    obtain ⟨_, _, vs, rv, o, es, ep, e1, e2, e3, e4, e5, e6⟩ := (show ObjOk P w H h a (.dK _) from ok a _ e)
    obtain ⟨⟨as, A⟩, ⟨bs, B⟩⟩ := readsKv_of_dat ok hh rv e5
    exact ⟨_, .dict e1 e2.1 e3 A B⟩
theorem readsAll_of_dat (ok : HOk P w H h) : ∀ {vs : List V} {ds : List PyData} {us : List Value}, DatAll H vs ds → Vals vs us → ∃ as, ReadsAll h us ds as
  | _, _, _, .nil, .nil => ⟨_, .nil⟩
  | _, _, _, .cons a t, .cons r q => by
    obtain ⟨as, A⟩ := reads_of_dat ok a r
    obtain ⟨bs, B⟩ := readsAll_of_dat ok t q
    exact ⟨_, .cons A B⟩
theorem readsKv_of_dat (ok : HOk P w H h) : ∀ {kvs : List (Key × V)} {ds : List (PyData × PyData)} {vs : List (Key × Value)} {es : List DictEntry}, DatKv H kvs ds → KV kvs vs → Pairs (mixKind P w) es vs →
    (∃ as, ReadsAll h (es.map (·.key)) (ds.map (·.1)) as) ∧ ∃ bs, ReadsAll h (es.map (·.val)) (ds.map (·.2)) bs
  | _, _, _, _, .nil, .nil, .nil => ⟨⟨_, .nil⟩, ⟨_, .nil⟩⟩
  | _, _, _, _, .cons (k := k) hd hq, .cons r q, .cons k1 e1 p => by
    obtain ⟨rk, rv⟩ := r
    obtain ⟨⟨as, A⟩, ⟨bs, B⟩⟩ := readsKv_of_dat ok hq q p
    obtain ⟨cs, C⟩ := reads_of_dat ok hd rv
    refine ⟨?_, ⟨_, .cons (by show Reads h (DictEntry.val _) _ _; rw [e1]; exact C) B⟩⟩
    dsimp only at rk
    subst rk
    rcases keyIs_shape k1 with ⟨i, t, ek, e⟩ | ⟨x, t, ek, e⟩
    · rw [ek]; exact ⟨_, .cons (by show Reads h (DictEntry.key _) (PyData.int i) _; rw [e]; exact .int i t) A⟩
    · rw [ek]; exact ⟨_, .cons (by show Reads h (DictEntry.key _) (PyData.str x) _; rw [e]; exact .str x t) A⟩
end
theorem reprKeys_of {as : List Addr} {d : Nat} : ∀ {kvs : List (Key × V)} {ds : List (PyData × PyData)} {vs : List (Key × Value)} {es : List DictEntry}, DatKv H kvs ds → KV kvs vs → Pairs (mixKind P w) es vs → PyData.showableAll (ds.map (·.1)) = true →
    (∀ t ∈ PyData.shownAll (ds.map (·.1)), t.length ≤ sizeLine) → ReprAllK P w as h d (es.map (·.key)) (PyData.shownAll (ds.map (·.1)))
  | _, _, _, _, .nil, .nil, .nil, _, _ => by simp only [List.map_nil, PyData.shownAll]; exact .nil
  | _, _, _, _, .cons (k := k) hd hq, .cons r q, .cons k1 e1 p, hs, hz => by
    obtain ⟨rk, rv⟩ := r
    dsimp only at rk
    subst rk
    simp only [List.map_cons, PyData.showableAll, Bool.and_eq_true] at hs
    simp only [List.map_cons, PyData.shownAll] at hz ⊢
    refine .cons ?_ (reprKeys_of hq q p hs.2 fun t ht => hz t (List.mem_cons_of_mem _ ht))
    rcases keyIs_shape k1 with ⟨i, t, ek, e⟩ | ⟨x, t, ek, e⟩
    · rw [ek] at hs ⊢
      rw [e]
      simp only [keyD, PyData.shown]
      exact .of_is (ReprIs.int t (by simpa [keyD, PyData.showable] using hs.1)) _ _ _
    · rw [ek] at hz ⊢
      rw [e]
      simp only [keyD, PyData.shown]
      exact .of_is (ReprIs.str x t (by have := hz _ (List.mem_cons_self ..); simpa only [keyD, PyData.shown] using this)) _ _ _
mutual
theorem reprK_of_dat (ok : HOk P w H h) : ∀ {v : V} {d : PyData} {u : Value}, Dat H v d → RelV v u → d.showable = true → d.shown.length ≤ sizeLine → ∃ bs, ReadAtMost h d.depth bs ∧ ReprK P w bs h d.depth u d.shown
  | _, _, _, .non, r, _, _ => by cases (show _ = Value.none from r); exact ⟨[], (fun _ h => nomatch h), by simp only [PyData.shown]; exact .of_is ReprIs.none _ _ _⟩
  | _, _, _, .bl b, r, _, _ => by cases (show _ = Value.bool b from r); exact ⟨[], (fun _ h => nomatch h), by simp only [PyData.shown]; exact .of_is (ReprIs.bool b) _ _ _⟩
  | _, _, _, .int i, r, hs, _ => by obtain ⟨t, rfl⟩ := r; exact ⟨[], (fun _ h => nomatch h), by simp only [PyData.shown]; exact .of_is (ReprIs.int t (by simpa [PyData.showable] using hs)) _ _ _⟩
  | _, _, _, .str x, r, _, hz => by obtain ⟨t, rfl⟩ := r; exact ⟨[], (fun _ h => nomatch h), by simp only [PyData.shown]; exact .of_is (ReprIs.str x t (by simpa only [PyData.shown] using hz)) _ _ _⟩
  | _, _, _, .lst (a := a) (xs := xs) (ds := ds) e hh, r, hs, hz => by
    obtain ⟨as, R0⟩ := reads_of_dat ok (Dat.lst e hh) r
    cases (show _ = Value.ref a from r)
    obtain ⟨_, its, n, rv, e1⟩ := (show ObjOk P w H h a (.lst _) from ok a _ e)
    have hz' : (listText (PyData.shownAll ds)).length ≤ sizeLine := by simpa only [PyData.shown] using hz
    obtain ⟨bs, hb, hk⟩ := reprAllK_of_dat ok hh rv (by simpa [PyData.showable] using hs) (fun t ht => Nat.le_trans (listText_mem_le ht) hz')
    have hna : a ∉ bs := not_mem_of_deeper R0 (by simp only [PyData.depth]; omega) hb
    refine ⟨a :: bs, ReadAtMost.cons R0 (by simp only [PyData.depth]; omega) hb, ?_⟩
    simp only [PyData.depth, PyData.shown]
    cases its with
    | nil =>
      cases rv
      cases hh
      simp only [PyData.shownAll, listText_nil]
      exact ReprK.listEmpty e1 rfl rfl
    | cons x l => exact ReprK.list e1 rfl rfl hna (by simpa using hk.length_eq) (fun i y e => hk.item i y (by simpa using e))
  | _, _, _, .tup (a := a) (xs := xs) (ds := ds) e hh, r, hs, hz => by
    obtain ⟨as, R0⟩ := reads_of_dat ok (Dat.tup e hh) r
    cases (show _ = Value.ref a from r)
    obtain ⟨_, its, rv, o, e1, e2, n, e3⟩ := (show ObjOk P w H h a (.tup _) from ok a _ e)
    have hz' : (tupleText (PyData.shownAll ds)).length ≤ sizeLine := by simpa only [PyData.shown] using hz
    obtain ⟨bs, hb, hk⟩ := reprAllK_of_dat ok hh rv (by simpa [PyData.showable] using hs) (fun t ht => Nat.le_trans (tupleText_mem_le ht) hz')
    have hna : a ∉ bs := not_mem_of_deeper R0 (by simp only [PyData.depth]; omega) hb
    refine ⟨a :: bs, ReadAtMost.cons R0 (by simp only [PyData.depth]; omega) hb, ?_⟩
    simp only [PyData.depth, PyData.shown]
    exact ReprK.tuple e1 e2 e3 hna (by simpa using hk)
  | _, _, _, .dct (a := a) (kvs := kvs) (ds := ds) e hh, r, hs, hz => by
    obtain ⟨as, R0⟩ := reads_of_dat ok (Dat.dct e hh) r
    cases (show _ = Value.ref a from r)
    obtain ⟨_, hsys, vs, rv, o, es, ep, e1, e2, e3, e4, e5, e6⟩ := (show ObjOk P w H h a (.dK _) from ok a _ e)
    have hz' : (dictText (PyData.shownKv ds)).length ≤ sizeLine := by simpa only [PyData.shown] using hz
    obtain ⟨hs1, hs2⟩ := PyData.showableKv_split ds (by simpa [PyData.showable] using hs)
    have k1 : ReprAllK P w [] h (PyData.depthKv ds) (es.toList.map (·.key)) (PyData.shownAll (ds.map (·.1))) := reprKeys_of hh rv e5 hs1 (fun t ht => let ⟨p, hp, hl⟩ := PyData.shownKv_key_le ds t ht; Nat.le_trans hl (Nat.le_trans (dictText_mem_le hp) hz'))
    obtain ⟨b2, hb2, k2⟩ := reprVals_of_dat ok hh rv e5 hs2 (fun t ht => let ⟨p, hp, hl⟩ := PyData.shownKv_val_le ds t ht; Nat.le_trans hl (Nat.le_trans (dictText_mem_le hp) hz'))
    have hb : ReadAtMost h (PyData.depthKv ds) b2 := hb2.mono (PyData.depthAll_vals_le ds)
    have hna : a ∉ b2 := not_mem_of_deeper R0 (by simp only [PyData.depth]; omega) hb
    refine ⟨a :: b2, ReadAtMost.cons R0 (by simp only [PyData.depth]; omega) hb, ?_⟩
    simp only [PyData.depth, PyData.shown, PyData.shownKv_eq]
    exact ReprK.dict e1 e2.1 e3 hsys hna (ReprEntriesK.of_two es.toList _ _
      (k1.more_le (fun b hb => absurd hb (by simp)) (Nat.le_refl _)) (k2.more_le (fun b hb => hb) (PyData.depthAll_vals_le ds)))
theorem reprAllK_of_dat (ok : HOk P w H h) : ∀ {vs : List V} {ds : List PyData} {us : List Value}, DatAll H vs ds → Vals vs us → PyData.showableAll ds = true → (∀ t ∈ PyData.shownAll ds, t.length ≤ sizeLine) →
    ∃ bs, ReadAtMost h (PyData.depthAll ds) bs ∧ ReprAllK P w bs h (PyData.depthAll ds) us (PyData.shownAll ds)
  | _, _, _, .nil, .nil, _, _ => ⟨[], (fun _ h => nomatch h), by simp only [PyData.shownAll]; exact .nil⟩
  | _, _, _, .cons (d := d) (ds := ds) a t, .cons r q, hs, hz => by
    have hs' : d.showable = true ∧ PyData.showableAll ds = true := by simpa [PyData.showableAll] using hs
    obtain ⟨b1, hb1, k1⟩ := reprK_of_dat ok a r hs'.1 (hz _ (by simp only [PyData.shownAll]; exact List.mem_cons_self ..))
    obtain ⟨b2, hb2, k2⟩ := reprAllK_of_dat ok t q hs'.2 (fun t ht => hz t (by simp only [PyData.shownAll]; exact List.mem_cons_of_mem _ ht))
    refine ⟨b1 ++ b2, ?_, ?_⟩
    · simp only [PyData.depthAll]
      exact (hb1.mono (Nat.le_max_left _ _)).append (hb2.mono (Nat.le_max_right _ _))
    · simp only [PyData.depthAll, PyData.shownAll]
      exact .cons ((k1.more fun b hb => List.mem_append_left _ hb).level_le (Nat.le_max_left _ _)) (k2.more_le (fun b hb => List.mem_append_right _ hb) (Nat.le_max_right _ _))
theorem reprVals_of_dat (ok : HOk P w H h) : ∀ {kvs : List (Key × V)} {ds : List (PyData × PyData)} {vs : List (Key × Value)} {es : List DictEntry}, DatKv H kvs ds → KV kvs vs → Pairs (mixKind P w) es vs → PyData.showableAll (ds.map (·.2)) = true → (∀ t ∈ PyData.shownAll (ds.map (·.2)), t.length ≤ sizeLine) →
    ∃ bs, ReadAtMost h (PyData.depthAll (ds.map (·.2))) bs ∧ ReprAllK P w bs h (PyData.depthAll (ds.map (·.2))) (es.map (·.val)) (PyData.shownAll (ds.map (·.2)))
  | _, _, _, _, .nil, .nil, .nil, _, _ => ⟨[], (fun _ h => nomatch h), by simp only [List.map_nil, PyData.shownAll]; exact .nil⟩
  | _, _, _, _, .cons (d := d) (ds := ds) a t, .cons r q, .cons k1 e1 p, hs, hz => by
    obtain ⟨rk, rv⟩ := r
    have hs' : d.showable = true ∧ PyData.showableAll (ds.map (·.2)) = true := by simpa [PyData.showableAll] using hs
    obtain ⟨b1, hb1, k1⟩ := reprK_of_dat ok a rv hs'.1 (hz _ (by simp only [List.map_cons, PyData.shownAll]; exact List.mem_cons_self ..))
    obtain ⟨b2, hb2, k2⟩ := reprVals_of_dat ok t q p hs'.2 (fun t ht => hz t (by simp only [List.map_cons, PyData.shownAll]; exact List.mem_cons_of_mem _ ht))
    refine ⟨b1 ++ b2, ?_, ?_⟩
    · simp only [List.map_cons, PyData.depthAll]
      exact (hb1.mono (Nat.le_max_left _ _)).append (hb2.mono (Nat.le_max_right _ _))
    · simp only [List.map_cons, PyData.depthAll, PyData.shownAll]
      rw [e1]
      exact .cons ((k1.more fun b hb => List.mem_append_left _ hb).level_le (Nat.le_max_left _ _)) (k2.more_le (fun b hb => List.mem_append_right _ hb) (Nat.le_max_right _ _))
end
end
section
variable {X : Cx}
def rRepr : List V → Hp → VK → Prop := fun xs H Q => ∃ v d, xs = [v] ∧ Dat H v d ∧ d.showable = true ∧ d.depth ≤ 50 ∧ d.shown.length ≤ sizeLine ∧ Q (.str d.shown) H
theorem call_reprD (hg : X.A.guards = some []) (hu : X.A.units + 64 < cLine) : CallR X (.builtin "repr") rRepr := by
  intro pins s σ H xs us Q I r h
  obtain ⟨v, d, rfl, D, hs, hd, hz, q⟩ := h
  obtain ⟨u, rfl, ru⟩ := vals1 r
  have fin : ∀ (h' : Heap) (tk tk' : Tok), (∀ b o, s.heap.get? b = some o → h'.get? b = some o) → EP X pins σ Q (.str d.shown tk') { s with heap := h', toks := tk } := fun h' tk tk' k => ⟨.str d.shown, H, I.kept (t' := tk) k, ⟨_, rfl⟩, q⟩
  have nl : ∀ {b : Addr}, Clear ([] : List Code) b := fun {b} => Clear.nil b
  cases D with
  | non =>
    cases (show _ = Value.none from ru)
    simp only [PyData.shown] at fin
    exact PySem.P.repr_of_none (fin s.heap _ _ fun _ _ e => e)
  | bl b =>
    cases (show _ = Value.bool b from ru)
    simp only [PyData.shown] at fin
    exact PySem.P.repr_of_bool (fin s.heap _ _ fun _ _ e => e)
  | int i =>
    obtain ⟨t, rfl⟩ := ru
    simp only [PyData.shown] at fin
    exact PySem.P.repr_of_int (by simpa [PyData.showable] using hs) (fin s.heap _ _ fun _ _ e => e)
  | str x =>
    obtain ⟨t, rfl⟩ := ru
    simp only [PyData.shown] at fin
    exact PySem.P.repr_of_str (fin s.heap _ _ fun _ _ e => e) (by simpa only [PyData.shown] using hz)
  | @lst a xs ds e hh =>
    obtain ⟨as, R0⟩ := reads_of_dat I.hok (Dat.lst e hh) ru
    cases (show _ = Value.ref a from ru)
    obtain ⟨_, its, n, rv, e1⟩ := (show ObjOk X.prog X.w H s.heap a (.lst _) from I.hok a _ e)
    have hz' : (listText (PyData.shownAll ds)).length ≤ sizeLine := by simpa only [PyData.shown] using hz
    obtain ⟨bs, hb, hk⟩ := reprAllK_of_dat I.hok hh rv (by simpa [PyData.showable] using hs) (fun t ht => Nat.le_trans (listText_mem_le ht) hz')
    have hna : a ∉ bs := not_mem_of_deeper R0 (by simp only [PyData.depth]; omega) hb
    simp only [PyData.shown] at fin
    simp only [PyData.depth] at hd
    refine call_repr_slot (by omega) ⟨_, e1, rfl⟩ F.slot_list_repr.toG ?_
    cases its with
    | nil =>
      cases rv
      cases hh
      simp only [PyData.shownAll, listText_nil] at fin
      exact call_list_repr_empty ⟨_, e1, rfl⟩ e1 rfl ⟨_, _, rfl, fin s.heap _ _ fun _ _ e => e⟩
    | cons x l =>
      exact call_list_reprK (h₀ := s.heap) e1 rfl rfl hna (by simpa using hk.length_eq) (fun i y e => hk.item i y (by simpa using e)) hg (fun b _ => Clear.nil b) (by show X.A.units + 1 + _ < cLine; omega) (fun _ _ e => e) (fun h' u tk k => ⟨_, _, rfl, fin h' tk u k⟩) hz'
  | @tup a xs ds e hh =>
    obtain ⟨as, R0⟩ := reads_of_dat I.hok (Dat.tup e hh) ru
    cases (show _ = Value.ref a from ru)
    obtain ⟨_, its, rv, o, e1, e2, n, e3⟩ := (show ObjOk X.prog X.w H s.heap a (.tup _) from I.hok a _ e)
    have hz' : (tupleText (PyData.shownAll ds)).length ≤ sizeLine := by simpa only [PyData.shown] using hz
    obtain ⟨bs, hb, hk⟩ := reprAllK_of_dat I.hok hh rv (by simpa [PyData.showable] using hs) (fun t ht => Nat.le_trans (tupleText_mem_le ht) hz')
    have hna : a ∉ bs := not_mem_of_deeper R0 (by simp only [PyData.depth]; omega) hb
    simp only [PyData.shown] at fin
    simp only [PyData.depth] at hd
    refine call_repr_slot (by omega) ⟨_, e1, e2⟩ F.slot_tuple_repr ?_
    exact call_tuple_reprK (h₀ := s.heap) e1 e2 e3 hna (by simpa using hk) hg (fun b _ => Clear.nil b) (by show X.A.units + 1 + _ < cLine; omega) (fun _ _ e => e) (fun h' u tk k => ⟨_, _, rfl, fin h' tk u k⟩) hz'
  | @dct a kvs ds e hh =>
    obtain ⟨as, R0⟩ := reads_of_dat I.hok (Dat.dct e hh) ru
    cases (show _ = Value.ref a from ru)
    obtain ⟨_, hsys, vs, rv, o, es, ep, e1, e2, e3, e4, e5, e6⟩ := (show ObjOk X.prog X.w H s.heap a (.dK _) from I.hok a _ e)
    have hz' : (dictText (PyData.shownKv ds)).length ≤ sizeLine := by simpa only [PyData.shown] using hz
    obtain ⟨hs1, hs2⟩ := PyData.showableKv_split ds (by simpa [PyData.showable] using hs)
    have k1 : ReprAllK X.prog X.w [] s.heap (PyData.depthKv ds) (es.toList.map (·.key)) (PyData.shownAll (ds.map (·.1))) := reprKeys_of hh rv e5 hs1 (fun t ht => let ⟨p, hp, hl⟩ := PyData.shownKv_key_le ds t ht; Nat.le_trans hl (Nat.le_trans (dictText_mem_le hp) hz'))
    obtain ⟨b2, hb2, k2⟩ := reprVals_of_dat I.hok hh rv e5 hs2 (fun t ht => let ⟨p, hp, hl⟩ := PyData.shownKv_val_le ds t ht; Nat.le_trans hl (Nat.le_trans (dictText_mem_le hp) hz'))
    have hb : ReadAtMost s.heap (PyData.depthKv ds) b2 := hb2.mono (PyData.depthAll_vals_le ds)
    have hna : a ∉ b2 := not_mem_of_deeper R0 (by simp only [PyData.depth]; omega) hb
    simp only [PyData.shown, PyData.shownKv_eq] at fin
    simp only [PyData.depth] at hd
    refine call_repr_slot (by omega) ⟨_, e1, e2.1⟩ F.slot_dict_repr ?_
    exact call_dict_reprK (h₀ := s.heap) e1 e2.1 e3 hsys hna (ReprEntriesK.of_two es.toList _ _ (k1.more_le (fun b hb => absurd hb (by simp)) (Nat.le_refl _)) (k2.more_le (fun b hb => hb) (PyData.depthAll_vals_le ds)))
      hg (fun b _ => Clear.nil b) (by show X.A.units + 1 + _ < cLine; omega) (fun _ _ e => e) (fun h' u tk k => ⟨_, _, rfl, fin h' tk u k⟩) (by rw [← PyData.shownKv_eq]; exact hz')
end
end L2

set_option Elab.async false
set_option linter.all false
set_option maxRecDepth 100000
set_option maxHeartbeats 4000000
namespace L2
open PySem PySem.Spec PyProof.Rows
/-- what isinstance and the field's reading ask of an error class -/
def errB (K : PySem.W.Frag) (fI C : Addr) : Bool :=
  decide (PySem.W.findIn K (.ref C) "__setattr__" = some (some (.builtin "object.__setattr__"))) && (decide (PySem.W.findIn K (.ref C) "__getattribute__" = some (some (.builtin "BaseException.__getattribute__"))) &&
  (decide (PySem.W.findIn K (.ref C) "__getattr__" = some none) && (decide (PySem.W.findIn K (.ref C) "value" = some none) && (decide (PySem.W.findIn K (.ref C) "__init__" = some (some (.ref fI))) &&
  (decide (PySem.W.subIn K (.ref C) (.type "BaseException") = some true) && (decide (PySem.W.typeIn K (.ref C) = some (.type "type")) && (PySem.W.keepIn K (.ref C) && (PySem.W.hasDictIn K C &&
  (decide (PySem.W.findIn K (.ref C) "__class__" = some (some (.builtin "object.__class__"))) && decide (PySem.W.mroIn K C (.type "object") = some true))))))))))
structure ErrC (K : PySem.W.Frag) (fI C : Addr) : Prop where
  o : OexC K C
  ga : PySem.W.findIn K (.ref C) "__getattribute__" = some (some (.builtin "BaseException.__getattribute__"))
  gg : PySem.W.findIn K (.ref C) "__getattr__" = some none
  no : PySem.W.findIn K (.ref C) "value" = some none
  iC : PySem.W.findIn K (.ref C) "__init__" = some (some (.ref fI))
  hd : PySem.W.hasDictIn K C = true
  cl : PySem.W.findIn K (.ref C) "__class__" = some (some (.builtin "object.__class__"))
  mo : PySem.W.mroIn K C (.type "object") = some true
theorem errB_ok {K : PySem.W.Frag} {fI C : Addr} (h : errB K fI C = true) (cls : ∃ nm q N bs bm sn sub ab col dd k0 k1 k2 k3 k5, K.lookup C = some (excClassObj nm q C N bs bm true sn sub ab col dd k0 k1 k2 k3 k5 "ValueError.__new__") ∧ PySem.HandSPX.refsVE bm = true) : ErrC K fI C := by
  obtain ⟨h1, h⟩ := Bool.and_eq_true_iff.mp h
  obtain ⟨h2, h⟩ := Bool.and_eq_true_iff.mp h
  obtain ⟨h3, h⟩ := Bool.and_eq_true_iff.mp h
  obtain ⟨h4, h⟩ := Bool.and_eq_true_iff.mp h
  obtain ⟨h5, h⟩ := Bool.and_eq_true_iff.mp h
  obtain ⟨h6, h⟩ := Bool.and_eq_true_iff.mp h
  obtain ⟨h7, h⟩ := Bool.and_eq_true_iff.mp h
  obtain ⟨h8, h⟩ := Bool.and_eq_true_iff.mp h
  obtain ⟨h9, h⟩ := Bool.and_eq_true_iff.mp h
  obtain ⟨h10, h11⟩ := Bool.and_eq_true_iff.mp h
  exact ⟨⟨cls, of_decide_eq_true h1, of_decide_eq_true h6, of_decide_eq_true h7, h8⟩, of_decide_eq_true h2, of_decide_eq_true h3, of_decide_eq_true h4, of_decide_eq_true h5, h9, of_decide_eq_true h10, of_decide_eq_true h11⟩
/-- an error of the class at C that keeps v stands at e, its own dict at d -/
def Err (H : Hp) (e d C : Addr) (v : V) : Prop := H e = some (exo e C (some d)) ∧ H d = some (exd d [(("value" : Str), v)])
theorem Err.same {H H' : Hp} {e d C : Addr} {v : V} (h : Err H e d C v) (S : Same H H') : Err H' e d C v := ⟨S _ _ h.1, S _ _ h.2⟩
/-- the promise of SightError.__init__ -/
def spInit (K : PySem.W.Frag) : Sp := fun vs H Q _ => ∃ (a C : Addr) (v : V), vs = [.ref a, v] ∧ OexC K C ∧ PySem.W.findIn K (.ref C) "value" = some none ∧ H a = some (exo a C none) ∧
  ∀ d, H d = none → d ≠ a → Q .non (upd (upd H d (exd d [(("value" : Str), v)])) a (exo a C (some d)))
/-- C(e), C(value=e): a new error -/
def tMkE (C : Addr) (te : TE) : TE := fun σ H Q => te σ H fun v H1 => ∀ (a d : Addr) (H2 : Hp), H1 a = none → H1 d = none → d ≠ a → Err H2 a d C v → Same H1 H2 → Q (.ref a) H2
theorem err_made {H1 : Hp} {a d C : Addr} {v : V} (na : H1 a = none) (hd : upd H1 a (exo a C none) d = none) (ne : d ≠ a) : H1 d = none ∧ Err (upd (upd (upd H1 a (exo a C none)) d (exd d [(("value" : Str), v)])) a (exo a C (some d))) a d C v ∧ Same H1 (upd (upd (upd H1 a (exo a C none)) d (exd d [(("value" : Str), v)])) a (exo a C (some d))) := by
  rw [upd_ne ne] at hd
  refine ⟨hd, ⟨upd_same, by rw [upd_ne ne, upd_same]⟩, fun b o e => ?_⟩
  rw [upd_ne (ne_of_none e na), upd_ne (ne_of_none e hd), upd_ne (ne_of_none e na)]
  exact e
section
variable {X : Cx} {fI C : Addr} {k : Nat} {fd : FuncData} {x : Str} {e : Expr} {te : TE} {p pos kp : Pos}
theorem run_err {pins : List (Addr × Obj)} {σ : St} {H1 : Hp} {Q : VK} {hp : Heap} {g : Array GenState} {d : Drawn} {t : Nat} {os : OsState} {v : V} {u : Value} {args : Args} {us : List Value} {kw : List (Str × Value)} (T : ErrC X.K fI C)
    (F1 : FnOk X.prog X.w X.K X.mg X.base CX0 k fI fd ["self", "value"] (spInit X.K)) (hr : Room (k + 1) X.A) (I1 : Inv X pins σ H1 ⟨hp, g, d, t, os⟩) (rv : RelV v u) {tp : Obj}
    (hb : ∀ s : Shared, BindsTo s fd ⟨.ref (hp.objs.size + 1) :: us, kw⟩ ((["self", "value"] : List Str).zip [Value.ref (hp.objs.size + 1), u]))
    (q : ∀ (a d : Addr) (H2 : Hp), H1 a = none → H1 d = none → d ≠ a → Err H2 a d C v → Same H1 H2 → Q (.ref a) H2) :
    codeAny (model X.prog X.w) (X.A.under (.builtin "type.__call__" ⟨.ref C :: us, kw⟩)) (.call (.ref fI) ⟨.ref (hp.objs.size + 1) :: us, kw⟩) (PySem.W.InitBack (hp.objs.size + 1) fun r s' => ∃ u, r = .ok (.ret u) ∧ EP X pins σ Q u s')
      ⟨(hp.push tp).push (PySem.HandSPX.excO C hp.objs.size), g, d, t, os⟩ := by
  have hsz : hp.objs.size ≤ hp.objs.size + 1 := Nat.le_succ _
  have hn : H1 (hp.objs.size + 1) = none := I1.hok.fresh hsz
  have kk : ∀ b o, hp.get? b = some o → ((hp.push tp).push (PySem.HandSPX.excO C hp.objs.size)).get? b = some o := fun b o e => Heap.get?_push_of_some _ (Heap.get?_push_of_some _ e)
  have hget : ((hp.push tp).push (PySem.HandSPX.excO C hp.objs.size)).get? (hp.objs.size + 1) = some (PySem.HandSPX.excO C hp.objs.size) := by heap_get
  have I2 : Inv X pins σ (upd H1 (hp.objs.size + 1) (exo (hp.objs.size + 1) C none)) ⟨(hp.push tp).push (PySem.HandSPX.excO C hp.objs.size), g, d, t, os⟩ :=
    I1.laid (t' := t) (a := hp.objs.size + 1) (o := exo (hp.objs.size + 1) C none) (h' := (hp.push tp).push (PySem.HandSPX.excO C hp.objs.size)) kk hsz (exo_ok hget)
  have r2 : Vals [V.ref (hp.objs.size + 1), v] [Value.ref (hp.objs.size + 1), u] := .cons rfl (.cons rv .nil)
  have hq : spInit X.K [V.ref (hp.objs.size + 1), v] (upd H1 (hp.objs.size + 1) (exo (hp.objs.size + 1) C none)) (fun y H2 => y = .non ∧ Q (.ref (hp.objs.size + 1)) H2) E0 :=
    ⟨_, C, v, rfl, T.o, T.no, upd_same, fun d hd ne => ⟨rfl, let ⟨z1, z2, z3⟩ := err_made hn hd ne; q _ d _ hn z1 ne z2 z3⟩⟩
  refine codeAny_mono (F1.run _ X.stack _ _ _ [Value.ref (hp.objs.size + 1), u] _ _ E0 (hr.make C us kw) (I2.env0.make C us kw) (hb _) r2 hq) fun r s' hq' => ?_
  cases r with
  | error er => exact False.elim hq'
  | ok fl =>
    cases fl with
    | ret y =>
      obtain ⟨w, H', I3, rw', ew, q3⟩ := I2.after hq'
      subst ew
      exact ⟨rw', _, rfl, V.ref (hp.objs.size + 1), H', I3, rfl, q3⟩
    | next => exact False.elim hq'
    | brk => exact False.elim hq'
    | cont => exact False.elim hq'
theorem pe_err (T : ErrC X.K fI C) (tI : PySem.W.typeIn X.K (.ref fI) = some (.type "function")) (F1 : FnOk X.prog X.w X.K X.mg X.base CX0 k fI fd ["self", "value"] (spInit X.K)) (hr : Room (k + 1) X.A)
    (hb : ∀ (s : Shared) (a u : Value), BindsTo s fd ⟨[a, u], []⟩ ((["self", "value"] : List Str).zip [a, u])) (hg : Gl X x) (hm : X.mg x = some (.ref C)) (he : PE X e te)
    (hdb : (x == ("__debug__" : Str)) = false := by decide) (hs : starEach [e] X.env = (false, eval e X.env) :: starEach [] X.env := by rfl) : PE X (.Call (.Name x p) [e] [] pos) (tMkE C te) := by
  refine ⟨fun pins s σ H Q I h => ?_⟩
  obtain ⟨nm, q, N, bs, bm, sn, sub, ab, col, dd, k0, k1, k2, k3, k5, hC, hbm⟩ := T.o.cls
  refine wpAny_Call_Name_kw (ld_glob I hg hm ?_ hdb)
  refine PySem.W.callWith_K (h₀ := X.base) I.ok.mod.kin T.o.kC ?_ hs (by rfl)
  rw [hs]
  show wpAny _ _ (spliced ((false, eval e X.env) :: backTo pos (starEach [] X.env))) _ _ s
  refine Calls.spliced_cons (thn (he.run pins s σ H _ I h) fun u s1 ⟨v, H1, I1, r1, q1⟩ => ?_)
  refine Calls.spliced_nil ⟨I1.kIn, ?_⟩
  show wpAny _ _ (call (.ref C) [u]) _ _ _
  obtain ⟨hp, g, dr, tk, os⟩ := s1
  refine wpAny_call (codeAny_mono (PySem.HandSPX.call_own F.excBase_ValueError (fun Y => PySem.HandSPX.refsVE_contains Y bm hbm) (I1.kIn _ _ hC) (PySem.W.looks_findIn I1.kIn T.iC) (fun self => PySem.W.bind_fn I1.kIn self tI) (by show 1 ≤ sizeLine; rw [sizeLine_eq]; omega)
    (run_err (kw := []) (us := [u]) (args := ⟨[], []⟩) T F1 hr I1 r1 (fun s => hb s _ u) q1)) fun r s' hq => ?_)
  obtain ⟨y, rfl, ep⟩ := hq
  exact ep
theorem pe_errK (T : ErrC X.K fI C) (tI : PySem.W.typeIn X.K (.ref fI) = some (.type "function")) (F1 : FnOk X.prog X.w X.K X.mg X.base CX0 k fI fd ["self", "value"] (spInit X.K)) (hr : Room (k + 1) X.A)
    (hb : ∀ (s : Shared) (a u : Value), BindsTo s fd ⟨[a], [("value", u)]⟩ ((["self", "value"] : List Str).zip [a, u])) (hg : Gl X x) (hm : X.mg x = some (.ref C)) (he : PE X e te)
    (hdb : (x == ("__debug__" : Str)) = false := by decide) (hall : (backToKw pos (keywordEach [⟨some "value", e, kp⟩] X.env)).all (·.1.isSome) = true := by rfl) (hks : (backToKw pos (keywordEach [⟨some "value", e, kp⟩] X.env)).filterMap (·.1) = [("value" : Str)] := by rfl)
    (hpl : ((backTo pos (starEach [] X.env)).any (·.1) || (backToKw pos (keywordEach [⟨some "value", e, kp⟩] X.env)).any (·.1.isNone)) = false := by rfl) : PE X (.Call (.Name x p) [] [⟨some "value", e, kp⟩] pos) (tMkE C te) := by
  refine ⟨fun pins s σ H Q I h => ?_⟩
  obtain ⟨nm, q, N, bs, bm, sn, sub, ab, col, dd, k0, k1, k2, k3, k5, hC, hbm⟩ := T.o.cls
  refine wpAny_Call_Name_kw (ld_glob I hg hm ?_ hdb)
  refine PySem.W.callWith_KW0 (h₀ := X.base) I.ok.mod.kin T.o.kC hall ?_ hpl
  refine thn ((pk_cons he pk_nil).run pos pins s σ H (fun vs H1 => ∃ v, vs = [v] ∧ ∀ (a d : Addr) (H2 : Hp), H1 a = none → H1 d = none → d ≠ a → Err H2 a d C v → Same H1 H2 → Q (.ref a) H2) I ?_) fun ws s2 ⟨zs, H2, I2, rz, q2⟩ => ?_
  · refine (?_ : te σ H _)
    have h' : te σ H (fun v H1 => ∀ (a d : Addr) (H2 : Hp), H1 a = none → H1 d = none → d ≠ a → Err H2 a d C v → Same H1 H2 → Q (.ref a) H2) := h
    have e : (fun (v : V) (H1 : Hp) => ∀ (a d : Addr) (H2 : Hp), H1 a = none → H1 d = none → d ≠ a → Err H2 a d C v → Same H1 H2 → Q (.ref a) H2) = (fun x H1 => tNil σ H1 fun xs H2 => ∃ v, x :: xs = [v] ∧ ∀ (a d : Addr) (H3 : Hp), H2 a = none → H2 d = none → d ≠ a → Err H3 a d C v → Same H2 H3 → Q (.ref a) H3) := by
      funext v H1
      refine propext ⟨fun z => ⟨v, rfl, z⟩, fun ⟨w, e, z⟩ => ?_⟩
      cases e
      exact z
    rw [e] at h'
    exact h'
  · obtain ⟨v, rfl, q1⟩ := q2
    obtain ⟨u, rfl, r1⟩ := vals1 rz
    refine ⟨I2.kIn, ?_⟩
    rw [hks]
    show wpAny _ _ (call (.ref C) [] [(("value" : Str), u)]) _ _ _
    obtain ⟨hp, g, dr, tk, os⟩ := s2
    refine wpAny_call (codeAny_mono (PySem.KwX.call_kw F.excBase_ValueError (fun Y => PySem.HandSPX.refsVE_contains Y bm hbm) (I2.kIn _ _ hC) (PySem.W.looks_findIn I2.kIn T.iC) (fun self => PySem.W.bind_fn I2.kIn self tI)
      (run_err (kw := [(("value" : Str), u)]) (us := []) (args := ⟨[], []⟩) T F1 hr I2 r1 (fun s => hb s _ u) q1)) fun r s' hq => ?_)
    obtain ⟨y, rfl, ep⟩ := hq
    exact ep
/-- e.value -/
def tErrV (K : PySem.W.Frag) (fI : Addr) (te : TE) : TE := fun σ H Q => te σ H fun x H1 => ∃ (a d C : Addr) (v : V), x = .ref a ∧ ErrC K fI C ∧ Err H1 a d C v ∧ Q v H1
theorem pe_errV (he : PE X e te) (hb : attributeBase e "value" X.env (eval e X.env) = eval e X.env := by rfl) : PE X (.Attribute e "value" pos) (tErrV X.K fI te) := by
  refine ⟨fun pins s σ H Q I h => ?_⟩
  refine attr_of hb (thn (he.run pins s σ H _ I h) fun u s1 hh => ?_)
  obtain ⟨x, H1, I1, rx, a, d, C, v, rfl, T, ⟨e1, e2⟩, q⟩ := hh
  obtain rfl : u = Value.ref a := rx
  obtain ⟨t1, ho⟩ := exo_at I1.hok e1
  obtain ⟨mA, hns, hr⟩ := exd_at I1.hok e2
  obtain ⟨od, hod, hl⟩ := lookIn_ns hns
  obtain ⟨w, hu, ru⟩ := RelO.some_of (v := v) (o := mA "value") (by have z := hr "value"; rw [lookup_put, if_pos rfl] at z; exact z)
  have J : PySem.W.InstAt s1.heap a { cls := .ref C, dict := some d, data := .fields #[.ref t1, .none, .none, .none, .bool false, .none] } C (some od) := ⟨ho, rfl, rfl, hod⟩
  exact HandSPX.exc_get I1.kIn J T.ga T.gg T.o.exC (PySem.W.findObj_own T.hd T.no rfl (by rw [hl, hu])) (handed_of ru) ⟨v, H1, I1.tok _, ru, q⟩
/-- isinstance(e, c) -/
def rIsErr (K : PySem.W.Frag) (fI : Addr) : List V → Hp → VK → Prop := fun xs H Q => ∃ (a d C : Addr) (v c : V) (cv : Value) (b : Bool), xs = [.ref a, c] ∧ ErrC K fI C ∧ Err H a d C v ∧ (∀ u, RelV c u → u = cv) ∧ PySem.W.kitOne K (.ref C) cv = some b ∧ Q (.bl b) H
theorem call_isErr (hn : PySem.W.specialIn X.K (.builtin "object.__class__") "__get__" = some (some (.builtin "getset_descriptor.__get__"))) (htk : PySem.W.takesIn X.K (.builtin "object.__class__") = some true) : CallR X (.builtin "isinstance") (rIsErr X.K fI) := by
  intro pins s σ H xs us Q I r h
  obtain ⟨a, d, C, v, c, cv, b, rfl, T, ⟨e1, e2⟩, hcv, e, q⟩ := h
  obtain ⟨u1, u2, rfl, r1, r2⟩ := vals2 r
  have ec := hcv _ r2
  subst ec
  cases (show u1 = Value.ref a from r1)
  obtain ⟨t1, ho⟩ := exo_at I.hok e1
  obtain ⟨mA, hns, hr⟩ := exd_at I.hok e2
  obtain ⟨od, hod, hl⟩ := lookIn_ns hns
  have J : PySem.W.InstAt s.heap a { cls := .ref C, dict := some d, data := .fields #[.ref t1, .none, .none, .none, .bool false, .none] } C (some od) := ⟨ho, rfl, rfl, hod⟩
  exact PySem.W.kia_one (PySem.W.kitx_exc (by obtain ⟨cd, hc, _⟩ := PySem.W.any_some T.hd; rw [hc]; rfl) T.ga T.gg T.o.exC T.cl hn htk T.mo) I.kIn J e (fun z => nomatch z) fun tk => ⟨.bl b, H, I.kept (t' := tk) fun _ _ z => z, rfl, q⟩
end
/-! ### defs that need to know the guards around (repr) -/
structure FnOkG (P : Program) (w : World) (K : PySem.W.Frag) (mg : Str → Option Value) (base : Heap) (k : Nat) (f : Addr) (fd : FuncData) (ps : List Str) (sp : Sp) : Prop where
  len : ∀ vs H Q E, sp vs H Q E → vs.length = ps.length
  run : ∀ (A : Around) (outer : List Env) (s : Shared) (H : Hp) (args : Args) (us : List Value) (vs : List V) (Q : VK) (E : XK), A.guards = some [] → Room k A → Env0 P w K mg base A outer s H → BindsTo s fd args (ps.zip us) → Vals vs us → sp vs H Q E →
    codeAny (model P w) A (.call (.ref f) args) (CR CX0 outer P w H s Q E) s
section
variable {P : Program} {w : World} {K : PySem.W.Frag} {mg : Str → Option Value} {base : Heap}
/-- one call of a def of the text, at one place: from its body's reading there -/
theorem run_once {x qual : Str} {st : Stmt} {f : Addr} {fd : FuncData} {N ps : List Str} (F : Fun K x qual st f fd) (S : FnScope N ps (defScope st)) {A : Around} {outer : List Env} {s : Shared} {H : Hp} {args : Args} {us : List Value} {vs : List V} {Q : VK} {E : XK}
    (hd : A.handled = none) (dp : A.depth < recursionLimit) (e0 : Env0 P w K mg base A outer s H) (hb : BindsTo s fd args (ps.zip us)) (r : Vals vs us) (hl : vs.length = ps.length)
    (body : ∀ cdv : Value, ∃ t, PSs (cxOf CX0 P w K mg base N qual (defScope st) f cdv A outer s H E).nox (defBody st) t ∧ t { nx := fun _ H' => Q .non H', rt := Q } (start N vs) H) :
    codeAny (model P w) A (.call (.ref f) args) (CR CX0 outer P w H s Q E) s := by
  obtain ⟨oc, od, kV, doc, pm, an, cdv, ct, osl, rfl, lk, hcd⟩ := F.ex
  have keep : ∀ b o, base.get? b = some o → s.heap.get? b = some o := fun b o e => (e0.bs b o e).1
  have KX : K.In s.heap := e0.mod.kin.keeps keep
  refine codeAny_call_function dp (KX _ _ lk) rfl S.co S.gen rfl (PySem.W.codeRec_of KX hcd) (hb _ _ _ _ ?_)
  refine wpAny_newFunctionEnv_cells S.kind (fun y hy => ?_) fun env he s1 z => ?_
  · rcases S.par y.1 (List.of_mem_zip hy).1 with q | q
    · exact .inl q
    · exact .inr ⟨q, PySem.W.cellsFrom_some _ _ _ (.inl q)⟩
  · subst he
    refine ⟨(e0.mod.nolimit.keeps keep).keeps z.toInCall.keep, codeAny_func ?_⟩
    obtain ⟨t, ht, hq⟩ := body cdv
    have I : Inv (cxOf CX0 P w K mg base N qual (defScope st) f cdv A outer s H E) [] (start N vs) H s1 := inv_start S hd e0 hl r z
    refine wpAny_mono (ht.nox.run [] s1 (start N vs) H _ I hq) (fun fl s' hs => ?_) fun e s' hs => hs
    cases fl with
    | ret u =>
      obtain ⟨v, _, H', J, rv, q⟩ := hs
      exact ⟨v, H', J.os, J.bare, J.base, J.hok, rv, q⟩
    | next =>
      obtain ⟨_, H', J, q⟩ := hs
      exact ⟨V.non, H', J.os, J.bare, J.base, J.hok, rfl, q⟩
    | brk => exact (hs.choose_spec.choose_spec.2 : False).elim
    | cont => exact (hs.choose_spec.choose_spec.2 : False).elim
theorem Fun.okG {x qual : Str} {st : Stmt} {f : Addr} {fd : FuncData} {N ps : List Str} {k : Nat} {sp : Sp} (F : Fun K x qual st f fd) (S : FnScope N ps (defScope st)) (len : ∀ vs H Q E, sp vs H Q E → vs.length = ps.length)
    (hbody : ∀ (cdv : Value) (A : Around) (outer : List Env) (s : Shared) (H : Hp) (vs : List V) (Q : VK) (E : XK), A.guards = some [] → Room k (A.deeper (envOfC qual (defScope st) s.heap.objs.size f cdv)) → sp vs H Q E →
      ∃ t, PSs (cxOf CX0 P w K mg base N qual (defScope st) f cdv A outer s H E).nox (defBody st) t ∧ t { nx := fun _ H' => Q .non H', rt := Q } (start N vs) H) : FnOkG P w K mg base (k + 1) f fd ps sp :=
  ⟨len, fun A outer s H args us vs Q E hg hr e0 hb r hsp => run_once F S hr.hd hr.depth e0 hb r (len _ _ _ _ hsp) fun cdv => hbody cdv A outer s H vs Q E hg (hr.deeper _) hsp⟩
end
section
variable {X : Cx} {k : Nat} {f : Addr} {fd : FuncData} {ps : List Str} {sp : Sp} {x : Str} {p pos : Pos} {e : Expr} {es : List Expr} {t : TA}
/-- f(e, ..), f a def that wants the guards known -/
theorem pe_callG (hG : X.A.guards = some []) (F : FnOkG X.prog X.w X.K X.mg X.base k f fd ps sp) (hr : Room k X.A) (hg : Gl X x) (hm : X.mg x = some (.ref f)) (hk : PySem.W.keepIn X.K (.ref f) = true) (hb : Binds X.K fd ps [])
    (ha : PA X (e :: es) t) (hdb : (x == ("__debug__" : Str)) = false := by decide) (he : starEach (e :: es) X.env = (false, eval e X.env) :: starEach es X.env := by rfl) (hpl : (backTo pos (starEach es X.env)).any (·.1) = false := by rfl) :
    PE X (.Call (.Name x p) (e :: es) [] pos) (tCall sp [] E0 t) := by
  refine ⟨fun pins s σ H Q I h => ?_⟩
  refine wpAny_Call_Name_kw (ld_glob I hg hm ?_ hdb)
  refine PySem.W.callWith_K (h₀ := X.base) I.ok.mod.kin hk (thn (ha.run pos pins s σ H _ I h) fun us s1 ⟨vs, H1, I1, r, q⟩ => ⟨I1.kIn, ?_⟩) he hpl
  have hl : (us ++ []).length = ps.length := by rw [List.append_nil, ← r.length, ← F.len _ _ _ _ q, List.append_nil]
  show wpAny _ _ (call (.ref f) us) _ _ _
  refine wpAny_call (codeAny_mono (F.run X.A X.stack s1 H1 ⟨us, []⟩ (us ++ []) (vs ++ []) Q E0 hG hr I1.env0 (hb s1 us I1.kIn hl) (r.append .nil) q) fun res s' hq => ?_)
  cases res with
  | error er => exact False.elim hq
  | ok fl =>
    cases fl with
    | ret u => exact I1.after hq
    | next => exact False.elim hq
    | brk => exact False.elim hq
    | cont => exact False.elim hq
end
/-! ### the end of a law row for such a def -/
theorem enter_law {P : Program} {w : World} {K : PySem.W.Frag} {mg mb : Str → Option Value} {k : Nat} {fa a : Addr} {fd : FuncData} {x : Str} {sp : Sp} {s1 : Shared} {us : List Value} {H : Hp}
    (F : ∀ base : Heap, K.In base → base.Ns mainGlobals mg → FnOkG P w K mg base k fa fd [x] sp) (hr : Room k callerA) (hbind : ∀ (s : Shared) (u : Value), BindsTo s fd ⟨[u], []⟩ [(x, u)])
    (KX : K.In s1.heap) (hns : s1.heap.Ns mainGlobals mg) (hb : s1.heap.Ns builtinsNs mb) (hbb : ∀ x : Str, x ≠ "__name__" → mb x = bootBuiltins x) (hlim : s1.heap.NoLimit) (hg : s1.gens = #[])
    (ha : s1.heap.get? a = some { cls := .type "list", data := .seq us.toArray }) (ok : HOk P w H s1.heap) (only : ∀ b o, H b = some o → b = a ∧ K.lookup a = none ∧ ∃ xs, o = .frz { cls := .type "list", data := .seq us.toArray } (.lst xs))
    (hsp : sp [.ref a] H (fun v _ => v = .bl true) E0) :
    codeAny (model P w) callerA (.call (.ref fa) ⟨[.ref a], []⟩) (fun r s' => r = .ok (.ret (.bool true)) ∧ OldK s1.heap s'.heap ∧ s'.os = s1.os ∧ AllBare s'.gens) s1 := by
  have free : ∀ {b : Addr} {o : Obj}, s1.heap.get? b = some o → (∀ z : Array Value, ∀ n, o.data ≠ .seq z n) → H b = none := fun {b o} e d => by
    cases q : H b with
    | none => rfl
    | some u =>
      obtain ⟨rfl, _⟩ := only b u q
      rw [ha] at e
      cases e
      exact (d _ _ rfl).elim
  have ns2 : ∀ {b : Addr} {m : Str → Option Value}, s1.heap.Ns b m → (hidT s1.heap H).Ns b m := fun {b m} n => by
    obtain ⟨o, es, ep, e, d, r⟩ := n
    exact ⟨o, es, ep, hidT_get e (free e (fun z n y => by rw [d] at y; cases y)), d, r⟩
  have kin : K.In (hidT s1.heap H) := fun b o e => hidT_get (KX b o e) (by
    cases q : H b with
    | none => rfl
    | some u =>
      obtain ⟨rfl, z, _⟩ := only b u q
      rw [z] at e
      cases e)
  have M : Mod K mg (hidT s1.heap H) := ⟨kin, ns2 hns, ⟨mb, ns2 hb, hbb⟩, by obtain ⟨mc, z1, z2⟩ := hlim; exact ⟨mc, ns2 z1, z2⟩⟩
  have e0 : Env0 P w K mg (hidT s1.heap H) callerA [] s1 H := ⟨rfl, M, fun b o e => of_hidT e, Nat.le_of_eq (hidT_size _ _), trivial, (fun b z => absurd (show b ∈ ([] : List Addr) from z) (by simp)), ok, .of_eq hg⟩
  refine codeAny_mono ((F _ kin (ns2 hns)).run callerA [] s1 H _ [.ref a] [.ref a] _ _ rfl hr e0 (hbind s1 (.ref a)) (.cons rfl .nil) hsp) fun r s' h => ?_
  cases r with
  | error e => exact False.elim h
  | ok fl =>
    cases fl with
    | next => exact False.elim h
    | brk => exact False.elim h
    | cont => exact False.elim h
    | ret u =>
      obtain ⟨v, H', os, bare, un, ok', rv, q⟩ := h
      subst q
      obtain rfl : u = Value.bool true := rv
      refine ⟨rfl, OldK.of_keep fun b o e => ?_, os, bare⟩
      cases q : H b with
      | none => exact un.keep b o e q (fun z => absurd (show b ∈ ([] : List Addr) from z) (by simp)) (by simp)
      | some y =>
        obtain ⟨rfl, _, xs, rfl⟩ := only b y q
        obtain ⟨e1, _⟩ := ok' b _ (un.frzs b _ _ q)
        rw [ha] at e
        cases e
        exact e1
theorem walk_ofG {l : PySem.W.OpenLaw} {n k : Nat} {q : Program} {loose : List Str} {XP : (Str → Option Value) → Heap → Prop} {YP : World → Heap → Prop} {d : DefRec} {K : Params → PySem.W.Frag} {sp : PySem.W.Frag → Sp} {x : Str}
    (hn : l.most = some n) (hn2 : n ≤ sizeLine) (hdf : d.params.defaults = []) (hr : Room k callerA) (hY : ∀ (w : World) (h : Heap), YP w h → (K w.params).In h)
    (F : ∀ (w : World) (mg : Str → Option Value) (fa : Addr) (h : Heap), (K w.params).In h → h.Ns mainGlobals mg → mg d.name = some (.ref fa) →
      ∃ fd : FuncData, (∀ (s : Shared) (u : Value), BindsTo s fd ⟨[u], []⟩ [(x, u)]) ∧ ∀ base : Heap, (K w.params).In base → base.Ns mainGlobals mg → FnOkG l.prog w (K w.params) mg base k fa fd [x] (sp (K w.params)))
    (hsp : ∀ (K : PySem.W.Frag) (H : Hp) (a : Addr) (ns : List Int), ns.length ≤ n → Only H → SqL K H a (ns.map V.int) → sp K [.ref a] H (fun v _ => v = .bl true) E0) :
    PySem.W.WalkO q loose XP YP l.row.toRowW d [] (fun f vs => PySem.call f vs) := by
  refine Att.attach_call hn hdf fun w s0 s1 mg mb fa o pm cd doc a us ns G Y ho hd hcd hmg hobj hints hlen hg => ?_
  have KX := hY w _ Y
  obtain ⟨fd, hb, hF⟩ := F w mg fa _ KX G.T.g hmg
  have rv := vals_ints hints
  have hz : (ns.map V.int).length ≤ sizeLine := by rw [List.length_map]; omega
  cases hk : (K w.params).lookup a with
  | some ob =>
    have e := KX a ob hk
    rw [hobj] at e
    cases e
    have S : SqL (K w.params) (fun _ => none) a (ns.map V.int) := .inr ⟨_, us.toArray, _, hk, rfl, rfl, rfl, by rw [List.size_toArray, ← rv.length]; exact hz, by simpa using rv⟩
    exact enter_law (H := fun _ => none) hF hr hb KX G.T.g G.T.b G.T.builtins G.T.nolimit hg hobj (fun b u z => by cases (show (none : Option HO) = some u from z)) (fun b u z => by cases (show (none : Option HO) = some u from z))
      (hsp _ _ a ns hlen (fun b => .inl rfl) S)
  | none =>
    refine enter_law (H := upd (fun _ => none) a (.frz { cls := .type "list", data := .seq us.toArray } (.lst (ns.map V.int)))) hF hr hb KX G.T.g G.T.b G.T.builtins G.T.nolimit hg hobj (fun b u z => ?_) (fun b u z => ?_)
      (hsp _ _ a ns hlen (fun b => ?_) (.inl (.inr ⟨_, upd_same⟩)))
    · by_cases e : b = a
      · subst e
        rw [upd_same] at z
        cases z
        exact ⟨hobj, hz, us, _, rv, hobj⟩
      · rw [upd_ne e] at z
        cases z
    · by_cases e : b = a
      · subst e
        rw [upd_same] at z
        cases z
        exact ⟨rfl, hk, _, rfl⟩
      · rw [upd_ne e] at z
        cases z
    · by_cases e : b = a
      · subst e
        exact .inr ⟨_, _, upd_same⟩
      · exact .inl (upd_ne e)
end L2

set_option Elab.async false
set_option linter.all false
set_option maxRecDepth 100000
set_option maxHeartbeats 4000000
/-! enumerate(t), t a tuple, as what a for walks -/
namespace L2
open PySem PySem.Spec PyProof.Rows
theorem meets_enum_new {v : Value} {o : Obj} {H : Heap → Prop} (B : Begins v o H) :
    Meets (Builtin.«enumerate.__new__» ⟨[.type "enumerate", v], []⟩) (fun _ R s => H s.heap ∧
      R (.ok (.ret (.ref (s.heap.push o).objs.size))) { s with heap := (s.heap.push o).push { cls := .type "enumerate", data := .fields #[.none, .bool false, .ref s.heap.objs.size, rawInt 0, .none, .none] } }) :=
  .of_wp fun prog w A R s h => by
    obtain ⟨hp, g, d, tk, os⟩ := s; obtain ⟨h1, h⟩ := h
    have hsub := sub_enumerate
    have q1 : ∀ {A' : Around} {E : Value → Shared → Prop} {Q : Value → Shared → Prop}, Q (.ref hp.objs.size) ⟨hp.push o, g, d, tk, os⟩ → wpAny (model prog w) A' (pyIter v) Q E ⟨hp, g, d, tk, os⟩ :=
      fun q => B.iter prog w _ _ ⟨hp, g, d, tk, os⟩ _ h1 q
    wp_walk using q1
    refine wpAny_stack_any fun st => wpAny_pure ?_
    split
    · rename_i c _ _ _ _ _
      cases (c == Value.type "enumerate")
      · wp_walk using q1
        exact ⟨_, rfl, h⟩
      · wp_walk using q1
        exact ⟨_, rfl, h⟩
    · wp_walk using q1
      exact ⟨_, rfl, h⟩
theorem enum_new {prog : Program} {w : World} {A : Around} {E : Value → Shared → Prop} {s : Shared} {v : Value} {o : Obj} {H : Heap → Prop} {Q : Value → Shared → Prop} (B : Begins v o H) (h1 : H s.heap)
    (h : ∀ h', IsEnum h' (s.heap.objs.size + 1) s.heap.objs.size 0 .none → h'.get? s.heap.objs.size = some o → h'.objs.size = s.heap.objs.size + 2 →
      (∀ b o, s.heap.get? b = some o → h'.get? b = some o) → Q (.ref (s.heap.objs.size + 1)) { s with heap := h' }) :
    wpAny (model prog w) A (call (.type "enumerate") [v]) Q E s := by
  refine callType_new F.called_enumerate (by decide) (F.typeCall_enumerate_1 _) (F.newCall_enumerate_1 _) (fun obj => F.args_object_init_2 obj _) F.entry_enumerate_new
    (meets_enum_new B) ⟨h1, ?_⟩
  have hz : (s.heap.push o).objs.size = s.heap.objs.size + 1 := Heap.size_push ..
  show _ ∧ _
  rw [hz]
  have he : IsEnum ((s.heap.push o).push { cls := .type "enumerate", data := .fields #[.none, .bool false, .ref s.heap.objs.size, rawInt 0, .none, .none] }) (s.heap.objs.size + 1) s.heap.objs.size 0 .none := by
    have := Heap.get?_push_size (s.heap.push o) (o := { cls := .type "enumerate", data := .fields #[.none, .bool false, .ref s.heap.objs.size, rawInt 0, .none, .none] }) rfl
    rw [hz] at this; exact this
  refine ⟨⟨_, he, rfl⟩, h _ he (Heap.get?_push_of_some _ (Heap.get?_push_size _ B.free)) (by rw [Heap.size_push, hz]) fun b o x => Heap.get?_push_of_some _ (Heap.get?_push_of_some _ x)⟩
/-- the tuple at a as it stands, item by item, with the index, in new pairs -/
def IteT (K : PySem.W.Frag) (a : Addr) : It :=
  ⟨fun i H => ∃ (xs : List V) (x : V), SqT K H a xs ∧ xs[i]? = some x, fun i H v H' => ∃ T x, v = .ref T ∧ H T = none ∧ H' = upd H T (.tup [.int (i : Nat), x]) ∧ ∀ xs, SqT K H a xs → xs[i]? = some x, fun i H => ∃ xs : List V, SqT K H a xs ∧ xs.length ≤ i⟩
theorem turn_enumT {P : Program} {w : World} {K : PySem.W.Frag} {elts : List Expr} {kk : Nat} {tpos : Pos} (a e it : Addr) (hea : e ≠ a) (hai : a ≠ it) (hne : e ≠ it) :
    Turn P w K (.Tuple elts kk tpos) (IteT K a) [e, it] e (fun i h => (∃ old, IsEnum h e it ((i : Nat) : Int) old) ∧ h.IsTupleIter it a i) where
  mem := by simp
  obj := fun i h st b hb => by
    obtain ⟨⟨old, he⟩, ⟨o, ho, hc, hd⟩⟩ := st
    have e' : b = e ∨ b = it := by simpa using hb
    rcases e' with z | z
    · rw [z]; exact ⟨_, he, fun v q => nomatch q⟩
    · rw [z]; exact ⟨o, ho, fun v q => by rw [hd] at q; cases q⟩
  keep := fun i h h' st k => let ⟨⟨old, he⟩, hi⟩ := st; ⟨⟨old, k e (by simp) _ he⟩, hi.at fun o q => k it (by simp) o q⟩
  item := by
    intro X hP hw hK hc i pins s σ H E I hf st hg
    subst hP hw hK
    obtain ⟨⟨old, he⟩, hit⟩ := st
    obtain ⟨xs, x, hq, hx⟩ := hg
    obtain ⟨its, rv, p, hz⟩ := I.tuple hq
    obtain ⟨u, hu, ru⟩ := rv.get hx
    have hel : e < s.heap.objs.size := Heap.lt_size he
    have hil : it < s.heap.objs.size := by obtain ⟨_, q, _⟩ := hit; exact Heap.lt_size q
    have D : Draws X.prog X.w X.A.in1 it [it, a] its.toArray.size (fun i v => its.toArray[i]? = some v) (fun i h => h.IsTupleIter it a i ∧ h.IsTuple a its.toArray) := Draws.tuple (A := X.A.in1) (I.ok.hd hc) it a hai _
    have il : i < its.toArray.size := by
      rw [List.size_toArray]
      exact (List.getElem?_eq_some_iff.mp hu).1
    refine wpAny_pyNext_enum_itemD D he ⟨hit, p⟩ il hne (by simp [hea, hne]) fun y h' tk hy ho hit' hT hsz hk => ?_
    have ey : y = u := by
      have h2 : its.toArray[i]? = some u := by simpa using hu
      rw [h2] at hy
      exact (Option.some.inj hy).symm
    subst ey
    refine ⟨_, rfl, wpAny_letOwnedTupleGo_enum (s := { s with heap := h', toks := tk + 1 }) ho fun h'' he' sb => ?_⟩
    have hT2 : h''.get? s.heap.objs.size = some { cls := .type "tuple", data := .seq #[.int i tk, y] } := (sb.2 _ (Nat.ne_of_gt hel)).trans hT
    have new : ObjOk X.prog X.w (upd H s.heap.objs.size (.tup [.int (i : Nat), x])) h'' s.heap.objs.size (.tup [.int (i : Nat), x]) :=
      ⟨by show 2 ≤ sizeLine; decide, [.int i tk, y], .cons ⟨_, rfl⟩ (.cons ru .nil), ⟨_, hT2, rfl, _, rfl⟩⟩
    have I1 : Inv X pins σ (upd H s.heap.objs.size (.tup [.int (i : Nat), x])) { s with heap := h'', toks := tk + 1 } :=
      I.turnedNew (ch := [e, it]) (fun b ob hb q => (sb.2 b (fun z => hb (by simp [z]))).trans (hk b ob (fun z => hb (by simp [z])) (fun z => hb (by simp [z])) q)) hf (Nat.le_refl _) new
    refine ⟨.ref s.heap.objs.size, _, I1, rfl, ⟨_, x, rfl, I.hok.fresh (Nat.le_refl _), rfl, fun ys hy => by rw [I.tuple_inj hy hq]; exact hx⟩, ⟨⟨y, ?_⟩, hit'.1.at fun o q => (sb.2 it (Ne.symm hne)).trans q⟩, fun b hb => ?_⟩
    · have e1 : ((i + 1 : Nat) : Int) = (i : Int) + 1 := by omega
      rw [e1]; exact he'
    · have hb' : b < s.heap.objs.size := by
        have e' : b = e ∨ b = it := by simpa using hb
        rcases e' with z | z
        · rw [z]; exact hel
        · rw [z]; exact hil
      rw [upd_ne (Nat.ne_of_lt hb')]
      exact (hf b hb).1
  done := by
    intro X hP hw hK hc i pins s σ H E I hf st hg
    subst hP hw hK
    obtain ⟨⟨old, he⟩, hit⟩ := st
    obtain ⟨xs, hq, hx⟩ := hg
    obtain ⟨its, rv, p, hz⟩ := I.tuple hq
    have hl := rv.length
    obtain ⟨f0, f1, f2, f3, f4, f5⟩ := hf it (by simp)
    have D : Draws X.prog X.w X.A.in1 it [it, a] 0 (fun _ _ => True) (fun _ h => h.IsTupleIter it a i ∧ h.IsTuple a its.toArray) := {
      live := fun _ _ st => let ⟨o, ho, _⟩ := st.1; ⟨o, ho⟩
      frame := fun _ _ _ st hk => ⟨st.1.at fun o e => hk it (by simp) o e, st.2.at fun o e => hk a (by simp) o e⟩
      item := fun j s Q E hj st hQ => absurd hj (Nat.not_lt_zero _)
      done := fun s Q E st hE => wpAny_nextOf_tuple_end (A := X.A.in1) (I.ok.hd hc) st.1 st.2 (by simp; omega) hE }
    exact wpAny_pyNext_enum_endD D he ⟨hit, p⟩ fun h' eb => ⟨rfl, I.turned (t' := s.toks) (fun b o hb q => eb b o hb q) f0 f1 f3 f4 f5⟩
  self := fun A i s Q E st h => let ⟨⟨_, he⟩, _⟩ := st; wpAny_pyIter_enum he h
def iEnumT (K : PySem.W.Frag) (ta : TA) : TI := fun σ H R => ta σ H fun vs H1 => ∃ a xs, vs = [.ref a] ∧ SqT K H1 a xs ∧ R (IteT K a) H1
theorem pi_enumT {X : Cx} {e : Expr} {ta : TA} {p pos tpos : Pos} {elts : List Expr} {kk : Nat} (hg : Gl X "enumerate") (hm : X.mg "enumerate" = none) (ha : PA X [e] ta) (hs : starEach [e] X.env = [(false, eval e X.env)] := by rfl) :
    PI X (.Tuple elts kk tpos) (.Call (.Name "enumerate" p) [e] [] pos) (iEnumT X.K ta) := by
  refine ⟨fun pins s σ H R I h => ?_⟩
  refine Call_ (ld_blt I hg hm boot_enumerate (PyProof.Rows.callWith_type1 (thn (ha.run pos pins s σ H _ I h) fun us s1 ⟨vs, H1, I1, r1, q1⟩ => ?_) hs rfl))
  obtain ⟨a, xs, ex, hq, q⟩ := q1
  subst ex
  cases r1 with
  | cons r rr =>
    cases rr
    cases r
    obtain ⟨its, rv, p', hz⟩ := I1.tuple hq
    have hal : a < s1.heap.objs.size := by
      obtain ⟨_, q, _⟩ := p'
      exact Heap.lt_size q
    refine enum_new (begins_tuple a its.toArray) p' fun h' he hit hsz hk => wpAny_pyIter_enum he ?_
    have I2 : Inv X pins σ H1 { s1 with heap := h' } := I1.kept (t' := s1.toks) hk
    refine ⟨s1.heap.objs.size + 1, [s1.heap.objs.size + 1, s1.heap.objs.size], _, _, H1, rfl, I2, turn_enumT a (s1.heap.objs.size + 1) s1.heap.objs.size (Nat.ne_of_gt (Nat.lt_succ_of_lt hal)) (Nat.ne_of_lt hal) (Nat.succ_ne_self _), ⟨⟨.none, he⟩, ⟨_, hit, rfl, rfl⟩⟩, fun b hb => ?_, q⟩
    have e' : b = s1.heap.objs.size + 1 ∨ b = s1.heap.objs.size := by simpa using hb
    have hle : s1.heap.objs.size ≤ b := by
      rcases e' with z | z
      · rw [z]; exact Nat.le_add_right _ _
      · rw [z]; exact Nat.le_refl _
    exact I1.fpOk hle (I1.hok.fresh hle)
/-- a comprehension over enumerate(tuple) -/
theorem lc_enumT {K : PySem.W.Frag} {a : Addr} {xs : List V} {g : TG} {tt : TT} {te : TE} {vs : List Nat} {σ : L2.St} {H1 : Hp} {D : Addr} {Qd : Hp → Prop} (Pv : Nat → Hp → Prop) (h0 : Pv 0 (upd H1 D (.lst []))) (hl : ∀ i H, i ≤ xs.length → Pv i H → SqT K H a xs)
    (hs : ∀ (i : Nat) (x : V) (H : Hp) (T : Addr), xs[i]? = some x → Pv i H → H T = none → g (.ref T) (wipe σ vs) (upd H T (.tup [.int (i : Nat), x])) fun σ2 H2 => wipe σ2 vs = wipe σ vs ∧ tt σ2 H2 fun b H3 =>
      if b = true then te σ2 H3 fun y H4 => ∃ acc, H4 D = some (.lst acc) ∧ acc.length < sizeLine ∧ Pv (i + 1) (upd H4 D (.lst (acc ++ [y]))) else Pv (i + 1) H3) (hd : ∀ H, Pv xs.length H → Qd H) :
    ∃ W : Nat → Nat → Hp → Prop, (∃ m, W 0 m (upd H1 D (.lst []))) ∧ ∀ i m H, W i m H →
      ((IteT K a).stop i H ∧ Qd H) ∨ ((IteT K a).go i H ∧ ∃ Nx : Hp → Prop, (∀ H', Nx H' → ∃ m', m' < m ∧ W (i + 1) m' H') ∧ ∀ x H', (IteT K a).yld i H x H' → g x (wipe σ vs) H' fun σ2 H2 => wipe σ2 vs = wipe σ vs ∧ tt σ2 H2 fun b H3 =>
        if b = true then te σ2 H3 fun y H4 => ∃ acc, H4 D = some (.lst acc) ∧ acc.length < sizeLine ∧ Nx (upd H4 D (.lst (acc ++ [y]))) else Nx H3) := by
  refine ⟨fun i m H => m = xs.length - i ∧ i ≤ xs.length ∧ Pv i H, ⟨xs.length, rfl, Nat.zero_le _, h0⟩, ?_⟩
  rintro i m H ⟨rfl, hi, p⟩
  have q := hl i H hi p
  by_cases hlt : i < xs.length
  · refine .inr ⟨⟨xs, xs[i], q, List.getElem?_eq_getElem hlt⟩, Pv (i + 1), fun H' p' => ⟨xs.length - (i + 1), by omega, rfl, hlt, p'⟩, ?_⟩
    rintro x H' ⟨T, y, rfl, hT, rfl, hy⟩
    exact hs i y H T (hy xs q) p hT
  · obtain rfl : i = xs.length := by omega
    exact .inl ⟨⟨xs, q, Nat.le_refl _⟩, hd H p⟩
/-- a for over enumerate(tuple) -/
theorem for_enumT {K : PySem.W.Frag} {a : Addr} {xs : List V} {g : TG} {tb : TS} {D : Ends} {σ : L2.St} {H : Hp} (Pv : Nat → L2.St → Hp → Prop) (h0 : Pv 0 σ H) (hl : ∀ i σ H, i ≤ xs.length → Pv i σ H → SqT K H a xs)
    (hs : ∀ (i : Nat) (x : V) (σ : L2.St) (H : Hp) (T : Addr), xs[i]? = some x → Pv i σ H → H T = none → g (.ref T) σ (upd H T (.tup [.int (i : Nat), x])) fun σ2 H2 => tb { D with nx := Pv (i + 1), ct := Pv (i + 1), bk := D.nx } σ2 H2) (hd : ∀ σ H, Pv xs.length σ H → D.nx σ H) :
    ∃ W : Nat → Nat → L2.St → Hp → Prop, (∃ m, W 0 m σ H) ∧ ∀ i m σ H, W i m σ H →
      ((IteT K a).stop i H ∧ D.nx σ H) ∨ ((IteT K a).go i H ∧ ∃ N : L2.St → Hp → Prop, (∀ σ' H', N σ' H' → ∃ m', m' < m ∧ W (i + 1) m' σ' H') ∧ ∀ x H', (IteT K a).yld i H x H' → g x σ H' fun σ2 H2 => tb { D with nx := N, ct := N, bk := D.nx } σ2 H2) := by
  refine ⟨fun i m σ H => m = xs.length - i ∧ i ≤ xs.length ∧ Pv i σ H, ⟨xs.length, by simp, Nat.zero_le _, h0⟩, ?_⟩
  rintro i m σ H ⟨rfl, hi, p⟩
  have q := hl i σ H hi p
  by_cases hlt : i < xs.length
  · refine .inr ⟨⟨xs, xs[i], q, List.getElem?_eq_getElem hlt⟩, Pv (i + 1), fun σ' H' p' => ⟨xs.length - (i + 1), by omega, rfl, hlt, p'⟩, ?_⟩
    rintro x H' ⟨T, y, rfl, hT, rfl, hy⟩
    exact hs i y σ H T (hy xs q) p hT
  · obtain rfl : i = xs.length := by omega
    exact .inl ⟨⟨xs, q, Nat.le_refl _⟩, hd σ H p⟩
end L2

set_option Elab.async false
set_option linter.all false
set_option maxRecDepth 100000
set_option maxHeartbeats 4000000
/-! sorting tuples of any lengths, the empty one too -/
namespace L2
open PySem PySem.W PySem.SeqAt PySem.Spec PyProof.Rows
section
variable {prog : Program} {w : World} {A : Around} {E : Value → Shared → Prop} {s : Shared}
theorem tupLt_call {Q : Value → Shared → Prop} {x y : Addr} {us vs : Array Value} {eqs lts : Nat → Bool} (hx : s.heap.IsTuple x us) (hy : s.heap.IsTuple y vs)
    (h1 : ∀ j (a : j < us.size) (b : j < vs.size), EqAt A.in1 s us[j] vs[j] (eqs j))
    (h2 : ∀ j (a : j < us.size) (b : j < vs.size), eqs j = false → RcLt A.in1 s us[j] vs[j] (lts j))
    (hq : Q (.bool (firstLt eqs lts (decide (us.size < vs.size)) (List.range (min us.size vs.size)))) s) :
    wpAny (model prog w) A (call (.builtin "tuple.__lt__") [.ref x, .ref y]) Q E s := by
  obtain ⟨⟨kx, dx, tx, sx⟩, gx, rfl, nx, rfl⟩ := hx
  obtain ⟨⟨ky, dy, ty, sy⟩, gy, rfl, ny, rfl⟩ := hy
  exact call_meets F.slot_tuple_lt ⟨_, gx, rfl⟩ F.entry_tuple_lt (F.args_tuple_lt_2 _ _) (tuple_ltAt x y us vs nx ny dx dy sx sy eqs lts) ⟨gx, gy, h1, h2, hq⟩
theorem oneLt_tups {f : Bool} {xs ys : List PyData} {u v : Value} {as bs : List Addr} {Q : Bool → Shared → Prop} (ra : Reads s.heap u (.tuple xs) as) (rb : Reads s.heap v (.tuple ys) bs) (hal : alikeAll xs ys = true)
    (hu : A.units + min (PyData.tuple xs).depth (PyData.tuple ys).depth < cLine) (hq : Q (dataLt (.tuple xs) (.tuple ys)) s) : wpAny (model prog w) A (oneLt' f u v) Q E s := by
  cases f with
  | false => exact oneLt_alike (fun z => nomatch z) ra rb (by simpa [alike] using hal) (fun z => nomatch z) hu hq
  | true =>
    cases ra with
    | @tuple x ox us nx _ cs g1 g2 g3 g4 =>
      cases rb with
      | @tuple y oy vs ny _ ds k1 k2 k3 k4 =>
        have l1 : us.size = xs.length := by simpa using SeqAt.ReadsAll.length _ _ _ g4
        have l2 : vs.size = ys.length := by simpa using SeqAt.ReadsAll.length _ _ _ k4
        rw [dataLt_tuple, ← firstLt_toks xs ys hal, ← l1, ← l2] at hq
        rw [oneLt'_eq, if_pos rfl]
        have hroom := room_in hu
        refine wpAny_bind (wpAny_cRoomFor (room_here hu) ?_)
        refine wpAny_bind (wpAny_callSpecialIfBound?_slot (T := "tuple") ⟨_, g1, g2⟩ F.slot_tuple_lt ?_)
        refine tupLt_call (eqs := pairEq xs ys) (lts := fun j => dataLt (xs.getD j .none) (ys.getD j .none)) ⟨_, g1, g2, _, g3⟩ ⟨_, k1, k2, _, k3⟩ (fun j a b => ?_) (fun j a b hj => ?_) ?_
        · have z := eqAt_alikeAll xs ys A.in1 s us.toList vs.toList _ _ g4 k4 hal hroom j (by simpa using a) (by simpa using b)
          rwa [Array.getElem_toList, Array.getElem_toList] at z
        · have z := rcLt_alikeAll xs ys A.in1 s us.toList vs.toList _ _ g4 k4 hal hroom j (by simpa using a) (by simpa using b) hj
          rwa [Array.getElem_toList, Array.getElem_toList] at z
        · exact wpAny_truthy_bool hq
end
/-- the first item of a tuple of the heap -/
def headAt (h : Heap) : Value → Option Value
  | .ref a => match h.get? a with
    | some o => match o.data with
      | .seq us _ => us[0]?
      | _ => none
    | none => none
  | _ => none
def IsTup (h : Heap) (v : Value) : Prop := ∃ a us, v = .ref a ∧ h.IsTuple a us
section
variable {M : Model} {A : Around} {E : Value → Shared → Prop} {s : Shared}
theorem heads_run : ∀ (vs : List Value) {Q : List (Option Value) → Shared → Prop}, (∀ v ∈ vs, IsTup s.heap v) → Q (vs.map (headAt s.heap)) s → wpAny M A (vs.mapM firstOfTuple') Q E s
  | [], _, _, q => by rw [List.mapM_nil]; exact wpAny_pure q
  | v :: vs, Q, hv, q => by
    obtain ⟨a, us, rfl, o, g1, g2, n, g3⟩ := hv v List.mem_cons_self
    rw [List.mapM_cons, kas_first_eq]
    refine wpAny_bind (wpAny_bind (Looks.here ((Looks.ld g1).andThen .now) ?_))
    rw [g2, if_neg (by decide)]
    refine wpAny_bind (listItems_at g1 g3 (wpAny_pure ?_))
    have e : headAt s.heap (.ref a) = us[0]? := by
      show (match s.heap.get? a with | some o => _ | none => none) = _
      rw [g1]
      show (match o.data with | .seq us _ => us[0]? | _ => none) = _
      rw [g3]
    rw [← e]
    exact wpAny_bind (heads_run vs (fun u hu => hv u (List.mem_cons_of_mem _ hu)) (wpAny_pure q))
theorem kind_mixed {vs : List Value} (h2 : 2 ≤ vs.length) (hv : ∀ v ∈ vs, IsTup s.heap v) (hm : ∃ v ∈ vs, headAt s.heap v = none) :
    ∃ f : Bool, ∀ (E : Value → Shared → Prop) {Q : SortKind → Shared → Prop}, Q (if f = true then oneType' else general') s → wpAny M A (keyKind' vs.toArray) Q E s := by
  obtain ⟨v, l, rfl⟩ : ∃ v l, vs = v :: l := by
    cases vs with
    | nil => exact absurd h2 (by simp)
    | cons v l => exact ⟨v, l, rfl⟩
  refine ⟨(headAt s.heap v).isNone, fun E Q q => ?_⟩
  rw [keyKind'_eq, List.mapM_toArray, map_eq_pure_bind]
  refine wpAny_bind (wpAny_bind (heads_run _ hv (wpAny_pure ?_)))
  have no : ¬ (((v :: l).map (headAt s.heap)).toArray.all fun z => z.isSome) = true := by
    obtain ⟨u, hu, e⟩ := hm
    intro z
    simp only [List.all_toArray, List.all_map, List.all_eq_true] at z
    have := z u hu
    simp [e] at this
  rw [if_neg no]
  have e0 : ((v :: l).map (headAt s.heap)).toArray[0]? = some (headAt s.heap v) := by simp
  rw [e0]
  cases hh : headAt s.heap v with
  | some f =>
    rw [hh] at q
    exact wpAny_pure q
  | none =>
    rw [hh] at q
    show wpAny M A (oneTypeOnly' _ >>= fun z => pure (if z.isSome = true then oneType' else general')) Q E s
    rw [oneTypeOnly'_eq, List.mapM_toArray, map_eq_pure_bind]
    refine wpAny_bind (wpAny_bind (wpAny_bind (kas_mapM (r := Value.type "tuple") _ (fun u hu Q' hq => ?_) (wpAny_pure ?_))))
    · obtain ⟨a, us, rfl, o, g1, g2, _⟩ := hv u hu
      exact Looks.here (show Looks M s.heap (typeOf (.ref a)) (.type "tuple") from g2 ▸ (Looks.ld g1).andThen .now) hq
    · have e1 : (List.map (fun _ => Value.type "tuple") (v :: l)).toArray[0]? = some (Value.type "tuple") := by simp
      rw [e1]
      have e2 : ((List.map (fun _ => Value.type "tuple") (v :: l)).toArray.all fun z => z == Value.type "tuple") = true := by
        simp only [List.all_toArray, List.all_map, List.all_eq_true]
        exact fun _ _ => beq_self_eq_true _
      simp only [e2, if_true]
      exact wpAny_pure (wpAny_pure q)
end
section
variable {prog : Program} {w : World} {A : Around} {s : Shared}
theorem each_isTup {h : Heap} {vs : List Value} {ds : List PyData} (e : EachIs (fun v d => ∃ as, Reads h v d as) vs ds) (ht : ∀ d ∈ ds, ∃ xs, d = .tuple xs) : ∀ v ∈ vs, IsTup h v := fun v hv => by
  obtain ⟨d, hd, as, r⟩ := e.left v hv
  obtain ⟨xs, rfl⟩ := ht d hd
  cases r with
  | tuple g1 g2 g3 _ => exact ⟨_, _, rfl, _, g1, g2, _, g3⟩
theorem each_back {R : Value → PyData → Prop} : ∀ {vs : List Value} {ds : List PyData}, EachIs R vs ds → ∀ d ∈ ds, ∃ v ∈ vs, R v d
  | _, _, .nil, d, hd => absurd hd (by simp)
  | _, _, .cons (a := a) r t, d, hd => by
    rcases List.mem_cons.mp hd with rfl | hd
    · exact ⟨a, List.mem_cons_self, r⟩
    · obtain ⟨v, hv, q⟩ := each_back t d hd
      exact ⟨v, List.mem_cons_of_mem _ hv, q⟩
/-- tuples of any lengths can be sorted -/
theorem sortsAt_tups {vs : List Value} {ds : List PyData} (e : EachIs (fun v d => ∃ as, Reads s.heap v d as) vs ds) (hal : AllAlike ds) (ht : ∀ d ∈ ds, ∃ xs, d = .tuple xs) (hu : ∀ d, d ∈ ds → A.units + d.depth < cLine) :
    SortsAt prog w A s (dataKind s.heap ds) vs := by
  rcases Classical.em (∀ d ∈ ds, ∃ x r, d = PyData.tuple (x :: r)) with c | c
  · exact SortsAt.data e hal (.inl c) hu
  · have key : ∀ v ∈ vs, ∃ a, (dataKind s.heap ds).keyOf v = some a := fun v hv => by
      obtain ⟨d, hd, as, r⟩ := e.left v hv
      exact ⟨_, dataKind_some hal hd r⟩
    refine ⟨key, ?_⟩
    rcases Nat.lt_or_ge vs.length 2 with z | z
    · refine ⟨general', ?_, fun h2 => absurd h2 (by omega)⟩
      intro E u v a b Q ha hb hq
      obtain ⟨d, as, hd, ra, rfl⟩ := dataKind_inv ha
      obtain ⟨d', bs, hd', rb, rfl⟩ := dataKind_inv hb
      obtain ⟨xs, rfl⟩ := ht d hd
      obtain ⟨ys, rfl⟩ := ht d' hd'
      exact oneLt_tups (f := false) ra rb (by simpa [alike] using hal _ hd _ hd') (Nat.lt_of_le_of_lt (Nat.add_le_add_left (Nat.min_le_left _ _) _) (hu _ hd)) hq
    · have hm : ∃ v ∈ vs, headAt s.heap v = none := by
        obtain ⟨d, c⟩ := Classical.not_forall.mp c
        obtain ⟨hd, c⟩ := Classical.not_imp.mp c
        obtain ⟨xs, rfl⟩ := ht d hd
        cases xs with
        | cons x r => exact absurd ⟨x, r, rfl⟩ c
        | nil =>
          obtain ⟨v, hv, as, r⟩ := each_back e _ hd
          refine ⟨v, hv, ?_⟩
          cases r with
          | @tuple a o us n _ _ g1 g2 g3 g4 =>
            have l : us.size = 0 := by simpa using SeqAt.ReadsAll.length _ _ _ g4
            have e0 : us[0]? = none := by simp [l]
            show (match s.heap.get? a with | some o => _ | none => none) = _
            rw [g1]
            show (match o.data with | .seq us _ => us[0]? | _ => none) = _
            rw [g3]
            exact e0
      obtain ⟨f, hf⟩ := kind_mixed (M := model prog w) (A := A) z (each_isTup e ht) hm
      refine ⟨if f = true then oneType' else general', ?_, fun _ E Q q => hf E q⟩
      intro E u v a b Q ha hb hq
      obtain ⟨d, as, hd, ra, rfl⟩ := dataKind_inv ha
      obtain ⟨d', bs, hd', rb, rfl⟩ := dataKind_inv hb
      obtain ⟨xs, rfl⟩ := ht d hd
      obtain ⟨ys, rfl⟩ := ht d' hd'
      have g := fun f => oneLt_tups (prog := prog) (w := w) (E := E) (f := f) ra rb (by simpa [alike] using hal _ hd _ hd') (Nat.lt_of_le_of_lt (Nat.add_le_add_left (Nat.min_le_left _ _) _) (hu _ hd)) hq
      cases f with
      | true => exact g true
      | false => exact g false
end
end L2

set_option Elab.async false
set_option linter.all false
set_option maxRecDepth 100000
set_option maxHeartbeats 4000000
/-! sets of nested tuples: the small questions -/
namespace L2
open PySem PySem.SeqAt PySem.Spec PyProof.Rows
section
variable {P : Program} {w : World}
/-- no class statement of the program made anything of it -/
def NoClass (P : Program) (w : World) (n : Nat) (s : Shared) (v : Value) : Prop := ∀ (A : Around) (E : Value → Shared → Prop) (Q : Bool → Shared → Prop), Q false s → wpAny (model P w) A (ofAClassStatement n v) Q E s
theorem NoClass.leaf {n : Nat} {s : Shared} {v : Value} (h : ofAClassStatement n v = pure false) : NoClass P w n s v := fun A E Q q => by
  rw [h]
  exact wpAny_pure q
theorem NoClass.tup {n : Nat} {s : Shared} {a : Addr} {o : Obj} {us : Array Value} {m : Nat} (g1 : s.heap.get? a = some o) (g2 : o.cls = .type "tuple") (g3 : o.data = .seq us m) (hu : ∀ u ∈ us.toList, NoClass P w n s u) : NoClass P w (n + 1) s (.ref a) := fun A E Q q => by
  unfold ofAClassStatement
  refine wpAny_bind (wpAny_typeOf ⟨o, g1, g2⟩ ?_)
  dsimp only
  have e : (("tuple" : String) == "tuple") = true := by decide
  rw [if_pos e]
  refine wpAny_bind (wpAny_pure ?_)
  rw [if_neg (by decide)]
  refine wpAny_bind (wpAny_seqItems g1 g3 ?_)
  dsimp only
  refine wpAny_bind ?_
  rw [← Array.forIn_toList]
  refine wpAny_forIn_list _ (fun left acc s' => acc.1 = none ∧ s' = s ∧ ∀ u ∈ left, NoClass P w n s u) _ ?_ ?_ _ _ ⟨rfl, rfl, hu⟩
  · rintro u left acc s' ⟨ha, rfl, hl⟩
    refine wpAny_bind (hl u List.mem_cons_self _ _ _ ?_)
    rw [if_neg (by decide)]
    exact wpAny_pure ⟨rfl, rfl, fun x hx => hl x (List.mem_cons_of_mem _ hx)⟩
  · rintro ⟨acc1, acc2⟩ s' ⟨ha, rfl, _⟩
    cases (show acc1 = none from ha)
    exact wpAny_pure q
mutual
theorem noClass_key : ∀ (k : NestedKey) (v : Value) (n : Nat) (s : Shared), NestedIs s.heap k v → k.depth ≤ n → NoClass P w n s v
  | .none, _, n, s, x, _ => by cases x; exact .leaf (by cases n <;> rfl)
  | .num i, _, n, s, x, _ => by cases x <;> exact .leaf (by cases n <;> rfl)
  | .text y, _, n, s, x, _ => by cases x; exact .leaf (by cases n <;> rfl)
  | .tup ks, _, n, s, x, hn => by
    cases x with
    | tup g1 g2 g3 g4 =>
      simp only [NestedKey.depth] at hn
      cases n with
      | zero => omega
      | succ n => exact .tup g1 g2 g3 (noClass_keys ks _ n s g4 (by omega))
theorem noClass_keys : ∀ (ks : List NestedKey) (vs : List Value) (n : Nat) (s : Shared), NestedAll s.heap ks vs → NestedKey.depthAll ks ≤ n → ∀ v ∈ vs, NoClass P w n s v
  | [], _, n, s, x, _, v, hv => by cases x; cases hv
  | k :: ks, _, n, s, x, hn, v, hv => by
    cases x with
    | cons x1 x2 =>
      simp only [NestedKey.depthAll] at hn
      rcases List.mem_cons.mp hv with rfl | hv
      · exact noClass_key k _ n s x1 (by omega)
      · exact noClass_keys ks _ n s x2 (by omega) v hv
end
/-- whether its hash is by value: some answer, and nothing else -/
def SomeHash (P : Program) (w : World) (n : Nat) (s : Shared) (v : Value) : Prop := ∀ (A : Around) (E : Value → Shared → Prop) (Q : Bool → Shared → Prop), (∀ b, Q b s) → wpAny (model P w) A (hashByValue n v) Q E s
theorem SomeHash.leaf {n : Nat} {s : Shared} {v : Value} (b : Bool) (h : hashByValue n v = pure b) : SomeHash P w n s v := fun A E Q q => by
  rw [h]
  exact wpAny_pure (q b)
theorem SomeHash.tup {n : Nat} {s : Shared} {a : Addr} {o : Obj} {us : Array Value} {m : Nat} (g1 : s.heap.get? a = some o) (g2 : o.cls = .type "tuple") (g3 : o.data = .seq us m) (hu : ∀ u ∈ us.toList, SomeHash P w n s u) : SomeHash P w (n + 1) s (.ref a) := fun A E Q q => by
  unfold hashByValue
  refine wpAny_bind (wpAny_specialOf ⟨o, g1, g2⟩ F.slot_tuple_hash.lookup ?_)
  show wpAny _ _ (seqItems? (.ref a) >>= _) _ _ s
  refine wpAny_bind (wpAny_seqItems g1 g3 ?_)
  refine wpAny_bind ?_
  show wpAny _ _ (forIn us _ _) _ _ s
  rw [← Array.forIn_toList]
  refine wpAny_forIn_list _ (fun left acc s' => acc.1 = none ∧ s' = s ∧ ∀ u ∈ left, SomeHash P w n s u) _ ?_ ?_ _ _ ⟨rfl, rfl, hu⟩
  · rintro u left acc s' ⟨ha, rfl, hl⟩
    refine wpAny_bind (hl u List.mem_cons_self _ _ _ fun b => ?_)
    cases b with
    | true =>
      rw [if_neg (by decide)]
      exact wpAny_pure ⟨rfl, rfl, fun x hx => hl x (List.mem_cons_of_mem _ hx)⟩
    | false =>
      rw [if_pos (by decide)]
      exact wpAny_pure (wpAny_pure (q _))
  · rintro ⟨acc1, acc2⟩ s' ⟨ha, rfl, _⟩
    cases (show acc1 = none from ha)
    exact wpAny_pure (q _)
mutual
theorem someHash_key : ∀ (k : NestedKey) (v : Value) (n : Nat) (s : Shared), NestedIs s.heap k v → k.depth ≤ n → SomeHash P w n s v
  | .none, _, n, s, x, _ => by cases x; exact .leaf true (by cases n <;> rfl)
  | .num i, _, n, s, x, _ => by cases x <;> exact .leaf true (by cases n <;> rfl)
  | .text y, _, n, s, x, _ => by cases x; exact .leaf false (by cases n <;> rfl)
  | .tup ks, _, n, s, x, hn => by
    cases x with
    | tup g1 g2 g3 g4 =>
      simp only [NestedKey.depth] at hn
      cases n with
      | zero => omega
      | succ n => exact .tup g1 g2 g3 (someHash_keys ks _ n s g4 (by omega))
theorem someHash_keys : ∀ (ks : List NestedKey) (vs : List Value) (n : Nat) (s : Shared), NestedAll s.heap ks vs → NestedKey.depthAll ks ≤ n → ∀ v ∈ vs, SomeHash P w n s v
  | [], _, n, s, x, _, v, hv => by cases x; cases hv
  | k :: ks, _, n, s, x, hn, v, hv => by
    cases x with
    | cons x1 x2 =>
      simp only [NestedKey.depthAll] at hn
      rcases List.mem_cons.mp hv with rfl | hv
      · exact someHash_key k _ n s x1 (by omega)
      · exact someHash_keys ks _ n s x2 (by omega) v hv
end
/-- a key of the heap that sets take: a nested tuple, not too deep -/
structure TupKey (h : Heap) (k : NestedKey) (a : Addr) : Prop where
  is : NestedIs h k (.ref a)
  deep : k.depth ≤ 8
theorem TupKey.cls {h : Heap} {k : NestedKey} {a : Addr} (x : TupKey h k a) : ∃ o us n, h.get? a = some o ∧ o.cls = .type "tuple" ∧ o.data = .seq us n := by
  cases x.is with
  | tup g1 g2 g3 _ => exact ⟨_, _, _, g1, g2, g3⟩
theorem TupKey.keep {h h' : Heap} {k : NestedKey} {a : Addr} (x : TupKey h k a) (ext : ∀ b o, h.get? b = some o → h'.get? b = some o) : TupKey h' k a := ⟨x.is.at (fun b o _ _ g _ => ext b o g) _ _, x.deep⟩
/-- no set's own object is read of a key -/
theorem TupKey.but {h h' : Heap} {k : NestedKey} {a b : Addr} {o : Obj} {es : Array (Int × Value)} {ep : Nat} {t : SetTable} (x : TupKey h k a) (g : h.get? b = some o) (d : o.data = .set es ep t) (sb : Heap.SameBut b h h') : TupKey h' k a :=
  ⟨NestedIs.at (fun c p us n gc dc => by
    refine (sb.2 c fun e => ?_).trans gc
    subst e
    cases (g.symm.trans gc)
    exact nomatch d.symm.trans dc) _ _ x.is, x.deep⟩
theorem TupKey.unseen {A : Around} {E : Value → Shared → Prop} {s : Shared} {Q : Bool → Shared → Prop} {k : NestedKey} {a : Addr} (x : TupKey s.heap k a) {ys : List Value} (hy : ∀ y ∈ ys, ∃ j b, y = Value.ref b ∧ TupKey s.heap j b) (q : Q false s) :
    wpAny (model P w) A (searchCouldBeSeen (.ref a) ys) Q E s := by
  unfold searchCouldBeSeen
  refine wpAny_bind ?_
  refine wpAny_forIn_list _ (fun left acc s' => acc.1 = none ∧ s' = s ∧ ∀ y ∈ left, ∃ j b, y = Value.ref b ∧ TupKey s.heap j b) _ ?_ ?_ _ _ ⟨rfl, rfl, hy⟩
  · rintro y left acc s' ⟨ha, rfl, hl⟩
    obtain ⟨j, b, rfl, xb⟩ := hl y List.mem_cons_self
    have more : ∀ y ∈ left, ∃ j b, y = Value.ref b ∧ TupKey s'.heap j b := fun u hu => hl u (List.mem_cons_of_mem _ hu)
    dsimp only
    split
    · exact wpAny_pure ⟨rfl, rfl, more⟩
    · refine wpAny_bind (quiet_key _ _ 8 _ x.is x.deep _ _ _ ?_)
      rw [if_neg (by decide)]
      refine wpAny_bind (quiet_key _ _ 8 _ xb.is xb.deep _ _ _ ?_)
      rw [if_neg (by decide)]
      refine wpAny_bind (noClass_key _ _ 8 _ x.is x.deep _ _ _ ?_)
      rw [if_neg (by decide)]
      refine wpAny_bind (noClass_key _ _ 8 _ xb.is xb.deep _ _ _ ?_)
      rw [if_neg (by decide)]
      exact wpAny_pure ⟨rfl, rfl, more⟩
  · rintro ⟨acc1, acc2⟩ s' ⟨ha, rfl, _⟩
    cases (show acc1 = none from ha)
    exact wpAny_pure q
end
end L2

set_option Elab.async false
set_option linter.all false
set_option maxRecDepth 100000
set_option maxHeartbeats 4000000
/-! sets of nested tuples: the search -/
namespace L2
open PySem PySem.SeqAt PySem.Spec PyProof.Rows
abbrev NRow := Addr × NestedKey
def hashesN (w : World) (L : List NRow) : List Int := L.map fun r => r.2.hash w
def nrows (w : World) (L : List NRow) : List (Int × Value) := L.map fun r => (r.2.hash w, Value.ref r.1)
/-- the set at a has these keys, in the sequence of its table -/
structure NSet (w : World) (h : Heap) (a : Addr) (L : List NRow) (es : Array (Int × Value)) (ep : Nat) (t : SetTable) : Prop where
  obj : ∃ o, h.get? a = some o ∧ o.ExactSet ∧ o.data = .set es ep t
  eqs : es.toList = nrows w L
  tok : TabOk t (hashesN w L)
  dif : (L.map Prod.snd).Nodup
  key : ∀ r ∈ L, TupKey h r.2 r.1
  led : w.params.followText "set-order" = true ∨ t.led = true
  gap : L.length * 5 < t.mask * 3
  small : L.length < 64
section
variable {P : Program} {w : World} {A : Around} {E : Value → Shared → Prop} {s : Shared} {a : Addr} {L : List NRow} {es : Array (Int × Value)} {ep : Nat} {t : SetTable}
theorem nrows_len (h : es.toList = nrows w L) : es.size = L.length := by
  have z := congrArg List.length h
  unfold nrows at z
  simpa using z
theorem NSet.size (N : NSet w s.heap a L es ep t) : es.size = L.length := nrows_len N.eqs
theorem NSet.place (N : NSet w s.heap a L es ep t) : t.place.size = L.length := by
  have z := N.tok.sz
  unfold hashesN at z
  simpa using z
theorem fits_of (h1 : t.place.size = es.size) (h2 : t.dummies = #[]) (h3 : es.size ≤ t.mask) : t.fits es.size = true := by
  unfold SetTable.fits SetTable.fill
  rw [h2, h1, Bool.and_eq_true]
  exact ⟨beq_self_eq_true _, decide_eq_true (by show es.size + 0 ≤ t.mask; omega)⟩
theorem NSet.fits (N : NSet w s.heap a L es ep t) : t.fits es.size = true := fits_of (by rw [N.place, N.size]) N.tok.dm (by have := N.gap; have := N.size; omega)
theorem row_at (h : es.toList = nrows w L) {i : Nat} {r : NRow} (e : L[i]? = some r) : es[i]? = some (r.2.hash w, Value.ref r.1) := by
  rw [← Array.getElem?_toList, h]
  unfold nrows
  rw [List.getElem?_map, e]
  first | rfl | done
theorem NSet.odd (N : NSet w s.heap a L es ep t) : ¬ t.gaveWay = true := by
  unfold SetTable.gaveWay
  rw [mask_odd N.tok.mok]
  decide
/-- the c-th step of the way of a hash -/
abbrev step (m : Nat) (h : Int) (c : Nat) : SetTable.Probe := nth m (runAt m (SetTable.bits h % (m + 1)) (SetTable.bits h)) c
theorem step_add (m : Nat) (h : Int) (c q : Nat) : nth m (step m h c) q = step m h (c + q) := (nth_add m c _ q).symm
theorem step_way (m : Nat) (h : Int) (c q : Nat) : (nth m (step m h c) q).j = way m h (c + q) := congrArg SetTable.Probe.j (step_add m h c q)
theorem step_dummy (m : Nat) : ∀ (c : Nat) (p : SetTable.Probe), p.dummy = none → (nth m p c).dummy = none
  | 0, _, e => e
  | c + 1, p, e => step_dummy m c (adv m p) (by unfold adv; split <;> exact e)
/-- from the c-th step of the way on: the key is there, or the first empty slot is found -/
theorem nsearch_from (N : NSet w s.heap a L es ep t) {x : Addr} {k : NestedKey} (kx : TupKey s.heap k x) (hu : A.units + 8 < cLine) {K : Nat} (hf : K < 10 * SetTable.turns t.mask)
    (hK : way t.mask (k.hash w) K ∉ t.place.toList) (hb : ∀ c, c < K → way t.mask (k.hash w) c ∈ t.place.toList) {Q : SetFound → Shared → Prop}
    (yes : k ∈ L.map Prod.snd → Q (.there none) s) (no : k ∉ L.map Prod.snd → Q (.free (way t.mask (k.hash w) K) false) s) :
    ∀ (f c : Nat) (from_ : Option SetTable.Probe), from_.getD (t.probeStart (k.hash w)) = step t.mask (k.hash w) c → c ≤ K → K - c < f →
      (∀ (i : Nat) r, L[i]? = some r → r.2 = k → ∃ d, c ≤ d ∧ d < K ∧ t.place.toList[i]? = some (way t.mask (k.hash w) d)) →
      wpAny (model P w) A (setSearchFrom a (.ref x) (k.hash w) true f from_) Q E s
  | 0, _, _, _, _, z, _ => absurd z (Nat.not_lt_zero _)
  | f + 1, c, from_, hst, hc, hz, hre => by
    obtain ⟨o, g, hex, hd⟩ := N.obj
    have places : t.place.toList.length = L.length := by rw [Array.length_toList]; exact N.place
    rw [setSearchFrom_succ]
    refine wpAny_bind (wpAny_setState_of g hd N.fits ?_)
    dsimp only
    rw [if_neg N.odd]
    try refine wpAny_bind (wpAny_pure ?_)
    generalize hhv : k.hash w = hv at *
    have hashOf : ∀ (i : Nat) r, L[i]? = some r → ((es[i]?.map (·.1)).getD 0) = r.2.hash w := fun i r e => by
      rw [row_at N.eqs e]
      first | rfl | done
    have cases2 := go_spec t N.tok.ris N.tok.dm (fun i => (es[i]?.map (·.1)).getD 0) hv (10 * SetTable.turns t.mask) (K - c) (step t.mask hv c) (step_dummy _ _ _ rfl) (by omega)
      (fun q hq => by rw [step_way]; exact hb (c + q) (by omega)) (by rw [step_way, show c + (K - c) = K by omega]; exact hK)
    rcases cases2 with ⟨q, i, hq, hi, hh, before, hp⟩ | ⟨before, hp⟩
    · rw [step_way] at hi hp
      rw [step_add] at hp
      have hp' : t.probe (fun i => (es[i]?.map (·.1)).getD 0) hv (from_.getD (t.probeStart hv)) = some (.candidate (way t.mask hv (c + q)) i (step t.mask hv (c + (q + 1)))) := by
        rw [hst]
        exact hp
      rw [hp']
      dsimp only
      obtain ⟨r, hr⟩ : ∃ r, L[i]? = some r := ⟨_, List.getElem?_eq_getElem (by have := (List.getElem?_eq_some_iff.mp hi).1; omega)⟩
      have mem : r ∈ L := List.mem_of_getElem? hr
      have kr := N.key r mem
      have after : wpAny (model P w) A (searchRest a (.ref x) hv true f es t (way t.mask hv (c + q)) i (step t.mask hv (c + (q + 1)))) Q E s := by
        unfold searchRest
        rw [row_at N.eqs hr]
        dsimp only
        refine wpAny_bind (wpAny_holding (eqAt_key _ _ A s _ _ kr.is kx.is (by have := kr.deep; omega) _ _ _ _ ?_))
        refine wpAny_bind (wpAny_setState_of g hd N.fits ?_)
        dsimp only
        by_cases same : r.2 = k
        · rw [if_pos (by rw [same, NestedKey.beq_self]; decide)]
          exact wpAny_pure (yes (List.mem_map.mpr ⟨r, mem, same⟩))
        · have nb : NestedKey.beq r.2 k = false := by
            rw [← NestedKey.decide_eq]
            exact decide_eq_false same
          rw [if_neg (by rw [nb]; decide)]
          try refine wpAny_bind (wpAny_pure ?_)
          rw [sameMem]
          dsimp only
          have sl : t.slot (way t.mask hv (c + q)) = .live i := slot_live N.tok.ris hi
          simp only [if_true, sl, row_at N.eqs hr]
          refine wpAny_bind (wpAny_isSame_ref_self (wpAny_bind (wpAny_pure ?_)))
          rw [if_pos rfl]
          dsimp only
          rw [nb, if_neg (by decide)]
          subst hhv
          refine nsearch_from N kx hu hf hK hb yes no f (c + (q + 1)) _ rfl (by omega) (by omega) fun j r' hj hk => ?_
          obtain ⟨d, d1, d2, d3⟩ := hre j r' hj hk
          refine ⟨d, ?_, d2, d3⟩
          rcases Nat.lt_trichotomy d (c + q) with z | z | z
          · exact absurd ((hashOf j r' hj).trans (by rw [hk])) (before (d - c) j (by omega) (by rw [step_way, show c + (d - c) = d by omega]; exact d3))
          · exfalso
            rw [z] at d3
            have sj := slot_live N.tok.ris d3
            rw [sl] at sj
            injection sj with sj
            rw [← sj, hr] at hj
            exact same ((congrArg Prod.snd (Option.some.inj hj)).trans hk)
          · omega
      cases hl : t.led with
      | true =>
        rw [if_neg (by decide)]
        try refine wpAny_bind (wpAny_pure ?_)
        exact after
      | false =>
        rw [if_pos (by decide)]
        refine wpAny_bind (kx.unseen (fun y hy => ?_) ?_)
        · obtain ⟨e, he, rfl⟩ := List.mem_map.mp hy
          have he : e ∈ es.toList := by
            have z : e ∈ es ∧ e.1 = hv := by simpa using he
            simpa using z.1
          rw [N.eqs] at he
          obtain ⟨r2, m2, rfl⟩ := List.mem_map.mp he
          exact ⟨_, _, rfl, N.key r2 m2⟩
        · rw [if_neg (by decide)]
          try refine wpAny_bind (wpAny_pure ?_)
          exact after
    · have hp' : t.probe (fun i => (es[i]?.map (·.1)).getD 0) hv (from_.getD (t.probeStart hv)) = some (.empty (way t.mask hv K) none) := by
        rw [hst]
        rw [step_way, show c + (K - c) = K by omega] at hp
        exact hp
      rw [hp']
      dsimp only
      refine wpAny_pure (no fun m => ?_)
      obtain ⟨r, mr, hk⟩ := List.mem_map.mp m
      obtain ⟨i, hi, e⟩ := List.getElem_of_mem mr
      have hr : L[i]? = some r := by rw [List.getElem?_eq_getElem hi, e]
      obtain ⟨d, d1, d2, d3⟩ := hre i r hr hk
      exact before (d - c) i (by omega) (by rw [step_way, show c + (d - c) = d by omega]; exact d3) ((hashOf i r hr).trans (by rw [hk, hhv]))
end
end L2

set_option Elab.async false
set_option linter.all false
set_option maxRecDepth 100000
set_option maxHeartbeats 4000000
/-! sets of nested tuples: adding -/
namespace L2
open PySem PySem.SeqAt PySem.Spec PyProof.Rows
section
variable {P : Program} {w : World} {A : Around} {E : Value → Shared → Prop} {s : Shared} {a : Addr} {L : List NRow} {es : Array (Int × Value)} {ep : Nat} {t : SetTable}
theorem nsearch (N : NSet w s.heap a L es ep t) {x : Addr} {k : NestedKey} (kx : TupKey s.heap k x) (hu : A.units + 8 < cLine) {Q : SetFound → Shared → Prop}
    (yes : k ∈ L.map Prod.snd → Q (.there none) s)
    (no : ∀ K, k ∉ L.map Prod.snd → way t.mask (k.hash w) K ∉ t.place.toList → (∀ c, c < K → way t.mask (k.hash w) c ∈ t.place.toList) → Q (.free (way t.mask (k.hash w) K) false) s) :
    wpAny (model P w) A (setSearch a (.ref x) (k.hash w) true) Q E s := by
  have hgap := N.gap
  obtain ⟨K, f1, f2, f3⟩ := N.tok.first (by unfold hashesN; rw [List.length_map]; omega) (k.hash w)
  have lim : K < 100000 := by
    have z : SetTable.turns t.mask ≤ 142 := by
      unfold SetTable.turns
      rcases N.tok.mok with e | e | e <;> omega
    omega
  unfold setSearch
  refine nsearch_from N kx hu f1 f2 f3 yes (fun m => no K m f2 f3) 100000 0 none rfl (Nat.zero_le _) (by omega) fun i r hr hk => ?_
  have h1 : (hashesN w L)[i]? = some (k.hash w) := by
    unfold hashesN
    rw [List.getElem?_map, hr, ← hk]
    first | rfl | done
  have h2 : i < t.place.toList.length := by
    rw [Array.length_toList, N.place]
    exact (List.getElem?_eq_some_iff.mp hr).1
  have h3 := List.getElem?_eq_getElem h2
  obtain ⟨d, d1, d2⟩ := N.tok.before f2 h1 h3
  exact ⟨d, Nat.zero_le _, d1, by rw [h3, d2]⟩
theorem nrows_put (L : List NRow) (p : Nat) (r : NRow) : nrows w (L.take p ++ r :: L.drop p) = (nrows w L).take p ++ (r.2.hash w, Value.ref r.1) :: (nrows w L).drop p := by
  unfold nrows
  rw [List.map_append, List.map_take, List.map_cons, List.map_drop]
theorem hashesN_put (L : List NRow) (p : Nat) (r : NRow) : hashesN w (L.take p ++ r :: L.drop p) = (hashesN w L).take p ++ r.2.hash w :: (hashesN w L).drop p := by
  unfold hashesN
  rw [List.map_append, List.map_take, List.map_cons, List.map_drop]
/-- rows taken by their numbers -/
theorem rows_taken (L : List NRow) (eqs : es.toList = nrows w L) : ∀ l : List Nat, (∀ i ∈ l, i < L.length) →
    l.filterMap (fun i => es[i]?) = nrows w (l.filterMap fun i => L[i]?) ∧ hashesN w (l.filterMap fun i => L[i]?) = l.map fun i => (es.map (·.1)).getD i 0
  | [], _ => ⟨rfl, rfl⟩
  | i :: l, hl => by
    obtain ⟨r, hi⟩ : ∃ r, L[i]? = some r := ⟨_, List.getElem?_eq_getElem (hl i List.mem_cons_self)⟩
    obtain ⟨h1, h2⟩ := rows_taken L eqs l fun j hj => hl j (List.mem_cons_of_mem _ hj)
    have he := row_at eqs hi
    have hg : (es.map (·.1)).getD i 0 = r.2.hash w := by
      have z : (es.map (·.1))[i]? = some (r.2.hash w) := by
        rw [Array.getElem?_map, he]
        first | rfl | done
      simp [Array.getD_eq_getD_getElem?, z]
    rw [List.filterMap_cons_some he, List.filterMap_cons_some hi, h1, List.map_cons, hg]
    refine ⟨rfl, ?_⟩
    rw [← h2]
    first | rfl | done
theorem all_taken (L : List NRow) : (List.range L.length).filterMap (fun i => L[i]?) = L := by
  have key : ∀ n, n ≤ L.length → (List.range n).filterMap (fun i => L[i]?) = L.take n := by
    intro n
    induction n with
    | zero => exact fun _ => rfl
    | succ n ih =>
      intro hn
      rw [List.range_succ, List.filterMap_append, ih (by omega), List.take_succ, List.getElem?_eq_getElem hn]
      refine congrArg _ ?_
      rw [List.filterMap_cons_some (List.getElem?_eq_getElem hn)]
      first | rfl | done
  rw [key _ (Nat.le_refl _), List.take_length]
/-- laid anew in a larger table -/
theorem nrelay {o : Obj} (g : s.heap.get? a = some o) (hex : o.ExactSet) (hd : o.data = .set es ep t) (eqs : es.toList = nrows w L) (hpl : t.place.size = es.size) (hdm : t.dummies = #[]) (hmk : es.size ≤ t.mask)
    (dif : (L.map Prod.snd).Nodup) (key : ∀ r ∈ L, TupKey s.heap r.2 r.1) (led : w.params.followText "set-order" = true ∨ t.led = true) (small : L.length < 64) {want M : Nat}
    (hw : SetTable.sizeAbove want - 1 = M) (hM : MaskOk M) (hw2 : SetTable.sizeAbove want ≤ 128) (gap : L.length * 5 < M * 3) {Q : Unit → Shared → Prop}
    (q : ∀ h' L' es' ep' t', Heap.SameBut a s.heap h' → NSet w h' a L' es' ep' t' → L'.Perm L → Q () { s with heap := h' }) : wpAny (model P w) A (setRelay a want) Q E s := by
  have hn := nrows_len eqs
  obtain ⟨t', order, e1, e2, e3, e4, e5, _, e7⟩ := relaid_ok t (hs := es.map (·.1)) hw hM (by rw [Array.size_map]; omega)
  rw [Array.size_map, hn] at e2
  obtain ⟨r1, r2⟩ := rows_taken L eqs order.toList fun i hi => List.mem_range.mp (e2.mem_iff.mp hi)
  rw [← r2] at e3
  have pm : (order.toList.filterMap fun i => L[i]?).Perm L := by
    have z := e2.filterMap fun i => L[i]?
    rw [all_taken] at z
    exact z
  have r3 : (order.filterMap (es[·]?)).toList = nrows w (order.toList.filterMap fun i => L[i]?) := by
    rw [← r1]
    first
      | exact Array.toList_filterMap
      | simp
  generalize hL2 : (order.toList.filterMap fun i => L[i]?) = L2 at *
  generalize hes2 : order.filterMap (es[·]?) = es2 at *
  have hn2 : es2.size = es.size := by rw [nrows_len r3, pm.length_eq, hn]
  rw [setRelay_eq]
  refine wpAny_bind (wpAny_setState_of g hd (fits_of hpl hdm hmk) ?_)
  dsimp only
  rw [if_neg (by rw [sizeLine_eq]; omega)]
  try refine wpAny_bind (wpAny_pure ?_)
  rw [e1]
  dsimp only
  refine wpAny_bind ?_
  rw [hes2, if_neg (by rw [hn2]; simp)]
  try refine wpAny_bind (wpAny_pure ?_)
  refine wpAny_pure ?_
  dsimp only
  refine wpAny_storeSet_of g hd ?_ (by rw [hn2, hn, sizeLine_eq]; omega)
  have sb : Heap.SameBut a s.heap (s.heap.update a (Obj.putSet es2 t')) := Heap.SameBut.update ..
  refine q _ L2 es2 (ep + 1) t' sb ⟨⟨_, store_at g hd, ⟨hex.1, hex.2.1, hex.2.2⟩, rfl⟩, r3, e3, (pm.map Prod.snd).nodup_iff.mpr dif, fun r m => (key r (pm.mem_iff.mp m)).but g hd sb, by rw [e5]; exact led, ?_, by rw [pm.length_eq]; exact small⟩ pm
  rw [pm.length_eq, e4]
  exact gap
theorem tab_plain {hs : List Int} (T : TabOk t hs) (b : Bool) : TabOk (if b = true then t else { t with plain := false }) hs ∧ (if b = true then t else { t with plain := false }).mask = t.mask ∧ (if b = true then t else { t with plain := false }).led = t.led ∧
    (if b = true then t else { t with plain := false }).fill = t.fill := by
  cases b with
  | true => exact ⟨T, rfl, rfl, rfl⟩
  | false => exact ⟨⟨T.ris, T.dm, T.sz, T.mok, T.bd, T.reach⟩, rfl, rfl, rfl⟩
/-- one key is added -/
theorem nadd (N : NSet w s.heap a L es ep t) {x : Addr} {k : NestedKey} (kx : TupKey s.heap k x) (hu : A.units + 8 < cLine) (few : L.length + 1 < 64) {Q : Bool → Shared → Prop}
    (q : ∀ b h' L' es' ep' t', Heap.SameBut a s.heap h' → NSet w h' a L' es' ep' t' → (k ∈ L.map Prod.snd → L' = L) → (k ∉ L.map Prod.snd → L'.Perm ((x, k) :: L)) → Q b { s with heap := h' }) :
    wpAny (model P w) A (setAddHashed a (.ref x) (k.hash w)) Q E s := by
  obtain ⟨o, g, hex, hd⟩ := N.obj
  have hn := N.size
  have hgap := N.gap
  unfold setAddHashed
  refine wpAny_holding ?_
  rw [show (100000 : Nat) = Nat.succ 99999 from rfl, setAddHashedIn_succ]
  refine wpAny_bind (wpAny_setState_of g hd N.fits ?_)
  dsimp only
  rw [if_neg (by simp [byScan, Value.scannable])]
  try refine wpAny_bind (wpAny_pure ?_)
  refine wpAny_bind (nsearch N kx hu (fun m => ?_) fun K m hK hb => ?_)
  · dsimp only
    exact wpAny_pure (q false s.heap L es ep t (Heap.SameBut.refl a s.heap) N (fun _ => rfl) fun z => absurd m z)
  · dsimp only
    refine wpAny_bind (wpAny_setState_of g hd N.fits ?_)
    dsimp only
    obtain ⟨q1, q2, q3, q4, q5, q6, q7, q8, q9⟩ := N.tok.put hK hb
    generalize hpt : t.put (way t.mask (k.hash w) K) = pt at *
    obtain ⟨t1, p⟩ := pt
    dsimp only at q1 q3 q4 q5 q9 ⊢
    subst q1
    have some_ : ∀ (f : Bool → Sem Bool), (∀ b, wpAny (model P w) A (f b) Q E s) → wpAny (model P w) A (if t1.plain = true then hashByValue 8 (.ref x) >>= f else pure true >>= f) Q E s := fun f hr => by
      by_cases hp : t1.plain = true
      · rw [if_pos hp]
        exact wpAny_bind (someHash_key _ _ 8 _ kx.is kx.deep _ _ _ hr)
      · rw [if_neg hp]
        exact wpAny_bind (wpAny_pure (hr true))
    refine some_ _ fun b => ?_
    obtain ⟨T2, m2, l2, f2⟩ := tab_plain q3 b
    generalize (if b = true then t1 else { t1 with plain := false }) = t2 at T2 m2 l2 f2 ⊢
    rw [← hashesN_put L _ (x, k)] at T2
    have he : (SetTable.insertAt es (SetTable.below t.place (way t.mask (k.hash w) K)) (k.hash w, Value.ref x)).toList = nrows w (L.take (SetTable.below t.place (way t.mask (k.hash w) K)) ++ (x, k) :: L.drop (SetTable.below t.place (way t.mask (k.hash w) K))) := by
      rw [SetTable.toList_insertAt, nrows_put, N.eqs]
    have pm := put_perm L (SetTable.below t.place (way t.mask (k.hash w) K)) (x, k)
    generalize SetTable.insertAt es (SetTable.below t.place (way t.mask (k.hash w) K)) (k.hash w, Value.ref x) = es1 at he ⊢
    generalize L.take (SetTable.below t.place (way t.mask (k.hash w) K)) ++ (x, k) :: L.drop (SetTable.below t.place (way t.mask (k.hash w) K)) = L1 at pm he T2
    have n1 : L1.length = L.length + 1 := pm.length_eq
    have n2 : es1.size = L.length + 1 := by rw [nrows_len he, n1]
    have nd : (L1.map Prod.snd).Nodup := by
      rw [(pm.map Prod.snd).nodup_iff, List.map_cons, List.nodup_cons]
      exact ⟨m, N.dif⟩
    have pl2 : t2.place.size = es1.size := by
      have z := T2.sz
      unfold hashesN at z
      rw [z, List.length_map, n1, n2]
    rw [hn]
    refine wpAny_bind (wpAny_storeSet_of g hd ?_ (by rw [n2, sizeLine_eq]; omega))
    have sb : Heap.SameBut a s.heap (s.heap.update a (Obj.putSet es1 t2)) := Heap.SameBut.update ..
    have g1 := store_at (es' := es1) (t' := t2) g hd
    generalize s.heap.update a (Obj.putSet es1 t2) = h1 at sb g1 ⊢
    have key1 : ∀ r ∈ L1, TupKey h1 r.2 r.1 := fun r hr => by
      rcases List.mem_cons.mp (pm.mem_iff.mp hr) with rfl | hr
      · exact kx.but g hd sb
      · exact (N.key r hr).but g hd sb
    have led1 : w.params.followText "set-order" = true ∨ t2.led = true := by
      rw [l2, q5]
      exact N.led
    have full : t2.tooFull = decide ((L.length + 1) * 5 ≥ t.mask * 3) := by
      unfold SetTable.tooFull
      rw [f2, q9, m2, q4]
      unfold hashesN
      rw [List.length_map]
    by_cases hf : (L.length + 1) * 5 ≥ t.mask * 3
    · rw [full, decide_eq_true hf]
      have two : (t.mask = 7 ∧ L.length = 4) ∨ (t.mask = 31 ∧ L.length = 18) := by
        rcases N.tok.mok with e | e | e
        · exact .inl ⟨e, by omega⟩
        · exact .inr ⟨e, by omega⟩
        · omega
      have grow : ∀ M, SetTable.sizeAbove (SetTable.grown (L.length + 1)) - 1 = M → MaskOk M → SetTable.sizeAbove (SetTable.grown (L.length + 1)) ≤ 128 → (L.length + 1) * 5 < M * 3 →
          wpAny (model P w) A (setRelay a (SetTable.grown (L.length + 1))) (fun _ s' => wpAny (model P w) A (pure true) Q E s') E { s with heap := h1 } := fun M h1' h2' h3' h4' => by
        refine nrelay (s := { s with heap := h1 }) g1 ⟨hex.1, hex.2.1, hex.2.2⟩ rfl he pl2 T2.dm (by rw [n2, m2, q4]; omega) nd key1 led1 (by rw [n1]; exact few) h1' h2' h3' (by rw [n1]; exact h4') ?_
        exact fun h2 L2 es2 ep2 t3 sb2 N2 pm2 => wpAny_pure (q true h2 L2 es2 ep2 t3 (sb.trans sb2) N2 (fun z => absurd z m) fun _ => pm2.trans pm)
      have go : wpAny (model P w) A (setRelay a (SetTable.grown (L.length + 1))) (fun _ s' => wpAny (model P w) A (pure true) Q E s') E { s with heap := h1 } := by
        rcases two with ⟨_, e⟩ | ⟨_, e⟩
        · exact grow 31 (by rw [e, size_20]) (.inr (.inl rfl)) (by rw [e, size_20]; decide) (by omega)
        · exact grow 127 (by rw [e, size_76]) (.inr (.inr rfl)) (by rw [e, size_76]; decide) (by omega)
      first
        | (refine wpAny_bind ?_; rw [if_pos (by decide)]; exact go)
        | (rw [if_pos (by decide)]; exact wpAny_bind go)
    · rw [full, decide_eq_false hf]
      have N1 : NSet w h1 a L1 es1 (ep + 1) t2 := ⟨⟨_, g1, ⟨hex.1, hex.2.1, hex.2.2⟩, rfl⟩, he, T2, nd, key1, led1, by rw [n1, m2, q4]; omega, by rw [n1]; exact few⟩
      have fin : wpAny (model P w) A (pure true) Q E { s with heap := h1 } := wpAny_pure (q true h1 L1 es1 (ep + 1) t2 sb N1 (fun z => absurd z m) fun _ => pm)
      first
        | (refine wpAny_bind ?_; rw [if_neg (by decide)]; exact wpAny_pure fin)
        | (rw [if_neg (by decide)]; exact fin)
end
end L2

set_option Elab.async false
set_option linter.all false
set_option maxRecDepth 100000
set_option maxHeartbeats 4000000
/-! sets of nested tuples: set(list) -/
namespace L2
open PySem PySem.SeqAt PySem.Spec PyProof.Rows
/-- what a set has got of the first i of these rows -/
structure NGot (ks : List NRow) (i : Nat) (L : List NRow) : Prop where
  only : ∀ r ∈ L, r ∈ ks.take i
  every : ∀ r ∈ ks.take i, r.2 ∈ L.map Prod.snd
  most : L.length ≤ i
theorem NGot.none_ (ks : List NRow) : NGot ks 0 [] := ⟨fun r h => absurd h (by simp), fun r h => absurd h (by simp), Nat.le_refl _⟩
theorem NGot.next {ks L L' : List NRow} {i : Nat} {x : NRow} (g : NGot ks i L) (e : ks[i]? = some x) (h1 : x.2 ∈ L.map Prod.snd → L' = L) (h2 : x.2 ∉ L.map Prod.snd → L'.Perm (x :: L)) : NGot ks (i + 1) L' := by
  have tk := take_next e
  rcases Classical.em (x.2 ∈ L.map Prod.snd) with c | c
  · cases h1 c
    refine ⟨fun r hr => ?_, fun r hr => ?_, Nat.le_succ_of_le g.most⟩
    · rw [tk]
      exact List.mem_append_left _ (g.only r hr)
    · rw [tk] at hr
      rcases List.mem_append.mp hr with z | z
      · exact g.every r z
      · cases List.mem_singleton.mp z
        exact c
  · have pm := h2 c
    refine ⟨fun r hr => ?_, fun r hr => ?_, by rw [pm.length_eq, List.length_cons]; exact Nat.succ_le_succ g.most⟩
    · rw [tk]
      rcases List.mem_cons.mp (pm.mem_iff.mp hr) with rfl | z
      · exact List.mem_append_right _ List.mem_cons_self
      · exact List.mem_append_left _ (g.only r z)
    · rw [(pm.map Prod.snd).mem_iff, List.map_cons]
      rw [tk] at hr
      rcases List.mem_append.mp hr with z | z
      · exact List.mem_cons_of_mem _ (g.every r z)
      · cases List.mem_singleton.mp z
        exact List.mem_cons_self
section
variable {P : Program} {w : World} {A : Around} {E : Value → Shared → Prop} {s : Shared}
/-- a set that was just made -/
abbrev newSetObj (w : World) : Obj := { cls := .type "set", dict := none, data := .set #[] 0 (.fresh 0 0 (!w.params.followText "set-order")) }
theorem nset_new {h : Heap} {a : Addr} (g : h.get? a = some (newSetObj w)) : NSet w h a [] #[] 0 (.fresh 0 0 (!w.params.followText "set-order")) where
  obj := ⟨_, g, ⟨rfl, rfl, rfl⟩, rfl⟩
  eqs := rfl
  tok := ⟨List.Pairwise.nil, rfl, rfl, .inl rfl, fun x hx => absurd hx (by first | exact List.not_mem_nil | simp), fun i h j hi => absurd hi (by simp [hashesN])⟩
  dif := List.nodup_nil
  key := fun r hr => absurd hr (by simp)
  led := by
    cases z : w.params.followText "set-order"
    · exact .inr rfl
    · exact .inl rfl
  gap := by show 0 < 7 * 3; decide
  small := by decide
theorem NSet.keep {h h' : Heap} {a : Addr} {L : List NRow} {es : Array (Int × Value)} {ep : Nat} {t : SetTable} (N : NSet w h a L es ep t) (ha : ∀ o, h.get? a = some o → h'.get? a = some o) (hk : ∀ r ∈ L, TupKey h' r.2 r.1) : NSet w h' a L es ep t := by
  obtain ⟨o, g, z⟩ := N.obj
  exact ⟨⟨o, ha o g, z⟩, N.eqs, N.tok, N.dif, hk, N.led, N.gap, N.small⟩
/-- the loop of set.update -/
theorem nupdate {I : Addr} {fp wr : List Addr} {G : Array GenState → Array GenState → Prop} {n : Nat} {Pv : Nat → Value → Prop} {St : Nat → Shared → Prop} {R : Result → Shared → Prop}
    (W : WalksS P w A.in1 I fp wr G n Pv St) (S : Addr) (hS : S ∉ fp) (ks : List NRow) (hn : n = ks.length) (few : ks.length < 64) (val : ∀ i v, Pv i v → ∃ r, ks[i]? = some r ∧ v = .ref r.1)
    (h0 : Heap) (hk : ∀ r ∈ ks, TupKey h0 r.2 r.1) (hS0 : h0.get? S = none) (hw0 : ∀ b ∈ wr, h0.get? b = none) (hu : A.in1.units + 8 < cLine) :
    ∀ (d i : Nat) (s : Shared), n - i = d → i ≤ n → St i s → (∀ b o, h0.get? b = some o → s.heap.get? b = some o) → (∃ L es ep t, NSet w s.heap S L es ep t ∧ NGot ks i L) →
      (∀ s' L es ep t, Moved (S :: wr) G s s' → NSet w s'.heap S L es ep t → NGot ks n L → (∀ b o, h0.get? b = some o → s'.heap.get? b = some o) → R (.ok (.ret .none)) s') →
      codeAny (model P w) A (.builtin "set.update.loop" ⟨[.ref S, .ref I], []⟩) R s := by
  have out : S ∉ wr := fun z => hS (W.sub _ z)
  have up : ∀ b ∈ wr, b ∈ S :: wr := fun b z => List.mem_cons_of_mem _ z
  have moved : ∀ {s s' : Shared}, Moved wr G s s' → (∀ b o, h0.get? b = some o → s.heap.get? b = some o) → ∀ b o, h0.get? b = some o → s'.heap.get? b = some o := fun m ext b o e =>
    m.heap b o (fun z => nomatch (hw0 b z).symm.trans e) (ext b o e)
  intro d
  induction d with
  | zero =>
    intro i s hd hi st ext ⟨L, es, ep, t, N, g⟩ hR
    obtain rfl : i = n := by omega
    refine codeAny_builtin F.entry_set_update_loop ?_
    rw [Around.under_plainId F.plain_set_update_loop _]
    show wpAny _ A.in1 (pyNext (.ref I) >>= _) _ _ s
    refine wpAny_bind (W.done s _ _ st fun s' m => ?_)
    show wpAny _ A.in1 (ret Value.none) _ _ s'
    have ext' := moved m ext
    exact wpAny_pure (hR s' L es ep t (m.mono up) (N.keep (fun o e => m.heap S o out e) fun r hr => (hk r (List.mem_of_mem_take (g.only r hr))).keep ext') g ext')
  | succ d ih =>
    intro i s hd hi st ext ⟨L, es, ep, t, N, g⟩ hR
    have lt : i < n := by omega
    refine codeAny_builtin F.entry_set_update_loop ?_
    rw [Around.under_plainId F.plain_set_update_loop _]
    show wpAny _ A.in1 (pyNext (.ref I) >>= _) _ _ s
    refine wpAny_bind (W.item i s _ _ lt st fun v s' hv st' m => ?_)
    obtain ⟨r, hr, rfl⟩ := val i v hv
    have ext' := moved m ext
    have N' : NSet w s'.heap S L es ep t := N.keep (fun o e => m.heap S o out e) fun q hq => (hk q (List.mem_of_mem_take (g.only q hq))).keep ext'
    have kr : TupKey s'.heap r.2 r.1 := (hk r (List.mem_of_getElem? hr)).keep ext'
    show wpAny _ A.in1 (holding [Value.ref r.1] (setAdd S (.ref r.1)) >>= _) _ _ s'
    refine wpAny_bind (wpAny_holding ?_)
    unfold setAdd
    refine wpAny_holding ?_
    refine wpAny_bind (pyHash_key _ _ _ _ _ kr.is (by have := kr.deep; omega) ?_)
    refine nadd (s := { s' with toks := s'.toks + r.2.draws }) N' kr hu (by have := g.most; omega) fun b h' L' es' ep' t' sb N2 c1 c2 => ?_
    have g' : NGot ks (i + 1) L' := g.next hr c1 c2
    have ext2 : ∀ b o, h0.get? b = some o → h'.get? b = some o := fun b o e => (sb.2 b (fun z => by rw [z, hS0] at e; exact nomatch e)).trans (ext' b o e)
    refine wpAny_pure ⟨plainId_quiet F.plain_set_update_loop _, ih (i + 1) _ (by omega) lt (W.frame _ s' _ _ st' (Nat.le_add_right _ _) fun b hb o e => ?_) ext2 ⟨L', es', ep', t', N2, g'⟩ fun s2 L2 es2 ep2 t2 m2 N3 g3 ext3 => ?_⟩
    · rw [sb.2 b (fun z => hS (z ▸ hb))]
      exact e
    · refine hR s2 L2 es2 ep2 t2 (Moved.trans W.gtrans ((m.mono up).then_heap (Nat.le_add_right _ _) fun b o hb e => ?_) m2) N3 g3 ext3
      rw [sb.2 b (fun z => hb (z ▸ List.mem_cons_self))]
      exact e
end
end L2

set_option Elab.async false
set_option linter.all false
set_option maxRecDepth 100000
set_option maxHeartbeats 4000000
/-! sets of nested tuples: the call set(list) -/
namespace L2
open PySem PySem.SeqAt PySem.Spec PyProof.Rows
section
variable {P : Program} {w : World} {A : Around} {E : Value → Shared → Prop} {s : Shared}
theorem absent_of {h : Heap} {b : Addr} (z : h.objs.size ≤ b) : h.get? b = none := by
  cases q : h.get? b with
  | none => rfl
  | some o => exact absurd (Nat.lt_of_lt_of_le (Heap.lt_size q) z) (Nat.lt_irrefl _)
/-- what a call of set leaves behind -/
def NMade (w : World) (s : Shared) (ks : List NRow) (s' : Shared) : Prop := ∃ h' tk L es ep t, s' = { s with heap := h', toks := tk } ∧ NSet w h' s.heap.objs.size L es ep t ∧ NGot ks ks.length L ∧ ∀ b o, s.heap.get? b = some o → h'.get? b = some o
theorem nset_call {l : Addr} {us : Array Value} (ks : List NRow) {Q : Value → Shared → Prop} (hh : A.handled = none) (hl : s.heap.IsList l us) (hit : us.toList = ks.map fun r => Value.ref r.1)
    (hk : ∀ r ∈ ks, TupKey s.heap r.2 r.1) (few : ks.length < 64) (hu : A.units + 16 < cLine) (q : ∀ s', NMade w s ks s' → Q (.ref s.heap.objs.size) s') :
    wpAny (model P w) A (call (.type "set") [.ref l]) Q E s := by
  have n0 : us.size = ks.length := by
    have z := congrArg List.length hit
    simpa using z
  obtain ⟨c, tl, mro⟩ := F.called_set.mro
  have made_ := F.called_set.made
  have sub_ := F.called_set.sub
  refine wpAny_call (codeAny_of_tree ?_)
  show wpAny _ _ (callAny (.type "set") _) _ _ _
  refine wpAny_pure ⟨Code.quiet_builtin _ (by decide +kernel), codeAny_builtin F.entry_type_call ?_⟩
  rw [Around.under_plain (weight_type_call_type "set" [.ref l] []) rfl]
  have isn := F.called_set.notType
  have can := F.called_set.canCreate
  have fit := F.typeCall_set_1 (.ref l)
  repeat (any_goals (first | assumption | wp_step))
  refine codeAny_mono (code_set_led1 (.ref l) (E := E) (Q₁ := fun obj s₁ => obj = .ref s.heap.objs.size ∧ s₁ = { s with heap := s.heap.push (newSetObj w) }) ⟨rfl, rfl⟩) fun r s₁ hr => ?_
  cases r with
  | error e => exact hr
  | ok fl =>
    cases fl with
    | ret obj =>
      obtain ⟨rfl, rfl⟩ := hr
      have gS : (s.heap.push (newSetObj w)).get? s.heap.objs.size = some (newSetObj w) := Heap.get?_push_size _ rfl
      have tS : Shared.TypeIs { s with heap := s.heap.push (newSetObj w) } (.ref s.heap.objs.size) "set" := ⟨_, gS, rfl⟩
      have look := F.called_set.init.lookup
      have bind_ := F.called_set.init.bind (.ref s.heap.objs.size)
      repeat (any_goals (first | assumption | wp_step))
      refine codeAny_mono (codeAny_call_builtin (R := wants (fun r s₂ => r = .none ∧ NMade w s ks s₂) E) F.called_set.init.plain F.entry_set_init (check_set_init_1 tS ?_)) fun r₂ s₂ hr₂ => ?_
      · obtain ⟨⟨kl, dl, tl', sl⟩, gl, rfl, nl, rfl⟩ := hl
        have gl' : (s.heap.push (newSetObj w)).get? l = some { cls := .type "list", dict := dl, data := .seq us nl, slots := sl } := Heap.get?_push_of_some _ gl
        have sub1 := F.sub_list_set
        have sub2 := F.sub_list_frozenset
        have nd : (Value.type "list" == Value.type "dict") = false := by decide
        have L1 : (s.heap.push (newSetObj w)).IsList l us := ⟨_, gl', rfl, nl, rfl⟩
        unfold Builtin.«set.__init__» noKeywords Builtin.Frozenset.updateFrom
        generalize hit_ : pyIter = IT
        wp_walk
        subst hit_
        refine wpAny_pyIter_list L1 ?_
        refine wpAny_bind (wpAny_runValue ?_)
        have ll : l < s.heap.objs.size := Heap.lt_size gl
        have sz1 : (s.heap.push (newSetObj w)).objs.size = s.heap.objs.size + 1 := Heap.size_push ..
        have ne1 : l ≠ (s.heap.push (newSetObj w)).objs.size := by
          rw [sz1]
          exact Nat.ne_of_lt (Nat.lt_succ_of_lt ll)
        have out : s.heap.objs.size ∉ [(s.heap.push (newSetObj w)).objs.size, l] := by
          rw [sz1]
          intro z
          rcases List.mem_cons.mp z with z | z
          · exact absurd z (Nat.ne_of_lt (Nat.lt_succ_self _))
          · exact absurd (List.mem_singleton.mp z) (Nat.ne_of_gt ll)
        have val : ∀ (i : Nat) (v : Value), us[i]? = some v → ∃ r, ks[i]? = some r ∧ v = .ref r.1 := fun i v hv => by
          rw [← Array.getElem?_toList, hit, List.getElem?_map] at hv
          obtain ⟨r, hr, e⟩ := Option.map_eq_some_iff.mp hv
          exact ⟨r, hr, e.symm⟩
        have W0 := (Walks.list (prog := P) (w := w) (A := A.in1.in1.in1) (show A.in1.in1.in1.handled = none by simp [hh]) (s.heap.push (newSetObj w)).objs.size l ne1 us).toS
        refine nupdate W0 s.heap.objs.size out ks n0 few val s.heap hk (absent_of (Nat.le_refl _)) (fun b hb => absent_of (by
            rw [List.mem_singleton.mp hb, sz1]
            exact Nat.le_succ _)) (by simp only [Around.in1_units]; omega) (us.size - 0) 0 _ (by omega) (Nat.zero_le _)
          ⟨⟨_, Heap.get?_push_size _ rfl, rfl, rfl⟩, L1.push _⟩ (fun b o e => Heap.get?_push_of_some _ (Heap.get?_push_of_some _ e)) ?first ?last
        case first => exact ⟨[], #[], 0, _, nset_new (Heap.get?_push_of_some _ gS), NGot.none_ ks⟩
        case last =>
          intro s' L es ep t m N g ext
          obtain ⟨h', gn, dr, tk', os'⟩ := s'
          cases (show gn = s.gens from m.gens)
          cases (show dr = s.drawn from m.drawn)
          cases (show os' = s.os from m.os)
          show wpAny _ _ _ _ _ _
          refine wpAny_pure ?_
          show wpAny _ _ (ret Value.none) _ _ _
          rw [n0] at g
          exact wpAny_pure ⟨rfl, h', tk', L, es, ep, t, rfl, N, g, ext⟩
      · cases r₂ with
        | error e => exact hr₂
        | ok fl₂ =>
          cases fl₂ with
          | ret r =>
            obtain ⟨rfl, hm⟩ := hr₂
            have hm' := hm
            obtain ⟨h', tk, L, es, ep, t, rfl, N, g, ext⟩ := hm
            repeat (any_goals (first | assumption | wp_step))
            exact q _ hm'
          | _ => exact hr₂.elim
    | _ => exact hr.elim
end
end L2

set_option Elab.async false
set_option linter.all false
set_option maxRecDepth 100000
set_option maxHeartbeats 4000000
/-! data that sets take, and their order -/
namespace L2
open PySem PySem.W PySem.SeqAt PySem.Spec PyProof.Rows
mutual
def nkey : PyData → NestedKey
  | .none => .none
  | .bool b => .num (if b = true then 1 else 0)
  | .int i => .num i
  | .str x => .text x
  | .tuple ds => .tup (nkeys ds)
  | .list _ => .none
  | .dict _ => .none
def nkeys : List PyData → List NestedKey
  | [] => []
  | d :: ds => nkey d :: nkeys ds
end
mutual
/-- neither a list nor a dict, nor one within -/
def keyable : PyData → Bool
  | .list _ => false
  | .dict _ => false
  | .tuple ds => keyables ds
  | _ => true
def keyables : List PyData → Bool
  | [] => true
  | d :: ds => keyable d && keyables ds
end
mutual
theorem nkey_depth : ∀ d : PyData, keyable d = true → (nkey d).depth = d.depth
  | .none, _ => rfl
  | .bool _, _ => rfl
  | .int _, _ => rfl
  | .str _, _ => rfl
  | .tuple ds, k => by
    have z := nkeys_depth ds (by simpa [keyable] using k)
    simp only [nkey, NestedKey.depth, PyData.depth, z]
  | .list _, k => by simp [keyable] at k
  | .dict _, k => by simp [keyable] at k
theorem nkeys_depth : ∀ ds : List PyData, keyables ds = true → NestedKey.depthAll (nkeys ds) = PyData.depthAll ds
  | [], _ => rfl
  | d :: ds, k => by
    rw [keyables, Bool.and_eq_true] at k
    simp only [nkeys, NestedKey.depthAll, PyData.depthAll, nkey_depth d k.1, nkeys_depth ds k.2]
end
mutual
theorem nkey_is {h : Heap} : ∀ (d : PyData) (v : Value) (as : List Addr), keyable d = true → Reads h v d as → NestedIs h (nkey d) v
  | .none, _, _, _, r => by cases r; exact .none
  | .bool b, _, _, _, r => by cases r; exact .bool rfl
  | .int i, _, _, _, r => by cases r; exact .int _ _
  | .str x, _, _, _, r => by cases r; exact .text _ _
  | .tuple ds, _, _, k, r => by
    cases r with
    | tuple g1 g2 g3 g4 => exact .tup g1 g2 g3 (nkeys_is ds _ _ (by simpa [keyable] using k) g4)
  | .list _, _, _, k, _ => by simp [keyable] at k
  | .dict _, _, _, k, _ => by simp [keyable] at k
theorem nkeys_is {h : Heap} : ∀ (ds : List PyData) (vs : List Value) (as : List Addr), keyables ds = true → ReadsAll h vs ds as → NestedAll h (nkeys ds) vs
  | [], _, _, _, r => by cases r; exact .nil
  | d :: ds, _, _, k, r => by
    rw [keyables, Bool.and_eq_true] at k
    cases r with
    | cons r1 r2 => exact .cons (nkey_is d _ _ k.1 r1) (nkeys_is ds _ _ k.2 r2)
end
mutual
theorem nkey_inj : ∀ d e : PyData, keyable d = true → keyable e = true → alike d e = true → nkey d = nkey e → d = e
  | .none, e, _, _, a, _ => by cases e <;> first | rfl | simp [alike] at a
  | .bool b, e, _, _, a, q => by
    cases e with
    | bool c =>
      simp only [nkey] at q
      injection q with q
      cases b <;> cases c <;> first | rfl | exact absurd q (by decide)
    | _ => simp [alike] at a
  | .int i, e, _, _, a, q => by
    cases e with
    | int j =>
      simp only [nkey] at q
      injection q with q
      rw [q]
    | _ => simp [alike] at a
  | .str x, e, _, _, a, q => by
    cases e with
    | str y =>
      simp only [nkey] at q
      injection q with q
      rw [q]
    | _ => simp [alike] at a
  | .tuple ds, e, k, k', a, q => by
    cases e with
    | tuple es =>
      simp only [nkey] at q
      injection q with q
      rw [nkeys_inj ds es (by simpa [keyable] using k) (by simpa [keyable] using k') (by simpa [alike] using a) q]
    | _ => simp [alike] at a
  | .list _, _, k, _, _, _ => by simp [keyable] at k
  | .dict _, _, k, _, _, _ => by simp [keyable] at k
theorem nkeys_inj : ∀ ds es : List PyData, keyables ds = true → keyables es = true → alikeAll ds es = true → nkeys ds = nkeys es → ds = es
  | [], [], _, _, _, _ => rfl
  | [], _ :: _, _, _, _, q => by simp [nkeys] at q
  | _ :: _, [], _, _, _, q => by simp [nkeys] at q
  | d :: ds, e :: es, k, k', a, q => by
    rw [keyables, Bool.and_eq_true] at k k'
    obtain ⟨a1, a2⟩ := alike_all_cons a
    simp only [nkeys] at q
    injection q with q1 q2
    rw [nkey_inj d e k.1 k'.1 a1 q1, nkeys_inj ds es k.2 k'.2 a2 q2]
end
mutual
theorem eqv_same : ∀ d e : PyData, alike d e = true → PyData.eqv d e = true → d = e
  | .none, e, a, _ => by cases e <;> first | rfl | simp [alike] at a
  | .bool b, e, a, q => by
    cases e with
    | bool c => cases b <;> cases c <;> first | rfl | (simp [PyData.eqv] at q)
    | _ => simp [alike] at a
  | .int i, e, a, q => by
    cases e with
    | int j =>
      have z : i = j := by simpa [PyData.eqv] using q
      rw [z]
    | _ => simp [alike] at a
  | .str x, e, a, q => by
    cases e with
    | str y =>
      have z : x = y := by simpa [PyData.eqv] using q
      rw [z]
    | _ => simp [alike] at a
  | .tuple ds, e, a, q => by
    cases e with
    | tuple es => rw [eqvs_same ds es (by simpa [alike] using a) (by simpa [PyData.eqv] using q)]
    | _ => simp [alike] at a
  | .list ds, e, a, q => by
    cases e with
    | list es => rw [eqvs_same ds es (by simpa [alike] using a) (by simpa [PyData.eqv] using q)]
    | _ => simp [alike] at a
  | .dict _, e, a, _ => by cases e <;> simp [alike] at a
theorem eqvs_same : ∀ ds es : List PyData, alikeAll ds es = true → PyData.eqvAll ds es = true → ds = es
  | [], [], _, _ => rfl
  | [], _ :: _, _, q => by simp [PyData.eqvAll] at q
  | _ :: _, [], _, q => by simp [PyData.eqvAll] at q
  | d :: ds, e :: es, a, q => by
    obtain ⟨a1, a2⟩ := alike_all_cons a
    rw [eqv_all_cons, Bool.and_eq_true] at q
    rw [eqv_same d e a1 q.1, eqvs_same ds es a2 q.2]
end
/-- of two unlike data of one kind one is below the other -/
theorem dataLt_or {d e : PyData} (a : alike d e = true) (ne : d ≠ e) : dataLt d e = true ∨ dataLt e d = true := by
  cases h1 : dataLt d e with
  | true => exact .inl rfl
  | false =>
    cases h2 : dataLt e d with
    | true => exact .inr rfl
    | false =>
      exfalso
      have tk : keyToks d = keyToks e := (listOrd itemOrd).total _ _ h1 h2
      cases q : PyData.eqv d e with
      | true => exact ne (eqv_same d e a q)
      | false =>
        have z := (toks_eqv d e a).2 q [] [.inl 0]
        rw [tk, lex_pre] at z
        have z2 := (toks_eqv d e a).2 q [] []
        rw [tk, lex_pre] at z2
        rw [← z2] at z
        exact absurd z (by decide)
theorem dataLt_irrefl (d : PyData) : dataLt d d = false := (listOrd itemOrd).irrefl _
theorem dataLt_trans {d e f : PyData} (h1 : dataLt d e = true) (h2 : dataLt e f = true) : dataLt d f = true := (listOrd itemOrd).trans _ _ _ h1 h2
end L2

set_option Elab.async false
set_option linter.all false
set_option maxRecDepth 100000
set_option maxHeartbeats 4000000
/-! sorted(set) of nested tuples -/
namespace L2
open PySem PySem.W PySem.SeqAt PySem.Spec PyProof.Rows PySem.Calls
theorem perm_back {α β : Type} {f : α → β} {l k : List β} (p : l.Perm k) : ∀ m : List α, k = m.map f → ∃ m' : List α, m'.Perm m ∧ l = m'.map f := by
  induction p with
  | nil =>
    intro m e
    exact ⟨[], by cases m with | nil => exact .nil | cons _ _ => simp at e, rfl⟩
  | cons x _ ih =>
    intro m e
    cases m with
    | nil => simp at e
    | cons y m =>
      rw [List.map_cons] at e
      injection e with e1 e2
      obtain ⟨m', h1, h2⟩ := ih m e2
      exact ⟨y :: m', h1.cons y, by rw [h2, e1, List.map_cons]⟩
  | swap x y l =>
    intro m e
    match m, e with
    | [], e => simp at e
    | [_], e => simp at e
    | u :: v :: m, e =>
      simp only [List.map_cons] at e
      injection e with e1 e2
      injection e2 with e2 e3
      exact ⟨v :: u :: m, .swap _ _ _, by simp only [List.map_cons]; rw [e1, e2, e3]⟩
  | trans _ _ ih1 ih2 =>
    intro m e
    obtain ⟨m2, h1, h2⟩ := ih2 m e
    obtain ⟨m3, h3, h4⟩ := ih1 m2 h2
    exact ⟨m3, h3.trans h1, h4⟩
theorem sub_back {α β : Type} {f : α → β} {m : List α} : ∀ l : List β, (∀ x ∈ l, x ∈ m.map f) → ∃ m' : List α, l = m'.map f ∧ ∀ y ∈ m', y ∈ m
  | [], _ => ⟨[], rfl, fun y h => absurd h (by simp)⟩
  | x :: l, h => by
    obtain ⟨y, hy, e⟩ := List.mem_map.mp (h x List.mem_cons_self)
    obtain ⟨m', e', h'⟩ := sub_back l fun z hz => h z (List.mem_cons_of_mem _ hz)
    refine ⟨y :: m', by rw [List.map_cons, e, e'], fun z hz => ?_⟩
    rcases List.mem_cons.mp hz with rfl | hz
    · exact hy
    · exact h' z hz
/-- a tuple of the heap and what it reads as -/
abbrev TRow := Addr × PyData
abbrev TRow.n (p : TRow) : NRow := (p.1, nkey p.2)
abbrev TRow.r (p : TRow) : Value := .ref p.1
theorem each_rows {R : Value → TRow → Prop} : ∀ T : List TRow, (∀ p ∈ T, R p.r p) → EachIs R (T.map TRow.r) T
  | [], _ => .nil
  | p :: T, h => .cons (h p List.mem_cons_self) (each_rows T fun q hq => h q (List.mem_cons_of_mem _ hq))
theorem rows_each : ∀ {vs : List Value} {T : List TRow}, EachIs (fun v p => v = TRow.r p) vs T → vs = T.map TRow.r
  | _, _, .nil => rfl
  | _, _, .cons h t => by rw [h, rows_each t, List.map_cons]
section
variable {P : Program} {w : World} {A : Around} {E : Value → Shared → Prop} {s : Shared}
/-- the rows, sorted -/
def sortT (T : List TRow) : List TRow := T.mergeSort (dataLe false Prod.snd)
theorem sortT_perm (T : List TRow) : (sortT T).Perm T := List.mergeSort_perm _ _
theorem sortT_up (T : List TRow) (hal : AllAlike (T.map Prod.snd)) (nd : (T.map Prod.snd).Nodup) : (sortT T).Pairwise fun p q => dataLt p.2 q.2 = true := by
  have srt : (sortT T).Pairwise fun p q => dataLe false Prod.snd p q = true := sort_pairwise (sortLe_total (listOrd itemOrd) false fun p : TRow => keyToks p.2) T
  have nd' : ((sortT T).map Prod.snd).Nodup := ((sortT_perm T).map Prod.snd).nodup_iff.mpr nd
  have ne : (sortT T).Pairwise fun p q => p.2 ≠ q.2 := List.pairwise_map.mp nd'
  refine List.Pairwise.imp_of_mem (fun {p q} hp hq z => ?_) (srt.and ne)
  obtain ⟨z1, z2⟩ := z
  have mp := (sortT_perm T).mem_iff.mp hp
  have mq := (sortT_perm T).mem_iff.mp hq
  rcases dataLt_or (hal _ (List.mem_map_of_mem mp) _ (List.mem_map_of_mem mq)) z2 with c | c
  · exact c
  · exfalso
    have z3 : (!dataLt q.2 p.2) = true := z1
    rw [c] at z3
    exact absurd z3 (by decide)
/-- sorted of a set of tuples -/
theorem nsorted {a : Addr} {T : List TRow} {es : Array (Int × Value)} {ep : Nat} {t : SetTable} {Q : Value → Shared → Prop} (N : NSet w s.heap a (T.map TRow.n) es ep t) (hh : A.handled = none)
    (hr : ∀ p ∈ T, ∃ as, Reads s.heap p.r p.2 as) (hal : AllAlike (T.map Prod.snd)) (ht : ∀ p ∈ T, ∃ xs, p.2 = .tuple xs) (hu : ∀ p ∈ T, A.units + 4 + p.2.depth < cLine)
    (q : ∀ s' b c T', (∀ b o, s.heap.get? b = some o → s'.heap.get? b = some o) → s'.gens = s.gens → s'.os = s.os → s.heap.objs.size ≤ b → T'.Perm T → s'.heap.get? b = some (seqObj "list" ((sortT T').map TRow.r).toArray c) → Q (.ref b) s') :
    wpAny (model P w) A (call (.builtin "sorted") [.ref a]) Q E s := by
  obtain ⟨o, g, hex, hd⟩ := N.obj
  have few := N.small
  rw [List.length_map] at few
  refine Calls.call_function_entry kind_sorted plain_sorted entry_sorted (args_sorted1 _) ?_
  unfold Builtin.«sorted»
  refine wpAny_bind (m := checkCount "sorted" 1 1 _) (wpAny_pure ?_)
  refine wpAny_bind (collect_set (A := A.in1) hh ⟨o, g, hex.1, hd⟩ N.fits (by rw [N.size, List.length_map]; unfold scanBound; omega) N.tok.ris N.led fun s1 vs k1 hz g1 o1 pm => ?_)
  have e1 : es.toList.map (·.2) = T.map TRow.r := by
    rw [N.eqs]
    unfold nrows
    rw [List.map_map, List.map_map]
    first | rfl | done
  obtain ⟨T2, p2, rfl⟩ := perm_back pm T e1
  have len2 : (T2.map TRow.r).length < 64 := by rw [List.length_map, p2.length_eq]; exact few
  refine wpAny_bind (wpAny_newList ?_ (by rw [sizeLine_eq]; omega))
  have gL : (s1.heap.push (seqObj "list" (T2.map TRow.r).toArray 0)).get? s1.heap.objs.size = some (seqObj "list" (T2.map TRow.r).toArray 0) := Heap.get?_push_size _ rfl
  have rd : EachIs (fun v p => ∃ as, Reads (sortingHeap (s1.heap.push (seqObj "list" (T2.map TRow.r).toArray 0)) s1.heap.objs.size (T2.map TRow.r)) v p.2 as) (T2.map TRow.r) T2 :=
    each_rows T2 fun p hp => by
      obtain ⟨as, r⟩ := hr p (p2.mem_iff.mp hp)
      exact ⟨as, PyProof.Rows.Reads.keeps (fun b u e => by
        have z := k1 b u e
        exact sortingHeap_old (Nat.ne_of_lt (Heap.lt_size z)) (Heap.get?_push_of_some _ z)) r⟩
  have al2 : AllAlike (T2.map Prod.snd) := fun d hd e he => hal d ((p2.map Prod.snd).mem_iff.mp hd) e ((p2.map Prod.snd).mem_iff.mp he)
  have tp2 : ∀ d ∈ T2.map Prod.snd, ∃ xs, d = PyData.tuple xs := fun d hd => by
    obtain ⟨p, hp, rfl⟩ := List.mem_map.mp hd
    exact ht p (p2.mem_iff.mp hp)
  have u2 : ∀ d, d ∈ T2.map Prod.snd → A.in1.in1.units + d.depth < cLine := fun d hd => by
    obtain ⟨p, hp, rfl⟩ := List.mem_map.mp hd
    have z := hu p (p2.mem_iff.mp hp)
    simp only [Around.in1_units]
    omega
  have srt := sortsAt_tups (prog := P) (w := w) (A := A.in1.in1) (s := { s1 with heap := sortingHeap (s1.heap.push (seqObj "list" (T2.map TRow.r).toArray 0)) s1.heap.objs.size (T2.map TRow.r) }) (each_map (R := fun v d => ∃ as, Reads _ v d as) Prod.snd rd) al2 tp2 u2
  have out := rows_each (sortVals_data (R := fun v p => v = TRow.r p) (enc := Prod.snd) false (each_rows T2 fun p _ => rfl) rd al2)
  refine wpAny_bind (wpAny_holding (wpAny_call_entry slot_list_sort ⟨_, gL, rfl⟩ entry_list_sort (list_sort_vals (s := { s1 with heap := s1.heap.push (seqObj "list" (T2.map TRow.r).toArray 0) }) gL srt (by rw [sizeLine_eq]; omega) ⟨_, rfl, ?_⟩) (args_list_sort _)))
  rw [out]
  obtain ⟨c, hc⟩ := sortedHeap_at (vs := T2.map TRow.r) (out := ((T2.mergeSort (dataLe false Prod.snd)).map TRow.r).toArray) gL
  refine wpAny_pure ⟨_, rfl, q _ s1.heap.objs.size c T2 (fun b u e => ?_) g1 o1 hz p2 hc⟩
  have z := k1 b u e
  have lt := Heap.lt_size z
  show (sortedHeap (s1.heap.push (seqObj "list" (T2.map TRow.r).toArray 0)) s1.heap.objs.size (T2.map TRow.r) _).get? b = some u
  rw [sortedHeap_old (Nat.ne_of_lt lt) (by rw [size_push']; exact Nat.lt_succ_of_lt lt)]
  exact Heap.get?_push_of_some _ z
end
end L2

set_option Elab.async false
set_option linter.all false
set_option maxRecDepth 100000
set_option maxHeartbeats 4000000
/-! sets of nested tuples, and sorted lists of tuples: rules of the layer -/
namespace L2
open PySem PySem.W PySem.Spec PyProof.Rows
abbrev TRow.v (p : TRow) : V := .ref p.1
theorem tuple_ref {H : Hp} {v : V} {ds : List PyData} (h : Dat H v (.tuple ds)) : ∃ a, v = .ref a := by
  cases h with
  | tup _ _ => exact ⟨_, rfl⟩
theorem rows_of_dat {H : Hp} : ∀ {vs : List V} {ds : List PyData}, DatAll H vs ds → (∀ d ∈ ds, ∃ xs, d = .tuple xs) → ∃ T : List TRow, vs = T.map TRow.v ∧ ds = T.map Prod.snd ∧ ∀ p ∈ T, Dat H p.v p.2
  | _, _, .nil, _ => ⟨[], rfl, rfl, fun p hp => absurd hp (by simp)⟩
  | _, _, .cons (v := v) (d := d) h t, ht => by
    obtain ⟨T, rfl, rfl, h3⟩ := rows_of_dat t fun e he => ht e (List.mem_cons_of_mem _ he)
    obtain ⟨xs, rfl⟩ := ht d List.mem_cons_self
    obtain ⟨a, rfl⟩ := tuple_ref h
    refine ⟨(a, .tuple xs) :: T, rfl, rfl, fun p hp => ?_⟩
    rcases List.mem_cons.mp hp with rfl | hp
    · exact h
    · exact h3 p hp
theorem rows_vals : ∀ T : List TRow, Vals (T.map TRow.v) (T.map TRow.r)
  | [] => .nil
  | _ :: T => .cons rfl (rows_vals T)
theorem vals_rows : ∀ {T : List TRow} {us : List Value}, Vals (T.map TRow.v) us → us = T.map TRow.r
  | [], _, .nil => rfl
  | _ :: T, _, .cons r t => by
    cases (show _ = Value.ref _ from r)
    rw [vals_rows t, List.map_cons]
/-- what is asked of the data of tuples that are sorted -/
structure Sorty (T : List TRow) : Prop where
  alike : AllAlike (T.map Prod.snd)
  tup : ∀ p ∈ T, ∃ xs, p.2 = .tuple xs
  deep : ∀ p ∈ T, p.2.depth ≤ 8
theorem Sorty.sub {T T' : List TRow} (h : Sorty T) (s : ∀ p ∈ T', p ∈ T) : Sorty T' where
  alike := fun d hd e he => by
    obtain ⟨p, hp, rfl⟩ := List.mem_map.mp hd
    obtain ⟨q, hq, rfl⟩ := List.mem_map.mp he
    exact h.alike _ (List.mem_map_of_mem (s p hp)) _ (List.mem_map_of_mem (s q hq))
  tup := fun p hp => h.tup p (s p hp)
  deep := fun p hp => h.deep p (s p hp)
/-- the set at a, without its members -/
structure NSet0 (w : World) (h : Heap) (a : Addr) (L : List NRow) : Prop where
  ex : ∃ (es : Array (Int × Value)) (ep : Nat) (t : SetTable), (∃ o, h.get? a = some o ∧ o.ExactSet ∧ o.data = .set es ep t) ∧ es.toList = nrows w L ∧ TabOk t (hashesN w L) ∧ (L.map Prod.snd).Nodup ∧
    (w.params.followText "set-order" = true ∨ t.led = true) ∧ L.length * 5 < t.mask * 3 ∧ L.length < 64
def SetNO (w : World) (a : Addr) (L : List NRow) : HO := .ext fun h => NSet0 w h a L
theorem NSet.less {w : World} {h : Heap} {a : Addr} {L : List NRow} {es : Array (Int × Value)} {ep : Nat} {t : SetTable} (N : NSet w h a L es ep t) : NSet0 w h a L := ⟨es, ep, t, N.obj, N.eqs, N.tok, N.dif, N.led, N.gap, N.small⟩
theorem NSet0.full {w : World} {h : Heap} {a : Addr} {L : List NRow} (N : NSet0 w h a L) (hk : ∀ r ∈ L, TupKey h r.2 r.1) : ∃ es ep t, NSet w h a L es ep t := by
  obtain ⟨es, ep, t, h1, h2, h3, h4, h5, h6, h7⟩ := N.ex
  exact ⟨es, ep, t, h1, h2, h3, h4, hk, h5, h6, h7⟩
theorem setNO_ok {P : Program} {w : World} {H : Hp} {h : Heap} {a : Addr} {L : List NRow} (N : NSet0 w h a L) : ObjOk P w H h a (SetNO w a L) := by
  obtain ⟨es, ep, t, ⟨o, g, r⟩, z⟩ := N.ex
  refine ⟨N, ⟨o, g⟩, fun h1 h2 p k => ?_⟩
  obtain ⟨es', ep', t', ⟨o', g', r'⟩, z'⟩ := NSet0.ex p
  exact ⟨es', ep', t', ⟨o', k o' g', r'⟩, z'⟩
section
variable {X : Cx}
theorem Inv.reads {pins : List (Addr × Obj)} {σ : St} {H : Hp} {s : Shared} (I : Inv X pins σ H s) {p : TRow} (d : Dat H p.v p.2) : ∃ as, Reads s.heap p.r p.2 as := reads_of_dat I.hok d rfl
theorem tupKey_of {h : Heap} {p : TRow} (r : ∃ as, Reads h p.r p.2 as) (k : keyable p.2 = true) (z : p.2.depth ≤ 8) : TupKey h (nkey p.2) p.1 := by
  obtain ⟨as, r⟩ := r
  exact ⟨nkey_is _ _ as k r, by rw [nkey_depth _ k]; exact z⟩
/-- set(xs), xs a list of nested tuples -/
def rSetN (K : PySem.W.Frag) (w : World) : List V → Hp → VK → Prop := fun xs H Q => ∃ (l : Addr) (T : List TRow), xs = [V.ref l] ∧ SqL K H l (T.map TRow.v) ∧ (∀ p ∈ T, Dat H p.v p.2) ∧ Sorty T ∧ (∀ p ∈ T, keyable p.2 = true) ∧ T.length < 64 ∧
  ∀ (a : Addr) (T' : List TRow), H a = none → (∀ p ∈ T', p ∈ T) → (∀ p ∈ T, p.2 ∈ T'.map Prod.snd) → (T'.map Prod.snd).Nodup → Q (.ref a) (upd H a (SetNO w a (T'.map TRow.n)))
theorem cr_setN (hc : X.calm = true) (hu : X.A.units + 64 < cLine) : CallR X (.type "set") (rSetN X.K X.w) := by
  intro pins s σ H xs us Q I r h
  obtain ⟨l, T, rfl, hl, hd, so, hk, few, q⟩ := h
  rw [Vals.ref1 r]
  obtain ⟨its, rv, pl, hz⟩ := I.list hl
  have e1 : its = T.map TRow.r := vals_rows rv
  have fresh : H s.heap.objs.size = none := I.hok.fresh (Nat.le_refl _)
  have keys : ∀ r ∈ T.map TRow.n, TupKey s.heap r.2 r.1 := fun r hr => by
    obtain ⟨p, hp, rfl⟩ := List.mem_map.mp hr
    exact tupKey_of (I.reads (hd p hp)) (hk p hp) (so.deep p hp)
  refine nset_call (P := X.prog) (w := X.w) (T.map TRow.n) (I.ok.hd hc) pl.isList (by rw [e1, List.map_map]; first | rfl | done) keys (by rw [List.length_map]; exact few) (by omega) fun s' hm => ?_
  obtain ⟨h', tk, L, es, ep, t, rfl, N, g, ext⟩ := hm
  have sub : ∀ r ∈ L, r ∈ T.map TRow.n := fun r hr => List.mem_of_mem_take (g.only r hr)
  obtain ⟨T', rfl, sub'⟩ := sub_back L sub
  refine ⟨.ref s.heap.objs.size, upd H s.heap.objs.size (SetNO X.w s.heap.objs.size (T'.map TRow.n)), I.laid (t' := tk) ext (Nat.le_refl _) (setNO_ok N.less), rfl, q _ T' fresh sub' (fun p hp => ?_) ?_⟩
  · have z := g.every p.n (by rw [List.take_length]; exact List.mem_map_of_mem hp)
    rw [List.map_map] at z
    obtain ⟨p', hp', e⟩ := List.mem_map.mp z
    have e2 : nkey p'.2 = nkey p.2 := e
    have mp' := sub' p' hp'
    rw [← nkey_inj _ _ (hk p' mp') (hk p hp) (so.alike _ (List.mem_map_of_mem mp') _ (List.mem_map_of_mem hp)) e2]
    exact List.mem_map_of_mem hp'
  · have z := N.dif
    rw [List.map_map] at z
    have z2 : ((T'.map Prod.snd).map nkey).Nodup := by
      rw [List.map_map]
      exact z
    exact nodup_of_map z2
/-- sorted(set), the members nested tuples -/
def rSortN (w : World) : List V → Hp → VK → Prop := fun vs H Q => ∃ (a : Addr) (T : List TRow), vs = [V.ref a] ∧ H a = some (SetNO w a (T.map TRow.n)) ∧ (∀ p ∈ T, Dat H p.v p.2) ∧ Sorty T ∧ (∀ p ∈ T, keyable p.2 = true) ∧
  ∀ (T' : List TRow) (b : Addr), T'.Perm T → (T'.Pairwise fun p q => dataLt p.2 q.2 = true) → H b = none → Q (.ref b) (upd H b (.lst (T'.map TRow.v)))
theorem cr_sortN (hc : X.calm = true) (hu : X.A.units + 64 < cLine) : CallR X (.builtin "sorted") (rSortN X.w) := by
  intro pins s σ H vs us Q I r h
  obtain ⟨a, T, rfl, ha, hd, so, hk, q⟩ := h
  have N0 : NSet0 X.w s.heap a (T.map TRow.n) := (I.hok a _ ha).1
  obtain ⟨es, ep, t, N⟩ := N0.full fun r hr => by
    obtain ⟨p, hp, rfl⟩ := List.mem_map.mp hr
    exact tupKey_of (I.reads (hd p hp)) (hk p hp) (so.deep p hp)
  rw [Vals.ref1 r]
  have nd : (T.map Prod.snd).Nodup := by
    have z := N.dif
    rw [List.map_map] at z
    have z2 : ((T.map Prod.snd).map nkey).Nodup := by
      rw [List.map_map]
      exact z
    exact nodup_of_map z2
  have few := N.small
  rw [List.length_map] at few
  refine nsorted N (I.ok.hd hc) (fun p hp => I.reads (hd p hp)) so.alike so.tup (fun p hp => by have := so.deep p hp; omega) fun s' b c T' k g o hb pm hc' => ?_
  have pm2 : (sortT T').Perm T := (sortT_perm T').trans pm
  have so' : Sorty T' := so.sub fun p hp => pm.mem_iff.mp hp
  have fresh : H b = none := I.hok.fresh hb
  have J : Inv X pins σ (upd H b (.lst ((sortT T').map TRow.v))) { s with heap := s'.heap, gens := s'.gens, drawn := s'.drawn, toks := s'.toks } :=
    I.call (ch := []) (Un.laid k hb fresh) (I.hok.laid k hb ⟨by rw [List.length_map, pm2.length_eq, sizeLine_eq]; omega, _, c, rows_vals _, hc'⟩) (by rw [g]; exact I.bare) (fun _ z => nomatch z)
  have e : s' = { s with heap := s'.heap, gens := s'.gens, drawn := s'.drawn, toks := s'.toks } := by
    cases s'
    cases s
    cases o
    rfl
  rw [e]
  exact ⟨.ref b, _, J, rfl, q (sortT T') b pm2 (sortT_up T' so'.alike ((pm.map Prod.snd).nodup_iff.mpr nd)) fresh⟩
end
end L2

set_option Elab.async false
set_option linter.all false
set_option maxRecDepth 100000
set_option maxHeartbeats 4000000
/-! sorted(list) of tuples of any lengths -/
namespace L2
open PySem PySem.W PySem.Spec PyProof.Rows
theorem sortT_le (T : List TRow) : (sortT T).Pairwise fun p q => dataLt q.2 p.2 = false := by
  have srt : (sortT T).Pairwise fun p q => dataLe false Prod.snd p q = true := sort_pairwise (sortLe_total (listOrd itemOrd) false fun p : TRow => keyToks p.2) T
  refine srt.imp fun {p q} z => ?_
  have z3 : (!dataLt q.2 p.2) = true := z
  cases c : dataLt q.2 p.2 with
  | false => rfl
  | true =>
    rw [c] at z3
    exact absurd z3 (by decide)
section
variable {X : Cx}
/-- sorted(xs), xs a list of tuples -/
def rSortL (K : PySem.W.Frag) : List V → Hp → VK → Prop := fun vs H Q => ∃ (l : Addr) (T : List TRow), vs = [V.ref l] ∧ SqL K H l (T.map TRow.v) ∧ (∀ p ∈ T, Dat H p.v p.2) ∧ Sorty T ∧
  ∀ (T' : List TRow) (b : Addr), T'.Perm T → (T'.Pairwise fun p q => dataLt q.2 p.2 = false) → ((T.map Prod.snd).Nodup → T'.Pairwise fun p q => dataLt p.2 q.2 = true) → H b = none → Q (.ref b) (upd H b (.lst (T'.map TRow.v)))
theorem cr_sortL (hu : X.A.units + 64 < cLine) : CallR X (.builtin "sorted") (rSortL X.K) := by
  intro pins s σ H vs us Q I r h
  obtain ⟨l, T, rfl, hl, hd, so, q⟩ := h
  rw [Vals.ref1 r]
  obtain ⟨its, rv, pl, hz⟩ := I.list hl
  have e1 : its = T.map TRow.r := vals_rows rv
  subst e1
  rw [List.length_map] at hz
  have rd : EachIs (fun v p => ∃ as, Reads (sortingHeap (copyHeap s.heap (T.map TRow.r)) (s.heap.objs.size + 1) (T.map TRow.r)) v p.2 as) (T.map TRow.r) T :=
    each_rows T fun p hp => by
      obtain ⟨as, z⟩ := I.reads (hd p hp)
      exact ⟨as, PyProof.Rows.Reads.keeps (fun _ _ => sorting_copy_old) z⟩
  have tp : ∀ d ∈ T.map Prod.snd, ∃ xs, d = PyData.tuple xs := fun d z => by
    obtain ⟨p, hp, rfl⟩ := List.mem_map.mp z
    exact so.tup p hp
  have un : ∀ d, d ∈ T.map Prod.snd → X.A.in1.in1.units + d.depth < cLine := fun d z => by
    obtain ⟨p, hp, rfl⟩ := List.mem_map.mp z
    have z := so.deep p hp
    simp only [Around.in1_units]
    omega
  have srt := sortsAt_tups (prog := X.prog) (w := X.w) (A := X.A.in1.in1) (s := { s with heap := sortingHeap (copyHeap s.heap (T.map TRow.r)) (s.heap.objs.size + 1) (T.map TRow.r) }) (each_map (R := fun v d => ∃ as, Reads _ v d as) Prod.snd rd) so.alike tp un
  have out := rows_each (sortVals_data (R := fun v p => v = TRow.r p) (enc := Prod.snd) false (each_rows T fun p _ => rfl) rd so.alike)
  refine sorted_vals pl.isList srt (by rw [List.length_map]; exact hz) ?_
  rw [out]
  obtain ⟨c, hc⟩ := PyProof.Rows.sortedAll_at s.heap (T.map TRow.r) ((sortT T).map TRow.r).toArray
  have fresh : H (s.heap.objs.size + 1) = none := I.hok.fresh (Nat.le_succ _)
  exact ⟨.ref _, upd H (s.heap.objs.size + 1) (.lst ((sortT T).map TRow.v)), I.laid (t' := s.toks) (fun _ _ => PyProof.Rows.sortedAll_old) (Nat.le_succ _) ⟨by rw [List.length_map, (sortT_perm T).length_eq]; exact hz, _, c, rows_vals _, hc⟩, rfl,
    q (sortT T) _ (sortT_perm T) (sortT_le T) (sortT_up T so.alike) fresh⟩
end
end L2

set_option Elab.async false
set_option linter.all false
set_option maxRecDepth 100000
set_option maxHeartbeats 4000000
/-! sorted(tuple) of tuples of any lengths -/
namespace L2
open PySem PySem.W PySem.Spec PyProof.Rows
section
variable {X : Cx}
def rSortLT (K : PySem.W.Frag) : List V → Hp → VK → Prop := fun vs H Q => ∃ (l : Addr) (T : List TRow), vs = [V.ref l] ∧ SqT K H l (T.map TRow.v) ∧ (∀ p ∈ T, Dat H p.v p.2) ∧ Sorty T ∧
  ∀ (T' : List TRow) (b : Addr), T'.Perm T → (T'.Pairwise fun p q => dataLt q.2 p.2 = false) → ((T.map Prod.snd).Nodup → T'.Pairwise fun p q => dataLt p.2 q.2 = true) → H b = none → Q (.ref b) (upd H b (.lst (T'.map TRow.v)))
theorem cr_sortLT (hu : X.A.units + 64 < cLine) : CallR X (.builtin "sorted") (rSortLT X.K) := by
  intro pins s σ H vs us Q I r h
  obtain ⟨l, T, rfl, hl, hd, so, q⟩ := h
  rw [Vals.ref1 r]
  obtain ⟨its, rv, pl, hz⟩ := I.tuple hl
  have e1 : its = T.map TRow.r := vals_rows rv
  subst e1
  have hzl : (T.map TRow.r).length ≤ sizeLine := by
    rw [List.length_map] at hz ⊢
    exact hz
  obtain ⟨o, ho, hc, n, hdd⟩ := pl
  refine Calls.call_function_entry PyProof.Rows.kind_sorted PyProof.Rows.plain_sorted PyProof.Rows.entry_sorted (PyProof.Rows.args_sorted1 _) ?_
  unfold Builtin.«sorted»
  refine wpAny_bind (m := checkCount "sorted" 1 1 _) (wpAny_pure ?_)
  refine wpAny_bind (wpAny_collect_seq l (.inr rfl) ho hc hdd (fun h' hk => ?_) (by rw [List.size_toArray]; exact hzl))
  have I1 : Inv X pins σ H { s with heap := h' } := I.kept (t' := s.toks) hk
  refine wpAny_bind (wpAny_newList ?_ (by exact hzl))
  have hoL : (h'.push (seqObj "list" (T.map TRow.r).toArray 0)).get? h'.objs.size = some (seqObj "list" (T.map TRow.r).toArray 0) := Heap.get?_push_size _ rfl
  show wpAny _ _ _ _ _ { s with heap := h'.push (seqObj "list" (T.map TRow.r).toArray 0) }
  have old : ∀ {b : Addr} {u : Obj}, h'.get? b = some u → (h'.push (seqObj "list" (T.map TRow.r).toArray 0)).get? b = some u := fun e => Heap.get?_push_of_some _ e
  have rd : EachIs (fun v p => ∃ as, Reads (sortingHeap (h'.push (seqObj "list" (T.map TRow.r).toArray 0)) h'.objs.size (T.map TRow.r)) v p.2 as) (T.map TRow.r) T :=
    each_rows T fun p hp => by
      obtain ⟨as, z⟩ := I1.reads (hd p hp)
      exact ⟨as, PyProof.Rows.Reads.keeps (fun b u e => sortingHeap_old (Nat.ne_of_lt (Heap.lt_size e)) (old e)) z⟩
  have tp : ∀ d ∈ T.map Prod.snd, ∃ xs, d = PyData.tuple xs := fun d z => by
    obtain ⟨p, hp, rfl⟩ := List.mem_map.mp z
    exact so.tup p hp
  have un : ∀ d, d ∈ T.map Prod.snd → X.A.in1.in1.units + d.depth < cLine := fun d z => by
    obtain ⟨p, hp, rfl⟩ := List.mem_map.mp z
    have z := so.deep p hp
    simp only [Around.in1_units]
    omega
  have srt := sortsAt_tups (prog := X.prog) (w := X.w) (A := X.A.in1.in1) (s := { s with heap := sortingHeap (h'.push (seqObj "list" (T.map TRow.r).toArray 0)) h'.objs.size (T.map TRow.r) }) (each_map (R := fun v d => ∃ as, Reads _ v d as) Prod.snd rd) so.alike tp un
  have out := rows_each (sortVals_data (R := fun v p => v = TRow.r p) (enc := Prod.snd) false (each_rows T fun p _ => rfl) rd so.alike)
  refine wpAny_bind (wpAny_holding (wpAny_call_entry PyProof.Rows.slot_list_sort ⟨_, hoL, rfl⟩ PyProof.Rows.entry_list_sort
    (list_sort_vals (s := { s with heap := h'.push (seqObj "list" (T.map TRow.r).toArray 0) }) hoL srt hzl ⟨_, rfl, ?_⟩) (PyProof.Rows.args_list_sort _)))
  rw [out]
  obtain ⟨e', he'⟩ := PyProof.Rows.sortedHeap_at (vs := T.map TRow.r) (out := ((sortT T).map TRow.r).toArray) hoL
  refine wpAny_pure ⟨_, rfl, .ref h'.objs.size, upd H h'.objs.size (.lst ((sortT T).map TRow.v)), I1.laid (t' := s.toks) (fun b u e => ?_) (Nat.le_refl _)
    ⟨by rw [List.length_map, (sortT_perm T).length_eq]; rw [List.length_map] at hz; exact hz, _, e', rows_vals _, he'⟩, rfl, q (sortT T) _ (sortT_perm T) (sortT_le T) (sortT_up T so.alike) (I1.hok.fresh (Nat.le_refl _))⟩
  have hb : b < h'.objs.size := Heap.lt_size e
  rw [PyProof.Rows.sortedHeap_old (Nat.ne_of_lt hb) (by rw [size_push']; exact Nat.lt_succ_of_lt hb)]
  exact old e
end
end L2

set_option Elab.async false
set_option linter.all false
set_option maxRecDepth 100000
set_option maxHeartbeats 4000000
/-! dict(zip(a, b)) where a and b are whatever an iterator draws from: two tuples, say -/
namespace S1
open PySem PySem.W
section
variable {prog : Program} {w : World} {A : Around} {E : Value → Shared → Prop} {s : Shared} {z TI TO T i1 i2 : Addr} {f : Bool} {oT : Obj} {fp1 fp2 : List Addr} {n1 n2 i : Nat} {P1 P2 : Nat → Value → Prop} {St1 St2 : Nat → Heap → Prop}
/-- what a turn of a zip leaves as it is, whose last tuple is still out -/
def HeldKeeps (z i1 i2 : Addr) (h h' : Heap) : Prop := ∀ c o, c ≠ z → c ≠ i1 → c ≠ i2 → h.get? c = some o → h'.get? c = some o
theorem held_item {Q : Value → Shared → Prop} (S : ZipSep2 z TI TO i1 i2 fp1 fp2) (D1 : Draws prog w A i1 fp1 n1 P1 St1) (D2 : Draws prog w A i2 fp2 n2 P2 St2)
    (hz : IsZipHeld s.heap z TI TO T f) (hT : s.heap.get? T = some oT) (hTI : IsTupOf2 s.heap TI (.ref i1) (.ref i2)) (st1 : St1 i s.heap) (st2 : St2 i s.heap) (l1 : i < n1) (l2 : i < n2)
    (hQ : ∀ x1 x2 h' tk, P1 i x1 → P2 i x2 → IsZipHeld h' z TI TO T true → St1 (i + 1) h' → St2 (i + 1) h' → IsTupOf2 h' s.heap.objs.size x1 x2 → HeldKeeps z i1 i2 s.heap h' → Q (.ref s.heap.objs.size) { s with heap := h', toks := tk }) :
    wpAny (model prog w) A (Builtin.«zip.__next__» ⟨[.ref z], []⟩) (fun fin s' => ∃ v, fin = .done (.ret v) ∧ Q v s') E s := by
  obtain ⟨hp, g, d, tk0, os⟩ := s
  show wpAny _ _ (field (.ref z) 2 >>= _) _ _ _
  refine wpAny_bind (wpAny_field hz rfl (x := .bool false) rfl ?_)
  show wpAny _ _ (field (.ref z) 3 >>= _) _ _ _
  refine wpAny_bind (wpAny_field hz rfl (x := .ref TI) rfl (wpAny_bind (wpAny_seqItems hTI rfl ?_)))
  show wpAny _ _ (Builtin.SmallTypes.ownedTupleIsFree (.ref z) >>= _) _ _ _
  refine wpAny_bind (wpAny_tupleHeld_zip hz hT fun a hza sa => ?_)
  replace sa : Heap.SameBut z hp a := sa
  replace hza : IsZipHeld a z TI TO T true := hza
  simp only [Bool.false_eq_true, if_false]
  refine wpAny_bind ?_
  rw [← Array.forIn_toList]
  simp only [List.forIn_cons, List.forIn_nil]
  refine wpAny_bind (wpAny_bind (wpAny_holding ?_))
  show wpAny _ _ (Builtin.SmallTypes.nextOf (.ref i1) >>= _) _ _ ⟨a, g, d, tk0, os⟩
  refine wpAny_bind (D1.item i _ _ _ l1 (D1.over st1 sa S.zf1) fun x1 b tk1 hx1 sn1 sb => wpAny_pure (wpAny_pure ?_))
  replace sb : Heap.SameBut i1 a b := sb
  refine wpAny_bind (wpAny_bind (wpAny_holding ?_))
  show wpAny _ _ (Builtin.SmallTypes.nextOf (.ref i2) >>= _) _ _ ⟨b, g, d, tk1, os⟩
  refine wpAny_bind (D2.item i _ _ _ l2 (D2.over (D2.over st2 sa S.zf2) sb S.sep1_2) fun x2 c tk2 hx2 sn2 sc => wpAny_pure (wpAny_pure (wpAny_pure ?_)))
  replace sc : Heap.SameBut i2 b c := sc
  show wpAny _ _ (newTuple [x1, x2] >>= _) _ _ ⟨c, g, d, tk2, os⟩
  refine wpAny_bind (wpAny_newTuple (wpAny_pure ⟨_, rfl, ?_⟩))
  have sz : c.objs.size = hp.objs.size := by rw [sc.1, sb.1, sa.1]
  have up : ∀ b o, c.get? b = some o → (c.push { cls := .type "tuple", data := .seq #[x1, x2] }).get? b = some o := fun b o e => Heap.get?_push_of_some _ e
  have nt : IsTupOf2 (c.push { cls := .type "tuple", data := .seq #[x1, x2] }) c.objs.size x1 x2 := Heap.get?_push_size _ rfl
  show Q (.ref c.objs.size) _
  rw [sz] at nt ⊢
  exact hQ x1 x2 _ tk2 hx1 hx2 (up _ _ (sc.extBut _ _ S.zi2 (sb.extBut _ _ S.zi1 hza))) (D1.frame _ _ _ (D1.over sn1 sc S.sep2_1) fun b _ o e => up b o e) (D2.frame _ _ _ sn2 fun b _ o e => up b o e) nt
    fun q o q0 q1 q2 e => up q o (sc.extBut _ _ q2 (sb.extBut _ _ q1 (sa.extBut _ _ q0 e)))
theorem held_end {Q : Fin → Shared → Prop} (S : ZipSep2 z TI TO i1 i2 fp1 fp2) (D1 : Draws prog w A i1 fp1 n1 P1 St1) (D2 : Draws prog w A i2 fp2 n2 P2 St2)
    (hz : IsZipHeld s.heap z TI TO T f) (hT : s.heap.get? T = some oT) (hTI : IsTupOf2 s.heap TI (.ref i1) (.ref i2)) (st1 : St1 i s.heap) (st2 : St2 i s.heap) (l1 : i ≤ n1) (l2 : i ≤ n2) (hend : i = n1 ∨ i = n2)
    (hE : ∀ h' tk e, HeldKeeps z i1 i2 s.heap h' → (∃ o, h'.get? e = some o ∧ o.cls = .type "StopIteration") → E (.ref e) { s with heap := h', toks := tk }) :
    wpAny (model prog w) A (Builtin.«zip.__next__» ⟨[.ref z], []⟩) Q E s := by
  obtain ⟨hp, g, d, tk0, os⟩ := s
  show wpAny _ _ (field (.ref z) 2 >>= _) _ _ _
  refine wpAny_bind (wpAny_field hz rfl (x := .bool false) rfl ?_)
  show wpAny _ _ (field (.ref z) 3 >>= _) _ _ _
  refine wpAny_bind (wpAny_field hz rfl (x := .ref TI) rfl (wpAny_bind (wpAny_seqItems hTI rfl ?_)))
  show wpAny _ _ (Builtin.SmallTypes.ownedTupleIsFree (.ref z) >>= _) _ _ _
  refine wpAny_bind (wpAny_tupleHeld_zip hz hT fun a hza sa => ?_)
  replace sa : Heap.SameBut z hp a := sa
  simp only [Bool.false_eq_true, if_false]
  refine wpAny_bind ?_
  rw [← Array.forIn_toList]
  simp only [List.forIn_cons, List.forIn_nil]
  refine wpAny_bind (wpAny_bind (wpAny_holding ?_))
  show wpAny _ _ (Builtin.SmallTypes.nextOf (.ref i1) >>= _) _ _ ⟨a, g, d, tk0, os⟩
  by_cases q1 : i < n1
  · have e2 : i = n2 := by omega
    refine wpAny_bind (D1.item i _ _ _ q1 (D1.over st1 sa S.zf1) fun x1 b tk1 hx1 sn1 sb => wpAny_pure (wpAny_pure ?_))
    replace sb : Heap.SameBut i1 a b := sb
    refine wpAny_bind (wpAny_bind (wpAny_holding ?_))
    show wpAny _ _ (Builtin.SmallTypes.nextOf (.ref i2) >>= _) _ _ ⟨b, g, d, tk1, os⟩
    refine wpAny_bind (D2.done ⟨b, g, d, tk1, os⟩ _ _ (by rw [← e2]; exact D2.over (D2.over st2 sa S.zf2) sb S.sep1_2) fun c e sc he => ?_)
    exact hE c tk1 e (fun q o q0 q1 q2 x => sc _ _ q2 (sb.extBut _ _ q1 (sa.extBut _ _ q0 x))) he
  · have e1 : i = n1 := by omega
    refine wpAny_bind (D1.done ⟨a, g, d, tk0, os⟩ _ _ (by rw [← e1]; exact D1.over st1 sa S.zf1) fun c e sc he => ?_)
    exact hE c tk0 e (fun q o q0 q1 q2 x => sc _ _ q1 (sa.extBut _ _ q0 x)) he
theorem next_held_item {Q : Option Value → Shared → Prop} (S : ZipSep2 z TI TO i1 i2 fp1 fp2) (D1 : Draws prog w A.in1 i1 fp1 n1 P1 St1) (D2 : Draws prog w A.in1 i2 fp2 n2 P2 St2)
    (hz : IsZipHeld s.heap z TI TO T f) (hT : s.heap.get? T = some oT) (hTI : IsTupOf2 s.heap TI (.ref i1) (.ref i2)) (st1 : St1 i s.heap) (st2 : St2 i s.heap) (l1 : i < n1) (l2 : i < n2)
    (hQ : ∀ x1 x2 h' tk, P1 i x1 → P2 i x2 → IsZipHeld h' z TI TO T true → St1 (i + 1) h' → St2 (i + 1) h' → IsTupOf2 h' s.heap.objs.size x1 x2 → HeldKeeps z i1 i2 s.heap h' → Q (some (.ref s.heap.objs.size)) { s with heap := h', toks := tk }) :
    wpAny (model prog w) A (pyNext (.ref z)) Q E s := by
  have ty : s.TypeIs (.ref z) "zip" := ⟨_, hz, rfl⟩
  unfold pyNext
  exact wpAny_bind (wpAny_attempt (wpAny_callSpecial?_slot (name := Str.ofString "__next__") ty F.slot_zip_next
    (wpAny_call_entry F.slot_zip_next ty F.entry_zip_next
      (held_item S D1 D2 hz hT hTI st1 st2 l1 l2 fun x1 x2 h' tk a b c d e f g => wpAny_pure (hQ x1 x2 h' tk a b c d e f g)) (F.args_zip_next_1 _))))
theorem next_held_end {Q : Option Value → Shared → Prop} (S : ZipSep2 z TI TO i1 i2 fp1 fp2) (D1 : Draws prog w A.in1 i1 fp1 n1 P1 St1) (D2 : Draws prog w A.in1 i2 fp2 n2 P2 St2)
    (hz : IsZipHeld s.heap z TI TO T f) (hT : s.heap.get? T = some oT) (hTI : IsTupOf2 s.heap TI (.ref i1) (.ref i2)) (st1 : St1 i s.heap) (st2 : St2 i s.heap) (l1 : i ≤ n1) (l2 : i ≤ n2) (hend : i = n1 ∨ i = n2)
    (hQ : ∀ h' tk, HeldKeeps z i1 i2 s.heap h' → Q none { s with heap := h', toks := tk }) : wpAny (model prog w) A (pyNext (.ref z)) Q E s := by
  have ty : s.TypeIs (.ref z) "zip" := ⟨_, hz, rfl⟩
  unfold pyNext
  refine wpAny_bind (wpAny_attempt (wpAny_callSpecial?_slot (name := Str.ofString "__next__") ty F.slot_zip_next
    (wpAny_call_entry F.slot_zip_next ty F.entry_zip_next (held_end S D1 D2 hz hT hTI st1 st2 l1 l2 hend fun h' tk e hk he => ?_) (F.args_zip_next_1 _))))
  obtain ⟨o, ho, hc⟩ := he
  exact wpAny_bind (wpAny_isInstance (T := "StopIteration") (b := true) ⟨o, ho, hc⟩ isSubtype_stop (wpAny_pure (hQ _ _ hk)))
end
section
variable {prog : Program} {w : World} {z TI TO i1 i2 l1 l2 : Addr} {fp1 fp2 : List Addr} {n1 n2 : Nat} {P1 P2 : Nat → Value → Prop} {St1 St2 : Nat → Heap → Prop}
/-- zip(a, b) as what dict() may be filled from -/
theorem pairArg_zip (S : ZipSep2 z TI TO i1 i2 fp1 fp2) (D1 : ∀ A : Around, A.handled = none → Draws prog w A i1 fp1 n1 P1 St1) (D2 : ∀ A : Around, A.handled = none → Draws prog w A i2 fp2 n2 P2 St2) (kp1 : ∀ h h', St1 0 h → (∀ b o, h.get? b = some o → h'.get? b = some o) → St1 0 h') (kp2 : ∀ h h', St2 0 h → (∀ b o, h.get? b = some o → h'.get? b = some o) → St2 0 h') (lv1 : ∀ h, St1 0 h → ∀ b ∈ fp1, ∃ o, h.get? b = some o) (lv2 : ∀ h, St2 0 h → ∀ b ∈ fp2, ∃ o, h.get? b = some o) :
    PairArg prog w "zip" z (z :: TI :: TO :: (fp1 ++ fp2)) [z, TO, i1, i2] (min n1 n2) (fun i k v => P1 i k ∧ P2 i v)
      (fun h => IsZip h z TI TO .none ∧ IsTupOf2 h TI (.ref i1) (.ref i2) ∧ (∃ a b, IsTupOf2 h TO a b) ∧ St1 0 h ∧ St2 0 h) where
  type := fun s ok => ⟨_, ok.1, rfl⟩
  notDict := by decide
  keep := fun h h' ok hk => by
    obtain ⟨hz, hTI, ⟨a, b, hTO⟩, s1, s2⟩ := ok
    exact ⟨hk _ _ hz, hk _ _ hTI, ⟨a, b, hk _ _ hTO⟩, kp1 h h' s1 hk, kp2 h h' s2 hk⟩
  there := fun h ok b hb => by
    obtain ⟨hz, hTI, ⟨a, c, hTO⟩, s1, s2⟩ := ok
    rcases List.mem_cons.mp hb with rfl | hb
    · exact ⟨_, hz⟩
    rcases List.mem_cons.mp hb with rfl | hb
    · exact ⟨_, hTI⟩
    rcases List.mem_cons.mp hb with rfl | hb
    · exact ⟨_, hTO⟩
    rcases List.mem_append.mp hb with hb | hb
    · exact lv1 h s1 b hb
    · exact lv2 h s2 b hb
  sub := fun b hb => by
    have q : b = z ∨ b = TO ∨ b = i1 ∨ b = i2 := by simpa using hb
    rcases q with rfl | rfl | rfl | rfl
    · simp
    · simp
    · simp [S.mem1]
    · simp [S.mem2]
  noKeys := fun A s Q E hA ok h => getAttrOr_miss_zip ok.1 rfl rfl rfl zip_no_keys (by decide +kernel) hA h
  iter := fun A s d Q E hA ok hd hdf h => by
    obtain ⟨hz, hTI, ⟨a, b, hTO⟩, s1, s2⟩ := ok
    have D1 := D1 A.in1 hA
    have D2 := D2 A.in1 hA
    simp only [List.mem_cons, List.mem_append, not_or] at hdf
    obtain ⟨dz, dTI, dTO, d1, d2⟩ := hdf
    refine wpAny_pyIter_zip hz (h z [z, TO, i1, i2] (fun i h => i ≤ min n1 n2 ∧ IsTupOf2 h TI (.ref i1) (.ref i2) ∧ St1 i h ∧ St2 i h ∧
      ((IsZip h z TI TO .none ∧ ∃ a b, IsTupOf2 h TO a b) ∨ ∃ T f oT, IsZipHeld h z TI TO T f ∧ h.get? T = some oT ∧ T ≠ z ∧ T ≠ i1 ∧ T ≠ i2 ∧ T ≠ d)) s.heap s.toks ?_
      ⟨Nat.zero_le _, hTI, s1, s2, .inl ⟨hz, a, b, hTO⟩⟩ (fun _ _ e => e) fun b hb => .inl hb)
    exact {
      off := fun hm => by
        have q : d = z ∨ d = TO ∨ d = i1 ∨ d = i2 := by simpa using hm
        rcases q with e | e | e | e
        · exact dz e
        · exact dTO e
        · exact d1 (e ▸ S.mem1)
        · exact d2 (e ▸ S.mem2)
      frame := fun i h₁ h₂ st hk => by
        obtain ⟨hi, hTI, s1, s2, hz⟩ := st
        refine ⟨hi, hk _ _ (Ne.symm dTI) hTI, D1.frame _ _ _ s1 fun b hb o e => hk b o (fun q => d1 (q ▸ hb)) e, D2.frame _ _ _ s2 fun b hb o e => hk b o (fun q => d2 (q ▸ hb)) e, ?_⟩
        rcases hz with ⟨hz, a, b, hTO⟩ | ⟨T, f, oT, hz, hT, r1, r2, r3, r4⟩
        · exact .inl ⟨hk _ _ (Ne.symm dz) hz, a, b, hk _ _ (Ne.symm dTO) hTO⟩
        · exact .inr ⟨T, f, oT, hk _ _ (Ne.symm dz) hz, hk _ _ r4 hT, r1, r2, r3, r4⟩
      item := fun i s₁ Q₁ E₁ hi st hds hQ => by
        obtain ⟨_, hTI, s1, s2, hz⟩ := st
        have m1 : i < n1 := by omega
        have m2 : i < n2 := by omega
        have lt : ∀ {c o}, s₁.heap.get? c = some o → s₁.heap.objs.size ≠ c := fun e => Nat.ne_of_gt (Heap.lt_size e)
        have k1 : s₁.heap.objs.size ≠ i1 := let ⟨_, e⟩ := D1.live _ _ s1; lt e
        have k2 : s₁.heap.objs.size ≠ i2 := let ⟨_, e⟩ := D2.live _ _ s2; lt e
        rcases hz with ⟨hz, a, b, hTO⟩ | ⟨T, f, oT, hz, hT, r1, r2, r3, r4⟩
        · refine wpAny_pyNext_zipD2_item S D1 D2 hz hTI hTO s1 s2 m1 m2 fun x1 x2 h' tk y1 y2 a1 a2 a3 a4 a5 a6 hk => ?_
          exact hQ s₁.heap.objs.size _ _ h' tk ⟨y1, y2⟩ (.inl ⟨_, a5, rfl, _, rfl⟩)
            ⟨by omega, hk _ _ S.TIz S.TITO S.TIi1 S.TIi2 hTI, a3, a4, .inr ⟨s₁.heap.objs.size, false, _, a1, a5, lt hz, k1, k2, Nat.ne_of_gt hds⟩⟩
            fun c o hc e => hk c o (fun x => hc (by simp [x])) (fun x => hc (by simp [x])) (fun x => hc (by simp [x])) (fun x => hc (by simp [x])) e
        · refine next_held_item S D1 D2 hz hT hTI s1 s2 m1 m2 fun x1 x2 h' tk y1 y2 a1 a3 a4 a5 hk => ?_
          exact hQ s₁.heap.objs.size _ _ h' tk ⟨y1, y2⟩ (.inl ⟨_, a5, rfl, _, rfl⟩)
            ⟨by omega, hk _ _ S.TIz S.TIi1 S.TIi2 hTI, a3, a4, .inr ⟨T, true, oT, a1, hk _ _ r1 r2 r3 hT, r1, r2, r3, r4⟩⟩
            fun c o hc e => hk c o (fun x => hc (by simp [x])) (fun x => hc (by simp [x])) (fun x => hc (by simp [x])) e
      done := fun s₁ Q₁ E₁ st hQ => by
        obtain ⟨_, hTI, s1, s2, hz⟩ := st
        rcases hz with ⟨hz, a, b, hTO⟩ | ⟨T, f, oT, hz, hT, r1, r2, r3, r4⟩
        · exact wpAny_pyNext_zipD2_end S D1 D2 hz hTI hTO s1 s2 (by omega) (by omega) (by omega) fun h' tk hk => hQ h' tk fun c o hc e =>
            hk c o (fun x => hc (by simp [x])) (fun x => hc (by simp [x])) (fun x => hc (by simp [x])) (fun x => hc (by simp [x])) e
        · exact next_held_end S D1 D2 hz hT hTI s1 s2 (by omega) (by omega) (by omega) fun h' tk hk => hQ h' tk fun c o hc e =>
            hk c o (fun x => hc (by simp [x])) (fun x => hc (by simp [x])) (fun x => hc (by simp [x])) e }
/-- zip(a, b) over two tuples -/
theorem pairArg_zipT (S : ZipSep2 z TI TO i1 i2 [i1, l1] [i2, l2]) (h1 : l1 ≠ i1) (h2 : l2 ≠ i2) (xs ys : Array Value) :
    PairArg prog w "zip" z (z :: TI :: TO :: ([i1, l1] ++ [i2, l2])) [z, TO, i1, i2] (min xs.size ys.size) (fun i k v => xs[i]? = some k ∧ ys[i]? = some v)
      (fun h => IsZip h z TI TO .none ∧ IsTupOf2 h TI (.ref i1) (.ref i2) ∧ (∃ a b, IsTupOf2 h TO a b) ∧ (h.IsTupleIter i1 l1 0 ∧ h.IsTuple l1 xs) ∧ (h.IsTupleIter i2 l2 0 ∧ h.IsTuple l2 ys)) := by
  have lv : ∀ {i l : Addr} {xs : Array Value} {h : Heap}, h.IsTupleIter i l 0 ∧ h.IsTuple l xs → ∀ b ∈ [i, l], ∃ o, h.get? b = some o := by
    intro i l xs h st b hb
    obtain ⟨⟨o, ho, _⟩, ⟨o2, ho2, _⟩⟩ := st
    simp only [List.mem_cons, List.not_mem_nil, or_false] at hb
    rcases hb with rfl | rfl
    · exact ⟨_, ho⟩
    · exact ⟨_, ho2⟩
  exact pairArg_zip S (fun A hA => Draws.tuple hA i1 l1 h1 xs) (fun A hA => Draws.tuple hA i2 l2 h2 ys) (fun h h' st hk => ⟨st.1.at fun o e => hk _ o e, st.2.at fun o e => hk _ o e⟩) (fun h h' st hk => ⟨st.1.at fun o e => hk _ o e, st.2.at fun o e => hk _ o e⟩) (fun _ st => lv st) fun _ st => lv st
end
end S1

set_option Elab.async false
set_option linter.all false
set_option maxRecDepth 100000
set_option maxHeartbeats 4000000
/-! the rule for dict(zip(a, b)) of two tuples -/
namespace S1
open PySem PySem.W PySem.Spec PyProof.Rows L2
section
variable {X : Cx}
theorem sep5 (n a b : Nat) (la : a < n) (lb : b < n) : ZipSep2 (n + 4) (n + 2) (n + 3) n (n + 1) [n, a] [n + 1, b] := by
  have nn : ∀ {x p q : Nat}, x ≠ p → x ≠ q → (x : Addr) ∉ [(p : Addr), q] := fun h h' m => by
    rcases List.mem_cons.mp m with e | m
    · exact h e
    · exact h' (List.mem_singleton.mp m)
  have ne : ∀ {x y : Nat}, (x < y ∨ y < x) → x ≠ y := fun h => by omega
  refine ⟨ne (by omega), ne (by omega), ne (by omega), ne (by omega), List.mem_cons_self, nn (ne (by omega)) (ne (by omega)), nn (ne (by omega)) (ne (by omega)), ne (by omega), List.mem_cons_self, nn (ne (by omega)) (ne (by omega)), nn (ne (by omega)) (ne (by omega)), nn (ne (by omega)) (ne (by omega)), nn (ne (by omega)) (ne (by omega))⟩
theorem far5 (n c : Nat) (l : c < n) (h : c = n + 4 ∨ c = n + 3 ∨ c = n ∨ c = n + 1) : False := by omega
/-- a pair's key and value, as the tuples have them -/
theorem pairs_zip {P : Program} {w : World} : ∀ {ks : List Key} {xs : List V} {us vs : List Value}, Vals (ks.map kV) us → Vals xs vs → ks.length = xs.length →
    ∃ prs : List (Key × Value), KV (ks.zip xs) prs ∧ prs.length = ks.length ∧ ∀ (i : Nat) (u v : Value), us[i]? = some u → vs[i]? = some v → ∃ k, prs[i]? = some (k, v) ∧ (mixKind P w).is k u = true
  | [], [], _, _, ru, _, _ => by
    cases ru
    exact ⟨[], .nil, rfl, fun i u v e _ => by simp at e⟩
  | k :: ks, x :: xs, us, vs, ru, rv, hl => by
    cases ru with
    | @cons _ u _ us r0 ru =>
      cases rv with
      | @cons _ v _ vs r1 rv =>
        obtain ⟨prs, a, b, c⟩ := pairs_zip (P := P) (w := w) ru rv (by simpa using hl)
        refine ⟨(k, v) :: prs, .cons ⟨rfl, r1⟩ a, by simp [b], fun i u' v' e e' => ?_⟩
        cases i with
        | zero =>
          simp at e e'
          subst e e'
          exact ⟨k, rfl, kV_is r0⟩
        | succ i => simpa using c i u' v' (by simpa using e) (by simpa using e')
/-- dict(zip(a, b)), a a tuple of keys -/
def tDictZip (K : PySem.W.Frag) (ta : TA) : TE := fun σ H Q => ta σ H fun vs H1 => ∃ (a b : Addr) (ks : List Key) (xs : List V), vs = [.ref a, .ref b] ∧ SqT K H1 a (ks.map kV) ∧ SqT K H1 b xs ∧ ks.length = xs.length ∧
  ∀ p, H1 p = none → Q (.ref p) (upd H1 p (.dK (mergeK [] (ks.zip xs))))
theorem pe_dictZip {e e2 : Expr} {ta : TA} {p p2 pos pos2 : Pos} (hcalm : X.calm = true) (hg : Gl X "dict") (hm : X.mg "dict" = none) (hg2 : Gl X "zip") (hm2 : X.mg "zip" = none) (ha : PA X [e, e2] ta)
    (hs : starEach [e, e2] X.env = (false, eval e X.env) :: starEach [e2] X.env := by rfl) (hpl : (backTo pos2 (starEach [e2] X.env)).any (·.1) = false := by rfl) :
    PE X (.Call (.Name "dict" p) [.Call (.Name "zip" p2) [e, e2] [] pos2] [] pos) (tDictZip X.K ta) := by
  refine ⟨fun pins s σ H Q I h => ?_⟩
  refine Call_ (ld_blt I hg hm PyProof.Rows.boot_dict (PyProof.Rows.callWith_type1 ?_ rfl rfl))
  show wpAny _ _ (spliced ((false, eval (.Call (.Name "zip" p2) [e, e2] [] pos2) X.env) :: backTo pos (starEach [] X.env))) _ _ s
  refine Calls.spliced_cons ?_
  refine Call_ (ld_blt I hg2 hm2 PyProof.Rows.boot_zip (PyProof.Rows.callWith_type1 (thn (ha.run pos2 pins s σ H _ I h) fun us s1 ⟨vs, H1, I1, r1, q1⟩ => ?_) hs hpl))
  obtain ⟨a, b, ks, xs, ex, ta, tb, hl, q⟩ := q1
  subst ex
  obtain ⟨ua, ub, eu, ra, rb⟩ := vals2 r1
  subst eu
  cases ra
  cases rb
  obtain ⟨its, rv, pa, za⟩ := I1.tuple ta
  obtain ⟨its2, rv2, pb, zb⟩ := I1.tuple tb
  obtain ⟨o1, ho1, _⟩ := id pa
  obtain ⟨o2, ho2, _⟩ := id pb
  have la : a < s1.heap.objs.size := Heap.lt_size ho1
  have lb : b < s1.heap.objs.size := Heap.lt_size ho2
  refine RZ.call_zipT (show s1.heap.IsTuple a its.toArray from pa) (show s1.heap.IsTuple b its2.toArray from pb) fun h' hz hTI hTO h1 h2 hsz hk => Calls.spliced_nil ?_
  have S : ZipSep2 (s1.heap.objs.size + 4) (s1.heap.objs.size + 2) (s1.heap.objs.size + 3) s1.heap.objs.size (s1.heap.objs.size + 1) [s1.heap.objs.size, a] [s1.heap.objs.size + 1, b] := sep5 _ _ _ la lb
  obtain ⟨prs, kv, hlp, hp⟩ := pairs_zip (P := X.prog) (w := X.w) rv rv2 hl
  have hk1 : (ks.map kV).length = its.length := rv.length
  have hk2 : xs.length = its2.length := rv2.length
  rw [List.length_map] at hk1
  have hmin : min its.toArray.size its2.toArray.size = ks.length := by simp; omega
  refine call_dict_pairs (knd := mixKind X.prog X.w) (kvs := prs) (pairArg_zipT S (Nat.ne_of_lt la) (Nat.ne_of_lt (Nat.lt_succ_of_lt lb)) its.toArray its2.toArray) (I1.ok.hd hcalm)
    ⟨hz, hTI, ⟨_, _, hTO⟩, ⟨h1, (show s1.heap.IsTuple a its.toArray from pa).at fun o e => hk _ o e⟩, ⟨h2, (show s1.heap.IsTuple b its2.toArray from pb).at fun o e => hk _ o e⟩⟩
    ⟨by rw [hlp, hmin], fun i u v r => hp i u v (by simpa using r.1) (by simpa using r.2)⟩ (by rw [hmin, ← List.length_map (f := kV)]; exact za) fun h'' tk hd' k => ?_
  have big : s1.heap.objs.size ≤ h'.objs.size := by rw [hsz]; exact Nat.le_add_right _ _
  have hmm : (h'.objs.size == sysModules) = false := beq_eq_false_iff_ne.mpr (Nat.ne_of_gt (Nat.lt_of_lt_of_le I1.big big))
  have hlen : (mergeK [] (ks.zip xs)).length ≤ sizeLine := by
    refine Nat.le_trans (length_mergeK _ []) ?_
    rw [List.length_nil, Nat.zero_add, List.length_zip, ← hl, Nat.min_self, ← List.length_map (f := kV)]
    exact za
  refine ⟨.ref h'.objs.size, upd H1 h'.objs.size (.dK (mergeK [] (ks.zip xs))), I1.laid (t' := tk) (fun c o e => ?_) big (show ObjOk X.prog X.w _ _ _ (.dK (mergeK [] (ks.zip xs))) from ⟨hlen, hmm, merged [] prs, KV.merge kv .nil, hd'⟩), rfl, q _ (I1.hok.fresh big)⟩
  have lc : c < s1.heap.objs.size := Heap.lt_size e
  refine k c o (fun z => ?_) (hk c o e)
  have z' : c = s1.heap.objs.size + 4 ∨ c = s1.heap.objs.size + 3 ∨ c = s1.heap.objs.size ∨ c = s1.heap.objs.size + 1 := by simpa using z
  exact far5 s1.heap.objs.size c lc z'
end
end S1

set_option Elab.async false
set_option linter.all false
set_option maxRecDepth 100000
set_option maxHeartbeats 4000000
namespace S1
open PySem PySem.Spec PyProof.Rows L2
def topS (i : Nat) : Stmt := PySem.Challenge.pw_onlyseen_k03_what_holds_and_where_it_bre.main.body.getD i (.Pass ⟨0, 0, 0, 0⟩)
abbrev sIsTruth : Stmt := topS 13
abbrev sIsTuple : Stmt := topS 14
abbrev sIsPair : Stmt := topS 15
abbrev sIsRising : Stmt := topS 16
abbrev sIsName : Stmt := topS 17
abbrev sIsLetter : Stmt := topS 18
abbrev sIsAnyClause : Stmt := topS 19
abbrev sAreNames : Stmt := topS 20
abbrev sIsSight : Stmt := topS 21
abbrev sIsOwn : Stmt := topS 22
abbrev sAreOwns : Stmt := topS 23
abbrev sIsClauseOver : Stmt := topS 24
abbrev sAreClauses : Stmt := topS 25
abbrev sNamesOf : Stmt := topS 26
abbrev sFitsSaying : Stmt := topS 27
abbrev sAreTruths : Stmt := topS 28
abbrev sFitsPlay : Stmt := topS 29
abbrev sFitsAnswers : Stmt := topS 30
abbrev sFitsRows : Stmt := topS 31
abbrev sWantSaying : Stmt := topS 34
abbrev sWantPlay : Stmt := topS 35
abbrev sWantAnswers : Stmt := topS 36
abbrev sWantRows : Stmt := topS 37
abbrev sWantOwn : Stmt := topS 38
abbrev sAllPlays : Stmt := topS 40
abbrev sTruthsAt : Stmt := topS 41
abbrev sSeenBy : Stmt := topS 42
abbrev sPlaceIn : Stmt := topS 43
abbrev sValuesAt : Stmt := topS 44
abbrev sTablesOf : Stmt := topS 45
abbrev sFirstBroken : Stmt := topS 47
abbrev sHolds : Stmt := topS 48
abbrev sBrokenAt : Stmt := topS 49
abbrev sValueOf : Stmt := topS 50
abbrev sAnswersWith : Stmt := topS 51
abbrev sSource : Stmt := topS 53
abbrev sPick : Stmt := topS 54
abbrev sSame : Stmt := topS 55
abbrev sWords : Stmt := topS 56
abbrev sClause : Stmt := topS 57
abbrev sSome : Stmt := topS 58
abbrev sSaying : Stmt := topS 59
abbrev sLPlays : Stmt := topS 60
abbrev sLSees : Stmt := topS 61
abbrev sLSpot : Stmt := topS 62
abbrev sLCopies : Stmt := topS 63
abbrev sLTruths : Stmt := topS 64
abbrev sLBroken : Stmt := topS 65
abbrev sLDrawn : Stmt := topS 66
abbrev sLFirstBroken : Stmt := topS 67
abbrev sLMended : Stmt := topS 68
abbrev sRight : Stmt := topS 69
abbrev sLaw : Stmt := topS 70
end S1

set_option Elab.async false
set_option linter.all false
set_option maxRecDepth 100000
set_option maxHeartbeats 4000000
namespace S1
open PySem PySem.Spec PyProof.Rows L2
/-- the built-in names that the text leaves as they are -/
structure Blt (mg : Str → Option Value) : Prop where
  len : mg "len" = none
  sum : mg "sum" = none
  int : mg "int" = none
  max : mg "max" = none
  min : mg "min" = none
  abs : mg "abs" = none
  str : mg "str" = none
  bool : mg "bool" = none
  dict : mg "dict" = none
  list : mg "list" = none
  set : mg "set" = none
  tuple : mg "tuple" = none
  sorted : mg "sorted" = none
  zip : mg "zip" = none
  all : mg "all" = none
  range : mg "range" = none
  isi : mg "isinstance" = none
/-- a def as the text leaves it: at f, under its name -/
structure Has (K : PySem.W.Frag) (mg : Str → Option Value) (x : Str) (st : Stmt) (ps : List Str) (f : Addr) (fd : FuncData) : Prop where
  F : Fun K x x st f fd
  g : mg x = some (.ref f)
  b : Binds K fd ps []
/-- the draws of one cell at p: the digits left, the mixed number, how many have been mixed -/
structure Src (H : Hp) (p : Addr) (c : Nat) : Prop where
  at_ : ∃ a b d : Int, H p = some (.lst [.int a, .int b, .int d]) ∧ 0 ≤ b ∧ b < 2 ^ 100 ∧ 0 ≤ d ∧ d ≤ c
theorem Src.mono {H H' : Hp} {p : Addr} {c c' : Nat} (h : Src H p c) (e : H' p = H p) (hc : c ≤ c') : Src H' p c' := by
  obtain ⟨a, b, d, h1, h2, h3, h4, h5⟩ := h
  exact ⟨a, b, d, e.trans h1, h2, h3, h4, by omega⟩
theorem Src.ne {H : Hp} {p l : Addr} {c : Nat} (h : Src H p c) (e : H l = none) : p ≠ l := by
  obtain ⟨a, b, d, h1, _⟩ := h
  exact ne_of_none h1 e
theorem same_new {H : Hp} {p : Addr} {o : HO} (h : H p = none) : Same H (upd H p o) := fun b u e => by
  rw [upd_ne (ne_of_none e h)]
  exact e
theorem same_upd {H H' : Hp} {p : Addr} {o : HO} (s : Same H H') (h : H p = none) : Same H (upd H' p o) := fun b u e => by
  rw [upd_ne (ne_of_none e h)]
  exact s _ _ e
theorem yes_of {σ : L2.St} {H : Hp} {A B : Hp → Prop} (h : A H) : tYes σ H (fun b H3 => if b = true then A H3 else B H3) := by
  show if true = true then A H else B H
  rw [if_pos rfl]
  exact h
theorem at_ok {xs : List V} {r : Int} (h0 : 0 ≤ r) (h1 : r < xs.length) : ∃ v, atI xs r = some v ∧ v ∈ xs ∧ xs[r.toNat]? = some v := by
  have hl : r.toNat < xs.length := by omega
  refine ⟨xs[r.toNat], ?_, List.getElem_mem _, List.getElem?_eq_getElem hl⟩
  have z := atI_nat (List.getElem?_eq_getElem hl)
  rw [Int.toNat_of_nonneg h0] at z
  exact z
def spSource (K : PySem.W.Frag) : Sp := fun vs H Q _ => ∃ (a : Addr) (ns : List Int) (k : Int), vs = [.ref a, .int k] ∧ SqL K H a (ns.map V.int) ∧ ns.length ≤ 63 ∧ 0 ≤ k ∧ k < 1000 ∧
  ∀ (p : Addr) (H' : Hp), H p = none → Same H H' → Src H' p 0 → Q (.ref p) H'
def spPick : Sp := fun vs H Q _ => ∃ (p : Addr) (c : Nat) (m : Int), vs = [.ref p, .int m] ∧ Src H p c ∧ c ≤ 100000 ∧ 0 < m ∧ m < 2 ^ 100 ∧
  ∀ (r : Int) (o : HO), 0 ≤ r → r < m → Src (upd H p o) p (c + 1) → Q (.int r) (upd H p o)
theorem len_ints {ns : List Int} : (ns.map V.int).length = ns.length := List.length_map ..
theorem get_ints {ns : List Int} {i : Nat} {x : V} (h : (ns.map V.int)[i]? = some x) : ∃ z, ns[i]? = some z ∧ x = V.int z := by
  rw [List.getElem?_map] at h
  cases e : ns[i]? with
  | none => rw [e] at h; cases h
  | some z => rw [e] at h; exact ⟨z, rfl, (Option.some.inj h).symm⟩
section
variable {P : Program} {w : World} {K : PySem.W.Frag} {mg : Str → Option Value} {base : Heap}
abbrev mx (b d : Int) : Int := (b + 899809363 * d * d + 32416190071 * d) % (10 ^ (29 : Int).toNat + 319)
abbrev my (x d : Int) : Int := (x * x * x + d) % (10 ^ (31 : Int).toNat + 33)
theorem mx_lt (b d : Int) : (mx b d).natAbs < 2 ^ 100 := by
  have m29 : (0 : Int) < 10 ^ (29 : Int).toNat + 319 := by decide +kernel
  have n29 : (10 : Int) ^ (29 : Int).toNat + 319 ≤ 2 ^ 100 := by decide +kernel
  have h0 : 0 ≤ mx b d := Int.emod_nonneg _ (by omega)
  have h1 : mx b d < 2 ^ 100 := Int.lt_of_lt_of_le (Int.emod_lt_of_pos _ m29) n29
  omega
theorem my_lt (x d : Int) : (my x d).natAbs < 2 ^ 105 ∧ (my x d + 104717).natAbs < 2 ^ 105 := by
  have m31 : (0 : Int) < 10 ^ (31 : Int).toNat + 33 := by decide +kernel
  have n31 : (10 : Int) ^ (31 : Int).toNat + 33 ≤ 2 ^ 104 := by decide +kernel
  have h0 : 0 ≤ my x d := Int.emod_nonneg _ (by omega)
  have h1 : my x d < 2 ^ 104 := Int.lt_of_lt_of_le (Int.emod_lt_of_pos _ m31) n31
  exact ⟨by omega, by omega⟩
theorem ite_int {c : Prop} [Decidable c] {ta tb : TE} {σ : L2.St} {H : Hp} {Q : VK} (R : ∀ i : Int, Q (.int i) H) (h1 : c → (∀ i : Int, Q (.int i) H) → ta σ H Q) (h2 : ¬ c → (∀ i : Int, Q (.int i) H) → tb σ H Q) : if c then ta σ H Q else tb σ H Q := by
  by_cases h : c
  · rw [if_pos h]; exact h1 h R
  · rw [if_neg h]; exact h2 h R
theorem scSource : FnScope ["script", "k", "cell", "total", "other"] ["script", "k"] (defScope sSource) := ⟨rfl, rfl, rfl, by decide +kernel, rfl, by decide +kernel, by decide +kernel⟩
theorem scPick : FnScope ["source", "top", "found", "mixed"] ["source", "top"] (defScope sPick) := ⟨rfl, rfl, rfl, by decide +kernel, rfl, by decide +kernel, by decide +kernel⟩
theorem ok_pick {f : Addr} {fd : FuncData} (F : Fun K "_law_pick" "_law_pick" sPick f fd) (B : Blt mg) : FnOk P w K mg base CX0 1 f fd ["source", "top"] spPick := by
  refine F.ok scPick (fun vs H Q E h => ?_) (fun cdv A outer s H vs Q E hr h => ?_)
  · obtain ⟨p, c, m, rfl, _⟩ := h
    rfl
  · obtain ⟨p, c, m, rfl, ⟨a, b, d, hp, hb0, hb1, hd0, hd1⟩, hc, hm0, hm1, q⟩ := h
    refine ⟨_, pss_cons (ps_if (pt_cmpR op_gt (pe_ix ix_list (pv 0) pe_int (fun _ _ => rfl)) pe_int (nomark _))
        (pss_cons (ps_set (i := 2) scPick.nd rfl (.inl rfl) (pe_op op_mod (pe_callTy call_int1 (by rfl) B.int (by decide +kernel) (pa_cons (pe_ix ix_list (pv 0) pe_int (fun _ _ => rfl)) pa_nil)) (pv 1)))
        (pss_cons (ps_asg (pe_op op_fdivW (pe_ix ix_list (pv 0) pe_int (fun _ _ => rfl)) (pv 1)) (pg_sub (pv 0) pe_int set_list))
        (pss_one (ps_ret (pv 2))))) pss_nil)
      (pss_cons (ps_asg (pe_op op_add (pe_ix ix_list (pv 0) pe_int (fun _ _ => rfl)) pe_int) (pg_sub (pv 0) pe_int set_list))
      (pss_cons (ps_set (i := 3) scPick.nd rfl (.inl rfl) (pe_op op_mod (pe_callTy call_int1 (by rfl) B.int (by decide +kernel)
          (pa_cons (pe_op op_add (pe_op op_add (pe_ix ix_list (pv 0) pe_int (fun _ _ => rfl)) (pe_op op_mulW (pe_op op_mulW pe_int (pe_ix ix_list (pv 0) pe_int (fun _ _ => rfl))) (pe_ix ix_list (pv 0) pe_int (fun _ _ => rfl))))
            (pe_op op_mulW pe_int (pe_ix ix_list (pv 0) pe_int (fun _ _ => rfl)))) pa_nil)) (pe_op op_add (pe_op op_pow pe_int pe_int) pe_int)))
      (pss_cons (ps_set (i := 3) scPick.nd rfl (.inl rfl) (pe_op op_mod (pe_callTy call_int1 (by rfl) B.int (by decide +kernel)
          (pa_cons (pe_op op_add (pe_op op_mulW (pe_op op_mulW (pv 3) (pv 3)) (pv 3)) (pe_ix ix_list (pv 0) pe_int (fun _ _ => rfl))) pa_nil)) (pe_op op_add (pe_op op_pow pe_int pe_int) pe_int)))
      (pss_one (ps_ret (pe_op op_mod (pe_op op_fdiv (pe_op op_mod (pe_callTy call_int1 (by rfl) B.int (by decide +kernel) (pa_cons (pe_op op_mulW (pv 3) (pe_op op_add (pv 3) pe_int)) pa_nil)) (pe_op op_add (pe_op op_pow pe_int pe_int) pe_int)) pe_int) (pv 1))))))), ?_⟩
    have hh := SqL.of (K := K) hp
    refine ⟨_, rfl, p, _, 0, _, rfl, rfl, hh, rfl, _, _, rfl, rfl, _, rfl, ?_⟩
    refine ite2 (fun ha => ?_) (fun _ => ?_)
    · have ha0 : 0 < a := of_decide_eq_true ha
      refine ⟨_, rfl, p, _, 0, _, rfl, rfl, hh, rfl, .inl ⟨_, rfl, _, rfl, _, _, rfl, rfl, hm0, ?_⟩⟩
      refine ⟨_, rfl, p, _, 0, _, rfl, rfl, hh, rfl, _, rfl, _, _, rfl, rfl, wide_div (b := 100) hm0 (by omega) (by decide) (by decide), _, rfl, p, _, 0, 0, rfl, rfl, hp, rfl, _, rfl, ?_⟩
      exact q _ _ (Int.emod_nonneg _ (by omega)) (Int.emod_lt_of_pos _ hm0) ⟨_, _, _, upd_same, hb0, hb1, hd0, by omega⟩
    · refine ⟨_, rfl, p, _, 2, _, rfl, rfl, hh, rfl, _, _, rfl, rfl, _, rfl, p, _, 2, 2, rfl, rfl, hp, rfl, ?_⟩
      have hp' : (upd H p (HO.lst ([V.int a, V.int b, V.int d].set 2 (V.int (d + 1))))) p = some (.lst [V.int a, V.int b, V.int (d + 1)]) := upd_same
      have hh' := SqL.of (K := K) hp'
      have m29 : (0 : Int) < 10 ^ (29 : Int).toNat + 319 := by decide +kernel
      have m31 : (0 : Int) < 10 ^ (31 : Int).toNat + 33 := by decide +kernel
      have n31 : (10 : Int) ^ (31 : Int).toNat + 33 ≤ 2 ^ 104 := by decide +kernel
      have n29 : (10 : Int) ^ (29 : Int).toNat + 319 ≤ 2 ^ 100 := by decide +kernel
      have m32 : (0 : Int) < 10 ^ (32 : Int).toNat + 49 := by decide +kernel
      have n32 : (10 : Int) ^ (32 : Int).toNat + 49 ≤ 2 ^ 110 := by decide +kernel
      have e1 : (899809363 * (d + 1)).natAbs < 2 ^ 60 := by omega
      have e2 : (d + 1).natAbs < 2 ^ 20 := by omega
      have e3 : (32416190071 : Int).natAbs < 2 ^ 60 := by decide
      have e4 : (899809363 : Int).natAbs < 2 ^ 60 := by decide
      refine ⟨_, rfl, p, _, 1, _, rfl, rfl, hh', rfl, _, rfl, p, _, 2, _, rfl, rfl, hh', rfl, _, _, rfl, rfl, wide_mul e4 e2 (by decide) (by decide) (by decide), _, rfl, p, _, 2, _, rfl, rfl, hh', rfl, _, _, rfl, rfl, wide_mul e1 e2 (by decide) (by decide) (by decide), _, _, rfl, rfl, _, rfl, p, _, 2, _, rfl, rfl, hh', rfl, _, _, rfl, rfl, wide_mul e3 e2 (by decide) (by decide) (by decide), _, _, rfl, rfl, .inl ⟨_, rfl, ?_⟩⟩
      refine ⟨_, _, rfl, rfl, ⟨by decide, by decide, by decide⟩, _, _, rfl, rfl, _, _, rfl, rfl, m29, ?_⟩
      have f1 := mx_lt b (d + 1)
      have f2 : (mx b (d + 1) * mx b (d + 1)).natAbs < 2 ^ (100 + 100) := wide_lt f1 f1
      refine ⟨_, rfl, _, rfl, _, _, rfl, rfl, wide_mul (a := 100) (b := 100) f1 f1 (by decide) (by decide) (by decide), _, rfl, _, _, rfl, rfl, wide_mul (a := 200) (b := 100) f2 f1 (by decide) (by decide) (by decide), _, rfl, p, _, 2, _, rfl, rfl, hh', rfl, _, _, rfl, rfl, .inl ⟨_, rfl, ?_⟩⟩
      refine ⟨_, _, rfl, rfl, ⟨by decide, by decide, by decide⟩, _, _, rfl, rfl, _, _, rfl, rfl, m31, ?_⟩
      obtain ⟨g1, g2⟩ := my_lt (mx b (d + 1)) (d + 1)
      refine ⟨_, rfl, _, rfl, _, _, rfl, rfl, _, _, rfl, rfl, wide_mul (a := 105) (b := 105) g1 g2 (by decide) (by decide) (by decide), .inl ⟨_, rfl, ?_⟩⟩
      refine ⟨_, _, rfl, rfl, ⟨by decide, by decide, by decide⟩, _, _, rfl, rfl, _, _, rfl, rfl, m32, _, _, rfl, rfl, ⟨by decide, by decide⟩, _, rfl, _, _, rfl, rfl, hm0, ?_⟩
      exact q _ _ (Int.emod_nonneg _ (by omega)) (Int.emod_lt_of_pos _ hm0) ⟨_, _, _, upd_same, hb0, hb1, by omega, by omega⟩
theorem ok_source {f : Addr} {fd : FuncData} (F : Fun K "_law_source" "_law_source" sSource f fd) (B : Blt mg) : FnOk P w K mg base CX0 1 f fd ["script", "k"] (spSource K) := by
  refine F.ok scSource (fun vs H Q E h => ?_) (fun cdv A outer s H vs Q E hr h => ?_)
  · obtain ⟨a, ns, k, rfl, _⟩ := h
    rfl
  · obtain ⟨a, ns, k, rfl, hS, hlen, hk, hk1, q⟩ := h
    refine ⟨_, pss_cons (ps_set (i := 2) scSource.nd rfl (.inl rfl) (pe_ifExp (pt_cmpR op_lt (pv 1) (pe_callB call_len_seq (by rfl) B.len (by decide +kernel) (pa_cons (pv 0) pa_nil)) (nomark _))
        (pe_ix ix_list (pv 0) (pv 1) (fun _ _ => rfl)) (pe_op op_add (pe_op op_mul pe_int (pv 1)) pe_int)))
      (pss_cons (ps_set (i := 3) scSource.nd rfl (.inl rfl) (pe_callB call_len_seq (by rfl) B.len (by decide +kernel) (pa_cons (pv 0) pa_nil)))
      (pss_cons (ps_for PassesOwn.never rfl (pi_list (pv 0)) (pg_name (i := 4) scSource.nd rfl (.inl rfl)) (pss_one (ps_set (i := 3) scSource.nd rfl (.inl rfl)
        (pe_op op_mod (pe_callTy call_int1 (by rfl) B.int (by decide +kernel) (pa_cons (pe_op op_add (pe_op op_mul (pv 3) pe_int) (pe_op op_mod (pe_callTy call_int1 (by rfl) B.int (by decide +kernel) (pa_cons (pv 4) pa_nil))
          (pe_op op_add (pe_op op_pow pe_int pe_int) pe_int))) pa_nil)) (pe_op op_add (pe_op op_pow pe_int pe_int) pe_int)))))
      (pss_one (ps_ret (pe_lst (pa_cons (pe_callB (call_max2 rfl) (by rfl) B.max (by decide +kernel) (pa_cons pe_int (pa_cons (pe_op op_sub (pv 2) (pe_op op_pow pe_int pe_int)) pa_nil)))
        (pa_cons (pe_op op_mod (pe_callTy call_int1 (by rfl) B.int (by decide +kernel) (pa_cons (pe_op op_add (pe_op op_add (pe_op op_add (pe_op op_mul (pe_callB call_abs (by rfl) B.abs (by decide +kernel) (pa_cons (pv 2) pa_nil)) pe_int)
            (pe_op op_mul pe_int (pv 3))) (pe_callTy call_int1 (by rfl) B.int (by decide +kernel) (pa_cons (pe_cmpR op_lt (pv 2) pe_int (nomark _)) pa_nil))) (pe_op op_mul pe_int (pv 1))) pa_nil))
          (pe_op op_add (pe_op op_pow pe_int pe_int) pe_int))
        (pa_cons pe_int pa_nil)))))))), ?_⟩
    have p20 : (0 : Int) < 10 ^ (20 : Int).toNat + 39 := by decide +kernel
    have p26 : (0 : Int) < 10 ^ (26 : Int).toNat + 67 := by decide +kernel
    have p29 : (0 : Int) < 10 ^ (29 : Int).toNat + 319 := by decide +kernel
    have q29 : (10 : Int) ^ (29 : Int).toNat + 319 ≤ 2 ^ 100 := by decide +kernel
    refine ⟨_, rfl, _, rfl, _, _, rfl, .inl hS, _, _, rfl, rfl, _, rfl, ?_⟩
    refine ite_int (fun cell => ?_) (fun hlt R => ?_) (fun _ R => ?_)
    · refine ⟨_, rfl, _, _, rfl, .inl hS, _, rfl, a, rfl, ⟨_, hS⟩, for_list (K := K) (a := a) (xs := ns.map V.int) (fun i σ H' => ∃ (total : Int) (o : Option V), σ = [some (.ref a), some (.int k), some (.int cell), some (.int total), o] ∧ H' = H)
        ⟨_, _, rfl, rfl⟩ (fun i σ H' _ ⟨_, _, _, e⟩ => e ▸ hS) ?_ ?_⟩
      · rintro i x σ H' hx ⟨total, o, rfl, rfl⟩
        obtain ⟨z, hz, rfl⟩ := get_ints hx
        refine ⟨_, rfl, _, _, rfl, rfl, .inr ⟨by decide, by decide⟩, _, rfl, .inl ⟨_, rfl, ?_⟩⟩
        refine ⟨_, _, rfl, rfl, ⟨by decide, by decide, by decide⟩, _, _, rfl, rfl, _, _, rfl, rfl, p20, _, _, rfl, rfl, .inl ⟨_, rfl, _, _, rfl, rfl, ⟨by decide, by decide, by decide⟩, _, _, rfl, rfl, _, _, rfl, rfl, p26, ?_⟩⟩
        exact ⟨_, _, rfl, rfl⟩
      · rintro σ H' ⟨total, o, rfl, rfl⟩
        refine ⟨_, rfl, _, _, rfl, rfl, ⟨by decide, by decide, by decide⟩, _, _, rfl, rfl, _, _, rfl, ?_⟩
        refine ⟨_, rfl, _, rfl, _, _, rfl, rfl, .inr ⟨by decide, by decide⟩, _, rfl, _, _, rfl, rfl, .inl ⟨by decide, by decide⟩, _, _, rfl, rfl, ?_⟩
        refine ⟨_, rfl, _, _, rfl, rfl, .inr ⟨_, rfl, _, _, rfl, rfl, _, rfl, _, _, rfl, rfl, .inl ⟨by decide, by decide⟩, _, _, rfl, rfl, .inl ⟨_, rfl, ?_⟩⟩⟩
        refine ⟨_, _, rfl, rfl, ⟨by decide, by decide, by decide⟩, _, _, rfl, rfl, _, _, rfl, rfl, p29, (by show 3 ≤ sizeLine; decide), fun p hp => ?_⟩
        exact q p _ hp (same_new hp) ⟨_, _, _, upd_same, Int.emod_nonneg _ (by omega), Int.lt_of_lt_of_le (Int.emod_lt_of_pos _ p29) q29, by decide, by decide⟩
    · have hlt' : k < ((ns.map V.int).length : Int) := of_decide_eq_true hlt
      rw [len_ints] at hlt'
      have hget : (ns.map V.int)[k.toNat]? = some (.int ns[k.toNat]) := by rw [List.getElem?_map, List.getElem?_eq_getElem (by omega)]; rfl
      have hat := atI_nat hget
      rw [Int.toNat_of_nonneg hk] at hat
      exact ⟨_, rfl, _, rfl, a, _, k, _, rfl, rfl, hS, hat, R _⟩
    · exact ⟨_, rfl, _, _, rfl, rfl, .inl ⟨by decide, by decide⟩, _, _, rfl, rfl, R _⟩
end
end S1

set_option Elab.async false
set_option linter.all false
set_option maxRecDepth 100000
set_option maxHeartbeats 4000000
/-! unlike names, drawn: the counting -/
namespace S1
open PySem PySem.Spec PyProof.Rows L2
/-- a name -/
structure Nm (x : Str) : Prop where
  lo : 1 ≤ x.length
  hi : x.length ≤ 8
  az : ∀ c ∈ x.cps.toList, 97 ≤ c ∧ c ≤ 122
def nmB (x : Str) : Bool := decide (1 ≤ x.length) && decide (x.length ≤ 8) && x.cps.toList.all fun c => decide (97 ≤ c ∧ c ≤ 122)
theorem nm_of {x : Str} (h : nmB x = true) : Nm x := by
  unfold nmB at h
  rw [Bool.and_eq_true, Bool.and_eq_true, decide_eq_true_eq, decide_eq_true_eq, List.all_eq_true] at h
  exact ⟨h.1.1, h.1.2, fun c hc => of_decide_eq_true (h.2 c hc)⟩
def resv : List Str := ["mine", "newone", "nobody", "notthere"]
def left0 : List Str := ["a", "b", "c", "x", "y", "z", "ab", "ba", "aa", "xy", "yx", "zz", "abc", "acb", "xyz", "zyx", "own", "owns"]
def left1 : List Str := ["pick", "picks", "zebra", "alpha", "omega", "abcdefg", "abcdefgh", "hgfedcba", "aaaaaaaa", "zzzzzzzz"]
def cnt (L F : List Str) : Nat := L.countP fun w => decide (w ∈ F)
theorem pop_perm {α : Type} (L : List α) (k : Nat) (h : k < L.length) : L.Perm (L[k] :: L.eraseIdx k) := by
  have e : L = L.take k ++ L[k] :: L.drop (k + 1) := by
    rw [← List.drop_eq_getElem_cons h, List.take_append_drop]
  have z : (L.take k ++ L[k] :: L.drop (k + 1)).Perm (L[k] :: (L.take k ++ L.drop (k + 1))) := List.perm_middle
  rw [← e, ← List.eraseIdx_eq_take_drop_succ] at z
  exact z
theorem cnt_cons (w : Str) (L F : List Str) : cnt (w :: L) F = cnt L F + if w ∈ F then 1 else 0 := by
  unfold cnt
  rw [List.countP_cons]
  by_cases h : w ∈ F <;> simp [h]
theorem cnt_pop (L F : List Str) (k : Nat) (h : k < L.length) : cnt L F = cnt (L.eraseIdx k) F + if L[k] ∈ F then 1 else 0 := by
  rw [← cnt_cons]
  exact (pop_perm L k h).countP_eq _
theorem cnt_snoc_out {L F : List Str} {w : Str} (h : w ∉ L) : cnt L (F ++ [w]) = cnt L F := by
  unfold cnt
  refine List.countP_congr fun x hx => ?_
  have ne : x ≠ w := fun e => h (e ▸ hx)
  simp [ne]
theorem cnt_snoc_le : ∀ {L F : List Str} {w : Str}, L.Nodup → cnt L (F ++ [w]) ≤ cnt L F + 1
  | [], F, w, _ => by simp [cnt]
  | x :: L, F, w, nd => by
    obtain ⟨n1, n2⟩ := List.nodup_cons.mp nd
    rw [cnt_cons, cnt_cons]
    by_cases e : x = w
    · subst e
      rw [cnt_snoc_out n1]
      by_cases h : x ∈ F <;> simp [h]
    · have ih := cnt_snoc_le (F := F) (w := w) n2
      have z : (x ∈ F ++ [w]) ↔ x ∈ F := by simp [e]
      by_cases h : x ∈ F <;> simp [z, h] <;> omega
/-- what is left to draw from, what was found, and how many turns are ahead -/
structure Pool (L F : List Str) (r : Nat) : Prop where
  nl : L.Nodup
  nf : F.Nodup
  vl : ∀ w ∈ L, Nm w ∧ w ∉ resv
  vf : ∀ w ∈ F, Nm w ∧ w ∉ resv
  room : 2 * r + cnt L F ≤ L.length
/-- the same within a turn, with a word in hand -/
structure Mid (L F : List Str) (w : Str) (r : Nat) : Prop where
  nl : L.Nodup
  nf : F.Nodup
  vl : ∀ w ∈ L, Nm w ∧ w ∉ resv
  vf : ∀ w ∈ F, Nm w ∧ w ∉ resv
  nw : Nm w
  b : 2 * r + cnt L F ≤ L.length + 2
  c : w ∈ F ∨ w ∈ resv → 2 * r + cnt L F ≤ L.length + 1
  d : w ∉ L ∨ 2 * r + cnt L F ≤ L.length + 1
theorem erase_of {L : List Str} (nl : L.Nodup) (k : Nat) (h : k < L.length) : (L.eraseIdx k).Nodup ∧ L[k] ∉ L.eraseIdx k ∧ (L.eraseIdx k).length + 1 = L.length ∧ ∀ w ∈ L.eraseIdx k, w ∈ L := by
  have p := pop_perm L k h
  obtain ⟨n1, n2⟩ := List.nodup_cons.mp (p.nodup_iff.mp nl)
  refine ⟨n2, n1, by rw [p.length_eq, List.length_cons], fun w hw => p.mem_iff.mpr (List.mem_cons_of_mem _ hw)⟩
theorem Pool.pop {L F : List Str} {r : Nat} (P : Pool L F (r + 1)) (k : Nat) (h : k < L.length) : Mid (L.eraseIdx k) F L[k] (r + 1) ∧ 2 * (r + 1) + cnt (L.eraseIdx k) F ≤ (L.eraseIdx k).length + 1 := by
  obtain ⟨e1, e2, e3, e4⟩ := erase_of P.nl k h
  have c := cnt_pop L F k h
  have room := P.room
  have z : 2 * (r + 1) + cnt (L.eraseIdx k) F ≤ (L.eraseIdx k).length + 1 := by
    by_cases hF : L[k] ∈ F
    · rw [if_pos hF] at c; omega
    · rw [if_neg hF] at c; omega
  exact ⟨⟨e1, P.nf, fun w hw => P.vl w (e4 w hw), P.vf, (P.vl _ (List.getElem_mem h)).1, by omega, fun _ => z, .inr z⟩, z⟩
theorem Mid.rand {L F : List Str} {w u : Str} {r : Nat} (M : Mid L F w r) (z : 2 * r + cnt L F ≤ L.length + 1) (hu : Nm u) : Mid L F u r := ⟨M.nl, M.nf, M.vl, M.vf, hu, by omega, fun _ => z, .inr z⟩
theorem Mid.more {L F : List Str} {w : Str} {r : Nat} (M : Mid L F w (r + 1)) (hw : w ∈ F ∨ w ∈ resv) : 0 < L.length ∧ ∀ (k : Nat) (h : k < L.length), Mid (L.eraseIdx k) F L[k] (r + 1) := by
  have c := M.c hw
  refine ⟨by omega, fun k h => ?_⟩
  obtain ⟨e1, e2, e3, e4⟩ := erase_of M.nl k h
  have cp := cnt_pop L F k h
  refine ⟨e1, M.nf, fun w hw => M.vl w (e4 w hw), M.vf, (M.vl _ (List.getElem_mem h)).1, ?_, fun hk => ?_, .inl e2⟩
  · split at cp <;> omega
  · rcases hk with hk | hk
    · rw [if_pos hk] at cp; omega
    · exact absurd hk (M.vl _ (List.getElem_mem h)).2
theorem Mid.done {L F : List Str} {w : Str} {r : Nat} (M : Mid L F w (r + 1)) (h1 : w ∉ F) (h2 : w ∉ resv) : Pool L (F ++ [w]) r := by
  refine ⟨M.nl, ?_, M.vl, fun x hx => ?_, ?_⟩
  · rw [List.nodup_append]
    refine ⟨M.nf, by simp, fun a ha b hb => ?_⟩
    cases List.mem_singleton.mp hb
    exact fun e => h1 (e ▸ ha)
  · rcases List.mem_append.mp hx with z | z
    · exact M.vf x z
    · cases List.mem_singleton.mp z
      exact ⟨M.nw, h2⟩
  · rcases M.d with z | z
    · rw [cnt_snoc_out z]
      have := M.b
      omega
    · have := cnt_snoc_le (F := F) (w := w) M.nl
      omega
theorem pool0 {r : Nat} (h : r ≤ 14) : Pool (left0 ++ left1) [] r := by
  refine ⟨by decide +kernel, List.nodup_nil, fun w hw => ?_, fun w hw => absurd hw (by simp), ?_⟩
  · have z : ((left0 ++ left1).all fun w => nmB w && !resv.contains w) = true := by decide +kernel
    have z2 := List.all_eq_true.mp z w hw
    rw [Bool.and_eq_true] at z2
    refine ⟨nm_of z2.1, fun m => ?_⟩
    have z3 := z2.2
    simp [m] at z3
  · have z : cnt (left0 ++ left1) [] = 0 := by decide +kernel
    have z2 : (left0 ++ left1).length = 28 := by decide +kernel
    rw [z, z2]
    omega
end S1

set_option Elab.async false
set_option linter.all false
set_option maxRecDepth 100000
set_option maxHeartbeats 4000000
/-! unlike names, drawn -/
namespace S1
open PySem PySem.Spec PyProof.Rows L2
def spWords : Sp := fun vs H Q _ => ∃ (p : Addr) (c n : Nat), vs = [.ref p, .int n] ∧ Src H p c ∧ c ≤ 90000 ∧ n ≤ 14 ∧
  ∀ (l : Addr) (ws : List Str) (H' : Hp), H l = none → H' l = some (.lst (ws.map V.str)) → ws.length = n → ws.Nodup → (∀ x ∈ ws, Nm x ∧ x ∉ resv) → Src H' p (c + 200) → Same (del H p) (del H' p) → Q (.ref l) H'
theorem branch {c : Prop} [Decidable c] {t u : TS} {D : Ends} {σ : L2.St} {H : Hp} (I : L2.St → Hp → Prop) (R : ∀ σ' H', I σ' H' → D.nx σ' H') (h1 : c → (∀ σ' H', I σ' H' → D.nx σ' H') → t D σ H)
    (h2 : ¬ c → (∀ σ' H', I σ' H' → D.nx σ' H') → u D σ H) : if c then t D σ H else u D σ H := by
  by_cases h : c
  · rw [if_pos h]; exact h1 h R
  · rw [if_neg h]; exact h2 h R
theorem seq_nat {r : Int} {n : Nat} (h0 : 0 ≤ r) (h1 : r < n) : seqIndex? r n = some r.toNat := by
  unfold seqIndex?
  simp
  omega
theorem map_erase {α β : Type} (f : α → β) : ∀ (l : List α) (k : Nat), (l.map f).eraseIdx k = (l.eraseIdx k).map f
  | [], _ => rfl
  | _ :: _, 0 => rfl
  | x :: l, k + 1 => by rw [List.map_cons, List.eraseIdx_cons_succ, List.eraseIdx_cons_succ, List.map_cons, map_erase f l k]
theorem sd_of {H H' : Hp} {p : Addr} (s : Same H H') : Same (del H p) (del H' p) := fun b u e => by
  by_cases z : b = p
  · rw [z, del_same] at e; cases e
  · rw [del_ne z] at e ⊢; exact s b u e
theorem sd_put {H H' : Hp} {p l : Addr} {o : HO} (s : Same (del H p) (del H' p)) (h : H l = none) : Same (del H p) (del (upd H' l o) p) := fun b u e => by
  by_cases z : b = p
  · rw [z, del_same] at e; cases e
  · have z2 := s b u e
    rw [del_ne z] at e z2 ⊢
    rw [upd_ne (ne_of_none e h)]
    exact z2
theorem sd_at {H H' : Hp} {p : Addr} {o : HO} (s : Same (del H p) (del H' p)) : Same (del H p) (del (upd H' p o) p) := fun b u e => by
  by_cases z : b = p
  · rw [z, del_same] at e; cases e
  · have z2 := s b u e
    rw [del_ne z] at z2 ⊢
    rw [upd_ne z]
    exact z2
abbrev sg (c : Nat) : Str := ⟨#[c]⟩
theorem joinL_one : ∀ cs : List Nat, TL.joinL [] ((cs.map sg).map TL.tl) = cs
  | [] => rfl
  | [c] => rfl
  | c :: d :: cs => by
    show TL.tl (sg c) ++ ([] ++ TL.joinL [] (((d :: cs).map sg).map TL.tl)) = c :: d :: cs
    rw [joinL_one (d :: cs)]
    rfl
theorem join_one (cs : List Nat) : Txt.join "" (cs.map sg) = ⟨cs.toArray⟩ := by
  refine TL.ext_tl ((congrArg TL.tl (TL.join_eq _ _)).trans ((TL.tl_join _ _).trans ?_))
  have e : TL.tl ("" : Str) = [] := by decide +kernel
  rw [e, joinL_one]
theorem nm_join {cs : List Nat} (h1 : 1 ≤ cs.length) (h2 : cs.length ≤ 8) (h3 : ∀ c ∈ cs, 97 ≤ c ∧ c ≤ 122) : Nm (Txt.join "" (cs.map sg)) := by
  rw [join_one]
  exact ⟨by simpa [Str.length] using h1, by simpa [Str.length] using h2, by simpa using h3⟩
theorem join_len (cs : List Nat) : ((cs.map sg).map (·.length)).sum = cs.length := by
  induction cs with
  | nil => rfl
  | cons c cs ih =>
    rw [List.map_cons, List.map_cons, List.sum_cons, ih, List.length_cons]
    show 1 + cs.length = cs.length + 1
    omega
theorem abc_at {r : Int} (h0 : 0 ≤ r) (h1 : r < 26) : atI ("abcdefghijklmnopqrstuvwxyz" : Str).cps.toList r = some (97 + r.toNat) := by
  have z : ∀ k, k < 26 → ("abcdefghijklmnopqrstuvwxyz" : Str).cps.toList[k]? = some (97 + k) := by decide +kernel
  have z2 := atI_nat (z r.toNat (by omega))
  rwa [Int.toNat_of_nonneg h0] at z2
theorem gen_heap {D : L2.St → Hp → Prop} {σ : L2.St} {G : Hp} (F : Hp → Prop) (h : F G) (k : ∀ G', F G' → D σ G') : D σ G := k G h
theorem or_split {c : Prop} [Decidable c] {u : TT} {σ : L2.St} {H : Hp} {Q : Bool → Hp → Prop} (R : Hp → Prop) (k : ∀ H', R H' → Q true H') (h1 : c → (∀ H', R H' → Q true H') → Q true H) (h2 : ¬ c → (∀ H', R H' → Q true H') → u σ H Q) : if c then Q true H else u σ H Q := by
  by_cases h : c
  · rw [if_pos h]; exact h1 h k
  · rw [if_neg h]; exact h2 h k
theorem inV_str {x : Str} {xs : List Str} : inV (.str x) (xs.map V.str) = decide (x ∈ xs) := by
  unfold inV
  rw [List.any_map]
  by_cases h : x ∈ xs
  · rw [decide_eq_true h, List.any_eq_true]
    exact ⟨x, h, by simp [eqV]⟩
  · rw [decide_eq_false h, List.any_eq_false]
    intro y hy
    simp only [Function.comp, eqV]
    intro z
    have z2 : y = x := by simpa using z
    exact h (z2 ▸ hy)
theorem flat_strs (xs : List Str) : (xs.map V.str).all flatV = true := by
  rw [List.all_map, List.all_eq_true]
  exact fun _ _ => rfl
section
variable {P : Program} {w : World} {K : PySem.W.Frag} {mg : Str → Option Value} {base : Heap}
theorem scWords : FnScope ["source", "size", "left", "found", "letters", "turn", "word", "sign"] ["source", "size"] (defScope sWords) := ⟨rfl, rfl, rfl, by decide +kernel, rfl, by decide +kernel, by decide +kernel⟩
theorem ok_words {f fP : Addr} {fd fdP : FuncData} (F : Fun K "_law_words" "_law_words" sWords f fd) (Pk : Has K mg "_law_pick" sPick ["source", "top"] fP fdP) (B : Blt mg) : FnOk P w K mg base CX0 2 f fd ["source", "size"] spWords := by
  have GP : FnOk P w K mg base CX0 1 fP fdP ["source", "top"] spPick := ok_pick Pk.F B
  refine F.ok scWords (fun vs H Q E h => ?_) (fun cdv A outer s H vs Q E hr h => ?_)
  · obtain ⟨p, c, n, rfl, _⟩ := h
    rfl
  · obtain ⟨p, c, n, rfl, hp, hc, hn, q⟩ := h
    refine ⟨_, pss_cons (ps_set (i := 2) scWords.nd rfl (.inl rfl) (pe_lst (pa_cons pe_str (pa_cons pe_str (pa_cons pe_str (pa_cons pe_str (pa_cons pe_str (pa_cons pe_str (pa_cons pe_str (pa_cons pe_str (pa_cons pe_str (pa_cons pe_str
          (pa_cons pe_str (pa_cons pe_str (pa_cons pe_str (pa_cons pe_str (pa_cons pe_str (pa_cons pe_str (pa_cons pe_str (pa_cons pe_str pa_nil))))))))))))))))))))
      (pss_cons (ps_set (i := 2) scWords.nd rfl (.inl rfl) (pe_op op_cat (pv 2) (pe_lst (pa_cons pe_str (pa_cons pe_str (pa_cons pe_str (pa_cons pe_str (pa_cons pe_str (pa_cons pe_str (pa_cons pe_str (pa_cons pe_str (pa_cons pe_str (pa_cons pe_str pa_nil)))))))))))))
      (pss_cons (ps_asg (pe_tup (pa_cons (pe_lst pa_nil) (pa_cons pe_str pa_nil))) (pg_tup rfl (pgs_cons (pg_name (i := 3) scWords.nd rfl (.inl rfl)) (pgs_cons (pg_name (i := 4) scWords.nd rfl (.inr rfl)) pgs_nil))))
      (pss_cons (ps_for PassesOwn.never rfl (pi_range1 rfl B.range (pa_cons (pv 1) pa_nil)) (pg_name (i := 5) scWords.nd rfl (.inl rfl))
        (pss_cons (ps_set (i := 6) scWords.nd rfl (.inl rfl) (pe_bm PySem.F.plainAttrs_list PySem.F.slot_list_pop PySem.F.type_list_pop mt_popAt (pv 2) (pa_cons (pe_call GP hr rfl Pk.g Pk.F.kp Pk.b .nil pass0 (pa_cons (pv 0) (pa_cons (pe_callB call_len_seq (by rfl) B.len (by decide +kernel) (pa_cons (pv 2) pa_nil)) pa_nil))) pa_nil)))
        (pss_cons (ps_if (pt_cmpR op_eq (pe_call GP hr rfl Pk.g Pk.F.kp Pk.b .nil pass0 (pa_cons (pv 0) (pa_cons pe_int pa_nil))) pe_int (nomark _))
          (pss_one (ps_set (i := 6) scWords.nd rfl (.inl rfl) (pe_join pe_str (pe_lc (own := [("sign", 7)]) (g := gName 7) (tt := tYes) rfl scWords.nd (pi_range1 rfl B.range (pa_cons (pe_op op_add pe_int (pe_call GP hr rfl Pk.g Pk.F.kp Pk.b .nil pass0 (pa_cons (pv 0) (pa_cons pe_int pa_nil)))) pa_nil))
            (blkOk_by (N := ["source", "size", "left", "found", "letters", "turn", "word", "sign"]) (sc := defScope sWords) (by decide +kernel)) (fun _ _ _ _ _ => pg_name (i := 7) scWords.nd rfl (.inl rfl)) (fun _ _ _ _ _ => pts_nil)
            (fun _ _ _ _ _ => pe_ix ix_str (pv 4) (pe_call GP (by exact hr) (by rfl) Pk.g Pk.F.kp Pk.b .nil pass0 (pa_cons (pv 0) (pa_cons pe_int pa_nil))) (fun _ _ => rfl)))))) pss_nil)
        (pss_cons (ps_while PassesOwn.never (PW.pt (pw_or (pt_cmpR op_in_seq (pv 6) (pv 3) (by with_unfolding_all rfl)) (pw_or1 (pt_cmpR op_in_seq (pv 6) (pe_tup (pa_cons pe_str (pa_cons pe_str (pa_cons pe_str (pa_cons pe_str pa_nil))))) (by with_unfolding_all rfl)))))
          (pss_one (ps_set (i := 6) scWords.nd rfl (.inl rfl) (pe_bm PySem.F.plainAttrs_list PySem.F.slot_list_pop PySem.F.type_list_pop mt_popAt (pv 2) (pa_cons (pe_call GP hr rfl Pk.g Pk.F.kp Pk.b .nil pass0 (pa_cons (pv 0) (pa_cons (pe_callB call_len_seq (by rfl) B.len (by decide +kernel) (pa_cons (pv 2) pa_nil)) pa_nil))) pa_nil)))))
        (pss_one (ps_expr (pe_bm PySem.F.plainAttrs_list PySem.F.slot_list_append PySem.F.type_list_append mt_append (pv 3) (pa_cons (pv 6) pa_nil))))))))
      (pss_one (ps_ret (pv 3)))))), ?_⟩
    refine ⟨(by show 18 ≤ sizeLine; decide), fun l0 hl0 => ⟨_, rfl, (by show 10 ≤ sizeLine; decide), fun l1 hl1 => ?_⟩⟩
    have n01 : l0 ≠ l1 := ne_of_none upd_same hl1
    refine ⟨_, _, _, _, rfl, rfl, (by rw [upd_ne n01, upd_same]), upd_same, (by show 28 ≤ sizeLine; decide), fun aL hL => ⟨(by show 0 ≤ sizeLine; decide), fun aF hF => ⟨(by show 2 ≤ sizeLine; decide), fun t ht => ⟨t, _, rfl, SqT.of upd_same, rfl, _, _, rfl, _, _, rfl, rfl, ?_⟩⟩⟩⟩
    have nLF : aL ≠ aF := ne_of_none upd_same hF
    have nLt : aL ≠ t := ne_of_none (by rw [upd_ne nLF, upd_same]) ht
    have nFt : aF ≠ t := ne_of_none upd_same ht
    have hL0 : H aL = none := ((same_new hl0).trans (same_new hl1)).free hL
    have hF0 : H aF = none := (((same_new hl0).trans (same_new hl1)).trans (same_new hL)).free hF
    refine gen_heap (F := fun G => Same H G ∧ G aL = some (.lst ((left0 ++ left1).map V.str)) ∧ G aF = some (.lst [])) ⟨((((same_new hl0).trans (same_new hl1)).trans (same_new hL)).trans (same_new hF)).trans (same_new ht), by rw [upd_ne nLt, upd_ne nLF, upd_same]; rfl, by rw [upd_ne nFt, upd_same]⟩ (fun G ⟨sG, gL, gF⟩ => ?_)
    have npL := hp.ne hL0
    have npF := hp.ne hF0
    have gp : Src G p c := hp.mono (by obtain ⟨_, _, _, z, _⟩ := hp.at_; rw [z, sG _ _ z]) (Nat.le_refl _)
    refine ⟨_, rfl, (n : Nat), rfl, by omega, by omega, ?_⟩
    refine for_range (lo := 0) (n := n) (fun i σ H' => ∃ (L W : List Str) (o5 o6 o7 : Option V), σ = [some (.ref p), some (.int n), some (.ref aL), some (.ref aF), some (.str "abcdefghijklmnopqrstuvwxyz"), o5, o6, o7] ∧
        H' aL = some (.lst (L.map V.str)) ∧ H' aF = some (.lst (W.map V.str)) ∧ W.length = i ∧ i ≤ n ∧ Pool L W (n - i) ∧ L.length ≤ 28 ∧ Src H' p (c + 10 * i + (28 - L.length)) ∧ Same (del H p) (del H' p)) ?_ ?_ ?_
    · exact ⟨left0 ++ left1, [], _, _, _, rfl, gL, gF, rfl, Nat.zero_le _, pool0 (by omega), by decide +kernel, gp.mono rfl (by omega), sd_of sG⟩
    · rintro i σ H' hi ⟨L, W, o5, o6, o7, rfl, eL, eF, hW, _, PL, h28, hs, sm⟩
      obtain ⟨r, hr'⟩ : ∃ r, n - i = r + 1 := ⟨n - i - 1, by omega⟩
      rw [hr'] at PL
      have pos : 0 < L.length := by have := PL.room; omega
      refine ⟨_, rfl, .inl ⟨rfl, _, SqL.of eL⟩, _, rfl, _, rfl, _, _, rfl, .inl (SqL.of eL), p, _, _, rfl, hs, by omega, by rw [List.length_map]; omega, by rw [List.length_map]; omega, fun k o k0 k1 hp1 => ?_⟩
      rw [List.length_map] at k1
      have eL1 : upd H' p o aL = some (.lst (L.map V.str)) := by rw [upd_ne npL.symm]; exact eL
      have eF1 : upd H' p o aF = some (.lst (W.map V.str)) := by rw [upd_ne npF.symm]; exact eF
      have kl : k.toNat < L.length := by omega
      obtain ⟨M0, z0⟩ := PL.pop k.toNat kl
      have len0 : (L.eraseIdx k.toNat).length + 1 = L.length := (erase_of PL.nl _ kl).2.2.1
      refine ⟨aL, _, k, k.toNat, .str L[k.toNat], rfl, rfl, eL1, by omega, by omega, by rw [List.length_map]; exact seq_nat k0 k1, by rw [List.getElem?_map, List.getElem?_eq_getElem kl]; rfl, ?_⟩
      rw [map_erase]
      generalize L[k.toNat] = u at M0 ⊢
      generalize L.eraseIdx k.toNat = L1 at M0 z0 len0 ⊢
      have sm1 := sd_put (l := aL) (o := .lst (L1.map V.str)) (sd_at (o := o) sm) hL0
      have eF2 : upd (upd H' p o) aL (.lst (L1.map V.str)) aF = some (.lst (W.map V.str)) := by rw [upd_ne nLF.symm]; exact eF1
      have hs2 : Src (upd (upd H' p o) aL (.lst (L1.map V.str))) p (c + 10 * i + (28 - L1.length)) := hp1.mono (upd_ne npL) (by omega)
      have eL2 : upd (upd H' p o) aL (.lst (L1.map V.str)) aL = some (.lst (L1.map V.str)) := upd_same
      generalize upd (upd H' p o) aL (.lst (L1.map V.str)) = H2 at sm1 eF2 hs2 eL2 ⊢
      refine ⟨_, rfl, p, _, 3, rfl, hs2, by omega, by decide, by decide, fun k2 o2 _ _ hp2 => ⟨rfl, _, rfl, ?_⟩⟩
      refine branch (fun σ' H3 => ∃ (x : Str) (o7' : Option V), σ' = [some (.ref p), some (.int n), some (.ref aL), some (.ref aF), some (.str "abcdefghijklmnopqrstuvwxyz"), some (.int (0 + (i : Int))), some (.str x), o7'] ∧
        H3 aL = some (.lst (L1.map V.str)) ∧ H3 aF = some (.lst (W.map V.str)) ∧ Mid L1 W x (r + 1) ∧ Src H3 p (c + 10 * i + (28 - L1.length) + 10) ∧ Same (del H p) (del H3 p)) ?_ (fun _ R => ?_) (fun _ R => ?_)
      · rintro σ' H3 ⟨x, o7', rfl, e3, e4, M, hs3, sm3⟩
        refine ⟨fun m σ2 H4 => ∃ (L2 : List Str) (x2 : Str), σ2 = [some (.ref p), some (.int n), some (.ref aL), some (.ref aF), some (.str "abcdefghijklmnopqrstuvwxyz"), some (.int (0 + (i : Int))), some (.str x2), o7'] ∧ m = L2.length ∧ L2.length ≤ 28 ∧
          H4 aL = some (.lst (L2.map V.str)) ∧ H4 aF = some (.lst (W.map V.str)) ∧ Mid L2 W x2 (r + 1) ∧ Src H4 p (c + 10 * i + (28 - L2.length) + 10) ∧ Same (del H p) (del H4 p), ⟨_, L1, x, rfl, rfl, by omega, e3, e4, M, hs3, sm3⟩, ?_⟩
        rintro m σ2 H4 ⟨L2, x2, rfl, rfl, hle, e5, e6, M2, hs5, sm5⟩
        refine ⟨_, rfl, _, rfl, aF, _, rfl, .inl (SqL.of e6), rfl, flat_strs W, _, rfl, ?_⟩
        show if inV (V.str x2) (W.map V.str) = true then _ else _
        rw [inV_str]
        refine or_split (R := fun H5 => (x2 ∈ W ∨ x2 ∈ resv) ∧ H5 aL = some (.lst (L2.map V.str)) ∧ H5 aF = some (.lst (W.map V.str)) ∧ Src H5 p (c + 10 * i + (28 - L2.length) + 10) ∧ Same (del H p) (del H5 p)) (fun H5 ⟨hin, e7, e8, hs7, sm7⟩ => ?_) (fun hin k => k _ ⟨.inl (of_decide_eq_true hin), e5, e6, hs5, sm5⟩) (fun hout k => ?_)
        · show if true = true then _ else _
          rw [if_pos rfl]
          obtain ⟨pos2, step2⟩ := M2.more hin
          refine ⟨fun σ6 H6 => ∃ (L3 : List Str) (x3 : Str), σ6 = [some (.ref p), some (.int n), some (.ref aL), some (.ref aF), some (.str "abcdefghijklmnopqrstuvwxyz"), some (.int (0 + (i : Int))), some (.str x3), o7'] ∧ L3.length + 1 = L2.length ∧
            H6 aL = some (.lst (L3.map V.str)) ∧ H6 aF = some (.lst (W.map V.str)) ∧ Mid L3 W x3 (r + 1) ∧ Src H6 p (c + 10 * i + (28 - L3.length) + 10) ∧ Same (del H p) (del H6 p),
            fun σ6 H6 ⟨L3, x3, z1, z2, z3, z4, z5, z6, z7⟩ => ⟨L3.length, by omega, L3, x3, z1, rfl, by omega, z3, z4, z5, z6, z7⟩, ?_⟩
          refine ⟨_, rfl, .inl ⟨rfl, _, SqL.of e7⟩, _, rfl, _, rfl, _, _, rfl, .inl (SqL.of e7), p, _, _, rfl, hs7, by omega, by rw [List.length_map]; omega, by rw [List.length_map]; omega, fun k o k0 k1 hp8 => ?_⟩
          rw [List.length_map] at k1
          have kl2 : k.toNat < L2.length := by omega
          have len2 : (L2.eraseIdx k.toNat).length + 1 = L2.length := (erase_of M2.nl _ kl2).2.2.1
          have M3 := step2 k.toNat kl2
          refine ⟨aL, _, k, k.toNat, .str L2[k.toNat], rfl, rfl, by rw [upd_ne npL.symm]; exact e7, by omega, by omega, by rw [List.length_map]; exact seq_nat k0 k1, by rw [List.getElem?_map, List.getElem?_eq_getElem kl2]; rfl, ?_⟩
          rw [map_erase]
          exact ⟨L2.eraseIdx k.toNat, L2[k.toNat], rfl, len2, upd_same, by rw [upd_ne nLF.symm, upd_ne npF.symm]; exact e8, M3, hp8.mono (upd_ne npL) (by omega), sd_put (sd_at sm7) hL0⟩
        · refine ⟨_, rfl, (by show 4 ≤ sizeLine; decide), fun t6 ht6 => ⟨t6, resv.map V.str, rfl, .inr (SqT.of upd_same), rfl, rfl, _, rfl, ?_⟩⟩
          have nL6 : aL ≠ t6 := ne_of_none e5 ht6
          have nF6 : aF ≠ t6 := ne_of_none e6 ht6
          have np6 := hs5.ne ht6
          have h60 : H t6 = none := by
            cases z : H t6 with
            | none => rfl
            | some u =>
              have z2 := sm5 t6 u (by rw [del_ne np6.symm]; exact z)
              rw [del_ne np6.symm, ht6] at z2
              cases z2
          have e5' : upd H4 t6 (.tup (resv.map V.str)) aL = some (.lst (L2.map V.str)) := by rw [upd_ne nL6]; exact e5
          have e6' : upd H4 t6 (.tup (resv.map V.str)) aF = some (.lst (W.map V.str)) := by rw [upd_ne nF6]; exact e6
          have hs6 : Src (upd H4 t6 (.tup (resv.map V.str))) p (c + 10 * i + (28 - L2.length) + 10) := hs5.mono (upd_ne np6) (Nat.le_refl _)
          have sm6 := sd_put (o := .tup (resv.map V.str)) sm5 h60
          by_cases hres : x2 ∈ resv
          · have e : inV (V.str x2) (resv.map V.str) = true := by rw [inV_str]; exact decide_eq_true hres
            have z := k _ ⟨.inr hres, e5', e6', hs6, sm6⟩
            show if inV (V.str x2) (resv.map V.str) = true then _ else _
            rw [e]
            exact z
          · have e : inV (V.str x2) (resv.map V.str) = false := by rw [inV_str]; exact decide_eq_false hres
            show if inV (V.str x2) (resv.map V.str) = true then _ else _
            rw [e, if_neg (by decide)]
            refine ⟨_, rfl, .inl ⟨rfl, _, SqL.of e6'⟩, _, rfl, aF, _, _, rfl, rfl, e6', by rw [List.length_map]; exact small1000 (by omega), ?_⟩
            have P2 := M2.done (fun z => hout (decide_eq_true z)) hres
            exact ⟨L2, W ++ [x2], _, _, _, rfl, by rw [upd_ne nLF]; exact e5', by rw [upd_same, List.map_append]; rfl, by rw [List.length_append, hW]; rfl, by omega, by rw [show n - (i + 1) = r by omega]; exact P2, hle, hs6.mono (upd_ne npF) (by omega), sd_put sm6 hF0⟩
      · refine ⟨⟨_, rfl⟩, _, rfl, p, _, 8, rfl, hp2, by omega, by decide, by decide, fun r2 o3 r20 r21 hp3 => ⟨_, _, rfl, rfl, _, rfl, by omega, by omega, fun D hD => ?_⟩⟩
        have hpD := hp3.ne hD
        have sm3 := sd_at (o := o3) (sd_at (o := o2) sm1)
        have eL3 : upd (upd H2 p o2) p o3 aL = some (.lst (L1.map V.str)) := by rw [upd_ne npL.symm, upd_ne npL.symm]; exact eL2
        have eF3 : upd (upd H2 p o2) p o3 aF = some (.lst (W.map V.str)) := by rw [upd_ne npF.symm, upd_ne npF.symm]; exact eF2
        have hD0 : H D = none := by
          cases z : H D with
          | none => rfl
          | some u =>
            have z2 := sm3 D u (by rw [del_ne hpD.symm]; exact z)
            rw [del_ne hpD.symm, hD] at z2
            cases z2
        have nLD : aL ≠ D := ne_of_none eL3 hD
        have nFD : aF ≠ D := ne_of_none eF3 hD
        generalize upd (upd H2 p o2) p o3 = H3 at hp3 sm3 eL3 eF3 hD ⊢
        refine lc_range (lo := 0) (n := (1 + r2).toNat) (fun j H4 => ∃ cs : List Nat, H4 D = some (.lst ((cs.map sg).map V.str)) ∧ cs.length = j ∧ (∀ x ∈ cs, 97 ≤ x ∧ x ≤ 122) ∧ Src H4 p (c + 10 * i + (28 - L1.length) + 2 + j) ∧
          H4 aL = some (.lst (L1.map V.str)) ∧ H4 aF = some (.lst (W.map V.str)) ∧ Same (del H p) (del H4 p)) ?_ ?_ ?_
        · exact ⟨[], upd_same, rfl, fun x hx => absurd hx (by simp), hp3.mono (upd_ne hpD) (by omega), by rw [upd_ne nLD]; exact eL3, by rw [upd_ne nFD]; exact eF3, sd_put sm3 hD0⟩
        · rintro j H4 hj ⟨cs, eD, hcs, az, hs4, eL4, eF4, sm4⟩
          refine ⟨rfl, yes_of ?_⟩
          refine ⟨_, rfl, _, rfl, p, _, 26, rfl, hs4, by omega, by decide, by decide, fun r4 o4 r40 r41 hp4 => ⟨_, r4, _, rfl, rfl, by decide +kernel, abc_at r40 r41, _, by rw [upd_ne hpD.symm]; exact eD, ?_, cs ++ [97 + r4.toNat], ?_, ?_, ?_, ?_, ?_, ?_, ?_⟩⟩
          · rw [List.length_map, List.length_map]; exact small1000 (by omega)
          · rw [upd_same, List.map_append, List.map_append]; rfl
          · rw [List.length_append, hcs]; rfl
          · intro x hx
            rcases List.mem_append.mp hx with z | z
            · exact az x z
            · cases List.mem_singleton.mp z
              omega
          · exact hp4.mono (upd_ne hpD) (by omega)
          · rw [upd_ne nLD, upd_ne npL.symm]; exact eL4
          · rw [upd_ne nFD, upd_ne npF.symm]; exact eF4
          · exact sd_put (sd_at sm4) hD0
        · rintro H4 ⟨cs, eD, hcs, az, hs4, eL4, eF4, sm4⟩
          refine ⟨_, D, _, rfl, rfl, .inl (SqL.of eD), by rw [join_len]; show cs.length + _ * 0 ≤ 16777216; omega, ?_⟩
          exact R _ _ ⟨_, _, rfl, eL4, eF4, M0.rand z0 (nm_join (by omega) (by omega) az), hs4.mono rfl (by omega), sm4⟩
      · exact R _ _ ⟨u, _, rfl, by rw [upd_ne npL.symm]; exact eL2, by rw [upd_ne npF.symm]; exact eF2, M0, hp2.mono rfl (by omega), sd_at sm1⟩
    · rintro σ H' ⟨L, W, o5, o6, o7, rfl, eL, eF, hW, _, PL, h28, hs, sm⟩
      exact ⟨_, rfl, q aF W H' hF0 eF hW PL.nf PL.vf (hs.mono rfl (by omega)) sm⟩
end
end S1

set_option Elab.async false
set_option linter.all false
set_option maxRecDepth 100000
set_option maxHeartbeats 4000000
/-! clauses, drawn -/
namespace S1
open PySem PySem.W PySem.Spec PyProof.Rows L2
theorem lst_ne_tup {xs ys : List V} : HO.lst xs ≠ HO.tup ys := fun z => by cases z
mutual
/-- tuples stay what they are while a list changes -/
theorem dat_del {H H' : Hp} {p : Addr} {xs : List V} (hp : H p = some (.lst xs)) (s : Same (del H p) (del H' p)) : ∀ {v : V} {d : PyData}, keyable d = true → Dat H v d → Dat H' v d
  | _, _, _, .non => .non
  | _, _, _, .bl b => .bl b
  | _, _, _, .int i => .int i
  | _, _, _, .str x => .str x
  | _, _, k, .lst e h => by simp [keyable] at k
  | _, _, k, .tup (a := a) e h => by
    have ne : a ≠ p := fun z => by rw [z, hp] at e; cases e
    have z := s a _ (by rw [del_ne ne]; exact e)
    rw [del_ne ne] at z
    exact .tup z (dats_del hp s (by simpa [keyable] using k) h)
  | _, _, k, .dct e h => by simp [keyable] at k
theorem dats_del {H H' : Hp} {p : Addr} {xs : List V} (hp : H p = some (.lst xs)) (s : Same (del H p) (del H' p)) : ∀ {vs : List V} {ds : List PyData}, keyables ds = true → DatAll H vs ds → DatAll H' vs ds
  | _, _, _, .nil => .nil
  | _, _, k, .cons h t => by
    rw [keyables, Bool.and_eq_true] at k
    exact .cons (dat_del hp s k.1 h) (dats_del hp s k.2 t)
end
theorem Src.lst {H : Hp} {p : Addr} {c : Nat} (h : Src H p c) : ∃ xs, H p = some (.lst xs) := by
  obtain ⟨_, _, _, z, _⟩ := h.at_
  exact ⟨_, z⟩
theorem dat_src {H H' : Hp} {p : Addr} {c : Nat} (h : Src H p c) (s : Same (del H p) (del H' p)) {v : V} {d : PyData} (k : keyable d = true) (D : Dat H v d) : Dat H' v d := by
  obtain ⟨xs, z⟩ := h.lst
  exact dat_del z s k D
theorem dat_upd {H : Hp} {p : Addr} {o : HO} {xs : List V} (hp : H p = some (.lst xs)) {v : V} {d : PyData} (k : keyable d = true) (D : Dat H v d) : Dat (upd H p o) v d := dat_del hp (sd_at (Same.refl _)) k D
theorem dat_new {H : Hp} {p : Addr} {o : HO} (hp : H p = none) {v : V} {d : PyData} (D : Dat H v d) : Dat (upd H p o) v d := D.same (same_new hp)
/-! ### letters and clauses, as data -/
abbrev Ltr := Str × Bool
def ltD (l : Ltr) : PyData := .tuple [.str l.1, .bool l.2]
def clD (cl : List Ltr) : PyData := .tuple (cl.map ltD)
theorem keyable_lt (l : Ltr) : keyable (ltD l) = true := rfl
theorem keyables_map {α : Type} (f : α → PyData) (h : ∀ x, keyable (f x) = true) : ∀ l : List α, keyables (l.map f) = true
  | [] => rfl
  | x :: l => by rw [List.map_cons, keyables, h x, keyables_map f h l]; rfl
theorem keyable_cl (cl : List Ltr) : keyable (clD cl) = true := by
  show keyables (cl.map ltD) = true
  exact keyables_map ltD keyable_lt cl
theorem alike_lt (a b : Ltr) : alike (ltD a) (ltD b) = true := by simp [ltD, alike, alikeAll]
theorem alikes_map {α : Type} (f : α → PyData) (h : ∀ x y, alike (f x) (f y) = true) : ∀ l m : List α, alikeAll (l.map f) (m.map f) = true
  | [], _ => by simp [alikeAll]
  | _ :: _, [] => by simp [alikeAll]
  | x :: l, y :: m => by simp only [List.map_cons, alikeAll, h x y, alikes_map f h l m, Bool.and_self]
theorem alike_cl (a b : List Ltr) : alike (clD a) (clD b) = true := by
  show alikeAll (a.map ltD) (b.map ltD) = true
  exact alikes_map ltD alike_lt a b
/-- one text below another -/
def tlt (x y : Str) : Prop := x.cps.toList < y.cps.toList
theorem lt_letters {a b : Ltr} (ne : a.1 ≠ b.1) (h : dataLt (ltD a) (ltD b) = true) : tlt a.1 b.1 := by
  unfold ltD at h
  rw [dataLt_pair (by simp [alike]) (by simp [alike])] at h
  have e : PyData.eqv (.str a.1) (.str b.1) = false := by
    simp only [PyData.eqv]
    exact beq_false_of_ne ne
  rw [e, if_neg (by decide), dataLt_str] at h
  rw [decide_eq_true_eq] at h
  exact h
/-- what a drawn clause is -/
structure ClOk (ws : List Str) (cl : List Ltr) : Prop where
  up : cl.Pairwise fun a b => tlt a.1 b.1
  mem : ∀ l ∈ cl, l.1 ∈ ws
theorem depth_lt (l : Ltr) : (ltD l).depth ≤ 1 := by simp [ltD, PyData.depth, PyData.depthAll]
theorem depths_map {α : Type} (f : α → PyData) (n : Nat) (h : ∀ x, (f x).depth ≤ n) : ∀ l : List α, PyData.depthAll (l.map f) ≤ n
  | [] => by simp [PyData.depthAll]
  | x :: l => by
    have := h x
    have := depths_map f n h l
    simp only [List.map_cons, PyData.depthAll]
    omega
theorem depth_cl (cl : List Ltr) : (clD cl).depth ≤ 2 := by
  have := depths_map ltD 1 depth_lt cl
  simp only [clD, PyData.depth]
  omega
def spClause : Sp := fun vs H Q _ => ∃ (p lw : Addr) (c : Nat) (ws : List Str), vs = [.ref p, .ref lw] ∧ Src H p c ∧ c ≤ 90000 ∧ H lw = some (.lst (ws.map V.str)) ∧ ws.Nodup ∧ ws.length ≤ 100 ∧ p ≠ lw ∧
  ∀ (v : V) (cl : List Ltr) (H' : Hp), Dat H' v (clD cl) → ClOk ws cl → Src H' p (c + 202) → Same (del H p) (del H' p) → Q v H'
theorem ite_intP {c : Prop} [Decidable c] {ta tb : TE} {σ : L2.St} {H : Hp} {Q : VK} (I : Int → Prop) (R : ∀ i : Int, I i → Q (.int i) H) (h1 : c → (∀ i : Int, I i → Q (.int i) H) → ta σ H Q) (h2 : ¬ c → (∀ i : Int, I i → Q (.int i) H) → tb σ H Q) : if c then ta σ H Q else tb σ H Q := by
  by_cases h : c
  · rw [if_pos h]; exact h1 h R
  · rw [if_neg h]; exact h2 h R
theorem sd_new {H H' : Hp} {p l : Addr} {o : HO} (s : Same (del H p) (del H' p)) (hl : H' l = none) (n : l ≠ p) : Same (del H p) (del (upd H' l o) p) := by
  refine sd_put s ?_
  cases z : H l with
  | none => rfl
  | some u =>
    have z2 := s l u (by rw [del_ne n]; exact z)
    rw [del_ne n, hl] at z2
    cases z2
theorem sd_free {H H' : Hp} {p l : Addr} (s : Same (del H p) (del H' p)) (hl : H' l = none) (n : l ≠ p) : H l = none := by
  cases z : H l with
  | none => rfl
  | some u =>
    have z2 := s l u (by rw [del_ne n]; exact z)
    rw [del_ne n, hl] at z2
    cases z2
theorem dats_rows {H : Hp} : ∀ {T : List TRow}, (∀ q ∈ T, Dat H q.v q.2) → DatAll H (T.map TRow.v) (T.map Prod.snd)
  | [], _ => .nil
  | q :: T, h => .cons (h q List.mem_cons_self) (dats_rows fun r hr => h r (List.mem_cons_of_mem _ hr))
theorem sorty_of {α : Type} {f : α → PyData} {T : List TRow} {l : List α} (e : T.map Prod.snd = l.map f) (al : ∀ x y, alike (f x) (f y) = true) (tp : ∀ x, ∃ xs, f x = .tuple xs) (dp : ∀ x, (f x).depth ≤ 8) : Sorty T := by
  have z : ∀ p ∈ T, ∃ x, p.2 = f x := fun p hp => by
    have m : p.2 ∈ l.map f := e ▸ List.mem_map_of_mem hp
    obtain ⟨x, _, hx⟩ := List.mem_map.mp m
    exact ⟨x, hx.symm⟩
  refine ⟨fun d hd d' hd' => ?_, fun p hp => ?_, fun p hp => ?_⟩
  · rw [e] at hd hd'
    obtain ⟨x, _, rfl⟩ := List.mem_map.mp hd
    obtain ⟨y, _, rfl⟩ := List.mem_map.mp hd'
    exact al x y
  · obtain ⟨x, hx⟩ := z p hp
    rw [hx]; exact tp x
  · obtain ⟨x, hx⟩ := z p hp
    rw [hx]; exact dp x
/-- the letters of sorted rows -/
theorem letters_back {T T' : List TRow} {cl : List Ltr} (pm : T'.Perm T) (e : T.map Prod.snd = cl.map ltD) (nd : (cl.map Prod.fst).Nodup) (up : (T.map Prod.snd).Nodup → T'.Pairwise fun p q => dataLt p.2 q.2 = true) :
    ∃ cl' : List Ltr, cl'.Perm cl ∧ T'.map Prod.snd = cl'.map ltD ∧ cl'.Pairwise fun a b => tlt a.1 b.1 := by
  obtain ⟨cl', p2, e2⟩ := perm_back (f := ltD) ((pm.map Prod.snd).trans (.of_eq e)) cl rfl
  have nl : cl.Nodup := nodup_of_map nd
  have nT : (T.map Prod.snd).Nodup := by
    rw [e]
    refine List.pairwise_map.mpr (nl.imp fun {a b} ne z => ne ?_)
    unfold ltD at z
    injection z with z
    injection z with z1 z2
    injection z1 with z1
    injection z2 with z2
    injection z2 with z2
    exact Prod.ext z1 z2
  have u1 : (T'.map Prod.snd).Pairwise fun d e => dataLt d e = true := List.pairwise_map.mpr (up nT)
  rw [e2] at u1
  have nd' : (cl'.map Prod.fst).Nodup := ((p2.map Prod.fst).nodup_iff).mpr nd
  exact ⟨cl', p2, e2, ((List.pairwise_map.mp u1).and (List.pairwise_map.mp nd')).imp fun {a b} z => lt_letters z.2 z.1⟩
section
variable {P : Program} {w : World} {K : PySem.W.Frag} {mg : Str → Option Value} {base : Heap}
theorem scClause : FnScope ["source", "words", "size", "left", "letters", "turn"] ["source", "words"] (defScope sClause) := ⟨rfl, rfl, rfl, by decide +kernel, rfl, by decide +kernel, by decide +kernel⟩
theorem ok_clause {f fP : Addr} {fd fdP : FuncData} (F : Fun K "_law_clause" "_law_clause" sClause f fd) (Pk : Has K mg "_law_pick" sPick ["source", "top"] fP fdP) (B : Blt mg) : FnOk P w K mg base CX0 2 f fd ["source", "words"] spClause := by
  have GP : FnOk P w K mg base CX0 1 fP fdP ["source", "top"] spPick := ok_pick Pk.F B
  refine F.ok scClause (fun vs H Q E h => ?_) (fun cdv A outer s H vs Q E hr h => ?_)
  · obtain ⟨p, lw, c, ws, rfl, _⟩ := h
    rfl
  · obtain ⟨p, lw, c, ws, rfl, hp, hc, hW, nd, hlen, npw, q⟩ := h
    have hu : (A.deeper (envOfC "_law_clause" (defScope sClause) s.heap.objs.size f cdv)).units + 64 < cLine := hr.units
    refine ⟨_, pss_cons (ps_par3 (i := 2) (j := 3) (l := 4) rfl scClause.nd rfl rfl rfl (by decide) (by decide) (by decide) rfl rfl rfl
        (pa_cons (pe_ix ix_list (pe_lst (pa_cons pe_int (pa_cons pe_int (pa_cons pe_int (pa_cons pe_int (pa_cons pe_int (pa_cons pe_int (pa_cons pe_int (pa_cons pe_int (pa_cons pe_int (pa_cons pe_int (pa_cons pe_int (pa_cons pe_int pa_nil)))))))))))))
            (pe_call GP hr rfl Pk.g Pk.F.kp Pk.b .nil pass0 (pa_cons (pv 0) (pa_cons pe_int pa_nil))) (fun _ _ => rfl))
          (pa_cons (pe_callTy call_list_of (by rfl) B.list (by decide +kernel) (pa_cons (pv 1) pa_nil)) (pa_cons (pe_lst pa_nil) pa_nil))) (by with_unfolding_all rfl))
      (pss_cons (ps_for PassesOwn.never rfl (pi_range1 rfl B.range (pa_cons (pe_ifExp (pt_cmpR op_gt (pe_call GP hr rfl Pk.g Pk.F.kp Pk.b .nil pass0 (pa_cons (pv 0) (pa_cons pe_int pa_nil))) pe_int (nomark _))
            (pe_callB (call_min2 rfl) (by rfl) B.min (by decide +kernel) (pa_cons (pv 2) (pa_cons (pe_callB call_len_seq (by rfl) B.len (by decide +kernel) (pa_cons (pv 3) pa_nil)) pa_nil))) pe_int) pa_nil)) (pg_name (i := 5) scClause.nd rfl (.inl rfl))
        (pss_one (ps_expr (pe_bm PySem.F.plainAttrs_list PySem.F.slot_list_append PySem.F.type_list_append mt_append (pv 4) (pa_cons (pe_tup (pa_cons
          (pe_bm PySem.F.plainAttrs_list PySem.F.slot_list_pop PySem.F.type_list_pop mt_popAt (pv 3) (pa_cons (pe_call GP hr rfl Pk.g Pk.F.kp Pk.b .nil pass0 (pa_cons (pv 0) (pa_cons (pe_callB call_len_seq (by rfl) B.len (by decide +kernel) (pa_cons (pv 3) pa_nil)) pa_nil))) pa_nil))
          (pa_cons (pe_cmpR op_eq (pe_call GP hr rfl Pk.g Pk.F.kp Pk.b .nil pass0 (pa_cons (pv 0) (pa_cons pe_int pa_nil))) pe_int (nomark _)) pa_nil))) pa_nil)))))
      (pss_one (ps_ret (pe_tupleOf rfl B.tuple (pe_callB (cr_sortL (by exact hu)) (by rfl) B.sorted (by decide +kernel) (pa_cons (pv 4) pa_nil)))))), ?_⟩
    refine ⟨(by show 12 ≤ sizeLine; decide), fun l hl => ⟨_, rfl, p, _, 12, rfl, hp.mono (upd_ne (hp.ne hl)) (Nat.le_refl _), by omega, by decide, by decide, fun r o r0 r1 hp1 => ?_⟩⟩
    obtain ⟨v, hv, hm, _⟩ := at_ok (xs := [.int 1, .int 2, .int 2, .int 2, .int 3, .int 3, .int 3, .int 3, .int 4, .int 4, .int 5, .int 14]) r0 r1
    obtain ⟨z, rfl, z0⟩ : ∃ z : Int, v = .int z ∧ 0 ≤ z := by
      simp only [List.mem_cons, List.not_mem_nil, or_false] at hm
      rcases hm with h | h | h | h | h | h | h | h | h | h | h | h <;> exact ⟨_, h, by decide⟩
    have npl := hp.ne hl
    have nlw : lw ≠ l := ne_of_none hW hl
    have eW1 : upd (upd H l (.lst [.int 1, .int 2, .int 2, .int 2, .int 3, .int 3, .int 3, .int 3, .int 4, .int 4, .int 5, .int 14])) p o lw = some (.lst (ws.map V.str)) := by rw [upd_ne npw.symm, upd_ne nlw]; exact hW
    refine ⟨l, _, r, _, rfl, rfl, SqL.of (by rw [upd_ne npl.symm, upd_same]), hv, _, rfl, lw, _, rfl, .inl (SqL.of eW1), fun aL hL => ⟨(by show 0 ≤ sizeLine; decide), fun aT hT => ⟨_, _, _, rfl, ?_⟩⟩⟩
    have nLT : aL ≠ aT := ne_of_none upd_same hT
    have hT1 : upd (upd H l (.lst [.int 1, .int 2, .int 2, .int 2, .int 3, .int 3, .int 3, .int 3, .int 4, .int 4, .int 5, .int 14])) p o aT = none := by
      rw [upd_ne nLT.symm] at hT
      exact hT
    have npL := hp1.ne hL
    have npT := hp1.ne hT1
    have smA : Same (del H p) (del (upd (upd H l (.lst [.int 1, .int 2, .int 2, .int 2, .int 3, .int 3, .int 3, .int 3, .int 4, .int 4, .int 5, .int 14])) p o) p) := sd_at (sd_put (Same.refl _) hl)
    have hL0 := sd_free smA hL npL.symm
    have hT0 := sd_free smA hT1 npT.symm
    refine gen_heap (F := fun G => Same (del H p) (del G p) ∧ G aL = some (.lst (ws.map V.str)) ∧ G aT = some (.lst []) ∧ Src G p (c + 1)) ⟨sd_put (sd_put smA hL0) hT0, by rw [upd_ne nLT, upd_same], upd_same, hp1.mono (by rw [upd_ne npT, upd_ne npL]) (Nat.le_refl _)⟩ (fun G ⟨smG, gL, gT, hs⟩ => ?_)
    refine ⟨_, rfl, p, _, 60, rfl, hs, by omega, by decide, by decide, fun r6 o6 _ _ hp6 => ⟨_, _, rfl, rfl, _, rfl, ?_⟩⟩
    have eL6 : upd G p o6 aL = some (.lst (ws.map V.str)) := by rw [upd_ne npL.symm]; exact gL
    refine ite_intP (fun j => 0 ≤ j ∧ j ≤ (ws.length : Int)) (fun j hj => ?_) (fun _ k => ?_) (fun _ k => ?_)
    · refine ⟨j, rfl, by omega, by omega, ?_⟩
      refine for_range (lo := 0) (n := j.toNat) (fun i σ H' => ∃ (L : List Str) (T : List TRow) (cl : List Ltr) (o5 : Option V), σ = [some (.ref p), some (.ref lw), some (.int z), some (.ref aL), some (.ref aT), o5] ∧
        H' aL = some (.lst (L.map V.str)) ∧ H' aT = some (.lst (T.map TRow.v)) ∧ T.map Prod.snd = cl.map ltD ∧ (∀ q ∈ T, Dat H' q.v q.2) ∧ (cl.map Prod.fst ++ L).Nodup ∧ (∀ x ∈ cl.map Prod.fst ++ L, x ∈ ws) ∧ L.length + i = ws.length ∧ cl.length = i ∧
        Src H' p (c + 2 + 2 * i) ∧ Same (del H p) (del H' p)) ?_ ?_ ?_
      · exact ⟨ws, [], [], _, rfl, eL6, by rw [upd_ne npT.symm]; exact gT, rfl, fun q hq => absurd hq (by simp), by simpa using nd, fun x hx => by simpa using hx, rfl, rfl, hp6, sd_at smG⟩
      · rintro i σ H' hi ⟨L, T, cl, o5, rfl, eL, eT, eD, hD, nd2, sub, len, lcl, hs7, sm7⟩
        have lp : 0 < L.length := by omega
        refine ⟨_, rfl, .inl ⟨rfl, _, SqL.of eT⟩, _, rfl, .inl ⟨rfl, _, SqL.of eL⟩, _, rfl, _, rfl, _, _, rfl, .inl (SqL.of eL), p, _, _, rfl, hs7, by omega, by rw [List.length_map]; omega, by rw [List.length_map]; omega, fun k o k0 k1 hp1 => ?_⟩
        rw [List.length_map] at k1
        have kl : k.toNat < L.length := by omega
        have pp := pop_perm L k.toNat kl
        have lenE : (L.eraseIdx k.toNat).length + 1 = L.length := by rw [pp.length_eq, List.length_cons]
        refine ⟨aL, _, k, k.toNat, .str L[k.toNat], rfl, rfl, by rw [upd_ne npL.symm]; exact eL, by omega, by omega, by rw [List.length_map]; exact seq_nat k0 k1, by rw [List.getElem?_map, List.getElem?_eq_getElem kl]; rfl, ?_⟩
        rw [map_erase]
        generalize L[k.toNat] = u at pp ⊢
        generalize L.eraseIdx k.toNat = L1 at pp lenE ⊢
        have sm8 := sd_put (l := aL) (o := .lst (L1.map V.str)) (sd_at (o := o) sm7) hL0
        have hs8 : Src (upd (upd H' p o) aL (.lst (L1.map V.str))) p (c + 2 + 2 * i + 1) := hp1.mono (upd_ne npL) (Nat.le_refl _)
        have eT8 : upd (upd H' p o) aL (.lst (L1.map V.str)) aT = some (.lst (T.map TRow.v)) := by rw [upd_ne nLT.symm, upd_ne npT.symm]; exact eT
        have eL8 : upd (upd H' p o) aL (.lst (L1.map V.str)) aL = some (.lst (L1.map V.str)) := upd_same
        have hD8 : ∀ q ∈ T, Dat (upd (upd H' p o) aL (.lst (L1.map V.str))) q.v q.2 := fun q hq => by
          have kq : keyable q.2 = true := by
            have m : q.2 ∈ cl.map ltD := eD ▸ List.mem_map_of_mem hq
            obtain ⟨x, _, hx⟩ := List.mem_map.mp m
            rw [← hx]
            rfl
          obtain ⟨xs, hx⟩ := hs7.lst
          exact dat_upd (xs := L.map V.str) (by rw [upd_ne npL.symm]; exact eL) kq (dat_upd hx kq (hD q hq))
        generalize upd (upd H' p o) aL (.lst (L1.map V.str)) = H8 at sm8 hs8 eT8 eL8 hD8 ⊢
        refine ⟨_, rfl, p, _, 2, rfl, hs8, by omega, by decide, by decide, fun k2 o2 _ _ hp9 => ⟨rfl, (by show 2 ≤ sizeLine; decide), fun t ht => ?_⟩⟩
        have sm9 := sd_at (o := o2) sm8
        have eT9 : upd H8 p o2 aT = some (.lst (T.map TRow.v)) := by rw [upd_ne npT.symm]; exact eT8
        have eL9 : upd H8 p o2 aL = some (.lst (L1.map V.str)) := by rw [upd_ne npL.symm]; exact eL8
        have npt := hp9.ne ht
        have nTt : aT ≠ t := ne_of_none eT9 ht
        have nLt : aL ≠ t := ne_of_none eL9 ht
        have ht0 := sd_free sm9 ht npt.symm
        have eT10 : upd (upd H8 p o2) t (.tup [.str u, .bl (decide (V.int k2 = V.int 0))]) aT = some (.lst (T.map TRow.v)) := by rw [upd_ne nTt]; exact eT9
        refine ⟨aT, _, _, rfl, rfl, eT10, by rw [List.length_map, ← List.length_map (f := Prod.snd), eD, List.length_map]; exact small1000 (by omega), ?_⟩
        refine ⟨L1, T ++ [(t, ltD (u, decide (V.int k2 = V.int 0)))], cl ++ [(u, decide (V.int k2 = V.int 0))], _, rfl, by rw [upd_ne nLT, upd_ne nLt]; exact eL9, by rw [upd_same, List.map_append]; rfl, by rw [List.map_append, List.map_append, eD]; rfl, fun q hq => ?_, ?_, ?_, by omega, by rw [List.length_append, lcl]; rfl,
          hp9.mono (by rw [upd_ne npT, upd_ne npt]) (by omega), sd_put (sd_put sm9 ht0) hT0⟩
        · have kq : keyable q.2 = true := by
            rcases List.mem_append.mp hq with m | m
            · have m : q.2 ∈ cl.map ltD := eD ▸ List.mem_map_of_mem m
              obtain ⟨x, _, hx⟩ := List.mem_map.mp m
              rw [← hx]
              rfl
            · cases List.mem_singleton.mp m
              rfl
          refine dat_upd eT10 kq ?_
          rcases List.mem_append.mp hq with m | m
          · obtain ⟨xs, hx⟩ := hs8.lst
            exact dat_new ht (dat_upd hx kq (hD8 q m))
          · cases List.mem_singleton.mp m
            exact .tup (xs := [.str u, .bl (decide (V.int k2 = V.int 0))]) upd_same (.cons (.str _) (.cons (.bl _) .nil))
        · have e : ((cl ++ [(u, decide (V.int k2 = V.int 0))]).map Prod.fst ++ L1).Perm (cl.map Prod.fst ++ L) := by
            rw [List.map_append, List.append_assoc]
            exact (List.Perm.refl _).append pp.symm
          exact e.nodup_iff.mpr nd2
        · intro x hx
          have e : ((cl ++ [(u, decide (V.int k2 = V.int 0))]).map Prod.fst ++ L1).Perm (cl.map Prod.fst ++ L) := by
            rw [List.map_append, List.append_assoc]
            exact (List.Perm.refl _).append pp.symm
          exact sub x (e.mem_iff.mp hx)
      · rintro σ H' ⟨L, T, cl, o5, rfl, eL, eT, eD, hD, nd2, sub, len, lcl, hs7, sm7⟩
        have ndc : (cl.map Prod.fst).Nodup := (List.nodup_append.mp nd2).1
        refine ⟨_, rfl, aT, T, rfl, SqL.of eT, hD, sorty_of eD alike_lt (fun x => ⟨_, rfl⟩) (fun x => by have := depth_lt x; omega), fun T' b pm _ up hb => .inl ⟨b, _, rfl, SqL.of upd_same, fun t ht => ?_⟩⟩
        obtain ⟨cl', p2, e2, up2⟩ := letters_back pm eD ndc up
        have npb := hs7.ne hb
        have hs8 : Src (upd H' b (.lst (T'.map TRow.v))) p (c + 2 + 2 * j.toNat) := hs7.mono (upd_ne npb) (Nat.le_refl _)
        have npt := hs8.ne ht
        have sm8 := sd_put (o := .lst (T'.map TRow.v)) sm7 (sd_free sm7 hb npb.symm)
        refine q _ cl' _ (.tup upd_same ?_) ⟨up2, fun l hl => sub _ (List.mem_append_left _ (List.mem_map_of_mem (p2.mem_iff.mp hl)))⟩ (hs8.mono (upd_ne npt) (by omega)) (sd_put sm8 (sd_free sm8 ht npt.symm))
        rw [← e2]
        exact dats_rows fun r hr => dat_new ht (dat_new hb (hD r (pm.mem_iff.mp hr)))
    · exact ⟨_, rfl, _, rfl, _, _, rfl, .inl (SqL.of eL6), _, _, rfl, k _ (by rw [List.length_map]; split <;> omega)⟩
    · exact k _ ⟨by omega, by omega⟩
end
end S1

set_option Elab.async false
set_option linter.all false
set_option maxRecDepth 100000
set_option maxHeartbeats 4000000
/-! a number drawn, seldom 0 -/
namespace S1
open PySem PySem.W PySem.Spec PyProof.Rows L2
def spSome : Sp := fun vs H Q _ => ∃ (p : Addr) (c n : Nat), vs = [.ref p, .int n] ∧ Src H p c ∧ c ≤ 90000 ∧ n ≤ 1000 ∧
  ∀ (r : Nat) (H' : Hp), r ≤ n → Src H' p (c + 2) → Same (del H p) (del H' p) → Q (.int r) H'
section
variable {P : Program} {w : World} {K : PySem.W.Frag} {mg : Str → Option Value} {base : Heap}
theorem scSome : FnScope ["source", "size"] ["source", "size"] (defScope sSome) := ⟨rfl, rfl, rfl, by decide +kernel, rfl, by decide +kernel, by decide +kernel⟩
theorem or_cut {c : Prop} [Decidable c] {u : TT} {σ : L2.St} {H : Hp} {Q : Bool → Hp → Prop} (h1 : c → Q true H) (h2 : ¬ c → u σ H Q) : if c then Q true H else u σ H Q := by
  by_cases h : c
  · rw [if_pos h]; exact h1 h
  · rw [if_neg h]; exact h2 h
theorem ok_some {f fP : Addr} {fd fdP : FuncData} (F : Fun K "_law_some" "_law_some" sSome f fd) (Pk : Has K mg "_law_pick" sPick ["source", "top"] fP fdP) (B : Blt mg) : FnOk P w K mg base CX0 2 f fd ["source", "size"] spSome := by
  have GP : FnOk P w K mg base CX0 1 fP fdP ["source", "top"] spPick := ok_pick Pk.F B
  refine F.ok scSome (fun vs H Q E h => ?_) (fun cdv A outer s H vs Q E hr h => ?_)
  · obtain ⟨p, c, n, rfl, _⟩ := h
    rfl
  · obtain ⟨p, c, n, rfl, hp, hc, hn, q⟩ := h
    refine ⟨_, pss_one (ps_ret (pe_ifExp (PW.pt (pw_or (pt_cmpR op_eq (pv 1) pe_int (nomark _)) (pw_or1 (pt_cmpR op_eq (pe_call GP hr rfl Pk.g Pk.F.kp Pk.b .nil pass0 (pa_cons (pv 0) (pa_cons pe_int pa_nil))) pe_int (nomark _)))))
      pe_int (pe_op op_add pe_int (pe_call GP hr rfl Pk.g Pk.F.kp Pk.b .nil pass0 (pa_cons (pv 0) (pa_cons (pv 1) pa_nil)))))), ?_⟩
    refine ⟨_, rfl, rfl, _, rfl, or_cut (fun h0 => ?_) (fun h0 => ?_)⟩
    · show if true = true then _ else _
      rw [if_pos rfl]
      exact q 0 H (Nat.zero_le _) (hp.mono rfl (by omega)) (Same.refl _)
    · have n0 : 0 < n := by
        have z : ¬ (V.int (n : Nat) = V.int 0) := fun z => h0 (decide_eq_true z)
        rcases Nat.eq_zero_or_pos n with e | e
        · exact absurd (by rw [e]; rfl) z
        · exact e
      refine ⟨_, rfl, p, _, 12, rfl, hp, by omega, by decide, by decide, fun r o r0 r1 hp1 => ⟨rfl, _, rfl, ?_⟩⟩
      refine ite2 (fun _ => ?_) (fun _ => ?_)
      · exact q 0 _ (Nat.zero_le _) (hp1.mono rfl (by omega)) (sd_at (Same.refl _))
      · refine ⟨_, rfl, _, rfl, p, _, _, rfl, hp1, by omega, by omega, by omega, fun r2 o2 r20 r21 hp2 => ⟨_, _, rfl, rfl, ?_⟩⟩
        have e : (1 : Int) + r2 = ((r2.toNat + 1 : Nat) : Int) := by omega
        show Q (V.int (1 + r2)) _
        rw [e]
        exact q (r2.toNat + 1) _ (by omega) hp2 (sd_at (sd_at (Same.refl _)))
end
end S1

set_option Elab.async false
set_option linter.all false
set_option maxRecDepth 100000
set_option maxHeartbeats 4000000
/-! sorted(list) of texts, and the data of sayings -/
namespace S1
open PySem PySem.W PySem.Spec PyProof.Rows L2
abbrev RS (v : Value) (x : Str) : Prop := RelV (.str x) v
theorem each_strs : ∀ {xs : List Str} {us : List Value}, Vals (xs.map V.str) us → EachIs RS us xs
  | [], _, .nil => .nil
  | _ :: _, _, .cons r t => .cons r (each_strs t)
theorem strs_each : ∀ {us : List Value} {xs : List Str}, EachIs RS us xs → Vals (xs.map V.str) us
  | _, _, .nil => .nil
  | _, _, .cons r t => .cons r (strs_each t)
theorem each_reads {h : Heap} : ∀ {us : List Value} {xs : List Str}, EachIs RS us xs → EachIs (fun v x => ∃ as, Reads h v (.str x) as) us xs
  | _, _, .nil => .nil
  | _, _, .cons r t => .cons (by obtain ⟨k, rfl⟩ := r; exact ⟨_, .str _ k⟩) (each_reads t)
def sortW (xs : List Str) : List Str := xs.mergeSort (dataLe false PyData.str)
theorem sortW_up {xs : List Str} (nd : xs.Nodup) : (sortW xs).Pairwise tlt := by
  have srt : (sortW xs).Pairwise fun p q => dataLe false PyData.str p q = true := sort_pairwise (sortLe_total (listOrd itemOrd) false fun p : Str => keyToks (.str p)) xs
  have nd' : (sortW xs).Nodup := (List.mergeSort_perm _ _).nodup_iff.mpr nd
  refine (srt.and nd').imp fun {p q} z => ?_
  have al : alike (.str p) (.str q) = true := by simp [alike]
  have ne : PyData.str p ≠ PyData.str q := fun e => z.2 (by injection e)
  rcases dataLt_or al ne with c | c
  · rw [dataLt_str, decide_eq_true_eq] at c
    exact c
  · have z3 : (!dataLt (.str q) (.str p)) = true := z.1
    rw [c] at z3
    exact absurd z3 (by decide)
section
variable {X : Cx}
/-- sorted(xs), xs a list of texts -/
def rSortW (K : PySem.W.Frag) : List V → Hp → VK → Prop := fun vs H Q => ∃ (l : Addr) (xs : List Str), vs = [V.ref l] ∧ SqL K H l (xs.map V.str) ∧
  ∀ (ys : List Str) (b : Addr), ys.Perm xs → (xs.Nodup → ys.Pairwise tlt) → H b = none → Q (.ref b) (upd H b (.lst (ys.map V.str)))
theorem cr_sortW (hu : X.A.units + 64 < cLine) : CallR X (.builtin "sorted") (rSortW X.K) := by
  intro pins s σ H vs us Q I r h
  obtain ⟨l, xs, rfl, hl, q⟩ := h
  rw [Vals.ref1 r]
  obtain ⟨its, rv, pl, hz⟩ := I.list hl
  have e0 := each_strs rv
  have rd := each_reads (h := sortingHeap (copyHeap s.heap its) (s.heap.objs.size + 1) its) e0
  have al : AllAlike (xs.map PyData.str) := AllAlike.of fun b b' => by simp [alike]
  have un : ∀ d, d ∈ xs.map PyData.str → X.A.in1.in1.units + d.depth < cLine := fun d z => by
    obtain ⟨p, _, rfl⟩ := List.mem_map.mp z
    simp only [Around.in1_units, PyData.depth]
    omega
  have srt := SortsAt.data (prog := X.prog) (w := X.w) (A := X.A.in1.in1) (s := { s with heap := sortingHeap (copyHeap s.heap its) (s.heap.objs.size + 1) its }) (each_map (R := fun v d => ∃ as, Reads _ v d as) PyData.str rd) al
    (Sortable.others fun b => ⟨fun z => (nomatch z), fun _ z => (nomatch z)⟩) un
  have out := strs_each (sortVals_data (R := RS) (enc := PyData.str) false e0 rd al)
  rw [List.length_map] at hz
  have len : its.length = xs.length := by rw [e0.length]
  refine sorted_vals pl.isList srt (by rw [len]; exact hz) ?_
  obtain ⟨c, hc⟩ := PyProof.Rows.sortedAll_at s.heap its (sortVals (dataKind (sortingHeap (copyHeap s.heap its) (s.heap.objs.size + 1) its) (xs.map PyData.str)) false its its).toArray
  have fresh : H (s.heap.objs.size + 1) = none := I.hok.fresh (Nat.le_succ _)
  have pm : (sortW xs).Perm xs := List.mergeSort_perm _ _
  exact ⟨.ref _, upd H (s.heap.objs.size + 1) (.lst ((sortW xs).map V.str)), I.laid (t' := s.toks) (fun _ _ => PyProof.Rows.sortedAll_old) (Nat.le_succ _) ⟨by rw [List.length_map, pm.length_eq]; exact hz, _, c, out, hc⟩, rfl,
    q (sortW xs) _ pm sortW_up fresh⟩
end
/-! ### the data of sayings -/
abbrev Own := Str × List Str
def nmsD (xs : List Str) : PyData := .tuple (xs.map .str)
def ownD (o : Own) : PyData := .tuple [.str o.1, nmsD o.2]
structure Say where
  picks : List Str
  owns : List Own
  cls : List (List Ltr)
def Say.d (s : Say) : PyData := .tuple [nmsD s.picks, .tuple (s.owns.map ownD), .tuple (s.cls.map clD)]
def Say.names (s : Say) : List Str := s.picks ++ s.owns.map Prod.fst
def copies (os : List Own) : Nat := (os.map fun o => 2 ^ o.2.length).sum
/-- a saying of at most so many picks, owns, copies, clauses -/
structure SayOk (a b c d : Nat) (s : Say) : Prop where
  pu : s.picks.Pairwise tlt
  pn : ∀ x ∈ s.picks, Nm x
  pl : s.picks.length ≤ a
  ou : s.owns.Pairwise fun x y => tlt x.1 y.1
  on : ∀ o ∈ s.owns, Nm o.1 ∧ o.1 ∉ s.picks ∧ o.2.Pairwise tlt ∧ ∀ x ∈ o.2, x ∈ s.picks
  ol : s.owns.length ≤ b
  oc : copies s.owns ≤ c
  cu : s.cls.Pairwise fun x y => dataLt (clD x) (clD y) = true
  ck : ∀ cl ∈ s.cls, ClOk s.names cl
  cl : s.cls.length ≤ d
theorem alike_nms (a b : List Str) : alike (nmsD a) (nmsD b) = true := by
  show alikeAll (a.map .str) (b.map .str) = true
  exact alikes_map PyData.str (fun _ _ => by simp [alike]) a b
theorem alike_own (a b : Own) : alike (ownD a) (ownD b) = true := by
  simp only [ownD, alike, alikeAll, alike_nms, Bool.and_self, Bool.and_true]
theorem depth_nms (a : List Str) : (nmsD a).depth ≤ 1 := by
  have := depths_map PyData.str 0 (fun _ => Nat.le_refl _) a
  simp only [nmsD, PyData.depth]
  omega
theorem depth_own (a : Own) : (ownD a).depth ≤ 2 := by
  have := depth_nms a.2
  simp only [ownD, PyData.depth, PyData.depthAll]
  omega
theorem keyable_nms (a : List Str) : keyable (nmsD a) = true := by
  show keyables (a.map .str) = true
  exact keyables_map PyData.str (fun _ => rfl) a
theorem keyable_own (a : Own) : keyable (ownD a) = true := by
  simp only [ownD, keyable, keyables, keyable_nms, Bool.and_self]
theorem lt_owns {a b : Own} (ne : a.1 ≠ b.1) (h : dataLt (ownD a) (ownD b) = true) : tlt a.1 b.1 := by
  unfold ownD at h
  rw [dataLt_pair (by simp [alike]) (alike_nms _ _)] at h
  have e : PyData.eqv (.str a.1) (.str b.1) = false := by
    simp only [PyData.eqv]
    exact beq_false_of_ne ne
  rw [e, if_neg (by decide), dataLt_str, decide_eq_true_eq] at h
  exact h
/-- a tuple that stands, its object without a dict of its own -/
def FT (H : Hp) (a : Addr) (xs : List V) : Prop := ∃ o : Obj, o.dict = none ∧ H a = some (.frz o (.tup xs))
theorem FT.rd {H : Hp} {a : Addr} {xs : List V} (h : FT H a xs) : Rd H a (.tup xs) := let ⟨o, _, e⟩ := h; .inr ⟨o, e⟩
theorem FT.sq {K : PySem.W.Frag} {H : Hp} {a : Addr} {xs : List V} (h : FT H a xs) : SqT K H a xs := .inl h.rd
theorem FT.same {H H' : Hp} {a : Addr} {xs : List V} (h : FT H a xs) (S : Same H H') : FT H' a xs := let ⟨o, d, e⟩ := h; ⟨o, d, S _ _ e⟩
/-- the owns of a saying, as they stand -/
def DatO (H : Hp) (v : V) (os : List Own) : Prop := ∃ b us, v = .ref b ∧ FT H b us ∧ DatAll H us (os.map ownD)
theorem DatO.same {H H' : Hp} {v : V} {os : List Own} (h : DatO H v os) (S : Same H H') : DatO H' v os := let ⟨b, us, e, f, d⟩ := h; ⟨b, us, e, f.same S, DatAll.same S d⟩
/-- a saying, as it stands -/
def DatS (H : Hp) (v : V) (s : Say) : Prop := ∃ a p o c, v = .ref a ∧ H a = some (.tup [p, o, c]) ∧ Dat H p (nmsD s.picks) ∧ DatO H o s.owns ∧ Dat H c (.tuple (s.cls.map clD))
theorem DatS.same {H H' : Hp} {v : V} {s : Say} (h : DatS H v s) (S : Same H H') : DatS H' v s := let ⟨a, p, o, c, e, g, d1, d2, d3⟩ := h; ⟨a, p, o, c, e, S _ _ g, d1.same S, d2.same S, d3.same S⟩
section
variable {X : Cx}
/-- tuple(xs), xs a list: what is new is known to the last -/
def kTupF (K : PySem.W.Frag) : V → Hp → VK → Prop := fun x H Q => ∃ (p : Addr) (ys : List V), x = .ref p ∧ SqL K H p ys ∧ ∀ (l : Addr) (o : Obj), H l = none → o.dict = none → Q (.ref l) (upd H l (.frz o (.tup ys)))
theorem call_tupleF {pins : List (Addr × Obj)} {σ : L2.St} {H : Hp} {s : Shared} {x : V} {u : Value} {Q : VK} (I : Inv X pins σ H s) (r : RelV x u) (h : kTupF X.K x H Q) : wpAny (model X.prog X.w) X.A (call (.type "tuple") [u]) (EP X pins σ Q) X.xe s := by
  obtain ⟨p, ys, rfl, hq, q⟩ := h
  cases r
  obtain ⟨its, r', pl, hz⟩ := I.list hq
  have hlen := r'.length
  refine call_tuple_list pl.isList (fun h' kp => ?_) (by simp only [List.size_toArray] <;> omega)
  have I1 : Inv X pins σ H { s with heap := h' } := I.kept (t' := s.toks) kp
  have I2 : Inv X pins σ (upd H h'.objs.size (.frz { cls := .type "tuple", data := .seq its.toArray } (.tup ys))) { s with heap := h'.push { cls := .type "tuple", data := .seq its.toArray } } :=
    I1.laid (t' := s.toks) (fun b o e => Heap.get?_push_of_some _ e) (Nat.le_refl _) (show ObjOk X.prog X.w _ _ _ (.frz _ (.tup ys)) from ⟨Heap.get?_push_size _ rfl, hz, its, r', IsTup.new _ _⟩)
  exact ⟨.ref h'.objs.size, _, I2, rfl, q _ _ (I1.hok.fresh (Nat.le_refl _)) rfl⟩
theorem pe_tupleF {a : Expr} {ta : TE} {p pos : Pos} (hg : Gl X "tuple") (hm : X.mg "tuple" = none) (ha : PE X a ta) (na : starEach [a] X.env = (false, eval a X.env) :: starEach [] X.env := by rfl) :
    PE X (.Call (.Name "tuple" p) [a] [] pos) (tThen ta (kTupF X.K)) := by
  refine ⟨fun pins s σ H Q I h => ?_⟩
  exact Call_ (ld_blt I hg hm boot_tuple (PyProof.Rows.callWith_type1 (one_arg ha I h (fun v s2 x H2 I2 r q => call_tupleF I2 r q) na) na))
end
end S1

set_option Elab.async false
set_option linter.all false
set_option maxRecDepth 100000
set_option maxHeartbeats 4000000
/-! sayings, drawn -/
namespace S1
open PySem PySem.W PySem.Spec PyProof.Rows L2
def spSaying : Sp := fun vs H Q _ => ∃ (p z : Addr) (c a b m d : Nat), vs = [.ref p, .ref z] ∧ Src H p c ∧ c ≤ 50000 ∧ H z = some (.tup [.int a, .int b, .int m, .int d]) ∧ a + b ≤ 14 ∧ m ≤ 1000 ∧ d ≤ 60 ∧
  ∀ (v : V) (s : Say) (H' : Hp), DatS H' v s → SayOk a b m d s → Src H' p (c + 1500 + 203 * d) → Same (del H p) (del H' p) → Q v H'
abbrev nSaying : List Str := ["source", "sizes", "words", "picks", "owns", "room", "word", "sight", "pick", "clauses", "turn"]
theorem cut_take {ws : List Str} {r : Nat} : cutV (ws.map V.str) none (some (r : Int)) = (ws.take r).map V.str := by
  unfold cutV
  rw [HT.sIx_nat, HT.sIx_none, List.drop_zero, List.map_take, Nat.sub_zero, ← List.take_eq_take_min]
theorem cut_mid {ws : List Str} {a r : Nat} (h : a + r ≤ ws.length) : cutV (ws.map V.str) (some (a : Int)) (some ((a + r : Nat) : Int)) = ((ws.drop a).take r).map V.str := by
  unfold cutV
  rw [HT.sIx_nat, HT.sIx_nat, List.length_map, Nat.min_eq_left (show a ≤ ws.length by omega), Nat.min_eq_left h, ← List.map_drop, ← List.map_take]
  congr 1
  congr 1
  omega
theorem dats_strs {H : Hp} : ∀ xs : List Str, DatAll H (xs.map V.str) (xs.map PyData.str)
  | [] => .nil
  | x :: xs => .cons (.str x) (dats_strs xs)
theorem copies_snoc (os : List Own) (o : Own) : copies (os ++ [o]) = copies os + 2 ^ o.2.length := by
  unfold copies
  rw [List.map_append, List.sum_append, List.map_cons, List.map_nil, List.sum_cons, List.sum_nil, Nat.add_zero]
theorem own_row {H : Hp} {q : TRow} {o : Own} (e : q.2 = ownD o) (D : Dat H q.v q.2) : ∃ t, H q.1 = some (.tup [.str o.1, .ref t]) ∧ H t = some (.tup (o.2.map V.str)) := by
  rw [e] at D
  have D2 : Dat H (.ref q.1) (.tuple [.str o.1, nmsD o.2]) := D
  cases D2 with
  | tup g h =>
    cases h with
    | cons h1 h2 =>
      cases h2 with
      | cons h3 h4 =>
        cases h4
        cases h1
        have h5 : Dat H _ (.tuple (o.2.map .str)) := h3
        cases h5 with
        | tup g2 h6 =>
          have key : ∀ {xs : List V} {l : List Str}, DatAll H xs (l.map PyData.str) → xs = l.map V.str := by
            intro xs l
            induction l generalizing xs with
            | nil => intro h; cases h; rfl
            | cons x l ih =>
              intro h
              cases h with
              | cons a b =>
                cases a
                rw [ih b, List.map_cons]
          rw [key h6] at g2
          exact ⟨_, g, g2⟩
theorem rows_back {α : Type} {f : α → PyData} {g : α → Str} (hg : ∀ a b, f a = f b → g a = g b) (hlt : ∀ a b, g a ≠ g b → dataLt (f a) (f b) = true → tlt (g a) (g b)) {T T' : List TRow} {l : List α} (pm : T'.Perm T) (e : T.map Prod.snd = l.map f)
    (nd : (l.map g).Nodup) (up : (T.map Prod.snd).Nodup → T'.Pairwise fun p q => dataLt p.2 q.2 = true) : ∃ l' : List α, l'.Perm l ∧ T'.map Prod.snd = l'.map f ∧ l'.Pairwise fun a b => tlt (g a) (g b) := by
  obtain ⟨l', p2, e2⟩ := perm_back (f := f) ((pm.map Prod.snd).trans (.of_eq e)) l rfl
  have nT : (T.map Prod.snd).Nodup := by
    rw [e]
    exact List.pairwise_map.mpr ((List.pairwise_map.mp nd).imp fun {a b} ne z => ne (hg a b z))
  have u1 : (T'.map Prod.snd).Pairwise fun d e => dataLt d e = true := List.pairwise_map.mpr (up nT)
  rw [e2] at u1
  have nd' : (l'.map g).Nodup := ((p2.map g).nodup_iff).mpr nd
  exact ⟨l', p2, e2, ((List.pairwise_map.mp u1).and (List.pairwise_map.mp nd')).imp fun {a b} z => hlt a b z.2 z.1⟩
theorem own_name (a b : Own) (h : ownD a = ownD b) : a.1 = b.1 := by
  unfold ownD at h
  injection h with h
  injection h with h _
  injection h
theorem nodup_le {α : Type} : ∀ {l m : List α}, l.Nodup → (∀ x ∈ l, x ∈ m) → l.length ≤ m.length
  | [], _, _, _ => Nat.zero_le _
  | x :: l, m, nd, h => by
    obtain ⟨s, t, e⟩ := List.append_of_mem (h x List.mem_cons_self)
    obtain ⟨n1, n2⟩ := List.nodup_cons.mp nd
    have ih := nodup_le (m := s ++ t) n2 fun y hy => by
      have z := h y (List.mem_cons_of_mem _ hy)
      rw [e] at z
      rcases List.mem_append.mp z with z | z
      · exact List.mem_append_left _ z
      · rcases List.mem_cons.mp z with z | z
        · exact absurd (z ▸ hy) n1
        · exact List.mem_append_right _ z
    rw [e, List.length_append, List.length_cons, List.length_cons]
    rw [List.length_append] at ih
    omega
theorem copies_perm {l m : List Own} (p : l.Perm m) : copies l = copies m := (p.map fun o : Own => 2 ^ o.2.length).sum_nat
theorem and_split {c : Prop} [Decidable c] {u : TT} {σ : L2.St} {H : Hp} {Q : Bool → Hp → Prop} (R : Hp → Prop) (k : ∀ H', R H' → Q false H') (h1 : c → (∀ H', R H' → Q false H') → u σ H Q) (h2 : ¬ c → (∀ H', R H' → Q false H') → Q false H) : if c then u σ H Q else Q false H := by
  by_cases h : c
  · rw [if_pos h]; exact h1 h k
  · rw [if_neg h]; exact h2 h k
/-- what a turn leaves as it is -/
structure Bun (H H1 : Hp) (p b0 n2 aO : Addr) (ys W2 : List Str) (T : List TRow) (G : Hp) : Prop where
  b : G b0 = some (.lst (ys.map V.str))
  n : G n2 = some (.lst (W2.map V.str))
  o : G aO = some (.lst (T.map TRow.v))
  d : ∀ q ∈ T, Dat G q.v q.2
  k : ∀ q ∈ T, keyable q.2 = true
  s : Same (del H p) (del G p)
  s1 : Same (del H1 p) (del G p)
  pb : p ≠ b0
  pn : p ≠ n2
  po : p ≠ aO
section
variable {H H1 : Hp} {p b0 n2 aO : Addr} {ys W2 : List Str} {T : List TRow} {G : Hp}
theorem Bun.src (B : Bun H H1 p b0 n2 aO ys W2 T G) {c : Nat} (h : Src G p c) (o : HO) : Bun H H1 p b0 n2 aO ys W2 T (upd G p o) := by
  obtain ⟨xs, hx⟩ := h.lst
  exact ⟨by rw [upd_ne B.pb.symm]; exact B.b, by rw [upd_ne B.pn.symm]; exact B.n, by rw [upd_ne B.po.symm]; exact B.o, fun q hq => dat_upd hx (B.k q hq) (B.d q hq), B.k, sd_at B.s, sd_at B.s1, B.pb, B.pn, B.po⟩
theorem Bun.new (B : Bun H H1 p b0 n2 aO ys W2 T G) {D : Addr} (h : G D = none) (n : D ≠ p) (o : HO) : Bun H H1 p b0 n2 aO ys W2 T (upd G D o) :=
  ⟨by rw [upd_ne (ne_of_none B.b h)]; exact B.b, by rw [upd_ne (ne_of_none B.n h)]; exact B.n, by rw [upd_ne (ne_of_none B.o h)]; exact B.o, fun q hq => dat_new h (B.d q hq), B.k, sd_new B.s h n, sd_new B.s1 h n, B.pb, B.pn, B.po⟩
/-- a list of the turn's own -/
structure Mine (H H1 : Hp) (b0 n2 aO D : Addr) : Prop where
  h : H D = none
  h1 : H1 D = none
  b : D ≠ b0
  n : D ≠ n2
  o : D ≠ aO
theorem Bun.mine (B : Bun H H1 p b0 n2 aO ys W2 T G) {D : Addr} (h : G D = none) (n : D ≠ p) : Mine H H1 b0 n2 aO D :=
  ⟨sd_free B.s h n, sd_free B.s1 h n, (ne_of_none B.b h).symm, (ne_of_none B.n h).symm, (ne_of_none B.o h).symm⟩
theorem Bun.put (B : Bun H H1 p b0 n2 aO ys W2 T G) {D : Addr} (M : Mine H H1 b0 n2 aO D) {xs : List V} (e : G D = some (.lst xs)) (o : HO) : Bun H H1 p b0 n2 aO ys W2 T (upd G D o) :=
  ⟨by rw [upd_ne M.b.symm]; exact B.b, by rw [upd_ne M.n.symm]; exact B.n, by rw [upd_ne M.o.symm]; exact B.o, fun q hq => dat_upd e (B.k q hq) (B.d q hq), B.k, sd_put B.s M.h, sd_put B.s1 M.h1, B.pb, B.pn, B.po⟩
end
section
variable {P : Program} {w : World} {K : PySem.W.Frag} {mg : Str → Option Value} {base : Heap}
theorem scSaying : FnScope nSaying ["source", "sizes"] (defScope sSaying) := ⟨rfl, rfl, rfl, by decide +kernel, rfl, by decide +kernel, by decide +kernel⟩
theorem ok_saying {f fP fW fC fS : Addr} {fd fdP fdW fdC fdS : FuncData} (F : Fun K "_law_saying" "_law_saying" sSaying f fd) (Pk : Has K mg "_law_pick" sPick ["source", "top"] fP fdP) (Wd : Has K mg "_law_words" sWords ["source", "size"] fW fdW)
    (Cl : Has K mg "_law_clause" sClause ["source", "words"] fC fdC) (So : Has K mg "_law_some" sSome ["source", "size"] fS fdS) (B : Blt mg) : FnOk P w K mg base CX0 3 f fd ["source", "sizes"] spSaying := by
  have GP : FnOk P w K mg base CX0 1 fP fdP ["source", "top"] spPick := ok_pick Pk.F B
  have GW : FnOk P w K mg base CX0 2 fW fdW ["source", "size"] spWords := ok_words Wd.F Pk B
  have GC : FnOk P w K mg base CX0 2 fC fdC ["source", "words"] spClause := ok_clause Cl.F Pk B
  have GS : FnOk P w K mg base CX0 2 fS fdS ["source", "size"] spSome := ok_some So.F Pk B
  refine F.ok scSaying (fun vs H Q E h => ?_) (fun cdv A outer s H vs Q E hr h => ?_)
  · obtain ⟨p, z, c, a, b, m, d, rfl, _⟩ := h
    rfl
  · obtain ⟨p, z, c, a, b, m, d, rfl, hp, hc, hz, hab, hm, hd, q⟩ := h
    have hu : (A.deeper (envOfC "_law_saying" (defScope sSaying) s.heap.objs.size f cdv)).units + 64 < cLine := hr.units
    have hr1 := hr.mono (show 1 ≤ 2 by decide)
    refine ⟨_, pss_cons (ps_set (i := 2) scSaying.nd rfl (.inr rfl) (pe_call GW hr rfl Wd.g Wd.F.kp Wd.b .nil pass0 (pa_cons (pv 0) (pa_cons (pe_op op_add (pe_ix ix_tup (pv 1) pe_int (fun _ _ => rfl)) (pe_ix ix_tup (pv 1) pe_int (fun _ _ => rfl))) pa_nil))))
      (pss_cons (ps_par3 (i := 3) (j := 4) (l := 5) rfl scSaying.nd rfl rfl rfl (by decide) (by decide) (by decide) rfl rfl rfl
        (pa_cons (pe_callB (cr_sortW (by exact hu)) (by rfl) B.sorted (by decide +kernel) (pa_cons (pe_slice sl_list (pv 2) po_none (po_some (pe_call GS hr rfl So.g So.F.kp So.b .nil pass0 (pa_cons (pv 0) (pa_cons (pe_ix ix_tup (pv 1) pe_int (fun _ _ => rfl)) pa_nil))))) pa_nil))
          (pa_cons (pe_lst pa_nil) (pa_cons (pe_ix ix_tup (pv 1) pe_int (fun _ _ => rfl)) pa_nil))) (by with_unfolding_all rfl))
      (pss_cons (ps_for PassesOwn.never rfl (pi_list (pe_slice sl_list (pv 2) (po_some (pe_ix ix_tup (pv 1) pe_int (fun _ _ => rfl))) (po_some (pe_op op_add (pe_ix ix_tup (pv 1) pe_int (fun _ _ => rfl))
            (pe_call GS hr rfl So.g So.F.kp So.b .nil pass0 (pa_cons (pv 0) (pa_cons (pe_ix ix_tup (pv 1) pe_int (fun _ _ => rfl)) pa_nil))))))) (pg_name (i := 6) scSaying.nd rfl (.inl rfl))
        (pss_cons (ps_setLc (i := 7) (own := [("pick", 8)]) (g := gName 8) rfl scSaying.nd rfl rfl (sw_true rfl rfl rfl (by decide +kernel)) (pi_list (pv 3)) (blkOk_by (N := nSaying) (sc := defScope sSaying) (by decide +kernel))
            (fun _ _ _ _ _ => pg_name (i := 8) scSaying.nd rfl (Or.inl rfl)) (fun _ _ _ _ _ => pts_one (pt_cmpR op_eq (pe_call GP (by exact hr1) (by rfl) Pk.g Pk.F.kp Pk.b .nil pass0 (pa_cons (pv 0) (pa_cons pe_int pa_nil))) pe_int (nomark _))) (fun _ _ _ _ _ => pv 8))
        (pss_cons (ps_while PassesOwn.never (PW.pt (pw_and (pt_cmpR op_gt (pe_callB call_len_seq (by rfl) B.len (by decide +kernel) (pa_cons (pv 7) pa_nil)) pe_int (nomark _))
              (pw_and1 (pt_cmpR op_gt (pe_op op_shl pe_int (pe_callB call_len_seq (by rfl) B.len (by decide +kernel) (pa_cons (pv 7) pa_nil))) (pv 5) (nomark _)))))
            (pss_one (ps_expr (pe_bm PySem.F.plainAttrs_list PySem.F.slot_list_pop PySem.F.type_list_pop mt_popAt (pv 7) (pa_cons (pe_call GP hr1 rfl Pk.g Pk.F.kp Pk.b .nil pass0 (pa_cons (pv 0) (pa_cons (pe_callB call_len_seq (by rfl) B.len (by decide +kernel) (pa_cons (pv 7) pa_nil)) pa_nil))) pa_nil)))))
        (pss_one (ps_if (pt_cmpR op_gt (pv 5) pe_int (nomark _))
            (pss_cons (ps_expr (pe_bm PySem.F.plainAttrs_list PySem.F.slot_list_append PySem.F.type_list_append mt_append (pv 4) (pa_cons (pe_tup (pa_cons (pv 6) (pa_cons (pe_tupleOf rfl B.tuple (pv 7)) pa_nil))) pa_nil)))
            (pss_one (ps_set (i := 5) scSaying.nd rfl (.inl rfl) (pe_op op_sub (pv 5) (pe_op op_shl pe_int (pe_callB call_len_seq (by rfl) B.len (by decide +kernel) (pa_cons (pv 7) pa_nil))))))) pss_nil)))))
      (pss_cons (ps_set (i := 2) scSaying.nd rfl (.inr rfl) (pe_op op_cat (pv 3) (pe_lc (own := [("word", 6), ("sight", 7)]) (g := gTup K 2 (gCons (gName 6) (gCons (gName 7) gNil))) (tt := tYes) rfl scSaying.nd (pi_list (pv 4)) (blkOk_by (N := nSaying) (sc := defScope sSaying) (by decide +kernel))
          (fun _ _ _ _ _ => by exact pg_tup rfl (pgs_cons (pg_name (i := 6) scSaying.nd rfl (.inl rfl)) (pgs_cons (pg_name (i := 7) scSaying.nd rfl (.inl rfl)) pgs_nil))) (fun _ _ _ _ _ => pts_nil) (fun _ _ _ _ _ => pv 6))))
      (pss_cons (ps_setLc (i := 9) (own := [("turn", 10)]) (g := gName 10) (tt := tYes) rfl scSaying.nd rfl rfl (sw_true rfl rfl rfl (by decide +kernel)) (pi_range1 rfl B.range (pa_cons (pe_call GP hr1 rfl Pk.g Pk.F.kp Pk.b .nil pass0 (pa_cons (pv 0) (pa_cons (pe_op op_add (pe_ix ix_tup (pv 1) pe_int (fun _ _ => rfl)) pe_int) pa_nil))) pa_nil))
          (blkOk_by (N := nSaying) (sc := defScope sSaying) (by decide +kernel)) (fun _ _ _ _ _ => pg_name (i := 10) scSaying.nd rfl (Or.inl rfl)) (fun _ _ _ _ _ => pts_nil)
          (fun _ _ _ _ _ => pe_call GC (by exact hr) (by rfl) Cl.g Cl.F.kp Cl.b .nil pass0 (pa_cons (pv 0) (pa_cons (pv 2) pa_nil))))
      (pss_one (ps_ret (pe_tup (pa_cons (pe_tupleOf rfl B.tuple (pv 3)) (pa_cons (pe_tupleF rfl B.tuple (pe_callB (cr_sortL (by exact hu)) (by rfl) B.sorted (by decide +kernel) (pa_cons (pv 4) pa_nil)))
        (pa_cons (pe_tupleOf rfl B.tuple (pe_callB (cr_sortN rfl (by exact hu)) (by rfl) B.sorted (by decide +kernel) (pa_cons (pe_callTy (cr_setN rfl (by exact hu)) (by rfl) B.set (by decide +kernel) (pa_cons (pv 9) pa_nil)) pa_nil))) pa_nil)))))))))), ?_⟩
    have npz : z ≠ p := by
      obtain ⟨xs, hx⟩ := hp.lst
      exact ne_of hz hx (by intro y; cases y)
    have keep : ∀ {G : Hp}, Same (del H p) (del G p) → G z = some (.tup [.int a, .int b, .int m, .int d]) := fun {G} sm => by
      have y := sm z _ (by rw [del_ne npz]; exact hz)
      rwa [del_ne npz] at y
    refine ⟨_, rfl, _, rfl, z, _, 0, _, rfl, rfl, SqT.of hz, rfl, _, rfl, z, _, 1, _, rfl, rfl, SqT.of hz, rfl, _, _, rfl, rfl, p, c, a + b, rfl, hp, by omega, hab, fun l ws H1 hl el wl nd nm hs1 sm1 => ?_⟩
    refine ⟨_, rfl, _, rfl, _, rfl, z, _, 0, _, rfl, rfl, SqT.of (keep sm1), rfl, p, _, a, rfl, hs1, by omega, by omega, fun r H2 hra hs2 sm2 => ?_⟩
    have npl := hp.ne hl
    have keepL : ∀ {G : Hp}, Same (del H1 p) (del G p) → G l = some (.lst (ws.map V.str)) := fun {G} sm => by
      have y := sm l _ (by rw [del_ne npl.symm]; exact el)
      rwa [del_ne npl.symm] at y
    refine ⟨r, rfl, l, _, rfl, SqL.of (keepL sm2), fun n0 hn0 => ⟨n0, ws.take r, rfl, SqL.of (by rw [cut_take]; exact upd_same), fun ys b0 pm up hb0 => ⟨(by show 0 ≤ sizeLine; decide), fun aO hO => ?_⟩⟩⟩
    rw [cut_take] at hb0 hO
    have sm12 := sm1.trans sm2
    have n0p := (hs2.ne hn0).symm
    have smA := sd_new (o := .lst ((ws.take r).map V.str)) (Same.refl (del H2 p)) hn0 n0p
    have hsA : Src (upd H2 n0 (.lst ((ws.take r).map V.str))) p (c + 202) := hs2.mono (upd_ne n0p.symm) (by omega)
    have b0p := (hsA.ne hb0).symm
    have smB := sd_new (o := .lst (ys.map V.str)) smA hb0 b0p
    have hsB : Src (upd (upd H2 n0 (.lst ((ws.take r).map V.str))) b0 (.lst (ys.map V.str))) p (c + 202) := hsA.mono (upd_ne b0p.symm) (Nat.le_refl _)
    have aOp := (hsB.ne hO).symm
    have hO0 := sd_free (sm12.trans smB) hO aOp
    have hO1 := sd_free (sm2.trans smB) hO aOp
    have smC := sd_new (o := .lst []) smB hO aOp
    have nbO : b0 ≠ aO := ne_of_none upd_same hO
    rw [cut_take]
    refine ⟨_, rfl, z, _, 2, _, rfl, rfl, SqT.of (keep (sm12.trans smC)), rfl, _, _, _, rfl, ?_⟩
    refine gen_heap (F := fun G => Same (del H p) (del G p) ∧ Same (del H1 p) (del G p) ∧ G b0 = some (.lst (ys.map V.str)) ∧ G aO = some (.lst []) ∧ Src G p (c + 202)) ⟨sm12.trans smC, sm2.trans smC, by rw [upd_ne nbO, upd_same], upd_same, hsB.mono (upd_ne aOp.symm) (Nat.le_refl _)⟩ (fun G ⟨smG, smG1, gB, gO, hsG⟩ => ?_)
    refine ⟨_, rfl, _, rfl, z, _, 0, _, rfl, rfl, SqT.of (keep smG), rfl, a, rfl, _, rfl, z, _, 0, _, rfl, rfl, SqT.of (keep smG), rfl, _, rfl, _, rfl, z, _, 1, _, rfl, rfl, SqT.of (keep smG), rfl, p, _, b, rfl, hsG, by omega, by omega, fun r2 H3 hrb hs3 sm3 => ?_⟩
    refine ⟨_, _, rfl, rfl, ((a + r2 : Nat) : Int), rfl, l, _, rfl, SqL.of (keepL (smG1.trans sm3)), fun n2 hn2 => ?_⟩
    have hrw : a + r2 ≤ ws.length := by omega
    rw [cut_mid hrw]
    have n2p := (hs3.ne hn2).symm
    have gB3 : H3 b0 = some (.lst (ys.map V.str)) := by
      have y := sm3 b0 _ (by rw [del_ne b0p]; exact gB)
      rwa [del_ne b0p] at y
    have gO3 : H3 aO = some (.lst []) := by
      have y := sm3 aO _ (by rw [del_ne aOp]; exact gO)
      rwa [del_ne aOp] at y
    have n2b : b0 ≠ n2 := ne_of_none gB3 hn2
    have n2O : aO ≠ n2 := ne_of_none gO3 hn2
    generalize hW2 : (ws.drop a).take r2 = W2
    have W2l : W2.length = r2 := by rw [← hW2, List.length_take, List.length_drop]; omega
    refine ⟨n2, rfl, ⟨_, SqL.of upd_same⟩, ?_⟩
    have ysl : ys.length ≤ 14 := by rw [pm.length_eq, List.length_take]; omega
    refine for_list (K := K) (a := n2) (xs := W2.map V.str) (fun i σ H' => ∃ (os : List Own) (T : List TRow) (room : Nat) (o6 o7 o8 : Option V), σ = [some (.ref p), some (.ref z), some (.ref l), some (.ref b0), some (.ref aO), some (.int (room : Int)), o6, o7, o8, none, none] ∧
      H' b0 = some (.lst (ys.map V.str)) ∧ H' n2 = some (.lst (W2.map V.str)) ∧ H' aO = some (.lst (T.map TRow.v)) ∧ T.map Prod.snd = os.map ownD ∧ (∀ q ∈ T, Dat H' q.v q.2) ∧ copies os + room = m ∧ os.length ≤ i ∧
      (os.map Prod.fst).Sublist (W2.take i) ∧ (∀ o ∈ os, o.2.Sublist ys) ∧ Src H' p (c + 204 + 40 * i) ∧ Same (del H p) (del H' p) ∧ Same (del H1 p) (del H' p)) ?_ (fun i σ H' _ ⟨_, _, _, _, _, _, _, _, e, _⟩ => SqL.of e) ?_ ?_
    · refine ⟨[], [], m, _, _, _, rfl, by rw [upd_ne n2b]; exact gB3, upd_same, by rw [upd_ne n2O]; exact gO3, rfl, fun q hq => absurd hq (by simp), by show 0 + m = m; omega, Nat.zero_le _, List.nil_sublist _, fun o ho => absurd ho (by simp), hs3.mono (upd_ne n2p.symm) (by omega),
        sd_new (smG.trans sm3) hn2 n2p, sd_new (smG1.trans sm3) hn2 n2p⟩
    · rintro i x σ H' hx ⟨os, T, room, o6, o7, o8, rfl, eB, e2, eO, eT, hD, hroom, hos, hsub, hsg, hs5, sm5, sm51⟩
      rw [List.getElem?_map] at hx
      obtain ⟨u, hu2, rfl⟩ := Option.map_eq_some_iff.mp hx
      have il : i < W2.length := (List.getElem?_eq_some_iff.mp hu2).1
      have B0 : Bun H H1 p b0 n2 aO ys W2 T H' := ⟨eB, e2, eO, hD, fun q hq => by
        have y : q.2 ∈ os.map ownD := eT ▸ List.mem_map_of_mem hq
        obtain ⟨o, _, ho⟩ := List.mem_map.mp y
        rw [← ho]
        exact keyable_own o, sm5, sm51, b0p.symm, n2p.symm, aOp.symm⟩
      refine ⟨_, rfl, b0, rfl, ⟨_, SqL.of eB⟩, fun D hD' => ?_⟩
      have Dp := (hs5.ne hD').symm
      have MD := B0.mine hD' Dp
      refine lc_list (K := K) (a := b0) (xs := ys.map V.str) (fun j H4 => ∃ sg : List Str, H4 D = some (.lst (sg.map V.str)) ∧ sg.Sublist (ys.take j) ∧ Bun H H1 p b0 n2 aO ys W2 T H4 ∧ Src H4 p (c + 204 + 40 * i + j)) ⟨[], upd_same, List.nil_sublist _, B0.new hD' Dp _, hs5.mono (upd_ne Dp.symm) (by omega)⟩
        (fun j H4 _ ⟨_, _, _, B4, _⟩ => SqL.of B4.b) ?_ ?_
      · rintro j x H4 hx4 ⟨sg, eD, hsg4, B4, hs4⟩
        rw [List.getElem?_map] at hx4
        obtain ⟨y, hy, rfl⟩ := Option.map_eq_some_iff.mp hx4
        have jl : j < ys.length := (List.getElem?_eq_some_iff.mp hy).1
        refine ⟨rfl, _, rfl, p, _, 2, rfl, hs4, by omega, by decide, by decide, fun k4 o4 _ _ hp4 => ⟨rfl, _, rfl, ?_⟩⟩
        have B5 := B4.src hs4 o4
        have eD5 : upd H4 p o4 D = some (.lst (sg.map V.str)) := by rw [upd_ne Dp]; exact eD
        have tk : ys.take (j + 1) = ys.take j ++ [y] := take_next hy
        refine ite2 (fun _ => ?_) (fun _ => ?_)
        · refine ⟨_, rfl, _, eD5, ?_, sg ++ [y], by rw [upd_same, List.map_append]; rfl, by rw [tk]; exact hsg4.append (List.Sublist.refl _), B5.put MD eD5 _, hp4.mono (upd_ne Dp.symm) (by omega)⟩
          rw [List.length_map]
          have := hsg4.length_le
          rw [List.length_take] at this
          exact small1000 (by omega)
        · exact ⟨sg, eD5, by rw [tk]; exact hsg4.trans (List.sublist_append_left _ _), B5, hp4.mono rfl (by omega)⟩
      · rintro H4 ⟨sg, eD, hsg4, B4, hs4⟩
        rw [List.length_map] at hs4
        refine ⟨fun m' σ6 H6 => ∃ sg6 : List Str, σ6 = [some (.ref p), some (.ref z), some (.ref l), some (.ref b0), some (.ref aO), some (.int (room : Int)), some (.str u), some (.ref D), o8, none, none] ∧ m' = sg6.length ∧ H6 D = some (.lst (sg6.map V.str)) ∧ sg6.Sublist ys ∧
          Bun H H1 p b0 n2 aO ys W2 T H6 ∧ Src H6 p (c + 204 + 40 * i + 14 + (14 - sg6.length)), ⟨_, sg, rfl, rfl, eD, hsg4.trans (List.take_sublist _ _), B4, hs4.mono rfl (by omega)⟩, ?_⟩
        rintro m' σ6 H6 ⟨sg6, rfl, rfl, eD6, sub6, B6, hs6⟩
        have l6 : sg6.length ≤ 14 := by have := sub6.length_le; omega
        refine ⟨_, rfl, _, _, rfl, .inl (SqL.of eD6), _, _, rfl, rfl, _, rfl, ?_⟩
        refine and_split (R := fun H7 => H7 = H6 ∧ (sg6.length = 0 ∨ 2 ^ sg6.length ≤ room)) (fun H7 ⟨e7, cond⟩ => ?_) (fun h1 k => ?_) (fun h1 k => ?_)
        · have e8 := e7.symm
          subst e8
          show if false = true then _ else _
          rw [if_neg (by decide)]
          refine ⟨_, rfl, _, _, rfl, rfl, _, rfl, ?_⟩
          refine ite2 (fun hpos => ?_) (fun _ => ?_)
          · have rpos : 0 < room := by
              have y : (0 : Int) < (room : Int) := of_decide_eq_true hpos
              omega
            have fit : 2 ^ sg6.length ≤ room := by
              rcases cond with y | y
              · rw [y]; exact rpos
              · exact y
            refine ⟨_, rfl, .inl ⟨rfl, _, SqL.of B6.o⟩, _, rfl, _, rfl, .inl ⟨D, _, rfl, SqL.of eD6, fun t1 ht1 => ⟨(by show 2 ≤ sizeLine; decide), fun t2 ht2 => ?_⟩⟩⟩
            have t1p := (hs6.ne ht1).symm
            have B7 := B6.new ht1 t1p (.tup (sg6.map V.str))
            have hs7 : Src (upd H6 t1 (.tup (sg6.map V.str))) p (c + 204 + 40 * i + 14 + (14 - sg6.length)) := hs6.mono (upd_ne t1p.symm) (Nat.le_refl _)
            have t2p := (hs7.ne ht2).symm
            have B8 := B7.new ht2 t2p (.tup [.str u, .ref t1])
            have hs8 : Src (upd (upd H6 t1 (.tup (sg6.map V.str))) t2 (.tup [.str u, .ref t1])) p (c + 204 + 40 * i + 14 + (14 - sg6.length)) := hs7.mono (upd_ne t2p.symm) (Nat.le_refl _)
            have t12 : t1 ≠ t2 := ne_of_none upd_same ht2
            have e1 : upd (upd H6 t1 (.tup (sg6.map V.str))) t2 (.tup [.str u, .ref t1]) t1 = some (.tup (sg6.map V.str)) := by rw [upd_ne t12, upd_same]
            have e2' : upd (upd H6 t1 (.tup (sg6.map V.str))) t2 (.tup [.str u, .ref t1]) t2 = some (.tup [.str u, .ref t1]) := upd_same
            have eD8 : upd (upd H6 t1 (.tup (sg6.map V.str))) t2 (.tup [.str u, .ref t1]) D = some (.lst (sg6.map V.str)) := by rw [upd_ne (ne_of_none (by rw [upd_ne (ne_of_none eD6 ht1)]; exact eD6) ht2), upd_ne (ne_of_none eD6 ht1)]; exact eD6
            generalize upd (upd H6 t1 (.tup (sg6.map V.str))) t2 (.tup [.str u, .ref t1]) = H8 at B8 hs8 e1 e2' eD8 ⊢
            have lenT : T.length = os.length := by rw [← List.length_map (f := Prod.snd), eT, List.length_map]
            refine ⟨aO, _, _, rfl, rfl, B8.o, by rw [List.length_map, lenT]; exact small1000 (by omega), ?_⟩
            have eD9 : upd H8 aO (.lst (T.map TRow.v ++ [V.ref t2])) D = some (.lst (sg6.map V.str)) := by rw [upd_ne MD.o]; exact eD8
            refine ⟨_, rfl, _, rfl, _, _, rfl, .inl (SqL.of eD9), _, _, rfl, rfl, ⟨by omega, by rw [List.length_map]; omega, by decide⟩, _, _, rfl, rfl, ?_⟩
            have er : (room : Int) - 1 * 2 ^ ((sg6.map V.str).length : Int).toNat = ((room - 2 ^ sg6.length : Nat) : Int) := by
              rw [List.length_map, Int.toNat_natCast, Int.one_mul, Int.ofNat_sub fit]
              push_cast
              rfl
            refine ⟨os ++ [(u, sg6)], T ++ [(t2, ownD (u, sg6))], room - 2 ^ sg6.length, _, _, _, by rw [← er]; rfl, by rw [upd_ne nbO]; exact B8.b, by rw [upd_ne n2O.symm]; exact B8.n, by rw [upd_same, List.map_append]; rfl, by rw [List.map_append, List.map_append, eT]; rfl, fun q hq => ?_,
              by rw [copies_snoc]; show copies os + 2 ^ sg6.length + _ = m; omega, by rw [List.length_append]; show os.length + 1 ≤ i + 1; omega, ?_, fun o ho => ?_, hs8.mono (upd_ne aOp.symm) (by omega), sd_put B8.s hO0, sd_put B8.s1 hO1⟩
            · rcases List.mem_append.mp hq with y | y
              · exact dat_upd B8.o (B8.k q y) (B8.d q y)
              · cases List.mem_singleton.mp y
                refine dat_upd B8.o (keyable_own _) ?_
                exact .tup e2' (.cons (.str u) (.cons (.tup e1 (dats_strs sg6)) .nil))
            · rw [List.map_append, take_next hu2]
              exact hsub.append (List.Sublist.refl _)
            · rcases List.mem_append.mp ho with y | y
              · exact hsg o y
              · cases List.mem_singleton.mp y
                exact sub6
          · exact ⟨os, T, room, _, _, _, rfl, B6.b, B6.n, B6.o, eT, B6.d, hroom, by omega, by rw [take_next hu2]; exact hsub.trans (List.sublist_append_left _ _), hsg, hs6.mono rfl (by omega), B6.s, B6.s1⟩
        · refine ⟨_, rfl, _, _, rfl, .inl (SqL.of eD6), _, _, rfl, rfl, ⟨by omega, by rw [List.length_map]; omega, by decide⟩, _, rfl, _, _, rfl, rfl, _, rfl, ?_⟩
          refine ite2 (fun hgt => ?_) (fun hle => ?_)
          · have lp : 0 < sg6.length := by
              have y : (0 : Int) < ((sg6.map V.str).length : Int) := of_decide_eq_true h1
              rw [List.length_map] at y
              omega
            refine ⟨fun σ8 H8 => ∃ sg8 : List Str, σ8 = [some (.ref p), some (.ref z), some (.ref l), some (.ref b0), some (.ref aO), some (.int (room : Int)), some (.str u), some (.ref D), o8, none, none] ∧ sg8.length + 1 = sg6.length ∧ H8 D = some (.lst (sg8.map V.str)) ∧ sg8.Sublist ys ∧
              Bun H H1 p b0 n2 aO ys W2 T H8 ∧ Src H8 p (c + 204 + 40 * i + 14 + (14 - sg8.length)), fun σ8 H8 ⟨sg8, y1, y2, y3, y4, y5, y6⟩ => ⟨sg8.length, by omega, sg8, y1, rfl, y3, y4, y5, y6⟩, ?_⟩
            refine ⟨_, rfl, .inl ⟨rfl, _, SqL.of eD6⟩, _, rfl, _, rfl, _, _, rfl, .inl (SqL.of eD6), p, _, _, rfl, hs6, by omega, by rw [List.length_map]; omega, by rw [List.length_map]; omega, fun k9 o9 k90 k91 hp9 => ?_⟩
            rw [List.length_map] at k91
            have kl : k9.toNat < sg6.length := by omega
            have eD9 : upd H6 p o9 D = some (.lst (sg6.map V.str)) := by rw [upd_ne Dp]; exact eD6
            have lenE : (sg6.eraseIdx k9.toNat).length + 1 = sg6.length := by
              rw [List.length_eraseIdx, if_pos kl]
              omega
            refine ⟨D, _, k9, k9.toNat, .str sg6[k9.toNat], rfl, rfl, eD9, by omega, by omega, by rw [List.length_map]; exact seq_nat k90 k91, by rw [List.getElem?_map, List.getElem?_eq_getElem kl]; rfl, ?_⟩
            rw [map_erase]
            exact ⟨sg6.eraseIdx k9.toNat, rfl, lenE, upd_same, (List.eraseIdx_sublist _ _).trans sub6, (B6.src hs6 o9).put MD eD9 _, hp9.mono (upd_ne Dp.symm) (by omega)⟩
          · have y : if false = true then _ else _ := k _ ⟨rfl, .inr (by
              have y : ¬ ((room : Int) < 1 * 2 ^ ((sg6.map V.str).length : Int).toNat) := fun y => hle (decide_eq_true y)
              rw [List.length_map, Int.toNat_natCast, Int.one_mul] at y
              have y2 : ((2 ^ sg6.length : Nat) : Int) ≤ (room : Int) := by push_cast; omega
              omega)⟩
            rwa [if_neg (by decide)] at y
        · refine k _ ⟨rfl, .inl ?_⟩
          have y : ¬ ((0 : Int) < ((sg6.map V.str).length : Int)) := fun y => h1 (decide_eq_true y)
          rw [List.length_map] at y
          omega
    · rintro σ H' ⟨os, T, room, o6, o7, o8, rfl, eB, e2, eO, eT, hD, hroom, hos, hsub, hsg, hs5, sm5, sm51⟩
      rw [List.length_map] at hos hsub hs5
      have lenT : T.length = os.length := by rw [← List.length_map (f := Prod.snd), eT, List.length_map]
      have kT : ∀ q ∈ T, keyable q.2 = true := fun q hq => by
        have y : q.2 ∈ os.map ownD := eT ▸ List.mem_map_of_mem hq
        obtain ⟨o, _, ho⟩ := List.mem_map.mp y
        rw [← ho]
        exact keyable_own o
      have B0 : Bun H H1 p b0 n2 aO ys W2 T H' := ⟨eB, e2, eO, hD, kT, sm5, sm51, b0p.symm, n2p.symm, aOp.symm⟩
      refine ⟨_, rfl, _, rfl, aO, rfl, ⟨_, SqL.of eO⟩, fun D hD' => ?_⟩
      have Dp := (hs5.ne hD').symm
      have MD := B0.mine hD' Dp
      refine lc_list (K := K) (a := aO) (xs := T.map TRow.v) (fun j H4 => H4 D = some (.lst (((os.map Prod.fst).take j).map V.str)) ∧ Bun H H1 p b0 n2 aO ys W2 T H4 ∧ Src H4 p (c + 204 + 40 * W2.length)) ⟨upd_same, B0.new hD' Dp _, hs5.mono (upd_ne Dp.symm) (Nat.le_refl _)⟩
        (fun j H4 _ ⟨_, B4, _⟩ => SqL.of B4.o) ?_ ?_
      · rintro j x H4 hx4 ⟨eD, B4, hs4⟩
        rw [List.getElem?_map] at hx4
        obtain ⟨y, hy, rfl⟩ := Option.map_eq_some_iff.mp hx4
        have ey : (os.map ownD)[j]? = some y.2 := by rw [← eT, List.getElem?_map, hy]; rfl
        rw [List.getElem?_map] at ey
        obtain ⟨o, ho, eo⟩ := Option.map_eq_some_iff.mp ey
        obtain ⟨t', g1, g2⟩ := own_row eo.symm (B4.d y (List.mem_of_getElem? hy))
        have jl : j < os.length := (List.getElem?_eq_some_iff.mp ho).1
        refine ⟨y.1, _, rfl, SqT.of g1, rfl, _, _, rfl, _, _, rfl, rfl, rfl, yes_of ⟨_, rfl, _, eD, ?_, ?_, B4.put MD eD _, hs4.mono (upd_ne Dp.symm) (Nat.le_refl _)⟩⟩
        · rw [List.length_map, List.length_take, List.length_map]
          exact small1000 (by omega)
        · have tk : (os.map Prod.fst).take (j + 1) = (os.map Prod.fst).take j ++ [o.1] := take_next (by rw [List.getElem?_map, ho]; rfl)
          rw [upd_same, tk, List.map_append]
          rfl
      · rintro H4 ⟨eD, B4, hs4⟩
        have tk : (os.map Prod.fst).take (T.map TRow.v).length = os.map Prod.fst := by
          rw [List.length_map, lenT]
          exact List.take_of_length_le (by rw [List.length_map]; exact Nat.le_refl _)
        rw [tk] at eD
        refine ⟨_, _, _, _, rfl, rfl, B4.b, eD, ?_, fun aW hW => ?_⟩
        · rw [List.length_map, List.length_map, List.length_map]
          exact Nat.le_of_lt (small1000 (by omega))
        · have aWp := (hs4.ne hW).symm
          have B5 := B4.new hW aWp (.lst (ys.map V.str ++ (os.map Prod.fst).map V.str))
          have hs6 : Src (upd H4 aW (.lst (ys.map V.str ++ (os.map Prod.fst).map V.str))) p (c + 204 + 40 * W2.length) := hs4.mono (upd_ne aWp.symm) (Nat.le_refl _)
          have eW : upd H4 aW (.lst (ys.map V.str ++ (os.map Prod.fst).map V.str)) aW = some (.lst ((ys ++ os.map Prod.fst).map V.str)) := by rw [upd_same, List.map_append]
          generalize upd H4 aW (.lst (ys.map V.str ++ (os.map Prod.fst).map V.str)) = H5 at B5 hs6 eW ⊢
          refine ⟨_, rfl, _, rfl, z, _, 3, _, rfl, rfl, SqT.of (keep B5.s), rfl, _, _, rfl, rfl, p, _, _, rfl, hs6, by omega, by omega, by omega, fun r3 o3 r30 r31 hp3 => ⟨r3, rfl, by omega, by omega, fun D2 hD2 => ?_⟩⟩
          have B6 := B5.src hs6 o3
          have aWp' : aW ≠ p := aWp
          have eW6 : upd H5 p o3 aW = some (.lst ((ys ++ os.map Prod.fst).map V.str)) := by rw [upd_ne aWp]; exact eW
          have sub1 : (ws.take r ++ os.map Prod.fst).Sublist ws := by
            have y : (ws.take r ++ W2).Sublist (ws.take a ++ ws.drop a) := by
              refine List.Sublist.append ?_ (by rw [← hW2]; exact List.take_sublist _ _)
              have y2 : ws.take r = (ws.take a).take r := by rw [List.take_take, Nat.min_eq_left hra]
              rw [y2]
              exact List.take_sublist _ _
            rw [List.take_append_drop] at y
            exact ((List.Sublist.refl _).append (hsub.trans (List.take_sublist _ _))).trans y
          have pmN : (ys ++ os.map Prod.fst).Perm (ws.take r ++ os.map Prod.fst) := pm.append (List.Perm.refl _)
          have ndN : (ys ++ os.map Prod.fst).Nodup := pmN.nodup_iff.mpr (nd.sublist sub1)
          have inW : ∀ x ∈ ys ++ os.map Prod.fst, x ∈ ws := fun x hx => sub1.subset (pmN.mem_iff.mp hx)
          have lenN : (ys ++ os.map Prod.fst).length ≤ 14 := by
            have y := sub1.length_le
            rw [pmN.length_eq]
            omega
          have D2p := (hp3.ne hD2).symm
          have M2 := B6.mine hD2 D2p
          have nW2 : aW ≠ D2 := ne_of_none eW6 hD2
          refine lc_range (lo := 0) (n := r3.toNat) (fun j H7 => ∃ (Tc : List TRow) (cls : List (List Ltr)), H7 D2 = some (.lst (Tc.map TRow.v)) ∧ Tc.map Prod.snd = cls.map clD ∧ (∀ q ∈ Tc, Dat H7 q.v q.2) ∧ (∀ cl ∈ cls, ClOk (ys ++ os.map Prod.fst) cl) ∧ cls.length = j ∧
            H7 aW = some (.lst ((ys ++ os.map Prod.fst).map V.str)) ∧ Bun H H1 p b0 n2 aO ys W2 T H7 ∧ Src H7 p (c + 204 + 40 * W2.length + 1 + 202 * j)) ?_ ?_ ?_
          · exact ⟨[], [], upd_same, rfl, fun q hq => absurd hq (by simp), fun q hq => absurd hq (by simp), rfl, by rw [upd_ne nW2]; exact eW6, B6.new hD2 D2p _, hp3.mono (upd_ne D2p.symm) (Nat.le_refl _)⟩
          · rintro j H7 hj ⟨Tc, cls, eD7, eTc, hDc, hck, hcl, eW7, B7, hs7⟩
            refine ⟨rfl, yes_of ?_⟩
            refine ⟨_, rfl, _, rfl, p, aW, _, _, rfl, hs7, by omega, eW7, ndN, by omega, aWp.symm, fun v cl H8 Dv ck hs8 sm8 => ?_⟩
            obtain ⟨t8, rfl⟩ := tuple_ref (ds := cl.map ltD) Dv
            have kTc : ∀ q ∈ Tc, keyable q.2 = true := fun q hq => by
              have y : q.2 ∈ cls.map clD := eTc ▸ List.mem_map_of_mem hq
              obtain ⟨o, _, ho⟩ := List.mem_map.mp y
              rw [← ho]
              exact keyable_cl o
            have kp8 : ∀ {x : Addr} {o : HO}, x ≠ p → H7 x = some o → H8 x = some o := fun {x o} nx e => by
              have y := sm8 x o (by rw [del_ne nx]; exact e)
              rwa [del_ne nx] at y
            have B8 : Bun H H1 p b0 n2 aO ys W2 T H8 := ⟨kp8 B7.pb.symm B7.b, kp8 B7.pn.symm B7.n, kp8 B7.po.symm B7.o, fun q hq => dat_src hs7 sm8 (B7.k q hq) (B7.d q hq), B7.k, B7.s.trans sm8, B7.s1.trans sm8, B7.pb, B7.pn, B7.po⟩
            have eD8 := kp8 D2p eD7
            have lTc : Tc.length = cls.length := by rw [← List.length_map (f := Prod.snd), eTc, List.length_map]
            refine ⟨_, eD8, by rw [List.length_map, lTc]; exact small1000 (by omega), Tc ++ [(t8, clD cl)], cls ++ [cl], by rw [upd_same, List.map_append]; rfl, by rw [List.map_append, List.map_append, eTc]; rfl, fun q hq => ?_, fun cl' h' => ?_, by rw [List.length_append, hcl]; rfl,
              by rw [upd_ne nW2]; exact kp8 aWp eW7, B8.put M2 eD8 _, hs8.mono (upd_ne D2p.symm) (by omega)⟩
            · rcases List.mem_append.mp hq with y | y
              · exact dat_upd eD8 (kTc q y) (dat_src hs7 sm8 (kTc q y) (hDc q y))
              · cases List.mem_singleton.mp y
                exact dat_upd eD8 (keyable_cl cl) Dv
            · rcases List.mem_append.mp h' with y | y
              · exact hck cl' y
              · cases List.mem_singleton.mp y
                exact ck
          · rintro H7 ⟨Tc, cls, eD7, eTc, hDc, hck, hcl, eW7, B7, hs7⟩
            have lTc : Tc.length = cls.length := by rw [← List.length_map (f := Prod.snd), eTc, List.length_map]
            have soT : Sorty T := sorty_of eT alike_own (fun x => ⟨_, rfl⟩) (fun x => by have := depth_own x; omega)
            have soC : Sorty Tc := sorty_of eTc alike_cl (fun x => ⟨_, rfl⟩) (fun x => by have := depth_cl x; omega)
            have kC : ∀ q ∈ Tc, keyable q.2 = true := fun q hq => by
              have y : q.2 ∈ cls.map clD := eTc ▸ List.mem_map_of_mem hq
              obtain ⟨o, _, ho⟩ := List.mem_map.mp y
              rw [← ho]
              exact keyable_cl o
            refine ⟨_, rfl, .inl ⟨b0, _, rfl, SqL.of B7.b, fun t1 ht1 => ?_⟩⟩
            have S1 : Same H7 (upd H7 t1 (.tup (ys.map V.str))) := same_new ht1
            have g1 : upd H7 t1 (.tup (ys.map V.str)) t1 = some (.tup (ys.map V.str)) := upd_same
            generalize upd H7 t1 (.tup (ys.map V.str)) = J1 at S1 g1 ⊢
            refine ⟨_, rfl, aO, T, rfl, SqL.of (S1 _ _ B7.o), fun q hq => (B7.d q hq).same S1, soT, fun T' b' pm' _ up' hb' => ⟨b', _, rfl, SqL.of upd_same, fun t2 ob2 ht2 hd2 => ?_⟩⟩
            have S2 : Same H7 (upd (upd J1 b' (.lst (T'.map TRow.v))) t2 (.frz ob2 (.tup (T'.map TRow.v)))) := S1.trans ((same_new hb').trans (same_new ht2))
            have g1' := ((same_new (o := .lst (T'.map TRow.v)) hb').trans (same_new (o := .frz ob2 (.tup (T'.map TRow.v))) ht2)) _ _ g1
            have g2 : upd (upd J1 b' (.lst (T'.map TRow.v))) t2 (.frz ob2 (.tup (T'.map TRow.v))) t2 = some (.frz ob2 (.tup (T'.map TRow.v))) := upd_same
            generalize upd (upd J1 b' (.lst (T'.map TRow.v))) t2 (.frz ob2 (.tup (T'.map TRow.v))) = J2 at S2 g1' g2 ⊢
            refine ⟨_, rfl, D2, Tc, rfl, SqL.of (S2 _ _ eD7), fun q hq => (hDc q hq).same S2, soC, kC, by omega, fun aS T2 hS sub2 all2 nd2 => ?_⟩
            refine ⟨aS, T2, rfl, upd_same, fun q hq => ((hDc q (sub2 q hq)).same S2).same (same_new hS), soC.sub sub2, fun q hq => kC q (sub2 q hq), fun T3 b3 pm3 up3 hb3 => .inl ⟨b3, _, rfl, SqL.of upd_same, fun t3 ht3 => ⟨(by show 3 ≤ sizeLine; decide), fun t4 ht4 => ?_⟩⟩⟩
            have S4 := (((same_new hS).trans (same_new hb3)).trans (same_new ht3)).trans (same_new (o := .tup [V.ref t1, .ref t2, .ref t3]) ht4)
            have g3 := (same_new (o := .tup [V.ref t1, .ref t2, .ref t3]) ht4) t3 _ upd_same
            have S5 := S2.trans S4
            have g1'' := S4 _ _ g1'
            have g2'' := S4 _ _ g2
            have ndOs : (os.map Prod.fst).Nodup := (List.nodup_append.mp ndN).2.1
            obtain ⟨os', po, eo, uo⟩ := rows_back own_name (fun x y => lt_owns) pm' eT ndOs up'
            have inC : ∀ d' ∈ T3.map Prod.snd, d' ∈ cls.map clD := fun d' h' => by
              obtain ⟨y, hy, rfl⟩ := List.mem_map.mp h'
              rw [← eTc]
              exact List.mem_map_of_mem (sub2 y (pm3.mem_iff.mp hy))
            obtain ⟨cls', ec, subc⟩ := sub_back (f := clD) (m := cls) (T3.map Prod.snd) inC
            have lenC : cls'.length ≤ d := by
              have y1 : T2.length ≤ Tc.length := by
                have y := nodup_le (m := Tc.map Prod.snd) nd2 fun x hx => by
                  obtain ⟨q', hq', rfl⟩ := List.mem_map.mp hx
                  exact List.mem_map_of_mem (sub2 q' hq')
                rwa [List.length_map, List.length_map] at y
              have y2 : cls'.length = T3.length := by rw [← List.length_map (f := clD), ← ec, List.length_map]
              rw [y2, pm3.length_eq]
              omega
            have upc : cls'.Pairwise fun x y => dataLt (clD x) (clD y) = true := by
              have y : (T3.map Prod.snd).Pairwise fun d e => dataLt d e = true := List.pairwise_map.mpr up3
              rw [ec] at y
              exact List.pairwise_map.mp y
            refine q (.ref t4) ⟨ys, os', cls'⟩ _ ⟨t4, _, _, _, rfl, upd_same, .tup g1'' (dats_strs ys), ⟨t2, _, rfl, ⟨ob2, hd2, g2''⟩, ?_⟩, .tup g3 ?_⟩ ?_ ?_ ?_
            · rw [← eo]
              exact dats_rows fun q' hq' => (B7.d q' (pm'.mem_iff.mp hq')).same S5
            · rw [← ec]
              exact dats_rows fun q' hq' => (hDc q' (sub2 q' (pm3.mem_iff.mp hq'))).same S5
            · refine ⟨up (nd.sublist (List.take_sublist _ _)), fun x hx => (nm x (inW x (List.mem_append_left _ hx))).1, ?_, uo, fun o ho => ?_, ?_, ?_, upc, fun cl hcl' => ?_, lenC⟩
              · show ys.length ≤ a
                rw [pm.length_eq, List.length_take]
                omega
              · have ho' := po.mem_iff.mp ho
                have mo : o.1 ∈ os.map Prod.fst := List.mem_map_of_mem ho'
                exact ⟨(nm _ (inW _ (List.mem_append_right _ mo))).1, fun h' => (List.nodup_append.mp ndN).2.2 _ h' _ mo rfl, (up (nd.sublist (List.take_sublist _ _))).sublist (hsg o ho'), fun x hx => (hsg o ho').subset hx⟩
              · show os'.length ≤ b
                rw [po.length_eq]
                omega
              · show copies os' ≤ m
                rw [copies_perm po]
                omega
              · have y := hck cl (subc cl hcl')
                refine ⟨y.up, fun l' hl' => ?_⟩
                show l'.1 ∈ ys ++ os'.map Prod.fst
                exact (((List.Perm.refl ys).append (po.map Prod.fst)).mem_iff).mpr (y.mem l' hl')
            · refine hs7.mono ?_ (by omega)
              obtain ⟨xs, hx⟩ := hs7.lst
              rw [hx, S5 _ _ hx]
            · exact B7.s.trans (sd_of S5)
end
end S1

set_option Elab.async false
set_option linter.all false
set_option maxRecDepth 100000
set_option maxHeartbeats 4000000
/-! dict(t), t a tuple of pairs of which all is known -/
namespace S1
open PySem PySem.W PySem.Spec PyProof.Rows L2
section
variable {X : Cx}
theorem pairs_at {pins : List (Addr × Obj)} {σ : L2.St} {H : Hp} {s : Shared} (I : Inv X pins σ H s) : ∀ {ps : List Addr} {kvs : List (Key × V)}, Paired (fun p kv => SqT X.K H p [kV kv.1, kv.2]) ps kvs →
    ∃ (prs : List (Key × Value)) (pvs : List (Value × Value)), KV kvs prs ∧ prs.length = ps.length ∧ pvs.length = ps.length ∧
      ∀ (j : Nat) (u v : Value), pvs[j]? = some (u, v) → ∃ (b : Addr) (k : Key), ps[j]? = some b ∧ prs[j]? = some (k, v) ∧ IsTup s.heap b #[u, v] ∧ (mixKind X.prog X.w).is k u = true
  | _, _, .nil => ⟨[], [], .nil, rfl, rfl, fun j u v e => by simp at e⟩
  | _, _, .cons (a := p) (b := kv) h t => by
    obtain ⟨prs, pvs, r, l1, l2, hp⟩ := pairs_at I t
    obtain ⟨its, rv, ht, _⟩ := I.tuple h
    obtain ⟨u, y, ei, ru, ry⟩ := vals2 rv
    subst ei
    refine ⟨(kv.1, y) :: prs, (u, y) :: pvs, .cons ⟨rfl, ry⟩ r, by rw [List.length_cons, List.length_cons, l1], by rw [List.length_cons, List.length_cons, l2], fun j u' v' e => ?_⟩
    cases j with
    | zero =>
      cases (show some (u, y) = some (u', v') from e)
      exact ⟨p, kv.1, rfl, rfl, ht, kV_is ru⟩
    | succ j => simpa using hp j u' v' (by simpa using e)
/-- dict(t) of a tuple that stands, of pairs (key, value) -/
theorem call_dictF (hcalm : X.calm = true) : CallR X (.type "dict") (fun xs H Q => ∃ (a : Addr) (ps : List Addr) (kvs : List (Key × V)), xs = [.ref a] ∧ FT H a (ps.map V.ref) ∧ Paired (fun p kv => SqT X.K H p [kV kv.1, kv.2]) ps kvs ∧
    ∀ p, H p = none → Q (.ref p) (upd H p (.dK (mergeK [] kvs)))) := by
  intro pins s σ H xs us Q I r q
  obtain ⟨a, ps, kvs, ex, ⟨ob, hd, he⟩, hp, q⟩ := q
  subst ex
  obtain ⟨u, eu, rx⟩ := vals1 r
  subst eu
  cases rx
  obtain ⟨ho, hz, its, rv, o', ho', hc', n, hdat⟩ := I.hok a _ he
  rw [ho] at ho'
  cases ho'
  have ei := refs_at rv
  subst ei
  rw [List.length_map] at hz
  obtain ⟨prs, pvs, kv, l1, l2, hpr⟩ := pairs_at I hp
  refine call_dict_pairs (knd := mixKind X.prog X.w) (kvs := prs) (PairArg.tuple a (ps.map Value.ref).toArray (fun j => ps.getD j 0) pvs) (I.ok.hd hcalm)
    ⟨⟨ob, n, ho, hc', hd, hdat⟩, by simp [l2], fun j k v e => ?_⟩ ⟨by rw [l1, l2], fun i u v e => ?_⟩ (by rw [l2]; exact hz) fun h' tk hd' k => ?_
  · obtain ⟨b, kk, e1, _, ht, _⟩ := hpr j k v e
    have eb : ps.getD j 0 = b := by rw [List.getD_eq_getElem?_getD, e1]; rfl
    show _ = some (Value.ref (ps.getD j 0)) ∧ PairAt s.heap (ps.getD j 0) k v
    rw [eb]
    exact ⟨by simp [e1], .inl ht⟩
  · obtain ⟨b, kk, _, e2, _, hk⟩ := hpr i u v e
    exact ⟨kk, e2, hk⟩
  · have hm : (s.heap.objs.size == sysModules) = false := beq_eq_false_iff_ne.mpr (Nat.ne_of_gt I.big)
    have hlen : (mergeK [] kvs).length ≤ sizeLine := by
      refine Nat.le_trans (length_mergeK kvs []) ?_
      rw [List.length_nil, Nat.zero_add, kv.length, l1]
      exact hz
    exact ⟨.ref s.heap.objs.size, upd H s.heap.objs.size (.dK (mergeK [] kvs)), I.laid (t' := tk) (fun b o e => k b o (by simp) e) (Nat.le_refl _) (show ObjOk X.prog X.w _ _ _ (.dK (mergeK [] kvs)) from ⟨hlen, hm, merged [] prs, KV.merge kv .nil, hd'⟩), rfl, q _ (I.hok.fresh (Nat.le_refl _))⟩
end
end S1

set_option Elab.async false
set_option linter.all false
set_option maxRecDepth 100000
set_option maxHeartbeats 4000000
/-! < and == of data; what is_truth, is_tuple, is_pair, is_rising tell of good ones -/
namespace S1
open PySem PySem.W PySem.Spec PyProof.Rows L2
section
variable {X : Cx}
def rLtD : R2 := fun x y H Q => ∃ d e, Dat H x d ∧ Dat H y e ∧ alike d e = true ∧ d ≠ .none ∧ d.depth ≤ 8 ∧ Q (.bl (dataLt d e)) H
theorem op_ltD (hu : X.A.units + 64 < cLine) : OpR X (compareOp .Lt) rLtD := by
  intro pins s σ H x y v u Q I rx ry h
  obtain ⟨d, e, D1, D2, al, ne, dp, q⟩ := h
  obtain ⟨as, R1⟩ := reads_of_dat I.hok D1 rx
  obtain ⟨bs, R2⟩ := reads_of_dat I.hok D2 ry
  exact rcLt_alike d e X.A s v u as bs R1 R2 al ne (by have := Nat.min_le_left d.depth e.depth; omega) X.prog X.w X.xe _ ⟨.bl (dataLt d e), H, I, rfl, q⟩
def rEqD : R2 := fun x y H Q => ∃ d e, Dat H x d ∧ Dat H y e ∧ alike d e = true ∧ d.depth ≤ 8 ∧ Q (.bl (PyData.eqv d e)) H
end
/-! ### the small questions -/
def spIsTruth : Sp := fun vs H Q _ => ∃ b : Bool, vs = [.bl b] ∧ Q (.bl true) H
def spIsTuple : Sp := fun vs H Q _ => ∃ (a : Addr) (xs : List V) (n : Int), vs = [.ref a, .int n] ∧ Rd H a (.tup xs) ∧ (xs.length : Int) ≤ n ∧ Q (.bl true) H
def spIsPair : Sp := fun vs H Q _ => ∃ (a : Addr) (x y : V), vs = [.ref a] ∧ H a = some (.tup [x, y]) ∧ Q (.bl true) H
/-- each one below the next -/
def Rise : List PyData → Prop
  | [] => True
  | [_] => True
  | x :: y :: r => (alike x y = true ∧ x ≠ .none ∧ x.depth ≤ 8 ∧ dataLt x y = true) ∧ Rise (y :: r)
theorem Rise.at_ : ∀ {ds : List PyData}, Rise ds → ∀ (k : Nat) (x y : PyData), ds[k]? = some x → ds[k + 1]? = some y → alike x y = true ∧ x ≠ .none ∧ x.depth ≤ 8 ∧ dataLt x y = true
  | [], _, _, _, _, h, _ => by simp at h
  | [_], _, k, _, _, _, h => by simp at h
  | a :: b :: r, R, 0, x, y, h1, h2 => by
    cases (show some a = some x from h1)
    cases (show some b = some y from h2)
    exact R.1
  | a :: b :: r, R, k + 1, x, y, h1, h2 => Rise.at_ R.2 k x y h1 h2
theorem rise_of {α : Type} {f : α → PyData} (al : ∀ x y, alike (f x) (f y) = true) (nn : ∀ x, f x ≠ .none) (dp : ∀ x, (f x).depth ≤ 8) : ∀ {l : List α}, (l.Pairwise fun x y => dataLt (f x) (f y) = true) → Rise (l.map f)
  | [], _ => True.intro
  | [_], _ => True.intro
  | x :: y :: l, h => by
    obtain ⟨h1, h2⟩ := List.pairwise_cons.mp h
    exact ⟨⟨al x y, nn x, dp x, h1 y List.mem_cons_self⟩, rise_of al nn dp h2⟩
theorem rise_strs {l : List Str} (h : l.Pairwise tlt) : Rise (l.map PyData.str) := rise_of (f := PyData.str) (fun _ _ => by simp [alike]) (fun _ z => nomatch z) (fun _ => Nat.zero_le _) (h.imp fun {x y} z => by
  rw [dataLt_str]
  exact decide_eq_true z)
theorem same_tup {K : PySem.W.Frag} {H H' : Hp} {a : Addr} {xs : List V} (S : Same H H') (h : SqT K H a xs) : SqT K H' a xs := by
  rcases h with h | h
  · refine .inl ?_
    rcases h with h | ⟨o, h⟩
    · exact .inl (S _ _ h)
    · exact .inr ⟨o, S _ _ h⟩
  · exact .inr h
theorem same_sq {K : PySem.W.Frag} {H H' : Hp} {a : Addr} {xs : List V} (S : Same H H') (h : SqL K H a xs ∨ SqT K H a xs) : SqL K H' a xs ∨ SqT K H' a xs := h.elim (fun h => .inl (S.seq h)) fun h => .inr (same_tup S h)
theorem ix_any {K : PySem.W.Frag} {H : Hp} {a : Addr} {xs : List V} {i : Int} {v : V} {Q : VK} (h : SqL K H a xs ∨ SqT K H a xs) (e : atI xs i = some v) (q : Q v H) : rIx K (.ref a) (.int i) H Q :=
  h.elim (fun h => .inl ⟨a, xs, i, v, rfl, rfl, h, e, q⟩) fun h => .inr (.inl ⟨a, xs, i, v, rfl, rfl, h, e, q⟩)
def spIsRising (K : PySem.W.Frag) : Sp := fun vs H Q _ => ∃ (a : Addr) (xs : List V) (ds : List PyData), vs = [.ref a] ∧ (SqL K H a xs ∨ SqT K H a xs) ∧ DatAll H xs ds ∧ Rise ds ∧ ds.length ≤ 1000 ∧ ∀ H', Same H H' → Q (.bl true) H'
theorem dats_get {H : Hp} : ∀ {xs : List V} {ds : List PyData}, DatAll H xs ds → ∀ (k : Nat) (d : PyData), ds[k]? = some d → ∃ x, xs[k]? = some x ∧ Dat H x d
  | _, _, .nil, _, _, h => by simp at h
  | _, _, .cons (v := v) h t, 0, d, e => by
    cases (show some _ = some d from e)
    exact ⟨v, rfl, h⟩
  | _, _, .cons h t, k + 1, d, e => dats_get t k d e
section
variable {P : Program} {w : World} {K : PySem.W.Frag} {mg : Str → Option Value} {base : Heap}
theorem scIsTruth : FnScope ["value"] ["value"] (defScope sIsTruth) := ⟨rfl, rfl, rfl, by decide +kernel, rfl, by decide +kernel, by decide +kernel⟩
theorem scIsTuple : FnScope ["value", "most"] ["value", "most"] (defScope sIsTuple) := ⟨rfl, rfl, rfl, by decide +kernel, rfl, by decide +kernel, by decide +kernel⟩
theorem scIsPair : FnScope ["value"] ["value"] (defScope sIsPair) := ⟨rfl, rfl, rfl, by decide +kernel, rfl, by decide +kernel, by decide +kernel⟩
theorem scIsRising : FnScope ["parts", "k"] ["parts"] (defScope sIsRising) := ⟨rfl, rfl, rfl, by decide +kernel, rfl, by decide +kernel, by decide +kernel⟩
theorem ok_isTruth {f : Addr} {fd : FuncData} (F : Fun K "is_truth" "is_truth" sIsTruth f fd) : FnOk P w K mg base CX0 1 f fd ["value"] spIsTruth := by
  refine F.ok scIsTruth (fun vs H Q E h => ?_) (fun cdv A outer s H vs Q E hr h => ?_)
  · obtain ⟨b, rfl, _⟩ := h
    rfl
  · obtain ⟨b, rfl, q⟩ := h
    refine ⟨_, pss_one (ps_ret (pe_or (pe_cmpR op_is_bl (pv 0) pe_bl (nomark _)) (pe_one (pe_cmpR op_is_bl (pv 0) pe_bl (nomark _))))), ?_⟩
    refine ⟨_, rfl, b, true, rfl, rfl, _, rfl, ?_⟩
    cases b with
    | true => exact q
    | false => exact ⟨_, rfl, false, false, rfl, rfl, q⟩
theorem ty_rd {H : Hp} {a : Addr} {xs : List V} (h : Rd H a (.tup xs)) : TyX K H (.ref a) (.type "tuple") := h.elim (fun e => .base (.tup e)) fun ⟨_, e⟩ => .fTuple e
theorem ok_isTuple {f : Addr} {fd : FuncData} (F : Fun K "is_tuple" "is_tuple" sIsTuple f fd) (B : Blt mg) : FnOk P w K mg base CX0 1 f fd ["value", "most"] spIsTuple := by
  refine F.ok scIsTuple (fun vs H Q E h => ?_) (fun cdv A outer s H vs Q E hr h => ?_)
  · obtain ⟨a, xs, n, rfl, _⟩ := h
    rfl
  · obtain ⟨a, xs, n, rfl, e, le, q⟩ := h
    refine ⟨_, pss_one (ps_ret (pe_and (pe_callB call_isi (by rfl) B.isi (by decide +kernel) (pa_cons (pv 0) (pa_cons (pe_bltn (v := V.ty "tuple") (by rfl) B.tuple (by decide +kernel) rfl) pa_nil)))
      (pe_one (pe_cmpR op_le (pe_callB call_len_seq (by rfl) B.len (by decide +kernel) (pa_cons (pv 0) pa_nil)) (pv 1) (nomark _))))), ?_⟩
    refine ⟨_, rfl, _, _, _, _, true, rfl, .ty _, ty_rd e, kit_ty (by decide +kernel), true, rfl, ?_⟩
    show if true = true then _ else _
    rw [if_pos rfl]
    refine ⟨_, rfl, _, _, rfl, .inr (.inl e), _, rfl, _, _, rfl, rfl, ?_⟩
    show Q (.bl (decide ((xs.length : Int) ≤ n))) H
    rw [decide_eq_true le]
    exact q
theorem ok_isPair {f : Addr} {fd : FuncData} (F : Fun K "is_pair" "is_pair" sIsPair f fd) (B : Blt mg) : FnOk P w K mg base CX0 1 f fd ["value"] spIsPair := by
  refine F.ok scIsPair (fun vs H Q E h => ?_) (fun cdv A outer s H vs Q E hr h => ?_)
  · obtain ⟨a, x, y, rfl, _⟩ := h
    rfl
  · obtain ⟨a, x, y, rfl, e, q⟩ := h
    refine ⟨_, pss_one (ps_ret (pe_and (pe_callB call_isi (by rfl) B.isi (by decide +kernel) (pa_cons (pv 0) (pa_cons (pe_bltn (v := V.ty "tuple") (by rfl) B.tuple (by decide +kernel) rfl) pa_nil)))
      (pe_one (pe_cmpR op_eq (pe_callB call_len_seq (by rfl) B.len (by decide +kernel) (pa_cons (pv 0) pa_nil)) pe_int (nomark _))))), ?_⟩
    refine ⟨_, rfl, _, _, _, _, true, rfl, .ty _, .base (.tup e), kit_ty (by decide +kernel), true, rfl, ?_⟩
    show if true = true then _ else _
    rw [if_pos rfl]
    exact ⟨_, rfl, _, _, rfl, .inr (SqT.of e), rfl, q⟩
theorem ok_isRising {f : Addr} {fd : FuncData} (F : Fun K "is_rising" "is_rising" sIsRising f fd) (B : Blt mg) : FnOk P w K mg base CX0 1 f fd ["parts"] (spIsRising K) := by
  refine F.ok scIsRising (fun vs H Q E h => ?_) (fun cdv A outer s H vs Q E hr h => ?_)
  · obtain ⟨a, xs, ds, rfl, _⟩ := h
    rfl
  · obtain ⟨a, xs, ds, rfl, sq, D, R, len, q⟩ := h
    have hu : (A.deeper (envOfC "is_rising" (defScope sIsRising) s.heap.objs.size f cdv)).units + 64 < cLine := hr.units
    refine ⟨_, pss_one (ps_ret (pe_callB (cr_all rfl) (by rfl) B.all (by decide +kernel) (pa_cons (pe_lc (own := [("k", 1)]) (g := gName 1) (tt := tYes) (te := tOp rLtD (tOp (rIx K) (tVar 0) (tVar 1)) (tOp (rIx K) (tVar 0) (tOp (rI0 fun i j => V.int (i + j)) (tVar 1) (tC (V.int 1))))) rfl scIsRising.nd (pi_range1 rfl B.range (pa_cons (pe_op op_sub (pe_callB call_len_seq (by rfl) B.len (by decide +kernel) (pa_cons (pv 0) pa_nil)) pe_int) pa_nil))
      (blkOk_by (N := ["parts", "k"]) (sc := defScope sIsRising) (by decide +kernel)) (fun _ _ _ _ _ => pg_name (i := 1) scIsRising.nd rfl (Or.inl rfl)) (fun _ _ _ _ _ => pts_nil)
      (fun _ _ _ _ _ => by exact pe_cmpR (op_ltD (by exact hu)) (pe_ix ix_seq (pv 0) (pv 1) (fun _ _ => rfl)) (pe_ix ix_seq (pv 0) (pe_op op_add (pv 1) pe_int) (fun _ _ => rfl)) (nomark _))) pa_nil))), ?_⟩
    have lx : xs.length = ds.length := D.len
    refine ⟨_, rfl, _, _, rfl, sq, _, _, rfl, rfl, _, rfl, by omega, by omega, fun D0 hD0 => ?_⟩
    refine lc_range (lo := 0) (n := ((xs.length : Int) - 1).toNat) (fun j H4 => H4 D0 = some (.lst ((List.replicate j true).map V.bl)) ∧ Same H H4) ⟨upd_same, same_new hD0⟩ ?_ ?_
    · rintro j H4 hj ⟨eD, S⟩
      obtain ⟨x, hx⟩ : ∃ x, ds[j]? = some x := ⟨_, List.getElem?_eq_getElem (by omega)⟩
      obtain ⟨y, hy⟩ : ∃ y, ds[j + 1]? = some y := ⟨_, List.getElem?_eq_getElem (by omega)⟩
      obtain ⟨u, hu1, Du⟩ := dats_get D j x hx
      obtain ⟨v, hv1, Dv⟩ := dats_get D (j + 1) y hy
      obtain ⟨al, nn, dp, lt⟩ := R.at_ j x y hx hy
      refine ⟨rfl, yes_of ?_⟩
      refine ⟨_, rfl, _, rfl, ix_any (same_sq S sq) (by rw [Int.zero_add]; exact atI_nat hu1) ⟨_, rfl, _, rfl, _, _, rfl, rfl, ix_any (same_sq S sq) (by rw [Int.zero_add]; exact atI_nat hv1) ?_⟩⟩
      refine ⟨x, y, Du.same S, Dv.same S, al, nn, dp, _, eD, ?_, ?_, ?_⟩
      · rw [List.length_map, List.length_replicate]
        exact small1000 (by omega)
      · rw [upd_same, lt, List.replicate_succ', List.map_append]
        rfl
      · exact same_upd S hD0
    · rintro H4 ⟨eD, S⟩
      refine ⟨D0, _, rfl, SqL.of eD, ?_⟩
      have e : (List.replicate ((xs.length : Int) - 1).toNat true).all id = true := by
        rw [List.all_eq_true]
        exact fun b hb => (List.mem_replicate.mp hb).2
      show Q (.bl _) H4
      rw [e]
      exact q H4 S
end
end S1

set_option Elab.async false
set_option linter.all false
set_option maxRecDepth 100000
set_option maxHeartbeats 4000000
/-! all([.. for ..]) where each one is True -/
namespace S1
open PySem PySem.W PySem.Spec PyProof.Rows L2
abbrev trues (n : Nat) : HO := .lst ((List.replicate n true).map V.bl)
theorem trues_next {H : Hp} {D : Addr} {n : Nat} (e : H D = some (trues n)) : upd H D (.lst ((List.replicate n true).map V.bl ++ [V.bl true])) D = some (trues (n + 1)) := by
  rw [upd_same]
  show some _ = some (HO.lst ((List.replicate (n + 1) true).map V.bl))
  rw [List.replicate_succ', List.map_append]
  rfl
theorem trues_all (n : Nat) : (List.replicate n true).all id = true := by
  rw [List.all_eq_true]
  exact fun b hb => (List.mem_replicate.mp hb).2
section
variable {K : PySem.W.Frag} {g : TG} {te : TE} {vs : List Nat} {σ : L2.St} {H : Hp} {D : Addr} {Qd : Hp → Prop}
theorem lc_allT {a : Addr} {xs : List V} (sq : SqT K H a xs) (hD : H D = none) (len : xs.length ≤ 1000)
    (step : ∀ (i : Nat) (x : V) (H4 : Hp) (Qe : VK), xs[i]? = some x → Same H H4 → (∀ H5, Same H4 H5 → Qe (.bl true) H5) → g x (wipe σ vs) H4 fun σ2 H2 => wipe σ2 vs = wipe σ vs ∧ te σ2 H2 Qe)
    (gm : ∀ x σ1 H1 (A B : L2.St → Hp → Prop), (∀ σ2 H2, A σ2 H2 → B σ2 H2) → g x σ1 H1 A → g x σ1 H1 B)
    (hd : ∀ H5, H5 D = some (trues xs.length) → Same H H5 → Qd H5) :
    ∃ W : Nat → Nat → Hp → Prop, (∃ m, W 0 m (upd H D (.lst []))) ∧ ∀ i m H, W i m H →
      ((Itt K a).stop i H ∧ Qd H) ∨ ((Itt K a).go i H ∧ ∃ Nx : Hp → Prop, (∀ H', Nx H' → ∃ m', m' < m ∧ W (i + 1) m' H') ∧ ∀ x H', (Itt K a).yld i H x H' → g x (wipe σ vs) H' fun σ2 H2 => wipe σ2 vs = wipe σ vs ∧ tYes σ2 H2 fun b H3 =>
        if b = true then te σ2 H3 fun y H4 => ∃ acc, H4 D = some (.lst acc) ∧ acc.length < sizeLine ∧ Nx (upd H4 D (.lst (acc ++ [y]))) else Nx H3) := by
  refine lc_tup (K := K) (a := a) (xs := xs) (fun j H4 => H4 D = some (trues j) ∧ Same H H4) ⟨upd_same, same_new hD⟩ (fun i H4 _ h => same_tup h.2 sq) (fun i x H4 hx h => ?_) (fun H5 h => hd H5 h.1 h.2)
  have il : i < xs.length := (List.getElem?_eq_some_iff.mp hx).1
  refine gm x _ _ _ _ (fun σ2 H2 z => ⟨z.1, yes_of z.2⟩) (step i x H4 _ hx h.2 fun H5 S5 => ?_)
  have e5 := S5 _ _ h.1
  exact ⟨_, e5, by rw [List.length_map, List.length_replicate]; exact small1000 (by omega), trues_next e5, same_upd (h.2.trans S5) hD⟩
theorem lc_allL {a : Addr} {xs : List V} (sq : SqL K H a xs) (hD : H D = none) (len : xs.length ≤ 1000)
    (step : ∀ (i : Nat) (x : V) (H4 : Hp) (Qe : VK), xs[i]? = some x → Same H H4 → (∀ H5, Same H4 H5 → Qe (.bl true) H5) → g x (wipe σ vs) H4 fun σ2 H2 => wipe σ2 vs = wipe σ vs ∧ te σ2 H2 Qe)
    (gm : ∀ x σ1 H1 (A B : L2.St → Hp → Prop), (∀ σ2 H2, A σ2 H2 → B σ2 H2) → g x σ1 H1 A → g x σ1 H1 B)
    (hd : ∀ H5, H5 D = some (trues xs.length) → Same H H5 → Qd H5) :
    ∃ W : Nat → Nat → Hp → Prop, (∃ m, W 0 m (upd H D (.lst []))) ∧ ∀ i m H, W i m H →
      ((Itl K a).stop i H ∧ Qd H) ∨ ((Itl K a).go i H ∧ ∃ Nx : Hp → Prop, (∀ H', Nx H' → ∃ m', m' < m ∧ W (i + 1) m' H') ∧ ∀ x H', (Itl K a).yld i H x H' → g x (wipe σ vs) H' fun σ2 H2 => wipe σ2 vs = wipe σ vs ∧ tYes σ2 H2 fun b H3 =>
        if b = true then te σ2 H3 fun y H4 => ∃ acc, H4 D = some (.lst acc) ∧ acc.length < sizeLine ∧ Nx (upd H4 D (.lst (acc ++ [y]))) else Nx H3) := by
  refine lc_list (K := K) (a := a) (xs := xs) (fun j H4 => H4 D = some (trues j) ∧ Same H H4) ⟨upd_same, same_new hD⟩ (fun i H4 _ h => h.2.seq sq) (fun i x H4 hx h => ?_) (fun H5 h => hd H5 h.1 h.2)
  have il : i < xs.length := (List.getElem?_eq_some_iff.mp hx).1
  refine gm x _ _ _ _ (fun σ2 H2 z => ⟨z.1, yes_of z.2⟩) (step i x H4 _ hx h.2 fun H5 S5 => ?_)
  have e5 := S5 _ _ h.1
  exact ⟨_, e5, by rw [List.length_map, List.length_replicate]; exact small1000 (by omega), trues_next e5, same_upd (h.2.trans S5) hD⟩
theorem lc_allS {x : Str} (hD : H D = none) (len : x.cps.size ≤ 1000)
    (step : ∀ (c : Nat) (H4 : Hp) (Qe : VK), c ∈ x.cps.toList → Same H H4 → (∀ H5, Same H4 H5 → Qe (.bl true) H5) → g (.str ⟨#[c]⟩) (wipe σ vs) H4 fun σ2 H2 => wipe σ2 vs = wipe σ vs ∧ te σ2 H2 Qe)
    (gm : ∀ x σ1 H1 (A B : L2.St → Hp → Prop), (∀ σ2 H2, A σ2 H2 → B σ2 H2) → g x σ1 H1 A → g x σ1 H1 B)
    (hd : ∀ H5, H5 D = some (trues x.cps.size) → Same H H5 → Qd H5) :
    ∃ W : Nat → Nat → Hp → Prop, (∃ m, W 0 m (upd H D (.lst []))) ∧ ∀ i m H, W i m H →
      ((Its x).stop i H ∧ Qd H) ∨ ((Its x).go i H ∧ ∃ Nx : Hp → Prop, (∀ H', Nx H' → ∃ m', m' < m ∧ W (i + 1) m' H') ∧ ∀ y H', (Its x).yld i H y H' → g y (wipe σ vs) H' fun σ2 H2 => wipe σ2 vs = wipe σ vs ∧ tYes σ2 H2 fun b H3 =>
        if b = true then te σ2 H3 fun y H4 => ∃ acc, H4 D = some (.lst acc) ∧ acc.length < sizeLine ∧ Nx (upd H4 D (.lst (acc ++ [y]))) else Nx H3) := by
  refine ⟨fun i m H4 => m = x.cps.size - i ∧ i ≤ x.cps.size ∧ H4 D = some (trues i) ∧ Same H H4, ⟨_, rfl, Nat.zero_le _, upd_same, same_new hD⟩, ?_⟩
  rintro i m H4 ⟨rfl, hi, e4, S4⟩
  by_cases il : i < x.cps.size
  · refine .inr ⟨il, fun H5 => i + 1 ≤ x.cps.size ∧ H5 D = some (trues (i + 1)) ∧ Same H H5, fun H5 z => ⟨x.cps.size - (i + 1), by omega, rfl, z.1, z.2⟩, ?_⟩
    rintro y H' ⟨rfl, c, hc, rfl⟩
    have mc : c ∈ x.cps.toList := List.mem_of_getElem? (by rw [Array.getElem?_toList]; exact hc)
    refine gm _ _ _ _ _ (fun σ2 H2 z => ⟨z.1, yes_of z.2⟩) (step c _ _ mc S4 fun H5 S5 => ?_)
    have e5 := S5 _ _ e4
    exact ⟨_, e5, by rw [List.length_map, List.length_replicate]; exact small1000 (by omega), il, trues_next e5, same_upd (S4.trans S5) hD⟩
  · have e : i = x.cps.size := by omega
    subst e
    exact .inl ⟨Nat.le_refl _, hd H4 e4 S4⟩
end
theorem gName_mono {i : Nat} : ∀ (x : V) (σ1 : L2.St) (H1 : Hp) (A B : L2.St → Hp → Prop), (∀ σ2 H2, A σ2 H2 → B σ2 H2) → gName i x σ1 H1 A → gName i x σ1 H1 B := fun x σ1 H1 A B h z => h _ _ z
end S1

set_option Elab.async false
set_option linter.all false
set_option maxRecDepth 100000
set_option maxHeartbeats 4000000
/-! names, letters, clauses: told to be such -/
namespace S1
open PySem PySem.W PySem.Spec PyProof.Rows L2
/-- the numbers at the head of the program -/
structure Cst (mg : Str → Option Value) : Prop where
  small : ∃ t, mg "SMALL" = some (.str "abcdefghijklmnopqrstuvwxyz" t)
  signs : ∃ t, mg "MOST_SIGNS" = some (.int 8 t)
  picks : ∃ t, mg "MOST_PICKS" = some (.int 6 t)
  owns : ∃ t, mg "MOST_OWNS" = some (.int 8 t)
  clauses : ∃ t, mg "MOST_CLAUSES" = some (.int 40 t)
  copies : ∃ t, mg "MOST_COPIES" = some (.int 120 t)
theorem abc_mem {c : Nat} (h : 97 ≤ c ∧ c ≤ 122) : c ∈ ("abcdefghijklmnopqrstuvwxyz" : Str).cps.toList := by
  have z : ∀ k, k < 123 → 97 ≤ k → k ∈ ("abcdefghijklmnopqrstuvwxyz" : Str).cps.toList := by decide +kernel
  exact z c (by omega) h.1
def spIsName : Sp := fun vs H Q _ => ∃ x : Str, vs = [.str x] ∧ Nm x ∧ ∀ H', Same H H' → Q (.bl true) H'
def spIsLetter : Sp := fun vs H Q _ => ∃ (v : V) (l : Ltr), vs = [v] ∧ Dat H v (ltD l) ∧ Nm l.1 ∧ ∀ H', Same H H' → Q (.bl true) H'
section
variable {P : Program} {w : World} {K : PySem.W.Frag} {mg : Str → Option Value} {base : Heap}
theorem scIsName : FnScope ["value", "sign"] ["value"] (defScope sIsName) := ⟨rfl, rfl, rfl, by decide +kernel, rfl, by decide +kernel, by decide +kernel⟩
theorem scIsLetter : FnScope ["value"] ["value"] (defScope sIsLetter) := ⟨rfl, rfl, rfl, by decide +kernel, rfl, by decide +kernel, by decide +kernel⟩
theorem ok_isName {f : Addr} {fd : FuncData} (F : Fun K "is_name" "is_name" sIsName f fd) (B : Blt mg) (C : Cst mg) : FnOk P w K mg base CX0 1 f fd ["value"] spIsName := by
  obtain ⟨t1, c1⟩ := C.small
  obtain ⟨t2, c2⟩ := C.signs
  refine F.ok scIsName (fun vs H Q E h => ?_) (fun cdv A outer s H vs Q E hr h => ?_)
  · obtain ⟨x, rfl, _⟩ := h
    rfl
  · obtain ⟨x, rfl, nx, q⟩ := h
    refine ⟨_, pss_cons (ps_if (PW.pt (pw_or (pt_not (pt_val (pe_callB call_isi (by rfl) B.isi (by decide +kernel) (pa_cons (pv 0) (pa_cons (pe_bltn (v := V.ty "str") (by rfl) B.str (by decide +kernel) rfl) pa_nil)))))
        (pw_or1 (pt_not (pt_chain op_le op_le pe_int (pe_callB call_len_str (by rfl) B.len (by decide +kernel) (pa_cons (pv 0) pa_nil)) (pe_glob (v := V.int 8) rfl c2 ⟨_, rfl⟩)))))) (pss_one (ps_ret pe_bl)) pss_nil)
      (pss_one (ps_ret (pe_callB (cr_all rfl) (by rfl) B.all (by decide +kernel) (pa_cons (pe_lc (own := [("sign", 1)]) (g := gName 1) (tt := tYes) rfl scIsName.nd (pi_str (pv 0))
        (blkOk_by (N := ["value", "sign"]) (sc := defScope sIsName) (by decide +kernel)) (fun _ _ _ _ _ => pg_name (i := 1) scIsName.nd rfl (Or.inl rfl)) (fun _ _ _ _ _ => pts_nil)
        (fun _ _ _ _ _ => pe_cmpR op_in_sign (pv 1) (pe_glob (v := V.str "abcdefghijklmnopqrstuvwxyz") rfl c1 ⟨_, rfl⟩) (by with_unfolding_all rfl))) pa_nil)))), ?_⟩
    have len : x.length ≤ sizeLine := Nat.le_of_lt (small1000 (by have := nx.hi; omega))
    refine ⟨_, rfl, _, _, _, _, true, rfl, .ty _, .base (.str x), kit_ty (by decide +kernel), true, rfl, ?_⟩
    show if (!true) = true then _ else _
    rw [if_neg (by decide)]
    refine ⟨_, rfl, x, rfl, len, _, _, rfl, rfl, _, rfl, ?_⟩
    have l1 : (1 : Int) ≤ (x.length : Int) := by have := nx.lo; omega
    have l8 : (x.length : Int) ≤ 8 := by have := nx.hi; omega
    refine ite2 (fun _ => ?_) (fun h => absurd (decide_eq_true l1) h)
    refine ⟨_, _, rfl, rfl, _, rfl, ?_⟩
    rw [show decide ((x.length : Int) ≤ 8) = true from decide_eq_true l8]
    show if (!true) = true then _ else _
    rw [if_neg (by decide)]
    refine ⟨_, rfl, x, rfl, fun D hD => ?_⟩
    refine lc_allS hD (by have := nx.hi; show x.length ≤ 1000; omega) (fun c H4 Qe mc S4 k => ?_) gName_mono (fun H5 e5 S5 => ?_)
    · refine ⟨rfl, _, rfl, c, _, rfl, rfl, ?_⟩
      show Qe (.bl (decide _)) H4
      rw [decide_eq_true (abc_mem (nx.az c mc))]
      exact k H4 (Same.refl _)
    · refine ⟨D, _, rfl, SqL.of e5, ?_⟩
      show Q (.bl _) H5
      rw [trues_all]
      exact q H5 S5
theorem ok_isLetter {f fP fN fT : Addr} {fd fdP fdN fdT : FuncData} (F : Fun K "is_letter" "is_letter" sIsLetter f fd) (Pr : Has K mg "is_pair" sIsPair ["value"] fP fdP) (Nn : Has K mg "is_name" sIsName ["value"] fN fdN) (Tr : Has K mg "is_truth" sIsTruth ["value"] fT fdT)
    (B : Blt mg) (C : Cst mg) : FnOk P w K mg base CX0 2 f fd ["value"] spIsLetter := by
  have GP : FnOk P w K mg base CX0 1 fP fdP ["value"] spIsPair := ok_isPair Pr.F B
  have GN : FnOk P w K mg base CX0 1 fN fdN ["value"] spIsName := ok_isName Nn.F B C
  have GT : FnOk P w K mg base CX0 1 fT fdT ["value"] spIsTruth := ok_isTruth Tr.F
  refine F.ok scIsLetter (fun vs H Q E h => ?_) (fun cdv A outer s H vs Q E hr h => ?_)
  · obtain ⟨v, l, rfl, _⟩ := h
    rfl
  · obtain ⟨v, l, rfl, D, nl, q⟩ := h
    refine ⟨_, pss_one (ps_ret (pe_and (pe_call GP hr rfl Pr.g Pr.F.kp Pr.b .nil pass0 (pa_cons (pv 0) pa_nil)) (pe_and (pe_call GN hr rfl Nn.g Nn.F.kp Nn.b .nil pass0 (pa_cons (pe_ix ix_tup (pv 0) pe_int (fun _ _ => rfl)) pa_nil))
      (pe_one (pe_call GT hr rfl Tr.g Tr.F.kp Tr.b .nil pass0 (pa_cons (pe_ix ix_tup (pv 0) pe_int (fun _ _ => rfl)) pa_nil)))))), ?_⟩
    have D2 : Dat H v (.tuple [.str l.1, .bool l.2]) := D
    cases D2 with
    | @tup a _ _ e h =>
      cases h with
      | cons h1 h =>
        cases h1
        cases h with
        | cons h2 h =>
          cases h2
          cases h
          refine ⟨_, rfl, a, _, _, rfl, e, true, rfl, ?_⟩
          show if true = true then _ else _
          rw [if_pos rfl]
          refine ⟨_, rfl, a, _, 0, _, rfl, rfl, SqT.of e, rfl, l.1, rfl, nl, fun H' S => ⟨true, rfl, ?_⟩⟩
          show if true = true then _ else _
          rw [if_pos rfl]
          exact ⟨_, rfl, a, _, 1, _, rfl, rfl, SqT.of (S _ _ e), rfl, l.2, rfl, q H' S⟩
end
end S1

set_option Elab.async false
set_option linter.all false
set_option maxRecDepth 100000
set_option maxHeartbeats 4000000
/-! clauses of any names, rows of names, rows of truths: told to be such -/
namespace S1
open PySem PySem.W PySem.Spec PyProof.Rows L2
section
variable {K : PySem.W.Frag} {g : TG} {te : TE} {vs : List Nat} {σ : L2.St} {H : Hp} {D : Addr} {Qd : Hp → Prop}
/-- [f(x) for x in a tuple], what it gives known one by one -/
theorem lc_mapT {a : Addr} {xs ys : List V} (sq : SqT K H a xs) (hD : H D = none) (ly : ys.length = xs.length) (len : xs.length ≤ 1000)
    (step : ∀ (i : Nat) (x y : V) (H4 : Hp) (Qe : VK), xs[i]? = some x → ys[i]? = some y → Same H H4 → (∀ H5, Same H4 H5 → Qe y H5) → g x (wipe σ vs) H4 fun σ2 H2 => wipe σ2 vs = wipe σ vs ∧ te σ2 H2 Qe)
    (gm : ∀ x σ1 H1 (A B : L2.St → Hp → Prop), (∀ σ2 H2, A σ2 H2 → B σ2 H2) → g x σ1 H1 A → g x σ1 H1 B)
    (hd : ∀ H5, H5 D = some (.lst ys) → Same H H5 → Qd H5) :
    ∃ W : Nat → Nat → Hp → Prop, (∃ m, W 0 m (upd H D (.lst []))) ∧ ∀ i m H, W i m H →
      ((Itt K a).stop i H ∧ Qd H) ∨ ((Itt K a).go i H ∧ ∃ Nx : Hp → Prop, (∀ H', Nx H' → ∃ m', m' < m ∧ W (i + 1) m' H') ∧ ∀ x H', (Itt K a).yld i H x H' → g x (wipe σ vs) H' fun σ2 H2 => wipe σ2 vs = wipe σ vs ∧ tYes σ2 H2 fun b H3 =>
        if b = true then te σ2 H3 fun y H4 => ∃ acc, H4 D = some (.lst acc) ∧ acc.length < sizeLine ∧ Nx (upd H4 D (.lst (acc ++ [y]))) else Nx H3) := by
  refine lc_tup (K := K) (a := a) (xs := xs) (fun j H4 => H4 D = some (.lst (ys.take j)) ∧ Same H H4) ⟨by rw [upd_same, List.take_zero], same_new hD⟩ (fun i H4 _ h => same_tup h.2 sq) (fun i x H4 hx h => ?_) (fun H5 h => hd H5 (by rw [h.1, ← ly, List.take_length]) h.2)
  have il : i < xs.length := (List.getElem?_eq_some_iff.mp hx).1
  obtain ⟨y, hy⟩ : ∃ y, ys[i]? = some y := ⟨_, List.getElem?_eq_getElem (by omega)⟩
  refine gm x _ _ _ _ (fun σ2 H2 z => ⟨z.1, yes_of z.2⟩) (step i x y H4 _ hx hy h.2 fun H5 S5 => ?_)
  have e5 := S5 _ _ h.1
  exact ⟨_, e5, by rw [List.length_take]; exact small1000 (by omega), by rw [upd_same, take_next hy], same_upd (h.2.trans S5) hD⟩
end
def blsD (bs : List Bool) : PyData := .tuple (bs.map .bool)
def spIsAnyClause : Sp := fun vs H Q _ => ∃ (v : V) (cl : List Ltr), vs = [v] ∧ Dat H v (clD cl) ∧ (cl.Pairwise fun a b => tlt a.1 b.1) ∧ (∀ l ∈ cl, Nm l.1) ∧ cl.length ≤ 1000 ∧ ∀ H', Same H H' → Q (.bl true) H'
def spAreNames : Sp := fun vs H Q _ => ∃ (v : V) (xs : List Str) (n : Int), vs = [v, .int n] ∧ Dat H v (nmsD xs) ∧ xs.Pairwise tlt ∧ (∀ x ∈ xs, Nm x) ∧ (xs.length : Int) ≤ n ∧ xs.length ≤ 1000 ∧ ∀ H', Same H H' → Q (.bl true) H'
def spAreTruths : Sp := fun vs H Q _ => ∃ (v : V) (bs : List Bool), vs = [v, .int bs.length] ∧ Dat H v (blsD bs) ∧ bs.length ≤ 1000 ∧ ∀ H', Same H H' → Q (.bl true) H'
theorem dat_tup {H : Hp} {v : V} {ds : List PyData} (D : Dat H v (.tuple ds)) : ∃ a xs, v = .ref a ∧ H a = some (.tup xs) ∧ DatAll H xs ds := by
  cases D with
  | tup e h => exact ⟨_, _, rfl, e, h⟩
theorem dats_strs_eq {H : Hp} : ∀ {xs : List V} {l : List Str}, DatAll H xs (l.map PyData.str) → xs = l.map V.str
  | _, [], h => by cases h; rfl
  | _, x :: l, h => by
    cases h with
    | cons a b =>
      cases a
      rw [dats_strs_eq b, List.map_cons]
theorem dats_bls_eq {H : Hp} : ∀ {xs : List V} {l : List Bool}, DatAll H xs (l.map PyData.bool) → xs = l.map V.bl
  | _, [], h => by cases h; rfl
  | _, x :: l, h => by
    cases h with
    | cons a b =>
      cases a
      rw [dats_bls_eq b, List.map_cons]
theorem dats_get' {H : Hp} : ∀ {xs : List V} {ds : List PyData}, DatAll H xs ds → ∀ (k : Nat) (x : V), xs[k]? = some x → ∃ d, ds[k]? = some d ∧ Dat H x d
  | _, _, .nil, _, _, h => by simp at h
  | _, _, .cons (d := d) h t, 0, x, e => by
    cases (show some _ = some x from e)
    exact ⟨d, rfl, h⟩
  | _, _, .cons h t, k + 1, x, e => dats_get' t k x e
theorem ltr_row {H : Hp} {x : V} {l : Ltr} (D : Dat H x (ltD l)) : ∃ b, x = .ref b ∧ H b = some (.tup [.str l.1, .bl l.2]) := by
  obtain ⟨b, xs, rfl, e, h⟩ := dat_tup (ds := [.str l.1, .bool l.2]) D
  cases h with
  | cons h1 h =>
    cases h1
    cases h with
    | cons h2 h =>
      cases h2
      cases h
      exact ⟨b, rfl, e⟩
theorem get_map {α : Type} {f : α → PyData} {l : List α} {i : Nat} {d : PyData} (h : (l.map f)[i]? = some d) : ∃ x, l[i]? = some x ∧ d = f x := by
  rw [List.getElem?_map] at h
  obtain ⟨x, hx, e⟩ := Option.map_eq_some_iff.mp h
  exact ⟨x, hx, e.symm⟩
section
variable {P : Program} {w : World} {K : PySem.W.Frag} {mg : Str → Option Value} {base : Heap}
theorem scIsAnyClause : FnScope ["value", "part", "letter"] ["value"] (defScope sIsAnyClause) := ⟨rfl, rfl, rfl, by decide +kernel, rfl, by decide +kernel, by decide +kernel⟩
theorem scAreNames : FnScope ["value", "most", "part"] ["value", "most"] (defScope sAreNames) := ⟨rfl, rfl, rfl, by decide +kernel, rfl, by decide +kernel, by decide +kernel⟩
theorem scAreTruths : FnScope ["value", "many", "part"] ["value", "many"] (defScope sAreTruths) := ⟨rfl, rfl, rfl, by decide +kernel, rfl, by decide +kernel, by decide +kernel⟩
theorem ok_isAnyClause {f fL fR : Addr} {fd fdL fdR : FuncData} (F : Fun K "is_any_clause" "is_any_clause" sIsAnyClause f fd) (Le : Has K mg "is_letter" sIsLetter ["value"] fL fdL) (GL : FnOk P w K mg base CX0 2 fL fdL ["value"] spIsLetter)
    (Ri : Has K mg "is_rising" sIsRising ["parts"] fR fdR) (B : Blt mg) : FnOk P w K mg base CX0 3 f fd ["value"] spIsAnyClause := by
  have GR : FnOk P w K mg base CX0 1 fR fdR ["parts"] (spIsRising K) := ok_isRising Ri.F B
  refine F.ok scIsAnyClause (fun vs H Q E h => ?_) (fun cdv A outer s H vs Q E hr h => ?_)
  · obtain ⟨v, cl, rfl, _⟩ := h
    rfl
  · obtain ⟨v, cl, rfl, D, up, nm, len, q⟩ := h
    have hr1 := hr.mono (show 1 ≤ 2 by decide)
    refine ⟨_, pss_cons (ps_if (PW.pt (pw_or (pt_not (pt_val (pe_callB call_isi (by rfl) B.isi (by decide +kernel) (pa_cons (pv 0) (pa_cons (pe_bltn (v := V.ty "tuple") (by rfl) B.tuple (by decide +kernel) rfl) pa_nil)))))
        (pw_or1 (pt_not (pt_val (pe_callB (cr_all rfl) (by rfl) B.all (by decide +kernel) (pa_cons (pe_lc (own := [("part", 1)]) (g := gName 1) (tt := tYes) rfl scIsAnyClause.nd (pi_tup (pv 0))
          (blkOk_by (N := ["value", "part", "letter"]) (sc := defScope sIsAnyClause) (by decide +kernel)) (fun _ _ _ _ _ => pg_name (i := 1) scIsAnyClause.nd rfl (Or.inl rfl)) (fun _ _ _ _ _ => pts_nil)
          (fun _ _ _ _ _ => pe_call GL (by exact hr) (by rfl) Le.g Le.F.kp Le.b .nil pass0 (pa_cons (pv 1) pa_nil))) pa_nil))))))) (pss_one (ps_ret pe_bl)) pss_nil)
      (pss_one (ps_ret (pe_call GR hr1 rfl Ri.g Ri.F.kp Ri.b .nil pass0 (pa_cons (pe_lc (own := [("letter", 2)]) (g := gName 2) (tt := tYes) (te := tOp (rIxT K) (tVar 2) (tC (V.int 0))) rfl scIsAnyClause.nd (pi_tup (pv 0))
          (blkOk_by (N := ["value", "part", "letter"]) (sc := defScope sIsAnyClause) (by decide +kernel)) (fun _ _ _ _ _ => pg_name (i := 2) scIsAnyClause.nd rfl (Or.inl rfl)) (fun _ _ _ _ _ => pts_nil)
          (fun _ _ _ _ _ => by exact pe_ix ix_tup (pv 2) pe_int (fun _ _ => rfl))) pa_nil)))), ?_⟩
    obtain ⟨a, xs, rfl, e, Da⟩ := dat_tup (ds := cl.map ltD) D
    have lx : xs.length = cl.length := by rw [Da.len, List.length_map]
    refine ⟨_, rfl, _, _, _, _, true, rfl, .ty _, .base (.tup e), kit_ty (by decide +kernel), true, rfl, ?_⟩
    show if (!true) = true then _ else _
    rw [if_neg (by decide)]
    refine ⟨_, rfl, a, rfl, ⟨_, SqT.of e⟩, fun D0 hD0 => lc_allT (K := K) (SqT.of e) hD0 (by omega) (fun i x H4 Qe hx S4 k => ?_) gName_mono (fun H5 e5 S5 => ?_)⟩
    · obtain ⟨d, hd, Dx⟩ := dats_get' Da i x hx
      obtain ⟨l, hl, rfl⟩ := get_map hd
      exact ⟨rfl, _, rfl, x, l, rfl, Dx.same S4, nm l (List.mem_of_getElem? hl), k⟩
    · refine ⟨D0, _, rfl, SqL.of e5, _, rfl, ?_⟩
      rw [trues_all]
      show if (!true) = true then _ else _
      rw [if_neg (by decide)]
      refine ⟨_, rfl, a, rfl, ⟨_, SqT.of (S5 _ _ e)⟩, fun D1 hD1 => lc_mapT (K := K) (ys := (cl.map Prod.fst).map V.str) (SqT.of (S5 _ _ e)) hD1 (by rw [List.length_map, List.length_map, lx]) (by omega) (fun i x y H4 Qe hx hy S4 k => ?_) gName_mono (fun H6 e6 S6 => ?_)⟩
      · obtain ⟨d, hd, Dx⟩ := dats_get' Da i x hx
        obtain ⟨l, hl, rfl⟩ := get_map hd
        obtain ⟨b, rfl, eb⟩ := ltr_row Dx
        have ey : y = V.str l.1 := by
          rw [List.getElem?_map, List.getElem?_map, hl] at hy
          exact (Option.some.inj hy).symm
        rw [ey] at k
        exact ⟨rfl, _, rfl, b, _, 0, _, rfl, rfl, SqT.of (S4 _ _ (S5 _ _ eb)), rfl, k H4 (Same.refl _)⟩
      · exact ⟨D1, _, _, rfl, .inl (SqL.of e6), dats_strs (cl.map Prod.fst), rise_strs (List.pairwise_map.mpr up), by rw [List.length_map, List.length_map]; exact len, fun H' S => q H' ((S5.trans S6).trans S)⟩
theorem ok_areNames {f fU fN fR : Addr} {fd fdU fdN fdR : FuncData} (F : Fun K "are_names" "are_names" sAreNames f fd) (Tu : Has K mg "is_tuple" sIsTuple ["value", "most"] fU fdU) (Nn : Has K mg "is_name" sIsName ["value"] fN fdN)
    (Ri : Has K mg "is_rising" sIsRising ["parts"] fR fdR) (B : Blt mg) (C : Cst mg) : FnOk P w K mg base CX0 2 f fd ["value", "most"] spAreNames := by
  have GU : FnOk P w K mg base CX0 1 fU fdU ["value", "most"] spIsTuple := ok_isTuple Tu.F B
  have GN : FnOk P w K mg base CX0 1 fN fdN ["value"] spIsName := ok_isName Nn.F B C
  have GR : FnOk P w K mg base CX0 1 fR fdR ["parts"] (spIsRising K) := ok_isRising Ri.F B
  refine F.ok scAreNames (fun vs H Q E h => ?_) (fun cdv A outer s H vs Q E hr h => ?_)
  · obtain ⟨v, xs, n, rfl, _⟩ := h
    rfl
  · obtain ⟨v, xs, n, rfl, D, up, nm, le, len, q⟩ := h
    refine ⟨_, pss_cons (ps_if (PW.pt (pw_or (pt_not (pt_val (pe_call GU hr rfl Tu.g Tu.F.kp Tu.b .nil pass0 (pa_cons (pv 0) (pa_cons (pv 1) pa_nil)))))
        (pw_or1 (pt_not (pt_val (pe_callB (cr_all rfl) (by rfl) B.all (by decide +kernel) (pa_cons (pe_lc (own := [("part", 2)]) (g := gName 2) (tt := tYes) rfl scAreNames.nd (pi_tup (pv 0))
          (blkOk_by (N := ["value", "most", "part"]) (sc := defScope sAreNames) (by decide +kernel)) (fun _ _ _ _ _ => pg_name (i := 2) scAreNames.nd rfl (Or.inl rfl)) (fun _ _ _ _ _ => pts_nil)
          (fun _ _ _ _ _ => pe_call GN (by exact hr) (by rfl) Nn.g Nn.F.kp Nn.b .nil pass0 (pa_cons (pv 2) pa_nil))) pa_nil))))))) (pss_one (ps_ret pe_bl)) pss_nil)
      (pss_one (ps_ret (pe_call GR hr rfl Ri.g Ri.F.kp Ri.b .nil pass0 (pa_cons (pv 0) pa_nil)))), ?_⟩
    obtain ⟨a, us, rfl, e, Da⟩ := dat_tup (ds := xs.map PyData.str) D
    have eu := dats_strs_eq Da
    subst eu
    refine ⟨_, rfl, _, rfl, a, _, n, rfl, .inl e, by rw [List.length_map]; exact le, true, rfl, ?_⟩
    show if (!true) = true then _ else _
    rw [if_neg (by decide)]
    refine ⟨_, rfl, a, rfl, ⟨_, SqT.of e⟩, fun D0 hD0 => lc_allT (K := K) (SqT.of e) hD0 (by rw [List.length_map]; exact len) (fun i x H4 Qe hx S4 k => ?_) gName_mono (fun H5 e5 S5 => ?_)⟩
    · rw [List.getElem?_map] at hx
      obtain ⟨y, hy, rfl⟩ := Option.map_eq_some_iff.mp hx
      exact ⟨rfl, _, rfl, y, rfl, nm y (List.mem_of_getElem? hy), k⟩
    · refine ⟨D0, _, rfl, SqL.of e5, _, rfl, ?_⟩
      rw [trues_all]
      show if (!true) = true then _ else _
      rw [if_neg (by decide)]
      exact ⟨_, rfl, a, _, _, rfl, .inr (SqT.of (S5 _ _ e)), dats_strs xs, rise_strs up, by rw [List.length_map]; exact len, fun H' S => q H' (S5.trans S)⟩
theorem ok_areTruths {f fT : Addr} {fd fdT : FuncData} (F : Fun K "are_truths" "are_truths" sAreTruths f fd) (Tr : Has K mg "is_truth" sIsTruth ["value"] fT fdT) (B : Blt mg) : FnOk P w K mg base CX0 2 f fd ["value", "many"] spAreTruths := by
  have GT : FnOk P w K mg base CX0 1 fT fdT ["value"] spIsTruth := ok_isTruth Tr.F
  refine F.ok scAreTruths (fun vs H Q E h => ?_) (fun cdv A outer s H vs Q E hr h => ?_)
  · obtain ⟨v, bs, rfl, _⟩ := h
    rfl
  · obtain ⟨v, bs, rfl, D, len, q⟩ := h
    refine ⟨_, pss_cons (ps_if (PW.pt (pw_or (pt_not (pt_val (pe_callB call_isi (by rfl) B.isi (by decide +kernel) (pa_cons (pv 0) (pa_cons (pe_bltn (v := V.ty "tuple") (by rfl) B.tuple (by decide +kernel) rfl) pa_nil)))))
        (pw_or1 (pt_cmpR op_ne (pe_callB call_len_seq (by rfl) B.len (by decide +kernel) (pa_cons (pv 0) pa_nil)) (pv 1) (nomark _))))) (pss_one (ps_ret pe_bl)) pss_nil)
      (pss_one (ps_ret (pe_callB (cr_all rfl) (by rfl) B.all (by decide +kernel) (pa_cons (pe_lc (own := [("part", 2)]) (g := gName 2) (tt := tYes) rfl scAreTruths.nd (pi_tup (pv 0))
          (blkOk_by (N := ["value", "many", "part"]) (sc := defScope sAreTruths) (by decide +kernel)) (fun _ _ _ _ _ => pg_name (i := 2) scAreTruths.nd rfl (Or.inl rfl)) (fun _ _ _ _ _ => pts_nil)
          (fun _ _ _ _ _ => pe_call GT (by exact hr) (by rfl) Tr.g Tr.F.kp Tr.b .nil pass0 (pa_cons (pv 2) pa_nil))) pa_nil)))), ?_⟩
    obtain ⟨a, us, rfl, e, Da⟩ := dat_tup (ds := bs.map PyData.bool) D
    have eu := dats_bls_eq Da
    subst eu
    refine ⟨_, rfl, _, _, _, _, true, rfl, .ty _, .base (.tup e), kit_ty (by decide +kernel), true, rfl, ?_⟩
    show if (!true) = true then _ else _
    rw [if_neg (by decide)]
    refine ⟨_, rfl, _, _, rfl, .inr (SqT.of e), _, rfl, rfl, _, rfl, ?_⟩
    rw [List.length_map]
    refine iteNS rfl ?_
    refine ⟨_, rfl, a, rfl, ⟨_, SqT.of e⟩, fun D0 hD0 => lc_allT (K := K) (SqT.of e) hD0 (by rw [List.length_map]; exact len) (fun i x H4 Qe hx S4 k => ?_) gName_mono (fun H5 e5 S5 => ?_)⟩
    · rw [List.getElem?_map] at hx
      obtain ⟨y, hy, rfl⟩ := Option.map_eq_some_iff.mp hx
      exact ⟨rfl, _, rfl, y, rfl, k H4 (Same.refl _)⟩
    · refine ⟨D0, _, rfl, SqL.of e5, ?_⟩
      show Q (.bl _) H5
      rw [trues_all]
      exact q H5 S5
end
end S1

set_option Elab.async false
set_option linter.all false
set_option maxRecDepth 100000
set_option maxHeartbeats 4000000
/-! sights, owns, clauses of a saying: told to be such -/
namespace S1
open PySem PySem.W PySem.Spec PyProof.Rows L2
/-- a def is there, and is as promised -/
def Good (P : Program) (w : World) (K : PySem.W.Frag) (mg : Str → Option Value) (base : Heap) (k : Nat) (x : Str) (st : Stmt) (ps : List Str) (sp : Sp) : Prop :=
  ∃ (f : Addr) (fd : FuncData), Has K mg x st ps f fd ∧ FnOk P w K mg base CX0 k f fd ps sp
/-- a def is there -/
def There (K : PySem.W.Frag) (mg : Str → Option Value) (x : Str) (st : Stmt) (ps : List Str) : Prop := ∃ (f : Addr) (fd : FuncData), Has K mg x st ps f fd
structure Shp (K : PySem.W.Frag) (mg : Str → Option Value) : Prop where
  isTruth : There K mg "is_truth" sIsTruth ["value"]
  isTuple : There K mg "is_tuple" sIsTuple ["value", "most"]
  isPair : There K mg "is_pair" sIsPair ["value"]
  isRising : There K mg "is_rising" sIsRising ["parts"]
  isName : There K mg "is_name" sIsName ["value"]
  isLetter : There K mg "is_letter" sIsLetter ["value"]
  isAnyClause : There K mg "is_any_clause" sIsAnyClause ["value"]
  areNames : There K mg "are_names" sAreNames ["value", "most"]
  isSight : There K mg "is_sight" sIsSight ["value", "picks"]
  isOwn : There K mg "is_own" sIsOwn ["value", "picks"]
  areOwns : There K mg "are_owns" sAreOwns ["value", "picks"]
  isClauseOver : There K mg "is_clause_over" sIsClauseOver ["value", "names"]
  areClauses : There K mg "are_clauses" sAreClauses ["value", "names"]
  namesOf : There K mg "names_of" sNamesOf ["picks", "owns"]
  fitsSaying : There K mg "fits_saying" sFitsSaying ["value"]
  areTruths : There K mg "are_truths" sAreTruths ["value", "many"]
  fitsPlay : There K mg "fits_play" sFitsPlay ["saying", "value"]
/-- all that the text is made of, as far as these defs go -/
structure Env1 (K : PySem.W.Frag) (mg : Str → Option Value) : Prop where
  B : Blt mg
  C : Cst mg
  Y : Shp K mg
def spIsSight : Sp := fun vs H Q _ => ∃ (v u : V) (s ps : List Str), vs = [v, u] ∧ Dat H v (nmsD s) ∧ Dat H u (nmsD ps) ∧ s.Pairwise tlt ∧ (∀ x ∈ s, Nm x) ∧ (∀ x ∈ s, x ∈ ps) ∧ s.length ≤ ps.length ∧ ps.length ≤ 1000 ∧ ∀ H', Same H H' → Q (.bl true) H'
def spIsOwn : Sp := fun vs H Q _ => ∃ (v u : V) (o : Own) (ps : List Str), vs = [v, u] ∧ Dat H v (ownD o) ∧ Dat H u (nmsD ps) ∧ Nm o.1 ∧ o.1 ∉ ps ∧ o.2.Pairwise tlt ∧ (∀ x ∈ o.2, Nm x) ∧ (∀ x ∈ o.2, x ∈ ps) ∧ o.2.length ≤ ps.length ∧ ps.length ≤ 1000 ∧ ∀ H', Same H H' → Q (.bl true) H'
section
variable {P : Program} {w : World} {K : PySem.W.Frag} {mg : Str → Option Value} {base : Heap}
theorem g_isTruth (e : Env1 K mg) : Good P w K mg base 1 "is_truth" sIsTruth ["value"] spIsTruth := by
  obtain ⟨f, fd, h⟩ := e.Y.isTruth
  exact ⟨f, fd, h, ok_isTruth h.F⟩
theorem g_isTuple (e : Env1 K mg) : Good P w K mg base 1 "is_tuple" sIsTuple ["value", "most"] spIsTuple := by
  obtain ⟨f, fd, h⟩ := e.Y.isTuple
  exact ⟨f, fd, h, ok_isTuple h.F e.B⟩
theorem g_isPair (e : Env1 K mg) : Good P w K mg base 1 "is_pair" sIsPair ["value"] spIsPair := by
  obtain ⟨f, fd, h⟩ := e.Y.isPair
  exact ⟨f, fd, h, ok_isPair h.F e.B⟩
theorem g_isRising (e : Env1 K mg) : Good P w K mg base 1 "is_rising" sIsRising ["parts"] (spIsRising K) := by
  obtain ⟨f, fd, h⟩ := e.Y.isRising
  exact ⟨f, fd, h, ok_isRising h.F e.B⟩
theorem g_isName (e : Env1 K mg) : Good P w K mg base 1 "is_name" sIsName ["value"] spIsName := by
  obtain ⟨f, fd, h⟩ := e.Y.isName
  exact ⟨f, fd, h, ok_isName h.F e.B e.C⟩
theorem g_isLetter (e : Env1 K mg) : Good P w K mg base 2 "is_letter" sIsLetter ["value"] spIsLetter := by
  obtain ⟨f, fd, h⟩ := e.Y.isLetter
  obtain ⟨_, _, h1⟩ := e.Y.isPair
  obtain ⟨_, _, h2⟩ := e.Y.isName
  obtain ⟨_, _, h3⟩ := e.Y.isTruth
  exact ⟨f, fd, h, ok_isLetter h.F h1 h2 h3 e.B e.C⟩
theorem g_isAnyClause (e : Env1 K mg) : Good P w K mg base 3 "is_any_clause" sIsAnyClause ["value"] spIsAnyClause := by
  obtain ⟨f, fd, h⟩ := e.Y.isAnyClause
  obtain ⟨_, _, h1, g1⟩ := g_isLetter (P := P) (w := w) (base := base) e
  obtain ⟨_, _, h2⟩ := e.Y.isRising
  exact ⟨f, fd, h, ok_isAnyClause h.F h1 g1 h2 e.B⟩
theorem g_areNames (e : Env1 K mg) : Good P w K mg base 2 "are_names" sAreNames ["value", "most"] spAreNames := by
  obtain ⟨f, fd, h⟩ := e.Y.areNames
  obtain ⟨_, _, h1⟩ := e.Y.isTuple
  obtain ⟨_, _, h2⟩ := e.Y.isName
  obtain ⟨_, _, h3⟩ := e.Y.isRising
  exact ⟨f, fd, h, ok_areNames h.F h1 h2 h3 e.B e.C⟩
theorem g_areTruths (e : Env1 K mg) : Good P w K mg base 2 "are_truths" sAreTruths ["value", "many"] spAreTruths := by
  obtain ⟨f, fd, h⟩ := e.Y.areTruths
  obtain ⟨_, _, h1⟩ := e.Y.isTruth
  exact ⟨f, fd, h, ok_areTruths h.F h1 e.B⟩
theorem scIsSight : FnScope ["value", "picks", "name"] ["value", "picks"] (defScope sIsSight) := ⟨rfl, rfl, rfl, by decide +kernel, rfl, by decide +kernel, by decide +kernel⟩
theorem scIsOwn : FnScope ["value", "picks"] ["value", "picks"] (defScope sIsOwn) := ⟨rfl, rfl, rfl, by decide +kernel, rfl, by decide +kernel, by decide +kernel⟩
theorem g_isSight (e : Env1 K mg) : Good P w K mg base 3 "is_sight" sIsSight ["value", "picks"] spIsSight := by
  obtain ⟨f, fd, h⟩ := e.Y.isSight
  obtain ⟨fA, fdA, An, GA⟩ := g_areNames (P := P) (w := w) (base := base) e
  refine ⟨f, fd, h, ?_⟩
  refine h.F.ok scIsSight (fun vs H Q E h => ?_) (fun cdv A outer s H vs Q E hr h => ?_)
  · obtain ⟨v, u, s, ps, rfl, _⟩ := h
    rfl
  · obtain ⟨v, u, s, ps, rfl, D, Dp, up, nm, sub, le, len, q⟩ := h
    refine ⟨_, pss_one (ps_ret (pe_and (pe_call GA hr rfl An.g An.F.kp An.b .nil pass0 (pa_cons (pv 0) (pa_cons (pe_callB call_len_seq (by rfl) e.B.len (by decide +kernel) (pa_cons (pv 1) pa_nil)) pa_nil)))
      (pe_one (pe_callB (cr_all rfl) (by rfl) e.B.all (by decide +kernel) (pa_cons (pe_lc (own := [("name", 2)]) (g := gName 2) (tt := tYes) (te := tOp (rIn K false) (tVar 2) (tVar 1)) rfl scIsSight.nd (pi_tup (pv 0))
        (blkOk_by (N := ["value", "picks", "name"]) (sc := defScope sIsSight) (by decide +kernel)) (fun _ _ _ _ _ => pg_name (i := 2) scIsSight.nd rfl (Or.inl rfl)) (fun _ _ _ _ _ => pts_nil)
        (fun _ _ _ _ _ => by exact pe_cmpR op_in_seq (pv 2) (pv 1) (by with_unfolding_all rfl))) pa_nil))))), ?_⟩
    obtain ⟨a, us, rfl, ea, Da⟩ := dat_tup (ds := s.map PyData.str) D
    cases dats_strs_eq Da
    obtain ⟨b, ups, rfl, eb, Db⟩ := dat_tup (ds := ps.map PyData.str) Dp
    cases dats_strs_eq Db
    refine ⟨_, rfl, _, rfl, _, _, rfl, .inr (SqT.of eb), .ref a, s, _, rfl, D, up, nm, by rw [List.length_map]; omega, by omega, fun H' S => ⟨true, rfl, ?_⟩⟩
    show if true = true then _ else _
    rw [if_pos rfl]
    refine ⟨_, rfl, a, rfl, ⟨_, SqT.of (S _ _ ea)⟩, fun D0 hD0 => lc_allT (K := K) (SqT.of (S _ _ ea)) hD0 (by rw [List.length_map]; omega) (fun i x H4 Qe hx S4 k => ?_) gName_mono (fun H5 e5 S5 => ?_)⟩
    · rw [List.getElem?_map] at hx
      obtain ⟨y, hy, rfl⟩ := Option.map_eq_some_iff.mp hx
      refine ⟨rfl, _, rfl, _, rfl, b, _, rfl, .inr (SqT.of (S4 _ _ (S _ _ eb))), rfl, flat_strs ps, ?_⟩
      show Qe (.bl (inV (V.str y) (ps.map V.str))) H4
      rw [inV_str, decide_eq_true (sub y (List.mem_of_getElem? hy))]
      exact k H4 (Same.refl _)
    · refine ⟨D0, _, rfl, SqL.of e5, ?_⟩
      show Q (.bl _) H5
      rw [trues_all]
      exact q H5 (S.trans S5)
theorem g_isOwn (e : Env1 K mg) : Good P w K mg base 4 "is_own" sIsOwn ["value", "picks"] spIsOwn := by
  obtain ⟨f, fd, h⟩ := e.Y.isOwn
  obtain ⟨fP, fdP, Pr, GP⟩ := g_isPair (P := P) (w := w) (base := base) e
  obtain ⟨fN, fdN, Nn, GN⟩ := g_isName (P := P) (w := w) (base := base) e
  obtain ⟨fS, fdS, Si, GS⟩ := g_isSight (P := P) (w := w) (base := base) e
  refine ⟨f, fd, h, ?_⟩
  refine h.F.ok scIsOwn (fun vs H Q E h => ?_) (fun cdv A outer s H vs Q E hr h => ?_)
  · obtain ⟨v, u, o, ps, rfl, _⟩ := h
    rfl
  · obtain ⟨v, u, o, ps, rfl, D, Dp, no, out, up, nm, sub, le, len, q⟩ := h
    have hr1 := hr.mono (show 1 ≤ 3 by decide)
    refine ⟨_, pss_cons (ps_if (PW.pt (pw_or (pt_not (pt_val (pe_call GP hr1 rfl Pr.g Pr.F.kp Pr.b .nil pass0 (pa_cons (pv 0) pa_nil)))) (pw_or (pt_not (pt_val (pe_call GN hr1 rfl Nn.g Nn.F.kp Nn.b .nil pass0 (pa_cons (pe_ix ix_tup (pv 0) pe_int (fun _ _ => rfl)) pa_nil))))
        (pw_or1 (pt_cmpR op_in_seq (pe_ix ix_tup (pv 0) pe_int (fun _ _ => rfl)) (pv 1) (by with_unfolding_all rfl)))))) (pss_one (ps_ret pe_bl)) pss_nil)
      (pss_one (ps_ret (pe_call GS hr rfl Si.g Si.F.kp Si.b .nil pass0 (pa_cons (pe_ix ix_tup (pv 0) pe_int (fun _ _ => rfl)) (pa_cons (pv 1) pa_nil))))), ?_⟩
    obtain ⟨a, us, rfl, ea, Da⟩ := dat_tup (ds := [.str o.1, nmsD o.2]) D
    cases Da with
    | @cons v1 d1 _ _ h1 Da =>
      cases h1
      cases Da with
      | @cons v2 d2 _ _ h2 Da =>
        cases Da
        obtain ⟨b, ups, rfl, eb, Db⟩ := dat_tup (ds := ps.map PyData.str) Dp
        cases dats_strs_eq Db
        refine ⟨_, rfl, a, _, _, rfl, ea, true, rfl, ?_⟩
        show if (!true) = true then _ else _
        rw [if_neg (by decide)]
        refine ⟨_, rfl, a, _, 0, _, rfl, rfl, SqT.of ea, rfl, o.1, rfl, no, fun H' S => ⟨true, rfl, ?_⟩⟩
        show if (!true) = true then _ else _
        rw [if_neg (by decide)]
        refine ⟨_, rfl, a, _, 0, _, rfl, rfl, SqT.of (S _ _ ea), rfl, _, rfl, b, _, rfl, .inr (SqT.of (S _ _ eb)), rfl, flat_strs ps, _, rfl, ?_⟩
        show if inV (V.str o.1) (ps.map V.str) = true then _ else _
        rw [inV_str, decide_eq_false out, if_neg (by decide)]
        exact ⟨_, rfl, a, _, 1, _, rfl, rfl, SqT.of (S _ _ ea), rfl, _, rfl, v2, .ref b, o.2, ps, rfl, h2.same S, Dp.same S, up, nm, sub, le, len, fun H2 S2 => q H2 (S.trans S2)⟩
end
end S1

set_option Elab.async false
set_option linter.all false
set_option maxRecDepth 100000
set_option maxHeartbeats 4000000
/-! sayings told to be such -/
namespace S1
open PySem PySem.W PySem.Spec PyProof.Rows L2
theorem tlt_irrefl (x : Str) : ¬ tlt x x := fun h => by
  have z := dataLt_irrefl (.str x)
  rw [dataLt_str, decide_eq_false_iff_not] at z
  exact z h
theorem nodup_tlt {xs : List Str} (h : xs.Pairwise tlt) : xs.Nodup := List.Pairwise.imp (fun {a b} z => fun e : a = b => tlt_irrefl b (by rw [e] at z; exact z)) h
abbrev sizeI (o : Own) : Int := 1 * 2 ^ ((o.2.map V.str).length : Int).toNat
theorem sizes_sum (os : List Own) : (os.map sizeI).sum = (copies os : Int) := by
  induction os with
  | nil => rfl
  | cons o os ih =>
    rw [List.map_cons, List.sum_cons, ih]
    show (1 : Int) * 2 ^ ((o.2.map V.str).length : Int).toNat + (copies os : Int) = ((2 ^ o.2.length + copies os : Nat) : Int)
    rw [List.length_map, Int.toNat_natCast, Int.one_mul]
    push_cast
    rfl
theorem cl_len {ns : List Str} {cl : List Ltr} (h : ClOk ns cl) : cl.length ≤ ns.length := by
  have nd : (cl.map Prod.fst).Nodup := nodup_tlt (List.pairwise_map.mpr h.up)
  have z := nodup_le nd fun x hx => by
    obtain ⟨l, hl, rfl⟩ := List.mem_map.mp hx
    exact h.mem l hl
  rwa [List.length_map] at z
/-- an own of a saying with these picks -/
structure OwnOk (ps : List Str) (o : Own) : Prop where
  n : Nm o.1
  out : o.1 ∉ ps
  up : o.2.Pairwise tlt
  nm : ∀ x ∈ o.2, Nm x
  sub : ∀ x ∈ o.2, x ∈ ps
  le : o.2.length ≤ ps.length
theorem SayOk.own {a b c d : Nat} {s : Say} (h : SayOk a b c d s) {o : Own} (ho : o ∈ s.owns) : OwnOk s.picks o := by
  obtain ⟨h1, h2, h3, h4⟩ := h.on o ho
  exact ⟨h1, h2, h3, fun x hx => h.pn x (h4 x hx), h4, nodup_le (nodup_tlt h3) h4⟩
def spAreOwns : Sp := fun vs H Q _ => ∃ (v u : V) (os : List Own) (ps : List Str), vs = [v, u] ∧ DatO H v os ∧ Dat H u (nmsD ps) ∧ (∀ o ∈ os, OwnOk ps o) ∧ (os.Pairwise fun x y => tlt x.1 y.1) ∧ os.length ≤ 8 ∧ copies os ≤ 120 ∧ ps.length ≤ 1000 ∧ ∀ H', Same H H' → Q (.bl true) H'
def spIsClauseOver : Sp := fun vs H Q _ => ∃ (v : V) (b : Addr) (cl : List Ltr) (ns : List Str), vs = [v, .ref b] ∧ Dat H v (clD cl) ∧ H b = some (.lst (ns.map V.str)) ∧ ClOk ns cl ∧ (∀ x ∈ ns, Nm x) ∧ ns.length ≤ 1000 ∧ ∀ H', Same H H' → Q (.bl true) H'
def spAreClauses : Sp := fun vs H Q _ => ∃ (v : V) (b : Addr) (cls : List (List Ltr)) (ns : List Str), vs = [v, .ref b] ∧ Dat H v (.tuple (cls.map clD)) ∧ H b = some (.lst (ns.map V.str)) ∧ (∀ cl ∈ cls, ClOk ns cl) ∧ (∀ x ∈ ns, Nm x) ∧ ns.length ≤ 1000 ∧
  cls.length ≤ 40 ∧ (cls.Pairwise fun x y => dataLt (clD x) (clD y) = true) ∧ ∀ H', Same H H' → Q (.bl true) H'
def spNamesOf : Sp := fun vs H Q _ => ∃ (u v : V) (ps : List Str) (os : List Own), vs = [u, v] ∧ Dat H u (nmsD ps) ∧ DatO H v os ∧ ps.length ≤ 500 ∧ os.length ≤ 500 ∧ ∀ (l : Addr) (H' : Hp), Same H H' → H l = none → H' l = some (.lst ((ps ++ os.map Prod.fst).map V.str)) → Q (.ref l) H'
section
variable {P : Program} {w : World} {K : PySem.W.Frag} {mg : Str → Option Value} {base : Heap}
theorem scAreOwns : FnScope ["value", "picks", "part", "own"] ["value", "picks"] (defScope sAreOwns) := ⟨rfl, rfl, rfl, by decide +kernel, rfl, by decide +kernel, by decide +kernel⟩
theorem scIsClauseOver : FnScope ["value", "names", "letter"] ["value", "names"] (defScope sIsClauseOver) := ⟨rfl, rfl, rfl, by decide +kernel, rfl, by decide +kernel, by decide +kernel⟩
theorem scAreClauses : FnScope ["value", "names", "part"] ["value", "names"] (defScope sAreClauses) := ⟨rfl, rfl, rfl, by decide +kernel, rfl, by decide +kernel, by decide +kernel⟩
theorem scNamesOf : FnScope ["picks", "owns", "own"] ["picks", "owns"] (defScope sNamesOf) := ⟨rfl, rfl, rfl, by decide +kernel, rfl, by decide +kernel, by decide +kernel⟩
theorem g_areOwns (e : Env1 K mg) : Good P w K mg base 5 "are_owns" sAreOwns ["value", "picks"] spAreOwns := by
  obtain ⟨f, fd, h⟩ := e.Y.areOwns
  obtain ⟨fU, fdU, Tu, GU⟩ := g_isTuple (P := P) (w := w) (base := base) e
  obtain ⟨fO, fdO, Ow, GO⟩ := g_isOwn (P := P) (w := w) (base := base) e
  obtain ⟨fR, fdR, Ri, GR⟩ := g_isRising (P := P) (w := w) (base := base) e
  obtain ⟨t1, c1⟩ := e.C.owns
  obtain ⟨t2, c2⟩ := e.C.copies
  refine ⟨f, fd, h, ?_⟩
  refine h.F.ok scAreOwns (fun vs H Q E h => ?_) (fun cdv A outer s H vs Q E hr h => ?_)
  · obtain ⟨v, u, os, ps, rfl, _⟩ := h
    rfl
  · obtain ⟨v, u, os, ps, rfl, D, Dp, good, up, len, cop, lp, q⟩ := h
    have hr1 := hr.mono (show 1 ≤ 4 by decide)
    refine ⟨_, pss_cons (ps_if (PW.pt (pw_or (pt_not (pt_val (pe_call GU hr1 rfl Tu.g Tu.F.kp Tu.b .nil pass0 (pa_cons (pv 0) (pa_cons (pe_glob (v := V.int 8) rfl c1 ⟨_, rfl⟩) pa_nil)))))
        (pw_or1 (pt_not (pt_val (pe_callB (cr_all rfl) (by rfl) e.B.all (by decide +kernel) (pa_cons (pe_lc (own := [("part", 2)]) (g := gName 2) (tt := tYes) rfl scAreOwns.nd (pi_tup (pv 0))
          (blkOk_by (N := ["value", "picks", "part", "own"]) (sc := defScope sAreOwns) (by decide +kernel)) (fun _ _ _ _ _ => pg_name (i := 2) scAreOwns.nd rfl (Or.inl rfl)) (fun _ _ _ _ _ => pts_nil)
          (fun _ _ _ _ _ => pe_call GO (by exact hr) (by rfl) Ow.g Ow.F.kp Ow.b .nil pass0 (pa_cons (pv 2) (pa_cons (pv 1) pa_nil)))) pa_nil))))))) (pss_one (ps_ret pe_bl)) pss_nil)
      (pss_cons (ps_if (pt_not (pt_val (pe_call GR hr1 rfl Ri.g Ri.F.kp Ri.b .nil pass0 (pa_cons (pe_lc (own := [("own", 3)]) (g := gName 3) (tt := tYes) (te := tOp (rIxT K) (tVar 3) (tC (V.int 0))) rfl scAreOwns.nd (pi_tup (pv 0))
          (blkOk_by (N := ["value", "picks", "part", "own"]) (sc := defScope sAreOwns) (by decide +kernel)) (fun _ _ _ _ _ => pg_name (i := 3) scAreOwns.nd rfl (Or.inl rfl)) (fun _ _ _ _ _ => pts_nil)
          (fun _ _ _ _ _ => by exact pe_ix ix_tup (pv 3) pe_int (fun _ _ => rfl))) pa_nil)))) (pss_one (ps_ret pe_bl)) pss_nil)
      (pss_one (ps_ret (pe_cmpR op_le (pe_callB (cr_sum rfl) (by rfl) e.B.sum (by decide +kernel) (pa_cons (pe_lc (own := [("own", 3)]) (g := gName 3) (tt := tYes)
            (te := tOp (rI CPow fun i j => V.int (i * 2 ^ j.toNat)) (tC (V.int 1)) (tCB (fun xs H Q => ∃ p ys, xs = [V.ref p] ∧ (SqL K H p ys ∨ SqT K H p ys) ∧ Q (V.int ys.length) H) (tCons (tOp (rIxT K) (tVar 3) (tC (V.int 1))) tNil))) rfl scAreOwns.nd (pi_tup (pv 0))
          (blkOk_by (N := ["value", "picks", "part", "own"]) (sc := defScope sAreOwns) (by decide +kernel)) (fun _ _ _ _ _ => pg_name (i := 3) scAreOwns.nd rfl (Or.inl rfl)) (fun _ _ _ _ _ => pts_nil)
          (fun _ _ _ _ _ => by exact pe_op op_shl pe_int (pe_callB call_len_seq (by rfl) e.B.len (by decide +kernel) (pa_cons (pe_ix ix_tup (pv 3) pe_int (fun _ _ => rfl)) pa_nil)))) pa_nil)) (pe_glob (v := V.int 120) rfl c2 ⟨_, rfl⟩) (nomark _))))), ?_⟩
    obtain ⟨a, us, rfl, ea, Da⟩ := D
    have lu : us.length = os.length := by rw [Da.len, List.length_map]
    refine ⟨_, rfl, a, us, 8, rfl, ea.rd, by omega, true, rfl, ?_⟩
    show if (!true) = true then _ else _
    rw [if_neg (by decide)]
    refine ⟨_, rfl, a, rfl, ⟨_, FT.sq ea⟩, fun D0 hD0 => lc_allT (K := K) (FT.sq ea) hD0 (by omega) (fun i x H4 Qe hx S4 k => ?_) gName_mono (fun H5 e5 S5 => ?_)⟩
    · obtain ⟨d, hd, Dx⟩ := dats_get' Da i x hx
      obtain ⟨o, ho, rfl⟩ := get_map hd
      have g := good o (List.mem_of_getElem? ho)
      exact ⟨rfl, _, rfl, _, rfl, x, u, o, ps, rfl, Dx.same S4, Dp.same S4, g.n, g.out, g.up, g.nm, g.sub, g.le, lp, k⟩
    · refine ⟨D0, _, rfl, SqL.of e5, _, rfl, ?_⟩
      rw [trues_all]
      show if (!true) = true then _ else _
      rw [if_neg (by decide)]
      have names : ∀ {H4 : Hp} {x : V} {i : Nat}, Same H H4 → us[i]? = some x → ∃ (o : Own) (t t' : Addr), os[i]? = some o ∧ x = .ref t ∧ H4 t = some (.tup [.str o.1, .ref t']) ∧ H4 t' = some (.tup (o.2.map V.str)) := fun {H4 x i} S hx => by
        obtain ⟨d, hd, Dx⟩ := dats_get' Da i x hx
        obtain ⟨o, ho, rfl⟩ := get_map hd
        obtain ⟨t, rfl⟩ := tuple_ref (ds := [.str o.1, nmsD o.2]) Dx
        obtain ⟨t', g1, g2⟩ := own_row (q := (t, ownD o)) rfl Dx
        exact ⟨o, t, t', ho, rfl, S _ _ g1, S _ _ g2⟩
      refine ⟨_, rfl, a, rfl, ⟨_, FT.sq (FT.same ea S5)⟩, fun D1 hD1 => lc_mapT (K := K) (ys := (os.map Prod.fst).map V.str) (FT.sq (FT.same ea S5)) hD1 (by rw [List.length_map, List.length_map, lu]) (by omega) (fun i x y H4 Qe hx hy S4 k => ?_) gName_mono (fun H6 e6 S6 => ?_)⟩
      · obtain ⟨o, t, t', ho, rfl, g1, _⟩ := names (S5.trans S4) hx
        have ey : y = V.str o.1 := by
          rw [List.getElem?_map, List.getElem?_map, ho] at hy
          exact (Option.some.inj hy).symm
        rw [ey] at k
        exact ⟨rfl, _, rfl, t, _, 0, _, rfl, rfl, SqT.of g1, rfl, k H4 (Same.refl _)⟩
      · refine ⟨D1, _, _, rfl, .inl (SqL.of e6), dats_strs (os.map Prod.fst), rise_strs (List.pairwise_map.mpr up), by rw [List.length_map, List.length_map]; omega, fun H7 S7 => ⟨true, rfl, ?_⟩⟩
        show if (!true) = true then _ else _
        rw [if_neg (by decide)]
        have S8 := (S5.trans S6).trans S7
        refine ⟨_, rfl, a, rfl, ⟨_, FT.sq (FT.same ea S8)⟩, fun D2 hD2 => lc_mapT (K := K) (ys := (os.map sizeI).map V.int) (FT.sq (FT.same ea S8)) hD2 (by rw [List.length_map, List.length_map, lu]) (by omega) (fun i x y H4 Qe hx hy S4 k => ?_) gName_mono (fun H9 e9 S9 => ?_)⟩
        · obtain ⟨o, t, t', ho, rfl, g1, g2⟩ := names (S8.trans S4) hx
          have ey : y = V.int (sizeI o) := by
            rw [List.getElem?_map, List.getElem?_map, ho] at hy
            exact (Option.some.inj hy).symm
          rw [ey] at k
          have g := good o (List.mem_of_getElem? ho)
          have := g.le
          exact ⟨rfl, _, rfl, t, _, 1, _, rfl, rfl, SqT.of g1, rfl, t', _, rfl, .inr (SqT.of g2), _, _, rfl, rfl, ⟨by omega, by rw [List.length_map]; omega, by decide⟩, k H4 (Same.refl _)⟩
        · refine ⟨D2, _, rfl, SqL.of e9, _, _, rfl, rfl, ?_⟩
          rw [sizes_sum]
          show Q (.bl (decide ((copies os : Int) ≤ 120))) H9
          rw [decide_eq_true (by omega)]
          exact q H9 (S8.trans S9)
theorem g_isClauseOver (e : Env1 K mg) : Good P w K mg base 4 "is_clause_over" sIsClauseOver ["value", "names"] spIsClauseOver := by
  obtain ⟨f, fd, h⟩ := e.Y.isClauseOver
  obtain ⟨fA, fdA, An, GA⟩ := g_isAnyClause (P := P) (w := w) (base := base) e
  refine ⟨f, fd, h, ?_⟩
  refine h.F.ok scIsClauseOver (fun vs H Q E h => ?_) (fun cdv A outer s H vs Q E hr h => ?_)
  · obtain ⟨v, b, cl, ns, rfl, _⟩ := h
    rfl
  · obtain ⟨v, b, cl, ns, rfl, D, eb, ck, nm, len, q⟩ := h
    refine ⟨_, pss_one (ps_ret (pe_and (pe_call GA hr rfl An.g An.F.kp An.b .nil pass0 (pa_cons (pv 0) pa_nil))
      (pe_one (pe_callB (cr_all rfl) (by rfl) e.B.all (by decide +kernel) (pa_cons (pe_lc (own := [("letter", 2)]) (g := gName 2) (tt := tYes) (te := tOp (rIn K false) (tOp (rIxT K) (tVar 2) (tC (V.int 0))) (tVar 1)) rfl scIsClauseOver.nd (pi_tup (pv 0))
        (blkOk_by (N := ["value", "names", "letter"]) (sc := defScope sIsClauseOver) (by decide +kernel)) (fun _ _ _ _ _ => pg_name (i := 2) scIsClauseOver.nd rfl (Or.inl rfl)) (fun _ _ _ _ _ => pts_nil)
        (fun _ _ _ _ _ => by exact pe_cmpR op_in_seq (pe_ix ix_tup (pv 2) pe_int (fun _ _ => rfl)) (pv 1) (by with_unfolding_all rfl))) pa_nil))))), ?_⟩
    obtain ⟨a, us, rfl, ea, Da⟩ := dat_tup (ds := cl.map ltD) D
    have lu : us.length = cl.length := by rw [Da.len, List.length_map]
    have lc := cl_len ck
    refine ⟨_, rfl, .ref a, cl, rfl, D, ck.up, fun l hl => nm _ (ck.mem l hl), by omega, fun H' S => ⟨true, rfl, ?_⟩⟩
    show if true = true then _ else _
    rw [if_pos rfl]
    refine ⟨_, rfl, a, rfl, ⟨_, SqT.of (S _ _ ea)⟩, fun D0 hD0 => lc_allT (K := K) (SqT.of (S _ _ ea)) hD0 (by omega) (fun i x H4 Qe hx S4 k => ?_) gName_mono (fun H5 e5 S5 => ?_)⟩
    · obtain ⟨d, hd, Dx⟩ := dats_get' Da i x hx
      obtain ⟨l, hl, rfl⟩ := get_map hd
      obtain ⟨t, rfl, et⟩ := ltr_row Dx
      refine ⟨rfl, _, rfl, t, _, 0, _, rfl, rfl, SqT.of (S4 _ _ (S _ _ et)), rfl, _, rfl, b, _, rfl, .inl (SqL.of (S4 _ _ (S _ _ eb))), rfl, flat_strs ns, ?_⟩
      show Qe (.bl (inV (V.str l.1) (ns.map V.str))) H4
      rw [inV_str, decide_eq_true (ck.mem l (List.mem_of_getElem? hl))]
      exact k H4 (Same.refl _)
    · refine ⟨D0, _, rfl, SqL.of e5, ?_⟩
      show Q (.bl _) H5
      rw [trues_all]
      exact q H5 (S.trans S5)
theorem g_areClauses (e : Env1 K mg) : Good P w K mg base 5 "are_clauses" sAreClauses ["value", "names"] spAreClauses := by
  obtain ⟨f, fd, h⟩ := e.Y.areClauses
  obtain ⟨fU, fdU, Tu, GU⟩ := g_isTuple (P := P) (w := w) (base := base) e
  obtain ⟨fO, fdO, Ov, GO⟩ := g_isClauseOver (P := P) (w := w) (base := base) e
  obtain ⟨fR, fdR, Ri, GR⟩ := g_isRising (P := P) (w := w) (base := base) e
  obtain ⟨t1, c1⟩ := e.C.clauses
  refine ⟨f, fd, h, ?_⟩
  refine h.F.ok scAreClauses (fun vs H Q E h => ?_) (fun cdv A outer s H vs Q E hr h => ?_)
  · obtain ⟨v, b, cls, ns, rfl, _⟩ := h
    rfl
  · obtain ⟨v, b, cls, ns, rfl, D, eb, ck, nm, len, lcs, up, q⟩ := h
    have hr1 := hr.mono (show 1 ≤ 4 by decide)
    refine ⟨_, pss_cons (ps_if (pt_not (pt_val (pe_call GU hr1 rfl Tu.g Tu.F.kp Tu.b .nil pass0 (pa_cons (pv 0) (pa_cons (pe_glob (v := V.int 40) rfl c1 ⟨_, rfl⟩) pa_nil))))) (pss_one (ps_ret pe_bl)) pss_nil)
      (pss_one (ps_ret (pe_and (pe_callB (cr_all rfl) (by rfl) e.B.all (by decide +kernel) (pa_cons (pe_lc (own := [("part", 2)]) (g := gName 2) (tt := tYes) rfl scAreClauses.nd (pi_tup (pv 0))
          (blkOk_by (N := ["value", "names", "part"]) (sc := defScope sAreClauses) (by decide +kernel)) (fun _ _ _ _ _ => pg_name (i := 2) scAreClauses.nd rfl (Or.inl rfl)) (fun _ _ _ _ _ => pts_nil)
          (fun _ _ _ _ _ => pe_call GO (by exact hr) (by rfl) Ov.g Ov.F.kp Ov.b .nil pass0 (pa_cons (pv 2) (pa_cons (pv 1) pa_nil)))) pa_nil))
        (pe_one (pe_call GR hr1 rfl Ri.g Ri.F.kp Ri.b .nil pass0 (pa_cons (pv 0) pa_nil)))))), ?_⟩
    obtain ⟨a, us, rfl, ea, Da⟩ := dat_tup D
    have lu : us.length = cls.length := by rw [Da.len, List.length_map]
    refine ⟨_, rfl, a, us, 40, rfl, .inl ea, by omega, true, rfl, ?_⟩
    show if (!true) = true then _ else _
    rw [if_neg (by decide)]
    refine ⟨_, rfl, a, rfl, ⟨_, SqT.of ea⟩, fun D0 hD0 => lc_allT (K := K) (SqT.of ea) hD0 (by omega) (fun i x H4 Qe hx S4 k => ?_) gName_mono (fun H5 e5 S5 => ?_)⟩
    · obtain ⟨d, hd, Dx⟩ := dats_get' Da i x hx
      obtain ⟨cl, hcl, rfl⟩ := get_map hd
      exact ⟨rfl, _, rfl, _, rfl, x, b, cl, ns, rfl, Dx.same S4, S4 _ _ eb, ck cl (List.mem_of_getElem? hcl), nm, len, k⟩
    · refine ⟨D0, _, rfl, SqL.of e5, ?_⟩
      rw [trues_all]
      refine ⟨true, rfl, ?_⟩
      show if true = true then _ else _
      rw [if_pos rfl]
      exact ⟨_, rfl, a, us, _, rfl, .inr (SqT.of (S5 _ _ ea)), DatAll.same S5 Da, rise_of alike_cl (fun _ z => nomatch z) (fun x => by have := depth_cl x; omega) up, by rw [List.length_map]; omega, fun H' S => q H' (S5.trans S)⟩
theorem g_namesOf (e : Env1 K mg) : Good P w K mg base 1 "names_of" sNamesOf ["picks", "owns"] spNamesOf := by
  obtain ⟨f, fd, h⟩ := e.Y.namesOf
  refine ⟨f, fd, h, ?_⟩
  refine h.F.ok scNamesOf (fun vs H Q E h => ?_) (fun cdv A outer s H vs Q E hr h => ?_)
  · obtain ⟨u, v, ps, os, rfl, _⟩ := h
    rfl
  · obtain ⟨u, v, ps, os, rfl, Dp, D, lp, lo, q⟩ := h
    refine ⟨_, pss_one (ps_ret (pe_op op_cat (pe_callTy call_list_of (by rfl) e.B.list (by decide +kernel) (pa_cons (pv 0) pa_nil)) (pe_lc (own := [("own", 2)]) (g := gName 2) (tt := tYes) (te := tOp (rIxT K) (tVar 2) (tC (V.int 0))) rfl scNamesOf.nd (pi_tup (pv 1))
          (blkOk_by (N := ["picks", "owns", "own"]) (sc := defScope sNamesOf) (by decide +kernel)) (fun _ _ _ _ _ => pg_name (i := 2) scNamesOf.nd rfl (Or.inl rfl)) (fun _ _ _ _ _ => pts_nil)
          (fun _ _ _ _ _ => by exact pe_ix ix_tup (pv 2) pe_int (fun _ _ => rfl))))), ?_⟩
    obtain ⟨b, ups, rfl, eb, Db⟩ := dat_tup (ds := ps.map PyData.str) Dp
    cases dats_strs_eq Db
    obtain ⟨a, us, rfl, ea, Da⟩ := D
    have lu : us.length = os.length := by rw [Da.len, List.length_map]
    refine ⟨_, rfl, b, _, rfl, .inr (SqT.of eb), fun l1 hl1 => ?_⟩
    have S1 : Same H (upd H l1 (.lst (ps.map V.str))) := same_new hl1
    have e1 : upd H l1 (.lst (ps.map V.str)) l1 = some (.lst (ps.map V.str)) := upd_same
    generalize upd H l1 (.lst (ps.map V.str)) = H1 at S1 e1 ⊢
    refine ⟨_, rfl, a, rfl, ⟨_, FT.sq (FT.same ea S1)⟩, fun D1 hD1 => lc_mapT (K := K) (ys := (os.map Prod.fst).map V.str) (FT.sq (FT.same ea S1)) hD1 (by rw [List.length_map, List.length_map, lu]) (by omega) (fun i x y H4 Qe hx hy S4 k => ?_) gName_mono (fun H6 e6 S6 => ?_)⟩
    · obtain ⟨d, hd, Dx⟩ := dats_get' Da i x hx
      obtain ⟨o, ho, rfl⟩ := get_map hd
      obtain ⟨t, rfl⟩ := tuple_ref (ds := [.str o.1, nmsD o.2]) Dx
      obtain ⟨t', g1, _⟩ := own_row (q := (t, ownD o)) rfl Dx
      have ey : y = V.str o.1 := by
        rw [List.getElem?_map, List.getElem?_map, ho] at hy
        exact (Option.some.inj hy).symm
      rw [ey] at k
      exact ⟨rfl, _, rfl, t, _, 0, _, rfl, rfl, SqT.of (S4 _ _ (S1 _ _ g1)), rfl, k H4 (Same.refl _)⟩
    · refine ⟨_, _, _, _, rfl, rfl, S6 _ _ e1, e6, ?_, fun l hl => ?_⟩
      · rw [List.length_map, List.length_map, List.length_map]
        exact Nat.le_of_lt (small1000 (by omega))
      · exact q l _ ((S1.trans S6).trans (same_new hl)) ((S1.trans S6).free hl) (by rw [upd_same, List.map_append])
end
end S1

set_option Elab.async false
set_option linter.all false
set_option maxRecDepth 100000
set_option maxHeartbeats 4000000
/-! good arguments are let by -/
namespace S1
open PySem PySem.W PySem.Spec PyProof.Rows L2
section
variable {X : Cx}
/-- if c: ..., where c is known to be False -/
def tIfNo (tc : TT) (u : TS) : TS := fun D σ H => tc σ H fun b H1 => b = false ∧ u D σ H1
theorem ps_ifNo {c : Expr} {p q : List Stmt} {tc : TT} {u : TS} {pos : Pos} (hc : PT X c tc) (hb : PSs X q u) : PS X (.If c p q pos) (tIfNo tc u) := by
  refine ⟨fun pins s σ H D I h => ?_⟩
  refine wpAny_If (thn (hc.run pins s σ H _ I h) fun k s1 ⟨H1, I1, e, q1⟩ => ?_)
  subst e
  exact hb.run pins s1 σ H1 D I1 q1
end
def spFitsSaying : Sp := fun vs H Q _ => ∃ (v : V) (s : Say), vs = [v] ∧ DatS H v s ∧ SayOk 6 8 120 40 s ∧ ∀ H', Same H H' → Q (.bl true) H'
def spFitsClause : Sp := fun vs H Q _ => ∃ (v u : V) (s : Say) (cl : List Ltr), vs = [v, u] ∧ DatS H v s ∧ Dat H u (clD cl) ∧ SayOk 6 8 120 40 s ∧ ClOk s.names cl ∧ ∀ H', Same H H' → Q (.bl true) H'
def spFitsPlay : Sp := fun vs H Q _ => ∃ (v u : V) (s : Say) (bs : List Bool), vs = [v, u] ∧ DatS H v s ∧ Dat H u (blsD bs) ∧ SayOk 6 8 120 40 s ∧ bs.length = s.picks.length ∧ ∀ H', Same H H' → Q (.bl true) H'
theorem say_row {H : Hp} {v : V} {s : Say} (D : DatS H v s) : ∃ a p o c, v = .ref a ∧ H a = some (.tup [p, o, c]) ∧ Dat H p (nmsD s.picks) ∧ DatO H o s.owns ∧ Dat H c (.tuple (s.cls.map clD)) := D
theorem SayOk.nm {a b c d : Nat} {s : Say} (h : SayOk a b c d s) : ∀ x ∈ s.names, Nm x := fun x hx => by
  rcases List.mem_append.mp hx with y | y
  · exact h.pn x y
  · obtain ⟨o, ho, rfl⟩ := List.mem_map.mp y
    exact (h.on o ho).1
theorem SayOk.nlen {s : Say} (h : SayOk 6 8 120 40 s) : s.names.length ≤ 14 := by
  have h1 := h.pl
  have h2 := h.ol
  show (s.picks ++ s.owns.map Prod.fst).length ≤ 14
  rw [List.length_append, List.length_map]
  omega
section
variable {P : Program} {w : World} {K : PySem.W.Frag} {mg : Str → Option Value} {base : Heap}
theorem scFitsSaying : FnScope ["value", "picks", "owns", "clauses"] ["value"] (defScope sFitsSaying) := ⟨rfl, rfl, rfl, by decide +kernel, rfl, by decide +kernel, by decide +kernel⟩
theorem scFitsPlay : FnScope ["saying", "value"] ["saying", "value"] (defScope sFitsPlay) := ⟨rfl, rfl, rfl, by decide +kernel, rfl, by decide +kernel, by decide +kernel⟩
theorem g_fitsSaying (e : Env1 K mg) : Good P w K mg base 6 "fits_saying" sFitsSaying ["value"] spFitsSaying := by
  obtain ⟨f, fd, h⟩ := e.Y.fitsSaying
  obtain ⟨fA, fdA, An, GA⟩ := g_areNames (P := P) (w := w) (base := base) e
  obtain ⟨fO, fdO, Ow, GO⟩ := g_areOwns (P := P) (w := w) (base := base) e
  obtain ⟨fC, fdC, Cl, GC⟩ := g_areClauses (P := P) (w := w) (base := base) e
  obtain ⟨fN, fdN, No, GN⟩ := g_namesOf (P := P) (w := w) (base := base) e
  obtain ⟨t1, c1⟩ := e.C.picks
  refine ⟨f, fd, h, ?_⟩
  refine h.F.ok scFitsSaying (fun vs H Q E h => ?_) (fun cdv A outer s H vs Q E hr h => ?_)
  · obtain ⟨v, sy, rfl, _⟩ := h
    rfl
  · obtain ⟨v, sy, rfl, D, ok, q⟩ := h
    have hr1 := hr.mono (show 1 ≤ 5 by decide)
    have hr2 := hr.mono (show 2 ≤ 5 by decide)
    refine ⟨_, pss_cons (ps_if (PW.pt (pw_or (pt_not (pt_val (pe_callB call_isi (by rfl) e.B.isi (by decide +kernel) (pa_cons (pv 0) (pa_cons (pe_bltn (v := V.ty "tuple") (by rfl) e.B.tuple (by decide +kernel) rfl) pa_nil)))))
        (pw_or1 (pt_cmpR op_ne (pe_callB call_len_seq (by rfl) e.B.len (by decide +kernel) (pa_cons (pv 0) pa_nil)) pe_int (nomark _))))) (pss_one (ps_ret pe_bl)) pss_nil)
      (pss_cons (ps_asg (pv 0) (pg_tup rfl (pgs_cons (pg_name (i := 1) scFitsSaying.nd rfl (.inl rfl)) (pgs_cons (pg_name (i := 2) scFitsSaying.nd rfl (.inl rfl)) (pgs_cons (pg_name (i := 3) scFitsSaying.nd rfl (.inl rfl)) pgs_nil)))))
      (pss_cons (ps_if (PW.pt (pw_or (pt_not (pt_val (pe_call GA hr2 rfl An.g An.F.kp An.b .nil pass0 (pa_cons (pv 1) (pa_cons (pe_glob (v := V.int 6) rfl c1 ⟨_, rfl⟩) pa_nil)))))
        (pw_or1 (pt_not (pt_val (pe_call GO hr rfl Ow.g Ow.F.kp Ow.b .nil pass0 (pa_cons (pv 2) (pa_cons (pv 1) pa_nil)))))))) (pss_one (ps_ret pe_bl)) pss_nil)
      (pss_one (ps_ret (pe_call GC hr rfl Cl.g Cl.F.kp Cl.b .nil pass0 (pa_cons (pv 3) (pa_cons (pe_call GN hr1 rfl No.g No.F.kp No.b .nil pass0 (pa_cons (pv 1) (pa_cons (pv 2) pa_nil))) pa_nil))))))), ?_⟩
    obtain ⟨a, p, o, c, rfl, ea, Dp, Do, Dc⟩ := say_row D
    refine ⟨_, rfl, _, _, _, _, true, rfl, .ty _, .base (.tup ea), kit_ty (by decide +kernel), true, rfl, ?_⟩
    show if (!true) = true then _ else _
    rw [if_neg (by decide)]
    refine ⟨_, rfl, _, _, rfl, .inr (SqT.of ea), rfl, _, rfl, iteNS rfl ?_⟩
    refine ⟨_, rfl, a, _, rfl, SqT.of ea, rfl, _, _, rfl, _, _, rfl, _, _, rfl, rfl, ?_⟩
    have lp := ok.pl
    have lo := ok.ol
    refine ⟨_, rfl, p, sy.picks, 6, rfl, Dp, ok.pu, ok.pn, by omega, by omega, fun H1 S1 => ⟨true, rfl, ?_⟩⟩
    show if (!true) = true then _ else _
    rw [if_neg (by decide)]
    refine ⟨_, rfl, _, rfl, o, p, sy.owns, sy.picks, rfl, Do.same S1, Dp.same S1, fun x hx => ok.own hx, ok.ou, lo, ok.oc, by omega, fun H2 S2 => ⟨true, rfl, ?_⟩⟩
    show if (!true) = true then _ else _
    rw [if_neg (by decide)]
    have S12 := S1.trans S2
    refine ⟨_, rfl, _, rfl, _, rfl, p, o, sy.picks, sy.owns, rfl, Dp.same S12, Do.same S12, by omega, by omega, fun l H3 S3 _ el => ?_⟩
    have S13 := S12.trans S3
    have nl := ok.nlen
    exact ⟨c, l, sy.cls, sy.names, rfl, Dc.same S13, el, ok.ck, ok.nm, by omega, ok.cl, ok.cu, fun H4 S4 => q H4 (S13.trans S4)⟩
theorem g_fitsPlay (e : Env1 K mg) : Good P w K mg base 3 "fits_play" sFitsPlay ["saying", "value"] spFitsPlay := by
  obtain ⟨f, fd, h⟩ := e.Y.fitsPlay
  obtain ⟨fT, fdT, Tr, GT⟩ := g_areTruths (P := P) (w := w) (base := base) e
  refine ⟨f, fd, h, ?_⟩
  refine h.F.ok scFitsPlay (fun vs H Q E h => ?_) (fun cdv A outer s H vs Q E hr h => ?_)
  · obtain ⟨v, u, sy, bs, rfl, _⟩ := h
    rfl
  · obtain ⟨v, u, sy, bs, rfl, D, Du, ok, len, q⟩ := h
    refine ⟨_, pss_one (ps_ret (pe_call GT hr rfl Tr.g Tr.F.kp Tr.b .nil pass0 (pa_cons (pv 1) (pa_cons (pe_callB call_len_seq (by rfl) e.B.len (by decide +kernel) (pa_cons (pe_ix ix_tup (pv 0) pe_int (fun _ _ => rfl)) pa_nil)) pa_nil)))), ?_⟩
    obtain ⟨a, p, o, c, rfl, ea, Dp, Do, Dc⟩ := say_row D
    obtain ⟨b, ups, rfl, eb, Db⟩ := dat_tup (ds := sy.picks.map PyData.str) Dp
    cases dats_strs_eq Db
    have lp := ok.pl
    exact ⟨_, rfl, _, rfl, a, _, 0, _, rfl, rfl, SqT.of ea, rfl, b, _, rfl, .inr (SqT.of eb), u, bs, by rw [List.length_map, len]; rfl, Du, by omega, q⟩
end
end S1

set_option Elab.async false
set_option linter.all false
set_option maxRecDepth 100000
set_option maxHeartbeats 4000000
/-! the checks ahead of each function let good arguments by -/
namespace S1
open PySem PySem.W PySem.Spec PyProof.Rows L2
structure Wnt (K : PySem.W.Frag) (mg : Str → Option Value) : Prop where
  saying : There K mg "want_saying" sWantSaying ["saying"]
  play : There K mg "want_play" sWantPlay ["saying", "play"]
  own : There K mg "want_own" sWantOwn ["saying", "name"]
def spWantSaying : Sp := fun vs H Q _ => ∃ (v : V) (s : Say), vs = [v] ∧ DatS H v s ∧ SayOk 6 8 120 40 s ∧ ∀ H', Same H H' → Q .non H'
def spWantClause : Sp := fun vs H Q _ => ∃ (v u : V) (s : Say) (cl : List Ltr), vs = [v, u] ∧ DatS H v s ∧ Dat H u (clD cl) ∧ SayOk 6 8 120 40 s ∧ ClOk s.names cl ∧ ∀ H', Same H H' → Q .non H'
def spWantPlay : Sp := fun vs H Q _ => ∃ (v u : V) (s : Say) (bs : List Bool), vs = [v, u] ∧ DatS H v s ∧ Dat H u (blsD bs) ∧ SayOk 6 8 120 40 s ∧ bs.length = s.picks.length ∧ ∀ H', Same H H' → Q .non H'
def spWantOwn : Sp := fun vs H Q _ => ∃ (v : V) (s : Say) (o : Own), vs = [v, .str o.1] ∧ DatS H v s ∧ SayOk 6 8 120 40 s ∧ o ∈ s.owns ∧ ∀ H', Same H H' → Q .non H'
section
variable {P : Program} {w : World} {K : PySem.W.Frag} {mg : Str → Option Value} {base : Heap}
theorem scWantSaying : FnScope ["saying"] ["saying"] (defScope sWantSaying) := ⟨rfl, rfl, rfl, by decide +kernel, rfl, by decide +kernel, by decide +kernel⟩
theorem scWantPlay : FnScope ["saying", "play"] ["saying", "play"] (defScope sWantPlay) := ⟨rfl, rfl, rfl, by decide +kernel, rfl, by decide +kernel, by decide +kernel⟩
theorem scWantOwn : FnScope ["saying", "name", "own"] ["saying", "name"] (defScope sWantOwn) := ⟨rfl, rfl, rfl, by decide +kernel, rfl, by decide +kernel, by decide +kernel⟩
theorem g_wantSaying (e : Env1 K mg) (Wn : Wnt K mg) : Good P w K mg base 7 "want_saying" sWantSaying ["saying"] spWantSaying := by
  obtain ⟨f, fd, h⟩ := Wn.saying
  obtain ⟨fA, fdA, An, GA⟩ := g_fitsSaying (P := P) (w := w) (base := base) e
  refine ⟨f, fd, h, ?_⟩
  refine h.F.ok scWantSaying (fun vs H Q E h => ?_) (fun cdv A outer s H vs Q E hr h => ?_)
  · obtain ⟨v, sy, rfl, _⟩ := h
    rfl
  · obtain ⟨v, sy, rfl, D, ok, q⟩ := h
    refine ⟨_, pss_one (ps_if (pt_not (pt_val (pe_call GA hr rfl An.g An.F.kp An.b .nil pass0 (pa_cons (pv 0) pa_nil)))) pss_never pss_nil), ?_⟩
    refine ⟨_, rfl, v, sy, rfl, D, ok, fun H' S => ⟨true, rfl, ?_⟩⟩
    show if (!true) = true then _ else _
    rw [if_neg (by decide)]
    exact q H' S
theorem g_wantPlay (e : Env1 K mg) (Wn : Wnt K mg) : Good P w K mg base 4 "want_play" sWantPlay ["saying", "play"] spWantPlay := by
  obtain ⟨f, fd, h⟩ := Wn.play
  obtain ⟨fA, fdA, An, GA⟩ := g_fitsPlay (P := P) (w := w) (base := base) e
  refine ⟨f, fd, h, ?_⟩
  refine h.F.ok scWantPlay (fun vs H Q E h => ?_) (fun cdv A outer s H vs Q E hr h => ?_)
  · obtain ⟨v, u, sy, bs, rfl, _⟩ := h
    rfl
  · obtain ⟨v, u, sy, bs, rfl, D, Du, ok, len, q⟩ := h
    refine ⟨_, pss_one (ps_if (pt_not (pt_val (pe_call GA hr rfl An.g An.F.kp An.b .nil pass0 (pa_cons (pv 0) (pa_cons (pv 1) pa_nil))))) pss_never pss_nil), ?_⟩
    refine ⟨_, rfl, _, rfl, v, u, sy, bs, rfl, D, Du, ok, len, fun H' S => ⟨true, rfl, ?_⟩⟩
    show if (!true) = true then _ else _
    rw [if_neg (by decide)]
    exact q H' S
theorem g_wantOwn (e : Env1 K mg) (Wn : Wnt K mg) : Good P w K mg base 2 "want_own" sWantOwn ["saying", "name"] spWantOwn := by
  obtain ⟨f, fd, h⟩ := Wn.own
  obtain ⟨fN, fdN, Nn, GN⟩ := g_isName (P := P) (w := w) (base := base) e
  refine ⟨f, fd, h, ?_⟩
  refine h.F.ok scWantOwn (fun vs H Q E h => ?_) (fun cdv A outer s H vs Q E hr h => ?_)
  · obtain ⟨v, sy, o, rfl, _⟩ := h
    rfl
  · obtain ⟨v, sy, o, rfl, D, ok, ho, q⟩ := h
    refine ⟨_, pss_one (ps_if (PW.pt (pw_or (pt_not (pt_val (pe_call GN hr rfl Nn.g Nn.F.kp Nn.b .nil pass0 (pa_cons (pv 1) pa_nil))))
      (pw_or1 (pt_cmpR op_notIn_seq (pv 1) (pe_lc (own := [("own", 2)]) (g := gName 2) (tt := tYes) (te := tOp (rIxT K) (tVar 2) (tC (V.int 0))) rfl scWantOwn.nd (pi_tup (pe_ix ix_tup (pv 0) pe_int (fun _ _ => rfl)))
          (blkOk_by (N := ["saying", "name", "own"]) (sc := defScope sWantOwn) (by decide +kernel)) (fun _ _ _ _ _ => pg_name (i := 2) scWantOwn.nd rfl (Or.inl rfl)) (fun _ _ _ _ _ => pts_nil)
          (fun _ _ _ _ _ => by exact pe_ix ix_tup (pv 2) pe_int (fun _ _ => rfl))) (by with_unfolding_all rfl))))) pss_never pss_nil), ?_⟩
    obtain ⟨a, p, ov, c, rfl, ea, Dp, Do, Dc⟩ := say_row D
    obtain ⟨b, us, rfl, eb, Db⟩ := Do
    have lu : us.length = sy.owns.length := by rw [Db.len, List.length_map]
    have lo := ok.ol
    refine ⟨_, rfl, o.1, rfl, (ok.own ho).n, fun H1 S1 => ⟨true, rfl, ?_⟩⟩
    show if (!true) = true then _ else _
    rw [if_neg (by decide)]
    refine ⟨_, rfl, _, rfl, a, _, 1, _, rfl, rfl, SqT.of (S1 _ _ ea), rfl, b, rfl, ⟨_, FT.sq (FT.same eb S1)⟩, fun D1 hD1 => lc_mapT (K := K) (ys := (sy.owns.map Prod.fst).map V.str) (FT.sq (FT.same eb S1)) hD1 (by rw [List.length_map, List.length_map, lu]) (by omega) (fun i x y H4 Qe hx hy S4 k => ?_) gName_mono (fun H6 e6 S6 => ?_)⟩
    · obtain ⟨d, hd, Dx⟩ := dats_get' Db i x hx
      obtain ⟨o', ho', rfl⟩ := get_map hd
      obtain ⟨t, rfl⟩ := tuple_ref (ds := [.str o'.1, nmsD o'.2]) Dx
      obtain ⟨t', g1, _⟩ := own_row (q := (t, ownD o')) rfl Dx
      have ey : y = V.str o'.1 := by
        rw [List.getElem?_map, List.getElem?_map, ho'] at hy
        exact (Option.some.inj hy).symm
      rw [ey] at k
      exact ⟨rfl, _, rfl, t, _, 0, _, rfl, rfl, SqT.of (S4 _ _ (S1 _ _ g1)), rfl, k H4 (Same.refl _)⟩
    · refine ⟨D1, _, rfl, .inl (SqL.of e6), rfl, flat_strs _, _, rfl, ?_⟩
      show if (!inV (V.str o.1) ((sy.owns.map Prod.fst).map V.str)) = true then _ else _
      rw [inV_str, decide_eq_true (List.mem_map_of_mem ho), if_neg (by decide)]
      exact q H6 (S1.trans S6)
end
end S1

set_option Elab.async false
set_option linter.all false
set_option maxRecDepth 100000
set_option maxHeartbeats 4000000
/-! all plays, as the law lists them -/
namespace S1
open PySem PySem.W PySem.Spec PyProof.Rows L2
def playsD : Nat → List (List Bool)
  | 0 => [[]]
  | n + 1 => (playsD n).flatMap fun p => [p ++ [false], p ++ [true]]
theorem plays_len : ∀ n, (playsD n).length = 2 ^ n
  | 0 => rfl
  | n + 1 => by
    have key : ∀ l : List (List Bool), (l.flatMap fun p => [p ++ [false], p ++ [true]]).length = 2 * l.length := by
      intro l
      induction l with
      | nil => rfl
      | cons x l ih =>
        rw [List.flatMap_cons, List.length_append, ih, List.length_cons]
        show 2 + 2 * l.length = 2 * (l.length + 1)
        omega
    rw [playsD, key, plays_len n, Nat.pow_succ]
    omega
theorem plays_bits : ∀ n, ∀ p ∈ playsD n, p.length = n
  | 0, p, h => by
    cases List.mem_singleton.mp h
    rfl
  | n + 1, p, h => by
    obtain ⟨x, hx, hp⟩ := List.mem_flatMap.mp h
    have := plays_bits n x hx
    rcases List.mem_cons.mp hp with rfl | hp
    · rw [List.length_append, this]; rfl
    · cases List.mem_singleton.mp hp
      rw [List.length_append, this]; rfl
/-- a list of rows, new -/
structure Rows (H H' : Hp) (l : Addr) (ds : List PyData) : Prop where
  S : Same H H'
  new : H l = none
  ex : ∃ T : List TRow, H' l = some (.lst (T.map TRow.v)) ∧ T.map Prod.snd = ds ∧ ∀ q ∈ T, Dat H' q.v q.2
def spLPlays : Sp := fun vs H Q _ => ∃ n : Nat, vs = [.int n] ∧ n ≤ 8 ∧ ∀ (l : Addr) (H' : Hp), Rows H H' l ((playsD n).map blsD) → Q (.ref l) H'
theorem bls_row {H : Hp} {x : V} {bs : List Bool} (D : Dat H x (blsD bs)) : ∃ t, x = .ref t ∧ H t = some (.tup (bs.map V.bl)) := by
  obtain ⟨t, xs, rfl, e, h⟩ := dat_tup (ds := bs.map PyData.bool) D
  cases dats_bls_eq h
  exact ⟨t, rfl, e⟩
theorem dats_bls {H : Hp} : ∀ bs : List Bool, DatAll H (bs.map V.bl) (bs.map PyData.bool)
  | [] => .nil
  | b :: bs => .cons (.bl b) (dats_bls bs)
theorem cat_bl {K : PySem.W.Frag} {H : Hp} {t t1 : Addr} {bs : List Bool} {c : Bool} {Q : VK} (e : H t = some (.tup (bs.map V.bl))) (e1 : H t1 = some (.tup [.bl c])) (len : bs.length ≤ 500)
    (q : ∀ r H', Same H H' → Dat H' (.ref r) (blsD (bs ++ [c])) → Q (.ref r) H') : rCatA K (.ref t) (.ref t1) H Q := by
  refine ⟨t, t1, _, _, rfl, rfl, SqT.of e, SqT.of e1, ?_, fun z => ?_, fun _ z => (nomatch z), fun _ _ p hp => ?_⟩
  · rw [List.length_map]
    exact Nat.le_of_lt (small1000 (by show bs.length + 1 ≤ 1000; omega))
  · cases bs with
    | nil => exact q t1 H (Same.refl _) (.tup e1 (.cons (.bl c) .nil))
    | cons b bs => cases z
  · refine q p _ (same_new hp) (.tup upd_same ?_)
    have z : bs.map V.bl ++ [V.bl c] = (bs ++ [c]).map V.bl := by rw [List.map_append]; rfl
    rw [z]
    exact dats_bls (bs ++ [c])
section
variable {P : Program} {w : World} {K : PySem.W.Frag} {mg : Str → Option Value} {base : Heap}
theorem scLPlays : FnScope ["size", "found", "turn", "longer", "play"] ["size"] (defScope sLPlays) := ⟨rfl, rfl, rfl, by decide +kernel, rfl, by decide +kernel, by decide +kernel⟩
theorem ok_lPlays {f : Addr} {fd : FuncData} (F : Fun K "_law_plays" "_law_plays" sLPlays f fd) (B : Blt mg) : FnOk P w K mg base CX0 1 f fd ["size"] spLPlays := by
  refine F.ok scLPlays (fun vs H Q E h => ?_) (fun cdv A outer s H vs Q E hr h => ?_)
  · obtain ⟨n, rfl, _⟩ := h
    rfl
  · obtain ⟨n, rfl, hn, q⟩ := h
    refine ⟨_, pss_cons (ps_set (i := 1) scLPlays.nd rfl (.inl rfl) (pe_lst (pa_cons (pe_tup pa_nil) pa_nil)))
      (pss_cons (ps_for PassesOwn.never rfl (pi_range1 rfl B.range (pa_cons (pv 0) pa_nil)) (pg_name (i := 2) scLPlays.nd rfl (.inl rfl))
        (pss_cons (ps_set (i := 3) scLPlays.nd rfl (.inl rfl) (pe_lst pa_nil))
        (pss_cons (ps_for PassesOwn.never rfl (pi_list (pv 1)) (pg_name (i := 4) scLPlays.nd rfl (.inl rfl))
          (pss_one (ps_set (i := 3) scLPlays.nd rfl (.inl rfl) (pe_op op_cat (pv 3) (pe_lst (pa_cons (pe_op op_catA (pv 4) (pe_tup (pa_cons pe_bl pa_nil))) (pa_cons (pe_op op_catA (pv 4) (pe_tup (pa_cons pe_bl pa_nil))) pa_nil)))))))
        (pss_one (ps_set (i := 1) scLPlays.nd rfl (.inl rfl) (pv 3))))))
      (pss_one (ps_ret (pv 1)))), ?_⟩
    refine ⟨Nat.zero_le _, fun t0 ht0 => ⟨(by show 1 ≤ sizeLine; decide), fun l0 hl0 => ?_⟩⟩
    refine gen_heap (F := fun G => Rows H G l0 ((playsD 0).map blsD)) ⟨(same_new ht0).trans (same_new hl0), (same_new ht0).free hl0, [(t0, blsD [])], upd_same, rfl, fun q' hq' => ?_⟩ (fun G RG => ?_)
    · cases List.mem_singleton.mp hq'
      exact .tup (xs := []) ((same_new hl0) _ _ upd_same) .nil
    · refine ⟨_, rfl, (n : Nat), rfl, by omega, by omega, ?_⟩
      refine for_range (lo := 0) (n := n) (fun i σ H' => ∃ (l : Addr) (o2 o3 o4 : Option V), σ = [some (.int n), some (.ref l), o2, o3, o4] ∧ Rows H H' l ((playsD i).map blsD)) ⟨l0, _, _, _, rfl, RG⟩ ?_ ?_
      · rintro i σ H' hi ⟨l, o2, o3, o4, rfl, R⟩
        obtain ⟨T, eT, dT, DT⟩ := R.ex
        have lenT : T.length = 2 ^ i := by rw [← List.length_map (f := Prod.snd), dT, List.length_map, plays_len]
        have small : 2 ^ i ≤ 128 := by
          have : 2 ^ i ≤ 2 ^ 7 := Nat.pow_le_pow_right (by decide) (by omega)
          exact this
        refine ⟨Nat.zero_le _, fun lL hL => ?_⟩
        refine ⟨_, rfl, l, rfl, ⟨_, SqL.of ((same_new hL) _ _ eT)⟩, ?_⟩
        refine for_list (K := K) (a := l) (xs := T.map TRow.v) (fun j σ H4 => ∃ (lj : Addr) (o4 : Option V), σ = [some (.int n), some (.ref l), some (.int (0 + (i : Int))), some (.ref lj), o4] ∧ Same H' H4 ∧
          Rows H H4 lj ((((playsD i).take j).flatMap fun p => [p ++ [false], p ++ [true]]).map blsD)) ⟨lL, _, rfl, same_new hL, R.S.trans (same_new hL), R.S.free hL, [], upd_same, rfl, fun q' hq' => absurd hq' (by simp)⟩
          (fun j σ H4 _ ⟨_, _, _, S4, _⟩ => SqL.of (S4 _ _ eT)) ?_ ?_
        · rintro j x σ H4 hx ⟨lj, o4', rfl, S4, R4⟩
          obtain ⟨T4, e4, d4, D4⟩ := R4.ex
          rw [List.getElem?_map] at hx
          obtain ⟨y, hy, rfl⟩ := Option.map_eq_some_iff.mp hx
          have ey : ((playsD i).map blsD)[j]? = some y.2 := by rw [← dT, List.getElem?_map, hy]; rfl
          obtain ⟨p, hp, ep⟩ := get_map ey
          have Dy := DT y (List.mem_of_getElem? hy)
          rw [ep] at Dy
          obtain ⟨t, et, e0⟩ := bls_row Dy
          have e5 := S4 _ _ e0
          have lp : p.length ≤ 500 := by rw [plays_bits i p (List.mem_of_getElem? hp)]; omega
          have jl : j < (playsD i).length := (List.getElem?_eq_some_iff.mp hp).1
          rw [plays_len] at jl
          have len4 : T4.length = 2 * j := by
            have key : ∀ l : List (List Bool), (l.flatMap fun p => [p ++ [false], p ++ [true]]).length = 2 * l.length := by
              intro l
              induction l with
              | nil => rfl
              | cons x l ih =>
                rw [List.flatMap_cons, List.length_append, ih, List.length_cons]
                show 2 + 2 * l.length = 2 * (l.length + 1)
                omega
            rw [← List.length_map (f := Prod.snd), d4, List.length_map, key, List.length_take, plays_len, Nat.min_eq_left (Nat.le_of_lt jl)]
          refine ⟨_, rfl, _, rfl, (by show 1 ≤ sizeLine; decide), fun t1 ht1 => ?_⟩
          rw [et]
          refine cat_bl ((same_new ht1) _ _ e5) upd_same lp fun r1 H5 S5 D5 => ⟨_, rfl, (by show 1 ≤ sizeLine; decide), fun t2 ht2 => ?_⟩
          have S45 : Same H4 H5 := (same_new ht1).trans S5
          refine cat_bl ((same_new ht2) _ _ (S45 _ _ e5)) upd_same lp fun r2 H6 S6 D6 => ⟨(by show 2 ≤ sizeLine; decide), fun l3 hl3 => ?_⟩
          have S56 : Same H5 H6 := (same_new ht2).trans S6
          have S46 := S45.trans S56
          refine ⟨_, _, _, _, rfl, rfl, (same_new hl3) _ _ (S46 _ _ e4), upd_same, ?_, fun l4 hl4 => ?_⟩
          · rw [List.length_map, len4]
            exact Nat.le_of_lt (small1000 (by show 2 * j + 2 ≤ 1000; omega))
          · have S48 := S46.trans ((same_new (o := .lst [V.ref r1, .ref r2]) hl3).trans (same_new (o := .lst (T4.map TRow.v ++ [V.ref r1, .ref r2])) hl4))
            have S68 := (same_new (o := .lst [V.ref r1, .ref r2]) hl3).trans (same_new (o := .lst (T4.map TRow.v ++ [V.ref r1, .ref r2])) hl4)
            refine ⟨l4, _, rfl, S4.trans S48, R4.S.trans S48, (R4.S.trans (S46.trans (same_new hl3))).free hl4, T4 ++ [(r1, blsD (p ++ [false])), (r2, blsD (p ++ [true]))], by rw [upd_same, List.map_append]; rfl, ?_, fun q' hq' => ?_⟩
            · have tk : (playsD i).take (j + 1) = (playsD i).take j ++ [p] := take_next hp
              rw [tk, List.flatMap_append, List.map_append, List.map_append, d4]
              rfl
            · rcases List.mem_append.mp hq' with m | m
              · exact (D4 q' m).same S48
              · rcases List.mem_cons.mp m with rfl | m
                · exact D5.same (S56.trans S68)
                · cases List.mem_singleton.mp m
                  exact D6.same S68
        · rintro σ H4 ⟨lj, o4', rfl, S4, R4⟩
          have tk : (playsD i).take (T.map TRow.v).length = playsD i := by
            rw [List.length_map, lenT, ← plays_len]
            exact List.take_length
          rw [tk] at R4
          exact ⟨_, rfl, lj, _, _, _, rfl, R4⟩
      · rintro σ H' ⟨l, o2, o3, o4, rfl, R⟩
        exact ⟨_, rfl, q l H' R⟩
end
end S1

set_option Elab.async false
set_option linter.all false
set_option maxRecDepth 100000
set_option maxHeartbeats 4000000
/-! all plays, and all that is seen, as the program lists them -/
namespace S1
open PySem PySem.W PySem.Spec PyProof.Rows L2
section
variable {K : PySem.W.Frag} {a : Addr} {xs : List V} {F : V → Hp → (Hp → Prop) → Prop} {H0 : Hp} {Qd : Hp → Prop}
theorem turns_list (Pv : Nat → Hp → Prop) (h0 : Pv 0 H0) (hl : ∀ i H, i ≤ xs.length → Pv i H → SqL K H a xs) (hs : ∀ i x H, xs[i]? = some x → Pv i H → F x H (Pv (i + 1))) (hd : ∀ H, Pv xs.length H → Qd H) :
    ∃ W : Nat → Nat → Hp → Prop, (∃ m, W 0 m H0) ∧ ∀ i m H, W i m H →
      ((Itl K a).stop i H ∧ Qd H) ∨ ((Itl K a).go i H ∧ ∃ Nx : Hp → Prop, (∀ H', Nx H' → ∃ m', m' < m ∧ W (i + 1) m' H') ∧ ∀ x H', (Itl K a).yld i H x H' → F x H' Nx) := by
  refine ⟨fun i m H => m = xs.length - i ∧ i ≤ xs.length ∧ Pv i H, ⟨_, rfl, Nat.zero_le _, h0⟩, ?_⟩
  rintro i m H ⟨rfl, hi, p⟩
  have q := hl i H hi p
  by_cases lt : i < xs.length
  · refine .inr ⟨⟨xs, xs[i], q, List.getElem?_eq_getElem lt⟩, Pv (i + 1), fun H' p' => ⟨xs.length - (i + 1), by omega, rfl, lt, p'⟩, ?_⟩
    rintro x H' ⟨e, y⟩
    subst e
    exact hs i x _ (y xs q) p
  · have e : i = xs.length := by omega
    subst e
    exact .inl ⟨⟨xs, q, Nat.le_refl _⟩, hd H p⟩
theorem turns_tup (Pv : Nat → Hp → Prop) (h0 : Pv 0 H0) (hl : ∀ i H, i ≤ xs.length → Pv i H → SqT K H a xs) (hs : ∀ i x H, xs[i]? = some x → Pv i H → F x H (Pv (i + 1))) (hd : ∀ H, Pv xs.length H → Qd H) :
    ∃ W : Nat → Nat → Hp → Prop, (∃ m, W 0 m H0) ∧ ∀ i m H, W i m H →
      ((Itt K a).stop i H ∧ Qd H) ∨ ((Itt K a).go i H ∧ ∃ Nx : Hp → Prop, (∀ H', Nx H' → ∃ m', m' < m ∧ W (i + 1) m' H') ∧ ∀ x H', (Itt K a).yld i H x H' → F x H' Nx) := by
  refine ⟨fun i m H => m = xs.length - i ∧ i ≤ xs.length ∧ Pv i H, ⟨_, rfl, Nat.zero_le _, h0⟩, ?_⟩
  rintro i m H ⟨rfl, hi, p⟩
  have q := hl i H hi p
  by_cases lt : i < xs.length
  · refine .inr ⟨⟨xs, xs[i], q, List.getElem?_eq_getElem lt⟩, Pv (i + 1), fun H' p' => ⟨xs.length - (i + 1), by omega, rfl, lt, p'⟩, ?_⟩
    rintro x H' ⟨e, y⟩
    subst e
    exact hs i x _ (y xs q) p
  · have e : i = xs.length := by omega
    subst e
    exact .inl ⟨⟨xs, q, Nat.le_refl _⟩, hd H p⟩
end
def spAllPlays : Sp := fun vs H Q _ => ∃ (v : V) (s : Say), vs = [v] ∧ DatS H v s ∧ SayOk 6 8 120 40 s ∧ ∀ (l : Addr) (H' : Hp), Rows H H' l ((playsD s.picks.length).map blsD) → Q (.ref l) H'
theorem flat_len : ∀ l : List (List Bool), (l.flatMap fun p => [p ++ [false], p ++ [true]]).length = 2 * l.length
  | [] => rfl
  | x :: l => by
    rw [List.flatMap_cons, List.length_append, flat_len l, List.length_cons]
    show 2 + 2 * l.length = 2 * (l.length + 1)
    omega
section
variable {P : Program} {w : World} {K : PySem.W.Frag} {mg : Str → Option Value} {base : Heap}
theorem scAllPlays : FnScope ["saying", "found", "_", "play", "truth"] ["saying"] (defScope sAllPlays) := ⟨rfl, rfl, rfl, by decide +kernel, rfl, by decide +kernel, by decide +kernel⟩
theorem ok_allPlays {f : Addr} {fd : FuncData} (F : Fun K "all_plays" "all_plays" sAllPlays f fd) : FnOk P w K mg base CX0 1 f fd ["saying"] spAllPlays := by
  refine F.ok scAllPlays (fun vs H Q E h => ?_) (fun cdv A outer s H vs Q E hr h => ?_)
  · obtain ⟨v, sy, rfl, _⟩ := h
    rfl
  · obtain ⟨v, sy, rfl, D, ok, q⟩ := h
    refine ⟨_, pss_cons (ps_set (i := 1) scAllPlays.nd rfl (.inl rfl) (pe_lst (pa_cons (pe_tup pa_nil) pa_nil)))
      (pss_cons (ps_for PassesOwn.never rfl (pi_tup (pe_ix ix_tup (pv 0) pe_int (fun _ _ => rfl))) (pg_name (i := 2) scAllPlays.nd rfl (.inl rfl))
        (pss_one (ps_setLc2 (i := 1) (own := [("play", 3), ("truth", 4)]) (vs1 := [4]) (g := gName 3) (tt := tYes) (g1 := gName 4) (tt1 := tYes) (wi1 := iTup K (tTup (tCons (tC (V.bl false)) (tCons (tC (V.bl true)) tNil)))) (te := tOp (rCatA K) (tVar 3) (tTup (tCons (tVar 4) tNil)))
          rfl scAllPlays.nd rfl rfl (sw_true rfl rfl rfl (by decide +kernel)) (pi_list (pv 1)) (blkOk_by (N := ["saying", "found", "_", "play", "truth"]) (sc := defScope sAllPlays) (by decide +kernel)) (by decide)
          (fun _ _ _ _ _ => pg_name (i := 3) scAllPlays.nd rfl (Or.inl rfl)) (fun _ _ _ _ _ => pts_nil) (fun _ _ _ _ _ => by exact pi_tup (pe_tup (pa_cons pe_bl (pa_cons pe_bl pa_nil))))
          (fun _ _ _ _ _ => pg_name (i := 4) scAllPlays.nd rfl (Or.inl rfl)) (fun _ _ _ _ _ => pts_nil) (fun _ _ _ _ _ => by exact pe_op op_catA (pv 3) (pe_tup (pa_cons (pv 4) pa_nil))))))
      (pss_one (ps_ret (pv 1)))), ?_⟩
    obtain ⟨a, pk, ow, c, rfl, ea, Dp, Do, Dc⟩ := say_row D
    obtain ⟨b, ups, rfl, eb, Db⟩ := dat_tup (ds := sy.picks.map PyData.str) Dp
    cases dats_strs_eq Db
    have lp := ok.pl
    refine ⟨Nat.zero_le _, fun t0 ht0 => ⟨(by show 1 ≤ sizeLine; decide), fun l0 hl0 => ?_⟩⟩
    refine gen_heap (F := fun G => Rows H G l0 ((playsD 0).map blsD)) ⟨(same_new ht0).trans (same_new hl0), (same_new ht0).free hl0, [(t0, blsD [])], upd_same, rfl, fun q' hq' => ?_⟩ (fun G RG => ?_)
    · cases List.mem_singleton.mp hq'
      exact .tup (xs := []) ((same_new hl0) _ _ upd_same) .nil
    · refine ⟨_, rfl, a, _, 0, _, rfl, rfl, SqT.of (RG.S _ _ ea), rfl, b, rfl, ⟨_, SqT.of (RG.S _ _ eb)⟩, ?_⟩
      refine for_tup (K := K) (a := b) (xs := sy.picks.map V.str) (fun i σ H' => ∃ (l : Addr) (o2 o3 o4 : Option V), σ = [some (.ref a), some (.ref l), o2, o3, o4] ∧ Rows H H' l ((playsD i).map blsD)) ⟨l0, _, _, _, rfl, RG⟩ (fun i σ H' _ ⟨_, _, _, _, _, R⟩ => SqT.of (R.S _ _ eb)) ?_ ?_
      · rintro i x σ H' hx ⟨l, o2, o3, o4, rfl, R⟩
        have il : i < 6 := by
          have z := (List.getElem?_eq_some_iff.mp hx).1
          rw [List.length_map] at z
          omega
        obtain ⟨T, eT, dT, DT⟩ := R.ex
        have lenT : T.length = 2 ^ i := by rw [← List.length_map (f := Prod.snd), dT, List.length_map, plays_len]
        have small : 2 ^ i ≤ 128 := Nat.pow_le_pow_right (n := 2) (by decide) (show i ≤ 7 by omega)
        refine ⟨_, rfl, l, rfl, ⟨_, SqL.of eT⟩, fun D0 hD0 => ?_⟩
        refine turns_list (K := K) (a := l) (xs := T.map TRow.v) (fun j H4 => ∃ T4 : List TRow, H4 D0 = some (.lst (T4.map TRow.v)) ∧ T4.map Prod.snd = (((playsD i).take j).flatMap fun p => [p ++ [false], p ++ [true]]).map blsD ∧ (∀ q' ∈ T4, Dat H4 q'.v q'.2) ∧ Same H' H4)
          ⟨[], upd_same, rfl, fun q' hq' => absurd hq' (by simp), same_new hD0⟩ (fun j H4 _ ⟨_, _, _, _, S4⟩ => SqL.of (S4 _ _ eT)) ?_ ?_
        · rintro j x4 H4 hx4 ⟨T4, e4, d4, D4, S4⟩
          rw [List.getElem?_map] at hx4
          obtain ⟨y, hy, rfl⟩ := Option.map_eq_some_iff.mp hx4
          have ey : ((playsD i).map blsD)[j]? = some y.2 := by rw [← dT, List.getElem?_map, hy]; rfl
          obtain ⟨p, hp, ep⟩ := get_map ey
          have Dy := DT y (List.mem_of_getElem? hy)
          rw [ep] at Dy
          obtain ⟨t, et, e0⟩ := bls_row Dy
          have lpp : p.length ≤ 500 := by rw [plays_bits i p (List.mem_of_getElem? hp)]; omega
          have jl : j < (playsD i).length := (List.getElem?_eq_some_iff.mp hp).1
          rw [plays_len] at jl
          have len4 : T4.length = 2 * j := by rw [← List.length_map (f := Prod.snd), d4, List.length_map, flat_len, List.length_take, plays_len, Nat.min_eq_left (Nat.le_of_lt jl)]
          rw [et]
          refine ⟨rfl, yes_of ?_⟩
          refine ⟨(by show 2 ≤ sizeLine; decide), fun tt htt => ⟨tt, rfl, ⟨_, SqT.of upd_same⟩, ?_⟩⟩
          have S5 := same_new (o := .tup [V.bl false, .bl true]) htt
          refine turns_tup (K := K) (a := tt) (xs := [V.bl false, .bl true]) (fun k H5 => ∃ T5 : List TRow, H5 D0 = some (.lst (T5.map TRow.v)) ∧ T5.map Prod.snd = T4.map Prod.snd ++ (([false, true].take k).map fun c => blsD (p ++ [c])) ∧ (∀ q' ∈ T5, Dat H5 q'.v q'.2) ∧ Same H' H5 ∧
            H5 tt = some (.tup [V.bl false, .bl true])) ⟨T4, S5 _ _ e4, by simp, fun q' hq' => (D4 q' hq').same S5, S4.trans S5, upd_same⟩ (fun k H5 _ ⟨_, _, _, _, _, z⟩ => SqT.of z) ?_ ?_
          · rintro k x5 H5 hx5 ⟨T5, e5, d5, D5, S6, ett⟩
            obtain ⟨cc, rfl, hcc, kl⟩ : ∃ cc : Bool, x5 = .bl cc ∧ [false, true][k]? = some cc ∧ k < 2 := by
              match k, hx5 with
              | 0, h => exact ⟨false, (Option.some.inj h).symm, rfl, by decide⟩
              | 1, h => exact ⟨true, (Option.some.inj h).symm, rfl, by decide⟩
              | k + 2, h => simp at h
            have len5 : T5.length = 2 * j + k := by
              rw [← List.length_map (f := Prod.snd), d5, List.length_append, List.length_map, List.length_map, len4, List.length_take]
              show 2 * j + min k 2 = 2 * j + k
              omega
            refine ⟨rfl, yes_of ?_⟩
            refine ⟨_, rfl, _, rfl, (by show 1 ≤ sizeLine; decide), fun t1 ht1 => ?_⟩
            refine cat_bl ((same_new ht1) _ _ (S6 _ _ e0)) upd_same lpp fun r1 H6 S7 D6 => ?_
            have S57 : Same H5 H6 := (same_new ht1).trans S7
            have e6 := S57 _ _ e5
            refine ⟨_, e6, by rw [List.length_map, len5]; exact small1000 (by omega), T5 ++ [(r1, blsD (p ++ [cc]))], by rw [upd_same, List.map_append]; rfl, ?_, fun q' hq' => ?_, same_upd (S6.trans S57) hD0, ?_⟩
            · rw [List.map_append, d5, take_next hcc, List.map_append, List.append_assoc]
              rfl
            · rcases List.mem_append.mp hq' with m | m
              · have kq : keyable q'.2 = true := by
                  have m2 : q'.2 ∈ T5.map Prod.snd := List.mem_map_of_mem m
                  rw [d5, d4] at m2
                  rcases List.mem_append.mp m2 with m2 | m2
                  · obtain ⟨z, _, hz⟩ := List.mem_map.mp m2
                    rw [← hz]
                    exact keyables_map PyData.bool (fun _ => rfl) z
                  · obtain ⟨z, _, hz⟩ := List.mem_map.mp m2
                    rw [← hz]
                    exact keyables_map PyData.bool (fun _ => rfl) _
                exact dat_upd e6 kq ((D5 q' m).same S57)
              · cases List.mem_singleton.mp m
                exact dat_upd e6 (keyables_map PyData.bool (fun _ => rfl) _) D6
            · have nt : tt ≠ D0 := fun z => by rw [z, e5] at ett; cases ett
              rw [upd_ne nt]
              exact S57 _ _ ett
          · rintro H5 ⟨T5, e5, d5, D5, S6, _⟩
            refine ⟨T5, e5, ?_, D5, S6⟩
            rw [d5, d4, take_next hp, List.flatMap_append, List.map_append]
            rfl
        · rintro H4 ⟨T4, e4, d4, D4, S4⟩
          have tk : (playsD i).take (T.map TRow.v).length = playsD i := by
            rw [List.length_map, lenT, ← plays_len]
            exact List.take_length
          rw [tk] at d4
          exact ⟨D0, _, _, _, rfl, R.S.trans S4, R.S.free hD0, T4, e4, d4, D4⟩
      · rintro σ H' ⟨l, o2, o3, o4, rfl, R⟩
        rw [List.length_map] at R
        exact ⟨_, rfl, q l H' R⟩
end
end S1

set_option Elab.async false
set_option linter.all false
set_option maxRecDepth 100000
set_option maxHeartbeats 4000000
/-! what is the same is told to be the same -/
namespace S1
open PySem PySem.W PySem.Spec PyProof.Rows L2
theorem keyable_bls (p : List Bool) : keyable (blsD p) = true := keyables_map PyData.bool (fun _ => rfl) p
mutual
/-- no dict, and no row longer than a thousand -/
def tame : PyData → Bool
  | .list ds => decide (ds.length ≤ 1000) && tames ds
  | .tuple ds => decide (ds.length ≤ 1000) && tames ds
  | .dict _ => false
  | _ => true
def tames : List PyData → Bool
  | [] => true
  | d :: ds => tame d && tames ds
end
theorem tames_get : ∀ {ds : List PyData}, tames ds = true → ∀ (k : Nat) (d : PyData), ds[k]? = some d → tame d = true
  | [], _, _, _, h => by simp at h
  | d :: ds, t, 0, x, h => by
    rw [tames, Bool.and_eq_true] at t
    cases (show some d = some x from h)
    exact t.1
  | d :: ds, t, k + 1, x, h => by
    rw [tames, Bool.and_eq_true] at t
    exact tames_get t.2 k x h
theorem depths_get : ∀ {ds : List PyData} (k : Nat) (d : PyData), ds[k]? = some d → d.depth ≤ PyData.depthAll ds
  | [], _, _, h => by simp at h
  | d :: ds, 0, x, h => by
    cases (show some d = some x from h)
    simp only [PyData.depthAll]
    omega
  | d :: ds, k + 1, x, h => by
    have := depths_get k x (show ds[k]? = some x from h)
    simp only [PyData.depthAll]
    omega
def spSame (n : Nat) : Sp := fun vs H Q _ => ∃ (x y : V) (d : PyData), vs = [x, y] ∧ Dat H x d ∧ Dat H y d ∧ tame d = true ∧ d.depth < n ∧ ∀ H', Same H H' → Q (.bl true) H'
def tyD : PyData → String
  | .none => "NoneType"
  | .bool _ => "bool"
  | .int _ => "int"
  | .str _ => "str"
  | .list _ => "list"
  | .tuple _ => "tuple"
  | .dict _ => "dict"
theorem ty_of_dat {K : PySem.W.Frag} {H : Hp} {x : V} {d : PyData} (D : Dat H x d) : TyOf K H x (.type (tyD d)) := by
  cases D with
  | non => exact .non
  | bl b => exact .bl b
  | int i => exact .int i
  | str x => exact .str x
  | lst e _ => exact .lst e
  | tup e _ => exact .tup e
  | dct e _ => exact .dK e
theorem isi_d {K : PySem.W.Frag} {H : Hp} {x : V} {d : PyData} {nm : String} {b : Bool} {Q : VK} (D : Dat H x d) (k : kitB (tyD d) nm = some b) (q : Q (.bl b) H) : rIsi K [x, .ty nm] H Q :=
  ⟨x, .ty nm, _, _, b, rfl, .ty _, .base (ty_of_dat D), kit_ty k, q⟩
section
variable {P : Program} {w : World} {K : PySem.W.Frag} {mg : Str → Option Value} {base : Heap}
theorem scSame : FnScope ["found", "due", "at"] ["found", "due"] (defScope sSame) := ⟨rfl, rfl, rfl, by decide +kernel, rfl, by decide +kernel, by decide +kernel⟩
theorem ok_same {f : Addr} {fd : FuncData} (Sa : Has K mg "_law_same" sSame ["found", "due"] f fd) (B : Blt mg) : ∀ n, FnOk P w K mg base CX0 (n + 1) f fd ["found", "due"] (spSame n) := by
  intro n
  induction n with
  | zero =>
    refine Sa.F.ok scSame (fun vs H Q E h => ?_) (fun cdv A outer s H vs Q E hr h => ?_)
    · obtain ⟨x, y, d, rfl, _⟩ := h
      rfl
    · obtain ⟨x, y, d, rfl, Dx, Dy, td, dd, q⟩ := h
      exact absurd dd (Nat.not_lt_zero _)
  | succ n G =>
    refine Sa.F.ok scSame (fun vs H Q E h => ?_) (fun cdv A outer s H vs Q E hr h => ?_)
    · obtain ⟨x, y, d, rfl, _⟩ := h
      rfl
    · obtain ⟨x, y, d, rfl, Dx, Dy, td, dd, q⟩ := h
      refine ⟨_, pss_cons (ps_if (PW.pt (pw_or (pt_val (pe_callB call_isi (by rfl) B.isi (by decide +kernel) (pa_cons (pv 1) (pa_cons (pe_bltn (v := V.ty "list") (by rfl) B.list (by decide +kernel) rfl) pa_nil))))
          (pw_or1 (pt_val (pe_callB call_isi (by rfl) B.isi (by decide +kernel) (pa_cons (pv 1) (pa_cons (pe_bltn (v := V.ty "tuple") (by rfl) B.tuple (by decide +kernel) rfl) pa_nil)))))))
          (pss_cons (ps_if (PW.pt (pw_or (pt_cmpR op_ne (pe_callB call_isi (by rfl) B.isi (by decide +kernel) (pa_cons (pv 0) (pa_cons (pe_bltn (v := V.ty "list") (by rfl) B.list (by decide +kernel) rfl) pa_nil)))
                (pe_callB call_isi (by rfl) B.isi (by decide +kernel) (pa_cons (pv 1) (pa_cons (pe_bltn (v := V.ty "list") (by rfl) B.list (by decide +kernel) rfl) pa_nil))) (nomark _))
              (pw_or1 (pt_cmpR op_ne (pe_callB call_isi (by rfl) B.isi (by decide +kernel) (pa_cons (pv 0) (pa_cons (pe_bltn (v := V.ty "tuple") (by rfl) B.tuple (by decide +kernel) rfl) pa_nil)))
                (pe_callB call_isi (by rfl) B.isi (by decide +kernel) (pa_cons (pv 1) (pa_cons (pe_bltn (v := V.ty "tuple") (by rfl) B.tuple (by decide +kernel) rfl) pa_nil))) (nomark _))))) (pss_one (ps_ret pe_bl)) pss_nil)
          (pss_one (ps_ret (pe_and (pe_cmpR op_eq (pe_callB call_len_seq (by rfl) B.len (by decide +kernel) (pa_cons (pv 0) pa_nil)) (pe_callB call_len_seq (by rfl) B.len (by decide +kernel) (pa_cons (pv 1) pa_nil)) (nomark _))
            (pe_one (pe_callB (cr_all rfl) (by rfl) B.all (by decide +kernel) (pa_cons (pe_lc (own := [("at", 2)]) (g := gName 2) (tt := tYes) (te := tCall (spSame n) [] E0 (tCons (tOp (rIx K) (tVar 0) (tVar 2)) (tCons (tOp (rIx K) (tVar 1) (tVar 2)) tNil))) rfl scSame.nd
              (pi_range1 rfl B.range (pa_cons (pe_callB call_len_seq (by rfl) B.len (by decide +kernel) (pa_cons (pv 1) pa_nil)) pa_nil)) (blkOk_by (N := ["found", "due", "at"]) (sc := defScope sSame) (by decide +kernel)) (fun _ _ _ _ _ => pg_name (i := 2) scSame.nd rfl (Or.inl rfl)) (fun _ _ _ _ _ => pts_nil)
              (fun _ _ _ _ _ => by exact pe_call G (by exact hr) (by rfl) Sa.g Sa.F.kp Sa.b .nil pass0 (pa_cons (pe_ix ix_seq (pv 0) (pv 2) (fun _ _ => rfl)) (pa_cons (pe_ix ix_seq (pv 1) (pv 2) (fun _ _ => rfl)) pa_nil)))) pa_nil))))))) pss_nil)
        (pss_cons (ps_if (pt_val (pe_callB call_isi (by rfl) B.isi (by decide +kernel) (pa_cons (pv 1) (pa_cons (pe_bltn (v := V.ty "bool") (by rfl) B.bool (by decide +kernel) rfl) pa_nil))))
          (pss_one (ps_ret (pe_and (pe_callB call_isi (by rfl) B.isi (by decide +kernel) (pa_cons (pv 0) (pa_cons (pe_bltn (v := V.ty "bool") (by rfl) B.bool (by decide +kernel) rfl) pa_nil))) (pe_one (pe_cmpR op_eq (pv 0) (pv 1) (nomark _)))))) pss_nil)
        (pss_cons (ps_if (pt_val (pe_callB call_isi (by rfl) B.isi (by decide +kernel) (pa_cons (pv 1) (pa_cons (pe_bltn (v := V.ty "int") (by rfl) B.int (by decide +kernel) rfl) pa_nil))))
          (pss_one (ps_ret (pe_and (pe_callB call_isi (by rfl) B.isi (by decide +kernel) (pa_cons (pv 0) (pa_cons (pe_bltn (v := V.ty "int") (by rfl) B.int (by decide +kernel) rfl) pa_nil)))
            (pe_and (pe_not (pe_callB call_isi (by rfl) B.isi (by decide +kernel) (pa_cons (pv 0) (pa_cons (pe_bltn (v := V.ty "bool") (by rfl) B.bool (by decide +kernel) rfl) pa_nil)))) (pe_one (pe_cmpR op_eq (pv 0) (pv 1) (nomark _))))))) pss_nil)
        (pss_cons (ps_if (pt_val (pe_callB call_isi (by rfl) B.isi (by decide +kernel) (pa_cons (pv 1) (pa_cons (pe_bltn (v := V.ty "str") (by rfl) B.str (by decide +kernel) rfl) pa_nil))))
          (pss_one (ps_ret (pe_and (pe_callB call_isi (by rfl) B.isi (by decide +kernel) (pa_cons (pv 0) (pa_cons (pe_bltn (v := V.ty "str") (by rfl) B.str (by decide +kernel) rfl) pa_nil))) (pe_one (pe_cmpR op_eq (pv 0) (pv 1) (nomark _)))))) pss_nil)
        (pss_one (ps_ret (pe_cmpR op_isN (pv 0) pe_non (nomark _))))))), ?_⟩
      cases d with
      | none =>
        refine ⟨_, rfl, _, _, _, _, false, rfl, .ty _, .base (show TyOf K H y (.type "NoneType") from ty_of_dat Dy), kit_ty (by decide +kernel),  false, rfl, ?_⟩
        show if false = true then _ else _
        rw [if_neg (by decide)]
        refine ⟨_, rfl, _, _, _, _, false, rfl, .ty _, .base (show TyOf K H y (.type "NoneType") from ty_of_dat Dy), kit_ty (by decide +kernel),  false, rfl, ?_⟩
        show if false = true then _ else _
        rw [if_neg (by decide)]
        refine ⟨_, rfl, _, _, _, _, false, rfl, .ty _, .base (show TyOf K H y (.type "NoneType") from ty_of_dat Dy), kit_ty (by decide +kernel),  false, rfl, ?_⟩
        show if false = true then _ else _
        rw [if_neg (by decide)]
        refine ⟨_, rfl, _, _, _, _, false, rfl, .ty _, .base (show TyOf K H y (.type "NoneType") from ty_of_dat Dy), kit_ty (by decide +kernel),  false, rfl, ?_⟩
        show if false = true then _ else _
        rw [if_neg (by decide)]
        refine ⟨_, rfl, _, _, _, _, false, rfl, .ty _, .base (show TyOf K H y (.type "NoneType") from ty_of_dat Dy), kit_ty (by decide +kernel),  false, rfl, ?_⟩
        show if false = true then _ else _
        rw [if_neg (by decide)]
        cases Dx
        exact ⟨_, rfl, rfl, q H (Same.refl _)⟩
      | bool c =>
        refine ⟨_, rfl, _, _, _, _, false, rfl, .ty _, .base (show TyOf K H y (.type "bool") from ty_of_dat Dy), kit_ty (by decide +kernel),  false, rfl, ?_⟩
        show if false = true then _ else _
        rw [if_neg (by decide)]
        refine ⟨_, rfl, _, _, _, _, false, rfl, .ty _, .base (show TyOf K H y (.type "bool") from ty_of_dat Dy), kit_ty (by decide +kernel),  false, rfl, ?_⟩
        show if false = true then _ else _
        rw [if_neg (by decide)]
        refine ⟨_, rfl, _, _, _, _, true, rfl, .ty _, .base (show TyOf K H y (.type "bool") from ty_of_dat Dy), kit_ty (by decide +kernel),  true, rfl, ?_⟩
        show if true = true then _ else _
        rw [if_pos rfl]
        refine ⟨_, rfl, _, _, _, _, true, rfl, .ty _, .base (show TyOf K H x (.type "bool") from ty_of_dat Dx), kit_ty (by decide +kernel),  true, rfl, ?_⟩
        show if true = true then _ else _
        rw [if_pos rfl]
        cases Dx
        cases Dy
        refine ⟨_, rfl, _, rfl, rfl, ?_⟩
        show Q (.bl (decide (V.bl c = V.bl c))) H
        rw [decide_eq_true rfl]
        exact q H (Same.refl _)
      | int c =>
        refine ⟨_, rfl, _, _, _, _, false, rfl, .ty _, .base (show TyOf K H y (.type "int") from ty_of_dat Dy), kit_ty (by decide +kernel),  false, rfl, ?_⟩
        show if false = true then _ else _
        rw [if_neg (by decide)]
        refine ⟨_, rfl, _, _, _, _, false, rfl, .ty _, .base (show TyOf K H y (.type "int") from ty_of_dat Dy), kit_ty (by decide +kernel),  false, rfl, ?_⟩
        show if false = true then _ else _
        rw [if_neg (by decide)]
        refine ⟨_, rfl, _, _, _, _, false, rfl, .ty _, .base (show TyOf K H y (.type "int") from ty_of_dat Dy), kit_ty (by decide +kernel),  false, rfl, ?_⟩
        show if false = true then _ else _
        rw [if_neg (by decide)]
        refine ⟨_, rfl, _, _, _, _, true, rfl, .ty _, .base (show TyOf K H y (.type "int") from ty_of_dat Dy), kit_ty (by decide +kernel),  true, rfl, ?_⟩
        show if true = true then _ else _
        rw [if_pos rfl]
        refine ⟨_, rfl, _, _, _, _, true, rfl, .ty _, .base (show TyOf K H x (.type "int") from ty_of_dat Dx), kit_ty (by decide +kernel),  true, rfl, ?_⟩
        show if true = true then _ else _
        rw [if_pos rfl]
        refine ⟨_, rfl, _, _, _, _, false, rfl, .ty _, .base (show TyOf K H x (.type "int") from ty_of_dat Dx), kit_ty (by decide +kernel),  false, rfl, true, rfl, ?_⟩
        show if true = true then _ else _
        rw [if_pos rfl]
        cases Dx
        cases Dy
        refine ⟨_, rfl, _, rfl, rfl, ?_⟩
        show Q (.bl (decide (V.int c = V.int c))) H
        rw [decide_eq_true rfl]
        exact q H (Same.refl _)
      | str c =>
        refine ⟨_, rfl, _, _, _, _, false, rfl, .ty _, .base (show TyOf K H y (.type "str") from ty_of_dat Dy), kit_ty (by decide +kernel),  false, rfl, ?_⟩
        show if false = true then _ else _
        rw [if_neg (by decide)]
        refine ⟨_, rfl, _, _, _, _, false, rfl, .ty _, .base (show TyOf K H y (.type "str") from ty_of_dat Dy), kit_ty (by decide +kernel),  false, rfl, ?_⟩
        show if false = true then _ else _
        rw [if_neg (by decide)]
        refine ⟨_, rfl, _, _, _, _, false, rfl, .ty _, .base (show TyOf K H y (.type "str") from ty_of_dat Dy), kit_ty (by decide +kernel),  false, rfl, ?_⟩
        show if false = true then _ else _
        rw [if_neg (by decide)]
        refine ⟨_, rfl, _, _, _, _, false, rfl, .ty _, .base (show TyOf K H y (.type "str") from ty_of_dat Dy), kit_ty (by decide +kernel),  false, rfl, ?_⟩
        show if false = true then _ else _
        rw [if_neg (by decide)]
        refine ⟨_, rfl, _, _, _, _, true, rfl, .ty _, .base (show TyOf K H y (.type "str") from ty_of_dat Dy), kit_ty (by decide +kernel),  true, rfl, ?_⟩
        show if true = true then _ else _
        rw [if_pos rfl]
        refine ⟨_, rfl, _, _, _, _, true, rfl, .ty _, .base (show TyOf K H x (.type "str") from ty_of_dat Dx), kit_ty (by decide +kernel),  true, rfl, ?_⟩
        show if true = true then _ else _
        rw [if_pos rfl]
        cases Dx
        cases Dy
        refine ⟨_, rfl, _, rfl, rfl, ?_⟩
        show Q (.bl (decide (V.str c = V.str c))) H
        rw [decide_eq_true rfl]
        exact q H (Same.refl _)
      | list ds =>
        refine ⟨_, rfl, _, _, _, _, true, rfl, .ty _, .base (show TyOf K H y (.type "list") from ty_of_dat Dy), kit_ty (by decide +kernel),  true, rfl, ?_⟩
        show if true = true then _ else _
        rw [if_pos rfl]
        show if true = true then _ else _
        rw [if_pos rfl]
        refine ⟨_, rfl, _, _, _, _, true, rfl, .ty _, .base (show TyOf K H x (.type "list") from ty_of_dat Dx), kit_ty (by decide +kernel), _, rfl, _, _, _, _, true, rfl, .ty _, .base (show TyOf K H y (.type "list") from ty_of_dat Dy), kit_ty (by decide +kernel), rfl, _, rfl, ?_⟩
        show if (!decide (V.bl true = V.bl true)) = true then _ else _
        rw [if_neg (by decide)]
        refine ⟨_, rfl, _, _, _, _, false, rfl, .ty _, .base (show TyOf K H x (.type "list") from ty_of_dat Dx), kit_ty (by decide +kernel), _, rfl, _, _, _, _, false, rfl, .ty _, .base (show TyOf K H y (.type "list") from ty_of_dat Dy), kit_ty (by decide +kernel), rfl, _, rfl, ?_⟩
        show if (!decide (V.bl false = V.bl false)) = true then _ else _
        rw [if_neg (by decide)]
        have td2 : ds.length ≤ 1000 ∧ tames ds = true := by
          rw [tame, Bool.and_eq_true, decide_eq_true_eq] at td
          exact td
        have dd2 : PyData.depthAll ds < n := by
          simp only [PyData.depth] at dd
          omega
        cases Dx with
        | @lst a xs _ ea Da =>
          cases Dy with
          | @lst b ys _ eb Db =>
            have lx : xs.length = ds.length := Da.len
            have ly : ys.length = ds.length := Db.len
            refine ⟨_, rfl, _, _, rfl, .inl (SqL.of ea), _, rfl, _, _, rfl, .inl (SqL.of eb), rfl, _, rfl, ?_⟩
            show if decide (V.int (xs.length : Int) = V.int (ys.length : Int)) = true then _ else _
            rw [lx, ly, if_pos (decide_eq_true rfl)]
            refine ⟨_, rfl, _, _, rfl, .inl (SqL.of eb), _, rfl, by omega, by omega, fun D0 hD0 => ?_⟩
            refine lc_range (lo := 0) (n := (ys.length : Int).toNat) (fun j H4 => H4 D0 = some (trues j) ∧ Same H H4) ⟨upd_same, same_new hD0⟩ ?_ ?_
            · rintro j H4 hj ⟨e4, S4⟩
              rw [Int.toNat_natCast] at hj
              obtain ⟨d', hd'⟩ : ∃ d', ds[j]? = some d' := ⟨_, List.getElem?_eq_getElem (by omega)⟩
              obtain ⟨u, hu, Du⟩ := dats_get Da j d' hd'
              obtain ⟨v, hv, Dv⟩ := dats_get Db j d' hd'
              refine ⟨rfl, yes_of ?_⟩
              refine ⟨_, rfl, _, rfl, ix_any (.inl (SqL.of (S4 _ _ ea))) (by rw [Int.zero_add]; exact atI_nat hu) ⟨_, rfl, _, rfl, ix_any (.inl (SqL.of (S4 _ _ eb))) (by rw [Int.zero_add]; exact atI_nat hv) ?_⟩⟩
              refine ⟨u, v, d', rfl, Du.same S4, Dv.same S4, tames_get td2.2 j d' hd', Nat.lt_of_le_of_lt (depths_get j d' hd') dd2, fun H5 S5 => ?_⟩
              have e5 := S5 _ _ e4
              exact ⟨_, e5, by rw [List.length_map, List.length_replicate]; exact small1000 (by omega), trues_next e5, same_upd (S4.trans S5) hD0⟩
            · rintro H4 ⟨e4, S4⟩
              refine ⟨D0, _, rfl, SqL.of e4, ?_⟩
              show Q (.bl _) H4
              rw [trues_all]
              exact q H4 S4
      | tuple ds =>
        refine ⟨_, rfl, _, _, _, _, false, rfl, .ty _, .base (show TyOf K H y (.type "tuple") from ty_of_dat Dy), kit_ty (by decide +kernel),  false, rfl, ?_⟩
        show if false = true then _ else _
        rw [if_neg (by decide)]
        refine ⟨_, rfl, _, _, _, _, true, rfl, .ty _, .base (show TyOf K H y (.type "tuple") from ty_of_dat Dy), kit_ty (by decide +kernel),  true, rfl, ?_⟩
        show if true = true then _ else _
        rw [if_pos rfl]
        refine ⟨_, rfl, _, _, _, _, false, rfl, .ty _, .base (show TyOf K H x (.type "tuple") from ty_of_dat Dx), kit_ty (by decide +kernel), _, rfl, _, _, _, _, false, rfl, .ty _, .base (show TyOf K H y (.type "tuple") from ty_of_dat Dy), kit_ty (by decide +kernel), rfl, _, rfl, ?_⟩
        show if (!decide (V.bl false = V.bl false)) = true then _ else _
        rw [if_neg (by decide)]
        refine ⟨_, rfl, _, _, _, _, true, rfl, .ty _, .base (show TyOf K H x (.type "tuple") from ty_of_dat Dx), kit_ty (by decide +kernel), _, rfl, _, _, _, _, true, rfl, .ty _, .base (show TyOf K H y (.type "tuple") from ty_of_dat Dy), kit_ty (by decide +kernel), rfl, _, rfl, ?_⟩
        show if (!decide (V.bl true = V.bl true)) = true then _ else _
        rw [if_neg (by decide)]
        have td2 : ds.length ≤ 1000 ∧ tames ds = true := by
          rw [tame, Bool.and_eq_true, decide_eq_true_eq] at td
          exact td
        have dd2 : PyData.depthAll ds < n := by
          simp only [PyData.depth] at dd
          omega
        cases Dx with
        | @tup a xs _ ea Da =>
          cases Dy with
          | @tup b ys _ eb Db =>
            have lx : xs.length = ds.length := Da.len
            have ly : ys.length = ds.length := Db.len
            refine ⟨_, rfl, _, _, rfl, .inr (SqT.of ea), _, rfl, _, _, rfl, .inr (SqT.of eb), rfl, _, rfl, ?_⟩
            show if decide (V.int (xs.length : Int) = V.int (ys.length : Int)) = true then _ else _
            rw [lx, ly, if_pos (decide_eq_true rfl)]
            refine ⟨_, rfl, _, _, rfl, .inr (SqT.of eb), _, rfl, by omega, by omega, fun D0 hD0 => ?_⟩
            refine lc_range (lo := 0) (n := (ys.length : Int).toNat) (fun j H4 => H4 D0 = some (trues j) ∧ Same H H4) ⟨upd_same, same_new hD0⟩ ?_ ?_
            · rintro j H4 hj ⟨e4, S4⟩
              rw [Int.toNat_natCast] at hj
              obtain ⟨d', hd'⟩ : ∃ d', ds[j]? = some d' := ⟨_, List.getElem?_eq_getElem (by omega)⟩
              obtain ⟨u, hu, Du⟩ := dats_get Da j d' hd'
              obtain ⟨v, hv, Dv⟩ := dats_get Db j d' hd'
              refine ⟨rfl, yes_of ?_⟩
              refine ⟨_, rfl, _, rfl, ix_any (.inr (SqT.of (S4 _ _ ea))) (by rw [Int.zero_add]; exact atI_nat hu) ⟨_, rfl, _, rfl, ix_any (.inr (SqT.of (S4 _ _ eb))) (by rw [Int.zero_add]; exact atI_nat hv) ?_⟩⟩
              refine ⟨u, v, d', rfl, Du.same S4, Dv.same S4, tames_get td2.2 j d' hd', Nat.lt_of_le_of_lt (depths_get j d' hd') dd2, fun H5 S5 => ?_⟩
              have e5 := S5 _ _ e4
              exact ⟨_, e5, by rw [List.length_map, List.length_replicate]; exact small1000 (by omega), trues_next e5, same_upd (S4.trans S5) hD0⟩
            · rintro H4 ⟨e4, S4⟩
              refine ⟨D0, _, rfl, SqL.of e4, ?_⟩
              show Q (.bl _) H4
              rw [trues_all]
              exact q H4 S4
      | dict kvs => simp [tame] at td
end
end S1

set_option Elab.async false
set_option linter.all false
set_option maxRecDepth 100000
set_option maxHeartbeats 4000000
/-! where a row stands, and what is seen, as the law reckons -/
namespace S1
open PySem PySem.W PySem.Spec PyProof.Rows L2
def spotD : List Bool → Int
  | [] => 0
  | b :: bs => (if b = true then 1 else 0) + 2 * spotD bs
theorem spot_snoc : ∀ (bs : List Bool) (b : Bool), spotD (bs ++ [b]) = spotD bs + 2 ^ bs.length * (if b = true then 1 else 0)
  | [], b => by simp [spotD]
  | c :: bs, b => by
    have h := spot_snoc bs b
    simp only [List.cons_append, spotD, h, List.length_cons, Int.pow_succ]
    have e : (2 : Int) * (2 ^ bs.length * (if b = true then 1 else 0)) = 2 ^ bs.length * 2 * (if b = true then 1 else 0) := by
      rw [← Int.mul_assoc, Int.mul_comm 2 (2 ^ bs.length)]
    rw [Int.mul_add, e]
    omega
def spSpot : Sp := fun vs H Q _ => ∃ (v : V) (bs : List Bool), vs = [v] ∧ Dat H v (blsD bs) ∧ bs.length ≤ 8 ∧ Q (.int (spotD bs)) H
/-- what a sight has of a play -/
def seesD (ps si : List Str) (bs : List Bool) : List Bool := ((ps.zip bs).filter fun x => decide (x.1 ∈ si)).map Prod.snd
def spSees : Sp := fun vs H Q _ => ∃ (v u y : V) (s : Say) (si : List Str) (bs : List Bool), vs = [v, u, y] ∧ DatS H v s ∧ SayOk 6 8 120 40 s ∧ Dat H u (nmsD si) ∧ Dat H y (blsD bs) ∧ bs.length = s.picks.length ∧
  ∀ (r : V) (H' : Hp), Same H H' → Dat H' r (blsD (seesD s.picks si bs)) → Q r H'
section
variable {P : Program} {w : World} {K : PySem.W.Frag} {mg : Str → Option Value} {base : Heap}
theorem scSpot : FnScope ["row", "total", "at"] ["row"] (defScope sLSpot) := ⟨rfl, rfl, rfl, by decide +kernel, rfl, by decide +kernel, by decide +kernel⟩
theorem scSees : FnScope ["saying", "sight", "play", "at"] ["saying", "sight", "play"] (defScope sLSees) := ⟨rfl, rfl, rfl, by decide +kernel, rfl, by decide +kernel, by decide +kernel⟩
theorem ok_spot {f : Addr} {fd : FuncData} (F : Fun K "_law_spot" "_law_spot" sLSpot f fd) (B : Blt mg) : FnOk P w K mg base CX0 1 f fd ["row"] spSpot := by
  refine F.ok scSpot (fun vs H Q E h => ?_) (fun cdv A outer s H vs Q E hr h => ?_)
  · obtain ⟨v, bs, rfl, _⟩ := h
    rfl
  · obtain ⟨v, bs, rfl, D, len, q⟩ := h
    refine ⟨_, pss_cons (ps_set (i := 1) scSpot.nd rfl (.inl rfl) pe_int)
      (pss_cons (ps_for PassesOwn.never rfl (pi_range1 rfl B.range (pa_cons (pe_callB call_len_seq (by rfl) B.len (by decide +kernel) (pa_cons (pv 0) pa_nil)) pa_nil)) (pg_name (i := 2) scSpot.nd rfl (.inl rfl))
        (pss_one (ps_set (i := 1) scSpot.nd rfl (.inl rfl) (pe_op op_add (pv 1) (pe_op op_mul (pe_op op_shl pe_int (pv 2)) (pe_callTy call_int1 (by rfl) B.int (by decide +kernel) (pa_cons (pe_ix ix_tup (pv 0) (pv 2) (fun _ _ => rfl)) pa_nil)))))))
      (pss_one (ps_ret (pv 1)))), ?_⟩
    obtain ⟨t, rfl, et⟩ := bls_row D
    refine ⟨_, rfl, _, _, rfl, .inr (SqT.of et), _, rfl, by rw [List.length_map]; omega, by rw [List.length_map]; omega, ?_⟩
    refine for_range (lo := 0) (n := ((bs.map V.bl).length : Int).toNat) (fun i σ H' => ∃ o2 : Option V, σ = [some (.ref t), some (.int (spotD (bs.take i))), o2] ∧ H' = H) ⟨_, rfl, rfl⟩ ?_ ?_
    · rintro i σ H' hi ⟨o2, rfl, rfl⟩
      rw [Int.toNat_natCast, List.length_map] at hi
      obtain ⟨b, hb⟩ : ∃ b, bs[i]? = some b := ⟨_, List.getElem?_eq_getElem hi⟩
      have hat : atI (bs.map V.bl) (0 + (i : Int)) = some (.bl b) := by
        rw [Int.zero_add]
        exact atI_nat (by rw [List.getElem?_map, hb]; rfl)
      have lt : (bs.take i).length = i := by rw [List.length_take]; omega
      refine ⟨_, rfl, _, rfl, _, _, rfl, rfl, ⟨by omega, by omega, by decide⟩, _, rfl, _, rfl, t, _, _, _, rfl, rfl, SqT.of et, hat, .inr ⟨b, rfl, _, _, rfl, rfl, ?_, _, _, rfl, rfl, ?_⟩⟩
      · exact .inr (by split <;> decide)
      · refine ⟨some (.int (0 + (i : Int))), ?_, rfl⟩
        have e : spotD (bs.take (i + 1)) = spotD (bs.take i) + 1 * 2 ^ ((0 : Int) + (i : Int)).toNat * (if b = true then 1 else 0) := by
          rw [take_next hb, spot_snoc, lt, Int.zero_add, Int.toNat_natCast, Int.one_mul]
        rw [e]
        rfl
    · rintro σ H' ⟨o2, rfl, rfl⟩
      rw [Int.toNat_natCast, List.length_map, List.take_length]
      exact ⟨_, rfl, q⟩
theorem ok_sees {f : Addr} {fd : FuncData} (F : Fun K "_law_sees" "_law_sees" sLSees f fd) (B : Blt mg) : FnOk P w K mg base CX0 1 f fd ["saying", "sight", "play"] spSees := by
  refine F.ok scSees (fun vs H Q E h => ?_) (fun cdv A outer s H vs Q E hr h => ?_)
  · obtain ⟨v, u, y, sy, si, bs, rfl, _⟩ := h
    rfl
  · obtain ⟨v, u, y, sy, si, bs, rfl, D, ok, Du, Dy, len, q⟩ := h
    refine ⟨_, pss_one (ps_ret (pe_tupleOf rfl B.tuple (pe_lc (own := [("at", 3)]) (g := gName 3) (tt := tTest (tOp (rIn K false) (tOp (rIxT K) (tOp (rIxT K) (tVar 0) (tC (V.int 0))) (tVar 3)) (tVar 1))) (te := tOp (rIxT K) (tVar 2) (tVar 3)) rfl scSees.nd
      (pi_range1 rfl B.range (pa_cons (pe_callB call_len_seq (by rfl) B.len (by decide +kernel) (pa_cons (pv 2) pa_nil)) pa_nil)) (blkOk_by (N := ["saying", "sight", "play", "at"]) (sc := defScope sLSees) (by decide +kernel)) (fun _ _ _ _ _ => pg_name (i := 3) scSees.nd rfl (Or.inl rfl))
      (fun _ _ _ _ _ => by exact pts_one (pt_cmpR op_in_seq (pe_ix ix_tup (pe_ix ix_tup (pv 0) pe_int (fun _ _ => rfl)) (pv 3) (fun _ _ => rfl)) (pv 1) (by with_unfolding_all rfl)))
      (fun _ _ _ _ _ => by exact pe_ix ix_tup (pv 2) (pv 3) (fun _ _ => rfl))))), ?_⟩
    obtain ⟨a, pk, ow, c, rfl, ea, Dp, Do, Dc⟩ := say_row D
    obtain ⟨b, ups, rfl, eb, Db⟩ := dat_tup (ds := sy.picks.map PyData.str) Dp
    cases dats_strs_eq Db
    obtain ⟨e, ues, rfl, ee, De⟩ := dat_tup (ds := si.map PyData.str) Du
    cases dats_strs_eq De
    obtain ⟨t, rfl, et⟩ := bls_row Dy
    have lp := ok.pl
    refine ⟨_, rfl, _, _, rfl, .inr (SqT.of et), _, rfl, by rw [List.length_map]; omega, by rw [List.length_map]; omega, fun D0 hD0 => ?_⟩
    refine lc_range (lo := 0) (n := ((bs.map V.bl).length : Int).toNat) (fun j H4 => H4 D0 = some (.lst ((seesD (sy.picks.take j) si (bs.take j)).map V.bl)) ∧ Same H H4) ⟨upd_same, same_new hD0⟩ ?_ ?_
    · rintro j H4 hj ⟨e4, S4⟩
      rw [Int.toNat_natCast, List.length_map] at hj
      obtain ⟨bb, hb⟩ : ∃ b, bs[j]? = some b := ⟨_, List.getElem?_eq_getElem hj⟩
      obtain ⟨nm, hn⟩ : ∃ b, sy.picks[j]? = some b := ⟨_, List.getElem?_eq_getElem (by omega)⟩
      have at1 : atI (sy.picks.map V.str) (0 + (j : Int)) = some (.str nm) := by
        rw [Int.zero_add]
        exact atI_nat (by rw [List.getElem?_map, hn]; rfl)
      have at2 : atI (bs.map V.bl) (0 + (j : Int)) = some (.bl bb) := by
        rw [Int.zero_add]
        exact atI_nat (by rw [List.getElem?_map, hb]; rfl)
      have ez : (sy.picks.take (j + 1)).zip (bs.take (j + 1)) = (sy.picks.take j).zip (bs.take j) ++ [(nm, bb)] := by
        rw [take_next hn, take_next hb, List.zip_append (by rw [List.length_take, List.length_take]; omega)]
        rfl
      have es : seesD (sy.picks.take (j + 1)) si (bs.take (j + 1)) = seesD (sy.picks.take j) si (bs.take j) ++ if nm ∈ si then [bb] else [] := by
        unfold seesD
        rw [ez, List.filter_append, List.map_append]
        congr 1
        by_cases h : nm ∈ si <;> simp [h]
      have ls : (seesD (sy.picks.take j) si (bs.take j)).length ≤ 6 := by
        unfold seesD
        rw [List.length_map]
        have y1 := List.length_filter_le (fun x : Str × Bool => decide (x.1 ∈ si)) ((sy.picks.take j).zip (bs.take j))
        rw [List.length_zip, List.length_take, List.length_take] at y1
        omega
      refine ⟨rfl, _, rfl, a, _, 0, _, rfl, rfl, SqT.of (S4 _ _ ea), rfl, _, rfl, b, _, _, _, rfl, rfl, SqT.of (S4 _ _ eb), at1, _, rfl, e, _, rfl, .inr (SqT.of (S4 _ _ ee)), rfl, flat_strs si, _, rfl, ?_⟩
      show if inV (V.str nm) (si.map V.str) = true then _ else _
      rw [inV_str]
      refine ite2 (fun h => ?_) (fun h => ?_)
      · have hm : nm ∈ si := of_decide_eq_true h
        refine ⟨_, rfl, _, rfl, t, _, _, _, rfl, rfl, SqT.of (S4 _ _ et), at2, _, e4, by rw [List.length_map]; exact small1000 (by omega), ?_, same_upd S4 hD0⟩
        rw [upd_same, es, if_pos hm, List.map_append]
        rfl
      · have hm : nm ∉ si := fun m => h (decide_eq_true m)
        refine ⟨?_, S4⟩
        rw [es, if_neg hm, List.append_nil]
        exact e4
    · rintro H4 ⟨e4, S4⟩
      rw [Int.toNat_natCast, List.length_map, List.take_length, len, List.take_length] at e4
      refine .inl ⟨D0, _, rfl, SqL.of e4, fun t1 ht1 => ?_⟩
      exact q _ _ (S4.trans (same_new ht1)) (.tup upd_same (dats_bls _))
end
end S1

set_option Elab.async false
set_option linter.all false
set_option maxRecDepth 100000
set_option maxHeartbeats 4000000
/-! a call of a def by keywords alone -/
namespace S1
open PySem PySem.W PySem.Spec PyProof.Rows L2
/-- how a call by keywords alone binds: g puts their values in the parameters' order -/
structure KB0 (K : PySem.W.Frag) (fd : FuncData) (ps ks : List Str) (g : List Value → List Value) (gV : List V → List V) : Prop where
  to : ∀ (s : Shared) (ws : List Value), K.In s.heap → ws.length = ks.length → BindsTo s fd ⟨[], ks.zip ws⟩ (ps.zip (g ws))
  rel : ∀ {zs : List V} {ws : List Value}, Vals zs ws → Vals (gV zs) (g ws)
def tCallK0 (sp : Sp) (gV : List V → List V) (n : Nat) (E : XK) (tk : TA) : TE := fun σ H Q => tk σ H fun zs H2 => zs.length = n ∧ sp (gV zs) H2 Q E
section
variable {X : Cx} {CX : CXT} {k : Nat} {f : Addr} {fd : FuncData} {ps ks : List Str} {sp : Sp} {E : XK} {x : Str} {p pos : Pos} {kws : List Keyword} {tk : TA} {g : List Value → List Value} {gV : List V → List V}
theorem run_fnk0 {pins : List (Addr × Obj)} {σ : L2.St} {H : Hp} {s : Shared} {Q : VK} {ws : List Value} {zs : List V} (F : FnOk X.prog X.w X.K X.mg X.base CX k f fd ps sp) (hr : Room k X.A) (hb : KB0 X.K fd ps ks g gV) (hx : Passes CX X E)
    (I : Inv X pins σ H s) (rz : Vals zs ws) (hn : zs.length = ks.length) (h : sp (gV zs) H Q E) : wpAny (model X.prog X.w) X.A (call (.ref f) [] (ks.zip ws)) (EP X pins σ Q) X.xe s := by
  have r2 := hb.rel rz
  have hl : ws.length = ks.length := by rw [← rz.length]; exact hn
  refine wpAny_call (codeAny_mono (F.run X.A X.stack s H ⟨[], ks.zip ws⟩ (g ws) (gV zs) Q E hr I.env0 (hb.to s ws I.kIn hl) r2 h) fun r s' hq => ?_)
  cases r with
  | error e => exact hx pins σ H s e s' I hq
  | ok fl =>
    cases fl with
    | ret u => exact I.after hq
    | next => exact False.elim hq
    | brk => exact False.elim hq
    | cont => exact False.elim hq
/-- f(k = v, ..) -/
theorem pe_callK0 (F : FnOk X.prog X.w X.K X.mg X.base CX k f fd ps sp) (hr : Room k X.A) (hg : Gl X x) (hm : X.mg x = some (.ref f)) (hk : PySem.W.keepIn X.K (.ref f) = true) (hb : KB0 X.K fd ps ks g gV) (hx : Passes CX X E)
    (hkw : PK X kws tk) (hall : (backToKw pos (keywordEach kws X.env)).all (·.1.isSome) = true := by rfl) (hks : (backToKw pos (keywordEach kws X.env)).filterMap (·.1) = ks := by rfl)
    (hdb : (x == ("__debug__" : Str)) = false := by decide)
    (hpl : ((backTo pos (starEach [] X.env)).any (·.1) || (backToKw pos (keywordEach kws X.env)).any (·.1.isNone)) = false := by rfl) :
    PE X (.Call (.Name x p) [] kws pos) (tCallK0 sp gV ks.length E tk) := by
  refine ⟨fun pins s σ H Q I h => ?_⟩
  refine wpAny_Call_Name_kw (ld_glob I hg hm ?_ hdb)
  refine PySem.W.callWith_KW0 (h₀ := X.base) I.ok.mod.kin hk hall (thn (hkw.run pos pins s σ H _ I h) fun ws s2 ⟨zs, H2, I2, rz, hn, q2⟩ => ⟨I2.kIn, ?_⟩) hpl
  rw [hks]
  exact run_fnk0 F hr hb hx I2 rz hn q2
end
section
variable {K : PySem.W.Frag}
theorem vals_rev {zs : List V} {ws : List Value} (h : Vals zs ws) : Vals zs.reverse ws.reverse := by
  induction h with
  | nil => exact .nil
  | cons a b ih =>
    rw [List.reverse_cons, List.reverse_cons]
    exact Vals.append ih (.cons a .nil)
/-- the keywords in the parameters' order -/
theorem Fun.kb1 {x qual a : Str} {st : Stmt} {f : Addr} {fd : FuncData} (F : Fun K x qual st f fd)
    (h : ∀ (kV doc pm : Value) (an : Option Addr) (cdv ct u : Value), bindArgs (PySem.W.fnOf x qual (defArgs st) (defBody st) (defScope st) .none kV doc pm an cdv ct) ⟨[], [(a, u)]⟩ = pure [(a, u)]) : KB0 K fd [a] [a] id id := by
  obtain ⟨oc, od, kV, doc, pm, an, cdv, ct, osl, rfl, lk, hcd⟩ := F.ex
  refine ⟨fun s ws X l => ?_, fun r => r⟩
  match ws, l with
  | [u], _ => exact .of_eq (h kV doc pm an cdv ct u)
/-- three keywords, the last first -/
theorem Fun.kb3 {x qual a b c : Str} {st : Stmt} {f : Addr} {fd : FuncData} (F : Fun K x qual st f fd)
    (h : ∀ (kV doc pm : Value) (an : Option Addr) (cdv ct u v z : Value), bindArgs (PySem.W.fnOf x qual (defArgs st) (defBody st) (defScope st) .none kV doc pm an cdv ct) ⟨[], [(c, u), (b, v), (a, z)]⟩ = pure [(a, z), (b, v), (c, u)]) : KB0 K fd [a, b, c] [c, b, a] List.reverse List.reverse := by
  obtain ⟨oc, od, kV, doc, pm, an, cdv, ct, osl, rfl, lk, hcd⟩ := F.ex
  refine ⟨fun s ws X l => ?_, fun r => ?_⟩
  · match ws, l with
    | [u, v, z], _ => exact .of_eq (h kV doc pm an cdv ct u v z)
  · exact vals_rev r
end
end S1

set_option Elab.async false
set_option linter.all false
set_option maxRecDepth 100000
set_option maxHeartbeats 4000000
/-! the truths of a play by their picks, and what is seen of them -/
namespace S1
open PySem PySem.W PySem.Spec PyProof.Rows L2
theorem mergeK_new : ∀ (more kvs : List (Key × V)), (∀ p ∈ more, ∀ q ∈ kvs, q.1 ≠ p.1) → (more.map Prod.fst).Nodup → mergeK kvs more = kvs ++ more
  | [], kvs, _, _ => by rw [List.append_nil]; rfl
  | p :: more, kvs, h, nd => by
    have nd' := List.nodup_cons.mp (by simpa using nd : (p.1 :: more.map Prod.fst).Nodup)
    have no : (kvs.any fun kv => decide (kv.1 = p.1)) = false := by
      rw [List.any_eq_false]
      intro q hq z
      exact h p List.mem_cons_self q hq (of_decide_eq_true z)
    have e : putK kvs p.1 p.2 = kvs ++ [p] := by unfold putK; rw [no]; rfl
    show mergeK (putK kvs p.1 p.2) more = kvs ++ p :: more
    rw [e, mergeK_new more _ (fun x hx q hq => ?_) nd'.2, List.append_assoc]
    · rfl
    · rcases List.mem_append.mp hq with hq | hq
      · exact h x (List.mem_cons_of_mem _ hx) q hq
      · cases List.mem_singleton.mp hq
        intro z
        exact nd'.1 (List.mem_map.mpr ⟨x, hx, z.symm⟩)
/-- the picks' truths -/
def truK (picks : List Str) (bs : List Bool) : List (Key × V) := (picks.map Sum.inr).zip (bs.map V.bl)
/-- the truth of one of the picks -/
def truOf (picks : List Str) (bs : List Bool) (x : Str) : Option Bool := ((picks.zip bs).find? fun p => decide (p.1 = x)).map Prod.snd
theorem tru_val (x : Str) : ∀ (picks : List Str) (bs : List Bool), valV (truK picks bs) (.inr x) = (truOf picks bs x).map V.bl
  | [], _ => rfl
  | _ :: _, [] => rfl
  | y :: picks, b :: bs => by
    have ih := tru_val x picks bs
    unfold truOf at ih ⊢
    show valV ((Sum.inr y, V.bl b) :: truK picks bs) (.inr x) = _
    by_cases e : y = x
    · rw [valV_pos (p := (Sum.inr y, V.bl b)) (by rw [e])]
      simp [e]
    · rw [valV_neg (p := (Sum.inr y, V.bl b)) (fun z => e (Sum.inr.inj z)), ih]
      simp [e]
theorem fst_sub : ∀ (a : List Key) (b : List V), ((a.zip b).map Prod.fst).Sublist a
  | [], _ => by simp
  | x :: a, [] => by simp
  | x :: a, y :: b => by
    show (x :: (a.zip b).map Prod.fst).Sublist (x :: a)
    exact (fst_sub a b).cons₂ x
theorem tru_merge {picks : List Str} (bs : List Bool) (nd : picks.Nodup) : mergeK [] (truK picks bs) = truK picks bs := by
  refine mergeK_new _ [] (fun _ _ q hq => absurd hq (by simp)) ?_
  unfold truK
  have h : (picks.map (Sum.inr : Str → Key)).Nodup := by
    unfold List.Nodup at nd ⊢
    rw [List.pairwise_map]
    exact nd.imp fun h z => h (Sum.inr.inj z)
  exact h.sublist (fst_sub _ _)
def spTruthsAt : Sp := fun vs H Q _ => ∃ (v u : V) (sy : Say) (bs : List Bool), vs = [v, u] ∧ DatS H v sy ∧ Dat H u (blsD bs) ∧ sy.picks.Pairwise tlt ∧ bs.length = sy.picks.length ∧ ∀ p, H p = none → Q (.ref p) (upd H p (.dK (truK sy.picks bs)))
section
variable {P : Program} {w : World} {K : PySem.W.Frag} {mg : Str → Option Value} {base : Heap}
theorem scTruthsAt : FnScope ["saying", "play"] ["saying", "play"] (defScope sTruthsAt) := ⟨rfl, rfl, rfl, by decide +kernel, rfl, by decide +kernel, by decide +kernel⟩
theorem ok_truthsAt {f : Addr} {fd : FuncData} (F : Fun K "truths_at" "truths_at" sTruthsAt f fd) (B : Blt mg) : FnOk P w K mg base CX0 1 f fd ["saying", "play"] spTruthsAt := by
  refine F.ok scTruthsAt (fun vs H Q E h => ?_) (fun cdv A outer s H vs Q E hr h => ?_)
  · obtain ⟨v, u, sy, bs, rfl, _⟩ := h
    rfl
  · obtain ⟨v, u, sy, bs, rfl, D, Dp, up, hl, q⟩ := h
    refine ⟨_, pss_one (ps_ret (pe_dictZip rfl (by rfl) B.dict (by rfl) B.zip (pa_cons (pe_ix ix_tup (pv 0) pe_int (fun _ _ => rfl)) (pa_cons (pv 1) pa_nil)))), ?_⟩
    obtain ⟨a, pk, ow, c, rfl, ea, Dk, _, _⟩ := say_row D
    obtain ⟨b, ups, rfl, eb, Db⟩ := dat_tup (ds := sy.picks.map PyData.str) Dk
    cases dats_strs_eq Db
    obtain ⟨t, us, rfl, et, Dt⟩ := dat_tup (ds := bs.map PyData.bool) Dp
    cases dats_bls_eq Dt
    refine ⟨_, rfl, a, _, 0, _, rfl, rfl, SqT.of ea, rfl, _, rfl, b, t, sy.picks.map Sum.inr, bs.map V.bl, rfl, ?_, SqT.of et, by rw [List.length_map, List.length_map, hl], fun p hp => ?_⟩
    · rw [List.map_map]
      exact SqT.of eb
    · show Q (.ref p) (upd H p (.dK (mergeK [] (truK sy.picks bs))))
      rw [tru_merge bs (nodup_tlt up)]
      exact q p hp
end
end S1

set_option Elab.async false
set_option linter.all false
set_option maxRecDepth 100000
set_option maxHeartbeats 4000000
/-! what an own sees of a play, as the program tells it -/
namespace S1
open PySem PySem.W PySem.Spec PyProof.Rows L2
theorem tlt_asym {x y : Str} (h : tlt x y) (h' : tlt y x) : False := tlt_irrefl x (by
  unfold tlt at h h' ⊢
  exact List.lt_trans h h')
theorem tru_pos {p : Str} {ps : List Str} {b : Bool} {bs : List Bool} : truOf (p :: ps) (b :: bs) p = some b := by simp [truOf]
theorem tru_neg {p x : Str} {ps : List Str} {b : Bool} {bs : List Bool} (h : p ≠ x) : truOf (p :: ps) (b :: bs) x = truOf ps bs x := by simp [truOf, h]
theorem sees_skip (s : Str) : ∀ (ps si : List Str) (bs : List Bool), s ∉ ps → seesD ps (s :: si) bs = seesD ps si bs := fun ps si bs h => by
  unfold seesD
  congr 1
  refine List.filter_congr fun x hx => ?_
  have hm : x.1 ∈ ps := (List.of_mem_zip (show (x.1, x.2) ∈ ps.zip bs from hx)).1
  have hne : x.1 ≠ s := fun e => h (e ▸ hm)
  simp [hne]
/-- the truths of the picks that are seen, pick by pick -/
theorem sees_is : ∀ (ps si : List Str) (bs : List Bool), ps.Pairwise tlt → si.Pairwise tlt → (∀ x ∈ si, x ∈ ps) → bs.length = ps.length → si.map (fun x => truOf ps bs x) = (seesD ps si bs).map some
  | [], si, bs, _, _, sub, _ => by
    cases si with
    | nil => rfl
    | cons x si => exact absurd (sub x List.mem_cons_self) (by simp)
  | p :: ps, si, [], _, _, _, l => by simp at l
  | p :: ps, [], b :: bs, _, _, _, _ => by
    have e : seesD (p :: ps) [] (b :: bs) = [] := by simp [seesD]
    rw [e]
    rfl
  | p :: ps, s :: si, b :: bs, up, us, sub, l => by
    have up' := List.pairwise_cons.mp up
    have us' := List.pairwise_cons.mp us
    have pn : p ∉ ps := fun h => tlt_irrefl p (up'.1 p h)
    have l' : bs.length = ps.length := by simpa using l
    by_cases e : p = s
    · subst e
      have ne : ∀ x ∈ si, p ≠ x := fun x hx z => tlt_irrefl p (by have := us'.1 x hx; rwa [← z] at this)
      have sub' : ∀ x ∈ si, x ∈ ps := fun x hx => (List.mem_cons.mp (sub x (List.mem_cons_of_mem _ hx))).elim (fun z => absurd z.symm (ne x hx)) id
      have e1 : seesD (p :: ps) (p :: si) (b :: bs) = b :: seesD ps (p :: si) bs := by simp [seesD]
      rw [e1, sees_skip p ps si bs pn, List.map_cons, List.map_cons, tru_pos, ← sees_is ps si bs up'.2 us'.2 sub' l']
      congr 1
      exact List.map_congr_left fun x hx => tru_neg (ne x hx)
    · have sp : s ∈ ps := (List.mem_cons.mp (sub s List.mem_cons_self)).elim (fun z => absurd z.symm e) id
      have ne : ∀ x ∈ s :: si, p ≠ x := fun x hx z => by
        rcases List.mem_cons.mp hx with h | h
        · exact e (z.trans h)
        · exact tlt_asym (up'.1 s sp) (by have := us'.1 x h; rwa [← z] at this)
      have sub' : ∀ x ∈ s :: si, x ∈ ps := fun x hx => (List.mem_cons.mp (sub x hx)).elim (fun z => absurd z.symm (ne x hx)) id
      have e1 : seesD (p :: ps) (s :: si) (b :: bs) = seesD ps (s :: si) bs := by
        have z : p ∉ s :: si := fun h => ne p h rfl
        simp only [seesD, List.zip_cons_cons]
        rw [List.filter_cons_of_neg (by simpa using z)]
      rw [e1, ← sees_is ps (s :: si) bs up'.2 us sub' l']
      exact List.map_congr_left fun x hx => tru_neg (ne x hx)
def spSeenBy : Sp := fun vs H Q _ => ∃ (v : V) (d : Addr) (ps si : List Str) (bs : List Bool), vs = [v, .ref d] ∧ Dat H v (nmsD si) ∧ Rd H d (.dK (truK ps bs)) ∧ ps.Pairwise tlt ∧ si.Pairwise tlt ∧ (∀ x ∈ si, x ∈ ps) ∧ bs.length = ps.length ∧ si.length ≤ 1000 ∧
  ∀ (r : V) (H' : Hp), Same H H' → Dat H' r (blsD (seesD ps si bs)) → Q r H'
section
variable {P : Program} {w : World} {K : PySem.W.Frag} {mg : Str → Option Value} {base : Heap}
theorem scSeenBy : FnScope ["sight", "truths", "pick"] ["sight", "truths"] (defScope sSeenBy) := ⟨rfl, rfl, rfl, by decide +kernel, rfl, by decide +kernel, by decide +kernel⟩
theorem same_rd {H H' : Hp} {a : Addr} {u : HO} (S : Same H H') (h : Rd H a u) : Rd H' a u := h.elim (fun e => .inl (S _ _ e)) fun ⟨o, e⟩ => .inr ⟨o, S _ _ e⟩
theorem ok_seenBy {f : Addr} {fd : FuncData} (F : Fun K "seen_by" "seen_by" sSeenBy f fd) (B : Blt mg) : FnOk P w K mg base CX0 1 f fd ["sight", "truths"] spSeenBy := by
  refine F.ok scSeenBy (fun vs H Q E h => ?_) (fun cdv A outer s H vs Q E hr h => ?_)
  · obtain ⟨v, d, ps, si, bs, rfl, _⟩ := h
    rfl
  · obtain ⟨v, d, ps, si, bs, rfl, D, hd, up, us, sub, hl, len, q⟩ := h
    have hu : (A.deeper (envOfC "seen_by" (defScope sSeenBy) s.heap.objs.size f cdv)).units + 1 < cLine := by
      have h64 : (A.deeper (envOfC "seen_by" (defScope sSeenBy) s.heap.objs.size f cdv)).units + 64 < cLine := hr.units
      omega
    refine ⟨_, pss_one (ps_ret (pe_tupleOf rfl B.tuple (pe_lc (own := [("pick", 2)]) (g := gName 2) (tt := tYes) (te := tDGet (tVar 1) (tVar 2)) rfl scSeenBy.nd
      (pi_tup (pv 0)) (blkOk_by (N := ["sight", "truths", "pick"]) (sc := defScope sSeenBy) (by decide +kernel)) (fun _ _ _ _ _ => pg_name (i := 2) scSeenBy.nd rfl (Or.inl rfl))
      (fun _ _ _ _ _ => pts_nil) (fun _ _ _ _ _ => by exact pe_dget (by exact hu) (pv 1) (pv 2) (fun _ _ => rfl))))), ?_⟩
    obtain ⟨a, us', rfl, ea, Da⟩ := dat_tup (ds := si.map PyData.str) D
    cases dats_strs_eq Da
    have e0 := sees_is ps si bs up us sub hl
    have l0 : (seesD ps si bs).length = si.length := by
      have := congrArg List.length e0
      simpa using this.symm
    refine ⟨_, rfl, a, rfl, ⟨_, SqT.of ea⟩, fun D0 hD0 => lc_mapT (K := K) (ys := (seesD ps si bs).map V.bl) (SqT.of ea) hD0 (by rw [List.length_map, List.length_map, l0]) (by rw [List.length_map]; exact len) (fun i x y H4 Qe hx hy S4 k => ?_) gName_mono (fun H6 e6 S6 => ?_)⟩
    · rw [List.getElem?_map] at hx hy
      obtain ⟨n, hn, rfl⟩ := Option.map_eq_some_iff.mp hx
      obtain ⟨b, hb, rfl⟩ := Option.map_eq_some_iff.mp hy
      have z : truOf ps bs n = some b := by
        have h1 : (si.map (fun x => truOf ps bs x))[i]? = some (truOf ps bs n) := by rw [List.getElem?_map, hn]; rfl
        have h2 : ((seesD ps si bs).map some)[i]? = some (some b) := by rw [List.getElem?_map, hb]; rfl
        rw [e0, h2] at h1
        exact (Option.some.inj h1).symm
      refine ⟨rfl, _, rfl, _, rfl, d, .bl b, rfl, .inl ⟨truK ps bs, .inr n, same_rd S4 hd, rfl, ?_⟩, k H4 (Same.refl _)⟩
      rw [tru_val, z]
      rfl
    · exact .inl ⟨D0, _, rfl, SqL.of e6, fun t1 ht1 => q _ _ (S6.trans (same_new ht1)) (.tup upd_same (dats_bls _))⟩
end
end S1

set_option Elab.async false
set_option linter.all false
set_option maxRecDepth 100000
set_option maxHeartbeats 2000000
namespace L2
open PySem PySem.Spec PyProof.Rows RZ
/-- a comprehension over zip of two tuples of one length -/
theorem lc_zipT {K : PySem.W.Frag} {a b : Addr} {xs ys : List V} {g : TG} {tt : TT} {te : TE} {vs : List Nat} {σ : L2.St} {H1 : Hp} {D : Addr} {Qd : Hp → Prop} (hl : xs.length = ys.length) (Pv : Nat → Hp → Prop) (h0 : Pv 0 (upd H1 D (.lst []))) (hq : ∀ i H, Pv i H → SqT K H a xs ∧ SqT K H b ys)
    (hs : ∀ (i : Nat) (x y : V) (H : Hp) (T : Addr), xs[i]? = some x → ys[i]? = some y → Pv i H → H T = none → g (.ref T) (wipe σ vs) (upd H T (.tup [x, y])) fun σ2 H2 => wipe σ2 vs = wipe σ vs ∧ tt σ2 H2 fun b H3 =>
      if b = true then te σ2 H3 fun y H4 => ∃ acc, H4 D = some (.lst acc) ∧ acc.length < sizeLine ∧ Pv (i + 1) (upd H4 D (.lst (acc ++ [y]))) else Pv (i + 1) H3) (hd : ∀ H, Pv xs.length H → Qd H) :
    ∃ W : Nat → Nat → Hp → Prop, (∃ m, W 0 m (upd H1 D (.lst []))) ∧ ∀ i m H, W i m H →
      ((ItzT K a b).stop i H ∧ Qd H) ∨ ((ItzT K a b).go i H ∧ ∃ Nx : Hp → Prop, (∀ H', Nx H' → ∃ m', m' < m ∧ W (i + 1) m' H') ∧ ∀ x H', (ItzT K a b).yld i H x H' → g x (wipe σ vs) H' fun σ2 H2 => wipe σ2 vs = wipe σ vs ∧ tt σ2 H2 fun b H3 =>
        if b = true then te σ2 H3 fun y H4 => ∃ acc, H4 D = some (.lst acc) ∧ acc.length < sizeLine ∧ Nx (upd H4 D (.lst (acc ++ [y]))) else Nx H3) := by
  refine ⟨fun i m H => m = xs.length - i ∧ i ≤ xs.length ∧ Pv i H, ⟨xs.length, rfl, Nat.zero_le _, h0⟩, ?_⟩
  rintro i m H ⟨rfl, hi, p⟩
  obtain ⟨qx, qy⟩ := hq i H p
  by_cases hlt : i < xs.length
  · have hx : xs[i]? = some xs[i] := List.getElem?_eq_getElem hlt
    have hlt2 : i < ys.length := by omega
    have hy : ys[i]? = some ys[i] := List.getElem?_eq_getElem hlt2
    refine .inr ⟨⟨xs, ys, _, _, qx, qy, hx, hy⟩, Pv (i + 1), fun H' p' => ⟨xs.length - (i + 1), by omega, rfl, hlt, p'⟩, ?_⟩
    rintro v H' ⟨T, x', y', rfl, hT, rfl, f1, f2⟩
    exact hs i x' y' H T (f1 xs qx) (f2 ys qy) p hT
  · obtain rfl : i = xs.length := by omega
    exact .inl ⟨⟨xs, ys, qx, qy, Or.inl (Nat.le_refl _)⟩, hd H p⟩
end L2
/-! answers, and lists of truths: told to be such -/
namespace S1
open PySem PySem.W PySem.Spec PyProof.Rows L2 RZ
abbrev Tbl := List Bool
def ansT (an : List Tbl) : PyData := .tuple (an.map blsD)
structure AnsOk (os : List Own) (an : List Tbl) : Prop where
  len : an.length = os.length
  tbl : ∀ (i : Nat) (o : Own) (t : Tbl), os[i]? = some o → an[i]? = some t → t.length = 2 ^ o.2.length
theorem keyable_ans (an : List Tbl) : keyable (ansT an) = true := by
  show keyables (an.map blsD) = true
  exact keyables_map blsD keyable_bls an
theorem shl_len {o : Own} {t : Tbl} (h : t.length = 2 ^ o.2.length) : (1 : Int) * 2 ^ ((o.2.map V.str).length : Int).toNat = (t.length : Int) := by
  rw [h, List.length_map, Int.toNat_natCast, Int.one_mul]
  push_cast
  rfl
def spFitsAnswers : Sp := fun vs H Q _ => ∃ (v u : V) (s : Say) (an : List Tbl), vs = [v, u] ∧ DatS H v s ∧ Dat H u (ansT an) ∧ SayOk 6 8 120 40 s ∧ AnsOk s.owns an ∧ ∀ H', Same H H' → Q (.bl true) H'
def spFitsRows : Sp := fun vs H Q _ => ∃ (v : V) (r : Addr) (s : Say) (bs : List Bool), vs = [v, .ref r] ∧ DatS H v s ∧ H r = some (.lst (bs.map V.bl)) ∧ SayOk 6 8 120 40 s ∧ bs.length = copies s.owns ∧ ∀ H', Same H H' → Q (.bl true) H'
def spWantAnswers : Sp := fun vs H Q _ => ∃ (v u : V) (s : Say) (an : List Tbl), vs = [v, u] ∧ DatS H v s ∧ Dat H u (ansT an) ∧ SayOk 6 8 120 40 s ∧ AnsOk s.owns an ∧ ∀ H', Same H H' → Q .non H'
def spWantRows : Sp := fun vs H Q _ => ∃ (v : V) (r : Addr) (s : Say) (bs : List Bool), vs = [v, .ref r] ∧ DatS H v s ∧ H r = some (.lst (bs.map V.bl)) ∧ SayOk 6 8 120 40 s ∧ bs.length = copies s.owns ∧ ∀ H', Same H H' → Q .non H'
abbrev nFA : List Str := ["saying", "value", "owns", "own", "table"]
section
variable {P : Program} {w : World} {K : PySem.W.Frag} {mg : Str → Option Value} {base : Heap}
theorem scFitsAnswers : FnScope nFA ["saying", "value"] (defScope sFitsAnswers) := ⟨rfl, rfl, rfl, by decide +kernel, rfl, by decide +kernel, by decide +kernel⟩
theorem scFitsRows : FnScope ["saying", "value", "own"] ["saying", "value"] (defScope sFitsRows) := ⟨rfl, rfl, rfl, by decide +kernel, rfl, by decide +kernel, by decide +kernel⟩
theorem scWantAnswers : FnScope ["saying", "answers"] ["saying", "answers"] (defScope sWantAnswers) := ⟨rfl, rfl, rfl, by decide +kernel, rfl, by decide +kernel, by decide +kernel⟩
theorem scWantRows : FnScope ["saying", "rows"] ["saying", "rows"] (defScope sWantRows) := ⟨rfl, rfl, rfl, by decide +kernel, rfl, by decide +kernel, by decide +kernel⟩
theorem ok_fitsAnswers {f : Addr} {fd : FuncData} (F : Fun K "fits_answers" "fits_answers" sFitsAnswers f fd) (e : Env1 K mg) : FnOk P w K mg base CX0 3 f fd ["saying", "value"] spFitsAnswers := by
  obtain ⟨fT, fdT, Tr, GT⟩ := g_areTruths (P := P) (w := w) (base := base) e
  refine F.ok scFitsAnswers (fun vs H Q E h => ?_) (fun cdv A outer s H vs Q E hr h => ?_)
  · obtain ⟨v, u, sy, an, rfl, _⟩ := h
    rfl
  · obtain ⟨v, u, sy, an, rfl, D, Du, ok, ao, q⟩ := h
    refine ⟨_, pss_cons (ps_set (i := 2) scFitsAnswers.nd rfl (.inl rfl) (pe_ix ix_tup (pv 0) pe_int (fun _ _ => rfl)))
      (pss_cons (ps_if (PW.pt (pw_or (pt_not (pt_val (pe_callB call_isi (by rfl) e.B.isi (by decide +kernel) (pa_cons (pv 1) (pa_cons (pe_bltn (v := V.ty "tuple") (by rfl) e.B.tuple (by decide +kernel) rfl) pa_nil)))))
        (pw_or1 (pt_cmpR op_ne (pe_callB call_len_seq (by rfl) e.B.len (by decide +kernel) (pa_cons (pv 1) pa_nil)) (pe_callB call_len_seq (by rfl) e.B.len (by decide +kernel) (pa_cons (pv 2) pa_nil)) (nomark _))))) (pss_one (ps_ret pe_bl)) pss_nil)
      (pss_one (ps_ret (pe_callB (cr_all rfl) (by rfl) e.B.all (by decide +kernel) (pa_cons (pe_lc (own := [("own", 3), ("table", 4)]) (g := gTup K 2 (gCons (gName 3) (gCons (gName 4) gNil))) (tt := tYes)
          (te := tCall spAreTruths [] E0 (tCons (tVar 4) (tCons (tOp (rI CPow fun i j => V.int (i * 2 ^ j.toNat)) (tC (V.int 1)) (tCB (fun xs H Q => ∃ p ys, xs = [V.ref p] ∧ (SqL K H p ys ∨ SqT K H p ys) ∧ Q (V.int ys.length) H) (tCons (tOp (rIxT K) (tVar 3) (tC (V.int 1))) tNil))) tNil))) rfl scFitsAnswers.nd
          (pi_zipA (by rfl) e.B.zip (pa_cons (pv 2) (pa_cons (pv 1) pa_nil))) (blkOk_by (N := nFA) (sc := defScope sFitsAnswers) (by decide +kernel))
          (fun _ _ _ _ _ => by exact pg_tup rfl (pgs_cons (pg_name (i := 3) scFitsAnswers.nd rfl (.inl rfl)) (pgs_cons (pg_name (i := 4) scFitsAnswers.nd rfl (.inl rfl)) pgs_nil))) (fun _ _ _ _ _ => pts_nil)
          (fun _ _ _ _ _ => by exact pe_call GT (by exact hr) (by rfl) Tr.g Tr.F.kp Tr.b .nil pass0 (pa_cons (pv 4) (pa_cons (pe_op op_shl pe_int (pe_callB call_len_seq (by rfl) e.B.len (by decide +kernel) (pa_cons (pe_ix ix_tup (pv 3) pe_int (fun _ _ => rfl)) pa_nil))) pa_nil)))) pa_nil))))), ?_⟩
    obtain ⟨a, pk, ow, c, rfl, ea, Dk, ⟨b, us, rfl, eb, Db⟩, Dc⟩ := say_row D
    obtain ⟨t, ts, rfl, et, Dt⟩ := dat_tup (ds := an.map blsD) Du
    have lu : us.length = sy.owns.length := by rw [Db.len, List.length_map]
    have lt : ts.length = an.length := by rw [Dt.len, List.length_map]
    have lo := ok.ol
    have le : ts.length = us.length := by rw [lt, lu, ao.len]
    refine ⟨_, rfl, a, _, 1, _, rfl, rfl, SqT.of ea, rfl, ?_⟩
    refine ⟨_, rfl, _, _, _, _, true, rfl, .ty _, .base (.tup et), kit_ty (by decide +kernel), true, rfl, ?_⟩
    show if (!true) = true then _ else _
    rw [if_neg (by decide)]
    refine ⟨_, rfl, _, _, rfl, .inr (SqT.of et), _, rfl, _, _, rfl, .inr (FT.sq eb), rfl, _, rfl, iteNS (by rw [le]) ?_⟩
    refine ⟨_, rfl, _, rfl, b, t, us, ts, rfl, .inr ⟨FT.sq eb, SqT.of et, fun D0 hD0 => ?_⟩⟩
    refine lc_zipT (K := K) (a := b) (b := t) (xs := us) (ys := ts) le.symm (fun i H4 => H4 D0 = some (trues i) ∧ Same H H4) ⟨upd_same, same_new hD0⟩ (fun i H4 h => ⟨FT.sq (eb.same h.2), SqT.of (h.2 _ _ et)⟩) ?_ ?_
    · rintro i x y H4 T hx hy ⟨e4, S4⟩ hT
      obtain ⟨d, hd, Dx⟩ := dats_get' Db i x hx
      obtain ⟨o, ho, rfl⟩ := get_map hd
      obtain ⟨to, rfl⟩ := tuple_ref (ds := [.str o.1, nmsD o.2]) Dx
      obtain ⟨t', g1, g2⟩ := own_row (q := (to, ownD o)) rfl Dx
      obtain ⟨d2, hd2, Dy⟩ := dats_get' Dt i y hy
      obtain ⟨tb, htb, rfl⟩ := get_map hd2
      have il : i < us.length := (List.getElem?_eq_some_iff.mp hx).1
      have hz := ao.tbl i o tb ho htb
      have og := (ok.own (List.mem_of_getElem? ho)).le
      have opl := ok.pl
      have S5 := S4.trans (same_new (o := .tup [V.ref to, y]) hT)
      have small : 2 ^ o.2.length ≤ 2 ^ 6 := Nat.pow_le_pow_right (by decide) (by omega)
      refine ⟨T, _, rfl, SqT.of upd_same, rfl, _, _, rfl, _, _, rfl, rfl, rfl, yes_of ?_⟩
      refine ⟨_, rfl, _, rfl, to, _, 1, _, rfl, rfl, SqT.of (S5 _ _ g1), rfl, t', _, rfl, .inr (SqT.of (S5 _ _ g2)), _, _, rfl, rfl, ⟨by omega, by rw [List.length_map]; omega, by decide⟩, ?_⟩
      refine ⟨y, tb, by show [y, V.int (1 * 2 ^ ((o.2.map V.str).length : Int).toNat)] = _; rw [shl_len hz], Dy.same S5, by omega, fun H6 S6 => ?_⟩
      have e6 : H6 D0 = some (trues i) := S6 _ _ ((same_new (o := .tup [V.ref to, y]) hT) _ _ e4)
      exact ⟨_, e6, by rw [List.length_map, List.length_replicate]; exact small1000 (by omega), trues_next e6, same_upd (S5.trans S6) hD0⟩
    · rintro H5 ⟨e5, S5⟩
      refine ⟨D0, _, rfl, SqL.of e5, ?_⟩
      show Q (.bl _) H5
      rw [trues_all]
      exact q H5 S5
theorem ok_fitsRows {f : Addr} {fd : FuncData} (F : Fun K "fits_rows" "fits_rows" sFitsRows f fd) (e : Env1 K mg) : FnOk P w K mg base CX0 3 f fd ["saying", "value"] spFitsRows := by
  obtain ⟨fT, fdT, Tr, GT⟩ := g_areTruths (P := P) (w := w) (base := base) e
  refine F.ok scFitsRows (fun vs H Q E h => ?_) (fun cdv A outer s H vs Q E hr h => ?_)
  · obtain ⟨v, r, sy, bs, rfl, _⟩ := h
    rfl
  · obtain ⟨v, r, sy, bs, rfl, D, er, ok, hl, q⟩ := h
    refine ⟨_, pss_cons (ps_if (pt_not (pt_val (pe_callB call_isi (by rfl) e.B.isi (by decide +kernel) (pa_cons (pv 1) (pa_cons (pe_bltn (v := V.ty "list") (by rfl) e.B.list (by decide +kernel) rfl) pa_nil))))) (pss_one (ps_ret pe_bl)) pss_nil)
      (pss_one (ps_ret (pe_call GT hr rfl Tr.g Tr.F.kp Tr.b .nil pass0 (pa_cons (pe_tupleOf rfl e.B.tuple (pv 1)) (pa_cons (pe_callB (cr_sum rfl) (by rfl) e.B.sum (by decide +kernel) (pa_cons (pe_lc (own := [("own", 2)]) (g := gName 2) (tt := tYes)
            (te := tOp (rI CPow fun i j => V.int (i * 2 ^ j.toNat)) (tC (V.int 1)) (tCB (fun xs H Q => ∃ p ys, xs = [V.ref p] ∧ (SqL K H p ys ∨ SqT K H p ys) ∧ Q (V.int ys.length) H) (tCons (tOp (rIxT K) (tVar 2) (tC (V.int 1))) tNil))) rfl scFitsRows.nd (pi_tup (pe_ix ix_tup (pv 0) pe_int (fun _ _ => rfl)))
          (blkOk_by (N := ["saying", "value", "own"]) (sc := defScope sFitsRows) (by decide +kernel)) (fun _ _ _ _ _ => pg_name (i := 2) scFitsRows.nd rfl (Or.inl rfl)) (fun _ _ _ _ _ => pts_nil)
          (fun _ _ _ _ _ => by exact pe_op op_shl pe_int (pe_callB call_len_seq (by rfl) e.B.len (by decide +kernel) (pa_cons (pe_ix ix_tup (pv 2) pe_int (fun _ _ => rfl)) pa_nil)))) pa_nil)) pa_nil))))), ?_⟩
    obtain ⟨a, pk, ow, c, rfl, ea, Dk, ⟨b, us, rfl, eb, Db⟩, Dc⟩ := say_row D
    have lu : us.length = sy.owns.length := by rw [Db.len, List.length_map]
    have lo := ok.ol
    have oc := ok.oc
    refine ⟨_, rfl, _, _, _, _, true, rfl, .ty _, .base (.lst er), kit_ty (by decide +kernel), true, rfl, ?_⟩
    show if (!true) = true then _ else _
    rw [if_neg (by decide)]
    refine ⟨_, rfl, .inl ⟨r, _, rfl, SqL.of er, fun t ht => ?_⟩⟩
    have S1 := same_new (o := .tup (bs.map V.bl)) ht
    refine ⟨_, rfl, a, _, 1, _, rfl, rfl, SqT.of (S1 _ _ ea), rfl, b, rfl, ⟨_, FT.sq (eb.same S1)⟩, fun D2 hD2 => ?_⟩
    refine lc_mapT (K := K) (ys := (sy.owns.map sizeI).map V.int) (FT.sq (eb.same S1)) hD2 (by rw [List.length_map, List.length_map, lu]) (by omega) (fun i x y H4 Qe hx hy S4 k => ?_) gName_mono (fun H9 e9 S9 => ?_)
    · obtain ⟨d, hd, Dx⟩ := dats_get' Db i x hx
      obtain ⟨o, ho, rfl⟩ := get_map hd
      obtain ⟨to, rfl⟩ := tuple_ref (ds := [.str o.1, nmsD o.2]) Dx
      obtain ⟨t', g1, g2⟩ := own_row (q := (to, ownD o)) rfl Dx
      have ey : y = V.int (sizeI o) := by
        rw [List.getElem?_map, List.getElem?_map, ho] at hy
        exact (Option.some.inj hy).symm
      rw [ey] at k
      have og := (ok.own (List.mem_of_getElem? ho)).le
      have opl := ok.pl
      have S14 := S1.trans S4
      exact ⟨rfl, _, rfl, to, _, 1, _, rfl, rfl, SqT.of (S14 _ _ g1), rfl, t', _, rfl, .inr (SqT.of (S14 _ _ g2)), _, _, rfl, rfl, ⟨by omega, by rw [List.length_map]; omega, by decide⟩, k H4 (Same.refl _)⟩
    · refine ⟨D2, _, rfl, SqL.of e9, ?_⟩
      rw [sizes_sum]
      refine ⟨.ref t, bs, by rw [hl]; rfl, .tup (S9 _ _ upd_same) (dats_bls bs), by omega, fun H6 S6 => q H6 ((S1.trans S9).trans S6)⟩
theorem ok_wantAnswers {f fA : Addr} {fd fdA : FuncData} (F : Fun K "want_answers" "want_answers" sWantAnswers f fd) (e : Env1 K mg) (An : Has K mg "fits_answers" sFitsAnswers ["saying", "value"] fA fdA) : FnOk P w K mg base CX0 4 f fd ["saying", "answers"] spWantAnswers := by
  have GA : FnOk P w K mg base CX0 3 fA fdA ["saying", "value"] spFitsAnswers := ok_fitsAnswers An.F e
  refine F.ok scWantAnswers (fun vs H Q E h => ?_) (fun cdv A outer s H vs Q E hr h => ?_)
  · obtain ⟨v, u, sy, an, rfl, _⟩ := h
    rfl
  · obtain ⟨v, u, sy, an, rfl, D, Du, ok, ao, q⟩ := h
    refine ⟨_, pss_one (ps_if (pt_not (pt_val (pe_call GA hr rfl An.g An.F.kp An.b .nil pass0 (pa_cons (pv 0) (pa_cons (pv 1) pa_nil))))) pss_never pss_nil), ?_⟩
    refine ⟨_, rfl, _, rfl, v, u, sy, an, rfl, D, Du, ok, ao, fun H' S => ⟨true, rfl, ?_⟩⟩
    show if (!true) = true then _ else _
    rw [if_neg (by decide)]
    exact q H' S
theorem ok_wantRows {f fA : Addr} {fd fdA : FuncData} (F : Fun K "want_rows" "want_rows" sWantRows f fd) (e : Env1 K mg) (An : Has K mg "fits_rows" sFitsRows ["saying", "value"] fA fdA) : FnOk P w K mg base CX0 4 f fd ["saying", "rows"] spWantRows := by
  have GA : FnOk P w K mg base CX0 3 fA fdA ["saying", "value"] spFitsRows := ok_fitsRows An.F e
  refine F.ok scWantRows (fun vs H Q E h => ?_) (fun cdv A outer s H vs Q E hr h => ?_)
  · obtain ⟨v, r, sy, bs, rfl, _⟩ := h
    rfl
  · obtain ⟨v, r, sy, bs, rfl, D, er, ok, hl, q⟩ := h
    refine ⟨_, pss_one (ps_if (pt_not (pt_val (pe_call GA hr rfl An.g An.F.kp An.b .nil pass0 (pa_cons (pv 0) (pa_cons (pv 1) pa_nil))))) pss_never pss_nil), ?_⟩
    refine ⟨_, rfl, _, rfl, v, r, sy, bs, rfl, D, er, ok, hl, fun H' S => ⟨true, rfl, ?_⟩⟩
    show if (!true) = true then _ else _
    rw [if_neg (by decide)]
    exact q H' S
end
end S1

set_option Elab.async false
set_option linter.all false
set_option maxRecDepth 100000
set_option maxHeartbeats 2000000
/-! what the names are at a play, by answers -/
namespace S1
open PySem PySem.W PySem.Spec PyProof.Rows L2 RZ
abbrev Nmv := List (Str × Bool)
def kvB (l : Nmv) : List (Key × V) := l.map fun p => (.inr p.1, .bl p.2)
def vOf (l : Nmv) (x : Str) : Option Bool := (l.find? fun p => decide (p.1 = x)).map Prod.snd
theorem kvB_val (x : Str) : ∀ l : Nmv, valV (kvB l) (.inr x) = (vOf l x).map V.bl
  | [] => rfl
  | p :: l => by
    have ih := kvB_val x l
    unfold vOf at ih ⊢
    show valV ((Sum.inr p.1, V.bl p.2) :: kvB l) (.inr x) = _
    by_cases e : p.1 = x
    · rw [valV_pos (p := (Sum.inr p.1, V.bl p.2)) (by rw [e])]
      simp [e]
    · rw [valV_neg (p := (Sum.inr p.1, V.bl p.2)) (fun z => e (Sum.inr.inj z)), ih]
      simp [e]
theorem tru_kvB : ∀ (ps : List Str) (bs : List Bool), truK ps bs = kvB (ps.zip bs)
  | [], _ => rfl
  | _ :: _, [] => rfl
  | p :: ps, b :: bs => by
    show (Sum.inr p, V.bl b) :: truK ps bs = (Sum.inr p, V.bl b) :: kvB (ps.zip bs)
    rw [tru_kvB ps bs]
theorem vOf_some {l : Nmv} {x : Str} (h : x ∈ l.map Prod.fst) : ∃ b, vOf l x = some b := by
  unfold vOf
  cases e : l.find? fun p => decide (p.1 = x) with
  | none =>
    obtain ⟨p, hp, hx⟩ := List.mem_map.mp h
    exact absurd (decide_eq_true hx) (List.find?_eq_none.mp e p hp)
  | some p => exact ⟨p.2, rfl⟩
theorem put_new {l : Nmv} {x : Str} {b : Bool} (h : x ∉ l.map Prod.fst) : putK (kvB l) (.inr x) (.bl b) = kvB (l ++ [(x, b)]) := by
  have no : ((kvB l).any fun kv => decide (kv.1 = Sum.inr x)) = false := by
    rw [List.any_eq_false]
    intro q hq z
    obtain ⟨p, hp, rfl⟩ := List.mem_map.mp hq
    exact h (List.mem_map.mpr ⟨p, hp, Sum.inr.inj (of_decide_eq_true z)⟩)
  unfold putK
  rw [no]
  show kvB l ++ [_] = (l ++ [(x, b)]).map _
  rw [List.map_append]
  rfl
theorem spot_range : ∀ bs : List Bool, 0 ≤ spotD bs ∧ spotD bs < 2 ^ bs.length
  | [] => ⟨Int.le_refl _, by decide⟩
  | b :: bs => by
    obtain ⟨h1, h2⟩ := spot_range bs
    simp only [spotD, List.length_cons, Int.pow_succ]
    generalize (2 : Int) ^ bs.length = z at h2 ⊢
    split <;> constructor <;> omega
theorem sees_size {s : Say} {o : Own} {bs : List Bool} (ok : SayOk 6 8 120 40 s) (ho : o ∈ s.owns) (hl : bs.length = s.picks.length) : (seesD s.picks o.2 bs).length = o.2.length := by
  have og := ok.own ho
  have := congrArg List.length (sees_is s.picks o.2 bs ok.pu og.up og.sub hl)
  simpa using this.symm
theorem SayOk.ond {a b c d : Nat} {s : Say} (h : SayOk a b c d s) : (s.owns.map Prod.fst).Nodup := nodup_tlt (List.pairwise_map.mpr h.ou)
/-- what an own is -/
def ownAt (s : Say) (bs : List Bool) (x : Own × Tbl) : Str × Bool := (x.1.1, x.2.getD (spotD (seesD s.picks x.1.2 bs)).toNat false)
def nmv (s : Say) (an : List Tbl) (bs : List Bool) : Nmv := s.picks.zip bs ++ (s.owns.zip an).map (ownAt s bs)
theorem zip_fst {α β : Type} : ∀ {a : List α} {b : List β}, a.length = b.length → (a.zip b).map Prod.fst = a
  | [], _, _ => by simp
  | x :: a, [], h => by simp at h
  | x :: a, y :: b, h => by
    rw [List.zip_cons_cons, List.map_cons, zip_fst (by simpa using h)]
theorem own_names (s : Say) (bs : List Bool) : ∀ {os : List Own} {an : List Tbl}, an.length = os.length → ((os.zip an).map (ownAt s bs)).map Prod.fst = os.map Prod.fst
  | [], _, _ => by simp
  | o :: os, [], h => by simp at h
  | o :: os, t :: an, h => by
    rw [List.zip_cons_cons, List.map_cons, List.map_cons, own_names s bs (by simpa using h)]
    rfl
theorem nmv_names {s : Say} {an : List Tbl} {bs : List Bool} (ha : an.length = s.owns.length) (hl : bs.length = s.picks.length) : (nmv s an bs).map Prod.fst = s.names := by
  unfold nmv Say.names
  rw [List.map_append, zip_fst hl.symm, own_names s bs ha]
theorem tbl_at {s : Say} {an : List Tbl} {bs : List Bool} (ok : SayOk 6 8 120 40 s) (ao : AnsOk s.owns an) (hl : bs.length = s.picks.length) {i : Nat} {o : Own} {t : Tbl} (ho : s.owns[i]? = some o) (ht : an[i]? = some t) :
    atI (t.map V.bl) (spotD (seesD s.picks o.2 bs)) = some (.bl (ownAt s bs (o, t)).2) := by
  have mo := List.mem_of_getElem? ho
  have z := ao.tbl i o t ho ht
  have l := sees_size ok mo hl
  obtain ⟨h0, h1⟩ := spot_range (seesD s.picks o.2 bs)
  rw [l] at h1
  have lt : (spotD (seesD s.picks o.2 bs)).toNat < t.length := by
    rw [z]
    have e : ((2 : Nat) ^ o.2.length : Int) = (2 : Int) ^ o.2.length := by push_cast; rfl
    have h2 : ((spotD (seesD s.picks o.2 bs)).toNat : Int) < ((2 ^ o.2.length : Nat) : Int) := by
      rw [Int.toNat_of_nonneg h0]
      push_cast
      exact h1
    exact Int.ofNat_lt.mp h2
  have g : (t.map V.bl)[(spotD (seesD s.picks o.2 bs)).toNat]? = some (.bl (t.getD (spotD (seesD s.picks o.2 bs)).toNat false)) := by
    rw [List.getElem?_map, List.getD_eq_getElem?_getD, List.getElem?_eq_getElem lt]
    rfl
  have y := atI_nat g
  rw [Int.toNat_of_nonneg h0] at y
  exact y
def spPlaceIn : Sp := fun vs H Q _ => ∃ (v : V) (bs : List Bool), vs = [v] ∧ Dat H v (blsD bs) ∧ bs.length ≤ 8 ∧ ∀ H', Same H H' → Q (.int (spotD bs)) H'
def spValuesAt : Sp := fun vs H Q _ => ∃ (v u y : V) (s : Say) (an : List Tbl) (bs : List Bool), vs = [v, u, y] ∧ DatS H v s ∧ SayOk 6 8 120 40 s ∧ Dat H u (ansT an) ∧ AnsOk s.owns an ∧ Dat H y (blsD bs) ∧ bs.length = s.picks.length ∧
  ∀ (p : Addr) (H' : Hp), Same H H' → H p = none → H' p = some (.dK (kvB (nmv s an bs))) → Q (.ref p) H'
abbrev nVA : List Str := ["saying", "answers", "play", "truths", "values", "name", "sight", "table"]
section
variable {P : Program} {w : World} {K : PySem.W.Frag} {mg : Str → Option Value} {base : Heap}
theorem scPlaceIn : FnScope ["truths", "k", "truth"] ["truths"] (defScope sPlaceIn) := ⟨rfl, rfl, rfl, by decide +kernel, rfl, by decide +kernel, by decide +kernel⟩
theorem scValuesAt : FnScope nVA ["saying", "answers", "play"] (defScope sValuesAt) := ⟨rfl, rfl, rfl, by decide +kernel, rfl, by decide +kernel, by decide +kernel⟩
theorem ok_placeIn {f : Addr} {fd : FuncData} (F : Fun K "place_in_table" "place_in_table" sPlaceIn f fd) (B : Blt mg) (ze : mg "enumerate" = none) : FnOk P w K mg base CX0 1 f fd ["truths"] spPlaceIn := by
  refine F.ok scPlaceIn (fun vs H Q E h => ?_) (fun cdv A outer s H vs Q E hr h => ?_)
  · obtain ⟨v, bs, rfl, _⟩ := h
    rfl
  · obtain ⟨v, bs, rfl, D, len, q⟩ := h
    refine ⟨_, pss_one (ps_ret (pe_callB (cr_sum rfl) (by rfl) B.sum (by decide +kernel) (pa_cons (pe_lc (own := [("k", 1), ("truth", 2)]) (g := gTup K 2 (gCons (gName 1) (gCons (gName 2) gNil))) (tt := tB (tVar 2)) (te := tOp (rI CPow fun i j => V.int (i * 2 ^ j.toNat)) (tC (V.int 1)) (tVar 1)) rfl scPlaceIn.nd
      (pi_enumT (by rfl) ze (pa_cons (pv 0) pa_nil)) (blkOk_by (N := ["truths", "k", "truth"]) (sc := defScope sPlaceIn) (by decide +kernel))
      (fun _ _ _ _ _ => by exact pg_tup rfl (pgs_cons (pg_name (i := 1) scPlaceIn.nd rfl (.inl rfl)) (pgs_cons (pg_name (i := 2) scPlaceIn.nd rfl (.inl rfl)) pgs_nil))) (fun _ _ _ _ _ => by exact pts_one (pt_val (pv 2)))
      (fun _ _ _ _ _ => by exact pe_op op_shl pe_int (pv 1))) pa_nil))), ?_⟩
    obtain ⟨t, rfl, et⟩ := bls_row D
    refine ⟨_, rfl, t, _, rfl, SqT.of et, fun D0 hD0 => ?_⟩
    refine lc_enumT (K := K) (a := t) (xs := bs.map V.bl) (fun i H4 => ∃ ns : List Int, H4 D0 = some (.lst (ns.map V.int)) ∧ ns.sum = spotD (bs.take i) ∧ ns.length ≤ i ∧ Same H H4) ⟨[], upd_same, rfl, Nat.le_refl _, same_new hD0⟩ (fun i H4 _ ⟨_, _, _, _, S⟩ => SqT.of (S _ _ et)) ?_ ?_
    · rintro i x H4 T hx ⟨ns, e4, sm, ln, S4⟩ hT
      rw [List.getElem?_map] at hx
      obtain ⟨b, hb, rfl⟩ := Option.map_eq_some_iff.mp hx
      have il : i < bs.length := (List.getElem?_eq_some_iff.mp hb).1
      have S5 := same_new (o := .tup [V.int (i : Nat), .bl b]) hT
      have lt : (bs.take i).length = i := by rw [List.length_take]; omega
      refine ⟨T, _, rfl, SqT.of upd_same, rfl, _, _, rfl, _, _, rfl, rfl, rfl, _, rfl, b, rfl, ?_⟩
      cases b with
      | true =>
        show if true = true then _ else _
        rw [if_pos rfl]
        refine ⟨_, rfl, _, _, rfl, rfl, ⟨by omega, by omega, by decide⟩, _, S5 _ _ e4, by rw [List.length_map]; exact small1000 (by omega), ns ++ [1 * 2 ^ ((i : Nat) : Int).toNat], by rw [upd_same, List.map_append]; rfl, ?_, by rw [List.length_append]; show ns.length + 1 ≤ i + 1; omega, same_upd (S4.trans S5) hD0⟩
        rw [List.sum_append, sm, take_next hb, spot_snoc, lt, Int.toNat_natCast]
        simp
      | false =>
        show if false = true then _ else _
        rw [if_neg (by decide)]
        refine ⟨ns, S5 _ _ e4, ?_, by omega, S4.trans S5⟩
        rw [sm, take_next hb, spot_snoc, lt]
        simp
    · rintro H4 ⟨ns, e4, sm, ln, S4⟩
      rw [List.length_map, List.take_length] at sm
      refine ⟨D0, ns, rfl, SqL.of e4, ?_⟩
      show Q (.int ns.sum) H4
      rw [sm]
      exact q H4 S4
theorem ok_valuesAt {f fT fB fL : Addr} {fd fdT fdB fdL : FuncData} (F : Fun K "values_at" "values_at" sValuesAt f fd) (B : Blt mg) (ze : mg "enumerate" = none) (Ta : Has K mg "truths_at" sTruthsAt ["saying", "play"] fT fdT) (Sb : Has K mg "seen_by" sSeenBy ["sight", "truths"] fB fdB) (Pl : Has K mg "place_in_table" sPlaceIn ["truths"] fL fdL) :
    FnOk P w K mg base CX0 2 f fd ["saying", "answers", "play"] spValuesAt := by
  have GT : FnOk P w K mg base CX0 1 fT fdT ["saying", "play"] spTruthsAt := ok_truthsAt Ta.F B
  have GB : FnOk P w K mg base CX0 1 fB fdB ["sight", "truths"] spSeenBy := ok_seenBy Sb.F B
  have GL : FnOk P w K mg base CX0 1 fL fdL ["truths"] spPlaceIn := ok_placeIn Pl.F B ze
  refine F.ok scValuesAt (fun vs H Q E h => ?_) (fun cdv A outer s H vs Q E hr h => ?_)
  · obtain ⟨v, u, y, sy, an, bs, rfl, _⟩ := h
    rfl
  · obtain ⟨v, u, y, sy, an, bs, rfl, D, ok, Du, ao, Dy, hl, q⟩ := h
    have hu : (A.deeper (envOfC "values_at" (defScope sValuesAt) s.heap.objs.size f cdv)).units + 1 < cLine := by
      have h64 : (A.deeper (envOfC "values_at" (defScope sValuesAt) s.heap.objs.size f cdv)).units + 64 < cLine := hr.units
      omega
    refine ⟨_, pss_cons (ps_set (i := 3) scValuesAt.nd rfl (.inl rfl) (pe_call GT hr rfl Ta.g Ta.F.kp Ta.b .nil pass0 (pa_cons (pv 0) (pa_cons (pv 2) pa_nil))))
      (pss_cons (ps_set (i := 4) scValuesAt.nd rfl (.inl rfl) (pe_callTy call_dictD (by rfl) B.dict (by decide +kernel) (pa_cons (pv 3) pa_nil)))
      (pss_cons (ps_for PassesOwn.never rfl (pi_zipA (by rfl) B.zip (pa_cons (pe_ix ix_tup (pv 0) pe_int (fun _ _ => rfl)) (pa_cons (pv 1) pa_nil)))
          (pg_tup rfl (pgs_cons (pg_tup rfl (pgs_cons (pg_name (i := 5) scValuesAt.nd rfl (.inl rfl)) (pgs_cons (pg_name (i := 6) scValuesAt.nd rfl (.inl rfl)) pgs_nil))) (pgs_cons (pg_name (i := 7) scValuesAt.nd rfl (.inl rfl)) pgs_nil)))
        (pss_one (ps_dput hu (pv 4) (pv 5) (pe_ix ix_tup (pv 7) (pe_call GL hr rfl Pl.g Pl.F.kp Pl.b .nil pass0 (pa_cons (pe_call GB hr rfl Sb.g Sb.F.kp Sb.b .nil pass0 (pa_cons (pv 6) (pa_cons (pv 3) pa_nil))) pa_nil)) (fun _ _ => rfl)) rfl)))
      (pss_one (ps_ret (pv 4))))), ?_⟩
    obtain ⟨a, pk, ow, c, rfl, ea, Dk, ⟨b, us, rfl, eb, Db⟩, Dc⟩ := say_row D
    obtain ⟨t, ts, rfl, et, Dt⟩ := dat_tup (ds := an.map blsD) Du
    have lu : us.length = sy.owns.length := by rw [Db.len, List.length_map]
    have lt : ts.length = an.length := by rw [Dt.len, List.length_map]
    have lo := ok.ol
    have opl := ok.pl
    have le : us.length = ts.length := by rw [lt, lu, ao.len]
    refine ⟨_, rfl, _, rfl, .ref a, y, sy, bs, rfl, D, Dy, ok.pu, hl, fun p2 hp2 => ?_⟩
    have S1 := same_new (o := .dK (truK sy.picks bs)) hp2
    refine ⟨_, rfl, p2, truK sy.picks bs, rfl, .inl upd_same, fun p4 hp4 => ?_⟩
    have g2 : upd H p2 (.dK (truK sy.picks bs)) p2 = some (.dK (truK sy.picks bs)) := upd_same
    have hH4 := S1.free hp4
    generalize upd H p2 (.dK (truK sy.picks bs)) = G at S1 g2 hp4 ⊢
    have S2 := same_new (o := .dK (truK sy.picks bs)) hp4
    refine ⟨_, rfl, a, _, 1, _, rfl, rfl, SqT.of (S2 _ _ (S1 _ _ ea)), rfl, _, rfl, b, t, us, ts, rfl, .inr ⟨FT.sq ((eb.same S1).same S2), SqT.of (S2 _ _ (S1 _ _ et)), ?_⟩⟩
    refine for_zipT (K := K) (a := b) (b := t) (xs := us) (ys := ts) le (fun i σ H4 => ∃ o5 o6 o7 : Option V, σ = [some (.ref a), some (.ref t), some y, some (.ref p2), some (.ref p4), o5, o6, o7] ∧
      H4 p4 = some (.dK (kvB (sy.picks.zip bs ++ ((sy.owns.zip an).take i).map (ownAt sy bs)))) ∧ Same G H4) ⟨_, _, _, rfl, by rw [upd_same, tru_kvB, List.take_zero, List.map_nil, List.append_nil], S2⟩
      (fun i σ H4 ⟨_, _, _, _, _, S⟩ => ⟨FT.sq ((eb.same S1).same S), SqT.of (S _ _ (S1 _ _ et))⟩) ?_ ?_
    · rintro i x z T σ H4 hx hz ⟨o5, o6, o7, rfl, e4, S4⟩ hT
      obtain ⟨d, hd, Dx⟩ := dats_get' Db i x hx
      obtain ⟨o, ho, rfl⟩ := get_map hd
      obtain ⟨to, rfl⟩ := tuple_ref (ds := [.str o.1, nmsD o.2]) Dx
      obtain ⟨t', h1, h2⟩ := own_row (q := (to, ownD o)) rfl Dx
      obtain ⟨d2, hd2, Dz⟩ := dats_get' Dt i z hz
      obtain ⟨tb, htb, rfl⟩ := get_map hd2
      obtain ⟨tz, rfl, etz⟩ := bls_row Dz
      have mo := List.mem_of_getElem? ho
      have og := ok.own mo
      have S5 := S4.trans (same_new (o := .tup [V.ref to, .ref tz]) hT)
      have S15 := S1.trans S5
      have sz := sees_size ok mo hl
      have le2 := og.le
      refine ⟨T, _, rfl, SqT.of upd_same, rfl, _, _, rfl, ⟨to, _, rfl, SqT.of (S15 _ _ h1), rfl, _, _, rfl, _, _, rfl, rfl, _, _, rfl, rfl, ?_⟩⟩
      refine ⟨_, rfl, _, rfl, _, rfl, .ref t', p2, sy.picks, o.2, bs, rfl, .tup (S15 _ _ h2) (dats_strs o.2), .inl (S5 _ _ g2), ok.pu, og.up, og.sub, hl, by omega, fun r H6 S6 Dr => ?_⟩
      refine ⟨r, seesD sy.picks o.2 bs, rfl, Dr, by rw [sz]; omega, fun H7 S7 => ?_⟩
      have S57 := S6.trans S7
      have e7 := S57 _ _ ((same_new (o := .tup [V.ref to, .ref tz]) hT) _ _ e4)
      refine ⟨tz, _, _, _, rfl, rfl, SqT.of (S57 _ _ (S15 _ _ etz)), tbl_at ok ao hl ho htb, _, rfl, _, rfl, p4, _, rfl, DPut.k (k := Sum.inr o.1) e7 ?_, ?_⟩
      · unfold kvB
        rw [List.length_map, List.length_append, List.length_map, List.length_take, List.length_zip, List.length_zip]
        exact small1000 (by omega)
      · have hzip : (sy.owns.zip an)[i]? = some (o, tb) := by rw [List.getElem?_zip_eq_some]; exact ⟨ho, htb⟩
        have nw : o.1 ∉ (sy.picks.zip bs ++ ((sy.owns.zip an).take i).map (ownAt sy bs)).map Prod.fst := by
          rw [List.map_append, zip_fst hl.symm]
          intro hm
          rcases List.mem_append.mp hm with hm | hm
          · exact og.out hm
          · have nd := ok.ond
            rw [← own_names sy bs ao.len, ← List.take_append_drop i (sy.owns.zip an), List.map_append, List.map_append] at nd
            have hh : o.1 ∈ (((sy.owns.zip an).drop i).map (ownAt sy bs)).map Prod.fst := by
              rw [List.drop_eq_getElem_cons (List.getElem?_eq_some_iff.mp hzip).1, (List.getElem?_eq_some_iff.mp hzip).2]
              exact List.mem_cons_self
            exact (List.nodup_append.mp nd).2.2 _ hm _ hh rfl
        refine ⟨_, _, _, rfl, ?_, same_upd (S4.trans ((same_new (o := .tup [V.ref to, .ref tz]) hT).trans S57)) hp4⟩
        rw [upd_same, put_new nw, take_next hzip, List.map_append, List.append_assoc]
        rfl
    · rintro σ H4 ⟨o5, o6, o7, rfl, e4, S4⟩
      have tk : (sy.owns.zip an).take us.length = sy.owns.zip an := List.take_of_length_le (by rw [List.length_zip]; omega)
      rw [tk] at e4
      exact ⟨_, rfl, q p4 H4 (S1.trans S4) hH4 e4⟩
end
end S1

set_option Elab.async false
set_option linter.all false
set_option maxRecDepth 100000
set_option maxHeartbeats 2000000
/-! where a saying is broken by answers -/
namespace S1
open PySem PySem.W PySem.Spec PyProof.Rows L2 RZ
def soB (l : Nmv) (cl : List Ltr) : Bool := (cl.map fun x => decide (vOf l x.1 = some x.2)).any id
def badAt (l : Nmv) (cls : List (List Ltr)) : Option Nat := cls.findIdx? fun cl => !soB l cl
def brk (s : Say) (an : List Tbl) : Option (Nat × List Bool) := (playsD s.picks.length).findSome? fun bs => (badAt (nmv s an bs) s.cls).map fun k => (k, bs)
def brkD : Option (Nat × List Bool) → PyData
  | none => .none
  | some (k, bs) => .tuple [.int (k : Nat), blsD bs]
theorem bad_at {l : Nmv} {cls : List (List Ltr)} {i : Nat} {cl : List Ltr} (h : ∀ c ∈ cls.take i, soB l c = true) (hi : cls[i]? = some cl) (hb : soB l cl = false) : badAt l cls = some i := by
  unfold badAt
  rw [List.findIdx?_eq_some_iff_getElem]
  obtain ⟨hl, e⟩ := List.getElem?_eq_some_iff.mp hi
  refine ⟨hl, by rw [e, hb]; rfl, fun j hj => ?_⟩
  have hm : cls[j] ∈ cls.take i := by
    rw [List.mem_iff_getElem?]
    exact ⟨j, by rw [List.getElem?_take, if_pos hj, List.getElem?_eq_getElem]⟩
  rw [h _ hm]
  decide
theorem bad_none {l : Nmv} {cls : List (List Ltr)} (h : ∀ c ∈ cls, soB l c = true) : badAt l cls = none := by
  unfold badAt
  rw [List.findIdx?_eq_none_iff]
  intro c hc
  rw [h c hc]
  rfl
theorem findSome_at {α β : Type} {f : α → Option β} {l : List α} {i : Nat} {x : α} {y : β} (h : ∀ z ∈ l.take i, f z = none) (hi : l[i]? = some x) (hx : f x = some y) : l.findSome? f = some y := by
  obtain ⟨hl, e⟩ := List.getElem?_eq_some_iff.mp hi
  rw [← List.take_append_drop i l, List.findSome?_append, List.findSome?_eq_none_iff.mpr h, List.drop_eq_getElem_cons hl, e, List.findSome?_cons, hx]
  rfl
theorem brk_at {s : Say} {an : List Tbl} {i k : Nat} {bs : List Bool} (h : ∀ b ∈ (playsD s.picks.length).take i, badAt (nmv s an b) s.cls = none) (hi : (playsD s.picks.length)[i]? = some bs) (hk : badAt (nmv s an bs) s.cls = some k) : brk s an = some (k, bs) :=
  findSome_at (fun z hz => by rw [h z hz]; rfl) hi (by rw [hk]; rfl)
theorem brk_none {s : Say} {an : List Tbl} (h : ∀ b ∈ playsD s.picks.length, badAt (nmv s an b) s.cls = none) : brk s an = none := by
  unfold brk
  rw [List.findSome?_eq_none_iff]
  intro z hz
  rw [h z hz]
  rfl
theorem take_more {α : Type} {p : α → Prop} {l : List α} {i : Nat} {x : α} (h : ∀ z ∈ l.take i, p z) (hi : l[i]? = some x) (hx : p x) : ∀ z ∈ l.take (i + 1), p z := fun z hz => by
  rw [take_next hi] at hz
  rcases List.mem_append.mp hz with hz | hz
  · exact h z hz
  · cases List.mem_singleton.mp hz
    exact hx
theorem eq_bl (b c : Bool) : decide (V.bl b = V.bl c) = decide (some b = some c) := by
  cases b <;> cases c <;> rfl
def spFirstBroken : Sp := fun vs H Q _ => ∃ (v u : V) (s : Say) (an : List Tbl), vs = [v, u] ∧ DatS H v s ∧ SayOk 6 8 120 40 s ∧ Dat H u (ansT an) ∧ AnsOk s.owns an ∧ ∀ (r : V) (H' : Hp), Same H H' → Dat H' r (brkD (brk s an)) → Q r H'
def spHolds : Sp := fun vs H Q _ => ∃ (v u : V) (s : Say) (an : List Tbl), vs = [v, u] ∧ DatS H v s ∧ SayOk 6 8 120 40 s ∧ Dat H u (ansT an) ∧ AnsOk s.owns an ∧ ∀ (H' : Hp), Same H H' → Q (.bl (decide (brk s an = none))) H'
def spValueOf : Sp := fun vs H Q _ => ∃ (v u y : V) (s : Say) (an : List Tbl) (o : Own) (bs : List Bool) (b : Bool), vs = [v, u, .str o.1, y] ∧ DatS H v s ∧ SayOk 6 8 120 40 s ∧ Dat H u (ansT an) ∧ AnsOk s.owns an ∧ o ∈ s.owns ∧ Dat H y (blsD bs) ∧ bs.length = s.picks.length ∧ vOf (nmv s an bs) o.1 = some b ∧
  ∀ (H' : Hp), Same H H' → Q (.bl b) H'
abbrev nFB : List Str := ["saying", "answers", "play", "values", "index", "clause", "name", "truth"]
section
variable {P : Program} {w : World} {K : PySem.W.Frag} {mg : Str → Option Value} {base : Heap}
theorem scFirstBroken : FnScope nFB ["saying", "answers"] (defScope sFirstBroken) := ⟨rfl, rfl, rfl, by decide +kernel, rfl, by decide +kernel, by decide +kernel⟩
theorem scHolds : FnScope ["saying", "answers"] ["saying", "answers"] (defScope sHolds) := ⟨rfl, rfl, rfl, by decide +kernel, rfl, by decide +kernel, by decide +kernel⟩
theorem scBrokenAt : FnScope ["saying", "answers"] ["saying", "answers"] (defScope sBrokenAt) := ⟨rfl, rfl, rfl, by decide +kernel, rfl, by decide +kernel, by decide +kernel⟩
theorem scValueOf : FnScope ["saying", "answers", "name", "play"] ["saying", "answers", "name", "play"] (defScope sValueOf) := ⟨rfl, rfl, rfl, by decide +kernel, rfl, by decide +kernel, by decide +kernel⟩
theorem ok_firstBroken {f fA fV : Addr} {fd fdA fdV : FuncData} (F : Fun K "first_broken" "first_broken" sFirstBroken f fd) (B : Blt mg) (ze : mg "enumerate" = none) (zy : mg "any" = none) (Ap : Has K mg "all_plays" sAllPlays ["saying"] fA fdA) (Va : Has K mg "values_at" sValuesAt ["saying", "answers", "play"] fV fdV)
    (GV : FnOk P w K mg base CX0 2 fV fdV ["saying", "answers", "play"] spValuesAt) : FnOk P w K mg base CX0 3 f fd ["saying", "answers"] spFirstBroken := by
  have GA : FnOk P w K mg base CX0 1 fA fdA ["saying"] spAllPlays := ok_allPlays Ap.F
  refine F.ok scFirstBroken (fun vs H Q E h => ?_) (fun cdv A outer s H vs Q E hr h => ?_)
  · obtain ⟨v, u, sy, an, rfl, _⟩ := h
    rfl
  · obtain ⟨v, u, sy, an, rfl, D, ok, Du, ao, q⟩ := h
    have hr1 := hr.mono (show 1 ≤ 2 by decide)
    have hu : (A.deeper (envOfC "first_broken" (defScope sFirstBroken) s.heap.objs.size f cdv)).units + 1 < cLine := by
      have h64 : (A.deeper (envOfC "first_broken" (defScope sFirstBroken) s.heap.objs.size f cdv)).units + 64 < cLine := hr1.units
      omega
    refine ⟨_, pss_cons (ps_for PassesOwn.never rfl (pi_list (pe_call GA hr1 rfl Ap.g Ap.F.kp Ap.b .nil pass0 (pa_cons (pv 0) pa_nil))) (pg_name (i := 2) scFirstBroken.nd rfl (.inl rfl))
        (pss_cons (ps_set (i := 3) scFirstBroken.nd rfl (.inr rfl) (pe_call GV hr rfl Va.g Va.F.kp Va.b .nil pass0 (pa_cons (pv 0) (pa_cons (pv 1) (pa_cons (pv 2) pa_nil)))))
        (pss_one (ps_for PassesOwn.never rfl (pi_enumT (by rfl) ze (pa_cons (pe_ix ix_tup (pv 0) pe_int (fun _ _ => rfl)) pa_nil)) (pg_tup rfl (pgs_cons (pg_name (i := 4) scFirstBroken.nd rfl (.inl rfl)) (pgs_cons (pg_name (i := 5) scFirstBroken.nd rfl (.inl rfl)) pgs_nil)))
          (pss_one (ps_if (pt_not (pt_val (pe_callB (cr_any rfl) (by rfl) zy (by decide +kernel) (pa_cons (pe_lc (own := [("name", 6), ("truth", 7)]) (g := gTup K 2 (gCons (gName 6) (gCons (gName 7) gNil))) (tt := tYes) (te := tOp rEq (tDGet (tVar 3) (tVar 6)) (tVar 7)) rfl scFirstBroken.nd
              (pi_tup (pv 5)) (blkOk_by (N := nFB) (sc := defScope sFirstBroken) (by decide +kernel))
              (fun _ _ _ _ _ => by exact pg_tup rfl (pgs_cons (pg_name (i := 6) scFirstBroken.nd rfl (.inl rfl)) (pgs_cons (pg_name (i := 7) scFirstBroken.nd rfl (.inl rfl)) pgs_nil))) (fun _ _ _ _ _ => pts_nil)
              (fun _ _ _ _ _ => by exact pe_cmpR op_eq (pe_dget (by exact hu) (pv 3) (pv 6) (fun _ _ => rfl)) (pv 7) (nomark _))) pa_nil)))) (pss_one (ps_ret (pe_tup (pa_cons (pv 4) (pa_cons (pv 2) pa_nil))))) pss_nil))))))
      (pss_one (ps_ret pe_non)), ?_⟩
    refine ⟨_, rfl, v, sy, rfl, D, ok, fun l H1 R => ?_⟩
    obtain ⟨T, eT, dT, DT⟩ := R.ex
    refine ⟨l, rfl, ⟨_, SqL.of eT⟩, ?_⟩
    have lenT : T.length = (playsD sy.picks.length).length := by rw [← List.length_map (f := Prod.snd), dT, List.length_map]
    refine for_list (K := K) (a := l) (xs := T.map TRow.v) (fun i σ H' => ∃ o2 o3 o4 o5 : Option V, σ = [some v, some u, o2, o3, o4, o5, none, none] ∧ (∀ b ∈ (playsD sy.picks.length).take i, badAt (nmv sy an b) sy.cls = none) ∧ Same H1 H') ⟨_, _, _, _, rfl, fun b hb => by simp at hb, Same.refl _⟩
      (fun i σ H' _ ⟨_, _, _, _, _, _, S⟩ => SqL.of (S _ _ eT)) ?_ ?_
    · rintro i x σ H' hx ⟨o2, o3, o4, o5, rfl, hb, S1⟩
      rw [List.getElem?_map] at hx
      obtain ⟨y, hy, rfl⟩ := Option.map_eq_some_iff.mp hx
      have ey : ((playsD sy.picks.length).map blsD)[i]? = some y.2 := by rw [← dT, List.getElem?_map, hy]; rfl
      obtain ⟨bs, hbs, ep⟩ := get_map ey
      have hl : bs.length = sy.picks.length := plays_bits _ _ (List.mem_of_getElem? hbs)
      have Dy := DT y (List.mem_of_getElem? hy)
      rw [ep] at Dy
      have S01 := R.S.trans S1
      refine ⟨_, rfl, _, rfl, _, rfl, v, u, y.v, sy, an, bs, rfl, D.same S01, ok, Du.same S01, ao, Dy.same S1, hl, fun pv' H2 S2 hpv ev => ?_⟩
      have S02 := S01.trans S2
      obtain ⟨a, pk, ow, c, rfl, ea, Dk, Do, Dc⟩ := say_row (D.same S02)
      obtain ⟨bc, cus, rfl, ebc, Dbc⟩ := dat_tup (ds := sy.cls.map clD) Dc
      have lcu : cus.length = sy.cls.length := by rw [Dbc.len, List.length_map]
      have lcl := ok.cl
      refine ⟨_, rfl, a, _, 2, _, rfl, rfl, SqT.of ea, rfl, bc, cus, rfl, SqT.of ebc, ?_⟩
      refine for_enumT (K := K) (a := bc) (xs := cus) (fun j σ H4 => ∃ o4 o5 : Option V, σ = [some (.ref a), some u, some y.v, some (.ref pv'), o4, o5, none, none] ∧ (∀ c ∈ sy.cls.take j, soB (nmv sy an bs) c = true) ∧ Same H2 H4) ⟨_, _, rfl, fun b hb => by simp at hb, Same.refl _⟩
        (fun j σ H4 _ ⟨_, _, _, _, S⟩ => SqT.of (S _ _ ebc)) ?_ ?_
      · rintro j x σ H4 T4 hx ⟨o4, o5, rfl, hc, S4⟩ hT
        obtain ⟨d, hd, Dx⟩ := dats_get' Dbc j x hx
        obtain ⟨cl, hcl, rfl⟩ := get_map hd
        have mcl := List.mem_of_getElem? hcl
        have ck := ok.ck cl mcl
        have lc : cl.length ≤ 14 := Nat.le_trans (cl_len ck) ok.nlen
        have S5 := S4.trans (same_new (o := .tup [V.int (j : Nat), x]) hT)
        obtain ⟨tc, ls, rfl, etc, Dl⟩ := dat_tup (ds := cl.map ltD) Dx
        have ll : ls.length = cl.length := by rw [Dl.len, List.length_map]
        refine ⟨T4, _, rfl, SqT.of upd_same, rfl, _, _, rfl, _, _, rfl, rfl, ?_⟩
        refine ⟨_, rfl, tc, rfl, ⟨_, SqT.of (S5 _ _ etc)⟩, fun D0 hD0 => ?_⟩
        refine lc_tup (K := K) (a := tc) (xs := ls) (fun k H6 => H6 D0 = some (.lst (((cl.take k).map fun x => decide (vOf (nmv sy an bs) x.1 = some x.2)).map V.bl)) ∧ Same H2 H6) ⟨upd_same, S5.trans (same_new hD0)⟩ (fun k H6 _ h => SqT.of (h.2 _ _ etc)) ?_ ?_
        · rintro k x6 H6 hx6 ⟨e6, S6⟩
          obtain ⟨d6, hd6, Dx6⟩ := dats_get' Dl k x6 hx6
          obtain ⟨lt, hlt, rfl⟩ := get_map hd6
          obtain ⟨tl, rfl, etl⟩ := ltr_row Dx6
          have mlt := List.mem_of_getElem? hlt
          have kl : k < cl.length := (List.getElem?_eq_some_iff.mp hlt).1
          obtain ⟨b, hvb⟩ := vOf_some (l := nmv sy an bs) (x := lt.1) (by rw [nmv_names ao.len hl]; exact ck.mem lt mlt)
          refine ⟨tl, _, rfl, SqT.of (S6 _ _ etl), rfl, _, _, rfl, _, _, rfl, rfl, rfl, yes_of ?_⟩
          refine ⟨_, rfl, _, rfl, pv', .bl b, rfl, .inl ⟨kvB (nmv sy an bs), .inr lt.1, .inl (S6 _ _ ev), rfl, by rw [kvB_val, hvb]; rfl⟩, _, rfl, rfl, _, e6, by rw [List.length_map, List.length_map, List.length_take]; exact small1000 (by omega), ?_, ?_⟩
          · rw [upd_same, take_next hlt, List.map_append, List.map_append, eq_bl, ← hvb]
            rfl
          · refine same_upd S6 ?_
            exact (S5.free hD0)
        · rintro H6 ⟨e6, S6⟩
          rw [ll, List.take_length] at e6
          refine ⟨D0, _, rfl, SqL.of e6, _, rfl, ?_⟩
          show if (!soB (nmv sy an bs) cl) = true then _ else _
          cases hso : soB (nmv sy an bs) cl with
          | true =>
            show if false = true then _ else _
            rw [if_neg (by decide)]
            exact ⟨_, _, rfl, take_more hc hcl hso, S6⟩
          | false =>
            show if true = true then _ else _
            rw [if_pos rfl]
            refine ⟨_, rfl, _, rfl, (by show 2 ≤ sizeLine; decide), fun tr htr => ?_⟩
            have S7 := same_new (o := .tup [V.int (j : Nat), y.v]) htr
            refine q _ _ ((S02.trans S6).trans S7) ?_
            rw [brk_at hb hbs (bad_at hc hcl hso)]
            exact .tup upd_same (.cons (.int _) (.cons (((Dy.same S1).same S2).same S6 |>.same S7) .nil))
      · rintro σ H4 ⟨o4, o5, rfl, hc, S4⟩
        rw [lcu, List.take_length] at hc
        exact ⟨_, _, _, _, rfl, take_more hb hbs (bad_none hc), S1.trans (S2.trans S4)⟩
    · rintro σ H' ⟨o2, o3, o4, o5, rfl, hb, S1⟩
      rw [List.length_map, lenT, List.take_length] at hb
      refine q _ _ (R.S.trans S1) ?_
      rw [brk_none hb]
      exact .non
end
end S1

set_option Elab.async false
set_option linter.all false
set_option maxRecDepth 100000
set_option maxHeartbeats 2000000
/-! holds, broken_at, value_of, answers_with -/
namespace S1
open PySem PySem.W PySem.Spec PyProof.Rows L2 RZ
theorem cut_any {f : Bool → V} {ws : List Bool} {a b : Nat} (h : a ≤ b) (hb : b ≤ ws.length) : cutV (ws.map f) (some (a : Int)) (some (b : Int)) = ((ws.drop a).take (b - a)).map f := by
  unfold cutV
  rw [HT.sIx_nat, HT.sIx_nat, List.length_map, Nat.min_eq_left (show a ≤ ws.length by omega), Nat.min_eq_left hb, ← List.map_drop, ← List.map_take]
theorem brk_isN {o : Option (Nat × List Bool)} {H : Hp} {r : V} (D : Dat H r (brkD o)) : decide (r = .non) = decide (o = none) := by
  cases o with
  | none =>
    cases D
    rfl
  | some x =>
    obtain ⟨t, xs, rfl, _, _⟩ := dat_tup (ds := [.int (x.1 : Nat), blsD x.2]) D
    rfl
theorem copies_take (os : List Own) (j : Nat) : copies (os.take j) ≤ copies os := by
  unfold copies
  have e : os.map (fun o : Own => 2 ^ o.2.length) = (os.take j).map (fun o : Own => 2 ^ o.2.length) ++ (os.drop j).map (fun o : Own => 2 ^ o.2.length) := by rw [← List.map_append, List.take_append_drop]
  rw [e, List.sum_append]
  omega
/-- the tables' lengths, one behind the other -/
theorem ans_take {os : List Own} {an : List Tbl} (ao : AnsOk os an) : ∀ i ≤ os.length, ((an.take i).flatten).length = copies (os.take i) := by
  intro i
  induction i with
  | zero => intro _; rfl
  | succ i ih =>
    intro h
    have hi := ih (by omega)
    obtain ⟨o, ho⟩ : ∃ o, os[i]? = some o := ⟨_, List.getElem?_eq_getElem (by omega)⟩
    obtain ⟨t, ht⟩ : ∃ t, an[i]? = some t := ⟨_, List.getElem?_eq_getElem (by have := ao.len; omega)⟩
    rw [take_next ho, take_next ht, List.flatten_append, List.length_append, hi, copies_snoc, List.flatten_cons, List.flatten_nil, List.append_nil, ao.tbl i o t ho ht]
theorem ans_len {os : List Own} {an : List Tbl} (ao : AnsOk os an) : an.flatten.length = copies os := by
  have z := ans_take ao os.length (Nat.le_refl _)
  rwa [List.take_length, ← ao.len, List.take_length] at z
theorem ans_cut {os : List Own} {an : List Tbl} (ao : AnsOk os an) {i : Nat} {o : Own} {t : Tbl} (ho : os[i]? = some o) (ht : an[i]? = some t) : (an.flatten.drop (copies (os.take i))).take (copies (os.take (i + 1)) - copies (os.take i)) = t := by
  have hi : i < os.length := (List.getElem?_eq_some_iff.mp ho).1
  have hi2 : i < an.length := (List.getElem?_eq_some_iff.mp ht).1
  have l := ans_take ao i (by omega)
  have e : an.flatten = (an.take i).flatten ++ (t ++ (an.drop (i + 1)).flatten) := by
    have e0 : an = an.take i ++ t :: an.drop (i + 1) := by
      conv => lhs; rw [← List.take_append_drop i an, List.drop_eq_getElem_cons hi2, (List.getElem?_eq_some_iff.mp ht).2]
    conv => lhs; rw [e0, List.flatten_append, List.flatten_cons]
  rw [e, take_next ho, copies_snoc, ← l, List.drop_left, Nat.add_sub_cancel_left, ← ao.tbl i o t ho ht]
  exact List.take_left
def spTablesOf : Sp := fun vs H Q _ => ∃ (v : V) (r : Addr) (s : Say) (an : List Tbl), vs = [v, .ref r] ∧ DatS H v s ∧ SayOk 6 8 120 40 s ∧ AnsOk s.owns an ∧ H r = some (.lst (an.flatten.map V.bl)) ∧ ∀ (t : V) (H' : Hp), Same H H' → Dat H' t (ansT an) → Q t H'
abbrev nTO : List Str := ["saying", "row", "tables", "start", "_", "sight", "end"]
section
variable {P : Program} {w : World} {K : PySem.W.Frag} {mg : Str → Option Value} {base : Heap}
theorem scTablesOf : FnScope nTO ["saying", "row"] (defScope sTablesOf) := ⟨rfl, rfl, rfl, by decide +kernel, rfl, by decide +kernel, by decide +kernel⟩
theorem scAnswersWith : FnScope ["saying", "rows"] ["saying", "rows"] (defScope sAnswersWith) := ⟨rfl, rfl, rfl, by decide +kernel, rfl, by decide +kernel, by decide +kernel⟩
theorem ok_holds {f fB fA : Addr} {fd fdB fdA : FuncData} (F : Fun K "holds" "holds" sHolds f fd) (e : Env1 K mg) (Wn : Wnt K mg) (Wa : Has K mg "want_answers" sWantAnswers ["saying", "answers"] fA fdA) (Fb : Has K mg "first_broken" sFirstBroken ["saying", "answers"] fB fdB)
    (GA : FnOk P w K mg base CX0 4 fA fdA ["saying", "answers"] spWantAnswers) (GB : FnOk P w K mg base CX0 3 fB fdB ["saying", "answers"] spFirstBroken) : FnOk P w K mg base CX0 8 f fd ["saying", "answers"] spHolds := by
  obtain ⟨fW, fdW, Ws, GW⟩ := g_wantSaying (P := P) (w := w) (base := base) e Wn
  refine F.ok scHolds (fun vs H Q E h => ?_) (fun cdv A outer s H vs Q E hr h => ?_)
  · obtain ⟨v, u, sy, an, rfl, _⟩ := h
    rfl
  · obtain ⟨v, u, sy, an, rfl, D, ok, Du, ao, q⟩ := h
    refine ⟨_, pss_cons (ps_expr (pe_call GW hr rfl Ws.g Ws.F.kp Ws.b .nil pass0 (pa_cons (pv 0) pa_nil)))
      (pss_cons (ps_expr (pe_call GA (hr.mono (by decide)) rfl Wa.g Wa.F.kp Wa.b .nil pass0 (pa_cons (pv 0) (pa_cons (pv 1) pa_nil))))
      (pss_one (ps_ret (pe_cmpR op_isN (pe_call GB (hr.mono (by decide)) rfl Fb.g Fb.F.kp Fb.b .nil pass0 (pa_cons (pv 0) (pa_cons (pv 1) pa_nil))) pe_non (nomark _))))), ?_⟩
    refine ⟨_, rfl, v, sy, rfl, D, ok, fun H1 S1 => ⟨_, rfl, _, rfl, v, u, sy, an, rfl, D.same S1, Du.same S1, ok, ao, fun H2 S2 => ?_⟩⟩
    have S12 := S1.trans S2
    refine ⟨_, rfl, _, rfl, v, u, sy, an, rfl, D.same S12, ok, Du.same S12, ao, fun r H3 S3 Dr => ⟨rfl, ?_⟩⟩
    show Q (.bl (decide (r = .non))) H3
    rw [brk_isN Dr]
    exact q H3 (S12.trans S3)
theorem ok_brokenAt {f fB fA : Addr} {fd fdB fdA : FuncData} (F : Fun K "broken_at" "broken_at" sBrokenAt f fd) (e : Env1 K mg) (Wn : Wnt K mg) (Wa : Has K mg "want_answers" sWantAnswers ["saying", "answers"] fA fdA) (Fb : Has K mg "first_broken" sFirstBroken ["saying", "answers"] fB fdB)
    (GA : FnOk P w K mg base CX0 4 fA fdA ["saying", "answers"] spWantAnswers) (GB : FnOk P w K mg base CX0 3 fB fdB ["saying", "answers"] spFirstBroken) : FnOk P w K mg base CX0 8 f fd ["saying", "answers"] spFirstBroken := by
  obtain ⟨fW, fdW, Ws, GW⟩ := g_wantSaying (P := P) (w := w) (base := base) e Wn
  refine F.ok scBrokenAt (fun vs H Q E h => ?_) (fun cdv A outer s H vs Q E hr h => ?_)
  · obtain ⟨v, u, sy, an, rfl, _⟩ := h
    rfl
  · obtain ⟨v, u, sy, an, rfl, D, ok, Du, ao, q⟩ := h
    refine ⟨_, pss_cons (ps_expr (pe_call GW hr rfl Ws.g Ws.F.kp Ws.b .nil pass0 (pa_cons (pv 0) pa_nil)))
      (pss_cons (ps_expr (pe_call GA (hr.mono (by decide)) rfl Wa.g Wa.F.kp Wa.b .nil pass0 (pa_cons (pv 0) (pa_cons (pv 1) pa_nil))))
      (pss_one (ps_ret (pe_call GB (hr.mono (by decide)) rfl Fb.g Fb.F.kp Fb.b .nil pass0 (pa_cons (pv 0) (pa_cons (pv 1) pa_nil)))))), ?_⟩
    refine ⟨_, rfl, v, sy, rfl, D, ok, fun H1 S1 => ⟨_, rfl, _, rfl, v, u, sy, an, rfl, D.same S1, Du.same S1, ok, ao, fun H2 S2 => ?_⟩⟩
    have S12 := S1.trans S2
    exact ⟨_, rfl, _, rfl, v, u, sy, an, rfl, D.same S12, ok, Du.same S12, ao, fun r H3 S3 Dr => q r H3 (S12.trans S3) Dr⟩
theorem ok_valueOf {f fV fA : Addr} {fd fdV fdA : FuncData} (F : Fun K "value_of" "value_of" sValueOf f fd) (e : Env1 K mg) (Wn : Wnt K mg) (Wa : Has K mg "want_answers" sWantAnswers ["saying", "answers"] fA fdA) (Va : Has K mg "values_at" sValuesAt ["saying", "answers", "play"] fV fdV)
    (GA : FnOk P w K mg base CX0 4 fA fdA ["saying", "answers"] spWantAnswers) (GV : FnOk P w K mg base CX0 2 fV fdV ["saying", "answers", "play"] spValuesAt) : FnOk P w K mg base CX0 8 f fd ["saying", "answers", "name", "play"] spValueOf := by
  obtain ⟨fW, fdW, Ws, GW⟩ := g_wantSaying (P := P) (w := w) (base := base) e Wn
  obtain ⟨fO, fdO, Wo, GO⟩ := g_wantOwn (P := P) (w := w) (base := base) e Wn
  obtain ⟨fP, fdP, Wp, GP⟩ := g_wantPlay (P := P) (w := w) (base := base) e Wn
  refine F.ok scValueOf (fun vs H Q E h => ?_) (fun cdv A outer s H vs Q E hr h => ?_)
  · obtain ⟨v, u, y, sy, an, o, bs, b, rfl, _⟩ := h
    rfl
  · obtain ⟨v, u, y, sy, an, o, bs, b, rfl, D, ok, Du, ao, ho, Dy, hl, hv, q⟩ := h
    have hu : (A.deeper (envOfC "value_of" (defScope sValueOf) s.heap.objs.size f cdv)).units + 1 < cLine := by
      have h64 : (A.deeper (envOfC "value_of" (defScope sValueOf) s.heap.objs.size f cdv)).units + 64 < cLine := (hr.mono (show 0 ≤ 7 by decide)).units
      omega
    refine ⟨_, pss_cons (ps_expr (pe_call GW hr rfl Ws.g Ws.F.kp Ws.b .nil pass0 (pa_cons (pv 0) pa_nil)))
      (pss_cons (ps_expr (pe_call GA (hr.mono (by decide)) rfl Wa.g Wa.F.kp Wa.b .nil pass0 (pa_cons (pv 0) (pa_cons (pv 1) pa_nil))))
      (pss_cons (ps_expr (pe_call GO (hr.mono (by decide)) rfl Wo.g Wo.F.kp Wo.b .nil pass0 (pa_cons (pv 0) (pa_cons (pv 2) pa_nil))))
      (pss_cons (ps_expr (pe_call GP (hr.mono (by decide)) rfl Wp.g Wp.F.kp Wp.b .nil pass0 (pa_cons (pv 0) (pa_cons (pv 3) pa_nil))))
      (pss_one (ps_ret (pe_dget hu (pe_call GV (hr.mono (by decide)) rfl Va.g Va.F.kp Va.b .nil pass0 (pa_cons (pv 0) (pa_cons (pv 1) (pa_cons (pv 3) pa_nil)))) (pv 2) (fun _ _ => rfl))))))), ?_⟩
    refine ⟨_, rfl, v, sy, rfl, D, ok, fun H1 S1 => ⟨_, rfl, _, rfl, v, u, sy, an, rfl, D.same S1, Du.same S1, ok, ao, fun H2 S2 => ?_⟩⟩
    have S12 := S1.trans S2
    refine ⟨_, rfl, _, rfl, v, sy, o, rfl, D.same S12, ok, ho, fun H3 S3 => ?_⟩
    have S13 := S12.trans S3
    refine ⟨_, rfl, _, rfl, v, y, sy, bs, rfl, D.same S13, Dy.same S13, ok, hl, fun H4 S4 => ?_⟩
    have S14 := S13.trans S4
    refine ⟨_, rfl, _, rfl, _, rfl, v, u, y, sy, an, bs, rfl, D.same S14, ok, Du.same S14, ao, Dy.same S14, hl, fun p H5 S5 np ep => ?_⟩
    exact ⟨_, rfl, p, .bl b, rfl, .inl ⟨kvB (nmv sy an bs), .inr o.1, .inl ep, rfl, by rw [kvB_val, hv]; rfl⟩, q H5 (S14.trans S5)⟩
theorem ok_tablesOf {f : Addr} {fd : FuncData} (F : Fun K "tables_of" "tables_of" sTablesOf f fd) (B : Blt mg) : FnOk P w K mg base CX0 1 f fd ["saying", "row"] spTablesOf := by
  refine F.ok scTablesOf (fun vs H Q E h => ?_) (fun cdv A outer s H vs Q E hr h => ?_)
  · obtain ⟨v, r, sy, an, rfl, _⟩ := h
    rfl
  · obtain ⟨v, r, sy, an, rfl, D, ok, ao, er, q⟩ := h
    refine ⟨_, pss_cons (ps_set (i := 2) scTablesOf.nd rfl (.inl rfl) (pe_lst pa_nil))
      (pss_cons (ps_set (i := 3) scTablesOf.nd rfl (.inl rfl) pe_int)
      (pss_cons (ps_for PassesOwn.never rfl (pi_tup (pe_ix ix_tup (pv 0) pe_int (fun _ _ => rfl))) (pg_tup rfl (pgs_cons (pg_name (i := 4) scTablesOf.nd rfl (.inl rfl)) (pgs_cons (pg_name (i := 5) scTablesOf.nd rfl (.inl rfl)) pgs_nil)))
        (pss_cons (ps_set (i := 6) scTablesOf.nd rfl (.inl rfl) (pe_op op_add (pv 3) (pe_op op_shl pe_int (pe_callB call_len_seq (by rfl) B.len (by decide +kernel) (pa_cons (pv 5) pa_nil)))))
        (pss_cons (ps_expr (pe_bm PySem.F.plainAttrs_list PySem.F.slot_list_append PySem.F.type_list_append mt_append (pv 2) (pa_cons (pe_tupleOf rfl B.tuple (pe_slice sl_list (pv 1) (po_some (pv 3)) (po_some (pv 6)))) pa_nil)))
        (pss_one (ps_set (i := 3) scTablesOf.nd rfl (.inl rfl) (pv 6))))))
      (pss_one (ps_ret (pe_tupleOf rfl B.tuple (pv 2)))))), ?_⟩
    obtain ⟨a, pk, ow, c, rfl, ea, Dk, ⟨b, us, rfl, eb, Db⟩, Dc⟩ := say_row D
    have lu : us.length = sy.owns.length := by rw [Db.len, List.length_map]
    have lo := ok.ol
    have oc := ok.oc
    have opl := ok.pl
    have lf := ans_len ao
    refine ⟨Nat.zero_le _, fun lT hT => ?_⟩
    have S1 := same_new (o := .lst []) hT
    refine ⟨_, rfl, a, _, 1, _, rfl, rfl, SqT.of (S1 _ _ ea), rfl, b, rfl, ⟨_, FT.sq (eb.same S1)⟩, ?_⟩
    refine for_tup (K := K) (a := b) (xs := us) (fun i σ H4 => ∃ (T : List TRow) (o4 o5 o6 : Option V), σ = [some (.ref a), some (.ref r), some (.ref lT), some (.int (copies (sy.owns.take i) : Nat)), o4, o5, o6] ∧ H4 lT = some (.lst (T.map TRow.v)) ∧
      T.map Prod.snd = (an.take i).map blsD ∧ (∀ q' ∈ T, Dat H4 q'.v q'.2) ∧ Same H H4) ⟨[], _, _, _, rfl, upd_same, rfl, fun q' hq' => absurd hq' (by simp), S1⟩
      (fun i σ H4 _ ⟨_, _, _, _, _, _, _, _, S⟩ => FT.sq (eb.same S)) ?_ ?_
    · rintro i x σ H4 hx ⟨T, o4, o5, o6, rfl, e4, d4, D4, S4⟩
      obtain ⟨d, hd, Dx⟩ := dats_get' Db i x hx
      obtain ⟨o, ho, rfl⟩ := get_map hd
      obtain ⟨to, rfl⟩ := tuple_ref (ds := [.str o.1, nmsD o.2]) Dx
      obtain ⟨t', h1, h2⟩ := own_row (q := (to, ownD o)) rfl Dx
      have il : i < sy.owns.length := (List.getElem?_eq_some_iff.mp ho).1
      obtain ⟨tb, htb⟩ : ∃ t, an[i]? = some t := ⟨_, List.getElem?_eq_getElem (by have := ao.len; omega)⟩
      have og := (ok.own (List.mem_of_getElem? ho)).le
      have ct := copies_take sy.owns (i + 1)
      have cs : copies (sy.owns.take (i + 1)) = copies (sy.owns.take i) + 2 ^ o.2.length := by rw [take_next ho, copies_snoc]
      have ec : (copies (sy.owns.take i) : Int) + 1 * 2 ^ ((o.2.map V.str).length : Int).toNat = ((copies (sy.owns.take (i + 1)) : Nat) : Int) := by
        rw [cs, List.length_map, Int.toNat_natCast, Int.one_mul]
        push_cast
        rfl
      have h1' : copies (sy.owns.take i) ≤ copies (sy.owns.take (i + 1)) := by rw [cs]; exact Nat.le_add_right _ _
      have h2' : copies (sy.owns.take (i + 1)) ≤ an.flatten.length := by rw [lf]; exact ct
      have len4 : T.length ≤ 8 := by
        rw [← List.length_map (f := Prod.snd), d4, List.length_map, List.length_take]
        omega
      refine ⟨to, _, rfl, SqT.of (S4 _ _ h1), rfl, _, _, rfl, _, _, rfl, rfl, ?_⟩
      refine ⟨_, rfl, _, rfl, _, _, rfl, .inr (SqT.of (S4 _ _ h2)), _, _, rfl, rfl, ⟨by omega, by rw [List.length_map]; omega, by decide⟩, _, _, rfl, rfl, ?_⟩
      refine ⟨_, rfl, .inl ⟨rfl, _, SqL.of e4⟩, _, rfl, _, rfl, (copies (sy.owns.take i) : Nat), rfl, _, rfl, (copies (sy.owns.take (i + 1)) : Nat), by rw [← ec], r, _, rfl, SqL.of (S4 _ _ er), fun p hp => ?_⟩
      have Sp := same_new (o := .lst (cutV (an.flatten.map V.bl) (some ((copies (sy.owns.take i) : Nat) : Int)) (some ((copies (sy.owns.take (i + 1)) : Nat) : Int)))) hp
      refine .inl ⟨p, _, rfl, SqL.of upd_same, fun t ht => ?_⟩
      rw [cut_any h1' h2', ans_cut ao ho htb] at Sp ht ⊢
      have St := same_new (o := .tup (tb.map V.bl)) ht
      have e6 := St _ _ (Sp _ _ e4)
      refine ⟨lT, _, _, rfl, rfl, e6, by rw [List.length_map]; exact small1000 (by omega), ?_⟩
      refine ⟨_, rfl, ?_⟩
      refine ⟨T ++ [(t, blsD tb)], some (.str o.1), some (.ref t'), some (.int ((copies (sy.owns.take (i + 1)) : Nat) : Int)), ?_, by rw [upd_same, List.map_append]; rfl, ?_, fun q' hq' => ?_, same_upd (S4.trans (Sp.trans St)) hT⟩
      · rw [← ec]
        rfl
      · rw [List.map_append, d4, take_next htb, List.map_append]
        rfl
      · rcases List.mem_append.mp hq' with m | m
        · have kq : keyable q'.2 = true := by
            have m2 : q'.2 ∈ (an.take i).map blsD := d4 ▸ List.mem_map_of_mem m
            obtain ⟨z, _, hz⟩ := List.mem_map.mp m2
            rw [← hz]
            exact keyable_bls z
          exact dat_upd e6 kq ((D4 q' m).same (Sp.trans St))
        · cases List.mem_singleton.mp m
          exact dat_upd e6 (keyable_bls _) (.tup upd_same (dats_bls tb))
    · rintro σ H4 ⟨T, o4, o5, o6, rfl, e4, d4, D4, S4⟩
      rw [lu, ← ao.len, List.take_length] at d4
      refine ⟨_, rfl, .inl ⟨lT, _, rfl, SqL.of e4, fun t1 ht1 => ?_⟩⟩
      refine q _ _ (S4.trans (same_new ht1)) (.tup upd_same ?_)
      rw [← d4]
      exact dats_rows fun r hr => (D4 r hr).same (same_new ht1)
theorem ok_answersWith {f fR fT : Addr} {fd fdR fdT : FuncData} (F : Fun K "answers_with" "answers_with" sAnswersWith f fd) (e : Env1 K mg) (Wn : Wnt K mg) (Wr : Has K mg "want_rows" sWantRows ["saying", "rows"] fR fdR) (To : Has K mg "tables_of" sTablesOf ["saying", "row"] fT fdT)
    (GR : FnOk P w K mg base CX0 4 fR fdR ["saying", "rows"] spWantRows) : FnOk P w K mg base CX0 8 f fd ["saying", "rows"] spTablesOf := by
  obtain ⟨fW, fdW, Ws, GW⟩ := g_wantSaying (P := P) (w := w) (base := base) e Wn
  have GT : FnOk P w K mg base CX0 1 fT fdT ["saying", "row"] spTablesOf := ok_tablesOf To.F e.B
  refine F.ok scAnswersWith (fun vs H Q E h => ?_) (fun cdv A outer s H vs Q E hr h => ?_)
  · obtain ⟨v, r, sy, an, rfl, _⟩ := h
    rfl
  · obtain ⟨v, r, sy, an, rfl, D, ok, ao, er, q⟩ := h
    refine ⟨_, pss_cons (ps_expr (pe_call GW hr rfl Ws.g Ws.F.kp Ws.b .nil pass0 (pa_cons (pv 0) pa_nil)))
      (pss_cons (ps_expr (pe_call GR (hr.mono (by decide)) rfl Wr.g Wr.F.kp Wr.b .nil pass0 (pa_cons (pv 0) (pa_cons (pv 1) pa_nil))))
      (pss_one (ps_ret (pe_call GT (hr.mono (by decide)) rfl To.g To.F.kp To.b .nil pass0 (pa_cons (pv 0) (pa_cons (pv 1) pa_nil)))))), ?_⟩
    refine ⟨_, rfl, v, sy, rfl, D, ok, fun H1 S1 => ⟨_, rfl, _, rfl, v, r, sy, an.flatten, rfl, D.same S1, S1 _ _ er, ok, ans_len ao, fun H2 S2 => ?_⟩⟩
    have S12 := S1.trans S2
    exact ⟨_, rfl, _, rfl, v, r, sy, an, rfl, D.same S12, ok, ao, S12 _ _ er, fun t H3 S3 Dt => q t H3 (S12.trans S3) Dt⟩
end
end S1

set_option Elab.async false
set_option linter.all false
set_option maxRecDepth 100000
set_option maxHeartbeats 2000000
/-! what the names are at a play, and where a saying is broken, as the law reckons -/
namespace S1
open PySem PySem.W PySem.Spec PyProof.Rows L2 RZ
section
variable {X : Cx}
def rEqP : R2 := fun x y H Q => ∃ d e, Dat H x d ∧ Dat H y e ∧ d.plain = true ∧ e.plain = true ∧ d.depth ≤ 8 ∧ Q (.bl (PyData.eqv d e)) H
theorem op_eqP (hu : X.A.units + 64 < cLine) : OpR X (compareOp .Eq) rEqP := by
  intro pins s σ H x y v u Q I rx ry h
  obtain ⟨d, e, D1, D2, p1, p2, dp, q⟩ := h
  obtain ⟨as, R1⟩ := reads_of_dat I.hok D1 rx
  obtain ⟨bs, R2⟩ := reads_of_dat I.hok D2 ry
  exact PySem.SeqAt.eq_plain R1 R2 p1 p2 (by have := Nat.min_le_left d.depth e.depth; omega) ⟨.bl _, H, I, rfl, q⟩
end
theorem plains_map {α : Type} (f : α → PyData) (h : ∀ x, (f x).plain = true) : ∀ l : List α, PyData.plainAll (l.map f) = true
  | [] => rfl
  | x :: l => by rw [List.map_cons, PyData.plainAll, h x, plains_map f h l]; rfl
theorem eq_nilL {xs : List PyData} : PyData.eqv (.list xs) (.list []) = xs.isEmpty := by
  cases xs <;> simp [PyData.eqv, PyData.eqvAll]
theorem own_new {s : Say} {an : List Tbl} {bs : List Bool} (ok : SayOk 6 8 120 40 s) (ao : AnsOk s.owns an) (hl : bs.length = s.picks.length) {i : Nat} {o : Own} {t : Tbl} (ho : s.owns[i]? = some o) (ht : an[i]? = some t) :
    o.1 ∉ (s.picks.zip bs ++ ((s.owns.zip an).take i).map (ownAt s bs)).map Prod.fst := by
  have hzip : (s.owns.zip an)[i]? = some (o, t) := by rw [List.getElem?_zip_eq_some]; exact ⟨ho, ht⟩
  rw [List.map_append, zip_fst hl.symm]
  intro hm
  rcases List.mem_append.mp hm with hm | hm
  · exact (ok.own (List.mem_of_getElem? ho)).out hm
  · have nd := ok.ond
    rw [← own_names s bs ao.len, ← List.take_append_drop i (s.owns.zip an), List.map_append, List.map_append] at nd
    have hh : o.1 ∈ (((s.owns.zip an).drop i).map (ownAt s bs)).map Prod.fst := by
      rw [List.drop_eq_getElem_cons (List.getElem?_eq_some_iff.mp hzip).1, (List.getElem?_eq_some_iff.mp hzip).2]
      exact List.mem_cons_self
    exact (List.nodup_append.mp nd).2.2 _ hm _ hh rfl
theorem pick_new {ps : List Str} {bs : List Bool} (up : ps.Pairwise tlt) (hl : bs.length = ps.length) {i : Nat} {x : Str} (hx : ps[i]? = some x) : x ∉ ((ps.zip bs).take i).map Prod.fst := by
  rw [List.map_take, zip_fst hl.symm]
  intro hm
  have nd := nodup_tlt up
  rw [← List.take_append_drop i ps] at nd
  have hh : x ∈ ps.drop i := by
    rw [List.drop_eq_getElem_cons (List.getElem?_eq_some_iff.mp hx).1, (List.getElem?_eq_some_iff.mp hx).2]
    exact List.mem_cons_self
  exact (List.nodup_append.mp nd).2.2 _ hm _ hh rfl
def hitsOf (l : Nmv) (cl : List Ltr) : List Ltr := cl.filter fun x => decide (vOf l x.1 = some x.2)
theorem so_hits (l : Nmv) (cl : List Ltr) : (hitsOf l cl).isEmpty = !soB l cl := by
  unfold hitsOf soB
  induction cl with
  | nil => rfl
  | cons x cl ih =>
    rw [List.map_cons, List.any_cons]
    cases h : decide (vOf l x.1 = some x.2) with
    | true =>
      rw [List.filter_cons_of_pos (by simpa using h)]
      rfl
    | false =>
      rw [List.filter_cons_of_neg (by simpa using h), ih]
      rfl
abbrev nLT : List Str := ["saying", "answers", "play", "found", "at", "word", "sight"]
abbrev nLB : List Str := ["saying", "answers", "play", "truths", "at", "word", "truth"]
section
variable {P : Program} {w : World} {K : PySem.W.Frag} {mg : Str → Option Value} {base : Heap}
theorem scLTruths : FnScope nLT ["saying", "answers", "play"] (defScope sLTruths) := ⟨rfl, rfl, rfl, by decide +kernel, rfl, by decide +kernel, by decide +kernel⟩
theorem scLBroken : FnScope nLB ["saying", "answers"] (defScope sLBroken) := ⟨rfl, rfl, rfl, by decide +kernel, rfl, by decide +kernel, by decide +kernel⟩
theorem ok_lTruths {f fS fE : Addr} {fd fdS fdE : FuncData} (F : Fun K "_law_truths" "_law_truths" sLTruths f fd) (B : Blt mg) (Sp : Has K mg "_law_spot" sLSpot ["row"] fS fdS) (Se : Has K mg "_law_sees" sLSees ["saying", "sight", "play"] fE fdE) :
    FnOk P w K mg base CX0 2 f fd ["saying", "answers", "play"] spValuesAt := by
  have GS : FnOk P w K mg base CX0 1 fS fdS ["row"] spSpot := ok_spot Sp.F B
  have GE : FnOk P w K mg base CX0 1 fE fdE ["saying", "sight", "play"] spSees := ok_sees Se.F B
  refine F.ok scLTruths (fun vs H Q E h => ?_) (fun cdv A outer s H vs Q E hr h => ?_)
  · obtain ⟨v, u, y, sy, an, bs, rfl, _⟩ := h
    rfl
  · obtain ⟨v, u, y, sy, an, bs, rfl, D, ok, Du, ao, Dy, hl, q⟩ := h
    have hu : (A.deeper (envOfC "_law_truths" (defScope sLTruths) s.heap.objs.size f cdv)).units + 1 < cLine := by
      have h64 : (A.deeper (envOfC "_law_truths" (defScope sLTruths) s.heap.objs.size f cdv)).units + 64 < cLine := hr.units
      omega
    refine ⟨_, pss_cons (ps_set (i := 3) scLTruths.nd rfl (.inl rfl) pe_dnewK)
      (pss_cons (ps_for PassesOwn.never rfl (pi_range1 rfl B.range (pa_cons (pe_callB call_len_seq (by rfl) B.len (by decide +kernel) (pa_cons (pv 2) pa_nil)) pa_nil)) (pg_name (i := 4) scLTruths.nd rfl (.inl rfl))
        (pss_one (ps_dput hu (pv 3) (pe_ix ix_tup (pe_ix ix_tup (pv 0) pe_int (fun _ _ => rfl)) (pv 4) (fun _ _ => rfl)) (pe_ix ix_tup (pv 2) (pv 4) (fun _ _ => rfl)) rfl)))
      (pss_cons (ps_for PassesOwn.never rfl (pi_range1 rfl B.range (pa_cons (pe_callB call_len_seq (by rfl) B.len (by decide +kernel) (pa_cons (pv 1) pa_nil)) pa_nil)) (pg_name (i := 4) scLTruths.nd rfl (.inl rfl))
        (pss_cons (ps_asg (pe_ix ix_tup (pe_ix ix_tup (pv 0) pe_int (fun _ _ => rfl)) (pv 4) (fun _ _ => rfl)) (pg_tup rfl (pgs_cons (pg_name (i := 5) scLTruths.nd rfl (.inl rfl)) (pgs_cons (pg_name (i := 6) scLTruths.nd rfl (.inl rfl)) pgs_nil))))
        (pss_one (ps_dput hu (pv 3) (pv 5) (pe_ix ix_tup (pe_ix ix_tup (pv 1) (pv 4) (fun _ _ => rfl)) (pe_call GS hr rfl Sp.g Sp.F.kp Sp.b .nil pass0 (pa_cons (pe_call GE hr rfl Se.g Se.F.kp Se.b .nil pass0 (pa_cons (pv 0) (pa_cons (pv 6) (pa_cons (pv 2) pa_nil)))) pa_nil)) (fun _ _ => rfl)) rfl))))
      (pss_one (ps_ret (pv 3))))), ?_⟩
    obtain ⟨a, pk, ow, c, rfl, ea, Dk, ⟨b, us, rfl, eb, Db⟩, Dc⟩ := say_row D
    obtain ⟨b0, ups, rfl, eb0, Db0⟩ := dat_tup (ds := sy.picks.map PyData.str) Dk
    cases dats_strs_eq Db0
    obtain ⟨ty, rfl, ety⟩ := bls_row Dy
    obtain ⟨t, ts, rfl, et, Dt⟩ := dat_tup (ds := an.map blsD) Du
    have lu : us.length = sy.owns.length := by rw [Db.len, List.length_map]
    have lt : ts.length = an.length := by rw [Dt.len, List.length_map]
    have lo := ok.ol
    have opl := ok.pl
    have la := ao.len
    refine fun d hd => ?_
    have S1 := same_new (o := .dK []) hd
    refine ⟨_, rfl, _, _, rfl, .inr (SqT.of (S1 _ _ ety)), _, rfl, by rw [List.length_map]; omega, by rw [List.length_map]; omega, ?_⟩
    refine for_range (lo := 0) (n := ((bs.map V.bl).length : Int).toNat) (fun i σ H4 => ∃ o4 o5 o6 : Option V, σ = [some (.ref a), some (.ref t), some (.ref ty), some (.ref d), o4, o5, o6] ∧ H4 d = some (.dK (kvB ((sy.picks.zip bs).take i))) ∧ Same H H4) ⟨_, _, _, rfl, upd_same, S1⟩ ?_ ?_
    · rintro i σ H4 hi ⟨o4, o5, o6, rfl, e4, S4⟩
      rw [Int.toNat_natCast, List.length_map] at hi
      obtain ⟨bb, hb⟩ : ∃ b, bs[i]? = some b := ⟨_, List.getElem?_eq_getElem hi⟩
      obtain ⟨nm, hn⟩ : ∃ b, sy.picks[i]? = some b := ⟨_, List.getElem?_eq_getElem (by omega)⟩
      have at1 : atI (sy.picks.map V.str) (0 + (i : Int)) = some (.str nm) := by
        rw [Int.zero_add]
        exact atI_nat (by rw [List.getElem?_map, hn]; rfl)
      have at2 : atI (bs.map V.bl) (0 + (i : Int)) = some (.bl bb) := by
        rw [Int.zero_add]
        exact atI_nat (by rw [List.getElem?_map, hb]; rfl)
      have hz : (sy.picks.zip bs)[i]? = some (nm, bb) := by rw [List.getElem?_zip_eq_some]; exact ⟨hn, hb⟩
      refine ⟨_, rfl, _, rfl, ty, _, _, _, rfl, rfl, SqT.of (S4 _ _ ety), at2, _, rfl, _, rfl, a, _, 0, _, rfl, rfl, SqT.of (S4 _ _ ea), rfl, _, rfl, b0, _, _, _, rfl, rfl, SqT.of (S4 _ _ eb0), at1, d, _, rfl, DPut.k (k := Sum.inr nm) e4 ?_, ?_⟩
      · unfold kvB
        rw [List.length_map, List.length_take, List.length_zip]
        exact small1000 (by omega)
      · refine ⟨_, _, _, rfl, ?_, same_upd S4 hd⟩
        rw [upd_same, put_new (pick_new ok.pu hl hn), take_next hz]
    · rintro σ H4 ⟨o4, o5, o6, rfl, e4, S4⟩
      have tk : (sy.picks.zip bs).take ((bs.map V.bl).length : Int).toNat = sy.picks.zip bs := List.take_of_length_le (by rw [Int.toNat_natCast, List.length_map, List.length_zip]; omega)
      rw [tk] at e4
      refine ⟨_, rfl, _, _, rfl, .inr (SqT.of (S4 _ _ et)), _, rfl, by omega, by omega, ?_⟩
      refine for_range (lo := 0) (n := (ts.length : Int).toNat) (fun i σ H4 => ∃ o4 o5 o6 : Option V, σ = [some (.ref a), some (.ref t), some (.ref ty), some (.ref d), o4, o5, o6] ∧ H4 d = some (.dK (kvB (sy.picks.zip bs ++ ((sy.owns.zip an).take i).map (ownAt sy bs)))) ∧ Same H H4)
        ⟨_, _, _, rfl, by rw [List.take_zero, List.map_nil, List.append_nil]; exact e4, S4⟩ ?_ ?_
      · rintro i σ H5 hi ⟨o4, o5, o6, rfl, e5, S5⟩
        rw [Int.toNat_natCast] at hi
        obtain ⟨o, ho⟩ : ∃ o, sy.owns[i]? = some o := ⟨_, List.getElem?_eq_getElem (by omega)⟩
        obtain ⟨tb, htb⟩ : ∃ o, an[i]? = some o := ⟨_, List.getElem?_eq_getElem (by omega)⟩
        obtain ⟨xo, hxo, Dx⟩ := dats_get Db i (ownD o) (by rw [List.getElem?_map, ho]; rfl)
        obtain ⟨xt, hxt, Dz⟩ := dats_get Dt i (blsD tb) (by rw [List.getElem?_map, htb]; rfl)
        obtain ⟨to, rfl⟩ := tuple_ref (ds := [.str o.1, nmsD o.2]) Dx
        obtain ⟨t', h1, h2⟩ := own_row (q := (to, ownD o)) rfl Dx
        obtain ⟨tz, rfl, etz⟩ := bls_row Dz
        have mo := List.mem_of_getElem? ho
        have og := ok.own mo
        have sz := sees_size ok mo hl
        have le2 := og.le
        have at1 : atI us (0 + (i : Int)) = some (.ref to) := by rw [Int.zero_add]; exact atI_nat hxo
        have at2 : atI ts (0 + (i : Int)) = some (.ref tz) := by rw [Int.zero_add]; exact atI_nat hxt
        refine ⟨_, rfl, a, _, 1, _, rfl, rfl, SqT.of (S5 _ _ ea), rfl, _, rfl, b, _, _, _, rfl, rfl, FT.sq (eb.same S5), at1, to, _, rfl, SqT.of (S5 _ _ h1), rfl, _, _, rfl, _, _, rfl, rfl, ?_⟩
        refine ⟨_, rfl, _, rfl, t, _, _, _, rfl, rfl, SqT.of (S5 _ _ et), at2, _, rfl, _, rfl, _, rfl, .ref a, .ref t', .ref ty, sy, o.2, bs, rfl, D.same S5, ok, (Dat.tup h2 (dats_strs o.2)).same S5, Dy.same S5, hl, fun r H6 S6 Dr => ?_⟩
        refine ⟨r, seesD sy.picks o.2 bs, rfl, Dr, by rw [sz]; omega, ?_⟩
        refine ⟨tz, _, _, _, rfl, rfl, SqT.of (S6 _ _ (S5 _ _ etz)), tbl_at ok ao hl ho htb, _, rfl, _, rfl, d, _, rfl, DPut.k (k := Sum.inr o.1) (S6 _ _ e5) ?_, ?_⟩
        · unfold kvB
          rw [List.length_map, List.length_append, List.length_map, List.length_take, List.length_zip, List.length_zip]
          exact small1000 (by omega)
        · have hzip : (sy.owns.zip an)[i]? = some (o, tb) := by rw [List.getElem?_zip_eq_some]; exact ⟨ho, htb⟩
          refine ⟨_, _, _, rfl, ?_, same_upd (S5.trans S6) hd⟩
          rw [upd_same, put_new (own_new ok ao hl ho htb), take_next hzip, List.map_append, List.append_assoc]
          rfl
      · rintro σ H5 ⟨o4, o5, o6, rfl, e5, S5⟩
        have tk2 : (sy.owns.zip an).take (ts.length : Int).toNat = sy.owns.zip an := List.take_of_length_le (by rw [Int.toNat_natCast, List.length_zip]; omega)
        rw [tk2] at e5
        exact ⟨_, rfl, q d H5 S5 hd e5⟩
theorem ok_lBroken {f fT fP : Addr} {fd fdT fdP : FuncData} (F : Fun K "_law_broken" "_law_broken" sLBroken f fd) (B : Blt mg) (Tr : Has K mg "_law_truths" sLTruths ["saying", "answers", "play"] fT fdT) (Pl : Has K mg "_law_plays" sLPlays ["size"] fP fdP)
    (GT : FnOk P w K mg base CX0 2 fT fdT ["saying", "answers", "play"] spValuesAt) : FnOk P w K mg base CX0 3 f fd ["saying", "answers"] spFirstBroken := by
  have GP : FnOk P w K mg base CX0 1 fP fdP ["size"] spLPlays := ok_lPlays Pl.F B
  refine F.ok scLBroken (fun vs H Q E h => ?_) (fun cdv A outer s H vs Q E hr h => ?_)
  · obtain ⟨v, u, sy, an, rfl, _⟩ := h
    rfl
  · obtain ⟨v, u, sy, an, rfl, D, ok, Du, ao, q⟩ := h
    have hr1 := hr.mono (show 1 ≤ 2 by decide)
    have h64 : (A.deeper (envOfC "_law_broken" (defScope sLBroken) s.heap.objs.size f cdv)).units + 64 < cLine := hr1.units
    have hu : (A.deeper (envOfC "_law_broken" (defScope sLBroken) s.heap.objs.size f cdv)).units + 1 < cLine := by omega
    refine ⟨_, pss_cons (ps_for PassesOwn.never rfl (pi_list (pe_call GP hr1 rfl Pl.g Pl.F.kp Pl.b .nil pass0 (pa_cons (pe_callB call_len_seq (by rfl) B.len (by decide +kernel) (pa_cons (pe_ix ix_tup (pv 0) pe_int (fun _ _ => rfl)) pa_nil)) pa_nil))) (pg_name (i := 2) scLBroken.nd rfl (.inl rfl))
        (pss_cons (ps_set (i := 3) scLBroken.nd rfl (.inr rfl) (pe_call GT hr rfl Tr.g Tr.F.kp Tr.b .nil pass0 (pa_cons (pv 0) (pa_cons (pv 1) (pa_cons (pv 2) pa_nil)))))
        (pss_one (ps_for PassesOwn.never rfl (pi_range1 rfl B.range (pa_cons (pe_callB call_len_seq (by rfl) B.len (by decide +kernel) (pa_cons (pe_ix ix_tup (pv 0) pe_int (fun _ _ => rfl)) pa_nil)) pa_nil)) (pg_name (i := 4) scLBroken.nd rfl (.inl rfl))
          (pss_one (ps_if (pt_cmpR (op_eqP (by exact h64)) (pe_lc (own := [("word", 5), ("truth", 6)]) (g := gTup K 2 (gCons (gName 5) (gCons (gName 6) gNil))) (tt := tTest (tOp rEq (tDGet (tVar 3) (tVar 5)) (tVar 6))) (te := tVar 5) rfl scLBroken.nd
              (pi_tup (pe_ix ix_tup (pe_ix ix_tup (pv 0) pe_int (fun _ _ => rfl)) (pv 4) (fun _ _ => rfl))) (blkOk_by (N := nLB) (sc := defScope sLBroken) (by decide +kernel))
              (fun _ _ _ _ _ => by exact pg_tup rfl (pgs_cons (pg_name (i := 5) scLBroken.nd rfl (.inl rfl)) (pgs_cons (pg_name (i := 6) scLBroken.nd rfl (.inl rfl)) pgs_nil)))
              (fun _ _ _ _ _ => by exact pts_one (pt_cmpR op_eq (pe_dget (by exact hu) (pv 3) (pv 5) (fun _ _ => rfl)) (pv 6) (nomark _)))
              (fun _ _ _ _ _ => by exact pv 5)) (pe_lst pa_nil) (by with_unfolding_all rfl)) (pss_one (ps_ret (pe_tup (pa_cons (pv 4) (pa_cons (pv 2) pa_nil))))) pss_nil))))))
      (pss_one (ps_ret pe_non)), ?_⟩
    obtain ⟨a, pk, ow, c, rfl, ea, Dk, Do, Dc⟩ := say_row D
    obtain ⟨b0, ups, rfl, eb0, Db0⟩ := dat_tup (ds := sy.picks.map PyData.str) Dk
    cases dats_strs_eq Db0
    obtain ⟨bc, cus, rfl, ebc, Dbc⟩ := dat_tup (ds := sy.cls.map clD) Dc
    have lcu : cus.length = sy.cls.length := by rw [Dbc.len, List.length_map]
    have lcl := ok.cl
    have opl := ok.pl
    refine ⟨_, rfl, a, _, 0, _, rfl, rfl, SqT.of ea, rfl, b0, _, rfl, .inr (SqT.of eb0), sy.picks.length, by rw [List.length_map]; rfl, by omega, fun l H1 R => ?_⟩
    obtain ⟨T, eT, dT, DT⟩ := R.ex
    refine ⟨l, rfl, ⟨_, SqL.of eT⟩, ?_⟩
    have lenT : T.length = (playsD sy.picks.length).length := by rw [← List.length_map (f := Prod.snd), dT, List.length_map]
    refine for_list (K := K) (a := l) (xs := T.map TRow.v) (fun i σ H' => ∃ o2 o3 o4 : Option V, σ = [some (.ref a), some u, o2, o3, o4, none, none] ∧ (∀ b ∈ (playsD sy.picks.length).take i, badAt (nmv sy an b) sy.cls = none) ∧ Same H1 H') ⟨_, _, _, rfl, fun b hb => by simp at hb, Same.refl _⟩
      (fun i σ H' _ ⟨_, _, _, _, _, S⟩ => SqL.of (S _ _ eT)) ?_ ?_
    · rintro i x σ H' hx ⟨o2, o3, o4, rfl, hb, S1⟩
      rw [List.getElem?_map] at hx
      obtain ⟨y, hy, rfl⟩ := Option.map_eq_some_iff.mp hx
      have ey : ((playsD sy.picks.length).map blsD)[i]? = some y.2 := by rw [← dT, List.getElem?_map, hy]; rfl
      obtain ⟨bs, hbs, ep⟩ := get_map ey
      have hl : bs.length = sy.picks.length := plays_bits _ _ (List.mem_of_getElem? hbs)
      have Dy := DT y (List.mem_of_getElem? hy)
      rw [ep] at Dy
      have S01 := R.S.trans S1
      refine ⟨_, rfl, _, rfl, _, rfl, .ref a, u, y.v, sy, an, bs, rfl, D.same S01, ok, Du.same S01, ao, Dy.same S1, hl, fun pv' H2 S2 hpv ev => ?_⟩
      have S02 := S01.trans S2
      refine ⟨_, rfl, a, _, 2, _, rfl, rfl, SqT.of (S02 _ _ ea), rfl, bc, _, rfl, .inr (SqT.of (S02 _ _ ebc)), _, rfl, by omega, by omega, ?_⟩
      refine for_range (lo := 0) (n := (cus.length : Int).toNat) (fun j σ H4 => ∃ o4 : Option V, σ = [some (.ref a), some u, some y.v, some (.ref pv'), o4, none, none] ∧ (∀ c ∈ sy.cls.take j, soB (nmv sy an bs) c = true) ∧ Same H2 H4) ⟨_, rfl, fun b hb => by simp at hb, Same.refl _⟩ ?_ ?_
      · rintro j σ H4 hj ⟨o4, rfl, hc, S4⟩
        rw [Int.toNat_natCast] at hj
        obtain ⟨cl, hcl⟩ : ∃ c, sy.cls[j]? = some c := ⟨_, List.getElem?_eq_getElem (by omega)⟩
        obtain ⟨xc, hxc, Dx⟩ := dats_get Dbc j (clD cl) (by rw [List.getElem?_map, hcl]; rfl)
        have mcl := List.mem_of_getElem? hcl
        have ck := ok.ck cl mcl
        have lc : cl.length ≤ 14 := Nat.le_trans (cl_len ck) ok.nlen
        have S04 := S02.trans S4
        obtain ⟨tc, ls, rfl, etc, Dl⟩ := dat_tup (ds := cl.map ltD) Dx
        have ll : ls.length = cl.length := by rw [Dl.len, List.length_map]
        have at1 : atI cus (0 + (j : Int)) = some (.ref tc) := by rw [Int.zero_add]; exact atI_nat hxc
        refine ⟨_, rfl, a, _, 2, _, rfl, rfl, SqT.of (S04 _ _ ea), rfl, _, rfl, bc, _, _, _, rfl, rfl, SqT.of (S04 _ _ ebc), at1, tc, rfl, ⟨_, SqT.of (S04 _ _ etc)⟩, fun D0 hD0 => ?_⟩
        refine lc_tup (K := K) (a := tc) (xs := ls) (fun k H6 => H6 D0 = some (.lst (((hitsOf (nmv sy an bs) (cl.take k)).map Prod.fst).map V.str)) ∧ Same H4 H6) ⟨upd_same, same_new hD0⟩ (fun k H6 _ h => SqT.of (h.2 _ _ (S04 _ _ etc))) ?_ ?_
        · rintro k x6 H6 hx6 ⟨e6, S6⟩
          obtain ⟨d6, hd6, Dx6⟩ := dats_get' Dl k x6 hx6
          obtain ⟨lt, hlt, rfl⟩ := get_map hd6
          obtain ⟨tl, rfl, etl⟩ := ltr_row Dx6
          have mlt := List.mem_of_getElem? hlt
          have kl : k < cl.length := (List.getElem?_eq_some_iff.mp hlt).1
          obtain ⟨b, hvb⟩ := vOf_some (l := nmv sy an bs) (x := lt.1) (by rw [nmv_names ao.len hl]; exact ck.mem lt mlt)
          have hf : hitsOf (nmv sy an bs) (cl.take (k + 1)) = hitsOf (nmv sy an bs) (cl.take k) ++ if decide (vOf (nmv sy an bs) lt.1 = some lt.2) = true then [lt] else [] := by
            unfold hitsOf
            rw [take_next hlt, List.filter_append]
            congr 1
            cases h : decide (vOf (nmv sy an bs) lt.1 = some lt.2) <;> simp [h]
          refine ⟨tl, _, rfl, SqT.of (S6 _ _ (S04 _ _ etl)), rfl, _, _, rfl, _, _, rfl, rfl, rfl, ?_⟩
          refine ⟨_, rfl, _, rfl, pv', .bl b, rfl, .inl ⟨kvB (nmv sy an bs), .inr lt.1, .inl (S6 _ _ (S4 _ _ ev)), rfl, by rw [kvB_val, hvb]; rfl⟩, _, rfl, rfl, _, rfl, ?_⟩
          show if decide (V.bl b = V.bl lt.2) = true then _ else _
          rw [eq_bl, ← hvb]
          refine ite2 (fun h => ?_) (fun h => ?_)
          · rw [if_pos h] at hf
            refine ⟨_, rfl, _, e6, ?_, ?_, same_upd S6 hD0⟩
            · rw [List.length_map, List.length_map]
              have := List.length_filter_le (fun x : Ltr => decide (vOf (nmv sy an bs) x.1 = some x.2)) (cl.take k)
              rw [List.length_take] at this
              exact small1000 (by unfold hitsOf; omega)
            · rw [upd_same, hf, List.map_append, List.map_append]
              rfl
          · rw [if_neg h, List.append_nil] at hf
            exact ⟨by rw [hf]; exact e6, S6⟩
        · rintro H6 ⟨e6, S6⟩
          rw [ll, List.take_length] at e6
          refine ⟨Nat.zero_le _, fun le hle => ?_⟩
          have S7 := same_new (o := .lst []) hle
          refine ⟨.list (((hitsOf (nmv sy an bs) cl).map Prod.fst).map PyData.str), .list [], .lst (S7 _ _ e6) (dats_strs _), .lst upd_same .nil, plains_map PyData.str (fun _ => rfl) _, rfl, by
            have := depths_map PyData.str 0 (fun _ => Nat.le_refl _) ((hitsOf (nmv sy an bs) cl).map Prod.fst)
            simp only [PyData.depth]
            omega, ?_⟩
          have eb : PyData.eqv (.list (((hitsOf (nmv sy an bs) cl).map Prod.fst).map PyData.str)) (.list []) = !soB (nmv sy an bs) cl := by
            rw [eq_nilL, List.isEmpty_map, List.isEmpty_map, so_hits]
          have S67 := S6.trans S7
          cases hso : soB (nmv sy an bs) cl with
          | true =>
            refine ⟨false, by rw [eb, hso]; rfl, ?_⟩
            show if false = true then _ else _
            rw [if_neg (by decide)]
            exact ⟨_, rfl, take_more hc hcl hso, S4.trans S67⟩
          | false =>
            refine ⟨true, by rw [eb, hso]; rfl, ?_⟩
            show if true = true then _ else _
            rw [if_pos rfl]
            refine ⟨_, rfl, _, rfl, (by show 2 ≤ sizeLine; decide), fun tr htr => ?_⟩
            have S8 := same_new (o := .tup [V.int (0 + (j : Int)), y.v]) htr
            refine q _ _ ((S04.trans S67).trans S8) ?_
            rw [brk_at hb hbs (bad_at hc hcl hso)]
            have ej : (0 : Int) + (j : Int) = ((j : Nat) : Int) := Int.zero_add _
            rw [ej] at S8 ⊢
            exact .tup upd_same (.cons (.int _) (.cons ((Dy.same (S1.trans ((S2.trans S4).trans S67))).same S8) .nil))
      · rintro σ H4 ⟨o4, rfl, hc, S4⟩
        rw [Int.toNat_natCast, lcu, List.take_length] at hc
        exact ⟨_, _, _, rfl, take_more hb hbs (bad_none hc), S1.trans (S2.trans S4)⟩
    · rintro σ H' ⟨o2, o3, o4, rfl, hb, S1⟩
      rw [List.length_map, lenT, List.take_length] at hb
      refine q _ _ (R.S.trans S1) ?_
      rw [brk_none hb]
      exact .non
end
end S1

set_option Elab.async false
set_option linter.all false
set_option maxRecDepth 100000
set_option maxHeartbeats 2000000
/-! the first row by which a clause is broken; answers drawn -/
namespace S1
open PySem PySem.W PySem.Spec PyProof.Rows L2 RZ
/-- rows of names and their truths, in dicts -/
structure RowsN (H : Hp) (ps : List Addr) (Ls : List Nmv) : Prop where
  len : ps.length = Ls.length
  at_ : ∀ (i : Nat) (p : Addr) (l : Nmv), ps[i]? = some p → Ls[i]? = some l → H p = some (.dK (kvB l))
theorem RowsN.same {H H' : Hp} {ps : List Addr} {Ls : List Nmv} (h : RowsN H ps Ls) (S : Same H H') : RowsN H' ps Ls := ⟨h.len, fun i p l h1 h2 => S _ _ (h.at_ i p l h1 h2)⟩
def spLFirst : Sp := fun vs H Q _ => ∃ (r : Addr) (u : V) (ps : List Addr) (Ls : List Nmv) (cl : List Ltr), vs = [.ref r, u] ∧ H r = some (.lst (ps.map V.ref)) ∧ RowsN H ps Ls ∧ Dat H u (clD cl) ∧ (∀ l ∈ Ls, ∀ x ∈ cl, x.1 ∈ l.map Prod.fst) ∧ cl.length ≤ 14 ∧
  ∀ (y : V) (H' : Hp), Same H H' → (y = .non ∨ ∃ p l, y = .ref p ∧ l ∈ Ls ∧ H' p = some (.dK (kvB l))) → Q y H'
def spDrawn : Sp := fun vs H Q _ => ∃ (p : Addr) (v : V) (c : Nat) (s : Say), vs = [.ref p, v] ∧ Src H p c ∧ c ≤ 80000 ∧ DatS H v s ∧ SayOk 6 8 120 40 s ∧
  ∀ (u : V) (an : List Tbl) (H' : Hp), Dat H' u (ansT an) → AnsOk s.owns an → Src H' p (c + 120) → Same (del H p) (del H' p) → Q u H'
abbrev nLF : List Str := ["rows", "clause", "truths", "word", "truth"]
abbrev nLD : List Str := ["source", "saying", "word", "sight", "turn"]
def lcScope : Expr → Scope
  | .ListComp _ _ sc _ => sc
  | _ => defScope sLDrawn
def retArg : List Stmt → Expr
  | [.Return (some (.Call _ [e] _ _)) _] => e
  | _ => .Constant .none 0 ⟨0, 0, 0, 0⟩
abbrev scOut : Scope := lcScope (retArg (defBody sLDrawn))
def envD : Env := { scope := defScope sLDrawn, locals := 0, globals := 0, cells := [], qual := "", func := none, code := .none, frame := .none, builtins := 0 }
abbrev scOutR : Scope := relabel scOut envD
theorem tup_src {H H' : Hp} {p a : Addr} {c : Nat} {xs : List V} (h : Src H p c) (s : Same (del H p) (del H' p)) (e : H a = some (.tup xs)) : H' a = some (.tup xs) := by
  obtain ⟨ys, hx⟩ := h.lst
  have na : a ≠ p := fun z => by rw [z, hx] at e; cases e
  have z := s a _ (by rw [del_ne na]; exact e)
  rwa [del_ne na] at z
theorem ft_src {H H' : Hp} {p a : Addr} {c : Nat} {xs : List V} (h : Src H p c) (s : Same (del H p) (del H' p)) (e : FT H a xs) : FT H' a xs := by
  obtain ⟨ys, hx⟩ := h.lst
  obtain ⟨o, od, e⟩ := e
  have na : a ≠ p := fun z => by rw [z, hx] at e; cases e
  have z := s a _ (by rw [del_ne na]; exact e)
  rw [del_ne na] at z
  exact ⟨o, od, z⟩
section
variable {P : Program} {w : World} {K : PySem.W.Frag} {mg : Str → Option Value} {base : Heap}
theorem scLFirst : FnScope nLF ["rows", "clause"] (defScope sLFirstBroken) := ⟨rfl, rfl, rfl, by decide +kernel, rfl, by decide +kernel, by decide +kernel⟩
theorem scLDrawn : FnScope nLD ["source", "saying"] (defScope sLDrawn) := ⟨rfl, rfl, rfl, by decide +kernel, rfl, by decide +kernel, by decide +kernel⟩
theorem ok_lFirst {f : Addr} {fd : FuncData} (F : Fun K "_law_first_broken" "_law_first_broken" sLFirstBroken f fd) : FnOk P w K mg base CX0 1 f fd ["rows", "clause"] spLFirst := by
  refine F.ok scLFirst (fun vs H Q E h => ?_) (fun cdv A outer s H vs Q E hr h => ?_)
  · obtain ⟨r, u, ps, Ls, cl, rfl, _⟩ := h
    rfl
  · obtain ⟨r, u, ps, Ls, cl, rfl, er, rn, Du, hn, lc, q⟩ := h
    have h64 : (A.deeper (envOfC "_law_first_broken" (defScope sLFirstBroken) s.heap.objs.size f cdv)).units + 64 < cLine := hr.units
    have hu : (A.deeper (envOfC "_law_first_broken" (defScope sLFirstBroken) s.heap.objs.size f cdv)).units + 1 < cLine := by omega
    refine ⟨_, pss_cons (ps_for PassesOwn.never rfl (pi_list (pv 0)) (pg_name (i := 2) scLFirst.nd rfl (.inr rfl))
        (pss_one (ps_if (pt_cmpR (op_eqP (by exact h64)) (pe_lc (own := [("word", 3), ("truth", 4)]) (g := gTup K 2 (gCons (gName 3) (gCons (gName 4) gNil))) (tt := tTest (tOp rEq (tDGet (tVar 2) (tVar 3)) (tVar 4))) (te := tVar 3) rfl scLFirst.nd
              (pi_tup (pv 1)) (blkOk_by (N := nLF) (sc := defScope sLFirstBroken) (by decide +kernel))
              (fun _ _ _ _ _ => by exact pg_tup rfl (pgs_cons (pg_name (i := 3) scLFirst.nd rfl (.inl rfl)) (pgs_cons (pg_name (i := 4) scLFirst.nd rfl (.inl rfl)) pgs_nil)))
              (fun _ _ _ _ _ => by exact pts_one (pt_cmpR op_eq (pe_dget (by exact hu) (pv 2) (pv 3) (fun _ _ => rfl)) (pv 4) (nomark _)))
              (fun _ _ _ _ _ => by exact pv 3)) (pe_lst pa_nil) (by with_unfolding_all rfl)) (pss_one (ps_ret (pv 2))) pss_nil)))
      (pss_one (ps_ret pe_non)), ?_⟩
    obtain ⟨tc, ls, rfl, etc, Dl⟩ := dat_tup (ds := cl.map ltD) Du
    have ll : ls.length = cl.length := by rw [Dl.len, List.length_map]
    refine ⟨_, rfl, r, rfl, ⟨_, SqL.of er⟩, ?_⟩
    refine for_list (K := K) (a := r) (xs := ps.map V.ref) (fun i σ H' => ∃ o2 : Option V, σ = [some (.ref r), some (.ref tc), o2, none, none] ∧ Same H H') ⟨_, rfl, Same.refl _⟩ (fun i σ H' _ ⟨_, _, S⟩ => SqL.of (S _ _ er)) ?_ ?_
    · rintro i x σ H4 hx ⟨o2, rfl, S4⟩
      rw [List.getElem?_map] at hx
      obtain ⟨p, hp, rfl⟩ := Option.map_eq_some_iff.mp hx
      obtain ⟨l, hl⟩ : ∃ l, Ls[i]? = some l := ⟨_, List.getElem?_eq_getElem (by rw [← rn.len]; exact (List.getElem?_eq_some_iff.mp hp).1)⟩
      have ep := rn.at_ i p l hp hl
      have ml := List.mem_of_getElem? hl
      refine ⟨_, rfl, tc, rfl, ⟨_, SqT.of (S4 _ _ etc)⟩, fun D0 hD0 => ?_⟩
      refine lc_tup (K := K) (a := tc) (xs := ls) (fun k H6 => H6 D0 = some (.lst (((hitsOf l (cl.take k)).map Prod.fst).map V.str)) ∧ Same H4 H6) ⟨upd_same, same_new hD0⟩ (fun k H6 _ h => SqT.of (h.2 _ _ (S4 _ _ etc))) ?_ ?_
      · rintro k x6 H6 hx6 ⟨e6, S6⟩
        obtain ⟨d6, hd6, Dx6⟩ := dats_get' Dl k x6 hx6
        obtain ⟨lt, hlt, rfl⟩ := get_map hd6
        obtain ⟨tl, rfl, etl⟩ := ltr_row Dx6
        have mlt := List.mem_of_getElem? hlt
        have kl : k < cl.length := (List.getElem?_eq_some_iff.mp hlt).1
        obtain ⟨b, hvb⟩ := vOf_some (l := l) (x := lt.1) (hn l ml lt mlt)
        have hf : hitsOf l (cl.take (k + 1)) = hitsOf l (cl.take k) ++ if decide (vOf l lt.1 = some lt.2) = true then [lt] else [] := by
          unfold hitsOf
          rw [take_next hlt, List.filter_append]
          congr 1
          cases h : decide (vOf l lt.1 = some lt.2) <;> simp [h]
        refine ⟨tl, _, rfl, SqT.of (S6 _ _ (S4 _ _ etl)), rfl, _, _, rfl, _, _, rfl, rfl, rfl, ?_⟩
        refine ⟨_, rfl, _, rfl, p, .bl b, rfl, .inl ⟨kvB l, .inr lt.1, .inl (S6 _ _ (S4 _ _ ep)), rfl, by rw [kvB_val, hvb]; rfl⟩, _, rfl, rfl, _, rfl, ?_⟩
        show if decide (V.bl b = V.bl lt.2) = true then _ else _
        rw [eq_bl, ← hvb]
        refine ite2 (fun h => ?_) (fun h => ?_)
        · rw [if_pos h] at hf
          refine ⟨_, rfl, _, e6, ?_, ?_, same_upd S6 hD0⟩
          · rw [List.length_map, List.length_map]
            have := List.length_filter_le (fun x : Ltr => decide (vOf l x.1 = some x.2)) (cl.take k)
            rw [List.length_take] at this
            exact small1000 (by unfold hitsOf; omega)
          · rw [upd_same, hf, List.map_append, List.map_append]
            rfl
        · rw [if_neg h, List.append_nil] at hf
          exact ⟨by rw [hf]; exact e6, S6⟩
      · rintro H6 ⟨e6, S6⟩
        rw [ll, List.take_length] at e6
        refine ⟨Nat.zero_le _, fun le hle => ?_⟩
        have S7 := same_new (o := .lst []) hle
        refine ⟨.list (((hitsOf l cl).map Prod.fst).map PyData.str), .list [], .lst (S7 _ _ e6) (dats_strs _), .lst upd_same .nil, plains_map PyData.str (fun _ => rfl) _, rfl, by
          have := depths_map PyData.str 0 (fun _ => Nat.le_refl _) ((hitsOf l cl).map Prod.fst)
          simp only [PyData.depth]
          omega, ?_⟩
        have eb : PyData.eqv (.list (((hitsOf l cl).map Prod.fst).map PyData.str)) (.list []) = !soB l cl := by
          rw [eq_nilL, List.isEmpty_map, List.isEmpty_map, so_hits]
        have S67 := S6.trans S7
        cases hso : soB l cl with
        | true =>
          refine ⟨false, by rw [eb, hso]; rfl, ?_⟩
          show if false = true then _ else _
          rw [if_neg (by decide)]
          exact ⟨_, rfl, S4.trans S67⟩
        | false =>
          refine ⟨true, by rw [eb, hso]; rfl, ?_⟩
          show if true = true then _ else _
          rw [if_pos rfl]
          exact ⟨_, rfl, q _ _ (S4.trans S67) (.inr ⟨p, l, rfl, ml, S67 _ _ (S4 _ _ ep)⟩)⟩
    · rintro σ H4 ⟨o2, rfl, S4⟩
      exact q _ _ S4 (.inl rfl)
theorem ok_lDrawn {f fP : Addr} {fd fdP : FuncData} (F : Fun K "_law_drawn" "_law_drawn" sLDrawn f fd) (Pk : Has K mg "_law_pick" sPick ["source", "top"] fP fdP) (B : Blt mg) : FnOk P w K mg base CX0 2 f fd ["source", "saying"] spDrawn := by
  have GP : FnOk P w K mg base CX0 1 fP fdP ["source", "top"] spPick := ok_pick Pk.F B
  refine F.ok scLDrawn (fun vs H Q E h => ?_) (fun cdv A outer s H vs Q E hr h => ?_)
  · obtain ⟨p, v, c, sy, rfl, _⟩ := h
    rfl
  · obtain ⟨p, v, c, sy, rfl, hp, hc, D, ok, q⟩ := h
    refine ⟨_, pss_one (ps_ret (pe_tupleOf rfl B.tuple (pe_lc (own := [("word", 2), ("sight", 3)]) (g := gTup K 2 (gCons (gName 2) (gCons (gName 3) gNil))) (tt := tYes)
        (te := tThen (tLc (iRng1 (tCons (tOp (rI CPow fun i j => V.int (i * 2 ^ j.toNat)) (tC (V.int 1)) (tCB (fun xs H Q => ∃ p ys, xs = [V.ref p] ∧ (SqL K H p ys ∨ SqT K H p ys) ∧ Q (V.int ys.length) H) (tCons (tVar 3) tNil))) tNil)) (gName 4) tYes (tOp rEq (tCall spPick [] E0 (tCons (tVar 0) (tCons (tC (V.int 2)) tNil))) (tC (V.int 0))) [4]) (kTup K))
        rfl scLDrawn.nd (pi_tup (pe_ix ix_tup (pv 1) pe_int (fun _ _ => rfl))) (blkOk_by (N := nLD) (sc := defScope sLDrawn) (by decide +kernel))
        (fun _ _ _ _ _ => by exact pg_tup rfl (pgs_cons (pg_name (i := 2) scLDrawn.nd rfl (.inl rfl)) (pgs_cons (pg_name (i := 3) scLDrawn.nd rfl (.inl rfl)) pgs_nil))) (fun _ _ _ _ _ => pts_nil)
        (fun _ _ _ _ _ => by exact pe_tupleOf rfl B.tuple (pe_lc (own := [("turn", 4)]) rfl scLDrawn.nd (pi_range1 rfl B.range (pa_cons (pe_op op_shl pe_int (pe_callB call_len_seq (by rfl) B.len (by decide +kernel) (pa_cons (pv 3) pa_nil))) pa_nil))
          (by show BlkOk nLD scOutR _ _; exact blkOk_by (by decide +kernel)) (fun _ _ _ _ _ => pg_name (i := 4) scLDrawn.nd rfl (.inl rfl)) (fun _ _ _ _ _ => pts_nil)
          (fun _ _ _ _ _ => by exact pe_cmpR op_eq (pe_call GP (by exact hr) (by rfl) Pk.g Pk.F.kp Pk.b .nil pass0 (pa_cons (pv 0) (pa_cons pe_int pa_nil))) pe_int (nomark _))))))), ?_⟩
    obtain ⟨a, pk, ow, cc, rfl, ea, Dk, ⟨b, us, rfl, eb, Db⟩, Dc⟩ := say_row D
    have lu : us.length = sy.owns.length := by rw [Db.len, List.length_map]
    have lo := ok.ol
    have oc := ok.oc
    have opl := ok.pl
    refine ⟨_, rfl, a, _, 1, _, rfl, rfl, SqT.of ea, rfl, b, rfl, ⟨_, FT.sq eb⟩, fun D0 hD0 => ?_⟩
    have pD0 := hp.ne hD0
    refine lc_tup (K := K) (a := b) (xs := us) (fun j H4 => ∃ (T : List TRow) (an : List Tbl), H4 D0 = some (.lst (T.map TRow.v)) ∧ T.map Prod.snd = an.map blsD ∧ (∀ q' ∈ T, Dat H4 q'.v q'.2) ∧ an.length = j ∧ (∀ (i : Nat) (o : Own) (t : Tbl), sy.owns[i]? = some o → an[i]? = some t → t.length = 2 ^ o.2.length) ∧
      Src H4 p (c + copies (sy.owns.take j)) ∧ Same (del H p) (del H4 p))
      ⟨[], [], upd_same, rfl, fun q' hq' => absurd hq' (by simp), rfl, fun i o t _ h => by simp at h, hp.mono (upd_ne pD0) (by omega), sd_of (same_new hD0)⟩
      (fun j H4 _ ⟨_, _, _, _, _, _, _, _, S⟩ => FT.sq (ft_src hp S eb)) ?_ ?_
    · rintro j x H4 hx ⟨T, an, e4, d4, D4, la, ta, s4, S4⟩
      obtain ⟨d, hd, Dx⟩ := dats_get' Db j x hx
      obtain ⟨o, ho, rfl⟩ := get_map hd
      obtain ⟨to, rfl⟩ := tuple_ref (ds := [.str o.1, nmsD o.2]) Dx
      obtain ⟨t', h1, h2⟩ := own_row (q := (to, ownD o)) rfl Dx
      have il : j < sy.owns.length := (List.getElem?_eq_some_iff.mp ho).1
      have og := (ok.own (List.mem_of_getElem? ho)).le
      have ct := copies_take sy.owns (j + 1)
      have cs : copies (sy.owns.take (j + 1)) = copies (sy.owns.take j) + 2 ^ o.2.length := by rw [take_next ho, copies_snoc]
      have kT : ∀ q' ∈ T, keyable q'.2 = true := fun q' hq' => by
        have m2 : q'.2 ∈ an.map blsD := d4 ▸ List.mem_map_of_mem hq'
        obtain ⟨z, _, hz⟩ := List.mem_map.mp m2
        rw [← hz]
        exact keyable_bls z
      have pow : 2 ^ o.2.length ≤ 120 := by omega
      have eN : ((1 : Int) * 2 ^ ((o.2.map V.str).length : Int).toNat).toNat = 2 ^ o.2.length := by
        rw [List.length_map, Int.toNat_natCast, Int.one_mul]
        have : ((2 : Int) ^ o.2.length) = ((2 ^ o.2.length : Nat) : Int) := by push_cast; rfl
        rw [this, Int.toNat_natCast]
      have eI : (1 : Int) * 2 ^ ((o.2.map V.str).length : Int).toNat = ((2 ^ o.2.length : Nat) : Int) := by
        rw [List.length_map, Int.toNat_natCast, Int.one_mul]
        push_cast
        rfl
      refine ⟨to, _, rfl, SqT.of (tup_src hp S4 h1), rfl, _, _, rfl, _, _, rfl, rfl, rfl, yes_of ?_⟩
      refine ⟨_, rfl, _, _, rfl, .inr (SqT.of (tup_src hp S4 h2)), _, _, rfl, rfl, ⟨by omega, by rw [List.length_map]; omega, by decide⟩, _, rfl, by rw [eI]; omega, by rw [eI]; omega, fun D1 hD1 => ?_⟩
      have pD1 := s4.ne hD1
      have D01 : D0 ≠ D1 := ne_of_none e4 hD1
      rw [eN]
      refine lc_range (lo := 0) (n := 2 ^ o.2.length) (fun k H6 => ∃ bs : List Bool, H6 D1 = some (.lst (bs.map V.bl)) ∧ bs.length = k ∧ H6 D0 = some (.lst (T.map TRow.v)) ∧ (∀ q' ∈ T, Dat H6 q'.v q'.2) ∧ Src H6 p (c + copies (sy.owns.take j) + k) ∧ Same (del H p) (del H6 p) ∧ Same (del H4 p) (del H6 p)) ?_ ?_ ?_
      · exact ⟨[], upd_same, rfl, by rw [upd_ne D01]; exact e4, fun q' hq' => (D4 q' hq').same (same_new hD1), s4.mono (upd_ne pD1) (by omega), S4.trans (sd_of (same_new hD1)), sd_of (same_new hD1)⟩
      · rintro k H6 hk ⟨bs, e6, lb, e60, D6, s6, S6, S46⟩
        refine ⟨rfl, yes_of ?_⟩
        refine ⟨_, rfl, p, _, 2, rfl, s6, by omega, by decide, by decide, fun r o' _ _ hp7 => ⟨rfl, _, by rw [upd_ne pD1.symm]; exact e6, by rw [List.length_map, lb]; exact small1000 (by omega), bs ++ [decide (V.int r = V.int 0)], ?_⟩⟩
        obtain ⟨xs6, hx6⟩ := s6.lst
        have e71 : upd H6 p o' D1 = some (.lst (bs.map V.bl)) := by rw [upd_ne pD1.symm]; exact e6
        have hD1H : H D1 = none := sd_free S4 hD1 pD1.symm
        have hD1H4 : del H4 p D1 = none := by rw [del_ne pD1.symm]; exact hD1
        refine ⟨by rw [upd_same, List.map_append]; rfl, by rw [List.length_append, lb]; rfl, by rw [upd_ne D01, upd_ne pD0.symm]; exact e60, fun q' hq' => dat_upd e71 (kT q' hq') (dat_upd hx6 (kT q' hq') (D6 q' hq')), hp7.mono (upd_ne pD1) (by omega), sd_put (sd_at S6) hD1H, sd_put (sd_at S46) hD1⟩
      · rintro H6 ⟨bs, e6, lb, e60, D6, s6, S6, S46⟩
        refine .inl ⟨D1, _, rfl, SqL.of e6, fun t ht => ?_⟩
        have St := same_new (o := .tup (bs.map V.bl)) ht
        have pt := s6.ne ht
        have e70 := St _ _ e60
        refine ⟨_, e70, by rw [List.length_map, ← List.length_map (f := Prod.snd), d4, List.length_map, la]; exact small1000 (by omega), T ++ [(t, blsD bs)], an ++ [bs], by rw [upd_same, List.map_append]; rfl, by rw [List.map_append, d4, List.map_append]; rfl, fun q' hq' => ?_, by rw [List.length_append, la]; rfl, fun i o2 t2 h3 h4 => ?_, ?_, ?_⟩
        · rcases List.mem_append.mp hq' with m | m
          · exact dat_upd e70 (kT q' m) ((D6 q' m).same St)
          · cases List.mem_singleton.mp m
            exact dat_upd e70 (keyable_bls _) (.tup upd_same (dats_bls bs))
        · by_cases hi : i < an.length
          · rw [List.getElem?_append_left hi] at h4
            exact ta i o2 t2 h3 h4
          · have hi2 : i = an.length := by
              have := (List.getElem?_eq_some_iff.mp h4).1
              rw [List.length_append] at this
              simp at this
              omega
            rw [hi2, List.getElem?_append_right (Nat.le_refl _), Nat.sub_self] at h4
            cases (show some bs = some t2 from h4)
            rw [hi2, la, ho] at h3
            cases h3
            exact lb
        · exact s6.mono (by rw [upd_ne pD0, upd_ne pt]) (by rw [cs]; omega)
        · exact sd_put (sd_put S6 (sd_free S6 ht pt.symm)) hD0
    · rintro H4 ⟨T, an, e4, d4, D4, la, ta, s4, S4⟩
      rw [lu, List.take_length] at s4
      refine .inl ⟨D0, _, rfl, SqL.of e4, fun t ht => ?_⟩
      have pt := s4.ne ht
      refine q (.ref t) an _ (.tup upd_same ?_) ⟨by rw [la, lu], ta⟩ (s4.mono (upd_ne pt) (by omega)) (S4.trans (sd_of (same_new ht)))
      rw [← d4]
      exact dats_rows fun r hr => (D4 r hr).same (same_new ht)
end
end S1

set_option Elab.async false
set_option linter.all false
set_option maxRecDepth 100000
set_option maxHeartbeats 3000000
/-! a saying mended -/
namespace S1
open PySem PySem.W PySem.Spec PyProof.Rows L2 RZ
theorem keyable_nmsO (os : List Own) : keyables (os.map ownD) = true := keyables_map ownD keyable_own os
theorem datS_src {H H' : Hp} {p : Addr} {c : Nat} {v : V} {sy : Say} (h : Src H p c) (s : Same (del H p) (del H' p)) (D : DatS H v sy) : DatS H' v sy := by
  obtain ⟨a, pk, ow, cc, rfl, ea, Dp, ⟨b, us, rfl, ⟨o, od, eb⟩, Db⟩, Dc⟩ := D
  obtain ⟨xs, hx⟩ := h.lst
  have na : a ≠ p := fun z => by rw [z, hx] at ea; cases ea
  have nb : b ≠ p := fun z => by rw [z, hx] at eb; cases eb
  have za := s a _ (by rw [del_ne na]; exact ea)
  rw [del_ne na] at za
  have zb := s b _ (by rw [del_ne nb]; exact eb)
  rw [del_ne nb] at zb
  refine ⟨a, pk, _, cc, rfl, za, dat_src h s (keyable_nms _) Dp, ⟨b, us, rfl, ⟨o, od, zb⟩, dats_del hx s (keyable_nmsO _) Db⟩, dat_src h s ?_ Dc⟩
  show keyables (sy.cls.map clD) = true
  exact keyables_map clD keyable_cl _
theorem ite_te {c : Prop} [Decidable c] {ta tb : TE} {σ : L2.St} {H : Hp} {Q : VK} (I : V → Hp → Prop) (R : ∀ v H', I v H' → Q v H') (h1 : c → (∀ v H', I v H' → Q v H') → ta σ H Q) (h2 : ¬ c → (∀ v H', I v H' → Q v H') → tb σ H Q) : if c then ta σ H Q else tb σ H Q := by
  by_cases h : c
  · rw [if_pos h]; exact h1 h R
  · rw [if_neg h]; exact h2 h R
theorem Src.same {G G' : Hp} {p : Addr} {c : Nat} (h : Src G p c) (S : Same G G') : Src G' p c := by
  obtain ⟨xs, hx⟩ := h.lst
  exact h.mono (by rw [hx]; exact S _ _ hx) (Nat.le_refl _)
theorem rows_of {α : Type} {f : α → PyData} (tp : ∀ x, ∃ ds, f x = .tuple ds) {H : Hp} : ∀ {ls : List V} {l : List α}, DatAll H ls (l.map f) → ∃ T : List TRow, ls = T.map TRow.v ∧ T.map Prod.snd = l.map f ∧ ∀ q ∈ T, Dat H q.v q.2
  | ls, [], h => by
    cases h
    exact ⟨[], rfl, rfl, fun q hq => absurd hq (by simp)⟩
  | ls, x :: l, h => by
    cases h with
    | cons h1 h2 =>
      obtain ⟨T, rfl, e, D⟩ := rows_of tp h2
      obtain ⟨ds, ed⟩ := tp x
      obtain ⟨t, rfl⟩ := tuple_ref (ds := ds) (by rw [← ed]; exact h1)
      refine ⟨(t, f x) :: T, rfl, by rw [List.map_cons, List.map_cons, e], fun q hq => ?_⟩
      rcases List.mem_cons.mp hq with rfl | m
      · exact h1
      · exact D q m
structure Men (G0 : Hp) (p lF lB : Addr) (ns : List Str) (Tf Tb : List TRow) (fl bl : List (List Ltr)) (n c : Nat) (H : Hp) : Prop where
  f : H lF = some (.lst (Tf.map TRow.v))
  b : H lB = some (.lst (Tb.map TRow.v))
  fd : Tf.map Prod.snd = fl.map clD
  bd : Tb.map Prod.snd = bl.map clD
  fD : ∀ q ∈ Tf, Dat H q.v q.2
  bD : ∀ q ∈ Tb, Dat H q.v q.2
  fk : ∀ cl ∈ fl, ClOk ns cl
  bk : ∀ cl ∈ bl, ClOk ns cl
  fn : fl.length ≤ n
  bn : bl.length ≤ n
  s : Src H p c
  S : Same (del G0 p) (del H p)
theorem key_rows {T : List TRow} {l : List (List Ltr)} (h : T.map Prod.snd = l.map clD) : ∀ q ∈ T, keyable q.2 = true := fun q hq => by
  have m : q.2 ∈ l.map clD := h ▸ List.mem_map_of_mem hq
  obtain ⟨z, _, hz⟩ := List.mem_map.mp m
  rw [← hz]
  exact keyable_cl z
theorem rows_len {α : Type} {T : List TRow} {l : List α} {f : α → PyData} (h : T.map Prod.snd = l.map f) : T.length = l.length := by
  rw [← List.length_map (f := Prod.snd), h, List.length_map]
section
variable {G0 H H' : Hp} {p lF lB : Addr} {ns : List Str} {Tf Tb : List TRow} {fl bl : List (List Ltr)} {n c : Nat}
theorem Men.same (M : Men G0 p lF lB ns Tf Tb fl bl n c H) (S : Same H H') : Men G0 p lF lB ns Tf Tb fl bl n c H' := by
  obtain ⟨xs, hx⟩ := M.s.lst
  exact ⟨S _ _ M.f, S _ _ M.b, M.fd, M.bd, fun q hq => (M.fD q hq).same S, fun q hq => (M.bD q hq).same S, M.fk, M.bk, M.fn, M.bn, M.s.mono (by rw [hx]; exact S _ _ hx) (Nat.le_refl _), M.S.trans (sd_of S)⟩
theorem Men.up (M : Men G0 p lF lB ns Tf Tb fl bl n c H) {n' c' : Nat} (hn : n ≤ n') (hc : c ≤ c') : Men G0 p lF lB ns Tf Tb fl bl n' c' H := ⟨M.f, M.b, M.fd, M.bd, M.fD, M.bD, M.fk, M.bk, Nat.le_trans M.fn hn, Nat.le_trans M.bn hn, M.s.mono rfl hc, M.S⟩
theorem Men.src (M : Men G0 p lF lB ns Tf Tb fl bl n c H) {o : HO} {c' : Nat} (nF : lF ≠ p) (nB : lB ≠ p) (h : Src (upd H p o) p c') : Men G0 p lF lB ns Tf Tb fl bl n c' (upd H p o) := by
  obtain ⟨xs, hx⟩ := M.s.lst
  exact ⟨by rw [upd_ne nF]; exact M.f, by rw [upd_ne nB]; exact M.b, M.fd, M.bd, fun q hq => dat_upd hx (key_rows M.fd q hq) (M.fD q hq), fun q hq => dat_upd hx (key_rows M.bd q hq) (M.bD q hq), M.fk, M.bk, M.fn, M.bn, h, sd_at M.S⟩
theorem Men.addF (M : Men G0 p lF lB ns Tf Tb fl bl n c H) (nF : lF ≠ p) (hF : G0 lF = none) (hFB : lF ≠ lB) {t : Addr} {cl : List Ltr} (D : Dat H (.ref t) (clD cl)) (ck : ClOk ns cl) :
    Men G0 p lF lB ns (Tf ++ [(t, clD cl)]) Tb (fl ++ [cl]) bl (n + 1) c (upd H lF (.lst (Tf.map TRow.v ++ [.ref t]))) := by
  refine ⟨by rw [upd_same, List.map_append]; rfl, by rw [upd_ne hFB.symm]; exact M.b, by rw [List.map_append, List.map_append, M.fd]; rfl, M.bd, fun q hq => ?_, fun q hq => dat_upd M.f (key_rows M.bd q hq) (M.bD q hq), fun x hx => ?_, M.bk, by rw [List.length_append]; have := M.fn; show fl.length + 1 ≤ n + 1; omega, Nat.le_succ_of_le M.bn, M.s.mono (upd_ne nF.symm) (Nat.le_refl _), sd_put M.S hF⟩
  · rcases List.mem_append.mp hq with m | m
    · exact dat_upd M.f (key_rows M.fd q m) (M.fD q m)
    · cases List.mem_singleton.mp m
      exact dat_upd M.f (keyable_cl cl) D
  · rcases List.mem_append.mp hx with m | m
    · exact M.fk x m
    · cases List.mem_singleton.mp m
      exact ck
theorem Men.addB (M : Men G0 p lF lB ns Tf Tb fl bl n c H) (nB : lB ≠ p) (hB : G0 lB = none) (hFB : lF ≠ lB) {t : Addr} {cl : List Ltr} (D : Dat H (.ref t) (clD cl)) (ck : ClOk ns cl) (hn : bl.length < n) :
    Men G0 p lF lB ns Tf (Tb ++ [(t, clD cl)]) fl (bl ++ [cl]) n c (upd H lB (.lst (Tb.map TRow.v ++ [.ref t]))) := by
  refine ⟨by rw [upd_ne hFB]; exact M.f, by rw [upd_same, List.map_append]; rfl, M.fd, by rw [List.map_append, List.map_append, M.bd]; rfl, fun q hq => dat_upd M.b (key_rows M.fd q hq) (M.fD q hq), fun q hq => ?_, M.fk, fun x hx => ?_, M.fn, by rw [List.length_append]; show bl.length + 1 ≤ n; omega, M.s.mono (upd_ne nB.symm) (Nat.le_refl _), sd_put M.S hB⟩
  · rcases List.mem_append.mp hq with m | m
    · exact dat_upd M.b (key_rows M.bd q m) (M.bD q m)
    · cases List.mem_singleton.mp m
      exact dat_upd M.b (keyable_cl cl) D
  · rcases List.mem_append.mp hx with m | m
    · exact M.bk x m
    · cases List.mem_singleton.mp m
      exact ck
end
theorem rowsN_src {H H' : Hp} {p : Addr} {c : Nat} {ps : List Addr} {Ls : List Nmv} (h : RowsN H ps Ls) (hs : Src H p c) (S : Same (del H p) (del H' p)) : RowsN H' ps Ls := by
  refine ⟨h.len, fun i a l h1 h2 => ?_⟩
  have e := h.at_ i a l h1 h2
  obtain ⟨xs, hx⟩ := hs.lst
  have na : a ≠ p := fun z => by rw [z, hx] at e; cases e
  have z := S a _ (by rw [del_ne na]; exact e)
  rwa [del_ne na] at z
theorem lst_src {H H' : Hp} {p a : Addr} {xs : List V} (na : a ≠ p) (S : Same (del H p) (del H' p)) (e : H a = some (.lst xs)) : H' a = some (.lst xs) := by
  have z := S a _ (by rw [del_ne na]; exact e)
  rwa [del_ne na] at z
theorem cut_takeT {T : List TRow} {r : Nat} : cutV (T.map TRow.v) none (some (r : Int)) = (T.take r).map TRow.v := by
  unfold cutV
  rw [HT.sIx_nat, HT.sIx_none, List.drop_zero, List.map_take, Nat.sub_zero, ← List.take_eq_take_min]
theorem cut_dropT {T : List TRow} {a : Nat} (h : a ≤ T.length) : cutV (T.map TRow.v) (some (a : Int)) none = (T.drop a).map TRow.v := by
  unfold cutV
  rw [HT.sIx_nat, HT.sIx_none, List.length_map, Nat.min_eq_left h, ← List.map_drop, List.take_of_length_le (by rw [List.length_map, List.length_drop]; exact Nat.le_refl _)]
theorem cut_none {i : Option Int} : cutV ([] : List V) i none = [] := by
  unfold cutV
  simp
theorem cat_one {K : PySem.W.Frag} {H : Hp} {t t1 : Addr} {xs : List V} {y : V} {Q : VK} (e : H t = some (.tup xs)) (e1 : H t1 = some (.tup [y])) (len : xs.length ≤ 500)
    (q : ∀ r H', Same H H' → H' r = some (.tup (xs ++ [y])) → Q (.ref r) H') : rCatA K (.ref t) (.ref t1) H Q := by
  refine ⟨t, t1, _, _, rfl, rfl, SqT.of e, SqT.of e1, ?_, fun z => ?_, fun _ z => (nomatch z), fun _ _ p hp => ?_⟩
  · exact Nat.le_of_lt (small1000 (by show xs.length + 1 ≤ 1000; omega))
  · cases xs with
    | nil => exact q t1 H (Same.refl _) e1
    | cons b bs => cases z
  · exact q p _ (same_new hp) upd_same
def spMended : Sp := fun vs H Q _ => ∃ (p : Addr) (v u : V) (c left : Nat) (s : Say) (an : List Tbl), vs = [.ref p, v, u, .int left] ∧ Src H p c ∧ c ≤ 80000 ∧ left ≤ 1 ∧ DatS H v s ∧ SayOk 6 8 120 40 s ∧ Dat H u (ansT an) ∧ AnsOk s.owns an ∧
  ∀ (r : V) (s' : Say) (H' : Hp), DatS H' r s' → SayOk 6 8 120 40 s' → s'.picks = s.picks → s'.owns = s.owns → Src H' p (c + 40) → Same (del H p) (del H' p) → Q r H'
abbrev nLM : List Str := ["source", "saying", "answers", "left", "rows", "found", "broken", "clause", "truths", "words", "more", "longer", "play", "word", "truth"]
section
variable {P : Program} {w : World} {K : PySem.W.Frag} {mg : Str → Option Value} {base : Heap}
theorem scLMended : FnScope nLM ["source", "saying", "answers", "left"] (defScope sLMended) := ⟨rfl, rfl, rfl, by decide +kernel, rfl, by decide +kernel, by decide +kernel⟩
theorem ok_lMended {f fP fT fL fB : Addr} {fd fdP fdT fdL fdB : FuncData} (F : Fun K "_law_mended" "_law_mended" sLMended f fd) (B : Blt mg) (Pk : Has K mg "_law_pick" sPick ["source", "top"] fP fdP) (Tr : Has K mg "_law_truths" sLTruths ["saying", "answers", "play"] fT fdT) (Pl : Has K mg "_law_plays" sLPlays ["size"] fL fdL)
    (Fb : Has K mg "_law_first_broken" sLFirstBroken ["rows", "clause"] fB fdB) (GT : FnOk P w K mg base CX0 2 fT fdT ["saying", "answers", "play"] spValuesAt) : FnOk P w K mg base CX0 3 f fd ["source", "saying", "answers", "left"] spMended := by
  have GP : FnOk P w K mg base CX0 1 fP fdP ["source", "top"] spPick := ok_pick Pk.F B
  have GL : FnOk P w K mg base CX0 1 fL fdL ["size"] spLPlays := ok_lPlays Pl.F B
  have GB : FnOk P w K mg base CX0 1 fB fdB ["rows", "clause"] spLFirst := ok_lFirst Fb.F
  refine F.ok scLMended (fun vs H Q E h => ?_) (fun cdv A outer s H vs Q E hr h => ?_)
  · obtain ⟨p, v, u, c, left, sy, an, rfl, _⟩ := h
    rfl
  · obtain ⟨p, v, u, c, left, sy, an, rfl, hp, hc, h1, D, ok, Du, ao, q⟩ := h
    have hr1 := hr.mono (show 1 ≤ 2 by decide)
    have h64 : (A.deeper (envOfC "_law_mended" (defScope sLMended) s.heap.objs.size f cdv)).units + 64 < cLine := hr1.units
    have hu : (A.deeper (envOfC "_law_mended" (defScope sLMended) s.heap.objs.size f cdv)).units + 1 < cLine := by omega
    refine ⟨_, pss_cons (ps_par3 (i := 4) (j := 5) (l := 6) rfl scLMended.nd rfl rfl rfl (by decide) (by decide) (by decide) rfl rfl rfl
        (pa_cons (pe_lc (own := [("play", 12)]) (g := gName 12) (tt := tYes) (te := tCall spValuesAt [] E0 (tCons (tVar 1) (tCons (tVar 2) (tCons (tVar 12) tNil)))) rfl scLMended.nd
            (pi_list (pe_call GL hr1 rfl Pl.g Pl.F.kp Pl.b .nil pass0 (pa_cons (pe_callB call_len_seq (by rfl) B.len (by decide +kernel) (pa_cons (pe_ix ix_tup (pv 1) pe_int (fun _ _ => rfl)) pa_nil)) pa_nil))) (blkOk_by (N := nLM) (sc := defScope sLMended) (by decide +kernel))
            (fun _ _ _ _ _ => pg_name (i := 12) scLMended.nd rfl (Or.inl rfl)) (fun _ _ _ _ _ => pts_nil) (fun _ _ _ _ _ => by exact pe_call GT (by exact hr) (by rfl) Tr.g Tr.F.kp Tr.b .nil pass0 (pa_cons (pv 1) (pa_cons (pv 2) (pa_cons (pv 12) pa_nil)))))
          (pa_cons (pe_lst pa_nil) (pa_cons (pe_lst pa_nil) pa_nil))) (by with_unfolding_all rfl))
      (pss_cons (ps_for PassesOwn.never rfl (pi_tup (pe_ix ix_tup (pv 1) pe_int (fun _ _ => rfl))) (pg_name (i := 7) scLMended.nd rfl (.inl rfl))
        (pss_cons (ps_set (i := 8) scLMended.nd rfl (.inr rfl) (pe_call GB hr1 rfl Fb.g Fb.F.kp Fb.b .nil pass0 (pa_cons (pv 4) (pa_cons (pv 7) pa_nil))))
        (pss_one (ps_if (pt_cmpR op_isN (pv 8) pe_non (nomark _))
          (pss_one (ps_expr (pe_bm PySem.F.plainAttrs_list PySem.F.slot_list_append PySem.F.type_list_append mt_append (pv 5) (pa_cons (pv 7) pa_nil))))
          (pss_cons (ps_set (i := 9) scLMended.nd rfl (.inr rfl) (pe_lc (own := [("word", 13), ("truth", 14)]) (g := gTup K 2 (gCons (gName 13) (gCons (gName 14) gNil))) (tt := tYes) (te := tVar 13) rfl scLMended.nd (pi_tup (pv 7)) (blkOk_by (N := nLM) (sc := defScope sLMended) (by decide +kernel))
              (fun _ _ _ _ _ => by exact pg_tup rfl (pgs_cons (pg_name (i := 13) scLMended.nd rfl (.inl rfl)) (pgs_cons (pg_name (i := 14) scLMended.nd rfl (.inl rfl)) pgs_nil))) (fun _ _ _ _ _ => pts_nil) (fun _ _ _ _ _ => by exact pv 13)))
          (pss_cons (ps_setLc (i := 10) (own := [("word", 13)]) (g := gName 13) (tt := tTest (tOp (rIn K true) (tVar 13) (tVar 9))) (te := tTup (tCons (tVar 13) (tCons (tDGet (tVar 8) (tVar 13)) tNil))) rfl scLMended.nd rfl rfl (sw_true rfl rfl rfl (by decide +kernel)) (pi_list (pe_callB (call_sortedD rfl) (by rfl) B.sorted (by decide +kernel) (pa_cons (pv 8) pa_nil)))
              (blkOk_by (N := nLM) (sc := defScope sLMended) (by decide +kernel)) (fun _ _ _ _ _ => pg_name (i := 13) scLMended.nd rfl (Or.inl rfl)) (fun _ _ _ _ _ => by exact pts_one (pt_cmpR op_notIn_seq (pv 13) (pv 9) (by with_unfolding_all rfl)))
              (fun _ _ _ _ _ => by exact pe_tup (pa_cons (pv 13) (pa_cons (pe_dget (by exact hu) (pv 8) (pv 13) (fun _ _ => rfl)) pa_nil))))
          (pss_cons (ps_set (i := 11) scLMended.nd rfl (.inl rfl) (pe_ifExp (pt_cmpR (op_eqP (by exact h64)) (pv 10) (pe_lst pa_nil) (by with_unfolding_all rfl)) (pv 7)
              (pe_tupleOf rfl B.tuple (pe_callB (cr_sortLT (by exact h64)) (by rfl) B.sorted (by decide +kernel) (pa_cons (pe_op op_catA (pv 7) (pe_tup (pa_cons (pe_ix ix_list (pv 10) (pe_call GP hr1 rfl Pk.g Pk.F.kp Pk.b .nil pass0 (pa_cons (pv 0) (pa_cons (pe_callB call_len_seq (by rfl) B.len (by decide +kernel) (pa_cons (pv 10) pa_nil)) pa_nil))) (fun _ _ => rfl)) pa_nil))) pa_nil)))))
          (pss_cons (ps_if (pt_cmpR op_isN (pe_call GB hr1 rfl Fb.g Fb.F.kp Fb.b .nil pass0 (pa_cons (pv 4) (pa_cons (pv 11) pa_nil))) pe_non (nomark _))
              (pss_one (ps_expr (pe_bm PySem.F.plainAttrs_list PySem.F.slot_list_append PySem.F.type_list_append mt_append (pv 5) (pa_cons (pv 11) pa_nil)))) pss_nil)
          (pss_one (ps_expr (pe_bm PySem.F.plainAttrs_list PySem.F.slot_list_append PySem.F.type_list_append mt_append (pv 6) (pa_cons (pv 7) pa_nil))))))))))))
      (pss_one (ps_ret (pe_tup (pa_cons (pe_ix ix_tup (pv 1) pe_int (fun _ _ => rfl)) (pa_cons (pe_ix ix_tup (pv 1) pe_int (fun _ _ => rfl))
        (pa_cons (pe_tupleOf rfl B.tuple (pe_callB (cr_sortN rfl (by exact h64)) (by rfl) B.sorted (by decide +kernel) (pa_cons (pe_callTy (cr_setN rfl (by exact h64)) (by rfl) B.set (by decide +kernel)
          (pa_cons (pe_op op_cat (pe_slice sl_list (pv 5) po_none (po_some (pe_op op_sub pe_int (pv 3)))) (pe_slice sl_list (pv 6) (po_some (pe_op op_sub (pe_callB call_len_seq (by rfl) B.len (by decide +kernel) (pa_cons (pv 6) pa_nil)) (pv 3))) po_none)) pa_nil)) pa_nil))) pa_nil))))))), ?_⟩
    obtain ⟨a, pk, ow, c0, rfl, ea, Dk, ⟨b, us, rfl, eb, Db⟩, Dc⟩ := say_row D
    obtain ⟨b0, ups, rfl, eb0, Db0⟩ := dat_tup (ds := sy.picks.map PyData.str) Dk
    cases dats_strs_eq Db0
    obtain ⟨bc, cus, rfl, ebc, Dbc⟩ := dat_tup (ds := sy.cls.map clD) Dc
    have lcu : cus.length = sy.cls.length := by rw [Dbc.len, List.length_map]
    have lcl := ok.cl
    have opl := ok.pl
    refine ⟨_, rfl, a, _, 0, _, rfl, rfl, SqT.of ea, rfl, b0, _, rfl, .inr (SqT.of eb0), sy.picks.length, by rw [List.length_map]; rfl, by omega, fun l H1 R => ?_⟩
    obtain ⟨T, eT, dT, DT⟩ := R.ex
    refine ⟨l, rfl, ⟨_, SqL.of eT⟩, fun D0 hD0 => ?_⟩
    have lenT : T.length = (playsD sy.picks.length).length := rows_len dT
    have leT : T.length ≤ 64 := by
      rw [lenT, plays_len]
      exact Nat.pow_le_pow_right (n := 2) (by decide) opl
    refine lc_list (K := K) (a := l) (xs := T.map TRow.v) (fun j H4 => ∃ ps : List Addr, H4 D0 = some (.lst (ps.map V.ref)) ∧ ps.length = j ∧ (∀ (i : Nat) (p' : Addr) (bs : List Bool), ps[i]? = some p' → (playsD sy.picks.length)[i]? = some bs → H4 p' = some (.dK (kvB (nmv sy an bs)))) ∧ Same H1 H4)
      ⟨[], upd_same, rfl, fun i p' bs h => by simp at h, same_new hD0⟩ (fun j H4 _ ⟨_, _, _, _, S⟩ => SqL.of (S _ _ eT)) ?_ ?_
    · rintro j x H4 hx ⟨ps, e4, lp, at4, S4⟩
      rw [List.getElem?_map] at hx
      obtain ⟨y, hy, rfl⟩ := Option.map_eq_some_iff.mp hx
      have ey : ((playsD sy.picks.length).map blsD)[j]? = some y.2 := by rw [← dT, List.getElem?_map, hy]; rfl
      obtain ⟨bs, hbs, ep⟩ := get_map ey
      have hl : bs.length = sy.picks.length := plays_bits _ _ (List.mem_of_getElem? hbs)
      have Dy := DT y (List.mem_of_getElem? hy)
      rw [ep] at Dy
      have jl : j < T.length := (List.getElem?_eq_some_iff.mp hy).1
      refine ⟨rfl, yes_of ?_⟩
      refine ⟨_, rfl, _, rfl, _, rfl, .ref a, u, y.v, sy, an, bs, rfl, (D.same R.S).same S4, ok, (Du.same R.S).same S4, ao, Dy.same S4, hl, fun p' H5 S5 np ep => ?_⟩
      have e5 := S5 _ _ e4
      refine ⟨_, e5, by rw [List.length_map, lp]; exact small1000 (by omega), ps ++ [p'], by rw [upd_same, List.map_append]; rfl, by rw [List.length_append, lp]; rfl, fun i p2 bs2 h1 h2 => ?_, same_upd (S4.trans S5) hD0⟩
      have key : H5 p2 = some (.dK (kvB (nmv sy an bs2))) := by
        by_cases hi : i < ps.length
        · rw [List.getElem?_append_left hi] at h1
          exact S5 _ _ (at4 i p2 bs2 h1 h2)
        · have hi2 : i = ps.length := by
            have := (List.getElem?_eq_some_iff.mp h1).1
            rw [List.length_append] at this
            simp at this
            omega
          rw [hi2, List.getElem?_append_right (Nat.le_refl _), Nat.sub_self] at h1
          cases (show some p' = some p2 from h1)
          rw [hi2, lp, hbs] at h2
          cases h2
          exact ep
      have n2 : p2 ≠ D0 := fun z => by rw [z, e5] at key; cases key
      rw [upd_ne n2]
      exact key
    rintro H6 ⟨ps, e6, lp, at6, S6⟩
    have S06 := R.S.trans S6
    have rn6 : RowsN H6 ps ((playsD sy.picks.length).map (nmv sy an)) := by
      refine ⟨by rw [List.length_map, lp, List.length_map, lenT], fun i p' l h1 h2 => ?_⟩
      rw [List.getElem?_map] at h2
      obtain ⟨bs, hbs, rfl⟩ := Option.map_eq_some_iff.mp h2
      exact at6 i p' bs h1 hbs
    have hnm : ∀ l ∈ (playsD sy.picks.length).map (nmv sy an), l.map Prod.fst = sy.names := fun l hl => by
      obtain ⟨bs, hbs, rfl⟩ := List.mem_map.mp hl
      exact nmv_names ao.len (plays_bits _ _ hbs)
    refine ⟨Nat.zero_le _, fun lF hF => ⟨Nat.zero_le _, fun lB hB => ⟨_, _, _, rfl, ?_⟩⟩⟩
    have s6 := hp.same S06
    have pF := s6.ne hF
    have SF := same_new (o := .lst []) hF
    have s7 := s6.same SF
    have pB := s7.ne hB
    have nFB : lF ≠ lB := ne_of_none upd_same hB
    have hB6 : H6 lB = none := SF.free hB
    have SB := same_new (o := .lst []) hB
    have M0 : Men H6 p lF lB sy.names [] [] [] [] 0 c (upd (upd H6 lF (.lst [])) lB (.lst [])) := ⟨by rw [upd_ne nFB, upd_same]; rfl, upd_same, rfl, rfl, fun q' hq' => absurd hq' (by simp), fun q' hq' => absurd hq' (by simp), fun x hx => absurd hx (by simp), fun x hx => absurd hx (by simp), Nat.le_refl _, Nat.le_refl _, s7.same SB, sd_of (SF.trans SB)⟩
    have D6 := D.same S06
    have pD0 : D0 ≠ p := by
      intro z
      have h1 := hp.same R.S
      obtain ⟨xs, hx⟩ := h1.lst
      rw [z, hx] at hD0
      cases hD0
    generalize upd (upd H6 lF (.lst [])) lB (.lst []) = H7 at M0 ⊢
    refine ⟨_, rfl, a, _, 2, _, rfl, rfl, SqT.of (tup_src s6 M0.S (S06 _ _ ea)), rfl, bc, rfl, ⟨_, SqT.of (tup_src s6 M0.S (S06 _ _ ebc))⟩, ?_⟩
    refine for_tup (K := K) (a := bc) (xs := cus) (fun i σ H4 => ∃ (Tf Tb : List TRow) (fl bl : List (List Ltr)) (o7 o8 o9 o10 o11 : Option V), σ = [some (.ref p), some (.ref a), some u, some (.int (left : Nat)), some (.ref D0), some (.ref lF), some (.ref lB), o7, o8, o9, o10, o11, none, none, none] ∧ Men H6 p lF lB sy.names Tf Tb fl bl i (c + i) H4)
      ⟨[], [], [], [], _, _, _, _, _, rfl, M0⟩ (fun i σ H4 _ ⟨_, _, _, _, _, _, _, _, _, _, M⟩ => SqT.of (tup_src s6 M.S (S06 _ _ ebc))) ?_ ?_
    · rintro i x σ H4 hx ⟨Tf, Tb, fl, bl, o7, o8, o9, o10, o11, rfl, M4⟩
      obtain ⟨d, hd, Dx⟩ := dats_get' Dbc i x hx
      obtain ⟨cl, hcl, rfl⟩ := get_map hd
      have il : i < cus.length := (List.getElem?_eq_some_iff.mp hx).1
      have mcl := List.mem_of_getElem? hcl
      have ck := ok.ck cl mcl
      have lc : cl.length ≤ 14 := Nat.le_trans (cl_len ck) ok.nlen
      obtain ⟨tc, ls, rfl, etc, Dl⟩ := dat_tup (ds := cl.map ltD) Dx
      have Dx6 : Dat H6 (.ref tc) (clD cl) := Dx.same S06
      have Dx4 : Dat H4 (.ref tc) (clD cl) := dat_src s6 M4.S (keyable_cl _) Dx6
      have lenF : Tf.length ≤ 40 := by rw [rows_len M4.fd]; have := M4.fn; omega
      have lenB : Tb.length ≤ 40 := by rw [rows_len M4.bd]; have := M4.bn; omega
      have e4r : H4 D0 = some (.lst (ps.map V.ref)) := lst_src pD0 M4.S e6
      have rn4 := rowsN_src rn6 s6 M4.S
      refine ⟨_, rfl, _, rfl, D0, .ref tc, ps, _, cl, rfl, e4r, rn4, Dx4, fun l hl x hx => by rw [hnm l hl]; exact ck.mem x hx, lc, fun y H5 S5 hy => ?_⟩
      have M5 := M4.same S5
      refine ⟨_, rfl, rfl, _, rfl, ?_⟩
      rcases hy with rfl | ⟨p0, l0, rfl, ml0, ep0⟩
      · show if decide (V.non = V.non) = true then _ else _
        rw [decide_eq_true rfl, if_pos rfl]
        refine ⟨_, rfl, .inl ⟨rfl, _, SqL.of M5.f⟩, _, rfl, lF, _, _, rfl, rfl, M5.f, by rw [List.length_map]; exact small1000 (by omega), ?_⟩
        exact ⟨_, _, _, _, _, _, _, _, _, rfl, (M5.addF pF.symm hF nFB (Dx4.same S5) ck).up (Nat.le_refl _) (by omega)⟩
      · show if decide (V.ref p0 = V.non) = true then _ else _
        rw [decide_eq_false (fun z => by cases z), if_neg (by decide)]
        have nm0 : l0.map Prod.fst = sy.names := hnm l0 ml0
        have ec5 : H5 tc = some (.tup ls) := by
          have z : H4 tc = some (.tup ls) := tup_src s6 M4.S (S06 _ _ etc)
          exact S5 _ _ z
        have Dl5 : DatAll H5 ls (cl.map ltD) := by
          have z := Dx4.same S5
          obtain ⟨t2, ls2, e2, g2, h2⟩ := dat_tup (ds := cl.map ltD) z
          cases e2
          rw [ec5] at g2
          cases g2
          exact h2
        have ll : ls.length = cl.length := by rw [Dl.len, List.length_map]
        -- words
        refine ⟨_, rfl, tc, rfl, ⟨_, SqT.of ec5⟩, fun D1 hD1 => ?_⟩
        refine lc_tup (K := K) (a := tc) (xs := ls) (fun k H8 => H8 D1 = some (.lst (((cl.take k).map Prod.fst).map V.str)) ∧ Same H5 H8) ⟨upd_same, same_new hD1⟩ (fun k H8 _ h => SqT.of (h.2 _ _ ec5)) ?_ ?_
        · rintro k x8 H8 hx8 ⟨e8, S8⟩
          obtain ⟨d8, hd8, Dx8⟩ := dats_get' Dl5 k x8 hx8
          obtain ⟨lt, hlt, rfl⟩ := get_map hd8
          obtain ⟨tl, rfl, etl⟩ := ltr_row Dx8
          have kl : k < cl.length := (List.getElem?_eq_some_iff.mp hlt).1
          refine ⟨tl, _, rfl, SqT.of (S8 _ _ etl), rfl, _, _, rfl, _, _, rfl, rfl, rfl, yes_of ?_⟩
          refine ⟨_, rfl, _, e8, by rw [List.length_map, List.length_map, List.length_take]; exact small1000 (by omega), ?_, same_upd S8 hD1⟩
          rw [upd_same, take_next hlt, List.map_append, List.map_append]
          rfl
        rintro H8 ⟨e8, S8⟩
        rw [ll, List.take_length] at e8
        -- more
        have M8 := M5.same S8
        have ep8 := S8 _ _ ep0
        have nl := ok.nlen
        refine ⟨_, rfl, p0, kvB l0, sy.names, rfl, .inl ep8, by rw [← nm0]; unfold kvB; rw [List.map_map, List.map_map]; rfl, by omega, fun ys bD pm srt nb => ?_⟩
        have Sb := same_new (o := .lst (ys.map V.str)) nb
        refine ⟨bD, rfl, ⟨_, SqL.of upd_same⟩, fun D2 hD2 => ?_⟩
        have M9 := M8.same Sb
        have e9 := Sb _ _ e8
        have ep9 := Sb _ _ ep8
        have eb9 : upd H8 bD (.lst (ys.map V.str)) bD = some (.lst (ys.map V.str)) := upd_same
        have Dc9 : Dat (upd H8 bD (.lst (ys.map V.str))) (.ref tc) (clD cl) := ((Dx4.same S5).same S8).same Sb
        generalize upd H8 bD (.lst (ys.map V.str)) = H9 at M9 e9 ep9 eb9 Dc9 hD2 ⊢
        refine lc_list (K := K) (a := bD) (xs := ys.map V.str) (fun k H10 => ∃ (T2 : List TRow) (ml : List Ltr), H10 D2 = some (.lst (T2.map TRow.v)) ∧ T2.map Prod.snd = ml.map ltD ∧ (∀ q' ∈ T2, Dat H10 q'.v q'.2) ∧ (∀ x ∈ ml, x.1 ∈ sy.names ∧ x.1 ∉ cl.map Prod.fst) ∧ ml.length ≤ k ∧ Same H9 H10)
          ⟨[], [], upd_same, rfl, fun q' hq' => absurd hq' (by simp), fun x hx => absurd hx (by simp), Nat.le_refl _, same_new hD2⟩ (fun k H10 _ ⟨_, _, _, _, _, _, _, S⟩ => SqL.of (S _ _ eb9)) ?_ ?_
        · rintro k x10 H10 hx10 ⟨T2, ml, e10, d10, D10, hml, lml, S10⟩
          rw [List.getElem?_map] at hx10
          obtain ⟨nm, hn, rfl⟩ := Option.map_eq_some_iff.mp hx10
          have mn : nm ∈ sy.names := pm.mem_iff.mp (List.mem_of_getElem? hn)
          have kl : k < ys.length := (List.getElem?_eq_some_iff.mp hn).1
          have ly : ys.length ≤ 14 := by rw [pm.length_eq]; exact nl
          obtain ⟨bb, hvb⟩ := vOf_some (l := l0) (x := nm) (by rw [nm0]; exact mn)
          refine ⟨rfl, _, rfl, _, rfl, D1, _, rfl, .inl (SqL.of (S10 _ _ e9)), rfl, flat_strs _, _, rfl, ?_⟩
          show if (!inV (V.str nm) ((cl.map Prod.fst).map V.str)) = true then _ else _
          rw [inV_str]
          refine ite2 (fun h => ?_) (fun h => ?_)
          · have hnot : nm ∉ cl.map Prod.fst := fun z => by rw [decide_eq_true z] at h; cases h
            refine ⟨_, rfl, _, rfl, _, rfl, p0, .bl bb, rfl, .inl ⟨kvB l0, .inr nm, .inl (S10 _ _ ep9), rfl, by rw [kvB_val, hvb]; rfl⟩, (by show 2 ≤ sizeLine; decide), fun t ht => ?_⟩
            have St := same_new (o := .tup [V.str nm, .bl bb]) ht
            have e11 := St _ _ e10
            refine ⟨_, e11, by rw [List.length_map, rows_len d10]; exact small1000 (by omega), T2 ++ [(t, ltD (nm, bb))], ml ++ [(nm, bb)], by rw [upd_same, List.map_append]; rfl, by rw [List.map_append, List.map_append, d10]; rfl, fun q' hq' => ?_, fun x hx => ?_, by rw [List.length_append]; show ml.length + 1 ≤ k + 1; omega, same_upd (S10.trans St) hD2⟩
            · rcases List.mem_append.mp hq' with m | m
              · have kq : keyable q'.2 = true := by
                  have m2 : q'.2 ∈ ml.map ltD := d10 ▸ List.mem_map_of_mem m
                  obtain ⟨z, _, hz⟩ := List.mem_map.mp m2
                  rw [← hz]
                  rfl
                exact dat_upd e11 kq ((D10 q' m).same St)
              · cases List.mem_singleton.mp m
                exact dat_upd e11 rfl (.tup upd_same (.cons (.str _) (.cons (.bl _) .nil)))
            · rcases List.mem_append.mp hx with m | m
              · exact hml x m
              · cases List.mem_singleton.mp m
                exact ⟨mn, hnot⟩
          · exact ⟨T2, ml, e10, d10, D10, hml, by omega, S10⟩
        rintro H10 ⟨T2, ml, e10, d10, D10, hml, lml, S10⟩
        have M10 := M9.same S10
        have Dc10 := Dc9.same S10
        have ly : ys.length ≤ 14 := by rw [pm.length_eq]; exact nl
        rw [List.length_map] at lml
        -- longer
        refine ⟨_, rfl, Nat.zero_le _, fun le hle => ?_⟩
        have Se := same_new (o := .lst []) hle
        have M11 := M10.same Se
        have Dc11 := Dc10.same Se
        have e11 := Se _ _ e10
        have D11 : ∀ q' ∈ T2, Dat (upd H10 le (.lst [])) q'.v q'.2 := fun q' hq' => (D10 q' hq').same Se
        refine ⟨.list (ml.map ltD), .list [], ?_, .lst upd_same .nil, plains_map ltD (fun _ => rfl) _, rfl, by
          have := depths_map ltD 1 depth_lt ml
          simp only [PyData.depth]
          omega, decide (ml = []), ?_, ?_⟩
        · rw [← d10]
          exact .lst e11 (dats_rows D11)
        · rw [eq_nilL, List.isEmpty_map]
          cases ml <;> rfl
        generalize upd H10 le (.lst []) = H11 at M11 Dc11 e11 D11 ⊢
        refine ite_te (fun v G => ∃ tl lg, v = .ref tl ∧ Dat G (.ref tl) (clD lg) ∧ ClOk sy.names lg ∧ Men H6 p lF lB sy.names Tf Tb fl bl i (c + (i + 1)) G) (fun v12 H12 ⟨tl, lg, e12, Dg, gk, M12⟩ => ?_) (fun _ R => ?_) (fun hne R => ?_)
        rotate_left
        · exact ⟨_, rfl, R _ _ ⟨tc, cl, rfl, Dc11, ck, M11.up (Nat.le_refl _) (by omega)⟩⟩
        · have hne' : ml ≠ [] := fun z => hne (decide_eq_true z)
          have pos : 0 < ml.length := List.length_pos_iff.mpr hne'
          have lT2 := rows_len d10
          refine ⟨_, rfl, _, rfl, _, rfl, _, rfl, _, _, rfl, .inl (SqL.of e11), p, _, _, rfl, M11.s, by omega, by rw [List.length_map]; omega, by rw [List.length_map]; omega, fun r o' r0 r1 hp12 => ?_⟩
          obtain ⟨xv, hat, mx, hg⟩ := at_ok (xs := T2.map TRow.v) r0 r1
          rw [List.getElem?_map] at hg
          obtain ⟨qx, hqx, rfl⟩ := Option.map_eq_some_iff.mp hg
          have eqx : (ml.map ltD)[r.toNat]? = some qx.2 := by rw [← d10, List.getElem?_map, hqx]; rfl
          obtain ⟨lx, hlx, edx⟩ := get_map eqx
          have mlx := List.mem_of_getElem? hlx
          obtain ⟨nx1, nx2⟩ := hml lx mlx
          have D2p : D2 ≠ p := by
            intro z
            have h1 := M9.s
            obtain ⟨xs, hx⟩ := h1.lst
            rw [z, hx] at hD2
            cases hD2
          have M12 := M11.src pF.symm pB.symm hp12
          obtain ⟨xs11, hx11⟩ := M11.s.lst
          have Dc12 : Dat (upd H11 p o') (.ref tc) (clD cl) := dat_upd hx11 (keyable_cl _) Dc11
          have Dq12 : Dat (upd H11 p o') qx.v (ltD lx) := by
            rw [← edx]
            exact dat_upd hx11 (by rw [edx]; rfl) (D11 qx (List.mem_of_getElem? hqx))
          refine ⟨D2, _, r, _, rfl, rfl, SqL.of (by rw [upd_ne D2p]; exact e11), hat, (by show 1 ≤ sizeLine; decide), fun t1 ht1 => ?_⟩
          have St1 := same_new (o := .tup [qx.v]) ht1
          have M13 := M12.same St1
          have Dc13 := Dc12.same St1
          have Dq13 := Dq12.same St1
          obtain ⟨tc2, ls2, ec2, g2, Dl2⟩ := dat_tup (ds := cl.map ltD) Dc13
          cases ec2
          refine cat_one g2 upd_same (by rw [Dl2.len, List.length_map]; omega) fun rr H14 S14 e14 => ?_
          have Dall : DatAll H14 (ls2 ++ [qx.v]) ((cl ++ [lx]).map ltD) := by
            rw [List.map_append]
            exact (DatAll.same S14 Dl2).snoc (Dq13.same S14)
          obtain ⟨T3, eT3, dT3, DT3⟩ := rows_of (f := ltD) (fun _ => ⟨_, rfl⟩) Dall
          refine ⟨rr, T3, rfl, SqT.of (by rw [← eT3]; exact e14), DT3, sorty_of dT3 alike_lt (fun x => ⟨_, rfl⟩) (fun x => by have := depth_lt x; omega), fun T4 b4 pm4 _ up4 nb4 => ?_⟩
          have ndc : ((cl ++ [lx]).map Prod.fst).Nodup := by
            rw [List.map_append]
            refine List.nodup_append.mpr ⟨nodup_tlt (List.pairwise_map.mpr ck.up), List.pairwise_singleton _ _, fun x hx y hy z => ?_⟩
            have ey : y = lx.1 := List.mem_singleton.mp hy
            rw [z, ey] at hx
            exact nx2 hx
          obtain ⟨lg, p2, e2, up2⟩ := letters_back pm4 dT3 ndc up4
          have Sb4 := same_new (o := .lst (T4.map TRow.v)) nb4
          refine .inl ⟨b4, _, rfl, SqL.of upd_same, fun t5 ht5 => ?_⟩
          have St5 := same_new (o := .tup (T4.map TRow.v)) ht5
          refine R _ _ ⟨t5, lg, rfl, .tup upd_same ?_, ⟨up2, fun x hx => ?_⟩, ((((M13.same S14).same Sb4).same St5)).up (Nat.le_refl _) (by omega)⟩
          · rw [← e2]
            exact dats_rows fun q' hq' => ((DT3 q' (pm4.mem_iff.mp hq')).same Sb4).same St5
          · rcases List.mem_append.mp (p2.mem_iff.mp hx) with m | m
            · exact ck.mem x m
            · cases List.mem_singleton.mp m
              exact nx1
        subst e12
        have lg14 : lg.length ≤ 14 := Nat.le_trans (cl_len gk) nl
        have e12r : H12 D0 = some (.lst (ps.map V.ref)) := lst_src pD0 M12.S e6
        have rn12 := rowsN_src rn6 s6 M12.S
        refine ⟨_, rfl, _, rfl, D0, .ref tl, ps, _, lg, rfl, e12r, rn12, Dg, fun l hl x hx => by rw [hnm l hl]; exact gk.mem x hx, lg14, fun y2 H13 S13 hy2 => ⟨rfl, _, rfl, ?_⟩⟩
        have M13 := M12.same S13
        refine branch (fun σ' G => ∃ (Tf' : List TRow) (fl' : List (List Ltr)), σ' = [some (.ref p), some (.ref a), some u, some (.int (left : Nat)), some (.ref D0), some (.ref lF), some (.ref lB), some (.ref tc), some (.ref p0), some (.ref D1), some (.ref D2), some (.ref tl), none, none, none] ∧ Men H6 p lF lB sy.names Tf' Tb fl' bl (i + 1) (c + (i + 1)) G)
          ?_ (fun _ R => ?_) (fun _ R => ?_)
        · rintro σ' H14 ⟨Tf', fl', rfl, M14⟩
          refine ⟨_, rfl, .inl ⟨rfl, _, SqL.of M14.b⟩, _, rfl, lB, _, _, rfl, rfl, M14.b, by rw [List.length_map]; exact small1000 (by omega), ?_⟩
          have Dc14 : Dat H14 (.ref tc) (clD cl) := dat_src s6 M14.S (keyable_cl _) Dx6
          exact ⟨_, _, _, _, _, _, _, _, _, rfl, M14.addB pB.symm hB6 nFB Dc14 ck (by have := M4.bn; omega)⟩
        · refine ⟨_, rfl, .inl ⟨rfl, _, SqL.of M13.f⟩, _, rfl, lF, _, _, rfl, rfl, M13.f, by rw [List.length_map]; exact small1000 (by omega), ?_⟩
          exact R _ _ ⟨_, _, rfl, M13.addF pF.symm hF nFB (Dg.same S13) gk⟩
        · exact R _ _ ⟨_, _, rfl, M13.up (Nat.le_succ _) (Nat.le_refl _)⟩
    · rintro σ H4 ⟨Tf, Tb, fl, bl, o7, o8, o9, o10, o11, rfl, M4⟩
      have lF40 : Tf.length ≤ 40 := by rw [rows_len M4.fd]; have := M4.fn; omega
      have lB40 : Tb.length ≤ 40 := by rw [rows_len M4.bd]; have := M4.bn; omega
      have ea4 : H4 a = some (.tup [.ref b0, .ref b, .ref bc]) := tup_src s6 M4.S (S06 _ _ ea)
      have e40 : (40 : Int) - (left : Int) = ((40 - left : Nat) : Int) := by omega
      refine ⟨_, rfl, a, _, 0, _, rfl, rfl, SqT.of ea4, rfl, _, rfl, a, _, 1, _, rfl, rfl, SqT.of ea4, rfl, ?_⟩
      refine ⟨_, rfl, _, rfl, _, _, rfl, rfl, ((40 - left : Nat) : Int), by rw [← e40], lF, _, rfl, SqL.of M4.f, fun n1 hn1 => ?_⟩
      rw [cut_takeT]
      have N1 := same_new (o := .lst ((Tf.take (40 - left)).map TRow.v)) hn1
      have M5 := M4.same N1
      have g1 : upd H4 n1 (.lst ((Tf.take (40 - left)).map TRow.v)) n1 = some (.lst ((Tf.take (40 - left)).map TRow.v)) := upd_same
      generalize upd H4 n1 (.lst ((Tf.take (40 - left)).map TRow.v)) = A1 at N1 M5 g1 ⊢
      obtain ⟨X, eX, sX, lX⟩ : ∃ X : List TRow, cutV (Tb.map TRow.v) (some (((Tb.map TRow.v).length : Int) - (left : Int))) none = X.map TRow.v ∧ (∀ q' ∈ X, q' ∈ Tb) ∧ X.length ≤ left := by
        rw [List.length_map]
        by_cases hle : left ≤ Tb.length
        · have ei : (Tb.length : Int) - (left : Int) = ((Tb.length - left : Nat) : Int) := by omega
          rw [ei, cut_dropT (Nat.sub_le _ _)]
          exact ⟨_, rfl, fun q' hq' => List.mem_of_mem_drop hq', by rw [List.length_drop]; omega⟩
        · have e0 : Tb = [] := by
            have : Tb.length = 0 := by omega
            exact List.length_eq_zero_iff.mp this
          rw [e0]
          exact ⟨[], cut_none, fun q' hq' => absurd hq' (by simp), Nat.zero_le _⟩
      refine ⟨_, rfl, _, rfl, _, _, rfl, .inl (SqL.of M5.b), _, rfl, _, _, rfl, rfl, ((Tb.map TRow.v).length : Int) - (left : Int), rfl, lB, _, rfl, SqL.of M5.b, fun n2 hn2 => ?_⟩
      rw [eX]
      have N2 := same_new (o := .lst (X.map TRow.v)) hn2
      have lfull : (Tf.take (40 - left)).length + X.length ≤ 40 := by rw [List.length_take]; omega
      refine ⟨_, _, _, _, rfl, rfl, N2 _ _ g1, upd_same, by rw [List.length_map, List.length_map]; exact Nat.le_of_lt (small1000 (by omega)), fun n3 hn3 => ?_⟩
      have N3 := same_new (o := .lst ((Tf.take (40 - left)).map TRow.v ++ X.map TRow.v)) hn3
      have g3 : upd (upd A1 n2 (.lst (X.map TRow.v))) n3 (.lst ((Tf.take (40 - left)).map TRow.v ++ X.map TRow.v)) n3 = some (.lst ((Tf.take (40 - left) ++ X).map TRow.v)) := by rw [upd_same, List.map_append]
      have M7 := (M5.same N2).same N3
      generalize upd (upd A1 n2 (.lst (X.map TRow.v))) n3 (.lst ((Tf.take (40 - left)).map TRow.v ++ X.map TRow.v)) = A3 at g3 M7 ⊢
      generalize hTT : Tf.take (40 - left) ++ X = TT at g3 ⊢
      have lTT : TT.length ≤ 40 := by rw [← hTT, List.length_append]; exact lfull
      have inTT : ∀ q' ∈ TT, q' ∈ Tf ∨ q' ∈ Tb := fun q' hq' => by
        rw [← hTT] at hq'
        rcases List.mem_append.mp hq' with m | m
        · exact .inl (List.mem_of_mem_take m)
        · exact .inr (sX q' m)
      have dTT : ∀ q' ∈ TT, Dat A3 q'.v q'.2 := fun q' hq' => (inTT q' hq').elim (fun m => M7.fD q' m) fun m => M7.bD q' m
      have inC : ∀ d' ∈ TT.map Prod.snd, d' ∈ (fl ++ bl).map clD := fun d' h' => by
        obtain ⟨y, hy, rfl⟩ := List.mem_map.mp h'
        rw [List.map_append, ← M4.fd, ← M4.bd]
        rcases inTT y hy with m | m
        · exact List.mem_append_left _ (List.mem_map_of_mem m)
        · exact List.mem_append_right _ (List.mem_map_of_mem m)
      obtain ⟨cT, ecT, subT⟩ := sub_back (f := clD) (m := fl ++ bl) (TT.map Prod.snd) inC
      have soC : Sorty TT := sorty_of ecT alike_cl (fun x => ⟨_, rfl⟩) (fun x => by have := depth_cl x; omega)
      have kC := key_rows ecT
      refine ⟨n3, TT, rfl, SqL.of g3, dTT, soC, kC, by omega, fun aS T2 hS sub2 all2 nd2 => ?_⟩
      refine ⟨aS, T2, rfl, upd_same, fun q' hq' => (dTT q' (sub2 q' hq')).same (same_new hS), soC.sub sub2, fun q' hq' => kC q' (sub2 q' hq'), fun T3 b3 pm3 up3 hb3 => .inl ⟨b3, _, rfl, SqL.of upd_same, fun t3 ht3 => ⟨(by show 3 ≤ sizeLine; decide), fun t4 ht4 => ?_⟩⟩⟩
      have S4 := (((same_new hS).trans (same_new hb3)).trans (same_new ht3)).trans (same_new (o := .tup [V.ref b0, .ref b, .ref t3]) ht4)
      have g3t := (same_new (o := .tup [V.ref b0, .ref b, .ref t3]) ht4) t3 _ upd_same
      have M8 := M7.same S4
      have inC3 : ∀ d' ∈ T3.map Prod.snd, d' ∈ (fl ++ bl).map clD := fun d' h' => by
        obtain ⟨y, hy, rfl⟩ := List.mem_map.mp h'
        exact inC _ (List.mem_map_of_mem (sub2 y (pm3.mem_iff.mp hy)))
      obtain ⟨cls', ec, subc⟩ := sub_back (f := clD) (m := fl ++ bl) (T3.map Prod.snd) inC3
      have lenC : cls'.length ≤ 40 := by
        have y1 : T2.length ≤ TT.length := by
          have y := nodup_le (m := TT.map Prod.snd) nd2 fun x hx => by
            obtain ⟨q', hq', rfl⟩ := List.mem_map.mp hx
            exact List.mem_map_of_mem (sub2 q' hq')
          rwa [List.length_map, List.length_map] at y
        have y2 : cls'.length = T3.length := by rw [← List.length_map (f := clD), ← ec, List.length_map]
        rw [y2, pm3.length_eq]
        omega
      have upc : cls'.Pairwise fun x y => dataLt (clD x) (clD y) = true := by
        have y : (T3.map Prod.snd).Pairwise fun d e => dataLt d e = true := List.pairwise_map.mpr up3
        rw [ec] at y
        exact List.pairwise_map.mp y
      have D8 := datS_src s6 M8.S D6
      obtain ⟨a8, pk8, ow8, c8, e8, ea8, Dk8, Do8, _⟩ := say_row D8
      cases e8
      have ea8' : _ = some (HO.tup [V.ref b0, .ref b, .ref bc]) := tup_src s6 M8.S (S06 _ _ ea)
      rw [ea8'] at ea8
      cases ea8
      refine q (.ref t4) ⟨sy.picks, sy.owns, cls'⟩ _ ⟨t4, _, _, _, rfl, upd_same, Dk8, Do8, .tup g3t ?_⟩ ?_ rfl rfl (M8.s.mono rfl (by omega)) ((sd_of S06).trans M8.S)
      · rw [← ec]
        exact dats_rows fun q' hq' => (dTT q' (sub2 q' (pm3.mem_iff.mp hq'))).same S4
      · exact ⟨ok.pu, ok.pn, ok.pl, ok.ou, ok.on, ok.ol, ok.oc, upc, fun cl hcl => by
          rcases List.mem_append.mp (subc cl hcl) with m | m
          · exact M4.fk cl m
          · exact M4.bk cl m, lenC⟩
end
end S1

set_option Elab.async false
set_option linter.all false
set_option maxRecDepth 100000
set_option maxHeartbeats 4000000
/-! repr of what holds a tuple that stands -/
namespace S1
open PySem PySem.W PySem.Spec PyProof.Rows L2
mutual
/-- data, some of whose tuples stand -/
inductive DatR (H : Hp) : V → PyData → Prop
  | old {v : V} {d : PyData} : Dat H v d → DatR H v d
  | lst {a : Addr} {xs : List V} {ds : List PyData} : H a = some (.lst xs) → DatRAll H xs ds → DatR H (.ref a) (.list ds)
  | tup {a : Addr} {xs : List V} {ds : List PyData} : H a = some (.tup xs) → DatRAll H xs ds → DatR H (.ref a) (.tuple ds)
  | frz {a : Addr} {xs : List V} {ds : List PyData} {o : Obj} : H a = some (.frz o (.tup xs)) → DatRAll H xs ds → DatR H (.ref a) (.tuple ds)
inductive DatRAll (H : Hp) : List V → List PyData → Prop
  | nil : DatRAll H [] []
  | cons {v : V} {d : PyData} {vs : List V} {ds : List PyData} : DatR H v d → DatRAll H vs ds → DatRAll H (v :: vs) (d :: ds)
end
theorem datsR {H : Hp} : ∀ {vs : List V} {ds : List PyData}, DatAll H vs ds → DatRAll H vs ds
  | _, _, .nil => .nil
  | _, _, .cons h t => .cons (.old h) (datsR t)
section
variable {P : Program} {w : World} {H : Hp} {h : Heap}
mutual
theorem reads_of_datR (ok : HOk P w H h) : ∀ {v : V} {d : PyData} {u : Value}, DatR H v d → RelV v u → ∃ as, Reads h u d as
  | _, _, _, .old D, r => reads_of_dat ok D r
  | _, _, _, .lst (a := a) e hh, r => by
    cases (show _ = Value.ref a from r)
    obtain ⟨_, its, n, rv, e1⟩ := (show ObjOk P w H h a (.lst _) from ok a _ e)
    obtain ⟨as, R⟩ := readsAll_of_datR ok hh rv
    exact ⟨_, .list e1 rfl rfl R⟩
  | _, _, _, .tup (a := a) e hh, r => by
    cases (show _ = Value.ref a from r)
    obtain ⟨_, its, rv, o, e1, e2, n, e3⟩ := (show ObjOk P w H h a (.tup _) from ok a _ e)
    obtain ⟨as, R⟩ := readsAll_of_datR ok hh rv
    exact ⟨_, .tuple e1 e2 e3 R⟩
  | _, _, _, .frz (a := a) (xs := xs) (o := ob) e hh, r => by
    cases (show _ = Value.ref a from r)
    obtain ⟨_, _, its, rv, o, e1, e2, n, e3⟩ := (show ObjOk P w H h a (.frz ob (.tup xs)) from ok a _ e)
    obtain ⟨as, R⟩ := readsAll_of_datR ok hh rv
    exact ⟨_, .tuple e1 e2 e3 R⟩
theorem readsAll_of_datR (ok : HOk P w H h) : ∀ {vs : List V} {ds : List PyData} {us : List Value}, DatRAll H vs ds → Vals vs us → ∃ as, ReadsAll h us ds as
  | _, _, _, .nil, .nil => ⟨_, .nil⟩
  | _, _, _, .cons a t, .cons r q => by
    obtain ⟨as, A⟩ := reads_of_datR ok a r
    obtain ⟨bs, B⟩ := readsAll_of_datR ok t q
    exact ⟨_, .cons A B⟩
end
mutual
theorem reprK_of_datR (ok : HOk P w H h) : ∀ {v : V} {d : PyData} {u : Value}, DatR H v d → RelV v u → d.showable = true → d.shown.length ≤ sizeLine → ∃ bs, ReadAtMost h d.depth bs ∧ ReprK P w bs h d.depth u d.shown
  | _, _, _, .old D, r, hs, hz => reprK_of_dat ok D r hs hz
  | _, _, _, .lst (a := a) (xs := xs) (ds := ds) e hh, r, hs, hz => by
    obtain ⟨as, R0⟩ := reads_of_datR ok (DatR.lst e hh) r
    cases (show _ = Value.ref a from r)
    obtain ⟨_, its, n, rv, e1⟩ := (show ObjOk P w H h a (.lst _) from ok a _ e)
    have hz' : (listText (PyData.shownAll ds)).length ≤ sizeLine := by simpa only [PyData.shown] using hz
    obtain ⟨bs, hb, hk⟩ := reprAllK_of_datR ok hh rv (by simpa [PyData.showable] using hs) (fun t ht => Nat.le_trans (listText_mem_le ht) hz')
    have hna : a ∉ bs := not_mem_of_deeper R0 (by simp only [PyData.depth]; omega) hb
    refine ⟨a :: bs, ReadAtMost.cons R0 (by simp only [PyData.depth]; omega) hb, ?_⟩
    simp only [PyData.depth, PyData.shown]
    cases its with
    | nil =>
      cases rv
      cases hh
      simp only [PyData.shownAll, listText_nil]
      exact ReprK.listEmpty e1 rfl rfl
    | cons x l => exact ReprK.list e1 rfl rfl hna (by simpa using hk.length_eq) (fun i y e => hk.item i y (by simpa using e))
  | _, _, _, .tup (a := a) (xs := xs) (ds := ds) e hh, r, hs, hz => by
    obtain ⟨as, R0⟩ := reads_of_datR ok (DatR.tup e hh) r
    cases (show _ = Value.ref a from r)
    obtain ⟨_, its, rv, o, e1, e2, n, e3⟩ := (show ObjOk P w H h a (.tup _) from ok a _ e)
    have hz' : (tupleText (PyData.shownAll ds)).length ≤ sizeLine := by simpa only [PyData.shown] using hz
    obtain ⟨bs, hb, hk⟩ := reprAllK_of_datR ok hh rv (by simpa [PyData.showable] using hs) (fun t ht => Nat.le_trans (tupleText_mem_le ht) hz')
    have hna : a ∉ bs := not_mem_of_deeper R0 (by simp only [PyData.depth]; omega) hb
    refine ⟨a :: bs, ReadAtMost.cons R0 (by simp only [PyData.depth]; omega) hb, ?_⟩
    simp only [PyData.depth, PyData.shown]
    exact ReprK.tuple e1 e2 e3 hna (by simpa using hk)
  | _, _, _, .frz (a := a) (xs := xs) (ds := ds) (o := ob) e hh, r, hs, hz => by
    obtain ⟨as, R0⟩ := reads_of_datR ok (DatR.frz e hh) r
    cases (show _ = Value.ref a from r)
    obtain ⟨_, _, its, rv, o, e1, e2, n, e3⟩ := (show ObjOk P w H h a (.frz ob (.tup xs)) from ok a _ e)
    have hz' : (tupleText (PyData.shownAll ds)).length ≤ sizeLine := by simpa only [PyData.shown] using hz
    obtain ⟨bs, hb, hk⟩ := reprAllK_of_datR ok hh rv (by simpa [PyData.showable] using hs) (fun t ht => Nat.le_trans (tupleText_mem_le ht) hz')
    have hna : a ∉ bs := not_mem_of_deeper R0 (by simp only [PyData.depth]; omega) hb
    refine ⟨a :: bs, ReadAtMost.cons R0 (by simp only [PyData.depth]; omega) hb, ?_⟩
    simp only [PyData.depth, PyData.shown]
    exact ReprK.tuple e1 e2 e3 hna (by simpa using hk)
theorem reprAllK_of_datR (ok : HOk P w H h) : ∀ {vs : List V} {ds : List PyData} {us : List Value}, DatRAll H vs ds → Vals vs us → PyData.showableAll ds = true → (∀ t ∈ PyData.shownAll ds, t.length ≤ sizeLine) →
    ∃ bs, ReadAtMost h (PyData.depthAll ds) bs ∧ ReprAllK P w bs h (PyData.depthAll ds) us (PyData.shownAll ds)
  | _, _, _, .nil, .nil, _, _ => ⟨[], (fun _ h => nomatch h), by simp only [PyData.shownAll]; exact .nil⟩
  | _, _, _, .cons (d := d) (ds := ds) a t, .cons r q, hs, hz => by
    have hs' : d.showable = true ∧ PyData.showableAll ds = true := by simpa [PyData.showableAll] using hs
    obtain ⟨b1, hb1, k1⟩ := reprK_of_datR ok a r hs'.1 (hz _ (by simp only [PyData.shownAll]; exact List.mem_cons_self ..))
    obtain ⟨b2, hb2, k2⟩ := reprAllK_of_datR ok t q hs'.2 (fun t ht => hz t (by simp only [PyData.shownAll]; exact List.mem_cons_of_mem _ ht))
    refine ⟨b1 ++ b2, ?_, ?_⟩
    · simp only [PyData.depthAll]
      exact (hb1.mono (Nat.le_max_left _ _)).append (hb2.mono (Nat.le_max_right _ _))
    · simp only [PyData.depthAll, PyData.shownAll]
      exact .cons ((k1.more fun b hb => List.mem_append_left _ hb).level_le (Nat.le_max_left _ _)) (k2.more_le (fun b hb => List.mem_append_right _ hb) (Nat.le_max_right _ _))
end
end
section
variable {X : Cx}
/-- repr of a list of such -/
def rReprR : List V → Hp → VK → Prop := fun vs H Q => ∃ (a : Addr) (xs : List V) (ds : List PyData), vs = [V.ref a] ∧ H a = some (.lst xs) ∧ DatRAll H xs ds ∧ PyData.showable (.list ds) = true ∧ PyData.depth (.list ds) ≤ 50 ∧ (PyData.shown (.list ds)).length ≤ sizeLine ∧ Q (.str (PyData.shown (.list ds))) H
theorem call_reprR (hg : X.A.guards = some []) (hu : X.A.units + 64 < cLine) : CallR X (.builtin "repr") rReprR := by
  intro pins s σ H vs us Q I r h
  obtain ⟨a, xs, ds, rfl, e, hh, hs, hd, hz, q⟩ := h
  obtain ⟨u, rfl, ru⟩ := vals1 r
  have fin : ∀ (h' : Heap) (tk tk' : Tok), (∀ b o, s.heap.get? b = some o → h'.get? b = some o) → EP X pins σ Q (.str (PyData.shown (.list ds)) tk') { s with heap := h', toks := tk } := fun h' tk tk' k => ⟨.str _, H, I.kept (t' := tk) k, ⟨_, rfl⟩, q⟩
  obtain ⟨as, R0⟩ := reads_of_datR I.hok (DatR.lst e hh) ru
  cases (show _ = Value.ref a from ru)
  obtain ⟨_, its, n, rv, e1⟩ := (show ObjOk X.prog X.w H s.heap a (.lst _) from I.hok a _ e)
  have hz' : (listText (PyData.shownAll ds)).length ≤ sizeLine := by simpa only [PyData.shown] using hz
  obtain ⟨bs, hb, hk⟩ := reprAllK_of_datR I.hok hh rv (by simpa [PyData.showable] using hs) (fun t ht => Nat.le_trans (listText_mem_le ht) hz')
  have hna : a ∉ bs := not_mem_of_deeper R0 (by simp only [PyData.depth]; omega) hb
  simp only [PyData.shown] at fin
  simp only [PyData.depth] at hd
  refine call_repr_slot (by omega) ⟨_, e1, rfl⟩ F.slot_list_repr.toG ?_
  cases its with
  | nil =>
    cases rv
    cases hh
    simp only [PyData.shownAll, listText_nil] at fin
    exact call_list_repr_empty ⟨_, e1, rfl⟩ e1 rfl ⟨_, _, rfl, fin s.heap _ _ fun _ _ e => e⟩
  | cons x l =>
    exact call_list_reprK (h₀ := s.heap) e1 rfl rfl hna (by simpa using hk.length_eq) (fun i y e => hk.item i y (by simpa using e)) hg (fun b _ => Clear.nil b) (by show X.A.units + 1 + _ < cLine; omega) (fun _ _ e => e) (fun h' u tk k => ⟨_, _, rfl, fin h' tk u k⟩) hz'
end
/-! ### how long such a text is -/
theorem listText_le : ∀ ts : List Str, (listText ts).length ≤ piled ts + 2
  | [] => by decide
  | t :: r => by
    have h := textFrom_length_pos r 1 (("[" : Str) ++ (if (0 : Nat) > 0 then ", " else "" : String) ++ t) (Nat.succ_pos 0)
    have e1 : (("[" : Str) ++ (if (0 : Nat) > 0 then ", " else "" : String) ++ t).length = 1 + t.length := by
      rw [strLen_append, strLen_append]
      rfl
    have e2 : (listText (t :: r)).length = (textFrom 1 (("[" : Str) ++ (if (0 : Nat) > 0 then ", " else "" : String) ++ t) r).length + 1 := by
      show (textFrom 1 _ r ++ "]").length = _
      rw [strLen_append]
      rfl
    rw [piled_cons]
    omega
theorem join_le (ts : List Str) : (Str.join ", " ts).length ≤ piled ts := by
  by_cases h : ts = []
  · subst h
    decide
  · have := join_length_add ts h
    omega
theorem tupleText_le (ts : List Str) : (tupleText ts).length ≤ piled ts + 3 := by
  have h := join_le ts
  unfold tupleText
  rw [strLen_append, strLen_append]
  have e1 : ((("(" : String) : Str)).length = 1 := rfl
  have e3 : (((if ts.length == 1 then ",)" else ")" : String) : Str)).length ≤ 2 := by split <;> decide
  omega
theorem piled_le {b : Nat} : ∀ ts : List Str, (∀ t ∈ ts, t.length ≤ b) → piled ts ≤ ts.length * (b + 2)
  | [], _ => Nat.zero_le _
  | t :: r, h => by
    have h1 := h t (List.mem_cons_self ..)
    have h2 := piled_le r fun u hu => h u (List.mem_cons_of_mem _ hu)
    rw [piled_cons, List.length_cons, Nat.succ_mul]
    omega
/-- it can be shown, in a text of at most b signs, k deep -/
structure Shw (b k : Nat) (d : PyData) : Prop where
  s : d.showable = true
  z : d.shown.length ≤ b
  d : d.depth ≤ k
theorem Shw.up {b b' k k' : Nat} {d : PyData} (h : Shw b k d) (hb : b ≤ b') (hk : k ≤ k') : Shw b' k' d := ⟨h.s, Nat.le_trans h.z hb, Nat.le_trans h.d hk⟩
theorem shw_all {b k : Nat} : ∀ ds : List PyData, (∀ d ∈ ds, Shw b k d) → PyData.showableAll ds = true ∧ PyData.depthAll ds ≤ k ∧ (∀ t ∈ PyData.shownAll ds, t.length ≤ b) ∧ (PyData.shownAll ds).length = ds.length
  | [], _ => ⟨by simp only [PyData.showableAll], by simp only [PyData.depthAll]; omega, (fun t h => by simp only [PyData.shownAll] at h; exact nomatch h), by simp only [PyData.shownAll]; rfl⟩
  | d :: ds, h => by
    have h1 := h d (List.mem_cons_self ..)
    obtain ⟨a, b, c, e⟩ := shw_all ds fun x hx => h x (List.mem_cons_of_mem _ hx)
    refine ⟨by simp only [PyData.showableAll, h1.s, a, Bool.and_self], ?_, fun t ht => ?_, ?_⟩
    · simp only [PyData.depthAll]
      exact Nat.max_le.mpr ⟨h1.d, b⟩
    · simp only [PyData.shownAll, List.mem_cons] at ht
      rcases ht with rfl | ht
      · exact h1.z
      · exact c t ht
    · simp only [PyData.shownAll, List.length_cons, e]
theorem shw_tup {b k n : Nat} {ds : List PyData} (h : ∀ d ∈ ds, Shw b k d) (hl : ds.length ≤ n) : Shw (n * (b + 2) + 3) (k + 1) (.tuple ds) := by
  obtain ⟨a, dd, c, e⟩ := shw_all ds h
  refine ⟨by simp only [PyData.showable, a], ?_, by simp only [PyData.depth]; omega⟩
  simp only [PyData.shown]
  have h1 := tupleText_le (PyData.shownAll ds)
  have h2 := piled_le _ c
  have h3 : (PyData.shownAll ds).length * (b + 2) ≤ n * (b + 2) := Nat.mul_le_mul_right _ (by omega)
  omega
theorem shw_lst {b k n : Nat} {ds : List PyData} (h : ∀ d ∈ ds, Shw b k d) (hl : ds.length ≤ n) : Shw (n * (b + 2) + 3) (k + 1) (.list ds) := by
  obtain ⟨a, dd, c, e⟩ := shw_all ds h
  refine ⟨by simp only [PyData.showable, a], ?_, by simp only [PyData.depth]; omega⟩
  simp only [PyData.shown]
  have h1 := listText_le (PyData.shownAll ds)
  have h2 := piled_le _ c
  have h3 : (PyData.shownAll ds).length * (b + 2) ≤ n * (b + 2) := Nat.mul_le_mul_right _ (by omega)
  omega
theorem shw_map {α : Type} {b k n : Nat} {f : α → PyData} {l : List α} (h : ∀ x ∈ l, Shw b k (f x)) (hl : l.length ≤ n) : Shw (n * (b + 2) + 3) (k + 1) (.tuple (l.map f)) := shw_tup (fun d hd => by
  obtain ⟨x, hx, rfl⟩ := List.mem_map.mp hd
  exact h x hx) (by rw [List.length_map]; exact hl)
theorem shw_bl (b : Bool) : Shw 5 0 (.bool b) := by cases b <;> exact ⟨rfl, by decide, Nat.le_refl _⟩
theorem shw_nm {x : Str} (h : Nm x) : Shw 82 0 (.str x) := by
  refine ⟨rfl, ?_, Nat.le_refl _⟩
  simp only [PyData.shown]
  have := StrLaws.reprText_len x fun c hc => Nat.lt_of_le_of_lt (h.az c hc).2 (by decide)
  have := h.hi
  omega
theorem shw_nms {xs : List Str} (h : ∀ x ∈ xs, Nm x) (hl : xs.length ≤ 6) : Shw 507 1 (nmsD xs) := shw_map (n := 6) (fun x hx => shw_nm (h x hx)) hl
theorem shw_say {s : Say} (ok : SayOk 6 8 120 40 s) : Shw 300000 5 s.d := by
  have hp : Shw 507 1 (nmsD s.picks) := shw_nms ok.pn ok.pl
  have ho : Shw 8187 3 (.tuple (s.owns.map ownD)) := shw_map (b := 1021) (k := 2) (n := 8) (fun o m => by
    have og := ok.own m
    refine shw_tup (b := 507) (k := 1) (n := 2) (ds := [.str o.1, nmsD o.2]) (fun d hd => ?_) (Nat.le_refl _)
    rcases List.mem_cons.mp hd with rfl | hd
    · exact (shw_nm (ok.on o m).1).up (by decide) (by decide)
    · cases List.mem_singleton.mp hd
      exact shw_nms (fun x hx => ok.pn x ((ok.on o m).2.2.2 x hx)) (Nat.le_trans og.le ok.pl)) ok.ol
  have hn : ∀ x ∈ s.names, Nm x := fun x hx => by
    rcases List.mem_append.mp hx with m | m
    · exact ok.pn x m
    · obtain ⟨o, mo, rfl⟩ := List.mem_map.mp m
      exact (ok.on o mo).1
  have hc : Shw 97083 3 (.tuple (s.cls.map clD)) := shw_map (b := 2425) (k := 2) (n := 40) (fun cl m => by
    have ck := ok.ck cl m
    have lc : cl.length ≤ 14 := Nat.le_trans (cl_len ck) ok.nlen
    refine shw_map (b := 171) (k := 1) (n := 14) (fun l ml => ?_) lc
    refine shw_tup (b := 82) (k := 0) (n := 2) (ds := [.str l.1, .bool l.2]) (fun d hd => ?_) (Nat.le_refl _)
    rcases List.mem_cons.mp hd with rfl | hd
    · exact shw_nm (hn _ (ck.mem l ml))
    · cases List.mem_singleton.mp hd
      exact (shw_bl _).up (by decide) (by decide)) ok.cl
  exact (shw_tup (b := 97083) (k := 3) (n := 3) (ds := [nmsD s.picks, .tuple (s.owns.map ownD), .tuple (s.cls.map clD)]) (fun d hd => by
    rcases List.mem_cons.mp hd with rfl | hd
    · exact hp.up (by decide) (by decide)
    rcases List.mem_cons.mp hd with rfl | hd
    · exact ho.up (by decide) (by decide)
    · cases List.mem_singleton.mp hd
      exact hc) (Nat.le_refl _)).up (by decide) (by decide)
theorem shw_ans {s : Say} {an : List Tbl} (ok : SayOk 6 8 120 40 s) (ao : AnsOk s.owns an) : Shw 300000 5 (ansT an) := by
  refine (shw_map (b := 843) (k := 1) (n := 8) (l := an) (f := blsD) (fun t m => ?_) (by rw [ao.len]; exact ok.ol)).up (by decide) (by decide)
  obtain ⟨i, hi⟩ := List.getElem?_of_mem m
  have il : i < s.owns.length := by rw [← ao.len]; exact (List.getElem?_eq_some_iff.mp hi).1
  have lt := ao.tbl i _ t (List.getElem?_eq_getElem il) hi
  have og := (ok.own (List.getElem_mem il)).le
  have := Nat.pow_le_pow_right (n := 2) (by decide) (Nat.le_trans og ok.pl)
  refine shw_map (b := 5) (k := 0) (n := 120) (fun b _ => shw_bl b) (by rw [lt]; omega)
theorem shw_two {s : Say} {an : List Tbl} (ok : SayOk 6 8 120 40 s) (ao : AnsOk s.owns an) : Shw 600007 6 (.list [s.d, ansT an]) := shw_lst (b := 300000) (k := 5) (n := 2) (fun d hd => by
  rcases List.mem_cons.mp hd with rfl | hd
  · exact shw_say ok
  · cases List.mem_singleton.mp hd
    exact shw_ans ok ao) (Nat.le_refl _)
/-- what stands of a saying is data of this kind -/
theorem datR_say {H : Hp} {v : V} {s : Say} (D : DatS H v s) : DatR H v s.d := by
  obtain ⟨a, p, o, c, rfl, ea, Dp, ⟨b, us, rfl, ⟨ob, od, eb⟩, Db⟩, Dc⟩ := D
  exact .tup ea (.cons (.old Dp) (.cons (.frz eb (datsR Db)) (.cons (.old Dc) .nil)))
section
variable {X : Cx}
/-- repr([saying, answers]) -/
def rReprS : List V → Hp → VK → Prop := fun vs H Q => ∃ (a : Addr) (v u : V) (s : Say) (an : List Tbl), vs = [V.ref a] ∧ H a = some (.lst [v, u]) ∧ DatS H v s ∧ Dat H u (ansT an) ∧ SayOk 6 8 120 40 s ∧ AnsOk s.owns an ∧ Q (.str (PyData.shown (.list [s.d, ansT an]))) H
theorem call_reprS (hg : X.A.guards = some []) (hu : X.A.units + 64 < cLine) : CallR X (.builtin "repr") rReprS := by
  intro pins s σ H vs us Q I r h
  obtain ⟨a, v, u, sy, an, rfl, e, D, Du, ok, ao, q⟩ := h
  have w := shw_two ok ao
  exact call_reprR hg hu pins s σ H _ us Q I r ⟨a, _, _, rfl, e, .cons (datR_say D) (.cons (.old Du) .nil), w.s, Nat.le_trans w.d (by decide), Nat.le_trans w.z (by decide), q⟩
end
end S1

set_option Elab.async false
set_option linter.all false
set_option maxRecDepth 100000
set_option maxHeartbeats 2000000
/-! whether one saying is told right by answers -/
namespace S1
open PySem PySem.W PySem.Spec PyProof.Rows L2 RZ
section
variable {K : PySem.W.Frag}
/-- two keywords, the last first -/
theorem Fun.kb2 {x qual a b : Str} {st : Stmt} {f : Addr} {fd : FuncData} (F : Fun K x qual st f fd)
    (h : ∀ (kV doc pm : Value) (an : Option Addr) (cdv ct u v : Value), bindArgs (PySem.W.fnOf x qual (defArgs st) (defBody st) (defScope st) .none kV doc pm an cdv ct) ⟨[], [(b, u), (a, v)]⟩ = pure [(a, v), (b, u)]) : KB0 K fd [a, b] [b, a] List.reverse List.reverse := by
  obtain ⟨oc, od, kV, doc, pm, an, cdv, ct, osl, rfl, lk, hcd⟩ := F.ex
  refine ⟨fun s ws X l => ?_, fun r => ?_⟩
  · match ws, l with
    | [u, v], _ => exact .of_eq (h kV doc pm an cdv ct u v)
  · exact vals_rev r
/-- four keywords, the last first -/
theorem Fun.kb4 {x qual a b c d : Str} {st : Stmt} {f : Addr} {fd : FuncData} (F : Fun K x qual st f fd)
    (h : ∀ (kV doc pm : Value) (an : Option Addr) (cdv ct u v z y : Value), bindArgs (PySem.W.fnOf x qual (defArgs st) (defBody st) (defScope st) .none kV doc pm an cdv ct) ⟨[], [(d, u), (c, v), (b, z), (a, y)]⟩ = pure [(a, y), (b, z), (c, v), (d, u)]) : KB0 K fd [a, b, c, d] [d, c, b, a] List.reverse List.reverse := by
  obtain ⟨oc, od, kV, doc, pm, an, cdv, ct, osl, rfl, lk, hcd⟩ := F.ex
  refine ⟨fun s ws X l => ?_, fun r => ?_⟩
  · match ws, l with
    | [u, v, z, y], _ => exact .of_eq (h kV doc pm an cdv ct u v z y)
  · exact vals_rev r
theorem kb_brokenAt {f : Addr} {fd : FuncData} (F : Fun K "broken_at" "broken_at" sBrokenAt f fd) : KB0 K fd ["saying", "answers"] ["answers", "saying"] List.reverse List.reverse := Fun.kb2 F fun _ _ _ _ _ _ _ _ => rfl
theorem kb_holds {f : Addr} {fd : FuncData} (F : Fun K "holds" "holds" sHolds f fd) : KB0 K fd ["saying", "answers"] ["answers", "saying"] List.reverse List.reverse := Fun.kb2 F fun _ _ _ _ _ _ _ _ => rfl
theorem kb_answersWith {f : Addr} {fd : FuncData} (F : Fun K "answers_with" "answers_with" sAnswersWith f fd) : KB0 K fd ["saying", "rows"] ["rows", "saying"] List.reverse List.reverse := Fun.kb2 F fun _ _ _ _ _ _ _ _ => rfl
theorem kb_valueOf {f : Addr} {fd : FuncData} (F : Fun K "value_of" "value_of" sValueOf f fd) : KB0 K fd ["saying", "answers", "name", "play"] ["play", "name", "answers", "saying"] List.reverse List.reverse := Fun.kb4 F fun _ _ _ _ _ _ _ _ _ _ => rfl
end
theorem tames_map {α : Type} (f : α → PyData) : ∀ l : List α, (∀ x ∈ l, tame (f x) = true) → tames (l.map f) = true
  | [], _ => rfl
  | x :: l, h => by rw [List.map_cons, tames, h x List.mem_cons_self, tames_map f l fun y hy => h y (List.mem_cons_of_mem _ hy)]; rfl
theorem tame_bls {p : List Bool} (h : p.length ≤ 1000) : tame (blsD p) = true := by
  show (decide ((p.map PyData.bool).length ≤ 1000) && tames (p.map PyData.bool)) = true
  rw [List.length_map, decide_eq_true h, tames_map PyData.bool p fun _ _ => rfl]
  rfl
theorem depth_bls (p : List Bool) : (blsD p).depth ≤ 1 := by
  have := depths_map PyData.bool 0 (fun _ => Nat.le_refl _) p
  simp only [blsD, PyData.depth]
  omega
theorem tame_two {d : PyData} (h : tame d = true) : tame (.list [d, d]) = true := by
  show (true && (tame d && (tame d && true))) = true
  rw [h]
  rfl
theorem depth_two {d : PyData} {n : Nat} (h : d.depth ≤ n) : (PyData.list [d, d]).depth ≤ n + 1 := by
  simp only [PyData.depth, PyData.depthAll]
  omega
theorem tame_ansT {s : Say} {an : List Tbl} (ok : SayOk 6 8 120 40 s) (ao : AnsOk s.owns an) : tame (ansT an) = true := by
  have la := ao.len
  have lo := ok.ol
  show (decide ((an.map blsD).length ≤ 1000) && tames (an.map blsD)) = true
  rw [List.length_map, decide_eq_true (by omega), tames_map blsD an fun t m => ?_]
  · rfl
  · obtain ⟨i, hi⟩ := List.getElem?_of_mem m
    have il : i < s.owns.length := by rw [← la]; exact (List.getElem?_eq_some_iff.mp hi).1
    have lt := ao.tbl i _ t (List.getElem?_eq_getElem il) hi
    have og := (ok.own (List.getElem_mem il)).le
    have := Nat.pow_le_pow_right (n := 2) (by decide) (Nat.le_trans og ok.pl)
    exact tame_bls (by rw [lt]; omega)
theorem depth_ansT (an : List Tbl) : (ansT an).depth ≤ 2 := by
  have := depths_map blsD 1 depth_bls an
  simp only [ansT, PyData.depth]
  omega
theorem brk_bits {s : Say} {an : List Tbl} {x : Nat × List Bool} (h : brk s an = some x) : x.2 ∈ playsD s.picks.length := by
  unfold brk at h
  obtain ⟨bs, hm, e⟩ := List.exists_of_findSome?_eq_some h
  obtain ⟨k, _, rfl⟩ := Option.map_eq_some_iff.mp e
  exact hm
theorem tame_brk {s : Say} {an : List Tbl} (ok : SayOk 6 8 120 40 s) : tame (brkD (brk s an)) = true := by
  cases h : brk s an with
  | none => rfl
  | some x =>
    have lp := ok.pl
    have := plays_bits _ _ (brk_bits h)
    show (true && (true && (tame (blsD x.2) && true))) = true
    rw [tame_bls (by omega)]
    rfl
theorem depth_brk (o : Option (Nat × List Bool)) : (brkD o).depth ≤ 2 := by
  cases o with
  | none => exact Nat.zero_le _
  | some x =>
    have := depth_bls x.2
    simp only [brkD, PyData.depth, PyData.depthAll]
    omega
abbrev nRg : List Str := ["source", "saying", "answers", "due", "known", "told", "rows", "table", "play", "truths", "word", "sight", "pick"]
def spRight : Sp := fun vs H Q _ => ∃ (p : Addr) (v u : V) (c : Nat) (s : Say) (an : List Tbl), vs = [.ref p, v, u] ∧ Src H p c ∧ c ≤ 80000 ∧ DatS H v s ∧ SayOk 6 8 120 40 s ∧ Dat H u (ansT an) ∧ AnsOk s.owns an ∧
  ∀ H', Src H' p (c + 10) → Same (del H p) (del H' p) → Q (.bl true) H'
section
variable {P : Program} {w : World} {K : PySem.W.Frag} {mg : Str → Option Value} {base : Heap}
theorem scRight : FnScope nRg ["source", "saying", "answers"] (defScope sRight) := ⟨rfl, rfl, rfl, by decide +kernel, rfl, by decide +kernel, by decide +kernel⟩
theorem ok_right {f fP fB fT fBa fHo fAw fVo fSa : Addr} {fd fdP fdB fdT fdBa fdHo fdAw fdVo fdSa : FuncData} (F : Fun K "_law_right" "_law_right" sRight f fd) (B : Blt mg) (zr : mg "repr" = none)
    (Pk : Has K mg "_law_pick" sPick ["source", "top"] fP fdP) (Bk : Has K mg "_law_broken" sLBroken ["saying", "answers"] fB fdB) (Tr : Has K mg "_law_truths" sLTruths ["saying", "answers", "play"] fT fdT)
    (Ba : Has K mg "broken_at" sBrokenAt ["saying", "answers"] fBa fdBa) (Ho : Has K mg "holds" sHolds ["saying", "answers"] fHo fdHo) (Aw : Has K mg "answers_with" sAnswersWith ["saying", "rows"] fAw fdAw) (Vo : Has K mg "value_of" sValueOf ["saying", "answers", "name", "play"] fVo fdVo) (Sa : Has K mg "_law_same" sSame ["found", "due"] fSa fdSa)
    (GBk : FnOk P w K mg base CX0 3 fB fdB ["saying", "answers"] spFirstBroken) (GTr : FnOk P w K mg base CX0 2 fT fdT ["saying", "answers", "play"] spValuesAt) (GBa : FnOk P w K mg base CX0 8 fBa fdBa ["saying", "answers"] spFirstBroken)
    (GHo : FnOk P w K mg base CX0 8 fHo fdHo ["saying", "answers"] spHolds) (GAw : FnOk P w K mg base CX0 8 fAw fdAw ["saying", "rows"] spTablesOf) (GVo : FnOk P w K mg base CX0 8 fVo fdVo ["saying", "answers", "name", "play"] spValueOf) :
    FnOkG P w K mg base 9 f fd ["source", "saying", "answers"] spRight := by
  have GP : FnOk P w K mg base CX0 1 fP fdP ["source", "top"] spPick := ok_pick Pk.F B
  have GSa : FnOk P w K mg base CX0 6 fSa fdSa ["found", "due"] (spSame 5) := ok_same Sa B 5
  refine F.okG scRight (fun vs H Q E h => ?_) (fun cdv A outer s H vs Q E hG0 hr h => ?_)
  · obtain ⟨p, v, u, c, sy, an, rfl, _⟩ := h
    rfl
  · obtain ⟨p, v, u, c, sy, an, rfl, hp, hc, D, ok, Du, ao, q⟩ := h
    have hr1 := hr.mono (show 1 ≤ 8 by decide)
    have hr2 := hr.mono (show 2 ≤ 8 by decide)
    have hr3 := hr.mono (show 3 ≤ 8 by decide)
    have hr6 := hr.mono (show 6 ≤ 8 by decide)
    have hG : (A.deeper (envOfC "_law_right" (defScope sRight) s.heap.objs.size f cdv)).guards = some [] := hG0
    have hu : (A.deeper (envOfC "_law_right" (defScope sRight) s.heap.objs.size f cdv)).units + 64 < cLine := hr1.units
    have hu1 : (A.deeper (envOfC "_law_right" (defScope sRight) s.heap.objs.size f cdv)).units + 1 < cLine := by omega
    refine ⟨_, pss_cons (ps_par (i := 3) (j := 4) rfl scRight.nd rfl rfl (by decide) rfl rfl
        (pa_cons (pe_call GBk hr3 rfl Bk.g Bk.F.kp Bk.b .nil pass0 (pa_cons (pv 1) (pa_cons (pv 2) pa_nil))) (pa_cons (pe_callB (call_reprS hG (by exact hu)) (by rfl) zr (by decide +kernel) (pa_cons (pe_lst (pa_cons (pv 1) (pa_cons (pv 2) pa_nil))) pa_nil)) pa_nil)) (by with_unfolding_all rfl))
      (pss_cons (ps_set (i := 5) scRight.nd rfl (.inl rfl) (pe_lst (pa_cons (pe_call GBa hr rfl Ba.g Ba.F.kp Ba.b .nil pass0 (pa_cons (pv 1) (pa_cons (pv 2) pa_nil))) (pa_cons (pe_callK0 GBa hr rfl Ba.g Ba.F.kp (kb_brokenAt Ba.F) pass0 (pk_cons (pv 2) (pk_cons (pv 1) pk_nil))) pa_nil))))
      (pss_cons (ps_if (pt_not (pt_val (pe_call GSa hr6 rfl Sa.g Sa.F.kp Sa.b .nil pass0 (pa_cons (pv 5) (pa_cons (pe_lst (pa_cons (pv 3) (pa_cons (pv 3) pa_nil))) pa_nil))))) (pss_one (ps_ret pe_bl)) pss_nil)
      (pss_cons (ps_set (i := 5) scRight.nd rfl (.inl rfl) (pe_lst (pa_cons (pe_call GHo hr rfl Ho.g Ho.F.kp Ho.b .nil pass0 (pa_cons (pv 1) (pa_cons (pv 2) pa_nil))) (pa_cons (pe_callK0 GHo hr rfl Ho.g Ho.F.kp (kb_holds Ho.F) pass0 (pk_cons (pv 2) (pk_cons (pv 1) pk_nil))) pa_nil))))
      (pss_cons (ps_if (pt_not (pt_val (pe_call GSa hr6 rfl Sa.g Sa.F.kp Sa.b .nil pass0 (pa_cons (pv 5) (pa_cons (pe_lst (pa_cons (pe_cmpR op_isN (pv 3) pe_non (nomark _)) (pa_cons (pe_cmpR op_isN (pv 3) pe_non (nomark _)) pa_nil))) pa_nil))))) (pss_one (ps_ret pe_bl)) pss_nil)
      (pss_cons (ps_set (i := 6) scRight.nd rfl (.inl rfl) (pe_lst pa_nil))
      (pss_cons (ps_for PassesOwn.never rfl (pi_tup (pv 2)) (pg_name (i := 7) scRight.nd rfl (.inl rfl))
        (pss_one (ps_set (i := 6) scRight.nd rfl (.inl rfl) (pe_op op_cat (pv 6) (pe_callTy call_list_of (by rfl) B.list (by decide +kernel) (pa_cons (pv 7) pa_nil))))))
      (pss_cons (ps_if (pt_not (pt_val (pe_call GSa hr6 rfl Sa.g Sa.F.kp Sa.b .nil pass0 (pa_cons (pe_lst (pa_cons (pe_call GAw hr rfl Aw.g Aw.F.kp Aw.b .nil pass0 (pa_cons (pv 1) (pa_cons (pv 6) pa_nil))) (pa_cons (pe_callK0 GAw hr rfl Aw.g Aw.F.kp (kb_answersWith Aw.F) pass0 (pk_cons (pv 6) (pk_cons (pv 1) pk_nil))) pa_nil))) (pa_cons (pe_lst (pa_cons (pv 2) (pa_cons (pv 2) pa_nil))) pa_nil))))) (pss_one (ps_ret pe_bl)) pss_nil)
      (pss_cons (ps_set (i := 8) scRight.nd rfl (.inl rfl) (pe_tupleOf rfl B.tuple (pe_lc (own := [("pick", 12)]) (g := gName 12) (tt := tYes) (te := tOp rEq (tCall spPick [] E0 (tCons (tVar 0) (tCons (tC (V.int 2)) tNil))) (tC (V.int 0))) rfl scRight.nd (pi_tup (pe_ix ix_tup (pv 1) pe_int (fun _ _ => rfl))) (blkOk_by (N := nRg) (sc := defScope sRight) (by decide +kernel))
          (fun _ _ _ _ _ => pg_name (i := 12) scRight.nd rfl (.inl rfl)) (fun _ _ _ _ _ => pts_nil) (fun _ _ _ _ _ => by exact pe_cmpR op_eq (pe_call GP (by exact hr1) (by rfl) Pk.g Pk.F.kp Pk.b .nil pass0 (pa_cons (pv 0) (pa_cons pe_int pa_nil))) pe_int (nomark _)))))
      (pss_cons (ps_set (i := 9) scRight.nd rfl (.inl rfl) (pe_call GTr hr2 rfl Tr.g Tr.F.kp Tr.b .nil pass0 (pa_cons (pv 1) (pa_cons (pv 2) (pa_cons (pv 8) pa_nil)))))
      (pss_cons (ps_for PassesOwn.never rfl (pi_tup (pe_ix ix_tup (pv 1) pe_int (fun _ _ => rfl))) (pg_tup rfl (pgs_cons (pg_name (i := 10) scRight.nd rfl (.inl rfl)) (pgs_cons (pg_name (i := 11) scRight.nd rfl (.inl rfl)) pgs_nil)))
        (pss_cons (ps_set (i := 5) scRight.nd rfl (.inl rfl) (pe_lst (pa_cons (pe_call GVo hr rfl Vo.g Vo.F.kp Vo.b .nil pass0 (pa_cons (pv 1) (pa_cons (pv 2) (pa_cons (pv 10) (pa_cons (pv 8) pa_nil))))) (pa_cons (pe_callK0 GVo hr rfl Vo.g Vo.F.kp (kb_valueOf Vo.F) pass0 (pk_cons (pv 8) (pk_cons (pv 10) (pk_cons (pv 2) (pk_cons (pv 1) pk_nil))))) pa_nil))))
        (pss_one (ps_if (pt_not (pt_val (pe_call GSa hr6 rfl Sa.g Sa.F.kp Sa.b .nil pass0 (pa_cons (pv 5) (pa_cons (pe_lst (pa_cons (pe_dget (by exact hu1) (pv 9) (pv 10) (fun _ _ => rfl)) (pa_cons (pe_dget (by exact hu1) (pv 9) (pv 10) (fun _ _ => rfl)) pa_nil))) pa_nil))))) (pss_one (ps_ret pe_bl)) pss_nil))))
      (pss_one (ps_ret (pe_cmpR op_eq (pe_callB (call_reprS hG (by exact hu)) (by rfl) zr (by decide +kernel) (pa_cons (pe_lst (pa_cons (pv 1) (pa_cons (pv 2) pa_nil))) pa_nil)) (pv 4) (nomark _)))))))))))))), ?_⟩
    have lp := ok.pl
    have lo := ok.ol
    have oc := ok.oc
    have t2 : 2 ≤ sizeLine := by decide
    -- due, known
    refine ⟨_, rfl, _, rfl, v, u, sy, an, rfl, D, ok, Du, ao, fun r H1 S1 Dr1 => ?_⟩
    refine ⟨_, rfl, _, rfl, t2, fun l1 hl1 => ⟨l1, v, u, sy, an, rfl, upd_same, (D.same S1).same (same_new hl1), (Du.same S1).same (same_new hl1), ok, ao, ?_⟩⟩
    refine ⟨_, _, rfl, ?_⟩
    have Sb := S1.trans (same_new (o := .lst [v, u]) hl1)
    have Dr2 := Dr1.same (same_new (o := .lst [v, u]) hl1)
    generalize upd H1 l1 (.lst [v, u]) = H2 at Sb Dr2 ⊢
    -- broken_at
    refine ⟨_, rfl, _, rfl, v, u, sy, an, rfl, D.same Sb, ok, Du.same Sb, ao, fun r3 H3 S3 Dr3 => ?_⟩
    have Sc := Sb.trans S3
    refine ⟨_, rfl, _, rfl, rfl, v, u, sy, an, rfl, D.same Sc, ok, Du.same Sc, ao, fun r4 H4 S4 Dr4 => ⟨t2, fun lt hlt => ?_⟩⟩
    have S5 := same_new (o := .lst [r3, r4]) hlt
    have Sd := (Sc.trans S4).trans S5
    have DT5 : Dat (upd H4 lt (.lst [r3, r4])) (.ref lt) (.list [brkD (brk sy an), brkD (brk sy an)]) := .lst upd_same (.cons ((Dr3.same S4).same S5) (.cons (Dr4.same S5) .nil))
    have Dr5 := Dr2.same ((S3.trans S4).trans S5)
    generalize upd H4 lt (.lst [r3, r4]) = H5 at S5 Sd DT5 Dr5 ⊢
    refine ⟨_, rfl, _, rfl, _, rfl, t2, fun ld hld => ?_⟩
    have S6 := same_new (o := .lst [r, r]) hld
    refine ⟨.ref lt, .ref ld, .list [brkD (brk sy an), brkD (brk sy an)], rfl, DT5.same S6, .lst upd_same (.cons (Dr5.same S6) (.cons (Dr5.same S6) .nil)), tame_two (tame_brk ok), Nat.lt_succ_of_le (Nat.le_trans (depth_two (depth_brk _)) (by decide)), fun H7 S7 => ⟨true, rfl, ?_⟩⟩
    show if (!true) = true then _ else _
    rw [if_neg (by decide)]
    have Se := (Sd.trans S6).trans S7
    have Dr7 := Dr5.same (S6.trans S7)
    -- holds
    refine ⟨_, rfl, _, rfl, v, u, sy, an, rfl, D.same Se, ok, Du.same Se, ao, fun H8 S8 => ?_⟩
    have Sf := Se.trans S8
    refine ⟨_, rfl, _, rfl, rfl, v, u, sy, an, rfl, D.same Sf, ok, Du.same Sf, ao, fun H9 S9 => ⟨t2, fun lt9 hlt9 => ?_⟩⟩
    have S10 := same_new (o := .lst [V.bl (decide (brk sy an = none)), V.bl (decide (brk sy an = none))]) hlt9
    have Sg := (Sf.trans S9).trans S10
    have DT10 : Dat (upd H9 lt9 (.lst [V.bl (decide (brk sy an = none)), V.bl (decide (brk sy an = none))])) (.ref lt9) (.list [.bool (decide (brk sy an = none)), .bool (decide (brk sy an = none))]) := .lst upd_same (.cons (.bl _) (.cons (.bl _) .nil))
    generalize upd H9 lt9 (.lst [V.bl (decide (brk sy an = none)), V.bl (decide (brk sy an = none))]) = H10 at S10 Sg DT10 ⊢
    refine ⟨_, rfl, _, rfl, rfl, _, rfl, rfl, t2, fun ld hld => ?_⟩
    have S11 := same_new (o := .lst [V.bl (decide (r = V.non)), V.bl (decide (r = V.non))]) hld
    refine ⟨.ref lt9, .ref ld, .list [.bool (decide (brk sy an = none)), .bool (decide (brk sy an = none))], rfl, DT10.same S11, .lst upd_same (by rw [brk_isN Dr7]; exact .cons (.bl _) (.cons (.bl _) .nil)), rfl, by simp [PyData.depth, PyData.depthAll], fun H12 S12 => ⟨true, rfl, ?_⟩⟩
    show if (!true) = true then _ else _
    rw [if_neg (by decide)]
    have Sh := (Sg.trans S11).trans S12
    -- rows
    refine ⟨Nat.zero_le _, fun lr hlr => ?_⟩
    have S13 := same_new (o := .lst []) hlr
    have Si := Sh.trans S13
    have e13 : upd H12 lr (.lst []) lr = some (.lst []) := upd_same
    generalize upd H12 lr (.lst []) = H13 at S13 Si e13 ⊢
    obtain ⟨t, ts, rfl, et, Dt⟩ := dat_tup (ds := an.map blsD) Du
    have lt' : ts.length = an.length := by rw [Dt.len, List.length_map]
    have la := ao.len
    have lf := ans_len ao
    have et13 := Si _ _ et
    have Dt13 := DatAll.same Si Dt
    refine ⟨_, rfl, t, rfl, ⟨_, SqT.of et13⟩, ?_⟩
    refine for_tup (K := K) (a := t) (xs := ts) (fun j σ G => ∃ (l6 : Addr) (o7 : Option V), σ = [some (.ref p), some v, some (.ref t), some r, some (.str (PyData.shown (.list [sy.d, ansT an]))), some (.ref lt9), some (.ref l6), o7, none, none, none, none, none] ∧ G l6 = some (.lst ((an.take j).flatten.map V.bl)) ∧ Same H13 G)
      ⟨lr, none, rfl, e13, Same.refl _⟩ (fun j σ G _ ⟨_, _, _, _, S⟩ => SqT.of (S _ _ et13)) ?_ ?_
    · rintro j x σ G hx ⟨l6, o7, rfl, e6, SG⟩
      obtain ⟨d, hd, Dx⟩ := dats_get' Dt13 j x hx
      obtain ⟨tb, htb, rfl⟩ := get_map hd
      obtain ⟨tz, rfl, etz⟩ := bls_row Dx
      have ej : (an.take (j + 1)).flatten = (an.take j).flatten ++ tb := by rw [take_next htb, List.flatten_append, List.flatten_singleton]
      have ll : (an.take (j + 1)).flatten.length ≤ an.flatten.length := by
        conv => rhs; rw [← List.take_append_drop (j + 1) an, List.flatten_append, List.length_append]
        exact Nat.le_add_right _ _
      rw [ej, List.length_append] at ll
      refine ⟨_, rfl, _, rfl, tz, _, rfl, .inr (SqT.of (SG _ _ etz)), fun lL hL => ?_⟩
      have SL := same_new (o := .lst (tb.map V.bl)) hL
      refine ⟨_, _, _, _, rfl, rfl, SL _ _ e6, upd_same, by rw [List.length_map, List.length_map]; exact Nat.le_of_lt (small1000 (by omega)), fun l9 hl9 => ?_⟩
      refine ⟨l9, _, rfl, by rw [upd_same, ej, List.map_append], (SG.trans SL).trans (same_new hl9)⟩
    · rintro σ G ⟨l6, o7, rfl, e6, SG⟩
      rw [lt', List.take_length] at e6
      have Sj := Si.trans SG
      have DuH : Dat H (.ref t) (ansT an) := .tup et Dt
      -- answers_with
      refine ⟨_, rfl, _, rfl, v, l6, sy, an, rfl, D.same Sj, ok, ao, e6, fun v14 H14 S14 Dv14 => ?_⟩
      have Sk := Sj.trans S14
      refine ⟨_, rfl, _, rfl, rfl, v, l6, sy, an, rfl, D.same Sk, ok, ao, S14 _ _ e6, fun v15 H15 S15 Dv15 => ⟨t2, fun l16 hl16 => ?_⟩⟩
      have S16 := same_new (o := .lst [v14, v15]) hl16
      have Sl := (Sk.trans S15).trans S16
      have DT16 : Dat (upd H15 l16 (.lst [v14, v15])) (.ref l16) (.list [ansT an, ansT an]) := .lst upd_same (.cons ((Dv14.same S15).same S16) (.cons (Dv15.same S16) .nil))
      generalize upd H15 l16 (.lst [v14, v15]) = H16 at S16 Sl DT16 ⊢
      refine ⟨_, rfl, _, rfl, t2, fun l17 hl17 => ?_⟩
      have S17 := same_new (o := .lst [V.ref t, V.ref t]) hl17
      have Du17 := (DuH.same Sl).same S17
      refine ⟨.ref l16, .ref l17, .list [ansT an, ansT an], rfl, DT16.same S17, .lst upd_same (.cons Du17 (.cons Du17 .nil)), tame_two (tame_ansT ok ao), Nat.lt_succ_of_le (Nat.le_trans (depth_two (depth_ansT _)) (by decide)), fun H18 S18 => ⟨true, rfl, ?_⟩⟩
      show if (!true) = true then _ else _
      rw [if_neg (by decide)]
      have Sm := (Sl.trans S17).trans S18
      -- play
      obtain ⟨a, pk, ow, cc, rfl, ea, Dk, ⟨b, us, rfl, eb, Db⟩, Dc⟩ := say_row (D.same Sm)
      obtain ⟨b0, ups, rfl, eb0, Db0⟩ := dat_tup (ds := sy.picks.map PyData.str) Dk
      cases dats_strs_eq Db0
      have sp18 : Src H18 p c := hp.same Sm
      have D18 := D.same Sm
      have Du18 := DuH.same Sm
      have Sn : Same (del H p) (del H18 p) := sd_of Sm
      refine ⟨_, rfl, a, _, 0, _, rfl, rfl, SqT.of ea, rfl, b0, rfl, ⟨_, SqT.of eb0⟩, fun D0 hD0 => ?_⟩
      have pD0 := sp18.ne hD0
      refine lc_tup (K := K) (a := b0) (xs := sy.picks.map V.str) (fun k H6 => ∃ bs : List Bool, H6 D0 = some (.lst (bs.map V.bl)) ∧ bs.length = k ∧ Src H6 p (c + k) ∧ Same (del H18 p) (del H6 p)) ⟨[], upd_same, rfl, sp18.mono (upd_ne pD0) (Nat.le_refl _), sd_of (same_new hD0)⟩
        (fun k H6 _ ⟨_, _, _, _, S⟩ => SqT.of (tup_src sp18 S eb0)) ?_ ?_
      · rintro k x H6 hx ⟨bs, e6', lb, s6, S6'⟩
        have hk := (List.getElem?_eq_some_iff.mp hx).1
        rw [List.length_map] at hk
        refine ⟨rfl, yes_of ?_⟩
        refine ⟨_, rfl, p, _, 2, rfl, s6, by omega, by decide, by decide, fun r' o' _ _ hp7 => ⟨rfl, _, by rw [upd_ne pD0.symm]; exact e6', by rw [List.length_map, lb]; exact small1000 (by omega), bs ++ [decide (V.int r' = V.int 0)], ?_⟩⟩
        exact ⟨by rw [upd_same, List.map_append]; rfl, by rw [List.length_append, lb]; rfl, hp7.mono (upd_ne pD0) (by omega), sd_put (sd_at S6') hD0⟩
      · rintro H6 ⟨bs, e6', lb, s6, S6'⟩
        rw [List.length_map] at lb s6
        refine .inl ⟨D0, _, rfl, SqL.of e6', fun y hy => ?_⟩
        have Sy := same_new (o := .tup (bs.map V.bl)) hy
        have sG := s6.same Sy
        have SG18 := S6'.trans (sd_of Sy)
        have DG := datS_src sp18 SG18 D18
        have DuG := dat_src sp18 SG18 (keyable_ans an) Du18
        have DyG : Dat (upd H6 y (.tup (bs.map V.bl))) (.ref y) (blsD bs) := .tup upd_same (dats_bls bs)
        have SGH := Sn.trans SG18
        generalize upd H6 y (.tup (bs.map V.bl)) = J at sG DG DuG DyG SGH ⊢
        -- truths
        refine ⟨_, rfl, _, rfl, _, rfl, .ref a, .ref t, .ref y, sy, an, bs, rfl, DG, ok, DuG, ao, DyG, lb, fun pt J1 T1 npt ept => ?_⟩
        have DJ := DG.same T1
        have DuJ := DuG.same T1
        have DyJ := DyG.same T1
        obtain ⟨a2, pk2, ow2, cc2, e2, ea2, _, ⟨b2, us2, rfl, eb2, Db2⟩, _⟩ := say_row DJ
        cases e2
        have lu2 : us2.length = sy.owns.length := by rw [Db2.len, List.length_map]
        refine ⟨_, rfl, a, _, 1, _, rfl, rfl, SqT.of ea2, rfl, b2, rfl, ⟨_, FT.sq eb2⟩, ?_⟩
        refine for_tup (K := K) (a := b2) (xs := us2) (fun j σ G2 => ∃ (o5 o10 o11 : Option V), σ = [some (.ref p), some (.ref a), some (.ref t), some r, some (.str (PyData.shown (.list [sy.d, ansT an]))), o5, some (.ref l6), o7, some (.ref y), some (.ref pt), o10, o11, none] ∧ Same J1 G2)
          ⟨_, _, _, rfl, Same.refl _⟩ (fun j σ G2 _ ⟨_, _, _, _, S⟩ => FT.sq (eb2.same S)) ?_ ?_
        · rintro j x σ G2 hx ⟨o5, o10, o11, rfl, SG2⟩
          obtain ⟨d, hd, Dx⟩ := dats_get' Db2 j x hx
          obtain ⟨o, ho, rfl⟩ := get_map hd
          obtain ⟨to, rfl⟩ := tuple_ref (ds := [.str o.1, nmsD o.2]) Dx
          obtain ⟨t', h1, h2⟩ := own_row (q := (to, ownD o)) rfl Dx
          have mo := List.mem_of_getElem? ho
          obtain ⟨bb, hv⟩ := vOf_some (l := nmv sy an bs) (x := o.1) (by rw [nmv_names ao.len lb]; exact List.mem_append_right _ (List.mem_map_of_mem mo))
          refine ⟨to, _, rfl, SqT.of (SG2 _ _ h1), rfl, _, _, rfl, _, _, rfl, rfl, ?_⟩
          refine ⟨_, rfl, _, rfl, _, rfl, _, rfl, .ref a, .ref t, .ref y, sy, an, o, bs, bb, rfl, DJ.same SG2, ok, DuJ.same SG2, ao, mo, DyJ.same SG2, lb, hv, fun J3 T3 => ?_⟩
          have U3 := SG2.trans T3
          refine ⟨_, rfl, _, rfl, _, rfl, _, rfl, rfl, .ref a, .ref t, .ref y, sy, an, o, bs, bb, rfl, DJ.same U3, ok, DuJ.same U3, ao, mo, DyJ.same U3, lb, hv, fun J4 T4 => ⟨t2, fun l5 hl5 => ?_⟩⟩
          have T5 := same_new (o := .lst [V.bl bb, V.bl bb]) hl5
          have U5 := (U3.trans T4).trans T5
          have DT5' : Dat (upd J4 l5 (.lst [V.bl bb, V.bl bb])) (.ref l5) (.list [.bool bb, .bool bb]) := .lst upd_same (.cons (.bl _) (.cons (.bl _) .nil))
          generalize upd J4 l5 (.lst [V.bl bb, V.bl bb]) = J5 at T5 U5 DT5' ⊢
          have ep5 := U5 _ _ ept
          refine ⟨_, rfl, _, rfl, _, rfl, pt, .bl bb, rfl, .inl ⟨kvB (nmv sy an bs), .inr o.1, .inl ep5, rfl, by rw [kvB_val, hv]; rfl⟩, _, rfl, _, rfl, pt, .bl bb, rfl, .inl ⟨kvB (nmv sy an bs), .inr o.1, .inl ep5, rfl, by rw [kvB_val, hv]; rfl⟩, t2, fun ld hld => ?_⟩
          have T6 := same_new (o := .lst [V.bl bb, V.bl bb]) hld
          refine ⟨.ref l5, .ref ld, .list [.bool bb, .bool bb], rfl, DT5'.same T6, .lst upd_same (.cons (.bl _) (.cons (.bl _) .nil)), rfl, by simp [PyData.depth, PyData.depthAll], fun J7 T7 => ⟨true, rfl, ?_⟩⟩
          show if (!true) = true then _ else _
          rw [if_neg (by decide)]
          exact ⟨_, _, _, rfl, (U5.trans T6).trans T7⟩
        · rintro σ G2 ⟨o5, o10, o11, rfl, SG2⟩
          have U := T1.trans SG2
          refine ⟨_, rfl, _, rfl, t2, fun l hl => ?_⟩
          have Sl' := same_new (o := .lst [V.ref a, V.ref t]) hl
          refine ⟨l, .ref a, .ref t, sy, an, rfl, upd_same, (DG.same U).same Sl', (DuG.same U).same Sl', ok, ao, ?_⟩
          refine ⟨_, rfl, rfl, ?_⟩
          have eT : decide ((V.str (PyData.shown (.list [sy.d, ansT an]))) = V.str (PyData.shown (.list [sy.d, ansT an]))) = true := decide_eq_true rfl
          rw [eT]
          exact q _ ((sG.same (U.trans Sl')).mono rfl (by omega)) (SGH.trans (sd_of (U.trans Sl')))
end
end S1

set_option Elab.async false
set_option linter.all false
set_option maxRecDepth 100000
set_option maxHeartbeats 1000000
/-! the law -/
namespace S1
open PySem PySem.W PySem.Spec PyProof.Rows L2
theorem SayOk.mono {a b c d a' b' c' d' : Nat} {s : Say} (h : SayOk a b c d s) (ha : a ≤ a') (hb : b ≤ b') (hc : c ≤ c') (hd : d ≤ d') : SayOk a' b' c' d' s :=
  ⟨h.pu, h.pn, Nat.le_trans h.pl ha, h.ou, h.on, Nat.le_trans h.ol hb, Nat.le_trans h.oc hc, h.cu, h.ck, Nat.le_trans h.cl hd⟩
def spLaw (K : PySem.W.Frag) : Sp := fun vs H Q _ => ∃ (a : Addr) (ns : List Int), vs = [.ref a] ∧ SqL K H a (ns.map V.int) ∧ ns.length ≤ 63 ∧ ∀ H', Q (.bl true) H'
theorem same_of_del {H G G' : Hp} {p : Addr} (hn : H p = none) (S : Same H G) (S2 : Same (del G p) (del G' p)) : Same H G' := fun b u e => by
  have bp : b ≠ p := ne_of_none e hn
  have z := S2 b u (by rw [del_ne bp]; exact S _ _ e)
  rwa [del_ne bp] at z
abbrev szT (a b m d : Nat) : HO := .tup [.int a, .int b, .int m, .int d]
theorem sz_at {G : Hp} {t1 t2 t3 t4 : Addr} {j : Nat} {x : V} (hx : [V.ref t1, V.ref t2, V.ref t3, V.ref t4][j]? = some x) (g1 : G t1 = some (szT 6 8 120 40)) (g2 : G t2 = some (szT 4 5 30 12)) (g3 : G t3 = some (szT 3 3 12 6)) (g4 : G t4 = some (szT 2 3 6 5)) :
    ∃ (t : Addr) (sa sb sm sd : Nat), x = .ref t ∧ G t = some (szT sa sb sm sd) ∧ sa ≤ 6 ∧ sb ≤ 8 ∧ sm ≤ 120 ∧ sd ≤ 40 := by
  match j, hx with
  | 0, h => exact ⟨t1, 6, 8, 120, 40, (Option.some.inj h).symm, g1, by decide, by decide, by decide, by decide⟩
  | 1, h => exact ⟨t2, 4, 5, 30, 12, (Option.some.inj h).symm, g2, by decide, by decide, by decide, by decide⟩
  | 2, h => exact ⟨t3, 3, 3, 12, 6, (Option.some.inj h).symm, g3, by decide, by decide, by decide, by decide⟩
  | 3, h => exact ⟨t4, 2, 3, 6, 5, (Option.some.inj h).symm, g4, by decide, by decide, by decide, by decide⟩
  | j + 4, h => simp at h
theorem two_at {P : V → Prop} {v r : V} {n : Nat} {x : V} (hx : [v, r][n]? = some x) (h1 : P v) (h2 : P r) : P x := by
  match n, hx with
  | 0, h => cases h; exact h1
  | 1, h => cases h; exact h2
  | n + 2, h => simp at h
theorem left_at (m n : Nat) (hm : m < 2) : ∃ l : Nat, l ≤ 1 ∧ (if (n : Int) < 0 + (m : Int) then (n : Int) else 0 + (m : Int)) = (l : Int) := by
  by_cases h : (n : Int) < 0 + (m : Int)
  · exact ⟨n, by omega, by rw [if_pos h]⟩
  · exact ⟨m, by omega, by rw [if_neg h, Int.zero_add]⟩
section
variable {P : Program} {w : World} {K : PySem.W.Frag} {mg : Str → Option Value} {base : Heap}
theorem scLaw : FnScope ["script", "k", "source", "sizes", "saying", "turn", "answers", "other"] ["script"] (defScope sLaw) := ⟨rfl, rfl, rfl, by decide +kernel, rfl, by decide +kernel, by decide +kernel⟩
theorem ok_law {f fS fY fD fM fR : Addr} {fd fdS fdY fdD fdM fdR : FuncData} (F : Fun K "law" "law" sLaw f fd) (B : Blt mg) (So : Has K mg "_law_source" sSource ["script", "k"] fS fdS) (Sy : Has K mg "_law_saying" sSaying ["source", "sizes"] fY fdY)
    (Dr : Has K mg "_law_drawn" sLDrawn ["source", "saying"] fD fdD) (Me : Has K mg "_law_mended" sLMended ["source", "saying", "answers", "left"] fM fdM) (Ri : Has K mg "_law_right" sRight ["source", "saying", "answers"] fR fdR)
    (GY : FnOk P w K mg base CX0 3 fY fdY ["source", "sizes"] spSaying) (GD : FnOk P w K mg base CX0 2 fD fdD ["source", "saying"] spDrawn) (GM : FnOk P w K mg base CX0 3 fM fdM ["source", "saying", "answers", "left"] spMended)
    (GR : FnOkG P w K mg base 9 fR fdR ["source", "saying", "answers"] spRight) : FnOkG P w K mg base 10 f fd ["script"] (spLaw K) := by
  have GS : FnOk P w K mg base CX0 1 fS fdS ["script", "k"] (spSource K) := ok_source So.F B
  refine F.okG scLaw (fun vs H Q E h => ?_) (fun cdv A outer s H vs Q E hG0 hr h => ?_)
  · obtain ⟨a, ns, rfl, _⟩ := h
    rfl
  · obtain ⟨a, ns, rfl, hS, hlen, q⟩ := h
    have hr1 := hr.mono (show 1 ≤ 9 by decide)
    have hr2 := hr.mono (show 2 ≤ 9 by decide)
    have hr3 := hr.mono (show 3 ≤ 9 by decide)
    have hG : (A.deeper (envOfC "law" (defScope sLaw) s.heap.objs.size f cdv)).guards = some [] := hG0
    refine ⟨_, pss_cons (ps_for PassesOwn.never rfl (pi_range1 rfl B.range (pa_cons (pe_callB (call_max2 rfl) (by rfl) B.max (by decide +kernel) (pa_cons pe_int (pa_cons (pe_callB (call_min2 rfl) (by rfl) B.min (by decide +kernel) (pa_cons pe_int (pa_cons (pe_callB call_len_seq (by rfl) B.len (by decide +kernel) (pa_cons (pv 0) pa_nil)) pa_nil))) pa_nil))) pa_nil)) (pg_name (i := 1) scLaw.nd rfl (Or.inl rfl))
        (pss_cons (ps_set (i := 2) scLaw.nd rfl (.inl rfl) (pe_call GS hr1 rfl So.g So.F.kp So.b .nil pass0 (pa_cons (pv 0) (pa_cons (pv 1) pa_nil))))
        (pss_one (ps_for PassesOwn.never rfl (pi_list (pe_lst (pa_cons (pe_tup (pa_cons pe_int (pa_cons pe_int (pa_cons pe_int (pa_cons pe_int pa_nil))))) (pa_cons (pe_tup (pa_cons pe_int (pa_cons pe_int (pa_cons pe_int (pa_cons pe_int pa_nil))))) (pa_cons (pe_tup (pa_cons pe_int (pa_cons pe_int (pa_cons pe_int (pa_cons pe_int pa_nil))))) (pa_cons (pe_tup (pa_cons pe_int (pa_cons pe_int (pa_cons pe_int (pa_cons pe_int pa_nil))))) pa_nil)))))) (pg_name (i := 3) scLaw.nd rfl (Or.inl rfl))
          (pss_cons (ps_set (i := 4) scLaw.nd rfl (.inl rfl) (pe_call GY hr3 rfl Sy.g Sy.F.kp Sy.b .nil pass0 (pa_cons (pv 2) (pa_cons (pv 3) pa_nil))))
          (pss_one (ps_for PassesOwn.never rfl (pi_range1 rfl B.range (pa_cons pe_int pa_nil)) (pg_name (i := 5) scLaw.nd rfl (Or.inl rfl))
            (pss_cons (ps_set (i := 6) scLaw.nd rfl (.inl rfl) (pe_call GD hr2 rfl Dr.g Dr.F.kp Dr.b .nil pass0 (pa_cons (pv 2) (pa_cons (pv 4) pa_nil))))
            (pss_one (ps_for PassesOwn.never rfl (pi_list (pe_lst (pa_cons (pv 4) (pa_cons (pe_call GM hr3 rfl Me.g Me.F.kp Me.b .nil pass0 (pa_cons (pv 2) (pa_cons (pv 4) (pa_cons (pv 6) (pa_cons (pe_callB (call_min2 rfl) (by rfl) B.min (by decide +kernel) (pa_cons (pv 5) (pa_cons (pe_callB call_len_seq (by rfl) B.len (by decide +kernel) (pa_cons (pe_ix ix_tup (pv 4) pe_int (fun _ _ => rfl)) pa_nil)) pa_nil))) pa_nil))))) pa_nil)))) (pg_name (i := 7) scLaw.nd rfl (Or.inl rfl))
              (pss_one (ps_if (pt_not (pt_val (pe_callG hG GR hr rfl Ri.g Ri.F.kp Ri.b (pa_cons (pv 2) (pa_cons (pv 7) (pa_cons (pv 6) pa_nil)))))) (pss_one (ps_ret pe_bl)) pss_nil))))))))))))
      (pss_one (ps_ret pe_bl)), ?_⟩
    refine ⟨_, rfl, a, _, rfl, .inl hS, _, _, rfl, _, _, rfl, _, rfl, ?_, ?_, ?_⟩
    · repeat' split <;> omega
    · repeat' split <;> omega
    refine for_range (lo := 0) (fun i σ H' => ∃ v1 v2 v3 v4 v5 v6 v7 : Option V, σ = [some (.ref a), v1, v2, v3, v4, v5, v6, v7] ∧ Same H H') ⟨_, _, _, _, _, _, _, rfl, Same.refl _⟩ ?_ ?_
    · rintro i σ H1 hi ⟨v1, v2, v3, v4, v5, v6, v7, rfl, s1⟩
      have hi2 : (i : Int) < 1000 := by
        have : (i : Nat) < 1000 := Nat.lt_of_lt_of_le hi (by repeat' split <;> omega)
        omega
      refine ⟨_, rfl, _, rfl, a, ns, _, rfl, s1.seq hS, hlen, by omega, by omega, fun p H2 hp s2 P2 => ?_⟩
      have S02 := s1.trans s2
      have hp0 : H p = none := s1.free hp
      refine ⟨(by show 4 ≤ sizeLine; decide), fun t1 ht1 => ⟨(by show 4 ≤ sizeLine; decide), fun t2 ht2 => ⟨(by show 4 ≤ sizeLine; decide), fun t3 ht3 => ⟨(by show 4 ≤ sizeLine; decide), fun t4 ht4 => ⟨(by show 4 ≤ sizeLine; decide), fun l hl => ?_⟩⟩⟩⟩⟩
      have X1 := same_new (o := szT 6 8 120 40) ht1
      have X2 := same_new (o := szT 4 5 30 12) ht2
      have X3 := same_new (o := szT 3 3 12 6) ht3
      have X4 := same_new (o := szT 2 3 6 5) ht4
      have X5 := same_new (o := .lst [V.ref t1, .ref t2, .ref t3, .ref t4]) hl
      refine ⟨l, rfl, ⟨_, SqL.of upd_same⟩, ?_⟩
      have X := (((X1.trans X2).trans X3).trans X4).trans X5
      have P3 := P2.same X
      have pl : p ≠ l := (P2.same (((X1.trans X2).trans X3).trans X4)).ne hl
      have g1 := X5 _ _ (X4 _ _ (X3 _ _ (X2 _ _ (upd_same (H := H2) (a := t1) (o := szT 6 8 120 40)))))
      have g2 := X5 _ _ (X4 _ _ (X3 _ _ (upd_same (a := t2) (o := szT 4 5 30 12))))
      have g3 := X5 _ _ (X4 _ _ (upd_same (a := t3) (o := szT 3 3 12 6)))
      have g4 := X5 _ _ (upd_same (a := t4) (o := szT 2 3 6 5))
      have gl : upd (upd (upd (upd (upd H2 t1 (szT 6 8 120 40)) t2 (szT 4 5 30 12)) t3 (szT 3 3 12 6)) t4 (szT 2 3 6 5)) l (.lst [V.ref t1, .ref t2, .ref t3, .ref t4]) l = some (.lst [V.ref t1, .ref t2, .ref t3, .ref t4]) := upd_same
      have S0X := S02.trans X
      have PG := P3
      have S0 := S0X
      generalize upd (upd (upd (upd (upd H2 t1 (szT 6 8 120 40)) t2 (szT 4 5 30 12)) t3 (szT 3 3 12 6)) t4 (szT 2 3 6 5)) l (.lst [V.ref t1, .ref t2, .ref t3, .ref t4]) = G at g1 g2 g3 g4 gl PG S0 ⊢
      have keep : ∀ {G2 : Hp} {b : Addr} {o : HO}, b ≠ p → Same (del G p) (del G2 p) → G b = some o → G2 b = some o := fun {G2 b o} n S e => by
        have z := S b o (by rw [del_ne n]; exact e)
        rwa [del_ne n] at z
      have isn : ∀ {b : Addr} {a b' m d : Nat}, G b = some (szT a b' m d) → b ≠ p := fun {b} _ _ _ _ e z => by
        obtain ⟨xs, hx⟩ := PG.lst
        rw [z, hx] at e
        cases e
      refine for_list (K := K) (a := l) (xs := [V.ref t1, .ref t2, .ref t3, .ref t4]) (fun j σ G2 => ∃ v3 v4 v5 v6 v7 : Option V, σ = [some (.ref a), some (.int (0 + (i : Int))), some (.ref p), v3, v4, v5, v6, v7] ∧ Src G2 p (j * 10000) ∧ Same (del G p) (del G2 p))
        ⟨_, _, _, _, _, rfl, PG, Same.refl _⟩ (fun j σ G2 _ ⟨_, _, _, _, _, _, _, S⟩ => SqL.of (keep pl.symm S gl)) ?_ ?_
      · rintro j x σ G2 hx ⟨v3, v4, v5, v6, v7, rfl, PG2, S2⟩
        have j3 : j < 4 := (List.getElem?_eq_some_iff.mp hx).1
        obtain ⟨t, sa, sb, sm, sd, rfl, et, h1, h2, h3, h4⟩ := sz_at hx g1 g2 g3 g4
        refine ⟨_, rfl, _, rfl, p, t, _, sa, sb, sm, sd, rfl, PG2, by omega, keep (isn et) S2 et, by omega, by omega, by omega, fun v sy G3 Dv sok0 P3 S3 => ?_⟩
        have sok : SayOk 6 8 120 40 sy := sok0.mono h1 h2 h3 h4
        have P3' : Src G3 p (j * 10000 + 9620) := P3.mono rfl (by omega)
        have c3 : j * 10000 + 9620 ≤ 40000 := by omega
        have c4 : j * 10000 + 9620 + 360 ≤ (j + 1) * 10000 := by omega
        generalize j * 10000 + 9620 = c0 at P3' c3 c4
        refine ⟨2, rfl, by decide, by decide, ?_⟩
        refine for_range (lo := 0) (n := 2) (fun m σ G4 => ∃ v5 v6 v7 : Option V, σ = [some (.ref a), some (.int (0 + (i : Int))), some (.ref p), some (.ref t), some v, v5, v6, v7] ∧ Src G4 p (c0 + 180 * m) ∧ Same (del G3 p) (del G4 p))
          ⟨_, _, _, rfl, P3', Same.refl _⟩ ?_ ?_
        · rintro m σ G4 hm ⟨v5, v6, v7, rfl, P4, S4⟩
          have m2 : m < 2 := hm
          have Dv4 := datS_src P3' S4 Dv
          refine ⟨_, rfl, _, rfl, p, v, _, sy, rfl, P4, by omega, Dv4, sok, fun u an G5 Du ao P5 S5 => ?_⟩
          have Dv5 := datS_src P4 S5 Dv4
          obtain ⟨a5, pk, ow, cc, rfl, ea5, Dk, Do, Dc⟩ := say_row Dv5
          obtain ⟨bc, cus, rfl, ebc, Dbc⟩ := dat_tup (ds := sy.cls.map clD) Dc
          have lcu : cus.length = sy.cls.length := by rw [Dbc.len, List.length_map]
          obtain ⟨left, l1, el⟩ := left_at m cus.length m2
          refine ⟨_, rfl, _, rfl, _, rfl, _, rfl, _, rfl, _, rfl, a5, _, 2, _, rfl, rfl, SqT.of ea5, rfl, bc, _, rfl, .inr (SqT.of ebc), _, _, rfl, ?_⟩
          refine ⟨p, .ref a5, u, _, left, sy, an, by rw [el]; rfl, P5, by omega, l1, Dv5, sok, Du, ao, fun r s' G6 Dr' ok' ep eo P6 S6 => ⟨(by show 2 ≤ sizeLine; decide), fun l2 hl2 => ?_⟩⟩
          refine ⟨l2, rfl, ⟨_, SqL.of upd_same⟩, ?_⟩
          have X7 := same_new (o := .lst [V.ref a5, r]) hl2
          have P7 := P6.same X7
          have np2 := P6.ne hl2
          have S57 := S6.trans (sd_of X7)
          have D7v := (datS_src P5 S6 Dv5).same X7
          have D7r := Dr'.same X7
          have D7u := (dat_src P5 S6 (keyable_ans an) Du).same X7
          have e7 : upd G6 l2 (.lst [V.ref a5, r]) l2 = some (.lst [V.ref a5, r]) := upd_same
          generalize upd G6 l2 (.lst [V.ref a5, r]) = G7 at X7 P7 S57 D7v D7r D7u e7 ⊢
          have S47 := (S4.trans S5).trans S57
          refine for_list (K := K) (a := l2) (xs := [V.ref a5, r]) (fun n σ G8 => ∃ v7 : Option V, σ = [some (.ref a), some (.int (0 + (i : Int))), some (.ref p), some (.ref t), some (.ref a5), some (.int (0 + (m : Int))), some u, v7] ∧ Src G8 p (c0 + 180 * m + 160 + 10 * n) ∧ Same (del G7 p) (del G8 p))
            ⟨_, rfl, P7.mono rfl (by omega), Same.refl _⟩ (fun n σ G8 _ ⟨_, _, _, S⟩ => SqL.of (lst_src np2.symm S e7)) ?_ ?_
          · rintro n x σ G8 hx ⟨v7, rfl, P8, S8⟩
            have n2 : n < 2 := (List.getElem?_eq_some_iff.mp hx).1
            obtain ⟨s8, D8, ok8, eo8⟩ := two_at (P := fun x => ∃ s8, DatS G7 x s8 ∧ SayOk 6 8 120 40 s8 ∧ s8.owns = sy.owns) hx ⟨sy, D7v, sok, rfl⟩ ⟨s', D7r, ok', eo⟩
            refine ⟨_, rfl, _, rfl, _, rfl, p, x, u, _, s8, an, rfl, P8, by omega, datS_src P7 S8 D8, ok8, dat_src P7 S8 (keyable_ans an) D7u, by rw [eo8]; exact ao, fun G9 P9 S9 => ⟨true, rfl, ?_⟩⟩
            show if (!true) = true then _ else _
            rw [if_neg (by decide)]
            exact ⟨_, rfl, P9.mono rfl (by omega), S8.trans S9⟩
          · rintro σ G8 ⟨v7, rfl, P8, S8⟩
            exact ⟨_, _, _, rfl, P8.mono rfl (by show _ + 10 * 2 ≤ _; omega), S47.trans S8⟩
        · rintro σ G4 ⟨v5, v6, v7, rfl, P4, S4⟩
          refine ⟨_, _, _, _, _, rfl, P4.mono rfl ?_, (S2.trans S3).trans S4⟩
          omega
      · rintro σ G2 ⟨v3, v4, v5, v6, v7, rfl, PG2, S2⟩
        exact ⟨_, _, _, _, _, _, _, rfl, same_of_del hp0 S0 S2⟩
    · rintro σ H1 ⟨v1, v2, v3, v4, v5, v6, v7, rfl, s1⟩
      exact q H1
end
end S1

set_option Elab.async false
set_option linter.all false
set_option maxRecDepth 100000
set_option maxHeartbeats 4000000
/-! all that the text has written -/
namespace S1
open PySem PySem.Spec PyProof.Rows L2
/-- a def of the text stands under its name at f -/
def HasE (K : PySem.W.Frag) (x : Str) (st : Stmt) (f : Addr) : Prop :=
  PySem.W.nsIn K mainGlobals x = some (some (.ref f)) ∧ (∃ (oc : Value) (od : Option Addr) (kV doc pm : Value) (an : Option Addr) (cdv ct : Value) (osl : Array (Option Value)), K.lookup f = some ⟨oc, od, .func (PySem.W.fnOf x x (defArgs st) (defBody st) (defScope st) .none kV doc pm an cdv ct), osl⟩ ∧ PySem.W.codeIn K cdv x = true) ∧ PySem.W.keepIn K (.ref f) = true
theorem has_of {K : PySem.W.Frag} {h : Heap} {mg : Str → Option Value} {x : Str} {st : Stmt} {f : Addr} {ps : List Str} (X : K.In h) (G : h.Ns mainGlobals mg) (e : HasE K x st f)
    (hb : ∀ (kV doc pm : Value) (an : Option Addr) (cdv ct : Value) (us : List Value), us.length = ps.length → bindArgs (PySem.W.fnOf x x (defArgs st) (defBody st) (defScope st) .none kV doc pm an cdv ct) ⟨us, []⟩ = pure (ps.zip us)) : ∃ fd, Has K mg x st ps f fd := by
  obtain ⟨e1, ⟨oc, od, kV, doc, pm, an, cdv, ct, osl, e2, e3⟩, e4⟩ := e
  have F := fun_mk (st := st) e2 e3 e4
  exact ⟨_, F, PySem.W.mg_of X G e1, F.binds hb⟩
theorem all_mk {l : PySem.W.OpenLaw} {w : World} {K : PySem.W.Frag} {h : Heap} {mg : Str → Option Value} {fa fL f_y_isTruth f_y_isTuple f_y_isPair f_y_isRising f_y_isName f_y_isLetter f_y_isAnyClause f_y_areNames f_y_isSight f_y_isOwn f_y_areOwns f_y_isClauseOver f_y_areClauses f_y_namesOf f_y_fitsSaying f_y_areTruths f_y_fitsPlay f_w_saying f_w_play f_w_own f_o_Fa f_o_Fr f_o_Wa f_o_Wr f_o_Ap f_o_Ta f_o_Sb f_o_Pi f_o_Va f_o_To f_o_Fb f_o_Ho f_o_Ba f_o_Vo f_o_Aw f_o_So f_o_Pk f_o_Sa f_o_Wd f_o_Cl f_o_Sm f_o_Sy f_o_LP f_o_LS f_o_Sp f_o_LT f_o_LB f_o_LD f_o_LF f_o_LM f_o_Ri : Addr} {t0 t1 t2 t3 t4 t5 : Tok} (X : K.In h) (G : h.Ns mainGlobals mg) (hfa : mg "law" = some (.ref fa))
    (h_y_isTruth : HasE K "is_truth" sIsTruth f_y_isTruth)
    (h_y_isTuple : HasE K "is_tuple" sIsTuple f_y_isTuple)
    (h_y_isPair : HasE K "is_pair" sIsPair f_y_isPair)
    (h_y_isRising : HasE K "is_rising" sIsRising f_y_isRising)
    (h_y_isName : HasE K "is_name" sIsName f_y_isName)
    (h_y_isLetter : HasE K "is_letter" sIsLetter f_y_isLetter)
    (h_y_isAnyClause : HasE K "is_any_clause" sIsAnyClause f_y_isAnyClause)
    (h_y_areNames : HasE K "are_names" sAreNames f_y_areNames)
    (h_y_isSight : HasE K "is_sight" sIsSight f_y_isSight)
    (h_y_isOwn : HasE K "is_own" sIsOwn f_y_isOwn)
    (h_y_areOwns : HasE K "are_owns" sAreOwns f_y_areOwns)
    (h_y_isClauseOver : HasE K "is_clause_over" sIsClauseOver f_y_isClauseOver)
    (h_y_areClauses : HasE K "are_clauses" sAreClauses f_y_areClauses)
    (h_y_namesOf : HasE K "names_of" sNamesOf f_y_namesOf)
    (h_y_fitsSaying : HasE K "fits_saying" sFitsSaying f_y_fitsSaying)
    (h_y_areTruths : HasE K "are_truths" sAreTruths f_y_areTruths)
    (h_y_fitsPlay : HasE K "fits_play" sFitsPlay f_y_fitsPlay)
    (h_w_saying : HasE K "want_saying" sWantSaying f_w_saying)
    (h_w_play : HasE K "want_play" sWantPlay f_w_play)
    (h_w_own : HasE K "want_own" sWantOwn f_w_own)
    (h_o_Fa : HasE K "fits_answers" sFitsAnswers f_o_Fa)
    (h_o_Fr : HasE K "fits_rows" sFitsRows f_o_Fr)
    (h_o_Wa : HasE K "want_answers" sWantAnswers f_o_Wa)
    (h_o_Wr : HasE K "want_rows" sWantRows f_o_Wr)
    (h_o_Ap : HasE K "all_plays" sAllPlays f_o_Ap)
    (h_o_Ta : HasE K "truths_at" sTruthsAt f_o_Ta)
    (h_o_Sb : HasE K "seen_by" sSeenBy f_o_Sb)
    (h_o_Pi : HasE K "place_in_table" sPlaceIn f_o_Pi)
    (h_o_Va : HasE K "values_at" sValuesAt f_o_Va)
    (h_o_To : HasE K "tables_of" sTablesOf f_o_To)
    (h_o_Fb : HasE K "first_broken" sFirstBroken f_o_Fb)
    (h_o_Ho : HasE K "holds" sHolds f_o_Ho)
    (h_o_Ba : HasE K "broken_at" sBrokenAt f_o_Ba)
    (h_o_Vo : HasE K "value_of" sValueOf f_o_Vo)
    (h_o_Aw : HasE K "answers_with" sAnswersWith f_o_Aw)
    (h_o_So : HasE K "_law_source" sSource f_o_So)
    (h_o_Pk : HasE K "_law_pick" sPick f_o_Pk)
    (h_o_Sa : HasE K "_law_same" sSame f_o_Sa)
    (h_o_Wd : HasE K "_law_words" sWords f_o_Wd)
    (h_o_Cl : HasE K "_law_clause" sClause f_o_Cl)
    (h_o_Sm : HasE K "_law_some" sSome f_o_Sm)
    (h_o_Sy : HasE K "_law_saying" sSaying f_o_Sy)
    (h_o_LP : HasE K "_law_plays" sLPlays f_o_LP)
    (h_o_LS : HasE K "_law_sees" sLSees f_o_LS)
    (h_o_Sp : HasE K "_law_spot" sLSpot f_o_Sp)
    (h_o_LT : HasE K "_law_truths" sLTruths f_o_LT)
    (h_o_LB : HasE K "_law_broken" sLBroken f_o_LB)
    (h_o_LD : HasE K "_law_drawn" sLDrawn f_o_LD)
    (h_o_LF : HasE K "_law_first_broken" sLFirstBroken f_o_LF)
    (h_o_LM : HasE K "_law_mended" sLMended f_o_LM)
    (h_o_Ri : HasE K "_law_right" sRight f_o_Ri)
    (hL : HasE K "law" sLaw fL)
    (c0 : PySem.W.nsIn K mainGlobals "SMALL" = some (some (.str "abcdefghijklmnopqrstuvwxyz" t0)))
    (c1 : PySem.W.nsIn K mainGlobals "MOST_SIGNS" = some (some (.int 8 t1)))
    (c2 : PySem.W.nsIn K mainGlobals "MOST_PICKS" = some (some (.int 6 t2)))
    (c3 : PySem.W.nsIn K mainGlobals "MOST_OWNS" = some (some (.int 8 t3)))
    (c4 : PySem.W.nsIn K mainGlobals "MOST_CLAUSES" = some (some (.int 40 t4)))
    (c5 : PySem.W.nsIn K mainGlobals "MOST_COPIES" = some (some (.int 120 t5)))
    (zlen : PySem.W.nsIn K mainGlobals "len" = some none)
    (zsum : PySem.W.nsIn K mainGlobals "sum" = some none)
    (zint : PySem.W.nsIn K mainGlobals "int" = some none)
    (zmax : PySem.W.nsIn K mainGlobals "max" = some none)
    (zmin : PySem.W.nsIn K mainGlobals "min" = some none)
    (zabs : PySem.W.nsIn K mainGlobals "abs" = some none)
    (zstr : PySem.W.nsIn K mainGlobals "str" = some none)
    (zbool : PySem.W.nsIn K mainGlobals "bool" = some none)
    (zdict : PySem.W.nsIn K mainGlobals "dict" = some none)
    (zlist : PySem.W.nsIn K mainGlobals "list" = some none)
    (zset : PySem.W.nsIn K mainGlobals "set" = some none)
    (ztuple : PySem.W.nsIn K mainGlobals "tuple" = some none)
    (zsorted : PySem.W.nsIn K mainGlobals "sorted" = some none)
    (zzip : PySem.W.nsIn K mainGlobals "zip" = some none)
    (zall : PySem.W.nsIn K mainGlobals "all" = some none)
    (zrange : PySem.W.nsIn K mainGlobals "range" = some none)
    (zisinstance : PySem.W.nsIn K mainGlobals "isinstance" = some none)
    (zenumerate : PySem.W.nsIn K mainGlobals "enumerate" = some none)
    (zany : PySem.W.nsIn K mainGlobals "any" = some none)
    (zrepr : PySem.W.nsIn K mainGlobals "repr" = some none)
    : ∃ fd : FuncData, (∀ (s : Shared) (u : Value), BindsTo s fd ⟨[u], []⟩ [("script", u)]) ∧ ∀ base : Heap, K.In base → base.Ns mainGlobals mg → FnOkG l.prog w K mg base 10 fa fd ["script"] (spLaw K) := by
  obtain ⟨e1, ⟨oc, od, kV, doc, pm, an, cdv, ct, osl, e2, e3⟩, e4⟩ := hL
  have e := hfa.symm.trans (PySem.W.mg_of X G e1)
  cases e
  have FL := fun_mk (st := sLaw) e2 e3 e4
  obtain ⟨fd_y_isTruth, y_isTruth⟩ := has_of (ps := ["value"]) X G h_y_isTruth fun _ _ _ _ _ _ us hl => match us, hl with | [_], _ => rfl
  obtain ⟨fd_y_isTuple, y_isTuple⟩ := has_of (ps := ["value", "most"]) X G h_y_isTuple fun _ _ _ _ _ _ us hl => match us, hl with | [_, _], _ => rfl
  obtain ⟨fd_y_isPair, y_isPair⟩ := has_of (ps := ["value"]) X G h_y_isPair fun _ _ _ _ _ _ us hl => match us, hl with | [_], _ => rfl
  obtain ⟨fd_y_isRising, y_isRising⟩ := has_of (ps := ["parts"]) X G h_y_isRising fun _ _ _ _ _ _ us hl => match us, hl with | [_], _ => rfl
  obtain ⟨fd_y_isName, y_isName⟩ := has_of (ps := ["value"]) X G h_y_isName fun _ _ _ _ _ _ us hl => match us, hl with | [_], _ => rfl
  obtain ⟨fd_y_isLetter, y_isLetter⟩ := has_of (ps := ["value"]) X G h_y_isLetter fun _ _ _ _ _ _ us hl => match us, hl with | [_], _ => rfl
  obtain ⟨fd_y_isAnyClause, y_isAnyClause⟩ := has_of (ps := ["value"]) X G h_y_isAnyClause fun _ _ _ _ _ _ us hl => match us, hl with | [_], _ => rfl
  obtain ⟨fd_y_areNames, y_areNames⟩ := has_of (ps := ["value", "most"]) X G h_y_areNames fun _ _ _ _ _ _ us hl => match us, hl with | [_, _], _ => rfl
  obtain ⟨fd_y_isSight, y_isSight⟩ := has_of (ps := ["value", "picks"]) X G h_y_isSight fun _ _ _ _ _ _ us hl => match us, hl with | [_, _], _ => rfl
  obtain ⟨fd_y_isOwn, y_isOwn⟩ := has_of (ps := ["value", "picks"]) X G h_y_isOwn fun _ _ _ _ _ _ us hl => match us, hl with | [_, _], _ => rfl
  obtain ⟨fd_y_areOwns, y_areOwns⟩ := has_of (ps := ["value", "picks"]) X G h_y_areOwns fun _ _ _ _ _ _ us hl => match us, hl with | [_, _], _ => rfl
  obtain ⟨fd_y_isClauseOver, y_isClauseOver⟩ := has_of (ps := ["value", "names"]) X G h_y_isClauseOver fun _ _ _ _ _ _ us hl => match us, hl with | [_, _], _ => rfl
  obtain ⟨fd_y_areClauses, y_areClauses⟩ := has_of (ps := ["value", "names"]) X G h_y_areClauses fun _ _ _ _ _ _ us hl => match us, hl with | [_, _], _ => rfl
  obtain ⟨fd_y_namesOf, y_namesOf⟩ := has_of (ps := ["picks", "owns"]) X G h_y_namesOf fun _ _ _ _ _ _ us hl => match us, hl with | [_, _], _ => rfl
  obtain ⟨fd_y_fitsSaying, y_fitsSaying⟩ := has_of (ps := ["value"]) X G h_y_fitsSaying fun _ _ _ _ _ _ us hl => match us, hl with | [_], _ => rfl
  obtain ⟨fd_y_areTruths, y_areTruths⟩ := has_of (ps := ["value", "many"]) X G h_y_areTruths fun _ _ _ _ _ _ us hl => match us, hl with | [_, _], _ => rfl
  obtain ⟨fd_y_fitsPlay, y_fitsPlay⟩ := has_of (ps := ["saying", "value"]) X G h_y_fitsPlay fun _ _ _ _ _ _ us hl => match us, hl with | [_, _], _ => rfl
  obtain ⟨fd_w_saying, w_saying⟩ := has_of (ps := ["saying"]) X G h_w_saying fun _ _ _ _ _ _ us hl => match us, hl with | [_], _ => rfl
  obtain ⟨fd_w_play, w_play⟩ := has_of (ps := ["saying", "play"]) X G h_w_play fun _ _ _ _ _ _ us hl => match us, hl with | [_, _], _ => rfl
  obtain ⟨fd_w_own, w_own⟩ := has_of (ps := ["saying", "name"]) X G h_w_own fun _ _ _ _ _ _ us hl => match us, hl with | [_, _], _ => rfl
  obtain ⟨fd_o_Fa, o_Fa⟩ := has_of (ps := ["saying", "value"]) X G h_o_Fa fun _ _ _ _ _ _ us hl => match us, hl with | [_, _], _ => rfl
  obtain ⟨fd_o_Fr, o_Fr⟩ := has_of (ps := ["saying", "value"]) X G h_o_Fr fun _ _ _ _ _ _ us hl => match us, hl with | [_, _], _ => rfl
  obtain ⟨fd_o_Wa, o_Wa⟩ := has_of (ps := ["saying", "answers"]) X G h_o_Wa fun _ _ _ _ _ _ us hl => match us, hl with | [_, _], _ => rfl
  obtain ⟨fd_o_Wr, o_Wr⟩ := has_of (ps := ["saying", "rows"]) X G h_o_Wr fun _ _ _ _ _ _ us hl => match us, hl with | [_, _], _ => rfl
  obtain ⟨fd_o_Ap, o_Ap⟩ := has_of (ps := ["saying"]) X G h_o_Ap fun _ _ _ _ _ _ us hl => match us, hl with | [_], _ => rfl
  obtain ⟨fd_o_Ta, o_Ta⟩ := has_of (ps := ["saying", "play"]) X G h_o_Ta fun _ _ _ _ _ _ us hl => match us, hl with | [_, _], _ => rfl
  obtain ⟨fd_o_Sb, o_Sb⟩ := has_of (ps := ["sight", "truths"]) X G h_o_Sb fun _ _ _ _ _ _ us hl => match us, hl with | [_, _], _ => rfl
  obtain ⟨fd_o_Pi, o_Pi⟩ := has_of (ps := ["truths"]) X G h_o_Pi fun _ _ _ _ _ _ us hl => match us, hl with | [_], _ => rfl
  obtain ⟨fd_o_Va, o_Va⟩ := has_of (ps := ["saying", "answers", "play"]) X G h_o_Va fun _ _ _ _ _ _ us hl => match us, hl with | [_, _, _], _ => rfl
  obtain ⟨fd_o_To, o_To⟩ := has_of (ps := ["saying", "row"]) X G h_o_To fun _ _ _ _ _ _ us hl => match us, hl with | [_, _], _ => rfl
  obtain ⟨fd_o_Fb, o_Fb⟩ := has_of (ps := ["saying", "answers"]) X G h_o_Fb fun _ _ _ _ _ _ us hl => match us, hl with | [_, _], _ => rfl
  obtain ⟨fd_o_Ho, o_Ho⟩ := has_of (ps := ["saying", "answers"]) X G h_o_Ho fun _ _ _ _ _ _ us hl => match us, hl with | [_, _], _ => rfl
  obtain ⟨fd_o_Ba, o_Ba⟩ := has_of (ps := ["saying", "answers"]) X G h_o_Ba fun _ _ _ _ _ _ us hl => match us, hl with | [_, _], _ => rfl
  obtain ⟨fd_o_Vo, o_Vo⟩ := has_of (ps := ["saying", "answers", "name", "play"]) X G h_o_Vo fun _ _ _ _ _ _ us hl => match us, hl with | [_, _, _, _], _ => rfl
  obtain ⟨fd_o_Aw, o_Aw⟩ := has_of (ps := ["saying", "rows"]) X G h_o_Aw fun _ _ _ _ _ _ us hl => match us, hl with | [_, _], _ => rfl
  obtain ⟨fd_o_So, o_So⟩ := has_of (ps := ["script", "k"]) X G h_o_So fun _ _ _ _ _ _ us hl => match us, hl with | [_, _], _ => rfl
  obtain ⟨fd_o_Pk, o_Pk⟩ := has_of (ps := ["source", "top"]) X G h_o_Pk fun _ _ _ _ _ _ us hl => match us, hl with | [_, _], _ => rfl
  obtain ⟨fd_o_Sa, o_Sa⟩ := has_of (ps := ["found", "due"]) X G h_o_Sa fun _ _ _ _ _ _ us hl => match us, hl with | [_, _], _ => rfl
  obtain ⟨fd_o_Wd, o_Wd⟩ := has_of (ps := ["source", "size"]) X G h_o_Wd fun _ _ _ _ _ _ us hl => match us, hl with | [_, _], _ => rfl
  obtain ⟨fd_o_Cl, o_Cl⟩ := has_of (ps := ["source", "words"]) X G h_o_Cl fun _ _ _ _ _ _ us hl => match us, hl with | [_, _], _ => rfl
  obtain ⟨fd_o_Sm, o_Sm⟩ := has_of (ps := ["source", "size"]) X G h_o_Sm fun _ _ _ _ _ _ us hl => match us, hl with | [_, _], _ => rfl
  obtain ⟨fd_o_Sy, o_Sy⟩ := has_of (ps := ["source", "sizes"]) X G h_o_Sy fun _ _ _ _ _ _ us hl => match us, hl with | [_, _], _ => rfl
  obtain ⟨fd_o_LP, o_LP⟩ := has_of (ps := ["size"]) X G h_o_LP fun _ _ _ _ _ _ us hl => match us, hl with | [_], _ => rfl
  obtain ⟨fd_o_LS, o_LS⟩ := has_of (ps := ["saying", "sight", "play"]) X G h_o_LS fun _ _ _ _ _ _ us hl => match us, hl with | [_, _, _], _ => rfl
  obtain ⟨fd_o_Sp, o_Sp⟩ := has_of (ps := ["row"]) X G h_o_Sp fun _ _ _ _ _ _ us hl => match us, hl with | [_], _ => rfl
  obtain ⟨fd_o_LT, o_LT⟩ := has_of (ps := ["saying", "answers", "play"]) X G h_o_LT fun _ _ _ _ _ _ us hl => match us, hl with | [_, _, _], _ => rfl
  obtain ⟨fd_o_LB, o_LB⟩ := has_of (ps := ["saying", "answers"]) X G h_o_LB fun _ _ _ _ _ _ us hl => match us, hl with | [_, _], _ => rfl
  obtain ⟨fd_o_LD, o_LD⟩ := has_of (ps := ["source", "saying"]) X G h_o_LD fun _ _ _ _ _ _ us hl => match us, hl with | [_, _], _ => rfl
  obtain ⟨fd_o_LF, o_LF⟩ := has_of (ps := ["rows", "clause"]) X G h_o_LF fun _ _ _ _ _ _ us hl => match us, hl with | [_, _], _ => rfl
  obtain ⟨fd_o_LM, o_LM⟩ := has_of (ps := ["source", "saying", "answers", "left"]) X G h_o_LM fun _ _ _ _ _ _ us hl => match us, hl with | [_, _, _, _], _ => rfl
  obtain ⟨fd_o_Ri, o_Ri⟩ := has_of (ps := ["source", "saying", "answers"]) X G h_o_Ri fun _ _ _ _ _ _ us hl => match us, hl with | [_, _, _], _ => rfl
  have B : Blt mg := {len := PySem.W.mg_none_of X G zlen, sum := PySem.W.mg_none_of X G zsum, int := PySem.W.mg_none_of X G zint, max := PySem.W.mg_none_of X G zmax, min := PySem.W.mg_none_of X G zmin, abs := PySem.W.mg_none_of X G zabs, str := PySem.W.mg_none_of X G zstr, bool := PySem.W.mg_none_of X G zbool, dict := PySem.W.mg_none_of X G zdict, list := PySem.W.mg_none_of X G zlist, set := PySem.W.mg_none_of X G zset, tuple := PySem.W.mg_none_of X G ztuple, sorted := PySem.W.mg_none_of X G zsorted, zip := PySem.W.mg_none_of X G zzip, all := PySem.W.mg_none_of X G zall, range := PySem.W.mg_none_of X G zrange, isi := PySem.W.mg_none_of X G zisinstance}
  have nenumerate := PySem.W.mg_none_of X G zenumerate
  have nany := PySem.W.mg_none_of X G zany
  have nrepr := PySem.W.mg_none_of X G zrepr
  have C : Cst mg := {small := ⟨_, PySem.W.mg_of X G c0⟩, signs := ⟨_, PySem.W.mg_of X G c1⟩, picks := ⟨_, PySem.W.mg_of X G c2⟩, owns := ⟨_, PySem.W.mg_of X G c3⟩, clauses := ⟨_, PySem.W.mg_of X G c4⟩, copies := ⟨_, PySem.W.mg_of X G c5⟩}
  have Y : Shp K mg := {isTruth := ⟨_, _, y_isTruth⟩, isTuple := ⟨_, _, y_isTuple⟩, isPair := ⟨_, _, y_isPair⟩, isRising := ⟨_, _, y_isRising⟩, isName := ⟨_, _, y_isName⟩, isLetter := ⟨_, _, y_isLetter⟩, isAnyClause := ⟨_, _, y_isAnyClause⟩, areNames := ⟨_, _, y_areNames⟩, isSight := ⟨_, _, y_isSight⟩, isOwn := ⟨_, _, y_isOwn⟩, areOwns := ⟨_, _, y_areOwns⟩, isClauseOver := ⟨_, _, y_isClauseOver⟩, areClauses := ⟨_, _, y_areClauses⟩, namesOf := ⟨_, _, y_namesOf⟩, fitsSaying := ⟨_, _, y_fitsSaying⟩, areTruths := ⟨_, _, y_areTruths⟩, fitsPlay := ⟨_, _, y_fitsPlay⟩}
  have Wn : Wnt K mg := {saying := ⟨_, _, w_saying⟩, play := ⟨_, _, w_play⟩, own := ⟨_, _, w_own⟩}
  have ev : Env1 K mg := ⟨B, C, Y⟩
  refine ⟨PySem.W.fnOf "law" "law" (defArgs sLaw) (defBody sLaw) (defScope sLaw) .none kV doc pm an cdv ct, fun s v => .of_eq rfl, fun base _ _ => ?_⟩
  have GY : FnOk l.prog w K mg base CX0 3 _ _ ["source", "sizes"] spSaying := ok_saying o_Sy.F o_Pk o_Wd o_Cl o_Sm B
  have GWa : FnOk l.prog w K mg base CX0 4 _ _ ["saying", "answers"] spWantAnswers := ok_wantAnswers o_Wa.F ev o_Fa
  have GWr : FnOk l.prog w K mg base CX0 4 _ _ ["saying", "rows"] spWantRows := ok_wantRows o_Wr.F ev o_Fr
  have GVa : FnOk l.prog w K mg base CX0 2 _ _ ["saying", "answers", "play"] spValuesAt := ok_valuesAt o_Va.F B nenumerate o_Ta o_Sb o_Pi
  have GFb : FnOk l.prog w K mg base CX0 3 _ _ ["saying", "answers"] spFirstBroken := ok_firstBroken o_Fb.F B nenumerate nany o_Ap o_Va GVa
  have GHo : FnOk l.prog w K mg base CX0 8 _ _ ["saying", "answers"] spHolds := ok_holds o_Ho.F ev Wn o_Wa o_Fb GWa GFb
  have GBa : FnOk l.prog w K mg base CX0 8 _ _ ["saying", "answers"] spFirstBroken := ok_brokenAt o_Ba.F ev Wn o_Wa o_Fb GWa GFb
  have GVo : FnOk l.prog w K mg base CX0 8 _ _ ["saying", "answers", "name", "play"] spValueOf := ok_valueOf o_Vo.F ev Wn o_Wa o_Va GWa GVa
  have GAw : FnOk l.prog w K mg base CX0 8 _ _ ["saying", "rows"] spTablesOf := ok_answersWith o_Aw.F ev Wn o_Wr o_To GWr
  have GLT : FnOk l.prog w K mg base CX0 2 _ _ ["saying", "answers", "play"] spValuesAt := ok_lTruths o_LT.F B o_Sp o_LS
  have GLB : FnOk l.prog w K mg base CX0 3 _ _ ["saying", "answers"] spFirstBroken := ok_lBroken o_LB.F B o_LT o_LP GLT
  have GLD : FnOk l.prog w K mg base CX0 2 _ _ ["source", "saying"] spDrawn := ok_lDrawn o_LD.F o_Pk B
  have GLM : FnOk l.prog w K mg base CX0 3 _ _ ["source", "saying", "answers", "left"] spMended := ok_lMended o_LM.F B o_Pk o_LT o_LP o_LF GLT
  have GR : FnOkG l.prog w K mg base 9 _ _ ["source", "saying", "answers"] spRight := ok_right o_Ri.F B nrepr o_Pk o_LB o_LT o_Ba o_Ho o_Aw o_Vo o_Sa GLB GLT GBa GHo GAw GVo
  exact ok_law FL B o_So o_Sy o_LD o_LM o_Ri GY GLD GLM GR
theorem walk {l : PySem.W.OpenLaw} {q : Program} {loose : List Str} {XP : (Str → Option Value) → Heap → Prop} {YP : World → Heap → Prop} {d : DefRec} {K : Params → PySem.W.Frag} (hn : l.most = some 63) (hdf : d.params.defaults = []) (hY : ∀ (w : World) (h : Heap), YP w h → (K w.params).In h)
    (F : ∀ (w : World) (mg : Str → Option Value) (fa : Addr) (h : Heap), (K w.params).In h → h.Ns mainGlobals mg → mg d.name = some (.ref fa) →
      ∃ fd : FuncData, (∀ (s : Shared) (u : Value), BindsTo s fd ⟨[u], []⟩ [("script", u)]) ∧ ∀ base : Heap, (K w.params).In base → base.Ns mainGlobals mg → FnOkG l.prog w (K w.params) mg base 10 fa fd ["script"] (spLaw (K w.params))) :
    PySem.W.WalkO q loose XP YP l.row.toRowW d [] (fun f vs => PySem.call f vs) :=
  walk_ofG (n := 63) (k := 10) (sp := spLaw) hn (by decide) hdf ⟨rfl, by decide, by decide⟩ hY F fun _ _ a ns hl _ hS => ⟨a, ns, rfl, hS, hl, fun _ => rfl⟩
end S1

open PySem PySem.W PyProof.Rows
set_option maxRecDepth 100000 in
set_option maxHeartbeats 0 in
theorem PySem.Challenge.cw_onlyseen_k03_what_holds_and_where_it_bre_holds : PySem.Challenge.rw_onlyseen_k03_what_holds_and_where_it_bre.Holds := by
  w_on; o_law; k_head; (case hw => w_witness2)
  k_fill
  refine S1.walk (l := PySem.Challenge.rw_onlyseen_k03_what_holds_and_where_it_bre) rfl rfl (fun w h Y => PySem.W.kIn_of Y) ?F
  case F =>
    intro w mg fa h KX G hmg
    refine' S1.all_mk KX G hmg ?h_y_isTruth ?h_y_isTuple ?h_y_isPair ?h_y_isRising ?h_y_isName ?h_y_isLetter ?h_y_isAnyClause ?h_y_areNames ?h_y_isSight ?h_y_isOwn ?h_y_areOwns ?h_y_isClauseOver ?h_y_areClauses ?h_y_namesOf ?h_y_fitsSaying ?h_y_areTruths ?h_y_fitsPlay ?h_w_saying ?h_w_play ?h_w_own ?h_o_Fa ?h_o_Fr ?h_o_Wa ?h_o_Wr ?h_o_Ap ?h_o_Ta ?h_o_Sb ?h_o_Pi ?h_o_Va ?h_o_To ?h_o_Fb ?h_o_Ho ?h_o_Ba ?h_o_Vo ?h_o_Aw ?h_o_So ?h_o_Pk ?h_o_Sa ?h_o_Wd ?h_o_Cl ?h_o_Sm ?h_o_Sy ?h_o_LP ?h_o_LS ?h_o_Sp ?h_o_LT ?h_o_LB ?h_o_LD ?h_o_LF ?h_o_LM ?h_o_Ri ?hL ?c0 ?c1 ?c2 ?c3 ?c4 ?c5 ?zlen ?zsum ?zint ?zmax ?zmin ?zabs ?zstr ?zbool ?zdict ?zlist ?zset ?ztuple ?zsorted ?zzip ?zall ?zrange ?zisinstance ?zenumerate ?zany ?zrepr
    (case h_y_isTruth => exact ⟨by k_is, ⟨_, _, _, _, _, _, _, _, _, by k_is, by k_is⟩, by k_is⟩)
    (case h_y_isTuple => exact ⟨by k_is, ⟨_, _, _, _, _, _, _, _, _, by k_is, by k_is⟩, by k_is⟩)
    (case h_y_isPair => exact ⟨by k_is, ⟨_, _, _, _, _, _, _, _, _, by k_is, by k_is⟩, by k_is⟩)
    (case h_y_isRising => exact ⟨by k_is, ⟨_, _, _, _, _, _, _, _, _, by k_is, by k_is⟩, by k_is⟩)
    (case h_y_isName => exact ⟨by k_is, ⟨_, _, _, _, _, _, _, _, _, by k_is, by k_is⟩, by k_is⟩)
    (case h_y_isLetter => exact ⟨by k_is, ⟨_, _, _, _, _, _, _, _, _, by k_is, by k_is⟩, by k_is⟩)
    (case h_y_isAnyClause => exact ⟨by k_is, ⟨_, _, _, _, _, _, _, _, _, by k_is, by k_is⟩, by k_is⟩)
    (case h_y_areNames => exact ⟨by k_is, ⟨_, _, _, _, _, _, _, _, _, by k_is, by k_is⟩, by k_is⟩)
    (case h_y_isSight => exact ⟨by k_is, ⟨_, _, _, _, _, _, _, _, _, by k_is, by k_is⟩, by k_is⟩)
    (case h_y_isOwn => exact ⟨by k_is, ⟨_, _, _, _, _, _, _, _, _, by k_is, by k_is⟩, by k_is⟩)
    (case h_y_areOwns => exact ⟨by k_is, ⟨_, _, _, _, _, _, _, _, _, by k_is, by k_is⟩, by k_is⟩)
    (case h_y_isClauseOver => exact ⟨by k_is, ⟨_, _, _, _, _, _, _, _, _, by k_is, by k_is⟩, by k_is⟩)
    (case h_y_areClauses => exact ⟨by k_is, ⟨_, _, _, _, _, _, _, _, _, by k_is, by k_is⟩, by k_is⟩)
    (case h_y_namesOf => exact ⟨by k_is, ⟨_, _, _, _, _, _, _, _, _, by k_is, by k_is⟩, by k_is⟩)
    (case h_y_fitsSaying => exact ⟨by k_is, ⟨_, _, _, _, _, _, _, _, _, by k_is, by k_is⟩, by k_is⟩)
    (case h_y_areTruths => exact ⟨by k_is, ⟨_, _, _, _, _, _, _, _, _, by k_is, by k_is⟩, by k_is⟩)
    (case h_y_fitsPlay => exact ⟨by k_is, ⟨_, _, _, _, _, _, _, _, _, by k_is, by k_is⟩, by k_is⟩)
    (case h_w_saying => exact ⟨by k_is, ⟨_, _, _, _, _, _, _, _, _, by k_is, by k_is⟩, by k_is⟩)
    (case h_w_play => exact ⟨by k_is, ⟨_, _, _, _, _, _, _, _, _, by k_is, by k_is⟩, by k_is⟩)
    (case h_w_own => exact ⟨by k_is, ⟨_, _, _, _, _, _, _, _, _, by k_is, by k_is⟩, by k_is⟩)
    (case h_o_Fa => exact ⟨by k_is, ⟨_, _, _, _, _, _, _, _, _, by k_is, by k_is⟩, by k_is⟩)
    (case h_o_Fr => exact ⟨by k_is, ⟨_, _, _, _, _, _, _, _, _, by k_is, by k_is⟩, by k_is⟩)
    (case h_o_Wa => exact ⟨by k_is, ⟨_, _, _, _, _, _, _, _, _, by k_is, by k_is⟩, by k_is⟩)
    (case h_o_Wr => exact ⟨by k_is, ⟨_, _, _, _, _, _, _, _, _, by k_is, by k_is⟩, by k_is⟩)
    (case h_o_Ap => exact ⟨by k_is, ⟨_, _, _, _, _, _, _, _, _, by k_is, by k_is⟩, by k_is⟩)
    (case h_o_Ta => exact ⟨by k_is, ⟨_, _, _, _, _, _, _, _, _, by k_is, by k_is⟩, by k_is⟩)
    (case h_o_Sb => exact ⟨by k_is, ⟨_, _, _, _, _, _, _, _, _, by k_is, by k_is⟩, by k_is⟩)
    (case h_o_Pi => exact ⟨by k_is, ⟨_, _, _, _, _, _, _, _, _, by k_is, by k_is⟩, by k_is⟩)
    (case h_o_Va => exact ⟨by k_is, ⟨_, _, _, _, _, _, _, _, _, by k_is, by k_is⟩, by k_is⟩)
    (case h_o_To => exact ⟨by k_is, ⟨_, _, _, _, _, _, _, _, _, by k_is, by k_is⟩, by k_is⟩)
    (case h_o_Fb => exact ⟨by k_is, ⟨_, _, _, _, _, _, _, _, _, by k_is, by k_is⟩, by k_is⟩)
    (case h_o_Ho => exact ⟨by k_is, ⟨_, _, _, _, _, _, _, _, _, by k_is, by k_is⟩, by k_is⟩)
    (case h_o_Ba => exact ⟨by k_is, ⟨_, _, _, _, _, _, _, _, _, by k_is, by k_is⟩, by k_is⟩)
    (case h_o_Vo => exact ⟨by k_is, ⟨_, _, _, _, _, _, _, _, _, by k_is, by k_is⟩, by k_is⟩)
    (case h_o_Aw => exact ⟨by k_is, ⟨_, _, _, _, _, _, _, _, _, by k_is, by k_is⟩, by k_is⟩)
    (case h_o_So => exact ⟨by k_is, ⟨_, _, _, _, _, _, _, _, _, by k_is, by k_is⟩, by k_is⟩)
    (case h_o_Pk => exact ⟨by k_is, ⟨_, _, _, _, _, _, _, _, _, by k_is, by k_is⟩, by k_is⟩)
    (case h_o_Sa => exact ⟨by k_is, ⟨_, _, _, _, _, _, _, _, _, by k_is, by k_is⟩, by k_is⟩)
    (case h_o_Wd => exact ⟨by k_is, ⟨_, _, _, _, _, _, _, _, _, by k_is, by k_is⟩, by k_is⟩)
    (case h_o_Cl => exact ⟨by k_is, ⟨_, _, _, _, _, _, _, _, _, by k_is, by k_is⟩, by k_is⟩)
    (case h_o_Sm => exact ⟨by k_is, ⟨_, _, _, _, _, _, _, _, _, by k_is, by k_is⟩, by k_is⟩)
    (case h_o_Sy => exact ⟨by k_is, ⟨_, _, _, _, _, _, _, _, _, by k_is, by k_is⟩, by k_is⟩)
    (case h_o_LP => exact ⟨by k_is, ⟨_, _, _, _, _, _, _, _, _, by k_is, by k_is⟩, by k_is⟩)
    (case h_o_LS => exact ⟨by k_is, ⟨_, _, _, _, _, _, _, _, _, by k_is, by k_is⟩, by k_is⟩)
    (case h_o_Sp => exact ⟨by k_is, ⟨_, _, _, _, _, _, _, _, _, by k_is, by k_is⟩, by k_is⟩)
    (case h_o_LT => exact ⟨by k_is, ⟨_, _, _, _, _, _, _, _, _, by k_is, by k_is⟩, by k_is⟩)
    (case h_o_LB => exact ⟨by k_is, ⟨_, _, _, _, _, _, _, _, _, by k_is, by k_is⟩, by k_is⟩)
    (case h_o_LD => exact ⟨by k_is, ⟨_, _, _, _, _, _, _, _, _, by k_is, by k_is⟩, by k_is⟩)
    (case h_o_LF => exact ⟨by k_is, ⟨_, _, _, _, _, _, _, _, _, by k_is, by k_is⟩, by k_is⟩)
    (case h_o_LM => exact ⟨by k_is, ⟨_, _, _, _, _, _, _, _, _, by k_is, by k_is⟩, by k_is⟩)
    (case h_o_Ri => exact ⟨by k_is, ⟨_, _, _, _, _, _, _, _, _, by k_is, by k_is⟩, by k_is⟩)
    (case hL => exact ⟨by k_is, ⟨_, _, _, _, _, _, _, _, _, by k_is, by k_is⟩, by k_is⟩)
    (case c0 => k_is)
    (case c1 => k_is)
    (case c2 => k_is)
    (case c3 => k_is)
    (case c4 => k_is)
    (case c5 => k_is)
    (case zlen => k_is)
    (case zsum => k_is)
    (case zint => k_is)
    (case zmax => k_is)
    (case zmin => k_is)
    (case zabs => k_is)
    (case zstr => k_is)
    (case zbool => k_is)
    (case zdict => k_is)
    (case zlist => k_is)
    (case zset => k_is)
    (case ztuple => k_is)
    (case zsorted => k_is)
    (case zzip => k_is)
    (case zall => k_is)
    (case zrange => k_is)
    (case zisinstance => k_is)
    (case zenumerate => k_is)
    (case zany => k_is)
    (case zrepr => k_is)
