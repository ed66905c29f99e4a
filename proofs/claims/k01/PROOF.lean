import PyProof.Rows.All
import Wide.All
import OpenK.AllK
import Wide.FinOn
import HandS.ForMost
import HandS.ExcInit
import PyProof.ReprReads
import PyProof.ReprRoads
import HandS.Conv
import KE.KExcIs
import HandS.Defaults
import HandS.Wide
import KE.SortData
import KE.KeyNested
import HandS.TupSets
import HandS.Style
import HandS.IsInst
import HandS.TupLe
import HandS.Iter
import KE.GoesMore
import KE.GoesEnum
import HandS.Zip
import HandS.Strs
import KE.DataEq
import PyProof.ListStr
import PyProof.Rows.CountFlat
import HandS.TupAny
import KE.KRevSl
import PyProof.TupleOfSeq
import PySem.Challenge.RW_onlyseen_k01_sayings_clauses_plays_and_a
set_option Elab.async false
set_option linter.all false
set_option maxRecDepth 100000
set_option maxHeartbeats 4000000
namespace PySem
namespace KwX
open Builtin Builtin.ObjectAttr PySem.HandSPX
section
variable {M : Model} {A : Around} {E : Value → Shared → Prop} {h : Heap} {g : Array GenState} {d : Drawn} {t : Nat} {os : OsState}
variable {nm q : Str} {C N : Addr} {bs bm bmB : List Value} {hdct : Bool} {sn : List Str} {sub : List Value} {ab : Bool} {col : Option Bool} {dd : Option Addr} {k0 k1 k2 k3 k5 : Option Value} {B newId initId : String}
theorem check_new_kw (F : ExcBaseFacts B newId initId bmB) (hT : ∀ X : String, bm.contains (.type X) = bmB.contains (.type X)) {kx : Str} {kv : Value} {Q : Unit → Shared → Prop}
    (hC : h.get? C = some (excClassObj nm q C N bs bm hdct sn sub ab col dd k0 k1 k2 k3 k5 newId)) (hq : Q () ⟨h, g, d, t, os⟩) : wpAny M A (checkBuiltinCall newId ⟨[.ref C], [(kx, kv)]⟩) Q E ⟨h, g, d, t, os⟩ := by
  have hcont : (Value.ref C :: bm).contains (.type B) = true := by rw [List.contains_cons, hT, F.hasB, Bool.or_true]
  have hstar := F.noStar
  simp only [checkBuiltinCall, F.newKind, F.newSplit, F.newRow]
  repeat (first | refine wpAny_loadPart_at hC ?_ | (refine wpAny_isSubtype_exc hC ?_; rw [hcont]) | refine wpAny_staticBase_exc hC ?_ | refine wpAny_madeBy_exc hC ?_ | simp only [bne_self_eq_false, Bool.false_eq_true, if_false] | wp_step)
  exact hq
end
section
variable {prog : Program} {w : World} {A : Around} {E : Value → Shared → Prop} {R : Result → Shared → Prop} {h : Heap} {g : Array GenState} {d : Drawn} {t : Nat} {os : OsState}
variable {nm q : Str} {C N : Addr} {bs bm bmB : List Value} {hdct : Bool} {sn : List Str} {sub : List Value} {ab : Bool} {col : Option Bool} {dd : Option Addr} {k0 k1 k2 k3 k5 : Option Value} {B newId initId : String}
theorem new_kw (F : ExcBaseFacts B newId initId bmB) (hT : ∀ X : String, bm.contains (.type X) = bmB.contains (.type X)) {kx : Str} {kv : Value}
    (hC : h.get? C = some (excClassObj nm q C N bs bm hdct sn sub ab col dd k0 k1 k2 k3 k5 newId))
    (hq : R (.ok (.ret (.ref (h.objs.size + 1)))) ⟨(h.push { cls := .type "tuple", data := .seq #[] }).push
      { cls := .ref C, data := .fields #[.ref h.objs.size, .none, .none, .none, .bool false, .none] }, g, d, t, os⟩) :
    codeAny (model prog w) A (.builtin newId ⟨[.ref C], [(kx, kv)]⟩) R ⟨h, g, d, t, os⟩ := by
  have hends := F.ends
  have hrest : ([] : List Value).length ≤ sizeLine := Nat.zero_le _
  have hcB : (Value.ref C :: bm).contains (.type B) = true := by rw [List.contains_cons, hT, F.hasB, Bool.or_true]
  have hcA : (Value.ref C :: bm).contains (.type "AttributeError") = false := by rw [List.contains_cons, hT, F.noAttr]; rfl
  have hcN : (Value.ref C :: bm).contains (.type "NameError") = false := by rw [List.contains_cons, hT, F.noName]; rfl
  refine codeAny_builtinAt F.entry ?_
  unfold Builtin.«BaseException.__new__»
  refine wpAt_bind ?_
  show wpAt _ _ _ (stack >>= _) _ _ _
  refine wpAt_bind (wpAt_stack fun p below => wpAt_of_wpAny ?_)
  wp_walk
  refine wpAt_of_wpAny ?_
  rw [F.owner]
  repeat (first | with_reducible refine wpAny_madeHere_exc F.canon hC ?_ | with_reducible refine wpAny_loadPart_at hC ?_ | (with_reducible refine wpAny_isSubtype_exc hC ?_; first | rw [hcB] | rw [hcA] | rw [hcN]) | wp_step)
  show R _ _
  rw [Heap.size_push]
  exact hq
theorem type_call_kw (F : ExcBaseFacts B newId initId bmB) (hT : ∀ X : String, bm.contains (.type X) = bmB.contains (.type X)) {kx : Str} {kv : Value} {fI : Addr} {Q : Fin → Shared → Prop}
    (hC : h.get? C = some (excClassObj nm q C N bs bm hdct sn sub ab col dd k0 k1 k2 k3 k5 newId))
    (hi : W.Looks (model prog w) h (typeLookup (.ref C) "__init__") (some (.ref fI))) (hb : ∀ self, W.Looks (model prog w) h (bindSpecial (.ref fI) self) (.ref fI, [self]))
    (hq : codeAny (model prog w) A (.call (.ref fI) ⟨[.ref (h.objs.size + 1)], [(kx, kv)]⟩)
      (fun r s' => match r with | .ok (.ret v) => v = .none ∧ Q (.done (.ret (.ref (h.objs.size + 1)))) s' | .ok _ => False | .error e => E e s')
      ⟨(h.push (W.kdv_tup [])).push (excO C h.objs.size), g, d, t, os⟩) :
    wpAny (model prog w) A (Builtin.«type.__call__» ⟨[.ref C], [(kx, kv)]⟩) Q E ⟨h, g, d, t, os⟩ := by
  repeat (first | with_reducible refine wpAny_loadPart_at hC ?_ | with_reducible refine wpAny_madeBy_exc hC ?_ | wp_step)
  refine codeAny_call_builtin_code (Code.quiet_builtin _ F.quiet) (check_new_kw F hT hC ?_)
  refine new_kw F hT hC ?_
  show wpAny _ _ _ _ _ _
  have k : ∀ b o, h.get? b = some o → ((h.push (W.kdv_tup [])).push (excO C h.objs.size)).get? b = some o := fun b o e => Heap.get?_push_of_some _ (Heap.get?_push_of_some _ e)
  have hC₁ := k _ _ hC
  have hget : ((h.push (W.kdv_tup [])).push (excO C h.objs.size)).get? (h.objs.size + 1) = some (excO C h.objs.size) := by heap_get
  have hcC : (Value.ref C :: bm).contains (.ref C) = true := by simp
  have i1 := hi.keeps k
  have b1 := (hb (.ref (h.objs.size + 1))).keeps k
  unfold isInstance
  repeat (first | with_reducible refine wpAny_loadPart_at hget ?_ | (with_reducible refine wpAny_isSubtype_exc hC₁ ?_; rw [hcC]) | wp_step)
  show wpAny _ _ (typeLookup (.ref C) _) _ _ _
  refine i1.at ?_
  refine wpAny_holding (wpAny_bind (b1.at ?_))
  refine wpAny_bind (wpAny_call (codeAny_mono hq fun r s' z => ?_))
  rcases r with e | (v | _ | _ | _) <;> first | exact z | exact z.elim | skip
  obtain ⟨rfl, z⟩ := z
  first
    | exact wpAny_pure (wpAny_pure z)
    | (wp_walk; exact z)
theorem call_kw (F : ExcBaseFacts B newId initId bmB) (hT : ∀ X : String, bm.contains (.type X) = bmB.contains (.type X)) {kx : Str} {kv : Value} {fI : Addr}
    (hC : h.get? C = some (excClassObj nm q C N bs bm hdct sn sub ab col dd k0 k1 k2 k3 k5 newId))
    (hi : W.Looks (model prog w) h (typeLookup (.ref C) "__init__") (some (.ref fI))) (hb : ∀ self, W.Looks (model prog w) h (bindSpecial (.ref fI) self) (.ref fI, [self]))
    (hq : codeAny (model prog w) (A.under (.builtin "type.__call__" ⟨[.ref C], [(kx, kv)]⟩)) (.call (.ref fI) ⟨[.ref (h.objs.size + 1)], [(kx, kv)]⟩) (W.InitBack (h.objs.size + 1) R)
      ⟨(h.push (W.kdv_tup [])).push (excO C h.objs.size), g, d, t, os⟩) :
    codeAny (model prog w) A (.call (.ref C) ⟨[], [(kx, kv)]⟩) R ⟨h, g, d, t, os⟩ := by
  have f1 := tc_lookup
  have f2 := tc_bind (.ref C)
  have hTy : (⟨h, g, d, t, os⟩ : Shared).TypeIs (.ref C) "type" := ⟨_, hC, rfl⟩
  refine codeAny_of_tree ?_
  show wpAny _ _ (callAny (.ref C) _) _ _ _
  repeat (any_goals (first | assumption | with_reducible refine wpAny_loadPart_at hC ?_ | wp_step))
  refine ⟨rfl, ?_⟩
  refine codeAny_call_builtin_at (Code.quiet_builtin _ (by decide +kernel)) entry_typeCall (wpAny_check_type_call_sub hC (type_call_kw F hT hC hi hb ?_))
  refine codeAny_mono hq fun r s' z => ?_
  rcases r with e | (v | _ | _ | _) <;> exact z
end
end KwX
end PySem

set_option Elab.async false
set_option linter.all false
set_option maxRecDepth 100000
set_option maxHeartbeats 4000000
namespace L2
open PySem PySem.Spec PyProof.Rows
def keyD : Key → PyData
  | .inl i => .int i
  | .inr x => .str x
mutual
inductive Dat (H : Hp) : V → PyData → Prop
  | non : Dat H .non .none
  | bl (b : Bool) : Dat H (.bl b) (.bool b)
  | int (i : Int) : Dat H (.int i) (.int i)
  | str (x : Str) : Dat H (.str x) (.str x)
  | lst {a : Addr} {xs : List V} {ds : List PyData} : H a = some (.lst xs) → DatAll H xs ds → Dat H (.ref a) (.list ds)
  | tup {a : Addr} {xs : List V} {ds : List PyData} : H a = some (.tup xs) → DatAll H xs ds → Dat H (.ref a) (.tuple ds)
  | dct {a : Addr} {kvs : List (Key × V)} {ds : List (PyData × PyData)} : H a = some (.dK kvs) → DatKv H kvs ds → Dat H (.ref a) (.dict ds)
inductive DatAll (H : Hp) : List V → List PyData → Prop
  | nil : DatAll H [] []
  | cons {v : V} {d : PyData} {vs : List V} {ds : List PyData} : Dat H v d → DatAll H vs ds → DatAll H (v :: vs) (d :: ds)
inductive DatKv (H : Hp) : List (Key × V) → List (PyData × PyData) → Prop
  | nil : DatKv H [] []
  | cons {k : Key} {v : V} {d : PyData} {kvs : List (Key × V)} {ds : List (PyData × PyData)} : Dat H v d → DatKv H kvs ds → DatKv H ((k, v) :: kvs) ((keyD k, d) :: ds)
end
mutual
theorem Dat.same {H H' : Hp} (S : Same H H') : ∀ {v : V} {d : PyData}, Dat H v d → Dat H' v d
  | _, _, .non => .non
  | _, _, .bl b => .bl b
  | _, _, .int i => .int i
  | _, _, .str x => .str x
  | _, _, .lst e h => .lst (S _ _ e) (DatAll.same S h)
  | _, _, .tup e h => .tup (S _ _ e) (DatAll.same S h)
  | _, _, .dct e h => .dct (S _ _ e) (DatKv.same S h)
theorem DatAll.same {H H' : Hp} (S : Same H H') : ∀ {vs : List V} {ds : List PyData}, DatAll H vs ds → DatAll H' vs ds
  | _, _, .nil => .nil
  | _, _, .cons h t => .cons (Dat.same S h) (DatAll.same S t)
theorem DatKv.same {H H' : Hp} (S : Same H H') : ∀ {kvs : List (Key × V)} {ds : List (PyData × PyData)}, DatKv H kvs ds → DatKv H' kvs ds
  | _, _, .nil => .nil
  | _, _, .cons h t => .cons (Dat.same S h) (DatKv.same S t)
end
theorem DatAll.snoc {H : Hp} : ∀ {vs : List V} {ds : List PyData} {v : V} {d : PyData}, DatAll H vs ds → Dat H v d → DatAll H (vs ++ [v]) (ds ++ [d])
  | _, _, _, _, .nil, h => .cons h .nil
  | _, _, _, _, .cons a t, h => .cons a (DatAll.snoc t h)
theorem DatAll.len {H : Hp} : ∀ {vs : List V} {ds : List PyData}, DatAll H vs ds → vs.length = ds.length
  | _, _, .nil => rfl
  | _, _, .cons _ t => by rw [List.length_cons, List.length_cons, DatAll.len t]
section
variable {P : Program} {w : World} {H : Hp} {h : Heap}
mutual
theorem reads_of_dat (ok : HOk P w H h) : ∀ {v : V} {d : PyData} {u : Value}, Dat H v d → RelV v u → ∃ as, Reads h u d as
  | _, _, _, .non, r => by cases (show _ = Value.none from r); exact ⟨_, .none⟩
  | _, _, _, .bl b, r => by cases (show _ = Value.bool b from r); exact ⟨_, .bool b⟩
  | _, _, _, .int i, r => by obtain ⟨t, rfl⟩ := r; exact ⟨_, .int i t⟩
  | _, _, _, .str x, r => by obtain ⟨t, rfl⟩ := r; exact ⟨_, .str x t⟩
  | _, _, _, .lst (a := a) e hh, r => by
    cases (show _ = Value.ref a from r)
    obtain ⟨_, its, n, rv, e1⟩ := (show ObjOk P w H h a (.lst _) from ok a _ e)
    obtain ⟨as, R⟩ := readsAll_of_dat ok hh rv
    exact ⟨_, .list e1 rfl rfl R⟩
  | _, _, _, .tup (a := a) e hh, r => by
    cases (show _ = Value.ref a from r)
    obtain ⟨_, its, rv, o, e1, e2, n, e3⟩ := (show ObjOk P w H h a (.tup _) from ok a _ e)
    obtain ⟨as, R⟩ := readsAll_of_dat ok hh rv
    exact ⟨_, .tuple e1 e2 e3 R⟩
  | _, _, _, .dct (a := a) e hh, r => by
    cases (show _ = Value.ref a from r)
    obtain ⟨_, _, vs, rv, o, es, ep, e1, e2, e3, e4, e5, e6⟩ := (show ObjOk P w H h a (.dK _) from ok a _ e)
    obtain ⟨⟨as, A⟩, ⟨bs, B⟩⟩ := readsKv_of_dat ok hh rv e5
    exact ⟨_, .dict e1 e2.1 e3 A B⟩
theorem readsAll_of_dat (ok : HOk P w H h) : ∀ {vs : List V} {ds : List PyData} {us : List Value}, DatAll H vs ds → Vals vs us → ∃ as, ReadsAll h us ds as
  | _, _, _, .nil, .nil => ⟨_, .nil⟩
  | _, _, _, .cons a t, .cons r q => by
    obtain ⟨as, A⟩ := reads_of_dat ok a r
    obtain ⟨bs, B⟩ := readsAll_of_dat ok t q
    exact ⟨_, .cons A B⟩
theorem readsKv_of_dat (ok : HOk P w H h) : ∀ {kvs : List (Key × V)} {ds : List (PyData × PyData)} {vs : List (Key × Value)} {es : List DictEntry}, DatKv H kvs ds → KV kvs vs → Pairs (mixKind P w) es vs →
    (∃ as, ReadsAll h (es.map (·.key)) (ds.map (·.1)) as) ∧ ∃ bs, ReadsAll h (es.map (·.val)) (ds.map (·.2)) bs
  | _, _, _, _, .nil, .nil, .nil => ⟨⟨_, .nil⟩, ⟨_, .nil⟩⟩
  | _, _, _, _, .cons (k := k) hd hq, .cons r q, .cons k1 e1 p => by
    obtain ⟨rk, rv⟩ := r
    obtain ⟨⟨as, A⟩, ⟨bs, B⟩⟩ := readsKv_of_dat ok hq q p
    obtain ⟨cs, C⟩ := reads_of_dat ok hd rv
    refine ⟨?_, ⟨_, .cons (by show Reads h (DictEntry.val _) _ _; rw [e1]; exact C) B⟩⟩
    dsimp only at rk
    subst rk
    rcases keyIs_shape k1 with ⟨i, t, ek, e⟩ | ⟨x, t, ek, e⟩
    · rw [ek]; exact ⟨_, .cons (by show Reads h (DictEntry.key _) (PyData.int i) _; rw [e]; exact .int i t) A⟩
    · rw [ek]; exact ⟨_, .cons (by show Reads h (DictEntry.key _) (PyData.str x) _; rw [e]; exact .str x t) A⟩
end
theorem reprKeys_of {as : List Addr} {d : Nat} : ∀ {kvs : List (Key × V)} {ds : List (PyData × PyData)} {vs : List (Key × Value)} {es : List DictEntry}, DatKv H kvs ds → KV kvs vs → Pairs (mixKind P w) es vs → PyData.showableAll (ds.map (·.1)) = true →
    (∀ t ∈ PyData.shownAll (ds.map (·.1)), t.length ≤ sizeLine) → ReprAllK P w as h d (es.map (·.key)) (PyData.shownAll (ds.map (·.1)))
  | _, _, _, _, .nil, .nil, .nil, _, _ => by simp only [List.map_nil, PyData.shownAll]; exact .nil
  | _, _, _, _, .cons (k := k) hd hq, .cons r q, .cons k1 e1 p, hs, hz => by
    obtain ⟨rk, rv⟩ := r
    dsimp only at rk
    subst rk
    simp only [List.map_cons, PyData.showableAll, Bool.and_eq_true] at hs
    simp only [List.map_cons, PyData.shownAll] at hz ⊢
    refine .cons ?_ (reprKeys_of hq q p hs.2 fun t ht => hz t (List.mem_cons_of_mem _ ht))
    rcases keyIs_shape k1 with ⟨i, t, ek, e⟩ | ⟨x, t, ek, e⟩
    · rw [ek] at hs ⊢
      rw [e]
      simp only [keyD, PyData.shown]
      exact .of_is (ReprIs.int t (by simpa [keyD, PyData.showable] using hs.1)) _ _ _
    · rw [ek] at hz ⊢
      rw [e]
      simp only [keyD, PyData.shown]
      exact .of_is (ReprIs.str x t (by have := hz _ (List.mem_cons_self ..); simpa only [keyD, PyData.shown] using this)) _ _ _
mutual
theorem reprK_of_dat (ok : HOk P w H h) : ∀ {v : V} {d : PyData} {u : Value}, Dat H v d → RelV v u → d.showable = true → d.shown.length ≤ sizeLine → ∃ bs, ReadAtMost h d.depth bs ∧ ReprK P w bs h d.depth u d.shown
  | _, _, _, .non, r, _, _ => by cases (show _ = Value.none from r); exact ⟨[], (fun _ h => nomatch h), by simp only [PyData.shown]; exact .of_is ReprIs.none _ _ _⟩
  | _, _, _, .bl b, r, _, _ => by cases (show _ = Value.bool b from r); exact ⟨[], (fun _ h => nomatch h), by simp only [PyData.shown]; exact .of_is (ReprIs.bool b) _ _ _⟩
  | _, _, _, .int i, r, hs, _ => by obtain ⟨t, rfl⟩ := r; exact ⟨[], (fun _ h => nomatch h), by simp only [PyData.shown]; exact .of_is (ReprIs.int t (by simpa [PyData.showable] using hs)) _ _ _⟩
  | _, _, _, .str x, r, _, hz => by obtain ⟨t, rfl⟩ := r; exact ⟨[], (fun _ h => nomatch h), by simp only [PyData.shown]; exact .of_is (ReprIs.str x t (by simpa only [PyData.shown] using hz)) _ _ _⟩
  | _, _, _, .lst (a := a) (xs := xs) (ds := ds) e hh, r, hs, hz => by
    obtain ⟨as, R0⟩ := reads_of_dat ok (Dat.lst e hh) r
    cases (show _ = Value.ref a from r)
    obtain ⟨_, its, n, rv, e1⟩ := (show ObjOk P w H h a (.lst _) from ok a _ e)
    have hz' : (listText (PyData.shownAll ds)).length ≤ sizeLine := by simpa only [PyData.shown] using hz
    obtain ⟨bs, hb, hk⟩ := reprAllK_of_dat ok hh rv (by simpa [PyData.showable] using hs) (fun t ht => Nat.le_trans (listText_mem_le ht) hz')
    have hna : a ∉ bs := not_mem_of_deeper R0 (by simp only [PyData.depth]; omega) hb
    refine ⟨a :: bs, ReadAtMost.cons R0 (by simp only [PyData.depth]; omega) hb, ?_⟩
    simp only [PyData.depth, PyData.shown]
    cases its with
    | nil =>
      cases rv
      cases hh
      simp only [PyData.shownAll, listText_nil]
      exact ReprK.listEmpty e1 rfl rfl
    | cons x l => exact ReprK.list e1 rfl rfl hna (by simpa using hk.length_eq) (fun i y e => hk.item i y (by simpa using e))
  | _, _, _, .tup (a := a) (xs := xs) (ds := ds) e hh, r, hs, hz => by
    obtain ⟨as, R0⟩ := reads_of_dat ok (Dat.tup e hh) r
    cases (show _ = Value.ref a from r)
    obtain ⟨_, its, rv, o, e1, e2, n, e3⟩ := (show ObjOk P w H h a (.tup _) from ok a _ e)
    have hz' : (tupleText (PyData.shownAll ds)).length ≤ sizeLine := by simpa only [PyData.shown] using hz
    obtain ⟨bs, hb, hk⟩ := reprAllK_of_dat ok hh rv (by simpa [PyData.showable] using hs) (fun t ht => Nat.le_trans (tupleText_mem_le ht) hz')
    have hna : a ∉ bs := not_mem_of_deeper R0 (by simp only [PyData.depth]; omega) hb
    refine ⟨a :: bs, ReadAtMost.cons R0 (by simp only [PyData.depth]; omega) hb, ?_⟩
    simp only [PyData.depth, PyData.shown]
    exact ReprK.tuple e1 e2 e3 hna (by simpa using hk)
  | _, _, _, .dct (a := a) (kvs := kvs) (ds := ds) e hh, r, hs, hz => by
    obtain ⟨as, R0⟩ := reads_of_dat ok (Dat.dct e hh) r
    cases (show _ = Value.ref a from r)
    obtain ⟨_, hsys, vs, rv, o, es, ep, e1, e2, e3, e4, e5, e6⟩ := (show ObjOk P w H h a (.dK _) from ok a _ e)
    have hz' : (dictText (PyData.shownKv ds)).length ≤ sizeLine := by simpa only [PyData.shown] using hz
    obtain ⟨hs1, hs2⟩ := PyData.showableKv_split ds (by simpa [PyData.showable] using hs)
    have k1 : ReprAllK P w [] h (PyData.depthKv ds) (es.toList.map (·.key)) (PyData.shownAll (ds.map (·.1))) := reprKeys_of hh rv e5 hs1 (fun t ht => let ⟨p, hp, hl⟩ := PyData.shownKv_key_le ds t ht; Nat.le_trans hl (Nat.le_trans (dictText_mem_le hp) hz'))
    obtain ⟨b2, hb2, k2⟩ := reprVals_of_dat ok hh rv e5 hs2 (fun t ht => let ⟨p, hp, hl⟩ := PyData.shownKv_val_le ds t ht; Nat.le_trans hl (Nat.le_trans (dictText_mem_le hp) hz'))
    have hb : ReadAtMost h (PyData.depthKv ds) b2 := hb2.mono (PyData.depthAll_vals_le ds)
    have hna : a ∉ b2 := not_mem_of_deeper R0 (by simp only [PyData.depth]; omega) hb
    refine ⟨a :: b2, ReadAtMost.cons R0 (by simp only [PyData.depth]; omega) hb, ?_⟩
    simp only [PyData.depth, PyData.shown, PyData.shownKv_eq]
    exact ReprK.dict e1 e2.1 e3 hsys hna (ReprEntriesK.of_two es.toList _ _
      (k1.more_le (fun b hb => absurd hb (by simp)) (Nat.le_refl _)) (k2.more_le (fun b hb => hb) (PyData.depthAll_vals_le ds)))
theorem reprAllK_of_dat (ok : HOk P w H h) : ∀ {vs : List V} {ds : List PyData} {us : List Value}, DatAll H vs ds → Vals vs us → PyData.showableAll ds = true → (∀ t ∈ PyData.shownAll ds, t.length ≤ sizeLine) →
    ∃ bs, ReadAtMost h (PyData.depthAll ds) bs ∧ ReprAllK P w bs h (PyData.depthAll ds) us (PyData.shownAll ds)
  | _, _, _, .nil, .nil, _, _ => ⟨[], (fun _ h => nomatch h), by simp only [PyData.shownAll]; exact .nil⟩
  | _, _, _, .cons (d := d) (ds := ds) a t, .cons r q, hs, hz => by
    have hs' : d.showable = true ∧ PyData.showableAll ds = true := by simpa [PyData.showableAll] using hs
    obtain ⟨b1, hb1, k1⟩ := reprK_of_dat ok a r hs'.1 (hz _ (by simp only [PyData.shownAll]; exact List.mem_cons_self ..))
    obtain ⟨b2, hb2, k2⟩ := reprAllK_of_dat ok t q hs'.2 (fun t ht => hz t (by simp only [PyData.shownAll]; exact List.mem_cons_of_mem _ ht))
    refine ⟨b1 ++ b2, ?_, ?_⟩
    · simp only [PyData.depthAll]
      exact (hb1.mono (Nat.le_max_left _ _)).append (hb2.mono (Nat.le_max_right _ _))
    · simp only [PyData.depthAll, PyData.shownAll]
      exact .cons ((k1.more fun b hb => List.mem_append_left _ hb).level_le (Nat.le_max_left _ _)) (k2.more_le (fun b hb => List.mem_append_right _ hb) (Nat.le_max_right _ _))
theorem reprVals_of_dat (ok : HOk P w H h) : ∀ {kvs : List (Key × V)} {ds : List (PyData × PyData)} {vs : List (Key × Value)} {es : List DictEntry}, DatKv H kvs ds → KV kvs vs → Pairs (mixKind P w) es vs → PyData.showableAll (ds.map (·.2)) = true → (∀ t ∈ PyData.shownAll (ds.map (·.2)), t.length ≤ sizeLine) →
    ∃ bs, ReadAtMost h (PyData.depthAll (ds.map (·.2))) bs ∧ ReprAllK P w bs h (PyData.depthAll (ds.map (·.2))) (es.map (·.val)) (PyData.shownAll (ds.map (·.2)))
  | _, _, _, _, .nil, .nil, .nil, _, _ => ⟨[], (fun _ h => nomatch h), by simp only [List.map_nil, PyData.shownAll]; exact .nil⟩
  | _, _, _, _, .cons (d := d) (ds := ds) a t, .cons r q, .cons k1 e1 p, hs, hz => by
    obtain ⟨rk, rv⟩ := r
    have hs' : d.showable = true ∧ PyData.showableAll (ds.map (·.2)) = true := by simpa [PyData.showableAll] using hs
    obtain ⟨b1, hb1, k1⟩ := reprK_of_dat ok a rv hs'.1 (hz _ (by simp only [List.map_cons, PyData.shownAll]; exact List.mem_cons_self ..))
    obtain ⟨b2, hb2, k2⟩ := reprVals_of_dat ok t q p hs'.2 (fun t ht => hz t (by simp only [List.map_cons, PyData.shownAll]; exact List.mem_cons_of_mem _ ht))
    refine ⟨b1 ++ b2, ?_, ?_⟩
    · simp only [List.map_cons, PyData.depthAll]
      exact (hb1.mono (Nat.le_max_left _ _)).append (hb2.mono (Nat.le_max_right _ _))
    · simp only [List.map_cons, PyData.depthAll, PyData.shownAll]
      rw [e1]
      exact .cons ((k1.more fun b hb => List.mem_append_left _ hb).level_le (Nat.le_max_left _ _)) (k2.more_le (fun b hb => List.mem_append_right _ hb) (Nat.le_max_right _ _))
end
end
section
variable {X : Cx}
def rRepr : List V → Hp → VK → Prop := fun xs H Q => ∃ v d, xs = [v] ∧ Dat H v d ∧ d.showable = true ∧ d.depth ≤ 50 ∧ d.shown.length ≤ sizeLine ∧ Q (.str d.shown) H
theorem call_reprD (hg : X.A.guards = some []) (hu : X.A.units + 64 < cLine) : CallR X (.builtin "repr") rRepr := by
  intro pins s σ H xs us Q I r h
  obtain ⟨v, d, rfl, D, hs, hd, hz, q⟩ := h
  obtain ⟨u, rfl, ru⟩ := vals1 r
  have fin : ∀ (h' : Heap) (tk tk' : Tok), (∀ b o, s.heap.get? b = some o → h'.get? b = some o) → EP X pins σ Q (.str d.shown tk') { s with heap := h', toks := tk } := fun h' tk tk' k => ⟨.str d.shown, H, I.kept (t' := tk) k, ⟨_, rfl⟩, q⟩
  have nl : ∀ {b : Addr}, Clear ([] : List Code) b := fun {b} => Clear.nil b
  cases D with
  | non =>
    cases (show _ = Value.none from ru)
    simp only [PyData.shown] at fin
    exact PySem.P.repr_of_none (fin s.heap _ _ fun _ _ e => e)
  | bl b =>
    cases (show _ = Value.bool b from ru)
    simp only [PyData.shown] at fin
    exact PySem.P.repr_of_bool (fin s.heap _ _ fun _ _ e => e)
  | int i =>
    obtain ⟨t, rfl⟩ := ru
    simp only [PyData.shown] at fin
    exact PySem.P.repr_of_int (by simpa [PyData.showable] using hs) (fin s.heap _ _ fun _ _ e => e)
  | str x =>
    obtain ⟨t, rfl⟩ := ru
    simp only [PyData.shown] at fin
    exact PySem.P.repr_of_str (fin s.heap _ _ fun _ _ e => e) (by simpa only [PyData.shown] using hz)
  | @lst a xs ds e hh =>
    obtain ⟨as, R0⟩ := reads_of_dat I.hok (Dat.lst e hh) ru
    cases (show _ = Value.ref a from ru)
    obtain ⟨_, its, n, rv, e1⟩ := (show ObjOk X.prog X.w H s.heap a (.lst _) from I.hok a _ e)
    have hz' : (listText (PyData.shownAll ds)).length ≤ sizeLine := by simpa only [PyData.shown] using hz
    obtain ⟨bs, hb, hk⟩ := reprAllK_of_dat I.hok hh rv (by simpa [PyData.showable] using hs) (fun t ht => Nat.le_trans (listText_mem_le ht) hz')
    have hna : a ∉ bs := not_mem_of_deeper R0 (by simp only [PyData.depth]; omega) hb
    simp only [PyData.shown] at fin
    simp only [PyData.depth] at hd
    refine call_repr_slot (by omega) ⟨_, e1, rfl⟩ F.slot_list_repr.toG ?_
    cases its with
    | nil =>
      cases rv
      cases hh
      simp only [PyData.shownAll, listText_nil] at fin
      exact call_list_repr_empty ⟨_, e1, rfl⟩ e1 rfl ⟨_, _, rfl, fin s.heap _ _ fun _ _ e => e⟩
    | cons x l =>
      exact call_list_reprK (h₀ := s.heap) e1 rfl rfl hna (by simpa using hk.length_eq) (fun i y e => hk.item i y (by simpa using e)) hg (fun b _ => Clear.nil b) (by show X.A.units + 1 + _ < cLine; omega) (fun _ _ e => e) (fun h' u tk k => ⟨_, _, rfl, fin h' tk u k⟩) hz'
  | @tup a xs ds e hh =>
    obtain ⟨as, R0⟩ := reads_of_dat I.hok (Dat.tup e hh) ru
    cases (show _ = Value.ref a from ru)
    obtain ⟨_, its, rv, o, e1, e2, n, e3⟩ := (show ObjOk X.prog X.w H s.heap a (.tup _) from I.hok a _ e)
    have hz' : (tupleText (PyData.shownAll ds)).length ≤ sizeLine := by simpa only [PyData.shown] using hz
    obtain ⟨bs, hb, hk⟩ := reprAllK_of_dat I.hok hh rv (by simpa [PyData.showable] using hs) (fun t ht => Nat.le_trans (tupleText_mem_le ht) hz')
    have hna : a ∉ bs := not_mem_of_deeper R0 (by simp only [PyData.depth]; omega) hb
    simp only [PyData.shown] at fin
    simp only [PyData.depth] at hd
    refine call_repr_slot (by omega) ⟨_, e1, e2⟩ F.slot_tuple_repr ?_
    exact call_tuple_reprK (h₀ := s.heap) e1 e2 e3 hna (by simpa using hk) hg (fun b _ => Clear.nil b) (by show X.A.units + 1 + _ < cLine; omega) (fun _ _ e => e) (fun h' u tk k => ⟨_, _, rfl, fin h' tk u k⟩) hz'
  | @dct a kvs ds e hh =>
    obtain ⟨as, R0⟩ := reads_of_dat I.hok (Dat.dct e hh) ru
    cases (show _ = Value.ref a from ru)
    obtain ⟨_, hsys, vs, rv, o, es, ep, e1, e2, e3, e4, e5, e6⟩ := (show ObjOk X.prog X.w H s.heap a (.dK _) from I.hok a _ e)
    have hz' : (dictText (PyData.shownKv ds)).length ≤ sizeLine := by simpa only [PyData.shown] using hz
    obtain ⟨hs1, hs2⟩ := PyData.showableKv_split ds (by simpa [PyData.showable] using hs)
    have k1 : ReprAllK X.prog X.w [] s.heap (PyData.depthKv ds) (es.toList.map (·.key)) (PyData.shownAll (ds.map (·.1))) := reprKeys_of hh rv e5 hs1 (fun t ht => let ⟨p, hp, hl⟩ := PyData.shownKv_key_le ds t ht; Nat.le_trans hl (Nat.le_trans (dictText_mem_le hp) hz'))
    obtain ⟨b2, hb2, k2⟩ := reprVals_of_dat I.hok hh rv e5 hs2 (fun t ht => let ⟨p, hp, hl⟩ := PyData.shownKv_val_le ds t ht; Nat.le_trans hl (Nat.le_trans (dictText_mem_le hp) hz'))
    have hb : ReadAtMost s.heap (PyData.depthKv ds) b2 := hb2.mono (PyData.depthAll_vals_le ds)
    have hna : a ∉ b2 := not_mem_of_deeper R0 (by simp only [PyData.depth]; omega) hb
    simp only [PyData.shown, PyData.shownKv_eq] at fin
    simp only [PyData.depth] at hd
    refine call_repr_slot (by omega) ⟨_, e1, e2.1⟩ F.slot_dict_repr ?_
    exact call_dict_reprK (h₀ := s.heap) e1 e2.1 e3 hsys hna (ReprEntriesK.of_two es.toList _ _ (k1.more_le (fun b hb => absurd hb (by simp)) (Nat.le_refl _)) (k2.more_le (fun b hb => hb) (PyData.depthAll_vals_le ds)))
      hg (fun b _ => Clear.nil b) (by show X.A.units + 1 + _ < cLine; omega) (fun _ _ e => e) (fun h' u tk k => ⟨_, _, rfl, fin h' tk u k⟩) (by rw [← PyData.shownKv_eq]; exact hz')
end
end L2

set_option Elab.async false
set_option linter.all false
set_option maxRecDepth 100000
set_option maxHeartbeats 4000000
namespace L2
open PySem PySem.Spec PyProof.Rows
/-- what isinstance and the field's reading ask of an error class -/
def errB (K : PySem.W.Frag) (fI C : Addr) : Bool :=
  decide (PySem.W.findIn K (.ref C) "__setattr__" = some (some (.builtin "object.__setattr__"))) && (decide (PySem.W.findIn K (.ref C) "__getattribute__" = some (some (.builtin "BaseException.__getattribute__"))) &&
  (decide (PySem.W.findIn K (.ref C) "__getattr__" = some none) && (decide (PySem.W.findIn K (.ref C) "value" = some none) && (decide (PySem.W.findIn K (.ref C) "__init__" = some (some (.ref fI))) &&
  (decide (PySem.W.subIn K (.ref C) (.type "BaseException") = some true) && (decide (PySem.W.typeIn K (.ref C) = some (.type "type")) && (PySem.W.keepIn K (.ref C) && (PySem.W.hasDictIn K C &&
  (decide (PySem.W.findIn K (.ref C) "__class__" = some (some (.builtin "object.__class__"))) && decide (PySem.W.mroIn K C (.type "object") = some true))))))))))
structure ErrC (K : PySem.W.Frag) (fI C : Addr) : Prop where
  o : OexC K C
  ga : PySem.W.findIn K (.ref C) "__getattribute__" = some (some (.builtin "BaseException.__getattribute__"))
  gg : PySem.W.findIn K (.ref C) "__getattr__" = some none
  no : PySem.W.findIn K (.ref C) "value" = some none
  iC : PySem.W.findIn K (.ref C) "__init__" = some (some (.ref fI))
  hd : PySem.W.hasDictIn K C = true
  cl : PySem.W.findIn K (.ref C) "__class__" = some (some (.builtin "object.__class__"))
  mo : PySem.W.mroIn K C (.type "object") = some true
theorem errB_ok {K : PySem.W.Frag} {fI C : Addr} (h : errB K fI C = true) (cls : ∃ nm q N bs bm sn sub ab col dd k0 k1 k2 k3 k5, K.lookup C = some (excClassObj nm q C N bs bm true sn sub ab col dd k0 k1 k2 k3 k5 "ValueError.__new__") ∧ PySem.HandSPX.refsVE bm = true) : ErrC K fI C := by
  obtain ⟨h1, h⟩ := Bool.and_eq_true_iff.mp h
  obtain ⟨h2, h⟩ := Bool.and_eq_true_iff.mp h
  obtain ⟨h3, h⟩ := Bool.and_eq_true_iff.mp h
  obtain ⟨h4, h⟩ := Bool.and_eq_true_iff.mp h
  obtain ⟨h5, h⟩ := Bool.and_eq_true_iff.mp h
  obtain ⟨h6, h⟩ := Bool.and_eq_true_iff.mp h
  obtain ⟨h7, h⟩ := Bool.and_eq_true_iff.mp h
  obtain ⟨h8, h⟩ := Bool.and_eq_true_iff.mp h
  obtain ⟨h9, h⟩ := Bool.and_eq_true_iff.mp h
  obtain ⟨h10, h11⟩ := Bool.and_eq_true_iff.mp h
  exact ⟨⟨cls, of_decide_eq_true h1, of_decide_eq_true h6, of_decide_eq_true h7, h8⟩, of_decide_eq_true h2, of_decide_eq_true h3, of_decide_eq_true h4, of_decide_eq_true h5, h9, of_decide_eq_true h10, of_decide_eq_true h11⟩
/-- an error of the class at C that keeps v stands at e, its own dict at d -/
def Err (H : Hp) (e d C : Addr) (v : V) : Prop := H e = some (exo e C (some d)) ∧ H d = some (exd d [(("value" : Str), v)])
theorem Err.same {H H' : Hp} {e d C : Addr} {v : V} (h : Err H e d C v) (S : Same H H') : Err H' e d C v := ⟨S _ _ h.1, S _ _ h.2⟩
/-- the promise of SightError.__init__ -/
def spInit (K : PySem.W.Frag) : Sp := fun vs H Q _ => ∃ (a C : Addr) (v : V), vs = [.ref a, v] ∧ OexC K C ∧ PySem.W.findIn K (.ref C) "value" = some none ∧ H a = some (exo a C none) ∧
  ∀ d, H d = none → d ≠ a → Q .non (upd (upd H d (exd d [(("value" : Str), v)])) a (exo a C (some d)))
/-- C(e), C(value=e): a new error -/
def tMkE (C : Addr) (te : TE) : TE := fun σ H Q => te σ H fun v H1 => ∀ (a d : Addr) (H2 : Hp), H1 a = none → H1 d = none → d ≠ a → Err H2 a d C v → Same H1 H2 → Q (.ref a) H2
theorem err_made {H1 : Hp} {a d C : Addr} {v : V} (na : H1 a = none) (hd : upd H1 a (exo a C none) d = none) (ne : d ≠ a) : H1 d = none ∧ Err (upd (upd (upd H1 a (exo a C none)) d (exd d [(("value" : Str), v)])) a (exo a C (some d))) a d C v ∧ Same H1 (upd (upd (upd H1 a (exo a C none)) d (exd d [(("value" : Str), v)])) a (exo a C (some d))) := by
  rw [upd_ne ne] at hd
  refine ⟨hd, ⟨upd_same, by rw [upd_ne ne, upd_same]⟩, fun b o e => ?_⟩
  rw [upd_ne (ne_of_none e na), upd_ne (ne_of_none e hd), upd_ne (ne_of_none e na)]
  exact e
section
variable {X : Cx} {fI C : Addr} {k : Nat} {fd : FuncData} {x : Str} {e : Expr} {te : TE} {p pos kp : Pos}
theorem run_err {pins : List (Addr × Obj)} {σ : St} {H1 : Hp} {Q : VK} {hp : Heap} {g : Array GenState} {d : Drawn} {t : Nat} {os : OsState} {v : V} {u : Value} {args : Args} {us : List Value} {kw : List (Str × Value)} (T : ErrC X.K fI C)
    (F1 : FnOk X.prog X.w X.K X.mg X.base CX0 k fI fd ["self", "value"] (spInit X.K)) (hr : Room (k + 1) X.A) (I1 : Inv X pins σ H1 ⟨hp, g, d, t, os⟩) (rv : RelV v u) {tp : Obj}
    (hb : ∀ s : Shared, BindsTo s fd ⟨.ref (hp.objs.size + 1) :: us, kw⟩ ((["self", "value"] : List Str).zip [Value.ref (hp.objs.size + 1), u]))
    (q : ∀ (a d : Addr) (H2 : Hp), H1 a = none → H1 d = none → d ≠ a → Err H2 a d C v → Same H1 H2 → Q (.ref a) H2) :
    codeAny (model X.prog X.w) (X.A.under (.builtin "type.__call__" ⟨.ref C :: us, kw⟩)) (.call (.ref fI) ⟨.ref (hp.objs.size + 1) :: us, kw⟩) (PySem.W.InitBack (hp.objs.size + 1) fun r s' => ∃ u, r = .ok (.ret u) ∧ EP X pins σ Q u s')
      ⟨(hp.push tp).push (PySem.HandSPX.excO C hp.objs.size), g, d, t, os⟩ := by
  have hsz : hp.objs.size ≤ hp.objs.size + 1 := Nat.le_succ _
  have hn : H1 (hp.objs.size + 1) = none := I1.hok.fresh hsz
  have kk : ∀ b o, hp.get? b = some o → ((hp.push tp).push (PySem.HandSPX.excO C hp.objs.size)).get? b = some o := fun b o e => Heap.get?_push_of_some _ (Heap.get?_push_of_some _ e)
  have hget : ((hp.push tp).push (PySem.HandSPX.excO C hp.objs.size)).get? (hp.objs.size + 1) = some (PySem.HandSPX.excO C hp.objs.size) := by heap_get
  have I2 : Inv X pins σ (upd H1 (hp.objs.size + 1) (exo (hp.objs.size + 1) C none)) ⟨(hp.push tp).push (PySem.HandSPX.excO C hp.objs.size), g, d, t, os⟩ :=
    I1.laid (t' := t) (a := hp.objs.size + 1) (o := exo (hp.objs.size + 1) C none) (h' := (hp.push tp).push (PySem.HandSPX.excO C hp.objs.size)) kk hsz (exo_ok hget)
  have r2 : Vals [V.ref (hp.objs.size + 1), v] [Value.ref (hp.objs.size + 1), u] := .cons rfl (.cons rv .nil)
  have hq : spInit X.K [V.ref (hp.objs.size + 1), v] (upd H1 (hp.objs.size + 1) (exo (hp.objs.size + 1) C none)) (fun y H2 => y = .non ∧ Q (.ref (hp.objs.size + 1)) H2) E0 :=
    ⟨_, C, v, rfl, T.o, T.no, upd_same, fun d hd ne => ⟨rfl, let ⟨z1, z2, z3⟩ := err_made hn hd ne; q _ d _ hn z1 ne z2 z3⟩⟩
  refine codeAny_mono (F1.run _ X.stack _ _ _ [Value.ref (hp.objs.size + 1), u] _ _ E0 (hr.make C us kw) (I2.env0.make C us kw) (hb _) r2 hq) fun r s' hq' => ?_
  cases r with
  | error er => exact False.elim hq'
  | ok fl =>
    cases fl with
    | ret y =>
      obtain ⟨w, H', I3, rw', ew, q3⟩ := I2.after hq'
      subst ew
      exact ⟨rw', _, rfl, V.ref (hp.objs.size + 1), H', I3, rfl, q3⟩
    | next => exact False.elim hq'
    | brk => exact False.elim hq'
    | cont => exact False.elim hq'
theorem pe_err (T : ErrC X.K fI C) (tI : PySem.W.typeIn X.K (.ref fI) = some (.type "function")) (F1 : FnOk X.prog X.w X.K X.mg X.base CX0 k fI fd ["self", "value"] (spInit X.K)) (hr : Room (k + 1) X.A)
    (hb : ∀ (s : Shared) (a u : Value), BindsTo s fd ⟨[a, u], []⟩ ((["self", "value"] : List Str).zip [a, u])) (hg : Gl X x) (hm : X.mg x = some (.ref C)) (he : PE X e te)
    (hdb : (x == ("__debug__" : Str)) = false := by decide) (hs : starEach [e] X.env = (false, eval e X.env) :: starEach [] X.env := by rfl) : PE X (.Call (.Name x p) [e] [] pos) (tMkE C te) := by
  refine ⟨fun pins s σ H Q I h => ?_⟩
  obtain ⟨nm, q, N, bs, bm, sn, sub, ab, col, dd, k0, k1, k2, k3, k5, hC, hbm⟩ := T.o.cls
  refine wpAny_Call_Name_kw (ld_glob I hg hm ?_ hdb)
  refine PySem.W.callWith_K (h₀ := X.base) I.ok.mod.kin T.o.kC ?_ hs (by rfl)
  rw [hs]
  show wpAny _ _ (spliced ((false, eval e X.env) :: backTo pos (starEach [] X.env))) _ _ s
  refine Calls.spliced_cons (thn (he.run pins s σ H _ I h) fun u s1 ⟨v, H1, I1, r1, q1⟩ => ?_)
  refine Calls.spliced_nil ⟨I1.kIn, ?_⟩
  show wpAny _ _ (call (.ref C) [u]) _ _ _
  obtain ⟨hp, g, dr, tk, os⟩ := s1
  refine wpAny_call (codeAny_mono (PySem.HandSPX.call_own F.excBase_ValueError (fun Y => PySem.HandSPX.refsVE_contains Y bm hbm) (I1.kIn _ _ hC) (PySem.W.looks_findIn I1.kIn T.iC) (fun self => PySem.W.bind_fn I1.kIn self tI) (by show 1 ≤ sizeLine; rw [sizeLine_eq]; omega)
    (run_err (kw := []) (us := [u]) (args := ⟨[], []⟩) T F1 hr I1 r1 (fun s => hb s _ u) q1)) fun r s' hq => ?_)
  obtain ⟨y, rfl, ep⟩ := hq
  exact ep
theorem pe_errK (T : ErrC X.K fI C) (tI : PySem.W.typeIn X.K (.ref fI) = some (.type "function")) (F1 : FnOk X.prog X.w X.K X.mg X.base CX0 k fI fd ["self", "value"] (spInit X.K)) (hr : Room (k + 1) X.A)
    (hb : ∀ (s : Shared) (a u : Value), BindsTo s fd ⟨[a], [("value", u)]⟩ ((["self", "value"] : List Str).zip [a, u])) (hg : Gl X x) (hm : X.mg x = some (.ref C)) (he : PE X e te)
    (hdb : (x == ("__debug__" : Str)) = false := by decide) (hall : (backToKw pos (keywordEach [⟨some "value", e, kp⟩] X.env)).all (·.1.isSome) = true := by rfl) (hks : (backToKw pos (keywordEach [⟨some "value", e, kp⟩] X.env)).filterMap (·.1) = [("value" : Str)] := by rfl)
    (hpl : ((backTo pos (starEach [] X.env)).any (·.1) || (backToKw pos (keywordEach [⟨some "value", e, kp⟩] X.env)).any (·.1.isNone)) = false := by rfl) : PE X (.Call (.Name x p) [] [⟨some "value", e, kp⟩] pos) (tMkE C te) := by
  refine ⟨fun pins s σ H Q I h => ?_⟩
  obtain ⟨nm, q, N, bs, bm, sn, sub, ab, col, dd, k0, k1, k2, k3, k5, hC, hbm⟩ := T.o.cls
  refine wpAny_Call_Name_kw (ld_glob I hg hm ?_ hdb)
  refine PySem.W.callWith_KW0 (h₀ := X.base) I.ok.mod.kin T.o.kC hall ?_ hpl
  refine thn ((pk_cons he pk_nil).run pos pins s σ H (fun vs H1 => ∃ v, vs = [v] ∧ ∀ (a d : Addr) (H2 : Hp), H1 a = none → H1 d = none → d ≠ a → Err H2 a d C v → Same H1 H2 → Q (.ref a) H2) I ?_) fun ws s2 ⟨zs, H2, I2, rz, q2⟩ => ?_
  · refine (?_ : te σ H _)
    have h' : te σ H (fun v H1 => ∀ (a d : Addr) (H2 : Hp), H1 a = none → H1 d = none → d ≠ a → Err H2 a d C v → Same H1 H2 → Q (.ref a) H2) := h
    have e : (fun (v : V) (H1 : Hp) => ∀ (a d : Addr) (H2 : Hp), H1 a = none → H1 d = none → d ≠ a → Err H2 a d C v → Same H1 H2 → Q (.ref a) H2) = (fun x H1 => tNil σ H1 fun xs H2 => ∃ v, x :: xs = [v] ∧ ∀ (a d : Addr) (H3 : Hp), H2 a = none → H2 d = none → d ≠ a → Err H3 a d C v → Same H2 H3 → Q (.ref a) H3) := by
      funext v H1
      refine propext ⟨fun z => ⟨v, rfl, z⟩, fun ⟨w, e, z⟩ => ?_⟩
      cases e
      exact z
    rw [e] at h'
    exact h'
  · obtain ⟨v, rfl, q1⟩ := q2
    obtain ⟨u, rfl, r1⟩ := vals1 rz
    refine ⟨I2.kIn, ?_⟩
    rw [hks]
    show wpAny _ _ (call (.ref C) [] [(("value" : Str), u)]) _ _ _
    obtain ⟨hp, g, dr, tk, os⟩ := s2
    refine wpAny_call (codeAny_mono (PySem.KwX.call_kw F.excBase_ValueError (fun Y => PySem.HandSPX.refsVE_contains Y bm hbm) (I2.kIn _ _ hC) (PySem.W.looks_findIn I2.kIn T.iC) (fun self => PySem.W.bind_fn I2.kIn self tI)
      (run_err (kw := [(("value" : Str), u)]) (us := []) (args := ⟨[], []⟩) T F1 hr I2 r1 (fun s => hb s _ u) q1)) fun r s' hq => ?_)
    obtain ⟨y, rfl, ep⟩ := hq
    exact ep
/-- e.value -/
def tErrV (K : PySem.W.Frag) (fI : Addr) (te : TE) : TE := fun σ H Q => te σ H fun x H1 => ∃ (a d C : Addr) (v : V), x = .ref a ∧ ErrC K fI C ∧ Err H1 a d C v ∧ Q v H1
theorem pe_errV (he : PE X e te) (hb : attributeBase e "value" X.env (eval e X.env) = eval e X.env := by rfl) : PE X (.Attribute e "value" pos) (tErrV X.K fI te) := by
  refine ⟨fun pins s σ H Q I h => ?_⟩
  refine attr_of hb (thn (he.run pins s σ H _ I h) fun u s1 hh => ?_)
  obtain ⟨x, H1, I1, rx, a, d, C, v, rfl, T, ⟨e1, e2⟩, q⟩ := hh
  obtain rfl : u = Value.ref a := rx
  obtain ⟨t1, ho⟩ := exo_at I1.hok e1
  obtain ⟨mA, hns, hr⟩ := exd_at I1.hok e2
  obtain ⟨od, hod, hl⟩ := lookIn_ns hns
  obtain ⟨w, hu, ru⟩ := RelO.some_of (v := v) (o := mA "value") (by have z := hr "value"; rw [lookup_put, if_pos rfl] at z; exact z)
  have J : PySem.W.InstAt s1.heap a { cls := .ref C, dict := some d, data := .fields #[.ref t1, .none, .none, .none, .bool false, .none] } C (some od) := ⟨ho, rfl, rfl, hod⟩
  exact HandSPX.exc_get I1.kIn J T.ga T.gg T.o.exC (PySem.W.findObj_own T.hd T.no rfl (by rw [hl, hu])) (handed_of ru) ⟨v, H1, I1.tok _, ru, q⟩
/-- isinstance(e, c) -/
def rIsErr (K : PySem.W.Frag) (fI : Addr) : List V → Hp → VK → Prop := fun xs H Q => ∃ (a d C : Addr) (v c : V) (cv : Value) (b : Bool), xs = [.ref a, c] ∧ ErrC K fI C ∧ Err H a d C v ∧ (∀ u, RelV c u → u = cv) ∧ PySem.W.kitOne K (.ref C) cv = some b ∧ Q (.bl b) H
theorem call_isErr (hn : PySem.W.specialIn X.K (.builtin "object.__class__") "__get__" = some (some (.builtin "getset_descriptor.__get__"))) (htk : PySem.W.takesIn X.K (.builtin "object.__class__") = some true) : CallR X (.builtin "isinstance") (rIsErr X.K fI) := by
  intro pins s σ H xs us Q I r h
  obtain ⟨a, d, C, v, c, cv, b, rfl, T, ⟨e1, e2⟩, hcv, e, q⟩ := h
  obtain ⟨u1, u2, rfl, r1, r2⟩ := vals2 r
  have ec := hcv _ r2
  subst ec
  cases (show u1 = Value.ref a from r1)
  obtain ⟨t1, ho⟩ := exo_at I.hok e1
  obtain ⟨mA, hns, hr⟩ := exd_at I.hok e2
  obtain ⟨od, hod, hl⟩ := lookIn_ns hns
  have J : PySem.W.InstAt s.heap a { cls := .ref C, dict := some d, data := .fields #[.ref t1, .none, .none, .none, .bool false, .none] } C (some od) := ⟨ho, rfl, rfl, hod⟩
  exact PySem.W.kia_one (PySem.W.kitx_exc (by obtain ⟨cd, hc, _⟩ := PySem.W.any_some T.hd; rw [hc]; rfl) T.ga T.gg T.o.exC T.cl hn htk T.mo) I.kIn J e (fun z => nomatch z) fun tk => ⟨.bl b, H, I.kept (t' := tk) fun _ _ z => z, rfl, q⟩
end
/-! ### defs that need to know the guards around (repr) -/
structure FnOkG (P : Program) (w : World) (K : PySem.W.Frag) (mg : Str → Option Value) (base : Heap) (k : Nat) (f : Addr) (fd : FuncData) (ps : List Str) (sp : Sp) : Prop where
  len : ∀ vs H Q E, sp vs H Q E → vs.length = ps.length
  run : ∀ (A : Around) (outer : List Env) (s : Shared) (H : Hp) (args : Args) (us : List Value) (vs : List V) (Q : VK) (E : XK), A.guards = some [] → Room k A → Env0 P w K mg base A outer s H → BindsTo s fd args (ps.zip us) → Vals vs us → sp vs H Q E →
    codeAny (model P w) A (.call (.ref f) args) (CR CX0 outer P w H s Q E) s
section
variable {P : Program} {w : World} {K : PySem.W.Frag} {mg : Str → Option Value} {base : Heap}
/-- one call of a def of the text, at one place: from its body's reading there -/
theorem run_once {x qual : Str} {st : Stmt} {f : Addr} {fd : FuncData} {N ps : List Str} (F : Fun K x qual st f fd) (S : FnScope N ps (defScope st)) {A : Around} {outer : List Env} {s : Shared} {H : Hp} {args : Args} {us : List Value} {vs : List V} {Q : VK} {E : XK}
    (hd : A.handled = none) (dp : A.depth < recursionLimit) (e0 : Env0 P w K mg base A outer s H) (hb : BindsTo s fd args (ps.zip us)) (r : Vals vs us) (hl : vs.length = ps.length)
    (body : ∀ cdv : Value, ∃ t, PSs (cxOf CX0 P w K mg base N qual (defScope st) f cdv A outer s H E).nox (defBody st) t ∧ t { nx := fun _ H' => Q .non H', rt := Q } (start N vs) H) :
    codeAny (model P w) A (.call (.ref f) args) (CR CX0 outer P w H s Q E) s := by
  obtain ⟨oc, od, kV, doc, pm, an, cdv, ct, osl, rfl, lk, hcd⟩ := F.ex
  have keep : ∀ b o, base.get? b = some o → s.heap.get? b = some o := fun b o e => (e0.bs b o e).1
  have KX : K.In s.heap := e0.mod.kin.keeps keep
  refine codeAny_call_function dp (KX _ _ lk) rfl S.co S.gen rfl (PySem.W.codeRec_of KX hcd) (hb _ _ _ _ ?_)
  refine wpAny_newFunctionEnv_cells S.kind (fun y hy => ?_) fun env he s1 z => ?_
  · rcases S.par y.1 (List.of_mem_zip hy).1 with q | q
    · exact .inl q
    · exact .inr ⟨q, PySem.W.cellsFrom_some _ _ _ (.inl q)⟩
  · subst he
    refine ⟨(e0.mod.nolimit.keeps keep).keeps z.toInCall.keep, codeAny_func ?_⟩
    obtain ⟨t, ht, hq⟩ := body cdv
    have I : Inv (cxOf CX0 P w K mg base N qual (defScope st) f cdv A outer s H E) [] (start N vs) H s1 := inv_start S hd e0 hl r z
    refine wpAny_mono (ht.nox.run [] s1 (start N vs) H _ I hq) (fun fl s' hs => ?_) fun e s' hs => hs
    cases fl with
    | ret u =>
      obtain ⟨v, _, H', J, rv, q⟩ := hs
      exact ⟨v, H', J.os, J.bare, J.base, J.hok, rv, q⟩
    | next =>
      obtain ⟨_, H', J, q⟩ := hs
      exact ⟨V.non, H', J.os, J.bare, J.base, J.hok, rfl, q⟩
    | brk => exact (hs.choose_spec.choose_spec.2 : False).elim
    | cont => exact (hs.choose_spec.choose_spec.2 : False).elim
theorem Fun.okG {x qual : Str} {st : Stmt} {f : Addr} {fd : FuncData} {N ps : List Str} {k : Nat} {sp : Sp} (F : Fun K x qual st f fd) (S : FnScope N ps (defScope st)) (len : ∀ vs H Q E, sp vs H Q E → vs.length = ps.length)
    (hbody : ∀ (cdv : Value) (A : Around) (outer : List Env) (s : Shared) (H : Hp) (vs : List V) (Q : VK) (E : XK), A.guards = some [] → Room k (A.deeper (envOfC qual (defScope st) s.heap.objs.size f cdv)) → sp vs H Q E →
      ∃ t, PSs (cxOf CX0 P w K mg base N qual (defScope st) f cdv A outer s H E).nox (defBody st) t ∧ t { nx := fun _ H' => Q .non H', rt := Q } (start N vs) H) : FnOkG P w K mg base (k + 1) f fd ps sp :=
  ⟨len, fun A outer s H args us vs Q E hg hr e0 hb r hsp => run_once F S hr.hd hr.depth e0 hb r (len _ _ _ _ hsp) fun cdv => hbody cdv A outer s H vs Q E hg (hr.deeper _) hsp⟩
end
section
variable {X : Cx} {k : Nat} {f : Addr} {fd : FuncData} {ps : List Str} {sp : Sp} {x : Str} {p pos : Pos} {e : Expr} {es : List Expr} {t : TA}
/-- f(e, ..), f a def that wants the guards known -/
theorem pe_callG (hG : X.A.guards = some []) (F : FnOkG X.prog X.w X.K X.mg X.base k f fd ps sp) (hr : Room k X.A) (hg : Gl X x) (hm : X.mg x = some (.ref f)) (hk : PySem.W.keepIn X.K (.ref f) = true) (hb : Binds X.K fd ps [])
    (ha : PA X (e :: es) t) (hdb : (x == ("__debug__" : Str)) = false := by decide) (he : starEach (e :: es) X.env = (false, eval e X.env) :: starEach es X.env := by rfl) (hpl : (backTo pos (starEach es X.env)).any (·.1) = false := by rfl) :
    PE X (.Call (.Name x p) (e :: es) [] pos) (tCall sp [] E0 t) := by
  refine ⟨fun pins s σ H Q I h => ?_⟩
  refine wpAny_Call_Name_kw (ld_glob I hg hm ?_ hdb)
  refine PySem.W.callWith_K (h₀ := X.base) I.ok.mod.kin hk (thn (ha.run pos pins s σ H _ I h) fun us s1 ⟨vs, H1, I1, r, q⟩ => ⟨I1.kIn, ?_⟩) he hpl
  have hl : (us ++ []).length = ps.length := by rw [List.append_nil, ← r.length, ← F.len _ _ _ _ q, List.append_nil]
  show wpAny _ _ (call (.ref f) us) _ _ _
  refine wpAny_call (codeAny_mono (F.run X.A X.stack s1 H1 ⟨us, []⟩ (us ++ []) (vs ++ []) Q E0 hG hr I1.env0 (hb s1 us I1.kIn hl) (r.append .nil) q) fun res s' hq => ?_)
  cases res with
  | error er => exact False.elim hq
  | ok fl =>
    cases fl with
    | ret u => exact I1.after hq
    | next => exact False.elim hq
    | brk => exact False.elim hq
    | cont => exact False.elim hq
end
/-! ### the end of a law row for such a def -/
theorem enter_law {P : Program} {w : World} {K : PySem.W.Frag} {mg mb : Str → Option Value} {k : Nat} {fa a : Addr} {fd : FuncData} {x : Str} {sp : Sp} {s1 : Shared} {us : List Value} {H : Hp}
    (F : ∀ base : Heap, K.In base → base.Ns mainGlobals mg → FnOkG P w K mg base k fa fd [x] sp) (hr : Room k callerA) (hbind : ∀ (s : Shared) (u : Value), BindsTo s fd ⟨[u], []⟩ [(x, u)])
    (KX : K.In s1.heap) (hns : s1.heap.Ns mainGlobals mg) (hb : s1.heap.Ns builtinsNs mb) (hbb : ∀ x : Str, x ≠ "__name__" → mb x = bootBuiltins x) (hlim : s1.heap.NoLimit) (hg : s1.gens = #[])
    (ha : s1.heap.get? a = some { cls := .type "list", data := .seq us.toArray }) (ok : HOk P w H s1.heap) (only : ∀ b o, H b = some o → b = a ∧ K.lookup a = none ∧ ∃ xs, o = .frz { cls := .type "list", data := .seq us.toArray } (.lst xs))
    (hsp : sp [.ref a] H (fun v _ => v = .bl true) E0) :
    codeAny (model P w) callerA (.call (.ref fa) ⟨[.ref a], []⟩) (fun r s' => r = .ok (.ret (.bool true)) ∧ OldK s1.heap s'.heap ∧ s'.os = s1.os ∧ AllBare s'.gens) s1 := by
  have free : ∀ {b : Addr} {o : Obj}, s1.heap.get? b = some o → (∀ z : Array Value, ∀ n, o.data ≠ .seq z n) → H b = none := fun {b o} e d => by
    cases q : H b with
    | none => rfl
    | some u =>
      obtain ⟨rfl, _⟩ := only b u q
      rw [ha] at e
      cases e
      exact (d _ _ rfl).elim
  have ns2 : ∀ {b : Addr} {m : Str → Option Value}, s1.heap.Ns b m → (hidT s1.heap H).Ns b m := fun {b m} n => by
    obtain ⟨o, es, ep, e, d, r⟩ := n
    exact ⟨o, es, ep, hidT_get e (free e (fun z n y => by rw [d] at y; cases y)), d, r⟩
  have kin : K.In (hidT s1.heap H) := fun b o e => hidT_get (KX b o e) (by
    cases q : H b with
    | none => rfl
    | some u =>
      obtain ⟨rfl, z, _⟩ := only b u q
      rw [z] at e
      cases e)
  have M : Mod K mg (hidT s1.heap H) := ⟨kin, ns2 hns, ⟨mb, ns2 hb, hbb⟩, by obtain ⟨mc, z1, z2⟩ := hlim; exact ⟨mc, ns2 z1, z2⟩⟩
  have e0 : Env0 P w K mg (hidT s1.heap H) callerA [] s1 H := ⟨rfl, M, fun b o e => of_hidT e, Nat.le_of_eq (hidT_size _ _), trivial, (fun b z => absurd (show b ∈ ([] : List Addr) from z) (by simp)), ok, .of_eq hg⟩
  refine codeAny_mono ((F _ kin (ns2 hns)).run callerA [] s1 H _ [.ref a] [.ref a] _ _ rfl hr e0 (hbind s1 (.ref a)) (.cons rfl .nil) hsp) fun r s' h => ?_
  cases r with
  | error e => exact False.elim h
  | ok fl =>
    cases fl with
    | next => exact False.elim h
    | brk => exact False.elim h
    | cont => exact False.elim h
    | ret u =>
      obtain ⟨v, H', os, bare, un, ok', rv, q⟩ := h
      subst q
      obtain rfl : u = Value.bool true := rv
      refine ⟨rfl, OldK.of_keep fun b o e => ?_, os, bare⟩
      cases q : H b with
      | none => exact un.keep b o e q (fun z => absurd (show b ∈ ([] : List Addr) from z) (by simp)) (by simp)
      | some y =>
        obtain ⟨rfl, _, xs, rfl⟩ := only b y q
        obtain ⟨e1, _⟩ := ok' b _ (un.frzs b _ _ q)
        rw [ha] at e
        cases e
        exact e1
theorem walk_ofG {l : PySem.W.OpenLaw} {n k : Nat} {q : Program} {loose : List Str} {XP : (Str → Option Value) → Heap → Prop} {YP : World → Heap → Prop} {d : DefRec} {K : Params → PySem.W.Frag} {sp : PySem.W.Frag → Sp} {x : Str}
    (hn : l.most = some n) (hn2 : n ≤ sizeLine) (hdf : d.params.defaults = []) (hr : Room k callerA) (hY : ∀ (w : World) (h : Heap), YP w h → (K w.params).In h)
    (F : ∀ (w : World) (mg : Str → Option Value) (fa : Addr) (h : Heap), (K w.params).In h → h.Ns mainGlobals mg → mg d.name = some (.ref fa) →
      ∃ fd : FuncData, (∀ (s : Shared) (u : Value), BindsTo s fd ⟨[u], []⟩ [(x, u)]) ∧ ∀ base : Heap, (K w.params).In base → base.Ns mainGlobals mg → FnOkG l.prog w (K w.params) mg base k fa fd [x] (sp (K w.params)))
    (hsp : ∀ (K : PySem.W.Frag) (H : Hp) (a : Addr) (ns : List Int), ns.length ≤ n → Only H → SqL K H a (ns.map V.int) → sp K [.ref a] H (fun v _ => v = .bl true) E0) :
    PySem.W.WalkO q loose XP YP l.row.toRowW d [] (fun f vs => PySem.call f vs) := by
  refine Att.attach_call hn hdf fun w s0 s1 mg mb fa o pm cd doc a us ns G Y ho hd hcd hmg hobj hints hlen hg => ?_
  have KX := hY w _ Y
  obtain ⟨fd, hb, hF⟩ := F w mg fa _ KX G.T.g hmg
  have rv := vals_ints hints
  have hz : (ns.map V.int).length ≤ sizeLine := by rw [List.length_map]; omega
  cases hk : (K w.params).lookup a with
  | some ob =>
    have e := KX a ob hk
    rw [hobj] at e
    cases e
    have S : SqL (K w.params) (fun _ => none) a (ns.map V.int) := .inr ⟨_, us.toArray, _, hk, rfl, rfl, rfl, by rw [List.size_toArray, ← rv.length]; exact hz, by simpa using rv⟩
    exact enter_law (H := fun _ => none) hF hr hb KX G.T.g G.T.b G.T.builtins G.T.nolimit hg hobj (fun b u z => by cases (show (none : Option HO) = some u from z)) (fun b u z => by cases (show (none : Option HO) = some u from z))
      (hsp _ _ a ns hlen (fun b => .inl rfl) S)
  | none =>
    refine enter_law (H := upd (fun _ => none) a (.frz { cls := .type "list", data := .seq us.toArray } (.lst (ns.map V.int)))) hF hr hb KX G.T.g G.T.b G.T.builtins G.T.nolimit hg hobj (fun b u z => ?_) (fun b u z => ?_)
      (hsp _ _ a ns hlen (fun b => ?_) (.inl (.inr ⟨_, upd_same⟩)))
    · by_cases e : b = a
      · subst e
        rw [upd_same] at z
        cases z
        exact ⟨hobj, hz, us, _, rv, hobj⟩
      · rw [upd_ne e] at z
        cases z
    · by_cases e : b = a
      · subst e
        rw [upd_same] at z
        cases z
        exact ⟨rfl, hk, _, rfl⟩
      · rw [upd_ne e] at z
        cases z
    · by_cases e : b = a
      · subst e
        exact .inr ⟨_, _, upd_same⟩
      · exact .inl (upd_ne e)
end L2

set_option Elab.async false
set_option linter.all false
set_option maxRecDepth 100000
set_option maxHeartbeats 4000000
/-! sorting tuples of any lengths, the empty one too -/
namespace L2
open PySem PySem.W PySem.SeqAt PySem.Spec PyProof.Rows
section
variable {prog : Program} {w : World} {A : Around} {E : Value → Shared → Prop} {s : Shared}
theorem tupLt_call {Q : Value → Shared → Prop} {x y : Addr} {us vs : Array Value} {eqs lts : Nat → Bool} (hx : s.heap.IsTuple x us) (hy : s.heap.IsTuple y vs)
    (h1 : ∀ j (a : j < us.size) (b : j < vs.size), EqAt A.in1 s us[j] vs[j] (eqs j))
    (h2 : ∀ j (a : j < us.size) (b : j < vs.size), eqs j = false → RcLt A.in1 s us[j] vs[j] (lts j))
    (hq : Q (.bool (firstLt eqs lts (decide (us.size < vs.size)) (List.range (min us.size vs.size)))) s) :
    wpAny (model prog w) A (call (.builtin "tuple.__lt__") [.ref x, .ref y]) Q E s := by
  obtain ⟨⟨kx, dx, tx, sx⟩, gx, rfl, nx, rfl⟩ := hx
  obtain ⟨⟨ky, dy, ty, sy⟩, gy, rfl, ny, rfl⟩ := hy
  exact call_meets F.slot_tuple_lt ⟨_, gx, rfl⟩ F.entry_tuple_lt (F.args_tuple_lt_2 _ _) (tuple_ltAt x y us vs nx ny dx dy sx sy eqs lts) ⟨gx, gy, h1, h2, hq⟩
theorem oneLt_tups {f : Bool} {xs ys : List PyData} {u v : Value} {as bs : List Addr} {Q : Bool → Shared → Prop} (ra : Reads s.heap u (.tuple xs) as) (rb : Reads s.heap v (.tuple ys) bs) (hal : alikeAll xs ys = true)
    (hu : A.units + min (PyData.tuple xs).depth (PyData.tuple ys).depth < cLine) (hq : Q (dataLt (.tuple xs) (.tuple ys)) s) : wpAny (model prog w) A (oneLt' f u v) Q E s := by
  cases f with
  | false => exact oneLt_alike (fun z => nomatch z) ra rb (by simpa [alike] using hal) (fun z => nomatch z) hu hq
  | true =>
    cases ra with
    | @tuple x ox us nx _ cs g1 g2 g3 g4 =>
      cases rb with
      | @tuple y oy vs ny _ ds k1 k2 k3 k4 =>
        have l1 : us.size = xs.length := by simpa using SeqAt.ReadsAll.length _ _ _ g4
        have l2 : vs.size = ys.length := by simpa using SeqAt.ReadsAll.length _ _ _ k4
        rw [dataLt_tuple, ← firstLt_toks xs ys hal, ← l1, ← l2] at hq
        rw [oneLt'_eq, if_pos rfl]
        have hroom := room_in hu
        refine wpAny_bind (wpAny_cRoomFor (room_here hu) ?_)
        refine wpAny_bind (wpAny_callSpecialIfBound?_slot (T := "tuple") ⟨_, g1, g2⟩ F.slot_tuple_lt ?_)
        refine tupLt_call (eqs := pairEq xs ys) (lts := fun j => dataLt (xs.getD j .none) (ys.getD j .none)) ⟨_, g1, g2, _, g3⟩ ⟨_, k1, k2, _, k3⟩ (fun j a b => ?_) (fun j a b hj => ?_) ?_
        · have z := eqAt_alikeAll xs ys A.in1 s us.toList vs.toList _ _ g4 k4 hal hroom j (by simpa using a) (by simpa using b)
          rwa [Array.getElem_toList, Array.getElem_toList] at z
        · have z := rcLt_alikeAll xs ys A.in1 s us.toList vs.toList _ _ g4 k4 hal hroom j (by simpa using a) (by simpa using b) hj
          rwa [Array.getElem_toList, Array.getElem_toList] at z
        · exact wpAny_truthy_bool hq
end
/-- the first item of a tuple of the heap -/
def headAt (h : Heap) : Value → Option Value
  | .ref a => match h.get? a with
    | some o => match o.data with
      | .seq us _ => us[0]?
      | _ => none
    | none => none
  | _ => none
def IsTup (h : Heap) (v : Value) : Prop := ∃ a us, v = .ref a ∧ h.IsTuple a us
section
variable {M : Model} {A : Around} {E : Value → Shared → Prop} {s : Shared}
theorem heads_run : ∀ (vs : List Value) {Q : List (Option Value) → Shared → Prop}, (∀ v ∈ vs, IsTup s.heap v) → Q (vs.map (headAt s.heap)) s → wpAny M A (vs.mapM firstOfTuple') Q E s
  | [], _, _, q => by rw [List.mapM_nil]; exact wpAny_pure q
  | v :: vs, Q, hv, q => by
    obtain ⟨a, us, rfl, o, g1, g2, n, g3⟩ := hv v List.mem_cons_self
    rw [List.mapM_cons, kas_first_eq]
    refine wpAny_bind (wpAny_bind (Looks.here ((Looks.ld g1).andThen .now) ?_))
    rw [g2, if_neg (by decide)]
    refine wpAny_bind (listItems_at g1 g3 (wpAny_pure ?_))
    have e : headAt s.heap (.ref a) = us[0]? := by
      show (match s.heap.get? a with | some o => _ | none => none) = _
      rw [g1]
      show (match o.data with | .seq us _ => us[0]? | _ => none) = _
      rw [g3]
    rw [← e]
    exact wpAny_bind (heads_run vs (fun u hu => hv u (List.mem_cons_of_mem _ hu)) (wpAny_pure q))
theorem kind_mixed {vs : List Value} (h2 : 2 ≤ vs.length) (hv : ∀ v ∈ vs, IsTup s.heap v) (hm : ∃ v ∈ vs, headAt s.heap v = none) :
    ∃ f : Bool, ∀ (E : Value → Shared → Prop) {Q : SortKind → Shared → Prop}, Q (if f = true then oneType' else general') s → wpAny M A (keyKind' vs.toArray) Q E s := by
  obtain ⟨v, l, rfl⟩ : ∃ v l, vs = v :: l := by
    cases vs with
    | nil => exact absurd h2 (by simp)
    | cons v l => exact ⟨v, l, rfl⟩
  refine ⟨(headAt s.heap v).isNone, fun E Q q => ?_⟩
  rw [keyKind'_eq, List.mapM_toArray, map_eq_pure_bind]
  refine wpAny_bind (wpAny_bind (heads_run _ hv (wpAny_pure ?_)))
  have no : ¬ (((v :: l).map (headAt s.heap)).toArray.all fun z => z.isSome) = true := by
    obtain ⟨u, hu, e⟩ := hm
    intro z
    simp only [List.all_toArray, List.all_map, List.all_eq_true] at z
    have := z u hu
    simp [e] at this
  rw [if_neg no]
  have e0 : ((v :: l).map (headAt s.heap)).toArray[0]? = some (headAt s.heap v) := by simp
  rw [e0]
  cases hh : headAt s.heap v with
  | some f =>
    rw [hh] at q
    exact wpAny_pure q
  | none =>
    rw [hh] at q
    show wpAny M A (oneTypeOnly' _ >>= fun z => pure (if z.isSome = true then oneType' else general')) Q E s
    rw [oneTypeOnly'_eq, List.mapM_toArray, map_eq_pure_bind]
    refine wpAny_bind (wpAny_bind (wpAny_bind (kas_mapM (r := Value.type "tuple") _ (fun u hu Q' hq => ?_) (wpAny_pure ?_))))
    · obtain ⟨a, us, rfl, o, g1, g2, _⟩ := hv u hu
      exact Looks.here (show Looks M s.heap (typeOf (.ref a)) (.type "tuple") from g2 ▸ (Looks.ld g1).andThen .now) hq
    · have e1 : (List.map (fun _ => Value.type "tuple") (v :: l)).toArray[0]? = some (Value.type "tuple") := by simp
      rw [e1]
      have e2 : ((List.map (fun _ => Value.type "tuple") (v :: l)).toArray.all fun z => z == Value.type "tuple") = true := by
        simp only [List.all_toArray, List.all_map, List.all_eq_true]
        exact fun _ _ => beq_self_eq_true _
      simp only [e2, if_true]
      exact wpAny_pure (wpAny_pure q)
end
section
variable {prog : Program} {w : World} {A : Around} {s : Shared}
theorem each_isTup {h : Heap} {vs : List Value} {ds : List PyData} (e : EachIs (fun v d => ∃ as, Reads h v d as) vs ds) (ht : ∀ d ∈ ds, ∃ xs, d = .tuple xs) : ∀ v ∈ vs, IsTup h v := fun v hv => by
  obtain ⟨d, hd, as, r⟩ := e.left v hv
  obtain ⟨xs, rfl⟩ := ht d hd
  cases r with
  | tuple g1 g2 g3 _ => exact ⟨_, _, rfl, _, g1, g2, _, g3⟩
theorem each_back {R : Value → PyData → Prop} : ∀ {vs : List Value} {ds : List PyData}, EachIs R vs ds → ∀ d ∈ ds, ∃ v ∈ vs, R v d
  | _, _, .nil, d, hd => absurd hd (by simp)
  | _, _, .cons (a := a) r t, d, hd => by
    rcases List.mem_cons.mp hd with rfl | hd
    · exact ⟨a, List.mem_cons_self, r⟩
    · obtain ⟨v, hv, q⟩ := each_back t d hd
      exact ⟨v, List.mem_cons_of_mem _ hv, q⟩
/-- tuples of any lengths can be sorted -/
theorem sortsAt_tups {vs : List Value} {ds : List PyData} (e : EachIs (fun v d => ∃ as, Reads s.heap v d as) vs ds) (hal : AllAlike ds) (ht : ∀ d ∈ ds, ∃ xs, d = .tuple xs) (hu : ∀ d, d ∈ ds → A.units + d.depth < cLine) :
    SortsAt prog w A s (dataKind s.heap ds) vs := by
  rcases Classical.em (∀ d ∈ ds, ∃ x r, d = PyData.tuple (x :: r)) with c | c
  · exact SortsAt.data e hal (.inl c) hu
  · have key : ∀ v ∈ vs, ∃ a, (dataKind s.heap ds).keyOf v = some a := fun v hv => by
      obtain ⟨d, hd, as, r⟩ := e.left v hv
      exact ⟨_, dataKind_some hal hd r⟩
    refine ⟨key, ?_⟩
    rcases Nat.lt_or_ge vs.length 2 with z | z
    · refine ⟨general', ?_, fun h2 => absurd h2 (by omega)⟩
      intro E u v a b Q ha hb hq
      obtain ⟨d, as, hd, ra, rfl⟩ := dataKind_inv ha
      obtain ⟨d', bs, hd', rb, rfl⟩ := dataKind_inv hb
      obtain ⟨xs, rfl⟩ := ht d hd
      obtain ⟨ys, rfl⟩ := ht d' hd'
      exact oneLt_tups (f := false) ra rb (by simpa [alike] using hal _ hd _ hd') (Nat.lt_of_le_of_lt (Nat.add_le_add_left (Nat.min_le_left _ _) _) (hu _ hd)) hq
    · have hm : ∃ v ∈ vs, headAt s.heap v = none := by
        obtain ⟨d, c⟩ := Classical.not_forall.mp c
        obtain ⟨hd, c⟩ := Classical.not_imp.mp c
        obtain ⟨xs, rfl⟩ := ht d hd
        cases xs with
        | cons x r => exact absurd ⟨x, r, rfl⟩ c
        | nil =>
          obtain ⟨v, hv, as, r⟩ := each_back e _ hd
          refine ⟨v, hv, ?_⟩
          cases r with
          | @tuple a o us n _ _ g1 g2 g3 g4 =>
            have l : us.size = 0 := by simpa using SeqAt.ReadsAll.length _ _ _ g4
            have e0 : us[0]? = none := by simp [l]
            show (match s.heap.get? a with | some o => _ | none => none) = _
            rw [g1]
            show (match o.data with | .seq us _ => us[0]? | _ => none) = _
            rw [g3]
            exact e0
      obtain ⟨f, hf⟩ := kind_mixed (M := model prog w) (A := A) z (each_isTup e ht) hm
      refine ⟨if f = true then oneType' else general', ?_, fun _ E Q q => hf E q⟩
      intro E u v a b Q ha hb hq
      obtain ⟨d, as, hd, ra, rfl⟩ := dataKind_inv ha
      obtain ⟨d', bs, hd', rb, rfl⟩ := dataKind_inv hb
      obtain ⟨xs, rfl⟩ := ht d hd
      obtain ⟨ys, rfl⟩ := ht d' hd'
      have g := fun f => oneLt_tups (prog := prog) (w := w) (E := E) (f := f) ra rb (by simpa [alike] using hal _ hd _ hd') (Nat.lt_of_le_of_lt (Nat.add_le_add_left (Nat.min_le_left _ _) _) (hu _ hd)) hq
      cases f with
      | true => exact g true
      | false => exact g false
end
end L2

set_option Elab.async false
set_option linter.all false
set_option maxRecDepth 100000
set_option maxHeartbeats 4000000
/-! sets of nested tuples: the small questions -/
namespace L2
open PySem PySem.SeqAt PySem.Spec PyProof.Rows
section
variable {P : Program} {w : World}
/-- no class statement of the program made anything of it -/
def NoClass (P : Program) (w : World) (n : Nat) (s : Shared) (v : Value) : Prop := ∀ (A : Around) (E : Value → Shared → Prop) (Q : Bool → Shared → Prop), Q false s → wpAny (model P w) A (ofAClassStatement n v) Q E s
theorem NoClass.leaf {n : Nat} {s : Shared} {v : Value} (h : ofAClassStatement n v = pure false) : NoClass P w n s v := fun A E Q q => by
  rw [h]
  exact wpAny_pure q
theorem NoClass.tup {n : Nat} {s : Shared} {a : Addr} {o : Obj} {us : Array Value} {m : Nat} (g1 : s.heap.get? a = some o) (g2 : o.cls = .type "tuple") (g3 : o.data = .seq us m) (hu : ∀ u ∈ us.toList, NoClass P w n s u) : NoClass P w (n + 1) s (.ref a) := fun A E Q q => by
  unfold ofAClassStatement
  refine wpAny_bind (wpAny_typeOf ⟨o, g1, g2⟩ ?_)
  dsimp only
  have e : (("tuple" : String) == "tuple") = true := by decide
  rw [if_pos e]
  refine wpAny_bind (wpAny_pure ?_)
  rw [if_neg (by decide)]
  refine wpAny_bind (wpAny_seqItems g1 g3 ?_)
  dsimp only
  refine wpAny_bind ?_
  rw [← Array.forIn_toList]
  refine wpAny_forIn_list _ (fun left acc s' => acc.1 = none ∧ s' = s ∧ ∀ u ∈ left, NoClass P w n s u) _ ?_ ?_ _ _ ⟨rfl, rfl, hu⟩
  · rintro u left acc s' ⟨ha, rfl, hl⟩
    refine wpAny_bind (hl u List.mem_cons_self _ _ _ ?_)
    rw [if_neg (by decide)]
    exact wpAny_pure ⟨rfl, rfl, fun x hx => hl x (List.mem_cons_of_mem _ hx)⟩
  · rintro ⟨acc1, acc2⟩ s' ⟨ha, rfl, _⟩
    cases (show acc1 = none from ha)
    exact wpAny_pure q
mutual
theorem noClass_key : ∀ (k : NestedKey) (v : Value) (n : Nat) (s : Shared), NestedIs s.heap k v → k.depth ≤ n → NoClass P w n s v
  | .none, _, n, s, x, _ => by cases x; exact .leaf (by cases n <;> rfl)
  | .num i, _, n, s, x, _ => by cases x <;> exact .leaf (by cases n <;> rfl)
  | .text y, _, n, s, x, _ => by cases x; exact .leaf (by cases n <;> rfl)
  | .tup ks, _, n, s, x, hn => by
    cases x with
    | tup g1 g2 g3 g4 =>
      simp only [NestedKey.depth] at hn
      cases n with
      | zero => omega
      | succ n => exact .tup g1 g2 g3 (noClass_keys ks _ n s g4 (by omega))
theorem noClass_keys : ∀ (ks : List NestedKey) (vs : List Value) (n : Nat) (s : Shared), NestedAll s.heap ks vs → NestedKey.depthAll ks ≤ n → ∀ v ∈ vs, NoClass P w n s v
  | [], _, n, s, x, _, v, hv => by cases x; cases hv
  | k :: ks, _, n, s, x, hn, v, hv => by
    cases x with
    | cons x1 x2 =>
      simp only [NestedKey.depthAll] at hn
      rcases List.mem_cons.mp hv with rfl | hv
      · exact noClass_key k _ n s x1 (by omega)
      · exact noClass_keys ks _ n s x2 (by omega) v hv
end
/-- whether its hash is by value: some answer, and nothing else -/
def SomeHash (P : Program) (w : World) (n : Nat) (s : Shared) (v : Value) : Prop := ∀ (A : Around) (E : Value → Shared → Prop) (Q : Bool → Shared → Prop), (∀ b, Q b s) → wpAny (model P w) A (hashByValue n v) Q E s
theorem SomeHash.leaf {n : Nat} {s : Shared} {v : Value} (b : Bool) (h : hashByValue n v = pure b) : SomeHash P w n s v := fun A E Q q => by
  rw [h]
  exact wpAny_pure (q b)
theorem SomeHash.tup {n : Nat} {s : Shared} {a : Addr} {o : Obj} {us : Array Value} {m : Nat} (g1 : s.heap.get? a = some o) (g2 : o.cls = .type "tuple") (g3 : o.data = .seq us m) (hu : ∀ u ∈ us.toList, SomeHash P w n s u) : SomeHash P w (n + 1) s (.ref a) := fun A E Q q => by
  unfold hashByValue
  refine wpAny_bind (wpAny_specialOf ⟨o, g1, g2⟩ F.slot_tuple_hash.lookup ?_)
  show wpAny _ _ (seqItems? (.ref a) >>= _) _ _ s
  refine wpAny_bind (wpAny_seqItems g1 g3 ?_)
  refine wpAny_bind ?_
  show wpAny _ _ (forIn us _ _) _ _ s
  rw [← Array.forIn_toList]
  refine wpAny_forIn_list _ (fun left acc s' => acc.1 = none ∧ s' = s ∧ ∀ u ∈ left, SomeHash P w n s u) _ ?_ ?_ _ _ ⟨rfl, rfl, hu⟩
  · rintro u left acc s' ⟨ha, rfl, hl⟩
    refine wpAny_bind (hl u List.mem_cons_self _ _ _ fun b => ?_)
    cases b with
    | true =>
      rw [if_neg (by decide)]
      exact wpAny_pure ⟨rfl, rfl, fun x hx => hl x (List.mem_cons_of_mem _ hx)⟩
    | false =>
      rw [if_pos (by decide)]
      exact wpAny_pure (wpAny_pure (q _))
  · rintro ⟨acc1, acc2⟩ s' ⟨ha, rfl, _⟩
    cases (show acc1 = none from ha)
    exact wpAny_pure (q _)
mutual
theorem someHash_key : ∀ (k : NestedKey) (v : Value) (n : Nat) (s : Shared), NestedIs s.heap k v → k.depth ≤ n → SomeHash P w n s v
  | .none, _, n, s, x, _ => by cases x; exact .leaf true (by cases n <;> rfl)
  | .num i, _, n, s, x, _ => by cases x <;> exact .leaf true (by cases n <;> rfl)
  | .text y, _, n, s, x, _ => by cases x; exact .leaf false (by cases n <;> rfl)
  | .tup ks, _, n, s, x, hn => by
    cases x with
    | tup g1 g2 g3 g4 =>
      simp only [NestedKey.depth] at hn
      cases n with
      | zero => omega
      | succ n => exact .tup g1 g2 g3 (someHash_keys ks _ n s g4 (by omega))
theorem someHash_keys : ∀ (ks : List NestedKey) (vs : List Value) (n : Nat) (s : Shared), NestedAll s.heap ks vs → NestedKey.depthAll ks ≤ n → ∀ v ∈ vs, SomeHash P w n s v
  | [], _, n, s, x, _, v, hv => by cases x; cases hv
  | k :: ks, _, n, s, x, hn, v, hv => by
    cases x with
    | cons x1 x2 =>
      simp only [NestedKey.depthAll] at hn
      rcases List.mem_cons.mp hv with rfl | hv
      · exact someHash_key k _ n s x1 (by omega)
      · exact someHash_keys ks _ n s x2 (by omega) v hv
end
/-- a key of the heap that sets take: a nested tuple, not too deep -/
structure TupKey (h : Heap) (k : NestedKey) (a : Addr) : Prop where
  is : NestedIs h k (.ref a)
  deep : k.depth ≤ 8
theorem TupKey.cls {h : Heap} {k : NestedKey} {a : Addr} (x : TupKey h k a) : ∃ o us n, h.get? a = some o ∧ o.cls = .type "tuple" ∧ o.data = .seq us n := by
  cases x.is with
  | tup g1 g2 g3 _ => exact ⟨_, _, _, g1, g2, g3⟩
theorem TupKey.keep {h h' : Heap} {k : NestedKey} {a : Addr} (x : TupKey h k a) (ext : ∀ b o, h.get? b = some o → h'.get? b = some o) : TupKey h' k a := ⟨x.is.at (fun b o _ _ g _ => ext b o g) _ _, x.deep⟩
/-- no set's own object is read of a key -/
theorem TupKey.but {h h' : Heap} {k : NestedKey} {a b : Addr} {o : Obj} {es : Array (Int × Value)} {ep : Nat} {t : SetTable} (x : TupKey h k a) (g : h.get? b = some o) (d : o.data = .set es ep t) (sb : Heap.SameBut b h h') : TupKey h' k a :=
  ⟨NestedIs.at (fun c p us n gc dc => by
    refine (sb.2 c fun e => ?_).trans gc
    subst e
    cases (g.symm.trans gc)
    exact nomatch d.symm.trans dc) _ _ x.is, x.deep⟩
theorem TupKey.unseen {A : Around} {E : Value → Shared → Prop} {s : Shared} {Q : Bool → Shared → Prop} {k : NestedKey} {a : Addr} (x : TupKey s.heap k a) {ys : List Value} (hy : ∀ y ∈ ys, ∃ j b, y = Value.ref b ∧ TupKey s.heap j b) (q : Q false s) :
    wpAny (model P w) A (searchCouldBeSeen (.ref a) ys) Q E s := by
  unfold searchCouldBeSeen
  refine wpAny_bind ?_
  refine wpAny_forIn_list _ (fun left acc s' => acc.1 = none ∧ s' = s ∧ ∀ y ∈ left, ∃ j b, y = Value.ref b ∧ TupKey s.heap j b) _ ?_ ?_ _ _ ⟨rfl, rfl, hy⟩
  · rintro y left acc s' ⟨ha, rfl, hl⟩
    obtain ⟨j, b, rfl, xb⟩ := hl y List.mem_cons_self
    have more : ∀ y ∈ left, ∃ j b, y = Value.ref b ∧ TupKey s'.heap j b := fun u hu => hl u (List.mem_cons_of_mem _ hu)
    dsimp only
    split
    · exact wpAny_pure ⟨rfl, rfl, more⟩
    · refine wpAny_bind (quiet_key _ _ 8 _ x.is x.deep _ _ _ ?_)
      rw [if_neg (by decide)]
      refine wpAny_bind (quiet_key _ _ 8 _ xb.is xb.deep _ _ _ ?_)
      rw [if_neg (by decide)]
      refine wpAny_bind (noClass_key _ _ 8 _ x.is x.deep _ _ _ ?_)
      rw [if_neg (by decide)]
      refine wpAny_bind (noClass_key _ _ 8 _ xb.is xb.deep _ _ _ ?_)
      rw [if_neg (by decide)]
      exact wpAny_pure ⟨rfl, rfl, more⟩
  · rintro ⟨acc1, acc2⟩ s' ⟨ha, rfl, _⟩
    cases (show acc1 = none from ha)
    exact wpAny_pure q
end
end L2

set_option Elab.async false
set_option linter.all false
set_option maxRecDepth 100000
set_option maxHeartbeats 4000000
/-! sets of nested tuples: the search -/
namespace L2
open PySem PySem.SeqAt PySem.Spec PyProof.Rows
abbrev NRow := Addr × NestedKey
def hashesN (w : World) (L : List NRow) : List Int := L.map fun r => r.2.hash w
def nrows (w : World) (L : List NRow) : List (Int × Value) := L.map fun r => (r.2.hash w, Value.ref r.1)
/-- the set at a has these keys, in the sequence of its table -/
structure NSet (w : World) (h : Heap) (a : Addr) (L : List NRow) (es : Array (Int × Value)) (ep : Nat) (t : SetTable) : Prop where
  obj : ∃ o, h.get? a = some o ∧ o.ExactSet ∧ o.data = .set es ep t
  eqs : es.toList = nrows w L
  tok : TabOk t (hashesN w L)
  dif : (L.map Prod.snd).Nodup
  key : ∀ r ∈ L, TupKey h r.2 r.1
  led : w.params.followText "set-order" = true ∨ t.led = true
  gap : L.length * 5 < t.mask * 3
  small : L.length < 64
section
variable {P : Program} {w : World} {A : Around} {E : Value → Shared → Prop} {s : Shared} {a : Addr} {L : List NRow} {es : Array (Int × Value)} {ep : Nat} {t : SetTable}
theorem nrows_len (h : es.toList = nrows w L) : es.size = L.length := by
  have z := congrArg List.length h
  unfold nrows at z
  simpa using z
theorem NSet.size (N : NSet w s.heap a L es ep t) : es.size = L.length := nrows_len N.eqs
theorem NSet.place (N : NSet w s.heap a L es ep t) : t.place.size = L.length := by
  have z := N.tok.sz
  unfold hashesN at z
  simpa using z
theorem fits_of (h1 : t.place.size = es.size) (h2 : t.dummies = #[]) (h3 : es.size ≤ t.mask) : t.fits es.size = true := by
  unfold SetTable.fits SetTable.fill
  rw [h2, h1, Bool.and_eq_true]
  exact ⟨beq_self_eq_true _, decide_eq_true (by show es.size + 0 ≤ t.mask; omega)⟩
theorem NSet.fits (N : NSet w s.heap a L es ep t) : t.fits es.size = true := fits_of (by rw [N.place, N.size]) N.tok.dm (by have := N.gap; have := N.size; omega)
theorem row_at (h : es.toList = nrows w L) {i : Nat} {r : NRow} (e : L[i]? = some r) : es[i]? = some (r.2.hash w, Value.ref r.1) := by
  rw [← Array.getElem?_toList, h]
  unfold nrows
  rw [List.getElem?_map, e]
  first | rfl | done
theorem NSet.odd (N : NSet w s.heap a L es ep t) : ¬ t.gaveWay = true := by
  unfold SetTable.gaveWay
  rw [mask_odd N.tok.mok]
  decide
/-- the c-th step of the way of a hash -/
abbrev step (m : Nat) (h : Int) (c : Nat) : SetTable.Probe := nth m (runAt m (SetTable.bits h % (m + 1)) (SetTable.bits h)) c
theorem step_add (m : Nat) (h : Int) (c q : Nat) : nth m (step m h c) q = step m h (c + q) := (nth_add m c _ q).symm
theorem step_way (m : Nat) (h : Int) (c q : Nat) : (nth m (step m h c) q).j = way m h (c + q) := congrArg SetTable.Probe.j (step_add m h c q)
theorem step_dummy (m : Nat) : ∀ (c : Nat) (p : SetTable.Probe), p.dummy = none → (nth m p c).dummy = none
  | 0, _, e => e
  | c + 1, p, e => step_dummy m c (adv m p) (by unfold adv; split <;> exact e)
/-- from the c-th step of the way on: the key is there, or the first empty slot is found -/
theorem nsearch_from (N : NSet w s.heap a L es ep t) {x : Addr} {k : NestedKey} (kx : TupKey s.heap k x) (hu : A.units + 8 < cLine) {K : Nat} (hf : K < 10 * SetTable.turns t.mask)
    (hK : way t.mask (k.hash w) K ∉ t.place.toList) (hb : ∀ c, c < K → way t.mask (k.hash w) c ∈ t.place.toList) {Q : SetFound → Shared → Prop}
    (yes : k ∈ L.map Prod.snd → Q (.there none) s) (no : k ∉ L.map Prod.snd → Q (.free (way t.mask (k.hash w) K) false) s) :
    ∀ (f c : Nat) (from_ : Option SetTable.Probe), from_.getD (t.probeStart (k.hash w)) = step t.mask (k.hash w) c → c ≤ K → K - c < f →
      (∀ (i : Nat) r, L[i]? = some r → r.2 = k → ∃ d, c ≤ d ∧ d < K ∧ t.place.toList[i]? = some (way t.mask (k.hash w) d)) →
      wpAny (model P w) A (setSearchFrom a (.ref x) (k.hash w) true f from_) Q E s
  | 0, _, _, _, _, z, _ => absurd z (Nat.not_lt_zero _)
  | f + 1, c, from_, hst, hc, hz, hre => by
    obtain ⟨o, g, hex, hd⟩ := N.obj
    have places : t.place.toList.length = L.length := by rw [Array.length_toList]; exact N.place
    rw [setSearchFrom_succ]
    refine wpAny_bind (wpAny_setState_of g hd N.fits ?_)
    dsimp only
    rw [if_neg N.odd]
    try refine wpAny_bind (wpAny_pure ?_)
    generalize hhv : k.hash w = hv at *
    have hashOf : ∀ (i : Nat) r, L[i]? = some r → ((es[i]?.map (·.1)).getD 0) = r.2.hash w := fun i r e => by
      rw [row_at N.eqs e]
      first | rfl | done
    have cases2 := go_spec t N.tok.ris N.tok.dm (fun i => (es[i]?.map (·.1)).getD 0) hv (10 * SetTable.turns t.mask) (K - c) (step t.mask hv c) (step_dummy _ _ _ rfl) (by omega)
      (fun q hq => by rw [step_way]; exact hb (c + q) (by omega)) (by rw [step_way, show c + (K - c) = K by omega]; exact hK)
    rcases cases2 with ⟨q, i, hq, hi, hh, before, hp⟩ | ⟨before, hp⟩
    · rw [step_way] at hi hp
      rw [step_add] at hp
      have hp' : t.probe (fun i => (es[i]?.map (·.1)).getD 0) hv (from_.getD (t.probeStart hv)) = some (.candidate (way t.mask hv (c + q)) i (step t.mask hv (c + (q + 1)))) := by
        rw [hst]
        exact hp
      rw [hp']
      dsimp only
      obtain ⟨r, hr⟩ : ∃ r, L[i]? = some r := ⟨_, List.getElem?_eq_getElem (by have := (List.getElem?_eq_some_iff.mp hi).1; omega)⟩
      have mem : r ∈ L := List.mem_of_getElem? hr
      have kr := N.key r mem
      have after : wpAny (model P w) A (searchRest a (.ref x) hv true f es t (way t.mask hv (c + q)) i (step t.mask hv (c + (q + 1)))) Q E s := by
        unfold searchRest
        rw [row_at N.eqs hr]
        dsimp only
        refine wpAny_bind (wpAny_holding (eqAt_key _ _ A s _ _ kr.is kx.is (by have := kr.deep; omega) _ _ _ _ ?_))
        refine wpAny_bind (wpAny_setState_of g hd N.fits ?_)
        dsimp only
        by_cases same : r.2 = k
        · rw [if_pos (by rw [same, NestedKey.beq_self]; decide)]
          exact wpAny_pure (yes (List.mem_map.mpr ⟨r, mem, same⟩))
        · have nb : NestedKey.beq r.2 k = false := by
            rw [← NestedKey.decide_eq]
            exact decide_eq_false same
          rw [if_neg (by rw [nb]; decide)]
          try refine wpAny_bind (wpAny_pure ?_)
          rw [sameMem]
          dsimp only
          have sl : t.slot (way t.mask hv (c + q)) = .live i := slot_live N.tok.ris hi
          simp only [if_true, sl, row_at N.eqs hr]
          refine wpAny_bind (wpAny_isSame_ref_self (wpAny_bind (wpAny_pure ?_)))
          rw [if_pos rfl]
          dsimp only
          rw [nb, if_neg (by decide)]
          subst hhv
          refine nsearch_from N kx hu hf hK hb yes no f (c + (q + 1)) _ rfl (by omega) (by omega) fun j r' hj hk => ?_
          obtain ⟨d, d1, d2, d3⟩ := hre j r' hj hk
          refine ⟨d, ?_, d2, d3⟩
          rcases Nat.lt_trichotomy d (c + q) with z | z | z
          · exact absurd ((hashOf j r' hj).trans (by rw [hk])) (before (d - c) j (by omega) (by rw [step_way, show c + (d - c) = d by omega]; exact d3))
          · exfalso
            rw [z] at d3
            have sj := slot_live N.tok.ris d3
            rw [sl] at sj
            injection sj with sj
            rw [← sj, hr] at hj
            exact same ((congrArg Prod.snd (Option.some.inj hj)).trans hk)
          · omega
      cases hl : t.led with
      | true =>
        rw [if_neg (by decide)]
        try refine wpAny_bind (wpAny_pure ?_)
        exact after
      | false =>
        rw [if_pos (by decide)]
        refine wpAny_bind (kx.unseen (fun y hy => ?_) ?_)
        · obtain ⟨e, he, rfl⟩ := List.mem_map.mp hy
          have he : e ∈ es.toList := by
            have z : e ∈ es ∧ e.1 = hv := by simpa using he
            simpa using z.1
          rw [N.eqs] at he
          obtain ⟨r2, m2, rfl⟩ := List.mem_map.mp he
          exact ⟨_, _, rfl, N.key r2 m2⟩
        · rw [if_neg (by decide)]
          try refine wpAny_bind (wpAny_pure ?_)
          exact after
    · have hp' : t.probe (fun i => (es[i]?.map (·.1)).getD 0) hv (from_.getD (t.probeStart hv)) = some (.empty (way t.mask hv K) none) := by
        rw [hst]
        rw [step_way, show c + (K - c) = K by omega] at hp
        exact hp
      rw [hp']
      dsimp only
      refine wpAny_pure (no fun m => ?_)
      obtain ⟨r, mr, hk⟩ := List.mem_map.mp m
      obtain ⟨i, hi, e⟩ := List.getElem_of_mem mr
      have hr : L[i]? = some r := by rw [List.getElem?_eq_getElem hi, e]
      obtain ⟨d, d1, d2, d3⟩ := hre i r hr hk
      exact before (d - c) i (by omega) (by rw [step_way, show c + (d - c) = d by omega]; exact d3) ((hashOf i r hr).trans (by rw [hk, hhv]))
end
end L2

set_option Elab.async false
set_option linter.all false
set_option maxRecDepth 100000
set_option maxHeartbeats 4000000
/-! sets of nested tuples: adding -/
namespace L2
open PySem PySem.SeqAt PySem.Spec PyProof.Rows
section
variable {P : Program} {w : World} {A : Around} {E : Value → Shared → Prop} {s : Shared} {a : Addr} {L : List NRow} {es : Array (Int × Value)} {ep : Nat} {t : SetTable}
theorem nsearch (N : NSet w s.heap a L es ep t) {x : Addr} {k : NestedKey} (kx : TupKey s.heap k x) (hu : A.units + 8 < cLine) {Q : SetFound → Shared → Prop}
    (yes : k ∈ L.map Prod.snd → Q (.there none) s)
    (no : ∀ K, k ∉ L.map Prod.snd → way t.mask (k.hash w) K ∉ t.place.toList → (∀ c, c < K → way t.mask (k.hash w) c ∈ t.place.toList) → Q (.free (way t.mask (k.hash w) K) false) s) :
    wpAny (model P w) A (setSearch a (.ref x) (k.hash w) true) Q E s := by
  have hgap := N.gap
  obtain ⟨K, f1, f2, f3⟩ := N.tok.first (by unfold hashesN; rw [List.length_map]; omega) (k.hash w)
  have lim : K < 100000 := by
    have z : SetTable.turns t.mask ≤ 142 := by
      unfold SetTable.turns
      rcases N.tok.mok with e | e | e <;> omega
    omega
  unfold setSearch
  refine nsearch_from N kx hu f1 f2 f3 yes (fun m => no K m f2 f3) 100000 0 none rfl (Nat.zero_le _) (by omega) fun i r hr hk => ?_
  have h1 : (hashesN w L)[i]? = some (k.hash w) := by
    unfold hashesN
    rw [List.getElem?_map, hr, ← hk]
    first | rfl | done
  have h2 : i < t.place.toList.length := by
    rw [Array.length_toList, N.place]
    exact (List.getElem?_eq_some_iff.mp hr).1
  have h3 := List.getElem?_eq_getElem h2
  obtain ⟨d, d1, d2⟩ := N.tok.before f2 h1 h3
  exact ⟨d, Nat.zero_le _, d1, by rw [h3, d2]⟩
theorem nrows_put (L : List NRow) (p : Nat) (r : NRow) : nrows w (L.take p ++ r :: L.drop p) = (nrows w L).take p ++ (r.2.hash w, Value.ref r.1) :: (nrows w L).drop p := by
  unfold nrows
  rw [List.map_append, List.map_take, List.map_cons, List.map_drop]
theorem hashesN_put (L : List NRow) (p : Nat) (r : NRow) : hashesN w (L.take p ++ r :: L.drop p) = (hashesN w L).take p ++ r.2.hash w :: (hashesN w L).drop p := by
  unfold hashesN
  rw [List.map_append, List.map_take, List.map_cons, List.map_drop]
/-- rows taken by their numbers -/
theorem rows_taken (L : List NRow) (eqs : es.toList = nrows w L) : ∀ l : List Nat, (∀ i ∈ l, i < L.length) →
    l.filterMap (fun i => es[i]?) = nrows w (l.filterMap fun i => L[i]?) ∧ hashesN w (l.filterMap fun i => L[i]?) = l.map fun i => (es.map (·.1)).getD i 0
  | [], _ => ⟨rfl, rfl⟩
  | i :: l, hl => by
    obtain ⟨r, hi⟩ : ∃ r, L[i]? = some r := ⟨_, List.getElem?_eq_getElem (hl i List.mem_cons_self)⟩
    obtain ⟨h1, h2⟩ := rows_taken L eqs l fun j hj => hl j (List.mem_cons_of_mem _ hj)
    have he := row_at eqs hi
    have hg : (es.map (·.1)).getD i 0 = r.2.hash w := by
      have z : (es.map (·.1))[i]? = some (r.2.hash w) := by
        rw [Array.getElem?_map, he]
        first | rfl | done
      simp [Array.getD_eq_getD_getElem?, z]
    rw [List.filterMap_cons_some he, List.filterMap_cons_some hi, h1, List.map_cons, hg]
    refine ⟨rfl, ?_⟩
    rw [← h2]
    first | rfl | done
theorem all_taken (L : List NRow) : (List.range L.length).filterMap (fun i => L[i]?) = L := by
  have key : ∀ n, n ≤ L.length → (List.range n).filterMap (fun i => L[i]?) = L.take n := by
    intro n
    induction n with
    | zero => exact fun _ => rfl
    | succ n ih =>
      intro hn
      rw [List.range_succ, List.filterMap_append, ih (by omega), List.take_succ, List.getElem?_eq_getElem hn]
      refine congrArg _ ?_
      rw [List.filterMap_cons_some (List.getElem?_eq_getElem hn)]
      first | rfl | done
  rw [key _ (Nat.le_refl _), List.take_length]
/-- laid anew in a larger table -/
theorem nrelay {o : Obj} (g : s.heap.get? a = some o) (hex : o.ExactSet) (hd : o.data = .set es ep t) (eqs : es.toList = nrows w L) (hpl : t.place.size = es.size) (hdm : t.dummies = #[]) (hmk : es.size ≤ t.mask)
    (dif : (L.map Prod.snd).Nodup) (key : ∀ r ∈ L, TupKey s.heap r.2 r.1) (led : w.params.followText "set-order" = true ∨ t.led = true) (small : L.length < 64) {want M : Nat}
    (hw : SetTable.sizeAbove want - 1 = M) (hM : MaskOk M) (hw2 : SetTable.sizeAbove want ≤ 128) (gap : L.length * 5 < M * 3) {Q : Unit → Shared → Prop}
    (q : ∀ h' L' es' ep' t', Heap.SameBut a s.heap h' → NSet w h' a L' es' ep' t' → L'.Perm L → Q () { s with heap := h' }) : wpAny (model P w) A (setRelay a want) Q E s := by
  have hn := nrows_len eqs
  obtain ⟨t', order, e1, e2, e3, e4, e5, _, e7⟩ := relaid_ok t (hs := es.map (·.1)) hw hM (by rw [Array.size_map]; omega)
  rw [Array.size_map, hn] at e2
  obtain ⟨r1, r2⟩ := rows_taken L eqs order.toList fun i hi => List.mem_range.mp (e2.mem_iff.mp hi)
  rw [← r2] at e3
  have pm : (order.toList.filterMap fun i => L[i]?).Perm L := by
    have z := e2.filterMap fun i => L[i]?
    rw [all_taken] at z
    exact z
  have r3 : (order.filterMap (es[·]?)).toList = nrows w (order.toList.filterMap fun i => L[i]?) := by
    rw [← r1]
    first
      | exact Array.toList_filterMap
      | simp
  generalize hL2 : (order.toList.filterMap fun i => L[i]?) = L2 at *
  generalize hes2 : order.filterMap (es[·]?) = es2 at *
  have hn2 : es2.size = es.size := by rw [nrows_len r3, pm.length_eq, hn]
  rw [setRelay_eq]
  refine wpAny_bind (wpAny_setState_of g hd (fits_of hpl hdm hmk) ?_)
  dsimp only
  rw [if_neg (by rw [sizeLine_eq]; omega)]
  try refine wpAny_bind (wpAny_pure ?_)
  rw [e1]
  dsimp only
  refine wpAny_bind ?_
  rw [hes2, if_neg (by rw [hn2]; simp)]
  try refine wpAny_bind (wpAny_pure ?_)
  refine wpAny_pure ?_
  dsimp only
  refine wpAny_storeSet_of g hd ?_ (by rw [hn2, hn, sizeLine_eq]; omega)
  have sb : Heap.SameBut a s.heap (s.heap.update a (Obj.putSet es2 t')) := Heap.SameBut.update ..
  refine q _ L2 es2 (ep + 1) t' sb ⟨⟨_, store_at g hd, ⟨hex.1, hex.2.1, hex.2.2⟩, rfl⟩, r3, e3, (pm.map Prod.snd).nodup_iff.mpr dif, fun r m => (key r (pm.mem_iff.mp m)).but g hd sb, by rw [e5]; exact led, ?_, by rw [pm.length_eq]; exact small⟩ pm
  rw [pm.length_eq, e4]
  exact gap
theorem tab_plain {hs : List Int} (T : TabOk t hs) (b : Bool) : TabOk (if b = true then t else { t with plain := false }) hs ∧ (if b = true then t else { t with plain := false }).mask = t.mask ∧ (if b = true then t else { t with plain := false }).led = t.led ∧
    (if b = true then t else { t with plain := false }).fill = t.fill := by
  cases b with
  | true => exact ⟨T, rfl, rfl, rfl⟩
  | false => exact ⟨⟨T.ris, T.dm, T.sz, T.mok, T.bd, T.reach⟩, rfl, rfl, rfl⟩
/-- one key is added -/
theorem nadd (N : NSet w s.heap a L es ep t) {x : Addr} {k : NestedKey} (kx : TupKey s.heap k x) (hu : A.units + 8 < cLine) (few : L.length + 1 < 64) {Q : Bool → Shared → Prop}
    (q : ∀ b h' L' es' ep' t', Heap.SameBut a s.heap h' → NSet w h' a L' es' ep' t' → (k ∈ L.map Prod.snd → L' = L) → (k ∉ L.map Prod.snd → L'.Perm ((x, k) :: L)) → Q b { s with heap := h' }) :
    wpAny (model P w) A (setAddHashed a (.ref x) (k.hash w)) Q E s := by
  obtain ⟨o, g, hex, hd⟩ := N.obj
  have hn := N.size
  have hgap := N.gap
  unfold setAddHashed
  refine wpAny_holding ?_
  rw [show (100000 : Nat) = Nat.succ 99999 from rfl, setAddHashedIn_succ]
  refine wpAny_bind (wpAny_setState_of g hd N.fits ?_)
  dsimp only
  rw [if_neg (by simp [byScan, Value.scannable])]
  try refine wpAny_bind (wpAny_pure ?_)
  refine wpAny_bind (nsearch N kx hu (fun m => ?_) fun K m hK hb => ?_)
  · dsimp only
    exact wpAny_pure (q false s.heap L es ep t (Heap.SameBut.refl a s.heap) N (fun _ => rfl) fun z => absurd m z)
  · dsimp only
    refine wpAny_bind (wpAny_setState_of g hd N.fits ?_)
    dsimp only
    obtain ⟨q1, q2, q3, q4, q5, q6, q7, q8, q9⟩ := N.tok.put hK hb
    generalize hpt : t.put (way t.mask (k.hash w) K) = pt at *
    obtain ⟨t1, p⟩ := pt
    dsimp only at q1 q3 q4 q5 q9 ⊢
    subst q1
    have some_ : ∀ (f : Bool → Sem Bool), (∀ b, wpAny (model P w) A (f b) Q E s) → wpAny (model P w) A (if t1.plain = true then hashByValue 8 (.ref x) >>= f else pure true >>= f) Q E s := fun f hr => by
      by_cases hp : t1.plain = true
      · rw [if_pos hp]
        exact wpAny_bind (someHash_key _ _ 8 _ kx.is kx.deep _ _ _ hr)
      · rw [if_neg hp]
        exact wpAny_bind (wpAny_pure (hr true))
    refine some_ _ fun b => ?_
    obtain ⟨T2, m2, l2, f2⟩ := tab_plain q3 b
    generalize (if b = true then t1 else { t1 with plain := false }) = t2 at T2 m2 l2 f2 ⊢
    rw [← hashesN_put L _ (x, k)] at T2
    have he : (SetTable.insertAt es (SetTable.below t.place (way t.mask (k.hash w) K)) (k.hash w, Value.ref x)).toList = nrows w (L.take (SetTable.below t.place (way t.mask (k.hash w) K)) ++ (x, k) :: L.drop (SetTable.below t.place (way t.mask (k.hash w) K))) := by
      rw [SetTable.toList_insertAt, nrows_put, N.eqs]
    have pm := put_perm L (SetTable.below t.place (way t.mask (k.hash w) K)) (x, k)
    generalize SetTable.insertAt es (SetTable.below t.place (way t.mask (k.hash w) K)) (k.hash w, Value.ref x) = es1 at he ⊢
    generalize L.take (SetTable.below t.place (way t.mask (k.hash w) K)) ++ (x, k) :: L.drop (SetTable.below t.place (way t.mask (k.hash w) K)) = L1 at pm he T2
    have n1 : L1.length = L.length + 1 := pm.length_eq
    have n2 : es1.size = L.length + 1 := by rw [nrows_len he, n1]
    have nd : (L1.map Prod.snd).Nodup := by
      rw [(pm.map Prod.snd).nodup_iff, List.map_cons, List.nodup_cons]
      exact ⟨m, N.dif⟩
    have pl2 : t2.place.size = es1.size := by
      have z := T2.sz
      unfold hashesN at z
      rw [z, List.length_map, n1, n2]
    rw [hn]
    refine wpAny_bind (wpAny_storeSet_of g hd ?_ (by rw [n2, sizeLine_eq]; omega))
    have sb : Heap.SameBut a s.heap (s.heap.update a (Obj.putSet es1 t2)) := Heap.SameBut.update ..
    have g1 := store_at (es' := es1) (t' := t2) g hd
    generalize s.heap.update a (Obj.putSet es1 t2) = h1 at sb g1 ⊢
    have key1 : ∀ r ∈ L1, TupKey h1 r.2 r.1 := fun r hr => by
      rcases List.mem_cons.mp (pm.mem_iff.mp hr) with rfl | hr
      · exact kx.but g hd sb
      · exact (N.key r hr).but g hd sb
    have led1 : w.params.followText "set-order" = true ∨ t2.led = true := by
      rw [l2, q5]
      exact N.led
    have full : t2.tooFull = decide ((L.length + 1) * 5 ≥ t.mask * 3) := by
      unfold SetTable.tooFull
      rw [f2, q9, m2, q4]
      unfold hashesN
      rw [List.length_map]
    by_cases hf : (L.length + 1) * 5 ≥ t.mask * 3
    · rw [full, decide_eq_true hf]
      have two : (t.mask = 7 ∧ L.length = 4) ∨ (t.mask = 31 ∧ L.length = 18) := by
        rcases N.tok.mok with e | e | e
        · exact .inl ⟨e, by omega⟩
        · exact .inr ⟨e, by omega⟩
        · omega
      have grow : ∀ M, SetTable.sizeAbove (SetTable.grown (L.length + 1)) - 1 = M → MaskOk M → SetTable.sizeAbove (SetTable.grown (L.length + 1)) ≤ 128 → (L.length + 1) * 5 < M * 3 →
          wpAny (model P w) A (setRelay a (SetTable.grown (L.length + 1))) (fun _ s' => wpAny (model P w) A (pure true) Q E s') E { s with heap := h1 } := fun M h1' h2' h3' h4' => by
        refine nrelay (s := { s with heap := h1 }) g1 ⟨hex.1, hex.2.1, hex.2.2⟩ rfl he pl2 T2.dm (by rw [n2, m2, q4]; omega) nd key1 led1 (by rw [n1]; exact few) h1' h2' h3' (by rw [n1]; exact h4') ?_
        exact fun h2 L2 es2 ep2 t3 sb2 N2 pm2 => wpAny_pure (q true h2 L2 es2 ep2 t3 (sb.trans sb2) N2 (fun z => absurd z m) fun _ => pm2.trans pm)
      have go : wpAny (model P w) A (setRelay a (SetTable.grown (L.length + 1))) (fun _ s' => wpAny (model P w) A (pure true) Q E s') E { s with heap := h1 } := by
        rcases two with ⟨_, e⟩ | ⟨_, e⟩
        · exact grow 31 (by rw [e, size_20]) (.inr (.inl rfl)) (by rw [e, size_20]; decide) (by omega)
        · exact grow 127 (by rw [e, size_76]) (.inr (.inr rfl)) (by rw [e, size_76]; decide) (by omega)
      first
        | (refine wpAny_bind ?_; rw [if_pos (by decide)]; exact go)
        | (rw [if_pos (by decide)]; exact wpAny_bind go)
    · rw [full, decide_eq_false hf]
      have N1 : NSet w h1 a L1 es1 (ep + 1) t2 := ⟨⟨_, g1, ⟨hex.1, hex.2.1, hex.2.2⟩, rfl⟩, he, T2, nd, key1, led1, by rw [n1, m2, q4]; omega, by rw [n1]; exact few⟩
      have fin : wpAny (model P w) A (pure true) Q E { s with heap := h1 } := wpAny_pure (q true h1 L1 es1 (ep + 1) t2 sb N1 (fun z => absurd z m) fun _ => pm)
      first
        | (refine wpAny_bind ?_; rw [if_neg (by decide)]; exact wpAny_pure fin)
        | (rw [if_neg (by decide)]; exact fin)
end
end L2

set_option Elab.async false
set_option linter.all false
set_option maxRecDepth 100000
set_option maxHeartbeats 4000000
/-! sets of nested tuples: set(list) -/
namespace L2
open PySem PySem.SeqAt PySem.Spec PyProof.Rows
/-- what a set has got of the first i of these rows -/
structure NGot (ks : List NRow) (i : Nat) (L : List NRow) : Prop where
  only : ∀ r ∈ L, r ∈ ks.take i
  every : ∀ r ∈ ks.take i, r.2 ∈ L.map Prod.snd
  most : L.length ≤ i
theorem NGot.none_ (ks : List NRow) : NGot ks 0 [] := ⟨fun r h => absurd h (by simp), fun r h => absurd h (by simp), Nat.le_refl _⟩
theorem NGot.next {ks L L' : List NRow} {i : Nat} {x : NRow} (g : NGot ks i L) (e : ks[i]? = some x) (h1 : x.2 ∈ L.map Prod.snd → L' = L) (h2 : x.2 ∉ L.map Prod.snd → L'.Perm (x :: L)) : NGot ks (i + 1) L' := by
  have tk := take_next e
  rcases Classical.em (x.2 ∈ L.map Prod.snd) with c | c
  · cases h1 c
    refine ⟨fun r hr => ?_, fun r hr => ?_, Nat.le_succ_of_le g.most⟩
    · rw [tk]
      exact List.mem_append_left _ (g.only r hr)
    · rw [tk] at hr
      rcases List.mem_append.mp hr with z | z
      · exact g.every r z
      · cases List.mem_singleton.mp z
        exact c
  · have pm := h2 c
    refine ⟨fun r hr => ?_, fun r hr => ?_, by rw [pm.length_eq, List.length_cons]; exact Nat.succ_le_succ g.most⟩
    · rw [tk]
      rcases List.mem_cons.mp (pm.mem_iff.mp hr) with rfl | z
      · exact List.mem_append_right _ List.mem_cons_self
      · exact List.mem_append_left _ (g.only r z)
    · rw [(pm.map Prod.snd).mem_iff, List.map_cons]
      rw [tk] at hr
      rcases List.mem_append.mp hr with z | z
      · exact List.mem_cons_of_mem _ (g.every r z)
      · cases List.mem_singleton.mp z
        exact List.mem_cons_self
section
variable {P : Program} {w : World} {A : Around} {E : Value → Shared → Prop} {s : Shared}
/-- a set that was just made -/
abbrev newSetObj (w : World) : Obj := { cls := .type "set", dict := none, data := .set #[] 0 (.fresh 0 0 (!w.params.followText "set-order")) }
theorem nset_new {h : Heap} {a : Addr} (g : h.get? a = some (newSetObj w)) : NSet w h a [] #[] 0 (.fresh 0 0 (!w.params.followText "set-order")) where
  obj := ⟨_, g, ⟨rfl, rfl, rfl⟩, rfl⟩
  eqs := rfl
  tok := ⟨List.Pairwise.nil, rfl, rfl, .inl rfl, fun x hx => absurd hx (by first | exact List.not_mem_nil | simp), fun i h j hi => absurd hi (by simp [hashesN])⟩
  dif := List.nodup_nil
  key := fun r hr => absurd hr (by simp)
  led := by
    cases z : w.params.followText "set-order"
    · exact .inr rfl
    · exact .inl rfl
  gap := by show 0 < 7 * 3; decide
  small := by decide
theorem NSet.keep {h h' : Heap} {a : Addr} {L : List NRow} {es : Array (Int × Value)} {ep : Nat} {t : SetTable} (N : NSet w h a L es ep t) (ha : ∀ o, h.get? a = some o → h'.get? a = some o) (hk : ∀ r ∈ L, TupKey h' r.2 r.1) : NSet w h' a L es ep t := by
  obtain ⟨o, g, z⟩ := N.obj
  exact ⟨⟨o, ha o g, z⟩, N.eqs, N.tok, N.dif, hk, N.led, N.gap, N.small⟩
/-- the loop of set.update -/
theorem nupdate {I : Addr} {fp wr : List Addr} {G : Array GenState → Array GenState → Prop} {n : Nat} {Pv : Nat → Value → Prop} {St : Nat → Shared → Prop} {R : Result → Shared → Prop}
    (W : WalksS P w A.in1 I fp wr G n Pv St) (S : Addr) (hS : S ∉ fp) (ks : List NRow) (hn : n = ks.length) (few : ks.length < 64) (val : ∀ i v, Pv i v → ∃ r, ks[i]? = some r ∧ v = .ref r.1)
    (h0 : Heap) (hk : ∀ r ∈ ks, TupKey h0 r.2 r.1) (hS0 : h0.get? S = none) (hw0 : ∀ b ∈ wr, h0.get? b = none) (hu : A.in1.units + 8 < cLine) :
    ∀ (d i : Nat) (s : Shared), n - i = d → i ≤ n → St i s → (∀ b o, h0.get? b = some o → s.heap.get? b = some o) → (∃ L es ep t, NSet w s.heap S L es ep t ∧ NGot ks i L) →
      (∀ s' L es ep t, Moved (S :: wr) G s s' → NSet w s'.heap S L es ep t → NGot ks n L → (∀ b o, h0.get? b = some o → s'.heap.get? b = some o) → R (.ok (.ret .none)) s') →
      codeAny (model P w) A (.builtin "set.update.loop" ⟨[.ref S, .ref I], []⟩) R s := by
  have out : S ∉ wr := fun z => hS (W.sub _ z)
  have up : ∀ b ∈ wr, b ∈ S :: wr := fun b z => List.mem_cons_of_mem _ z
  have moved : ∀ {s s' : Shared}, Moved wr G s s' → (∀ b o, h0.get? b = some o → s.heap.get? b = some o) → ∀ b o, h0.get? b = some o → s'.heap.get? b = some o := fun m ext b o e =>
    m.heap b o (fun z => nomatch (hw0 b z).symm.trans e) (ext b o e)
  intro d
  induction d with
  | zero =>
    intro i s hd hi st ext ⟨L, es, ep, t, N, g⟩ hR
    obtain rfl : i = n := by omega
    refine codeAny_builtin F.entry_set_update_loop ?_
    rw [Around.under_plainId F.plain_set_update_loop _]
    show wpAny _ A.in1 (pyNext (.ref I) >>= _) _ _ s
    refine wpAny_bind (W.done s _ _ st fun s' m => ?_)
    show wpAny _ A.in1 (ret Value.none) _ _ s'
    have ext' := moved m ext
    exact wpAny_pure (hR s' L es ep t (m.mono up) (N.keep (fun o e => m.heap S o out e) fun r hr => (hk r (List.mem_of_mem_take (g.only r hr))).keep ext') g ext')
  | succ d ih =>
    intro i s hd hi st ext ⟨L, es, ep, t, N, g⟩ hR
    have lt : i < n := by omega
    refine codeAny_builtin F.entry_set_update_loop ?_
    rw [Around.under_plainId F.plain_set_update_loop _]
    show wpAny _ A.in1 (pyNext (.ref I) >>= _) _ _ s
    refine wpAny_bind (W.item i s _ _ lt st fun v s' hv st' m => ?_)
    obtain ⟨r, hr, rfl⟩ := val i v hv
    have ext' := moved m ext
    have N' : NSet w s'.heap S L es ep t := N.keep (fun o e => m.heap S o out e) fun q hq => (hk q (List.mem_of_mem_take (g.only q hq))).keep ext'
    have kr : TupKey s'.heap r.2 r.1 := (hk r (List.mem_of_getElem? hr)).keep ext'
    show wpAny _ A.in1 (holding [Value.ref r.1] (setAdd S (.ref r.1)) >>= _) _ _ s'
    refine wpAny_bind (wpAny_holding ?_)
    unfold setAdd
    refine wpAny_holding ?_
    refine wpAny_bind (pyHash_key _ _ _ _ _ kr.is (by have := kr.deep; omega) ?_)
    refine nadd (s := { s' with toks := s'.toks + r.2.draws }) N' kr hu (by have := g.most; omega) fun b h' L' es' ep' t' sb N2 c1 c2 => ?_
    have g' : NGot ks (i + 1) L' := g.next hr c1 c2
    have ext2 : ∀ b o, h0.get? b = some o → h'.get? b = some o := fun b o e => (sb.2 b (fun z => by rw [z, hS0] at e; exact nomatch e)).trans (ext' b o e)
    refine wpAny_pure ⟨plainId_quiet F.plain_set_update_loop _, ih (i + 1) _ (by omega) lt (W.frame _ s' _ _ st' (Nat.le_add_right _ _) fun b hb o e => ?_) ext2 ⟨L', es', ep', t', N2, g'⟩ fun s2 L2 es2 ep2 t2 m2 N3 g3 ext3 => ?_⟩
    · rw [sb.2 b (fun z => hS (z ▸ hb))]
      exact e
    · refine hR s2 L2 es2 ep2 t2 (Moved.trans W.gtrans ((m.mono up).then_heap (Nat.le_add_right _ _) fun b o hb e => ?_) m2) N3 g3 ext3
      rw [sb.2 b (fun z => hb (z ▸ List.mem_cons_self))]
      exact e
end
end L2

set_option Elab.async false
set_option linter.all false
set_option maxRecDepth 100000
set_option maxHeartbeats 4000000
/-! sets of nested tuples: the call set(list) -/
namespace L2
open PySem PySem.SeqAt PySem.Spec PyProof.Rows
section
variable {P : Program} {w : World} {A : Around} {E : Value → Shared → Prop} {s : Shared}
theorem absent_of {h : Heap} {b : Addr} (z : h.objs.size ≤ b) : h.get? b = none := by
  cases q : h.get? b with
  | none => rfl
  | some o => exact absurd (Nat.lt_of_lt_of_le (Heap.lt_size q) z) (Nat.lt_irrefl _)
/-- what a call of set leaves behind -/
def NMade (w : World) (s : Shared) (ks : List NRow) (s' : Shared) : Prop := ∃ h' tk L es ep t, s' = { s with heap := h', toks := tk } ∧ NSet w h' s.heap.objs.size L es ep t ∧ NGot ks ks.length L ∧ ∀ b o, s.heap.get? b = some o → h'.get? b = some o
theorem nset_call {l : Addr} {us : Array Value} (ks : List NRow) {Q : Value → Shared → Prop} (hh : A.handled = none) (hl : s.heap.IsList l us) (hit : us.toList = ks.map fun r => Value.ref r.1)
    (hk : ∀ r ∈ ks, TupKey s.heap r.2 r.1) (few : ks.length < 64) (hu : A.units + 16 < cLine) (q : ∀ s', NMade w s ks s' → Q (.ref s.heap.objs.size) s') :
    wpAny (model P w) A (call (.type "set") [.ref l]) Q E s := by
  have n0 : us.size = ks.length := by
    have z := congrArg List.length hit
    simpa using z
  obtain ⟨c, tl, mro⟩ := F.called_set.mro
  have made_ := F.called_set.made
  have sub_ := F.called_set.sub
  refine wpAny_call (codeAny_of_tree ?_)
  show wpAny _ _ (callAny (.type "set") _) _ _ _
  refine wpAny_pure ⟨Code.quiet_builtin _ (by decide +kernel), codeAny_builtin F.entry_type_call ?_⟩
  rw [Around.under_plain (weight_type_call_type "set" [.ref l] []) rfl]
  have isn := F.called_set.notType
  have can := F.called_set.canCreate
  have fit := F.typeCall_set_1 (.ref l)
  repeat (any_goals (first | assumption | wp_step))
  refine codeAny_mono (code_set_led1 (.ref l) (E := E) (Q₁ := fun obj s₁ => obj = .ref s.heap.objs.size ∧ s₁ = { s with heap := s.heap.push (newSetObj w) }) ⟨rfl, rfl⟩) fun r s₁ hr => ?_
  cases r with
  | error e => exact hr
  | ok fl =>
    cases fl with
    | ret obj =>
      obtain ⟨rfl, rfl⟩ := hr
      have gS : (s.heap.push (newSetObj w)).get? s.heap.objs.size = some (newSetObj w) := Heap.get?_push_size _ rfl
      have tS : Shared.TypeIs { s with heap := s.heap.push (newSetObj w) } (.ref s.heap.objs.size) "set" := ⟨_, gS, rfl⟩
      have look := F.called_set.init.lookup
      have bind_ := F.called_set.init.bind (.ref s.heap.objs.size)
      repeat (any_goals (first | assumption | wp_step))
      refine codeAny_mono (codeAny_call_builtin (R := wants (fun r s₂ => r = .none ∧ NMade w s ks s₂) E) F.called_set.init.plain F.entry_set_init (check_set_init_1 tS ?_)) fun r₂ s₂ hr₂ => ?_
      · obtain ⟨⟨kl, dl, tl', sl⟩, gl, rfl, nl, rfl⟩ := hl
        have gl' : (s.heap.push (newSetObj w)).get? l = some { cls := .type "list", dict := dl, data := .seq us nl, slots := sl } := Heap.get?_push_of_some _ gl
        have sub1 := F.sub_list_set
        have sub2 := F.sub_list_frozenset
        have nd : (Value.type "list" == Value.type "dict") = false := by decide
        have L1 : (s.heap.push (newSetObj w)).IsList l us := ⟨_, gl', rfl, nl, rfl⟩
        unfold Builtin.«set.__init__» noKeywords Builtin.Frozenset.updateFrom
        generalize hit_ : pyIter = IT
        wp_walk
        subst hit_
        refine wpAny_pyIter_list L1 ?_
        refine wpAny_bind (wpAny_runValue ?_)
        have ll : l < s.heap.objs.size := Heap.lt_size gl
        have sz1 : (s.heap.push (newSetObj w)).objs.size = s.heap.objs.size + 1 := Heap.size_push ..
        have ne1 : l ≠ (s.heap.push (newSetObj w)).objs.size := by
          rw [sz1]
          exact Nat.ne_of_lt (Nat.lt_succ_of_lt ll)
        have out : s.heap.objs.size ∉ [(s.heap.push (newSetObj w)).objs.size, l] := by
          rw [sz1]
          intro z
          rcases List.mem_cons.mp z with z | z
          · exact absurd z (Nat.ne_of_lt (Nat.lt_succ_self _))
          · exact absurd (List.mem_singleton.mp z) (Nat.ne_of_gt ll)
        have val : ∀ (i : Nat) (v : Value), us[i]? = some v → ∃ r, ks[i]? = some r ∧ v = .ref r.1 := fun i v hv => by
          rw [← Array.getElem?_toList, hit, List.getElem?_map] at hv
          obtain ⟨r, hr, e⟩ := Option.map_eq_some_iff.mp hv
          exact ⟨r, hr, e.symm⟩
        have W0 := (Walks.list (prog := P) (w := w) (A := A.in1.in1.in1) (show A.in1.in1.in1.handled = none by simp [hh]) (s.heap.push (newSetObj w)).objs.size l ne1 us).toS
        refine nupdate W0 s.heap.objs.size out ks n0 few val s.heap hk (absent_of (Nat.le_refl _)) (fun b hb => absent_of (by
            rw [List.mem_singleton.mp hb, sz1]
            exact Nat.le_succ _)) (by simp only [Around.in1_units]; omega) (us.size - 0) 0 _ (by omega) (Nat.zero_le _)
          ⟨⟨_, Heap.get?_push_size _ rfl, rfl, rfl⟩, L1.push _⟩ (fun b o e => Heap.get?_push_of_some _ (Heap.get?_push_of_some _ e)) ?first ?last
        case first => exact ⟨[], #[], 0, _, nset_new (Heap.get?_push_of_some _ gS), NGot.none_ ks⟩
        case last =>
          intro s' L es ep t m N g ext
          obtain ⟨h', gn, dr, tk', os'⟩ := s'
          cases (show gn = s.gens from m.gens)
          cases (show dr = s.drawn from m.drawn)
          cases (show os' = s.os from m.os)
          show wpAny _ _ _ _ _ _
          refine wpAny_pure ?_
          show wpAny _ _ (ret Value.none) _ _ _
          rw [n0] at g
          exact wpAny_pure ⟨rfl, h', tk', L, es, ep, t, rfl, N, g, ext⟩
      · cases r₂ with
        | error e => exact hr₂
        | ok fl₂ =>
          cases fl₂ with
          | ret r =>
            obtain ⟨rfl, hm⟩ := hr₂
            have hm' := hm
            obtain ⟨h', tk, L, es, ep, t, rfl, N, g, ext⟩ := hm
            repeat (any_goals (first | assumption | wp_step))
            exact q _ hm'
          | _ => exact hr₂.elim
    | _ => exact hr.elim
end
end L2

set_option Elab.async false
set_option linter.all false
set_option maxRecDepth 100000
set_option maxHeartbeats 4000000
/-! data that sets take, and their order -/
namespace L2
open PySem PySem.W PySem.SeqAt PySem.Spec PyProof.Rows
mutual
def nkey : PyData → NestedKey
  | .none => .none
  | .bool b => .num (if b = true then 1 else 0)
  | .int i => .num i
  | .str x => .text x
  | .tuple ds => .tup (nkeys ds)
  | .list _ => .none
  | .dict _ => .none
def nkeys : List PyData → List NestedKey
  | [] => []
  | d :: ds => nkey d :: nkeys ds
end
mutual
/-- neither a list nor a dict, nor one within -/
def keyable : PyData → Bool
  | .list _ => false
  | .dict _ => false
  | .tuple ds => keyables ds
  | _ => true
def keyables : List PyData → Bool
  | [] => true
  | d :: ds => keyable d && keyables ds
end
mutual
theorem nkey_depth : ∀ d : PyData, keyable d = true → (nkey d).depth = d.depth
  | .none, _ => rfl
  | .bool _, _ => rfl
  | .int _, _ => rfl
  | .str _, _ => rfl
  | .tuple ds, k => by
    have z := nkeys_depth ds (by simpa [keyable] using k)
    simp only [nkey, NestedKey.depth, PyData.depth, z]
  | .list _, k => by simp [keyable] at k
  | .dict _, k => by simp [keyable] at k
theorem nkeys_depth : ∀ ds : List PyData, keyables ds = true → NestedKey.depthAll (nkeys ds) = PyData.depthAll ds
  | [], _ => rfl
  | d :: ds, k => by
    rw [keyables, Bool.and_eq_true] at k
    simp only [nkeys, NestedKey.depthAll, PyData.depthAll, nkey_depth d k.1, nkeys_depth ds k.2]
end
mutual
theorem nkey_is {h : Heap} : ∀ (d : PyData) (v : Value) (as : List Addr), keyable d = true → Reads h v d as → NestedIs h (nkey d) v
  | .none, _, _, _, r => by cases r; exact .none
  | .bool b, _, _, _, r => by cases r; exact .bool rfl
  | .int i, _, _, _, r => by cases r; exact .int _ _
  | .str x, _, _, _, r => by cases r; exact .text _ _
  | .tuple ds, _, _, k, r => by
    cases r with
    | tuple g1 g2 g3 g4 => exact .tup g1 g2 g3 (nkeys_is ds _ _ (by simpa [keyable] using k) g4)
  | .list _, _, _, k, _ => by simp [keyable] at k
  | .dict _, _, _, k, _ => by simp [keyable] at k
theorem nkeys_is {h : Heap} : ∀ (ds : List PyData) (vs : List Value) (as : List Addr), keyables ds = true → ReadsAll h vs ds as → NestedAll h (nkeys ds) vs
  | [], _, _, _, r => by cases r; exact .nil
  | d :: ds, _, _, k, r => by
    rw [keyables, Bool.and_eq_true] at k
    cases r with
    | cons r1 r2 => exact .cons (nkey_is d _ _ k.1 r1) (nkeys_is ds _ _ k.2 r2)
end
mutual
theorem nkey_inj : ∀ d e : PyData, keyable d = true → keyable e = true → alike d e = true → nkey d = nkey e → d = e
  | .none, e, _, _, a, _ => by cases e <;> first | rfl | simp [alike] at a
  | .bool b, e, _, _, a, q => by
    cases e with
    | bool c =>
      simp only [nkey] at q
      injection q with q
      cases b <;> cases c <;> first | rfl | exact absurd q (by decide)
    | _ => simp [alike] at a
  | .int i, e, _, _, a, q => by
    cases e with
    | int j =>
      simp only [nkey] at q
      injection q with q
      rw [q]
    | _ => simp [alike] at a
  | .str x, e, _, _, a, q => by
    cases e with
    | str y =>
      simp only [nkey] at q
      injection q with q
      rw [q]
    | _ => simp [alike] at a
  | .tuple ds, e, k, k', a, q => by
    cases e with
    | tuple es =>
      simp only [nkey] at q
      injection q with q
      rw [nkeys_inj ds es (by simpa [keyable] using k) (by simpa [keyable] using k') (by simpa [alike] using a) q]
    | _ => simp [alike] at a
  | .list _, _, k, _, _, _ => by simp [keyable] at k
  | .dict _, _, k, _, _, _ => by simp [keyable] at k
theorem nkeys_inj : ∀ ds es : List PyData, keyables ds = true → keyables es = true → alikeAll ds es = true → nkeys ds = nkeys es → ds = es
  | [], [], _, _, _, _ => rfl
  | [], _ :: _, _, _, _, q => by simp [nkeys] at q
  | _ :: _, [], _, _, _, q => by simp [nkeys] at q
  | d :: ds, e :: es, k, k', a, q => by
    rw [keyables, Bool.and_eq_true] at k k'
    obtain ⟨a1, a2⟩ := alike_all_cons a
    simp only [nkeys] at q
    injection q with q1 q2
    rw [nkey_inj d e k.1 k'.1 a1 q1, nkeys_inj ds es k.2 k'.2 a2 q2]
end
mutual
theorem eqv_same : ∀ d e : PyData, alike d e = true → PyData.eqv d e = true → d = e
  | .none, e, a, _ => by cases e <;> first | rfl | simp [alike] at a
  | .bool b, e, a, q => by
    cases e with
    | bool c => cases b <;> cases c <;> first | rfl | (simp [PyData.eqv] at q)
    | _ => simp [alike] at a
  | .int i, e, a, q => by
    cases e with
    | int j =>
      have z : i = j := by simpa [PyData.eqv] using q
      rw [z]
    | _ => simp [alike] at a
  | .str x, e, a, q => by
    cases e with
    | str y =>
      have z : x = y := by simpa [PyData.eqv] using q
      rw [z]
    | _ => simp [alike] at a
  | .tuple ds, e, a, q => by
    cases e with
    | tuple es => rw [eqvs_same ds es (by simpa [alike] using a) (by simpa [PyData.eqv] using q)]
    | _ => simp [alike] at a
  | .list ds, e, a, q => by
    cases e with
    | list es => rw [eqvs_same ds es (by simpa [alike] using a) (by simpa [PyData.eqv] using q)]
    | _ => simp [alike] at a
  | .dict _, e, a, _ => by cases e <;> simp [alike] at a
theorem eqvs_same : ∀ ds es : List PyData, alikeAll ds es = true → PyData.eqvAll ds es = true → ds = es
  | [], [], _, _ => rfl
  | [], _ :: _, _, q => by simp [PyData.eqvAll] at q
  | _ :: _, [], _, q => by simp [PyData.eqvAll] at q
  | d :: ds, e :: es, a, q => by
    obtain ⟨a1, a2⟩ := alike_all_cons a
    rw [eqv_all_cons, Bool.and_eq_true] at q
    rw [eqv_same d e a1 q.1, eqvs_same ds es a2 q.2]
end
/-- of two unlike data of one kind one is below the other -/
theorem dataLt_or {d e : PyData} (a : alike d e = true) (ne : d ≠ e) : dataLt d e = true ∨ dataLt e d = true := by
  cases h1 : dataLt d e with
  | true => exact .inl rfl
  | false =>
    cases h2 : dataLt e d with
    | true => exact .inr rfl
    | false =>
      exfalso
      have tk : keyToks d = keyToks e := (listOrd itemOrd).total _ _ h1 h2
      cases q : PyData.eqv d e with
      | true => exact ne (eqv_same d e a q)
      | false =>
        have z := (toks_eqv d e a).2 q [] [.inl 0]
        rw [tk, lex_pre] at z
        have z2 := (toks_eqv d e a).2 q [] []
        rw [tk, lex_pre] at z2
        rw [← z2] at z
        exact absurd z (by decide)
theorem dataLt_irrefl (d : PyData) : dataLt d d = false := (listOrd itemOrd).irrefl _
theorem dataLt_trans {d e f : PyData} (h1 : dataLt d e = true) (h2 : dataLt e f = true) : dataLt d f = true := (listOrd itemOrd).trans _ _ _ h1 h2
end L2

set_option Elab.async false
set_option linter.all false
set_option maxRecDepth 100000
set_option maxHeartbeats 4000000
/-! sorted(set) of nested tuples -/
namespace L2
open PySem PySem.W PySem.SeqAt PySem.Spec PyProof.Rows PySem.Calls
theorem perm_back {α β : Type} {f : α → β} {l k : List β} (p : l.Perm k) : ∀ m : List α, k = m.map f → ∃ m' : List α, m'.Perm m ∧ l = m'.map f := by
  induction p with
  | nil =>
    intro m e
    exact ⟨[], by cases m with | nil => exact .nil | cons _ _ => simp at e, rfl⟩
  | cons x _ ih =>
    intro m e
    cases m with
    | nil => simp at e
    | cons y m =>
      rw [List.map_cons] at e
      injection e with e1 e2
      obtain ⟨m', h1, h2⟩ := ih m e2
      exact ⟨y :: m', h1.cons y, by rw [h2, e1, List.map_cons]⟩
  | swap x y l =>
    intro m e
    match m, e with
    | [], e => simp at e
    | [_], e => simp at e
    | u :: v :: m, e =>
      simp only [List.map_cons] at e
      injection e with e1 e2
      injection e2 with e2 e3
      exact ⟨v :: u :: m, .swap _ _ _, by simp only [List.map_cons]; rw [e1, e2, e3]⟩
  | trans _ _ ih1 ih2 =>
    intro m e
    obtain ⟨m2, h1, h2⟩ := ih2 m e
    obtain ⟨m3, h3, h4⟩ := ih1 m2 h2
    exact ⟨m3, h3.trans h1, h4⟩
theorem sub_back {α β : Type} {f : α → β} {m : List α} : ∀ l : List β, (∀ x ∈ l, x ∈ m.map f) → ∃ m' : List α, l = m'.map f ∧ ∀ y ∈ m', y ∈ m
  | [], _ => ⟨[], rfl, fun y h => absurd h (by simp)⟩
  | x :: l, h => by
    obtain ⟨y, hy, e⟩ := List.mem_map.mp (h x List.mem_cons_self)
    obtain ⟨m', e', h'⟩ := sub_back l fun z hz => h z (List.mem_cons_of_mem _ hz)
    refine ⟨y :: m', by rw [List.map_cons, e, e'], fun z hz => ?_⟩
    rcases List.mem_cons.mp hz with rfl | hz
    · exact hy
    · exact h' z hz
/-- a tuple of the heap and what it reads as -/
abbrev TRow := Addr × PyData
abbrev TRow.n (p : TRow) : NRow := (p.1, nkey p.2)
abbrev TRow.r (p : TRow) : Value := .ref p.1
theorem each_rows {R : Value → TRow → Prop} : ∀ T : List TRow, (∀ p ∈ T, R p.r p) → EachIs R (T.map TRow.r) T
  | [], _ => .nil
  | p :: T, h => .cons (h p List.mem_cons_self) (each_rows T fun q hq => h q (List.mem_cons_of_mem _ hq))
theorem rows_each : ∀ {vs : List Value} {T : List TRow}, EachIs (fun v p => v = TRow.r p) vs T → vs = T.map TRow.r
  | _, _, .nil => rfl
  | _, _, .cons h t => by rw [h, rows_each t, List.map_cons]
section
variable {P : Program} {w : World} {A : Around} {E : Value → Shared → Prop} {s : Shared}
/-- the rows, sorted -/
def sortT (T : List TRow) : List TRow := T.mergeSort (dataLe false Prod.snd)
theorem sortT_perm (T : List TRow) : (sortT T).Perm T := List.mergeSort_perm _ _
theorem sortT_up (T : List TRow) (hal : AllAlike (T.map Prod.snd)) (nd : (T.map Prod.snd).Nodup) : (sortT T).Pairwise fun p q => dataLt p.2 q.2 = true := by
  have srt : (sortT T).Pairwise fun p q => dataLe false Prod.snd p q = true := sort_pairwise (sortLe_total (listOrd itemOrd) false fun p : TRow => keyToks p.2) T
  have nd' : ((sortT T).map Prod.snd).Nodup := ((sortT_perm T).map Prod.snd).nodup_iff.mpr nd
  have ne : (sortT T).Pairwise fun p q => p.2 ≠ q.2 := List.pairwise_map.mp nd'
  refine List.Pairwise.imp_of_mem (fun {p q} hp hq z => ?_) (srt.and ne)
  obtain ⟨z1, z2⟩ := z
  have mp := (sortT_perm T).mem_iff.mp hp
  have mq := (sortT_perm T).mem_iff.mp hq
  rcases dataLt_or (hal _ (List.mem_map_of_mem mp) _ (List.mem_map_of_mem mq)) z2 with c | c
  · exact c
  · exfalso
    have z3 : (!dataLt q.2 p.2) = true := z1
    rw [c] at z3
    exact absurd z3 (by decide)
/-- sorted of a set of tuples -/
theorem nsorted {a : Addr} {T : List TRow} {es : Array (Int × Value)} {ep : Nat} {t : SetTable} {Q : Value → Shared → Prop} (N : NSet w s.heap a (T.map TRow.n) es ep t) (hh : A.handled = none)
    (hr : ∀ p ∈ T, ∃ as, Reads s.heap p.r p.2 as) (hal : AllAlike (T.map Prod.snd)) (ht : ∀ p ∈ T, ∃ xs, p.2 = .tuple xs) (hu : ∀ p ∈ T, A.units + 4 + p.2.depth < cLine)
    (q : ∀ s' b c T', (∀ b o, s.heap.get? b = some o → s'.heap.get? b = some o) → s'.gens = s.gens → s'.os = s.os → s.heap.objs.size ≤ b → T'.Perm T → s'.heap.get? b = some (seqObj "list" ((sortT T').map TRow.r).toArray c) → Q (.ref b) s') :
    wpAny (model P w) A (call (.builtin "sorted") [.ref a]) Q E s := by
  obtain ⟨o, g, hex, hd⟩ := N.obj
  have few := N.small
  rw [List.length_map] at few
  refine Calls.call_function_entry kind_sorted plain_sorted entry_sorted (args_sorted1 _) ?_
  unfold Builtin.«sorted»
  refine wpAny_bind (m := checkCount "sorted" 1 1 _) (wpAny_pure ?_)
  refine wpAny_bind (collect_set (A := A.in1) hh ⟨o, g, hex.1, hd⟩ N.fits (by rw [N.size, List.length_map]; unfold scanBound; omega) N.tok.ris N.led fun s1 vs k1 hz g1 o1 pm => ?_)
  have e1 : es.toList.map (·.2) = T.map TRow.r := by
    rw [N.eqs]
    unfold nrows
    rw [List.map_map, List.map_map]
    first | rfl | done
  obtain ⟨T2, p2, rfl⟩ := perm_back pm T e1
  have len2 : (T2.map TRow.r).length < 64 := by rw [List.length_map, p2.length_eq]; exact few
  refine wpAny_bind (wpAny_newList ?_ (by rw [sizeLine_eq]; omega))
  have gL : (s1.heap.push (seqObj "list" (T2.map TRow.r).toArray 0)).get? s1.heap.objs.size = some (seqObj "list" (T2.map TRow.r).toArray 0) := Heap.get?_push_size _ rfl
  have rd : EachIs (fun v p => ∃ as, Reads (sortingHeap (s1.heap.push (seqObj "list" (T2.map TRow.r).toArray 0)) s1.heap.objs.size (T2.map TRow.r)) v p.2 as) (T2.map TRow.r) T2 :=
    each_rows T2 fun p hp => by
      obtain ⟨as, r⟩ := hr p (p2.mem_iff.mp hp)
      exact ⟨as, PyProof.Rows.Reads.keeps (fun b u e => by
        have z := k1 b u e
        exact sortingHeap_old (Nat.ne_of_lt (Heap.lt_size z)) (Heap.get?_push_of_some _ z)) r⟩
  have al2 : AllAlike (T2.map Prod.snd) := fun d hd e he => hal d ((p2.map Prod.snd).mem_iff.mp hd) e ((p2.map Prod.snd).mem_iff.mp he)
  have tp2 : ∀ d ∈ T2.map Prod.snd, ∃ xs, d = PyData.tuple xs := fun d hd => by
    obtain ⟨p, hp, rfl⟩ := List.mem_map.mp hd
    exact ht p (p2.mem_iff.mp hp)
  have u2 : ∀ d, d ∈ T2.map Prod.snd → A.in1.in1.units + d.depth < cLine := fun d hd => by
    obtain ⟨p, hp, rfl⟩ := List.mem_map.mp hd
    have z := hu p (p2.mem_iff.mp hp)
    simp only [Around.in1_units]
    omega
  have srt := sortsAt_tups (prog := P) (w := w) (A := A.in1.in1) (s := { s1 with heap := sortingHeap (s1.heap.push (seqObj "list" (T2.map TRow.r).toArray 0)) s1.heap.objs.size (T2.map TRow.r) }) (each_map (R := fun v d => ∃ as, Reads _ v d as) Prod.snd rd) al2 tp2 u2
  have out := rows_each (sortVals_data (R := fun v p => v = TRow.r p) (enc := Prod.snd) false (each_rows T2 fun p _ => rfl) rd al2)
  refine wpAny_bind (wpAny_holding (wpAny_call_entry slot_list_sort ⟨_, gL, rfl⟩ entry_list_sort (list_sort_vals (s := { s1 with heap := s1.heap.push (seqObj "list" (T2.map TRow.r).toArray 0) }) gL srt (by rw [sizeLine_eq]; omega) ⟨_, rfl, ?_⟩) (args_list_sort _)))
  rw [out]
  obtain ⟨c, hc⟩ := sortedHeap_at (vs := T2.map TRow.r) (out := ((T2.mergeSort (dataLe false Prod.snd)).map TRow.r).toArray) gL
  refine wpAny_pure ⟨_, rfl, q _ s1.heap.objs.size c T2 (fun b u e => ?_) g1 o1 hz p2 hc⟩
  have z := k1 b u e
  have lt := Heap.lt_size z
  show (sortedHeap (s1.heap.push (seqObj "list" (T2.map TRow.r).toArray 0)) s1.heap.objs.size (T2.map TRow.r) _).get? b = some u
  rw [sortedHeap_old (Nat.ne_of_lt lt) (by rw [size_push']; exact Nat.lt_succ_of_lt lt)]
  exact Heap.get?_push_of_some _ z
end
end L2

set_option Elab.async false
set_option linter.all false
set_option maxRecDepth 100000
set_option maxHeartbeats 4000000
/-! sets of nested tuples, and sorted lists of tuples: rules of the layer -/
namespace L2
open PySem PySem.W PySem.Spec PyProof.Rows
abbrev TRow.v (p : TRow) : V := .ref p.1
theorem tuple_ref {H : Hp} {v : V} {ds : List PyData} (h : Dat H v (.tuple ds)) : ∃ a, v = .ref a := by
  cases h with
  | tup _ _ => exact ⟨_, rfl⟩
theorem rows_of_dat {H : Hp} : ∀ {vs : List V} {ds : List PyData}, DatAll H vs ds → (∀ d ∈ ds, ∃ xs, d = .tuple xs) → ∃ T : List TRow, vs = T.map TRow.v ∧ ds = T.map Prod.snd ∧ ∀ p ∈ T, Dat H p.v p.2
  | _, _, .nil, _ => ⟨[], rfl, rfl, fun p hp => absurd hp (by simp)⟩
  | _, _, .cons (v := v) (d := d) h t, ht => by
    obtain ⟨T, rfl, rfl, h3⟩ := rows_of_dat t fun e he => ht e (List.mem_cons_of_mem _ he)
    obtain ⟨xs, rfl⟩ := ht d List.mem_cons_self
    obtain ⟨a, rfl⟩ := tuple_ref h
    refine ⟨(a, .tuple xs) :: T, rfl, rfl, fun p hp => ?_⟩
    rcases List.mem_cons.mp hp with rfl | hp
    · exact h
    · exact h3 p hp
theorem rows_vals : ∀ T : List TRow, Vals (T.map TRow.v) (T.map TRow.r)
  | [] => .nil
  | _ :: T => .cons rfl (rows_vals T)
theorem vals_rows : ∀ {T : List TRow} {us : List Value}, Vals (T.map TRow.v) us → us = T.map TRow.r
  | [], _, .nil => rfl
  | _ :: T, _, .cons r t => by
    cases (show _ = Value.ref _ from r)
    rw [vals_rows t, List.map_cons]
/-- what is asked of the data of tuples that are sorted -/
structure Sorty (T : List TRow) : Prop where
  alike : AllAlike (T.map Prod.snd)
  tup : ∀ p ∈ T, ∃ xs, p.2 = .tuple xs
  deep : ∀ p ∈ T, p.2.depth ≤ 8
theorem Sorty.sub {T T' : List TRow} (h : Sorty T) (s : ∀ p ∈ T', p ∈ T) : Sorty T' where
  alike := fun d hd e he => by
    obtain ⟨p, hp, rfl⟩ := List.mem_map.mp hd
    obtain ⟨q, hq, rfl⟩ := List.mem_map.mp he
    exact h.alike _ (List.mem_map_of_mem (s p hp)) _ (List.mem_map_of_mem (s q hq))
  tup := fun p hp => h.tup p (s p hp)
  deep := fun p hp => h.deep p (s p hp)
/-- the set at a, without its members -/
structure NSet0 (w : World) (h : Heap) (a : Addr) (L : List NRow) : Prop where
  ex : ∃ (es : Array (Int × Value)) (ep : Nat) (t : SetTable), (∃ o, h.get? a = some o ∧ o.ExactSet ∧ o.data = .set es ep t) ∧ es.toList = nrows w L ∧ TabOk t (hashesN w L) ∧ (L.map Prod.snd).Nodup ∧
    (w.params.followText "set-order" = true ∨ t.led = true) ∧ L.length * 5 < t.mask * 3 ∧ L.length < 64
def SetNO (w : World) (a : Addr) (L : List NRow) : HO := .ext fun h => NSet0 w h a L
theorem NSet.less {w : World} {h : Heap} {a : Addr} {L : List NRow} {es : Array (Int × Value)} {ep : Nat} {t : SetTable} (N : NSet w h a L es ep t) : NSet0 w h a L := ⟨es, ep, t, N.obj, N.eqs, N.tok, N.dif, N.led, N.gap, N.small⟩
theorem NSet0.full {w : World} {h : Heap} {a : Addr} {L : List NRow} (N : NSet0 w h a L) (hk : ∀ r ∈ L, TupKey h r.2 r.1) : ∃ es ep t, NSet w h a L es ep t := by
  obtain ⟨es, ep, t, h1, h2, h3, h4, h5, h6, h7⟩ := N.ex
  exact ⟨es, ep, t, h1, h2, h3, h4, hk, h5, h6, h7⟩
theorem setNO_ok {P : Program} {w : World} {H : Hp} {h : Heap} {a : Addr} {L : List NRow} (N : NSet0 w h a L) : ObjOk P w H h a (SetNO w a L) := by
  obtain ⟨es, ep, t, ⟨o, g, r⟩, z⟩ := N.ex
  refine ⟨N, ⟨o, g⟩, fun h1 h2 p k => ?_⟩
  obtain ⟨es', ep', t', ⟨o', g', r'⟩, z'⟩ := NSet0.ex p
  exact ⟨es', ep', t', ⟨o', k o' g', r'⟩, z'⟩
section
variable {X : Cx}
theorem Inv.reads {pins : List (Addr × Obj)} {σ : St} {H : Hp} {s : Shared} (I : Inv X pins σ H s) {p : TRow} (d : Dat H p.v p.2) : ∃ as, Reads s.heap p.r p.2 as := reads_of_dat I.hok d rfl
theorem tupKey_of {h : Heap} {p : TRow} (r : ∃ as, Reads h p.r p.2 as) (k : keyable p.2 = true) (z : p.2.depth ≤ 8) : TupKey h (nkey p.2) p.1 := by
  obtain ⟨as, r⟩ := r
  exact ⟨nkey_is _ _ as k r, by rw [nkey_depth _ k]; exact z⟩
/-- set(xs), xs a list of nested tuples -/
def rSetN (K : PySem.W.Frag) (w : World) : List V → Hp → VK → Prop := fun xs H Q => ∃ (l : Addr) (T : List TRow), xs = [V.ref l] ∧ SqL K H l (T.map TRow.v) ∧ (∀ p ∈ T, Dat H p.v p.2) ∧ Sorty T ∧ (∀ p ∈ T, keyable p.2 = true) ∧ T.length < 64 ∧
  ∀ (a : Addr) (T' : List TRow), H a = none → (∀ p ∈ T', p ∈ T) → (∀ p ∈ T, p.2 ∈ T'.map Prod.snd) → (T'.map Prod.snd).Nodup → Q (.ref a) (upd H a (SetNO w a (T'.map TRow.n)))
theorem cr_setN (hc : X.calm = true) (hu : X.A.units + 64 < cLine) : CallR X (.type "set") (rSetN X.K X.w) := by
  intro pins s σ H xs us Q I r h
  obtain ⟨l, T, rfl, hl, hd, so, hk, few, q⟩ := h
  rw [Vals.ref1 r]
  obtain ⟨its, rv, pl, hz⟩ := I.list hl
  have e1 : its = T.map TRow.r := vals_rows rv
  have fresh : H s.heap.objs.size = none := I.hok.fresh (Nat.le_refl _)
  have keys : ∀ r ∈ T.map TRow.n, TupKey s.heap r.2 r.1 := fun r hr => by
    obtain ⟨p, hp, rfl⟩ := List.mem_map.mp hr
    exact tupKey_of (I.reads (hd p hp)) (hk p hp) (so.deep p hp)
  refine nset_call (P := X.prog) (w := X.w) (T.map TRow.n) (I.ok.hd hc) pl.isList (by rw [e1, List.map_map]; first | rfl | done) keys (by rw [List.length_map]; exact few) (by omega) fun s' hm => ?_
  obtain ⟨h', tk, L, es, ep, t, rfl, N, g, ext⟩ := hm
  have sub : ∀ r ∈ L, r ∈ T.map TRow.n := fun r hr => List.mem_of_mem_take (g.only r hr)
  obtain ⟨T', rfl, sub'⟩ := sub_back L sub
  refine ⟨.ref s.heap.objs.size, upd H s.heap.objs.size (SetNO X.w s.heap.objs.size (T'.map TRow.n)), I.laid (t' := tk) ext (Nat.le_refl _) (setNO_ok N.less), rfl, q _ T' fresh sub' (fun p hp => ?_) ?_⟩
  · have z := g.every p.n (by rw [List.take_length]; exact List.mem_map_of_mem hp)
    rw [List.map_map] at z
    obtain ⟨p', hp', e⟩ := List.mem_map.mp z
    have e2 : nkey p'.2 = nkey p.2 := e
    have mp' := sub' p' hp'
    rw [← nkey_inj _ _ (hk p' mp') (hk p hp) (so.alike _ (List.mem_map_of_mem mp') _ (List.mem_map_of_mem hp)) e2]
    exact List.mem_map_of_mem hp'
  · have z := N.dif
    rw [List.map_map] at z
    have z2 : ((T'.map Prod.snd).map nkey).Nodup := by
      rw [List.map_map]
      exact z
    exact nodup_of_map z2
/-- sorted(set), the members nested tuples -/
def rSortN (w : World) : List V → Hp → VK → Prop := fun vs H Q => ∃ (a : Addr) (T : List TRow), vs = [V.ref a] ∧ H a = some (SetNO w a (T.map TRow.n)) ∧ (∀ p ∈ T, Dat H p.v p.2) ∧ Sorty T ∧ (∀ p ∈ T, keyable p.2 = true) ∧
  ∀ (T' : List TRow) (b : Addr), T'.Perm T → (T'.Pairwise fun p q => dataLt p.2 q.2 = true) → H b = none → Q (.ref b) (upd H b (.lst (T'.map TRow.v)))
theorem cr_sortN (hc : X.calm = true) (hu : X.A.units + 64 < cLine) : CallR X (.builtin "sorted") (rSortN X.w) := by
  intro pins s σ H vs us Q I r h
  obtain ⟨a, T, rfl, ha, hd, so, hk, q⟩ := h
  have N0 : NSet0 X.w s.heap a (T.map TRow.n) := (I.hok a _ ha).1
  obtain ⟨es, ep, t, N⟩ := N0.full fun r hr => by
    obtain ⟨p, hp, rfl⟩ := List.mem_map.mp hr
    exact tupKey_of (I.reads (hd p hp)) (hk p hp) (so.deep p hp)
  rw [Vals.ref1 r]
  have nd : (T.map Prod.snd).Nodup := by
    have z := N.dif
    rw [List.map_map] at z
    have z2 : ((T.map Prod.snd).map nkey).Nodup := by
      rw [List.map_map]
      exact z
    exact nodup_of_map z2
  have few := N.small
  rw [List.length_map] at few
  refine nsorted N (I.ok.hd hc) (fun p hp => I.reads (hd p hp)) so.alike so.tup (fun p hp => by have := so.deep p hp; omega) fun s' b c T' k g o hb pm hc' => ?_
  have pm2 : (sortT T').Perm T := (sortT_perm T').trans pm
  have so' : Sorty T' := so.sub fun p hp => pm.mem_iff.mp hp
  have fresh : H b = none := I.hok.fresh hb
  have J : Inv X pins σ (upd H b (.lst ((sortT T').map TRow.v))) { s with heap := s'.heap, gens := s'.gens, drawn := s'.drawn, toks := s'.toks } :=
    I.call (ch := []) (Un.laid k hb fresh) (I.hok.laid k hb ⟨by rw [List.length_map, pm2.length_eq, sizeLine_eq]; omega, _, c, rows_vals _, hc'⟩) (by rw [g]; exact I.bare) (fun _ z => nomatch z)
  have e : s' = { s with heap := s'.heap, gens := s'.gens, drawn := s'.drawn, toks := s'.toks } := by
    cases s'
    cases s
    cases o
    rfl
  rw [e]
  exact ⟨.ref b, _, J, rfl, q (sortT T') b pm2 (sortT_up T' so'.alike ((pm.map Prod.snd).nodup_iff.mpr nd)) fresh⟩
end
end L2

set_option Elab.async false
set_option linter.all false
set_option maxRecDepth 100000
set_option maxHeartbeats 4000000
/-! sorted(list) of tuples of any lengths -/
namespace L2
open PySem PySem.W PySem.Spec PyProof.Rows
theorem sortT_le (T : List TRow) : (sortT T).Pairwise fun p q => dataLt q.2 p.2 = false := by
  have srt : (sortT T).Pairwise fun p q => dataLe false Prod.snd p q = true := sort_pairwise (sortLe_total (listOrd itemOrd) false fun p : TRow => keyToks p.2) T
  refine srt.imp fun {p q} z => ?_
  have z3 : (!dataLt q.2 p.2) = true := z
  cases c : dataLt q.2 p.2 with
  | false => rfl
  | true =>
    rw [c] at z3
    exact absurd z3 (by decide)
section
variable {X : Cx}
/-- sorted(xs), xs a list of tuples -/
def rSortL (K : PySem.W.Frag) : List V → Hp → VK → Prop := fun vs H Q => ∃ (l : Addr) (T : List TRow), vs = [V.ref l] ∧ SqL K H l (T.map TRow.v) ∧ (∀ p ∈ T, Dat H p.v p.2) ∧ Sorty T ∧
  ∀ (T' : List TRow) (b : Addr), T'.Perm T → (T'.Pairwise fun p q => dataLt q.2 p.2 = false) → ((T.map Prod.snd).Nodup → T'.Pairwise fun p q => dataLt p.2 q.2 = true) → H b = none → Q (.ref b) (upd H b (.lst (T'.map TRow.v)))
theorem cr_sortL (hu : X.A.units + 64 < cLine) : CallR X (.builtin "sorted") (rSortL X.K) := by
  intro pins s σ H vs us Q I r h
  obtain ⟨l, T, rfl, hl, hd, so, q⟩ := h
  rw [Vals.ref1 r]
  obtain ⟨its, rv, pl, hz⟩ := I.list hl
  have e1 : its = T.map TRow.r := vals_rows rv
  subst e1
  rw [List.length_map] at hz
  have rd : EachIs (fun v p => ∃ as, Reads (sortingHeap (copyHeap s.heap (T.map TRow.r)) (s.heap.objs.size + 1) (T.map TRow.r)) v p.2 as) (T.map TRow.r) T :=
    each_rows T fun p hp => by
      obtain ⟨as, z⟩ := I.reads (hd p hp)
      exact ⟨as, PyProof.Rows.Reads.keeps (fun _ _ => sorting_copy_old) z⟩
  have tp : ∀ d ∈ T.map Prod.snd, ∃ xs, d = PyData.tuple xs := fun d z => by
    obtain ⟨p, hp, rfl⟩ := List.mem_map.mp z
    exact so.tup p hp
  have un : ∀ d, d ∈ T.map Prod.snd → X.A.in1.in1.units + d.depth < cLine := fun d z => by
    obtain ⟨p, hp, rfl⟩ := List.mem_map.mp z
    have z := so.deep p hp
    simp only [Around.in1_units]
    omega
  have srt := sortsAt_tups (prog := X.prog) (w := X.w) (A := X.A.in1.in1) (s := { s with heap := sortingHeap (copyHeap s.heap (T.map TRow.r)) (s.heap.objs.size + 1) (T.map TRow.r) }) (each_map (R := fun v d => ∃ as, Reads _ v d as) Prod.snd rd) so.alike tp un
  have out := rows_each (sortVals_data (R := fun v p => v = TRow.r p) (enc := Prod.snd) false (each_rows T fun p _ => rfl) rd so.alike)
  refine sorted_vals pl.isList srt (by rw [List.length_map]; exact hz) ?_
  rw [out]
  obtain ⟨c, hc⟩ := PyProof.Rows.sortedAll_at s.heap (T.map TRow.r) ((sortT T).map TRow.r).toArray
  have fresh : H (s.heap.objs.size + 1) = none := I.hok.fresh (Nat.le_succ _)
  exact ⟨.ref _, upd H (s.heap.objs.size + 1) (.lst ((sortT T).map TRow.v)), I.laid (t' := s.toks) (fun _ _ => PyProof.Rows.sortedAll_old) (Nat.le_succ _) ⟨by rw [List.length_map, (sortT_perm T).length_eq]; exact hz, _, c, rows_vals _, hc⟩, rfl,
    q (sortT T) _ (sortT_perm T) (sortT_le T) (sortT_up T so.alike) fresh⟩
end
end L2

set_option Elab.async false
set_option linter.all false
set_option maxRecDepth 100000
set_option maxHeartbeats 4000000
namespace S1
open PySem PySem.Spec PyProof.Rows L2
def topS (i : Nat) : Stmt := PySem.Challenge.pw_onlyseen_k01_sayings_clauses_plays_and_a.main.body.getD i (.Pass ⟨0, 0, 0, 0⟩)
abbrev sIsTruth : Stmt := topS 10
abbrev sIsTuple : Stmt := topS 11
abbrev sIsPair : Stmt := topS 12
abbrev sIsRising : Stmt := topS 13
abbrev sIsName : Stmt := topS 14
abbrev sIsLetter : Stmt := topS 15
abbrev sIsAnyClause : Stmt := topS 16
abbrev sAreNames : Stmt := topS 17
abbrev sIsSight : Stmt := topS 18
abbrev sIsOwn : Stmt := topS 19
abbrev sAreOwns : Stmt := topS 20
abbrev sIsClauseOver : Stmt := topS 21
abbrev sAreClauses : Stmt := topS 22
abbrev sNamesOf : Stmt := topS 23
abbrev sFitsSaying : Stmt := topS 24
abbrev sFitsClause : Stmt := topS 25
abbrev sAreTruths : Stmt := topS 26
abbrev sFitsPlay : Stmt := topS 27
abbrev sFitsAnswers : Stmt := topS 28
abbrev sWantSaying : Stmt := topS 31
abbrev sIsSaying : Stmt := topS 33
abbrev sIsClause : Stmt := topS 34
abbrev sIsPlay : Stmt := topS 35
abbrev sIsAnswers : Stmt := topS 36
abbrev sSource : Stmt := topS 38
abbrev sPick : Stmt := topS 39
abbrev sWords : Stmt := topS 40
abbrev sClause : Stmt := topS 41
abbrev sSome : Stmt := topS 42
abbrev sSaying : Stmt := topS 43
abbrev sLDrawn : Stmt := topS 44
abbrev sJWord : Stmt := topS 45
abbrev sJWords : Stmt := topS 46
abbrev sJRow : Stmt := topS 47
abbrev sJClause : Stmt := topS 48
abbrev sJOwn : Stmt := topS 49
abbrev sJSaying : Stmt := topS 50
abbrev sOdd : Stmt := topS 51
abbrev sBent : Stmt := topS 52
abbrev sLast : Stmt := topS 53
abbrev sWide : Stmt := topS 54
abbrev sJudged : Stmt := topS 55
abbrev sRight : Stmt := topS 56
abbrev sLaw : Stmt := topS 57
end S1

set_option Elab.async false
set_option linter.all false
set_option maxRecDepth 100000
set_option maxHeartbeats 4000000
namespace S1
open PySem PySem.Spec PyProof.Rows L2
/-- the built-in names that the text leaves as they are -/
structure Blt (mg : Str → Option Value) : Prop where
  len : mg "len" = none
  sum : mg "sum" = none
  int : mg "int" = none
  max : mg "max" = none
  min : mg "min" = none
  abs : mg "abs" = none
  str : mg "str" = none
  bool : mg "bool" = none
  dict : mg "dict" = none
  list : mg "list" = none
  set : mg "set" = none
  tuple : mg "tuple" = none
  sorted : mg "sorted" = none
  zip : mg "zip" = none
  all : mg "all" = none
  range : mg "range" = none
  isi : mg "isinstance" = none
/-- a def as the text leaves it: at f, under its name -/
structure Has (K : PySem.W.Frag) (mg : Str → Option Value) (x : Str) (st : Stmt) (ps : List Str) (f : Addr) (fd : FuncData) : Prop where
  F : Fun K x x st f fd
  g : mg x = some (.ref f)
  b : Binds K fd ps []
/-- the draws of one cell at p: the digits left, the mixed number, how many have been mixed -/
structure Src (H : Hp) (p : Addr) (c : Nat) : Prop where
  at_ : ∃ a b d : Int, H p = some (.lst [.int a, .int b, .int d]) ∧ 0 ≤ b ∧ b < 2 ^ 100 ∧ 0 ≤ d ∧ d ≤ c
theorem Src.mono {H H' : Hp} {p : Addr} {c c' : Nat} (h : Src H p c) (e : H' p = H p) (hc : c ≤ c') : Src H' p c' := by
  obtain ⟨a, b, d, h1, h2, h3, h4, h5⟩ := h
  exact ⟨a, b, d, e.trans h1, h2, h3, h4, by omega⟩
theorem Src.ne {H : Hp} {p l : Addr} {c : Nat} (h : Src H p c) (e : H l = none) : p ≠ l := by
  obtain ⟨a, b, d, h1, _⟩ := h
  exact ne_of_none h1 e
theorem same_new {H : Hp} {p : Addr} {o : HO} (h : H p = none) : Same H (upd H p o) := fun b u e => by
  rw [upd_ne (ne_of_none e h)]
  exact e
theorem same_upd {H H' : Hp} {p : Addr} {o : HO} (s : Same H H') (h : H p = none) : Same H (upd H' p o) := fun b u e => by
  rw [upd_ne (ne_of_none e h)]
  exact s _ _ e
theorem yes_of {σ : L2.St} {H : Hp} {A B : Hp → Prop} (h : A H) : tYes σ H (fun b H3 => if b = true then A H3 else B H3) := by
  show if true = true then A H else B H
  rw [if_pos rfl]
  exact h
theorem at_ok {xs : List V} {r : Int} (h0 : 0 ≤ r) (h1 : r < xs.length) : ∃ v, atI xs r = some v ∧ v ∈ xs ∧ xs[r.toNat]? = some v := by
  have hl : r.toNat < xs.length := by omega
  refine ⟨xs[r.toNat], ?_, List.getElem_mem _, List.getElem?_eq_getElem hl⟩
  have z := atI_nat (List.getElem?_eq_getElem hl)
  rw [Int.toNat_of_nonneg h0] at z
  exact z
def spSource (K : PySem.W.Frag) : Sp := fun vs H Q _ => ∃ (a : Addr) (ns : List Int) (k : Int), vs = [.ref a, .int k] ∧ SqL K H a (ns.map V.int) ∧ ns.length ≤ 63 ∧ 0 ≤ k ∧ k < 1000 ∧
  ∀ (p : Addr) (H' : Hp), H p = none → Same H H' → Src H' p 0 → Q (.ref p) H'
def spPick : Sp := fun vs H Q _ => ∃ (p : Addr) (c : Nat) (m : Int), vs = [.ref p, .int m] ∧ Src H p c ∧ c ≤ 100000 ∧ 0 < m ∧ m < 2 ^ 100 ∧
  ∀ (r : Int) (o : HO), 0 ≤ r → r < m → Src (upd H p o) p (c + 1) → Q (.int r) (upd H p o)
theorem len_ints {ns : List Int} : (ns.map V.int).length = ns.length := List.length_map ..
theorem get_ints {ns : List Int} {i : Nat} {x : V} (h : (ns.map V.int)[i]? = some x) : ∃ z, ns[i]? = some z ∧ x = V.int z := by
  rw [List.getElem?_map] at h
  cases e : ns[i]? with
  | none => rw [e] at h; cases h
  | some z => rw [e] at h; exact ⟨z, rfl, (Option.some.inj h).symm⟩
section
variable {P : Program} {w : World} {K : PySem.W.Frag} {mg : Str → Option Value} {base : Heap}
abbrev mx (b d : Int) : Int := (b + 899809363 * d * d + 32416190071 * d) % (10 ^ (29 : Int).toNat + 319)
abbrev my (x d : Int) : Int := (x * x * x + d) % (10 ^ (31 : Int).toNat + 33)
theorem mx_lt (b d : Int) : (mx b d).natAbs < 2 ^ 100 := by
  have m29 : (0 : Int) < 10 ^ (29 : Int).toNat + 319 := by decide +kernel
  have n29 : (10 : Int) ^ (29 : Int).toNat + 319 ≤ 2 ^ 100 := by decide +kernel
  have h0 : 0 ≤ mx b d := Int.emod_nonneg _ (by omega)
  have h1 : mx b d < 2 ^ 100 := Int.lt_of_lt_of_le (Int.emod_lt_of_pos _ m29) n29
  omega
theorem my_lt (x d : Int) : (my x d).natAbs < 2 ^ 105 ∧ (my x d + 104717).natAbs < 2 ^ 105 := by
  have m31 : (0 : Int) < 10 ^ (31 : Int).toNat + 33 := by decide +kernel
  have n31 : (10 : Int) ^ (31 : Int).toNat + 33 ≤ 2 ^ 104 := by decide +kernel
  have h0 : 0 ≤ my x d := Int.emod_nonneg _ (by omega)
  have h1 : my x d < 2 ^ 104 := Int.lt_of_lt_of_le (Int.emod_lt_of_pos _ m31) n31
  exact ⟨by omega, by omega⟩
theorem ite_int {c : Prop} [Decidable c] {ta tb : TE} {σ : L2.St} {H : Hp} {Q : VK} (R : ∀ i : Int, Q (.int i) H) (h1 : c → (∀ i : Int, Q (.int i) H) → ta σ H Q) (h2 : ¬ c → (∀ i : Int, Q (.int i) H) → tb σ H Q) : if c then ta σ H Q else tb σ H Q := by
  by_cases h : c
  · rw [if_pos h]; exact h1 h R
  · rw [if_neg h]; exact h2 h R
theorem scSource : FnScope ["script", "k", "cell", "total", "other"] ["script", "k"] (defScope sSource) := ⟨rfl, rfl, rfl, by decide +kernel, rfl, by decide +kernel, by decide +kernel⟩
theorem scPick : FnScope ["source", "top", "found", "mixed"] ["source", "top"] (defScope sPick) := ⟨rfl, rfl, rfl, by decide +kernel, rfl, by decide +kernel, by decide +kernel⟩
theorem ok_pick {f : Addr} {fd : FuncData} (F : Fun K "_law_pick" "_law_pick" sPick f fd) (B : Blt mg) : FnOk P w K mg base CX0 1 f fd ["source", "top"] spPick := by
  refine F.ok scPick (fun vs H Q E h => ?_) (fun cdv A outer s H vs Q E hr h => ?_)
  · obtain ⟨p, c, m, rfl, _⟩ := h
    rfl
  · obtain ⟨p, c, m, rfl, ⟨a, b, d, hp, hb0, hb1, hd0, hd1⟩, hc, hm0, hm1, q⟩ := h
    refine ⟨_, pss_cons (ps_if (pt_cmpR op_gt (pe_ix ix_list (pv 0) pe_int (fun _ _ => rfl)) pe_int (nomark _))
        (pss_cons (ps_set (i := 2) scPick.nd rfl (.inl rfl) (pe_op op_mod (pe_callTy call_int1 (by rfl) B.int (by decide +kernel) (pa_cons (pe_ix ix_list (pv 0) pe_int (fun _ _ => rfl)) pa_nil)) (pv 1)))
        (pss_cons (ps_asg (pe_op op_fdivW (pe_ix ix_list (pv 0) pe_int (fun _ _ => rfl)) (pv 1)) (pg_sub (pv 0) pe_int set_list))
        (pss_one (ps_ret (pv 2))))) pss_nil)
      (pss_cons (ps_asg (pe_op op_add (pe_ix ix_list (pv 0) pe_int (fun _ _ => rfl)) pe_int) (pg_sub (pv 0) pe_int set_list))
      (pss_cons (ps_set (i := 3) scPick.nd rfl (.inl rfl) (pe_op op_mod (pe_callTy call_int1 (by rfl) B.int (by decide +kernel)
          (pa_cons (pe_op op_add (pe_op op_add (pe_ix ix_list (pv 0) pe_int (fun _ _ => rfl)) (pe_op op_mulW (pe_op op_mulW pe_int (pe_ix ix_list (pv 0) pe_int (fun _ _ => rfl))) (pe_ix ix_list (pv 0) pe_int (fun _ _ => rfl))))
            (pe_op op_mulW pe_int (pe_ix ix_list (pv 0) pe_int (fun _ _ => rfl)))) pa_nil)) (pe_op op_add (pe_op op_pow pe_int pe_int) pe_int)))
      (pss_cons (ps_set (i := 3) scPick.nd rfl (.inl rfl) (pe_op op_mod (pe_callTy call_int1 (by rfl) B.int (by decide +kernel)
          (pa_cons (pe_op op_add (pe_op op_mulW (pe_op op_mulW (pv 3) (pv 3)) (pv 3)) (pe_ix ix_list (pv 0) pe_int (fun _ _ => rfl))) pa_nil)) (pe_op op_add (pe_op op_pow pe_int pe_int) pe_int)))
      (pss_one (ps_ret (pe_op op_mod (pe_op op_fdiv (pe_op op_mod (pe_callTy call_int1 (by rfl) B.int (by decide +kernel) (pa_cons (pe_op op_mulW (pv 3) (pe_op op_add (pv 3) pe_int)) pa_nil)) (pe_op op_add (pe_op op_pow pe_int pe_int) pe_int)) pe_int) (pv 1))))))), ?_⟩
    have hh := SqL.of (K := K) hp
    refine ⟨_, rfl, p, _, 0, _, rfl, rfl, hh, rfl, _, _, rfl, rfl, _, rfl, ?_⟩
    refine ite2 (fun ha => ?_) (fun _ => ?_)
    · have ha0 : 0 < a := of_decide_eq_true ha
      refine ⟨_, rfl, p, _, 0, _, rfl, rfl, hh, rfl, .inl ⟨_, rfl, _, rfl, _, _, rfl, rfl, hm0, ?_⟩⟩
      refine ⟨_, rfl, p, _, 0, _, rfl, rfl, hh, rfl, _, rfl, _, _, rfl, rfl, wide_div (b := 100) hm0 (by omega) (by decide) (by decide), _, rfl, p, _, 0, 0, rfl, rfl, hp, rfl, _, rfl, ?_⟩
      exact q _ _ (Int.emod_nonneg _ (by omega)) (Int.emod_lt_of_pos _ hm0) ⟨_, _, _, upd_same, hb0, hb1, hd0, by omega⟩
    · refine ⟨_, rfl, p, _, 2, _, rfl, rfl, hh, rfl, _, _, rfl, rfl, _, rfl, p, _, 2, 2, rfl, rfl, hp, rfl, ?_⟩
      have hp' : (upd H p (HO.lst ([V.int a, V.int b, V.int d].set 2 (V.int (d + 1))))) p = some (.lst [V.int a, V.int b, V.int (d + 1)]) := upd_same
      have hh' := SqL.of (K := K) hp'
      have m29 : (0 : Int) < 10 ^ (29 : Int).toNat + 319 := by decide +kernel
      have m31 : (0 : Int) < 10 ^ (31 : Int).toNat + 33 := by decide +kernel
      have n31 : (10 : Int) ^ (31 : Int).toNat + 33 ≤ 2 ^ 104 := by decide +kernel
      have n29 : (10 : Int) ^ (29 : Int).toNat + 319 ≤ 2 ^ 100 := by decide +kernel
      have m32 : (0 : Int) < 10 ^ (32 : Int).toNat + 49 := by decide +kernel
      have n32 : (10 : Int) ^ (32 : Int).toNat + 49 ≤ 2 ^ 110 := by decide +kernel
      have e1 : (899809363 * (d + 1)).natAbs < 2 ^ 60 := by omega
      have e2 : (d + 1).natAbs < 2 ^ 20 := by omega
      have e3 : (32416190071 : Int).natAbs < 2 ^ 60 := by decide
      have e4 : (899809363 : Int).natAbs < 2 ^ 60 := by decide
      refine ⟨_, rfl, p, _, 1, _, rfl, rfl, hh', rfl, _, rfl, p, _, 2, _, rfl, rfl, hh', rfl, _, _, rfl, rfl, wide_mul e4 e2 (by decide) (by decide) (by decide), _, rfl, p, _, 2, _, rfl, rfl, hh', rfl, _, _, rfl, rfl, wide_mul e1 e2 (by decide) (by decide) (by decide), _, _, rfl, rfl, _, rfl, p, _, 2, _, rfl, rfl, hh', rfl, _, _, rfl, rfl, wide_mul e3 e2 (by decide) (by decide) (by decide), _, _, rfl, rfl, .inl ⟨_, rfl, ?_⟩⟩
      refine ⟨_, _, rfl, rfl, ⟨by decide, by decide, by decide⟩, _, _, rfl, rfl, _, _, rfl, rfl, m29, ?_⟩
      have f1 := mx_lt b (d + 1)
      have f2 : (mx b (d + 1) * mx b (d + 1)).natAbs < 2 ^ (100 + 100) := wide_lt f1 f1
      refine ⟨_, rfl, _, rfl, _, _, rfl, rfl, wide_mul (a := 100) (b := 100) f1 f1 (by decide) (by decide) (by decide), _, rfl, _, _, rfl, rfl, wide_mul (a := 200) (b := 100) f2 f1 (by decide) (by decide) (by decide), _, rfl, p, _, 2, _, rfl, rfl, hh', rfl, _, _, rfl, rfl, .inl ⟨_, rfl, ?_⟩⟩
      refine ⟨_, _, rfl, rfl, ⟨by decide, by decide, by decide⟩, _, _, rfl, rfl, _, _, rfl, rfl, m31, ?_⟩
      obtain ⟨g1, g2⟩ := my_lt (mx b (d + 1)) (d + 1)
      refine ⟨_, rfl, _, rfl, _, _, rfl, rfl, _, _, rfl, rfl, wide_mul (a := 105) (b := 105) g1 g2 (by decide) (by decide) (by decide), .inl ⟨_, rfl, ?_⟩⟩
      refine ⟨_, _, rfl, rfl, ⟨by decide, by decide, by decide⟩, _, _, rfl, rfl, _, _, rfl, rfl, m32, _, _, rfl, rfl, ⟨by decide, by decide⟩, _, rfl, _, _, rfl, rfl, hm0, ?_⟩
      exact q _ _ (Int.emod_nonneg _ (by omega)) (Int.emod_lt_of_pos _ hm0) ⟨_, _, _, upd_same, hb0, hb1, by omega, by omega⟩
theorem ok_source {f : Addr} {fd : FuncData} (F : Fun K "_law_source" "_law_source" sSource f fd) (B : Blt mg) : FnOk P w K mg base CX0 1 f fd ["script", "k"] (spSource K) := by
  refine F.ok scSource (fun vs H Q E h => ?_) (fun cdv A outer s H vs Q E hr h => ?_)
  · obtain ⟨a, ns, k, rfl, _⟩ := h
    rfl
  · obtain ⟨a, ns, k, rfl, hS, hlen, hk, hk1, q⟩ := h
    refine ⟨_, pss_cons (ps_set (i := 2) scSource.nd rfl (.inl rfl) (pe_ifExp (pt_cmpR op_lt (pv 1) (pe_callB call_len_seq (by rfl) B.len (by decide +kernel) (pa_cons (pv 0) pa_nil)) (nomark _))
        (pe_ix ix_list (pv 0) (pv 1) (fun _ _ => rfl)) (pe_op op_add (pe_op op_mul pe_int (pv 1)) pe_int)))
      (pss_cons (ps_set (i := 3) scSource.nd rfl (.inl rfl) (pe_callB call_len_seq (by rfl) B.len (by decide +kernel) (pa_cons (pv 0) pa_nil)))
      (pss_cons (ps_for PassesOwn.never rfl (pi_list (pv 0)) (pg_name (i := 4) scSource.nd rfl (.inl rfl)) (pss_one (ps_set (i := 3) scSource.nd rfl (.inl rfl)
        (pe_op op_mod (pe_callTy call_int1 (by rfl) B.int (by decide +kernel) (pa_cons (pe_op op_add (pe_op op_mul (pv 3) pe_int) (pe_op op_mod (pe_callTy call_int1 (by rfl) B.int (by decide +kernel) (pa_cons (pv 4) pa_nil))
          (pe_op op_add (pe_op op_pow pe_int pe_int) pe_int))) pa_nil)) (pe_op op_add (pe_op op_pow pe_int pe_int) pe_int)))))
      (pss_one (ps_ret (pe_lst (pa_cons (pe_callB (call_max2 rfl) (by rfl) B.max (by decide +kernel) (pa_cons pe_int (pa_cons (pe_op op_sub (pv 2) (pe_op op_pow pe_int pe_int)) pa_nil)))
        (pa_cons (pe_op op_mod (pe_callTy call_int1 (by rfl) B.int (by decide +kernel) (pa_cons (pe_op op_add (pe_op op_add (pe_op op_add (pe_op op_mul (pe_callB call_abs (by rfl) B.abs (by decide +kernel) (pa_cons (pv 2) pa_nil)) pe_int)
            (pe_op op_mul pe_int (pv 3))) (pe_callTy call_int1 (by rfl) B.int (by decide +kernel) (pa_cons (pe_cmpR op_lt (pv 2) pe_int (nomark _)) pa_nil))) (pe_op op_mul pe_int (pv 1))) pa_nil))
          (pe_op op_add (pe_op op_pow pe_int pe_int) pe_int))
        (pa_cons pe_int pa_nil)))))))), ?_⟩
    have p20 : (0 : Int) < 10 ^ (20 : Int).toNat + 39 := by decide +kernel
    have p26 : (0 : Int) < 10 ^ (26 : Int).toNat + 67 := by decide +kernel
    have p29 : (0 : Int) < 10 ^ (29 : Int).toNat + 319 := by decide +kernel
    have q29 : (10 : Int) ^ (29 : Int).toNat + 319 ≤ 2 ^ 100 := by decide +kernel
    refine ⟨_, rfl, _, rfl, _, _, rfl, .inl hS, _, _, rfl, rfl, _, rfl, ?_⟩
    refine ite_int (fun cell => ?_) (fun hlt R => ?_) (fun _ R => ?_)
    · refine ⟨_, rfl, _, _, rfl, .inl hS, _, rfl, a, rfl, ⟨_, hS⟩, for_list (K := K) (a := a) (xs := ns.map V.int) (fun i σ H' => ∃ (total : Int) (o : Option V), σ = [some (.ref a), some (.int k), some (.int cell), some (.int total), o] ∧ H' = H)
        ⟨_, _, rfl, rfl⟩ (fun i σ H' _ ⟨_, _, _, e⟩ => e ▸ hS) ?_ ?_⟩
      · rintro i x σ H' hx ⟨total, o, rfl, rfl⟩
        obtain ⟨z, hz, rfl⟩ := get_ints hx
        refine ⟨_, rfl, _, _, rfl, rfl, .inr ⟨by decide, by decide⟩, _, rfl, .inl ⟨_, rfl, ?_⟩⟩
        refine ⟨_, _, rfl, rfl, ⟨by decide, by decide, by decide⟩, _, _, rfl, rfl, _, _, rfl, rfl, p20, _, _, rfl, rfl, .inl ⟨_, rfl, _, _, rfl, rfl, ⟨by decide, by decide, by decide⟩, _, _, rfl, rfl, _, _, rfl, rfl, p26, ?_⟩⟩
        exact ⟨_, _, rfl, rfl⟩
      · rintro σ H' ⟨total, o, rfl, rfl⟩
        refine ⟨_, rfl, _, _, rfl, rfl, ⟨by decide, by decide, by decide⟩, _, _, rfl, rfl, _, _, rfl, ?_⟩
        refine ⟨_, rfl, _, rfl, _, _, rfl, rfl, .inr ⟨by decide, by decide⟩, _, rfl, _, _, rfl, rfl, .inl ⟨by decide, by decide⟩, _, _, rfl, rfl, ?_⟩
        refine ⟨_, rfl, _, _, rfl, rfl, .inr ⟨_, rfl, _, _, rfl, rfl, _, rfl, _, _, rfl, rfl, .inl ⟨by decide, by decide⟩, _, _, rfl, rfl, .inl ⟨_, rfl, ?_⟩⟩⟩
        refine ⟨_, _, rfl, rfl, ⟨by decide, by decide, by decide⟩, _, _, rfl, rfl, _, _, rfl, rfl, p29, (by show 3 ≤ sizeLine; decide), fun p hp => ?_⟩
        exact q p _ hp (same_new hp) ⟨_, _, _, upd_same, Int.emod_nonneg _ (by omega), Int.lt_of_lt_of_le (Int.emod_lt_of_pos _ p29) q29, by decide, by decide⟩
    · have hlt' : k < ((ns.map V.int).length : Int) := of_decide_eq_true hlt
      rw [len_ints] at hlt'
      have hget : (ns.map V.int)[k.toNat]? = some (.int ns[k.toNat]) := by rw [List.getElem?_map, List.getElem?_eq_getElem (by omega)]; rfl
      have hat := atI_nat hget
      rw [Int.toNat_of_nonneg hk] at hat
      exact ⟨_, rfl, _, rfl, a, _, k, _, rfl, rfl, hS, hat, R _⟩
    · exact ⟨_, rfl, _, _, rfl, rfl, .inl ⟨by decide, by decide⟩, _, _, rfl, rfl, R _⟩
end
end S1

set_option Elab.async false
set_option linter.all false
set_option maxRecDepth 100000
set_option maxHeartbeats 4000000
/-! unlike names, drawn: the counting -/
namespace S1
open PySem PySem.Spec PyProof.Rows L2
/-- a name -/
structure Nm (x : Str) : Prop where
  lo : 1 ≤ x.length
  hi : x.length ≤ 8
  az : ∀ c ∈ x.cps.toList, 97 ≤ c ∧ c ≤ 122
def nmB (x : Str) : Bool := decide (1 ≤ x.length) && decide (x.length ≤ 8) && x.cps.toList.all fun c => decide (97 ≤ c ∧ c ≤ 122)
theorem nm_of {x : Str} (h : nmB x = true) : Nm x := by
  unfold nmB at h
  rw [Bool.and_eq_true, Bool.and_eq_true, decide_eq_true_eq, decide_eq_true_eq, List.all_eq_true] at h
  exact ⟨h.1.1, h.1.2, fun c hc => of_decide_eq_true (h.2 c hc)⟩
def resv : List Str := ["mine", "newone", "nobody", "notthere"]
def left0 : List Str := ["a", "b", "c", "x", "y", "z", "ab", "ba", "aa", "xy", "yx", "zz", "abc", "acb", "xyz", "zyx", "own", "owns"]
def left1 : List Str := ["pick", "picks", "zebra", "alpha", "omega", "abcdefg", "abcdefgh", "hgfedcba", "aaaaaaaa", "zzzzzzzz"]
def cnt (L F : List Str) : Nat := L.countP fun w => decide (w ∈ F)
theorem pop_perm {α : Type} (L : List α) (k : Nat) (h : k < L.length) : L.Perm (L[k] :: L.eraseIdx k) := by
  have e : L = L.take k ++ L[k] :: L.drop (k + 1) := by
    rw [← List.drop_eq_getElem_cons h, List.take_append_drop]
  have z : (L.take k ++ L[k] :: L.drop (k + 1)).Perm (L[k] :: (L.take k ++ L.drop (k + 1))) := List.perm_middle
  rw [← e, ← List.eraseIdx_eq_take_drop_succ] at z
  exact z
theorem cnt_cons (w : Str) (L F : List Str) : cnt (w :: L) F = cnt L F + if w ∈ F then 1 else 0 := by
  unfold cnt
  rw [List.countP_cons]
  by_cases h : w ∈ F <;> simp [h]
theorem cnt_pop (L F : List Str) (k : Nat) (h : k < L.length) : cnt L F = cnt (L.eraseIdx k) F + if L[k] ∈ F then 1 else 0 := by
  rw [← cnt_cons]
  exact (pop_perm L k h).countP_eq _
theorem cnt_snoc_out {L F : List Str} {w : Str} (h : w ∉ L) : cnt L (F ++ [w]) = cnt L F := by
  unfold cnt
  refine List.countP_congr fun x hx => ?_
  have ne : x ≠ w := fun e => h (e ▸ hx)
  simp [ne]
theorem cnt_snoc_le : ∀ {L F : List Str} {w : Str}, L.Nodup → cnt L (F ++ [w]) ≤ cnt L F + 1
  | [], F, w, _ => by simp [cnt]
  | x :: L, F, w, nd => by
    obtain ⟨n1, n2⟩ := List.nodup_cons.mp nd
    rw [cnt_cons, cnt_cons]
    by_cases e : x = w
    · subst e
      rw [cnt_snoc_out n1]
      by_cases h : x ∈ F <;> simp [h]
    · have ih := cnt_snoc_le (F := F) (w := w) n2
      have z : (x ∈ F ++ [w]) ↔ x ∈ F := by simp [e]
      by_cases h : x ∈ F <;> simp [z, h] <;> omega
/-- what is left to draw from, what was found, and how many turns are ahead -/
structure Pool (L F : List Str) (r : Nat) : Prop where
  nl : L.Nodup
  nf : F.Nodup
  vl : ∀ w ∈ L, Nm w ∧ w ∉ resv
  vf : ∀ w ∈ F, Nm w ∧ w ∉ resv
  room : 2 * r + cnt L F ≤ L.length
/-- the same within a turn, with a word in hand -/
structure Mid (L F : List Str) (w : Str) (r : Nat) : Prop where
  nl : L.Nodup
  nf : F.Nodup
  vl : ∀ w ∈ L, Nm w ∧ w ∉ resv
  vf : ∀ w ∈ F, Nm w ∧ w ∉ resv
  nw : Nm w
  b : 2 * r + cnt L F ≤ L.length + 2
  c : w ∈ F ∨ w ∈ resv → 2 * r + cnt L F ≤ L.length + 1
  d : w ∉ L ∨ 2 * r + cnt L F ≤ L.length + 1
theorem erase_of {L : List Str} (nl : L.Nodup) (k : Nat) (h : k < L.length) : (L.eraseIdx k).Nodup ∧ L[k] ∉ L.eraseIdx k ∧ (L.eraseIdx k).length + 1 = L.length ∧ ∀ w ∈ L.eraseIdx k, w ∈ L := by
  have p := pop_perm L k h
  obtain ⟨n1, n2⟩ := List.nodup_cons.mp (p.nodup_iff.mp nl)
  refine ⟨n2, n1, by rw [p.length_eq, List.length_cons], fun w hw => p.mem_iff.mpr (List.mem_cons_of_mem _ hw)⟩
theorem Pool.pop {L F : List Str} {r : Nat} (P : Pool L F (r + 1)) (k : Nat) (h : k < L.length) : Mid (L.eraseIdx k) F L[k] (r + 1) ∧ 2 * (r + 1) + cnt (L.eraseIdx k) F ≤ (L.eraseIdx k).length + 1 := by
  obtain ⟨e1, e2, e3, e4⟩ := erase_of P.nl k h
  have c := cnt_pop L F k h
  have room := P.room
  have z : 2 * (r + 1) + cnt (L.eraseIdx k) F ≤ (L.eraseIdx k).length + 1 := by
    by_cases hF : L[k] ∈ F
    · rw [if_pos hF] at c; omega
    · rw [if_neg hF] at c; omega
  exact ⟨⟨e1, P.nf, fun w hw => P.vl w (e4 w hw), P.vf, (P.vl _ (List.getElem_mem h)).1, by omega, fun _ => z, .inr z⟩, z⟩
theorem Mid.rand {L F : List Str} {w u : Str} {r : Nat} (M : Mid L F w r) (z : 2 * r + cnt L F ≤ L.length + 1) (hu : Nm u) : Mid L F u r := ⟨M.nl, M.nf, M.vl, M.vf, hu, by omega, fun _ => z, .inr z⟩
theorem Mid.more {L F : List Str} {w : Str} {r : Nat} (M : Mid L F w (r + 1)) (hw : w ∈ F ∨ w ∈ resv) : 0 < L.length ∧ ∀ (k : Nat) (h : k < L.length), Mid (L.eraseIdx k) F L[k] (r + 1) := by
  have c := M.c hw
  refine ⟨by omega, fun k h => ?_⟩
  obtain ⟨e1, e2, e3, e4⟩ := erase_of M.nl k h
  have cp := cnt_pop L F k h
  refine ⟨e1, M.nf, fun w hw => M.vl w (e4 w hw), M.vf, (M.vl _ (List.getElem_mem h)).1, ?_, fun hk => ?_, .inl e2⟩
  · split at cp <;> omega
  · rcases hk with hk | hk
    · rw [if_pos hk] at cp; omega
    · exact absurd hk (M.vl _ (List.getElem_mem h)).2
theorem Mid.done {L F : List Str} {w : Str} {r : Nat} (M : Mid L F w (r + 1)) (h1 : w ∉ F) (h2 : w ∉ resv) : Pool L (F ++ [w]) r := by
  refine ⟨M.nl, ?_, M.vl, fun x hx => ?_, ?_⟩
  · rw [List.nodup_append]
    refine ⟨M.nf, by simp, fun a ha b hb => ?_⟩
    cases List.mem_singleton.mp hb
    exact fun e => h1 (e ▸ ha)
  · rcases List.mem_append.mp hx with z | z
    · exact M.vf x z
    · cases List.mem_singleton.mp z
      exact ⟨M.nw, h2⟩
  · rcases M.d with z | z
    · rw [cnt_snoc_out z]
      have := M.b
      omega
    · have := cnt_snoc_le (F := F) (w := w) M.nl
      omega
theorem pool0 {r : Nat} (h : r ≤ 14) : Pool (left0 ++ left1) [] r := by
  refine ⟨by decide +kernel, List.nodup_nil, fun w hw => ?_, fun w hw => absurd hw (by simp), ?_⟩
  · have z : ((left0 ++ left1).all fun w => nmB w && !resv.contains w) = true := by decide +kernel
    have z2 := List.all_eq_true.mp z w hw
    rw [Bool.and_eq_true] at z2
    refine ⟨nm_of z2.1, fun m => ?_⟩
    have z3 := z2.2
    simp [m] at z3
  · have z : cnt (left0 ++ left1) [] = 0 := by decide +kernel
    have z2 : (left0 ++ left1).length = 28 := by decide +kernel
    rw [z, z2]
    omega
end S1

set_option Elab.async false
set_option linter.all false
set_option maxRecDepth 100000
set_option maxHeartbeats 4000000
/-! unlike names, drawn -/
namespace S1
open PySem PySem.Spec PyProof.Rows L2
def spWords : Sp := fun vs H Q _ => ∃ (p : Addr) (c n : Nat), vs = [.ref p, .int n] ∧ Src H p c ∧ c ≤ 90000 ∧ n ≤ 14 ∧
  ∀ (l : Addr) (ws : List Str) (H' : Hp), H l = none → H' l = some (.lst (ws.map V.str)) → ws.length = n → ws.Nodup → (∀ x ∈ ws, Nm x ∧ x ∉ resv) → Src H' p (c + 200) → Same (del H p) (del H' p) → Q (.ref l) H'
theorem branch {c : Prop} [Decidable c] {t u : TS} {D : Ends} {σ : L2.St} {H : Hp} (I : L2.St → Hp → Prop) (R : ∀ σ' H', I σ' H' → D.nx σ' H') (h1 : c → (∀ σ' H', I σ' H' → D.nx σ' H') → t D σ H)
    (h2 : ¬ c → (∀ σ' H', I σ' H' → D.nx σ' H') → u D σ H) : if c then t D σ H else u D σ H := by
  by_cases h : c
  · rw [if_pos h]; exact h1 h R
  · rw [if_neg h]; exact h2 h R
theorem seq_nat {r : Int} {n : Nat} (h0 : 0 ≤ r) (h1 : r < n) : seqIndex? r n = some r.toNat := by
  unfold seqIndex?
  simp
  omega
theorem map_erase {α β : Type} (f : α → β) : ∀ (l : List α) (k : Nat), (l.map f).eraseIdx k = (l.eraseIdx k).map f
  | [], _ => rfl
  | _ :: _, 0 => rfl
  | x :: l, k + 1 => by rw [List.map_cons, List.eraseIdx_cons_succ, List.eraseIdx_cons_succ, List.map_cons, map_erase f l k]
theorem sd_of {H H' : Hp} {p : Addr} (s : Same H H') : Same (del H p) (del H' p) := fun b u e => by
  by_cases z : b = p
  · rw [z, del_same] at e; cases e
  · rw [del_ne z] at e ⊢; exact s b u e
theorem sd_put {H H' : Hp} {p l : Addr} {o : HO} (s : Same (del H p) (del H' p)) (h : H l = none) : Same (del H p) (del (upd H' l o) p) := fun b u e => by
  by_cases z : b = p
  · rw [z, del_same] at e; cases e
  · have z2 := s b u e
    rw [del_ne z] at e z2 ⊢
    rw [upd_ne (ne_of_none e h)]
    exact z2
theorem sd_at {H H' : Hp} {p : Addr} {o : HO} (s : Same (del H p) (del H' p)) : Same (del H p) (del (upd H' p o) p) := fun b u e => by
  by_cases z : b = p
  · rw [z, del_same] at e; cases e
  · have z2 := s b u e
    rw [del_ne z] at z2 ⊢
    rw [upd_ne z]
    exact z2
abbrev sg (c : Nat) : Str := ⟨#[c]⟩
theorem joinL_one : ∀ cs : List Nat, TL.joinL [] ((cs.map sg).map TL.tl) = cs
  | [] => rfl
  | [c] => rfl
  | c :: d :: cs => by
    show TL.tl (sg c) ++ ([] ++ TL.joinL [] (((d :: cs).map sg).map TL.tl)) = c :: d :: cs
    rw [joinL_one (d :: cs)]
    rfl
theorem join_one (cs : List Nat) : Txt.join "" (cs.map sg) = ⟨cs.toArray⟩ := by
  refine TL.ext_tl ((congrArg TL.tl (TL.join_eq _ _)).trans ((TL.tl_join _ _).trans ?_))
  have e : TL.tl ("" : Str) = [] := by decide +kernel
  rw [e, joinL_one]
theorem nm_join {cs : List Nat} (h1 : 1 ≤ cs.length) (h2 : cs.length ≤ 8) (h3 : ∀ c ∈ cs, 97 ≤ c ∧ c ≤ 122) : Nm (Txt.join "" (cs.map sg)) := by
  rw [join_one]
  exact ⟨by simpa [Str.length] using h1, by simpa [Str.length] using h2, by simpa using h3⟩
theorem join_len (cs : List Nat) : ((cs.map sg).map (·.length)).sum = cs.length := by
  induction cs with
  | nil => rfl
  | cons c cs ih =>
    rw [List.map_cons, List.map_cons, List.sum_cons, ih, List.length_cons]
    show 1 + cs.length = cs.length + 1
    omega
theorem abc_at {r : Int} (h0 : 0 ≤ r) (h1 : r < 26) : atI ("abcdefghijklmnopqrstuvwxyz" : Str).cps.toList r = some (97 + r.toNat) := by
  have z : ∀ k, k < 26 → ("abcdefghijklmnopqrstuvwxyz" : Str).cps.toList[k]? = some (97 + k) := by decide +kernel
  have z2 := atI_nat (z r.toNat (by omega))
  rwa [Int.toNat_of_nonneg h0] at z2
theorem gen_heap {D : L2.St → Hp → Prop} {σ : L2.St} {G : Hp} (F : Hp → Prop) (h : F G) (k : ∀ G', F G' → D σ G') : D σ G := k G h
theorem or_split {c : Prop} [Decidable c] {u : TT} {σ : L2.St} {H : Hp} {Q : Bool → Hp → Prop} (R : Hp → Prop) (k : ∀ H', R H' → Q true H') (h1 : c → (∀ H', R H' → Q true H') → Q true H) (h2 : ¬ c → (∀ H', R H' → Q true H') → u σ H Q) : if c then Q true H else u σ H Q := by
  by_cases h : c
  · rw [if_pos h]; exact h1 h k
  · rw [if_neg h]; exact h2 h k
theorem inV_str {x : Str} {xs : List Str} : inV (.str x) (xs.map V.str) = decide (x ∈ xs) := by
  unfold inV
  rw [List.any_map]
  by_cases h : x ∈ xs
  · rw [decide_eq_true h, List.any_eq_true]
    exact ⟨x, h, by simp [eqV]⟩
  · rw [decide_eq_false h, List.any_eq_false]
    intro y hy
    simp only [Function.comp, eqV]
    intro z
    have z2 : y = x := by simpa using z
    exact h (z2 ▸ hy)
theorem flat_strs (xs : List Str) : (xs.map V.str).all flatV = true := by
  rw [List.all_map, List.all_eq_true]
  exact fun _ _ => rfl
section
variable {P : Program} {w : World} {K : PySem.W.Frag} {mg : Str → Option Value} {base : Heap}
theorem scWords : FnScope ["source", "size", "left", "found", "letters", "turn", "word", "sign"] ["source", "size"] (defScope sWords) := ⟨rfl, rfl, rfl, by decide +kernel, rfl, by decide +kernel, by decide +kernel⟩
theorem ok_words {f fP : Addr} {fd fdP : FuncData} (F : Fun K "_law_words" "_law_words" sWords f fd) (Pk : Has K mg "_law_pick" sPick ["source", "top"] fP fdP) (B : Blt mg) : FnOk P w K mg base CX0 2 f fd ["source", "size"] spWords := by
  have GP : FnOk P w K mg base CX0 1 fP fdP ["source", "top"] spPick := ok_pick Pk.F B
  refine F.ok scWords (fun vs H Q E h => ?_) (fun cdv A outer s H vs Q E hr h => ?_)
  · obtain ⟨p, c, n, rfl, _⟩ := h
    rfl
  · obtain ⟨p, c, n, rfl, hp, hc, hn, q⟩ := h
    refine ⟨_, pss_cons (ps_set (i := 2) scWords.nd rfl (.inl rfl) (pe_lst (pa_cons pe_str (pa_cons pe_str (pa_cons pe_str (pa_cons pe_str (pa_cons pe_str (pa_cons pe_str (pa_cons pe_str (pa_cons pe_str (pa_cons pe_str (pa_cons pe_str
          (pa_cons pe_str (pa_cons pe_str (pa_cons pe_str (pa_cons pe_str (pa_cons pe_str (pa_cons pe_str (pa_cons pe_str (pa_cons pe_str pa_nil))))))))))))))))))))
      (pss_cons (ps_set (i := 2) scWords.nd rfl (.inl rfl) (pe_op op_cat (pv 2) (pe_lst (pa_cons pe_str (pa_cons pe_str (pa_cons pe_str (pa_cons pe_str (pa_cons pe_str (pa_cons pe_str (pa_cons pe_str (pa_cons pe_str (pa_cons pe_str (pa_cons pe_str pa_nil)))))))))))))
      (pss_cons (ps_asg (pe_tup (pa_cons (pe_lst pa_nil) (pa_cons pe_str pa_nil))) (pg_tup rfl (pgs_cons (pg_name (i := 3) scWords.nd rfl (.inl rfl)) (pgs_cons (pg_name (i := 4) scWords.nd rfl (.inr rfl)) pgs_nil))))
      (pss_cons (ps_for PassesOwn.never rfl (pi_range1 rfl B.range (pa_cons (pv 1) pa_nil)) (pg_name (i := 5) scWords.nd rfl (.inl rfl))
        (pss_cons (ps_set (i := 6) scWords.nd rfl (.inl rfl) (pe_bm PySem.F.plainAttrs_list PySem.F.slot_list_pop PySem.F.type_list_pop mt_popAt (pv 2) (pa_cons (pe_call GP hr rfl Pk.g Pk.F.kp Pk.b .nil pass0 (pa_cons (pv 0) (pa_cons (pe_callB call_len_seq (by rfl) B.len (by decide +kernel) (pa_cons (pv 2) pa_nil)) pa_nil))) pa_nil)))
        (pss_cons (ps_if (pt_cmpR op_eq (pe_call GP hr rfl Pk.g Pk.F.kp Pk.b .nil pass0 (pa_cons (pv 0) (pa_cons pe_int pa_nil))) pe_int (nomark _))
          (pss_one (ps_set (i := 6) scWords.nd rfl (.inl rfl) (pe_join pe_str (pe_lc (own := [("sign", 7)]) (g := gName 7) (tt := tYes) rfl scWords.nd (pi_range1 rfl B.range (pa_cons (pe_op op_add pe_int (pe_call GP hr rfl Pk.g Pk.F.kp Pk.b .nil pass0 (pa_cons (pv 0) (pa_cons pe_int pa_nil)))) pa_nil))
            (blkOk_by (N := ["source", "size", "left", "found", "letters", "turn", "word", "sign"]) (sc := defScope sWords) (by decide +kernel)) (fun _ _ _ _ _ => pg_name (i := 7) scWords.nd rfl (.inl rfl)) (fun _ _ _ _ _ => pts_nil)
            (fun _ _ _ _ _ => pe_ix ix_str (pv 4) (pe_call GP (by exact hr) (by rfl) Pk.g Pk.F.kp Pk.b .nil pass0 (pa_cons (pv 0) (pa_cons pe_int pa_nil))) (fun _ _ => rfl)))))) pss_nil)
        (pss_cons (ps_while PassesOwn.never (PW.pt (pw_or (pt_cmpR op_in_seq (pv 6) (pv 3) (by with_unfolding_all rfl)) (pw_or1 (pt_cmpR op_in_seq (pv 6) (pe_tup (pa_cons pe_str (pa_cons pe_str (pa_cons pe_str (pa_cons pe_str pa_nil))))) (by with_unfolding_all rfl)))))
          (pss_one (ps_set (i := 6) scWords.nd rfl (.inl rfl) (pe_bm PySem.F.plainAttrs_list PySem.F.slot_list_pop PySem.F.type_list_pop mt_popAt (pv 2) (pa_cons (pe_call GP hr rfl Pk.g Pk.F.kp Pk.b .nil pass0 (pa_cons (pv 0) (pa_cons (pe_callB call_len_seq (by rfl) B.len (by decide +kernel) (pa_cons (pv 2) pa_nil)) pa_nil))) pa_nil)))))
        (pss_one (ps_expr (pe_bm PySem.F.plainAttrs_list PySem.F.slot_list_append PySem.F.type_list_append mt_append (pv 3) (pa_cons (pv 6) pa_nil))))))))
      (pss_one (ps_ret (pv 3)))))), ?_⟩
    refine ⟨(by show 18 ≤ sizeLine; decide), fun l0 hl0 => ⟨_, rfl, (by show 10 ≤ sizeLine; decide), fun l1 hl1 => ?_⟩⟩
    have n01 : l0 ≠ l1 := ne_of_none upd_same hl1
    refine ⟨_, _, _, _, rfl, rfl, (by rw [upd_ne n01, upd_same]), upd_same, (by show 28 ≤ sizeLine; decide), fun aL hL => ⟨(by show 0 ≤ sizeLine; decide), fun aF hF => ⟨(by show 2 ≤ sizeLine; decide), fun t ht => ⟨t, _, rfl, SqT.of upd_same, rfl, _, _, rfl, _, _, rfl, rfl, ?_⟩⟩⟩⟩
    have nLF : aL ≠ aF := ne_of_none upd_same hF
    have nLt : aL ≠ t := ne_of_none (by rw [upd_ne nLF, upd_same]) ht
    have nFt : aF ≠ t := ne_of_none upd_same ht
    have hL0 : H aL = none := ((same_new hl0).trans (same_new hl1)).free hL
    have hF0 : H aF = none := (((same_new hl0).trans (same_new hl1)).trans (same_new hL)).free hF
    refine gen_heap (F := fun G => Same H G ∧ G aL = some (.lst ((left0 ++ left1).map V.str)) ∧ G aF = some (.lst [])) ⟨((((same_new hl0).trans (same_new hl1)).trans (same_new hL)).trans (same_new hF)).trans (same_new ht), by rw [upd_ne nLt, upd_ne nLF, upd_same]; rfl, by rw [upd_ne nFt, upd_same]⟩ (fun G ⟨sG, gL, gF⟩ => ?_)
    have npL := hp.ne hL0
    have npF := hp.ne hF0
    have gp : Src G p c := hp.mono (by obtain ⟨_, _, _, z, _⟩ := hp.at_; rw [z, sG _ _ z]) (Nat.le_refl _)
    refine ⟨_, rfl, (n : Nat), rfl, by omega, by omega, ?_⟩
    refine for_range (lo := 0) (n := n) (fun i σ H' => ∃ (L W : List Str) (o5 o6 o7 : Option V), σ = [some (.ref p), some (.int n), some (.ref aL), some (.ref aF), some (.str "abcdefghijklmnopqrstuvwxyz"), o5, o6, o7] ∧
        H' aL = some (.lst (L.map V.str)) ∧ H' aF = some (.lst (W.map V.str)) ∧ W.length = i ∧ i ≤ n ∧ Pool L W (n - i) ∧ L.length ≤ 28 ∧ Src H' p (c + 10 * i + (28 - L.length)) ∧ Same (del H p) (del H' p)) ?_ ?_ ?_
    · exact ⟨left0 ++ left1, [], _, _, _, rfl, gL, gF, rfl, Nat.zero_le _, pool0 (by omega), by decide +kernel, gp.mono rfl (by omega), sd_of sG⟩
    · rintro i σ H' hi ⟨L, W, o5, o6, o7, rfl, eL, eF, hW, _, PL, h28, hs, sm⟩
      obtain ⟨r, hr'⟩ : ∃ r, n - i = r + 1 := ⟨n - i - 1, by omega⟩
      rw [hr'] at PL
      have pos : 0 < L.length := by have := PL.room; omega
      refine ⟨_, rfl, .inl ⟨rfl, _, SqL.of eL⟩, _, rfl, _, rfl, _, _, rfl, .inl (SqL.of eL), p, _, _, rfl, hs, by omega, by rw [List.length_map]; omega, by rw [List.length_map]; omega, fun k o k0 k1 hp1 => ?_⟩
      rw [List.length_map] at k1
      have eL1 : upd H' p o aL = some (.lst (L.map V.str)) := by rw [upd_ne npL.symm]; exact eL
      have eF1 : upd H' p o aF = some (.lst (W.map V.str)) := by rw [upd_ne npF.symm]; exact eF
      have kl : k.toNat < L.length := by omega
      obtain ⟨M0, z0⟩ := PL.pop k.toNat kl
      have len0 : (L.eraseIdx k.toNat).length + 1 = L.length := (erase_of PL.nl _ kl).2.2.1
      refine ⟨aL, _, k, k.toNat, .str L[k.toNat], rfl, rfl, eL1, by omega, by omega, by rw [List.length_map]; exact seq_nat k0 k1, by rw [List.getElem?_map, List.getElem?_eq_getElem kl]; rfl, ?_⟩
      rw [map_erase]
      generalize L[k.toNat] = u at M0 ⊢
      generalize L.eraseIdx k.toNat = L1 at M0 z0 len0 ⊢
      have sm1 := sd_put (l := aL) (o := .lst (L1.map V.str)) (sd_at (o := o) sm) hL0
      have eF2 : upd (upd H' p o) aL (.lst (L1.map V.str)) aF = some (.lst (W.map V.str)) := by rw [upd_ne nLF.symm]; exact eF1
      have hs2 : Src (upd (upd H' p o) aL (.lst (L1.map V.str))) p (c + 10 * i + (28 - L1.length)) := hp1.mono (upd_ne npL) (by omega)
      have eL2 : upd (upd H' p o) aL (.lst (L1.map V.str)) aL = some (.lst (L1.map V.str)) := upd_same
      generalize upd (upd H' p o) aL (.lst (L1.map V.str)) = H2 at sm1 eF2 hs2 eL2 ⊢
      refine ⟨_, rfl, p, _, 3, rfl, hs2, by omega, by decide, by decide, fun k2 o2 _ _ hp2 => ⟨rfl, _, rfl, ?_⟩⟩
      refine branch (fun σ' H3 => ∃ (x : Str) (o7' : Option V), σ' = [some (.ref p), some (.int n), some (.ref aL), some (.ref aF), some (.str "abcdefghijklmnopqrstuvwxyz"), some (.int (0 + (i : Int))), some (.str x), o7'] ∧
        H3 aL = some (.lst (L1.map V.str)) ∧ H3 aF = some (.lst (W.map V.str)) ∧ Mid L1 W x (r + 1) ∧ Src H3 p (c + 10 * i + (28 - L1.length) + 10) ∧ Same (del H p) (del H3 p)) ?_ (fun _ R => ?_) (fun _ R => ?_)
      · rintro σ' H3 ⟨x, o7', rfl, e3, e4, M, hs3, sm3⟩
        refine ⟨fun m σ2 H4 => ∃ (L2 : List Str) (x2 : Str), σ2 = [some (.ref p), some (.int n), some (.ref aL), some (.ref aF), some (.str "abcdefghijklmnopqrstuvwxyz"), some (.int (0 + (i : Int))), some (.str x2), o7'] ∧ m = L2.length ∧ L2.length ≤ 28 ∧
          H4 aL = some (.lst (L2.map V.str)) ∧ H4 aF = some (.lst (W.map V.str)) ∧ Mid L2 W x2 (r + 1) ∧ Src H4 p (c + 10 * i + (28 - L2.length) + 10) ∧ Same (del H p) (del H4 p), ⟨_, L1, x, rfl, rfl, by omega, e3, e4, M, hs3, sm3⟩, ?_⟩
        rintro m σ2 H4 ⟨L2, x2, rfl, rfl, hle, e5, e6, M2, hs5, sm5⟩
        refine ⟨_, rfl, _, rfl, aF, _, rfl, .inl (SqL.of e6), rfl, flat_strs W, _, rfl, ?_⟩
        show if inV (V.str x2) (W.map V.str) = true then _ else _
        rw [inV_str]
        refine or_split (R := fun H5 => (x2 ∈ W ∨ x2 ∈ resv) ∧ H5 aL = some (.lst (L2.map V.str)) ∧ H5 aF = some (.lst (W.map V.str)) ∧ Src H5 p (c + 10 * i + (28 - L2.length) + 10) ∧ Same (del H p) (del H5 p)) (fun H5 ⟨hin, e7, e8, hs7, sm7⟩ => ?_) (fun hin k => k _ ⟨.inl (of_decide_eq_true hin), e5, e6, hs5, sm5⟩) (fun hout k => ?_)
        · show if true = true then _ else _
          rw [if_pos rfl]
          obtain ⟨pos2, step2⟩ := M2.more hin
          refine ⟨fun σ6 H6 => ∃ (L3 : List Str) (x3 : Str), σ6 = [some (.ref p), some (.int n), some (.ref aL), some (.ref aF), some (.str "abcdefghijklmnopqrstuvwxyz"), some (.int (0 + (i : Int))), some (.str x3), o7'] ∧ L3.length + 1 = L2.length ∧
            H6 aL = some (.lst (L3.map V.str)) ∧ H6 aF = some (.lst (W.map V.str)) ∧ Mid L3 W x3 (r + 1) ∧ Src H6 p (c + 10 * i + (28 - L3.length) + 10) ∧ Same (del H p) (del H6 p),
            fun σ6 H6 ⟨L3, x3, z1, z2, z3, z4, z5, z6, z7⟩ => ⟨L3.length, by omega, L3, x3, z1, rfl, by omega, z3, z4, z5, z6, z7⟩, ?_⟩
          refine ⟨_, rfl, .inl ⟨rfl, _, SqL.of e7⟩, _, rfl, _, rfl, _, _, rfl, .inl (SqL.of e7), p, _, _, rfl, hs7, by omega, by rw [List.length_map]; omega, by rw [List.length_map]; omega, fun k o k0 k1 hp8 => ?_⟩
          rw [List.length_map] at k1
          have kl2 : k.toNat < L2.length := by omega
          have len2 : (L2.eraseIdx k.toNat).length + 1 = L2.length := (erase_of M2.nl _ kl2).2.2.1
          have M3 := step2 k.toNat kl2
          refine ⟨aL, _, k, k.toNat, .str L2[k.toNat], rfl, rfl, by rw [upd_ne npL.symm]; exact e7, by omega, by omega, by rw [List.length_map]; exact seq_nat k0 k1, by rw [List.getElem?_map, List.getElem?_eq_getElem kl2]; rfl, ?_⟩
          rw [map_erase]
          exact ⟨L2.eraseIdx k.toNat, L2[k.toNat], rfl, len2, upd_same, by rw [upd_ne nLF.symm, upd_ne npF.symm]; exact e8, M3, hp8.mono (upd_ne npL) (by omega), sd_put (sd_at sm7) hL0⟩
        · refine ⟨_, rfl, (by show 4 ≤ sizeLine; decide), fun t6 ht6 => ⟨t6, resv.map V.str, rfl, .inr (SqT.of upd_same), rfl, rfl, _, rfl, ?_⟩⟩
          have nL6 : aL ≠ t6 := ne_of_none e5 ht6
          have nF6 : aF ≠ t6 := ne_of_none e6 ht6
          have np6 := hs5.ne ht6
          have h60 : H t6 = none := by
            cases z : H t6 with
            | none => rfl
            | some u =>
              have z2 := sm5 t6 u (by rw [del_ne np6.symm]; exact z)
              rw [del_ne np6.symm, ht6] at z2
              cases z2
          have e5' : upd H4 t6 (.tup (resv.map V.str)) aL = some (.lst (L2.map V.str)) := by rw [upd_ne nL6]; exact e5
          have e6' : upd H4 t6 (.tup (resv.map V.str)) aF = some (.lst (W.map V.str)) := by rw [upd_ne nF6]; exact e6
          have hs6 : Src (upd H4 t6 (.tup (resv.map V.str))) p (c + 10 * i + (28 - L2.length) + 10) := hs5.mono (upd_ne np6) (Nat.le_refl _)
          have sm6 := sd_put (o := .tup (resv.map V.str)) sm5 h60
          by_cases hres : x2 ∈ resv
          · have e : inV (V.str x2) (resv.map V.str) = true := by rw [inV_str]; exact decide_eq_true hres
            have z := k _ ⟨.inr hres, e5', e6', hs6, sm6⟩
            show if inV (V.str x2) (resv.map V.str) = true then _ else _
            rw [e]
            exact z
          · have e : inV (V.str x2) (resv.map V.str) = false := by rw [inV_str]; exact decide_eq_false hres
            show if inV (V.str x2) (resv.map V.str) = true then _ else _
            rw [e, if_neg (by decide)]
            refine ⟨_, rfl, .inl ⟨rfl, _, SqL.of e6'⟩, _, rfl, aF, _, _, rfl, rfl, e6', by rw [List.length_map]; exact small1000 (by omega), ?_⟩
            have P2 := M2.done (fun z => hout (decide_eq_true z)) hres
            exact ⟨L2, W ++ [x2], _, _, _, rfl, by rw [upd_ne nLF]; exact e5', by rw [upd_same, List.map_append]; rfl, by rw [List.length_append, hW]; rfl, by omega, by rw [show n - (i + 1) = r by omega]; exact P2, hle, hs6.mono (upd_ne npF) (by omega), sd_put sm6 hF0⟩
      · refine ⟨⟨_, rfl⟩, _, rfl, p, _, 8, rfl, hp2, by omega, by decide, by decide, fun r2 o3 r20 r21 hp3 => ⟨_, _, rfl, rfl, _, rfl, by omega, by omega, fun D hD => ?_⟩⟩
        have hpD := hp3.ne hD
        have sm3 := sd_at (o := o3) (sd_at (o := o2) sm1)
        have eL3 : upd (upd H2 p o2) p o3 aL = some (.lst (L1.map V.str)) := by rw [upd_ne npL.symm, upd_ne npL.symm]; exact eL2
        have eF3 : upd (upd H2 p o2) p o3 aF = some (.lst (W.map V.str)) := by rw [upd_ne npF.symm, upd_ne npF.symm]; exact eF2
        have hD0 : H D = none := by
          cases z : H D with
          | none => rfl
          | some u =>
            have z2 := sm3 D u (by rw [del_ne hpD.symm]; exact z)
            rw [del_ne hpD.symm, hD] at z2
            cases z2
        have nLD : aL ≠ D := ne_of_none eL3 hD
        have nFD : aF ≠ D := ne_of_none eF3 hD
        generalize upd (upd H2 p o2) p o3 = H3 at hp3 sm3 eL3 eF3 hD ⊢
        refine lc_range (lo := 0) (n := (1 + r2).toNat) (fun j H4 => ∃ cs : List Nat, H4 D = some (.lst ((cs.map sg).map V.str)) ∧ cs.length = j ∧ (∀ x ∈ cs, 97 ≤ x ∧ x ≤ 122) ∧ Src H4 p (c + 10 * i + (28 - L1.length) + 2 + j) ∧
          H4 aL = some (.lst (L1.map V.str)) ∧ H4 aF = some (.lst (W.map V.str)) ∧ Same (del H p) (del H4 p)) ?_ ?_ ?_
        · exact ⟨[], upd_same, rfl, fun x hx => absurd hx (by simp), hp3.mono (upd_ne hpD) (by omega), by rw [upd_ne nLD]; exact eL3, by rw [upd_ne nFD]; exact eF3, sd_put sm3 hD0⟩
        · rintro j H4 hj ⟨cs, eD, hcs, az, hs4, eL4, eF4, sm4⟩
          refine ⟨rfl, yes_of ?_⟩
          refine ⟨_, rfl, _, rfl, p, _, 26, rfl, hs4, by omega, by decide, by decide, fun r4 o4 r40 r41 hp4 => ⟨_, r4, _, rfl, rfl, by decide +kernel, abc_at r40 r41, _, by rw [upd_ne hpD.symm]; exact eD, ?_, cs ++ [97 + r4.toNat], ?_, ?_, ?_, ?_, ?_, ?_, ?_⟩⟩
          · rw [List.length_map, List.length_map]; exact small1000 (by omega)
          · rw [upd_same, List.map_append, List.map_append]; rfl
          · rw [List.length_append, hcs]; rfl
          · intro x hx
            rcases List.mem_append.mp hx with z | z
            · exact az x z
            · cases List.mem_singleton.mp z
              omega
          · exact hp4.mono (upd_ne hpD) (by omega)
          · rw [upd_ne nLD, upd_ne npL.symm]; exact eL4
          · rw [upd_ne nFD, upd_ne npF.symm]; exact eF4
          · exact sd_put (sd_at sm4) hD0
        · rintro H4 ⟨cs, eD, hcs, az, hs4, eL4, eF4, sm4⟩
          refine ⟨_, D, _, rfl, rfl, .inl (SqL.of eD), by rw [join_len]; show cs.length + _ * 0 ≤ 16777216; omega, ?_⟩
          exact R _ _ ⟨_, _, rfl, eL4, eF4, M0.rand z0 (nm_join (by omega) (by omega) az), hs4.mono rfl (by omega), sm4⟩
      · exact R _ _ ⟨u, _, rfl, by rw [upd_ne npL.symm]; exact eL2, by rw [upd_ne npF.symm]; exact eF2, M0, hp2.mono rfl (by omega), sd_at sm1⟩
    · rintro σ H' ⟨L, W, o5, o6, o7, rfl, eL, eF, hW, _, PL, h28, hs, sm⟩
      exact ⟨_, rfl, q aF W H' hF0 eF hW PL.nf PL.vf (hs.mono rfl (by omega)) sm⟩
end
end S1

set_option Elab.async false
set_option linter.all false
set_option maxRecDepth 100000
set_option maxHeartbeats 4000000
/-! clauses, drawn -/
namespace S1
open PySem PySem.W PySem.Spec PyProof.Rows L2
theorem lst_ne_tup {xs ys : List V} : HO.lst xs ≠ HO.tup ys := fun z => by cases z
mutual
/-- tuples stay what they are while a list changes -/
theorem dat_del {H H' : Hp} {p : Addr} {xs : List V} (hp : H p = some (.lst xs)) (s : Same (del H p) (del H' p)) : ∀ {v : V} {d : PyData}, keyable d = true → Dat H v d → Dat H' v d
  | _, _, _, .non => .non
  | _, _, _, .bl b => .bl b
  | _, _, _, .int i => .int i
  | _, _, _, .str x => .str x
  | _, _, k, .lst e h => by simp [keyable] at k
  | _, _, k, .tup (a := a) e h => by
    have ne : a ≠ p := fun z => by rw [z, hp] at e; cases e
    have z := s a _ (by rw [del_ne ne]; exact e)
    rw [del_ne ne] at z
    exact .tup z (dats_del hp s (by simpa [keyable] using k) h)
  | _, _, k, .dct e h => by simp [keyable] at k
theorem dats_del {H H' : Hp} {p : Addr} {xs : List V} (hp : H p = some (.lst xs)) (s : Same (del H p) (del H' p)) : ∀ {vs : List V} {ds : List PyData}, keyables ds = true → DatAll H vs ds → DatAll H' vs ds
  | _, _, _, .nil => .nil
  | _, _, k, .cons h t => by
    rw [keyables, Bool.and_eq_true] at k
    exact .cons (dat_del hp s k.1 h) (dats_del hp s k.2 t)
end
theorem Src.lst {H : Hp} {p : Addr} {c : Nat} (h : Src H p c) : ∃ xs, H p = some (.lst xs) := by
  obtain ⟨_, _, _, z, _⟩ := h.at_
  exact ⟨_, z⟩
theorem dat_src {H H' : Hp} {p : Addr} {c : Nat} (h : Src H p c) (s : Same (del H p) (del H' p)) {v : V} {d : PyData} (k : keyable d = true) (D : Dat H v d) : Dat H' v d := by
  obtain ⟨xs, z⟩ := h.lst
  exact dat_del z s k D
theorem dat_upd {H : Hp} {p : Addr} {o : HO} {xs : List V} (hp : H p = some (.lst xs)) {v : V} {d : PyData} (k : keyable d = true) (D : Dat H v d) : Dat (upd H p o) v d := dat_del hp (sd_at (Same.refl _)) k D
theorem dat_new {H : Hp} {p : Addr} {o : HO} (hp : H p = none) {v : V} {d : PyData} (D : Dat H v d) : Dat (upd H p o) v d := D.same (same_new hp)
/-! ### letters and clauses, as data -/
abbrev Ltr := Str × Bool
def ltD (l : Ltr) : PyData := .tuple [.str l.1, .bool l.2]
def clD (cl : List Ltr) : PyData := .tuple (cl.map ltD)
theorem keyable_lt (l : Ltr) : keyable (ltD l) = true := rfl
theorem keyables_map {α : Type} (f : α → PyData) (h : ∀ x, keyable (f x) = true) : ∀ l : List α, keyables (l.map f) = true
  | [] => rfl
  | x :: l => by rw [List.map_cons, keyables, h x, keyables_map f h l]; rfl
theorem keyable_cl (cl : List Ltr) : keyable (clD cl) = true := by
  show keyables (cl.map ltD) = true
  exact keyables_map ltD keyable_lt cl
theorem alike_lt (a b : Ltr) : alike (ltD a) (ltD b) = true := by simp [ltD, alike, alikeAll]
theorem alikes_map {α : Type} (f : α → PyData) (h : ∀ x y, alike (f x) (f y) = true) : ∀ l m : List α, alikeAll (l.map f) (m.map f) = true
  | [], _ => by simp [alikeAll]
  | _ :: _, [] => by simp [alikeAll]
  | x :: l, y :: m => by simp only [List.map_cons, alikeAll, h x y, alikes_map f h l m, Bool.and_self]
theorem alike_cl (a b : List Ltr) : alike (clD a) (clD b) = true := by
  show alikeAll (a.map ltD) (b.map ltD) = true
  exact alikes_map ltD alike_lt a b
/-- one text below another -/
def tlt (x y : Str) : Prop := x.cps.toList < y.cps.toList
theorem lt_letters {a b : Ltr} (ne : a.1 ≠ b.1) (h : dataLt (ltD a) (ltD b) = true) : tlt a.1 b.1 := by
  unfold ltD at h
  rw [dataLt_pair (by simp [alike]) (by simp [alike])] at h
  have e : PyData.eqv (.str a.1) (.str b.1) = false := by
    simp only [PyData.eqv]
    exact beq_false_of_ne ne
  rw [e, if_neg (by decide), dataLt_str] at h
  rw [decide_eq_true_eq] at h
  exact h
/-- what a drawn clause is -/
structure ClOk (ws : List Str) (cl : List Ltr) : Prop where
  up : cl.Pairwise fun a b => tlt a.1 b.1
  mem : ∀ l ∈ cl, l.1 ∈ ws
theorem depth_lt (l : Ltr) : (ltD l).depth ≤ 1 := by simp [ltD, PyData.depth, PyData.depthAll]
theorem depths_map {α : Type} (f : α → PyData) (n : Nat) (h : ∀ x, (f x).depth ≤ n) : ∀ l : List α, PyData.depthAll (l.map f) ≤ n
  | [] => by simp [PyData.depthAll]
  | x :: l => by
    have := h x
    have := depths_map f n h l
    simp only [List.map_cons, PyData.depthAll]
    omega
theorem depth_cl (cl : List Ltr) : (clD cl).depth ≤ 2 := by
  have := depths_map ltD 1 depth_lt cl
  simp only [clD, PyData.depth]
  omega
def spClause : Sp := fun vs H Q _ => ∃ (p lw : Addr) (c : Nat) (ws : List Str), vs = [.ref p, .ref lw] ∧ Src H p c ∧ c ≤ 90000 ∧ H lw = some (.lst (ws.map V.str)) ∧ ws.Nodup ∧ ws.length ≤ 100 ∧ p ≠ lw ∧
  ∀ (v : V) (cl : List Ltr) (H' : Hp), Dat H' v (clD cl) → ClOk ws cl → Src H' p (c + 202) → Same (del H p) (del H' p) → Q v H'
theorem ite_intP {c : Prop} [Decidable c] {ta tb : TE} {σ : L2.St} {H : Hp} {Q : VK} (I : Int → Prop) (R : ∀ i : Int, I i → Q (.int i) H) (h1 : c → (∀ i : Int, I i → Q (.int i) H) → ta σ H Q) (h2 : ¬ c → (∀ i : Int, I i → Q (.int i) H) → tb σ H Q) : if c then ta σ H Q else tb σ H Q := by
  by_cases h : c
  · rw [if_pos h]; exact h1 h R
  · rw [if_neg h]; exact h2 h R
theorem sd_new {H H' : Hp} {p l : Addr} {o : HO} (s : Same (del H p) (del H' p)) (hl : H' l = none) (n : l ≠ p) : Same (del H p) (del (upd H' l o) p) := by
  refine sd_put s ?_
  cases z : H l with
  | none => rfl
  | some u =>
    have z2 := s l u (by rw [del_ne n]; exact z)
    rw [del_ne n, hl] at z2
    cases z2
theorem sd_free {H H' : Hp} {p l : Addr} (s : Same (del H p) (del H' p)) (hl : H' l = none) (n : l ≠ p) : H l = none := by
  cases z : H l with
  | none => rfl
  | some u =>
    have z2 := s l u (by rw [del_ne n]; exact z)
    rw [del_ne n, hl] at z2
    cases z2
theorem dats_rows {H : Hp} : ∀ {T : List TRow}, (∀ q ∈ T, Dat H q.v q.2) → DatAll H (T.map TRow.v) (T.map Prod.snd)
  | [], _ => .nil
  | q :: T, h => .cons (h q List.mem_cons_self) (dats_rows fun r hr => h r (List.mem_cons_of_mem _ hr))
theorem sorty_of {α : Type} {f : α → PyData} {T : List TRow} {l : List α} (e : T.map Prod.snd = l.map f) (al : ∀ x y, alike (f x) (f y) = true) (tp : ∀ x, ∃ xs, f x = .tuple xs) (dp : ∀ x, (f x).depth ≤ 8) : Sorty T := by
  have z : ∀ p ∈ T, ∃ x, p.2 = f x := fun p hp => by
    have m : p.2 ∈ l.map f := e ▸ List.mem_map_of_mem hp
    obtain ⟨x, _, hx⟩ := List.mem_map.mp m
    exact ⟨x, hx.symm⟩
  refine ⟨fun d hd d' hd' => ?_, fun p hp => ?_, fun p hp => ?_⟩
  · rw [e] at hd hd'
    obtain ⟨x, _, rfl⟩ := List.mem_map.mp hd
    obtain ⟨y, _, rfl⟩ := List.mem_map.mp hd'
    exact al x y
  · obtain ⟨x, hx⟩ := z p hp
    rw [hx]; exact tp x
  · obtain ⟨x, hx⟩ := z p hp
    rw [hx]; exact dp x
/-- the letters of sorted rows -/
theorem letters_back {T T' : List TRow} {cl : List Ltr} (pm : T'.Perm T) (e : T.map Prod.snd = cl.map ltD) (nd : (cl.map Prod.fst).Nodup) (up : (T.map Prod.snd).Nodup → T'.Pairwise fun p q => dataLt p.2 q.2 = true) :
    ∃ cl' : List Ltr, cl'.Perm cl ∧ T'.map Prod.snd = cl'.map ltD ∧ cl'.Pairwise fun a b => tlt a.1 b.1 := by
  obtain ⟨cl', p2, e2⟩ := perm_back (f := ltD) ((pm.map Prod.snd).trans (.of_eq e)) cl rfl
  have nl : cl.Nodup := nodup_of_map nd
  have nT : (T.map Prod.snd).Nodup := by
    rw [e]
    refine List.pairwise_map.mpr (nl.imp fun {a b} ne z => ne ?_)
    unfold ltD at z
    injection z with z
    injection z with z1 z2
    injection z1 with z1
    injection z2 with z2
    injection z2 with z2
    exact Prod.ext z1 z2
  have u1 : (T'.map Prod.snd).Pairwise fun d e => dataLt d e = true := List.pairwise_map.mpr (up nT)
  rw [e2] at u1
  have nd' : (cl'.map Prod.fst).Nodup := ((p2.map Prod.fst).nodup_iff).mpr nd
  exact ⟨cl', p2, e2, ((List.pairwise_map.mp u1).and (List.pairwise_map.mp nd')).imp fun {a b} z => lt_letters z.2 z.1⟩
section
variable {P : Program} {w : World} {K : PySem.W.Frag} {mg : Str → Option Value} {base : Heap}
theorem scClause : FnScope ["source", "words", "size", "left", "letters", "turn"] ["source", "words"] (defScope sClause) := ⟨rfl, rfl, rfl, by decide +kernel, rfl, by decide +kernel, by decide +kernel⟩
theorem ok_clause {f fP : Addr} {fd fdP : FuncData} (F : Fun K "_law_clause" "_law_clause" sClause f fd) (Pk : Has K mg "_law_pick" sPick ["source", "top"] fP fdP) (B : Blt mg) : FnOk P w K mg base CX0 2 f fd ["source", "words"] spClause := by
  have GP : FnOk P w K mg base CX0 1 fP fdP ["source", "top"] spPick := ok_pick Pk.F B
  refine F.ok scClause (fun vs H Q E h => ?_) (fun cdv A outer s H vs Q E hr h => ?_)
  · obtain ⟨p, lw, c, ws, rfl, _⟩ := h
    rfl
  · obtain ⟨p, lw, c, ws, rfl, hp, hc, hW, nd, hlen, npw, q⟩ := h
    have hu : (A.deeper (envOfC "_law_clause" (defScope sClause) s.heap.objs.size f cdv)).units + 64 < cLine := hr.units
    refine ⟨_, pss_cons (ps_par3 (i := 2) (j := 3) (l := 4) rfl scClause.nd rfl rfl rfl (by decide) (by decide) (by decide) rfl rfl rfl
        (pa_cons (pe_ix ix_list (pe_lst (pa_cons pe_int (pa_cons pe_int (pa_cons pe_int (pa_cons pe_int (pa_cons pe_int (pa_cons pe_int (pa_cons pe_int (pa_cons pe_int (pa_cons pe_int (pa_cons pe_int (pa_cons pe_int (pa_cons pe_int pa_nil)))))))))))))
            (pe_call GP hr rfl Pk.g Pk.F.kp Pk.b .nil pass0 (pa_cons (pv 0) (pa_cons pe_int pa_nil))) (fun _ _ => rfl))
          (pa_cons (pe_callTy call_list_of (by rfl) B.list (by decide +kernel) (pa_cons (pv 1) pa_nil)) (pa_cons (pe_lst pa_nil) pa_nil))) (by with_unfolding_all rfl))
      (pss_cons (ps_for PassesOwn.never rfl (pi_range1 rfl B.range (pa_cons (pe_ifExp (pt_cmpR op_gt (pe_call GP hr rfl Pk.g Pk.F.kp Pk.b .nil pass0 (pa_cons (pv 0) (pa_cons pe_int pa_nil))) pe_int (nomark _))
            (pe_callB (call_min2 rfl) (by rfl) B.min (by decide +kernel) (pa_cons (pv 2) (pa_cons (pe_callB call_len_seq (by rfl) B.len (by decide +kernel) (pa_cons (pv 3) pa_nil)) pa_nil))) pe_int) pa_nil)) (pg_name (i := 5) scClause.nd rfl (.inl rfl))
        (pss_one (ps_expr (pe_bm PySem.F.plainAttrs_list PySem.F.slot_list_append PySem.F.type_list_append mt_append (pv 4) (pa_cons (pe_tup (pa_cons
          (pe_bm PySem.F.plainAttrs_list PySem.F.slot_list_pop PySem.F.type_list_pop mt_popAt (pv 3) (pa_cons (pe_call GP hr rfl Pk.g Pk.F.kp Pk.b .nil pass0 (pa_cons (pv 0) (pa_cons (pe_callB call_len_seq (by rfl) B.len (by decide +kernel) (pa_cons (pv 3) pa_nil)) pa_nil))) pa_nil))
          (pa_cons (pe_cmpR op_eq (pe_call GP hr rfl Pk.g Pk.F.kp Pk.b .nil pass0 (pa_cons (pv 0) (pa_cons pe_int pa_nil))) pe_int (nomark _)) pa_nil))) pa_nil)))))
      (pss_one (ps_ret (pe_tupleOf rfl B.tuple (pe_callB (cr_sortL (by exact hu)) (by rfl) B.sorted (by decide +kernel) (pa_cons (pv 4) pa_nil)))))), ?_⟩
    refine ⟨(by show 12 ≤ sizeLine; decide), fun l hl => ⟨_, rfl, p, _, 12, rfl, hp.mono (upd_ne (hp.ne hl)) (Nat.le_refl _), by omega, by decide, by decide, fun r o r0 r1 hp1 => ?_⟩⟩
    obtain ⟨v, hv, hm, _⟩ := at_ok (xs := [.int 1, .int 2, .int 2, .int 2, .int 3, .int 3, .int 3, .int 3, .int 4, .int 4, .int 5, .int 14]) r0 r1
    obtain ⟨z, rfl, z0⟩ : ∃ z : Int, v = .int z ∧ 0 ≤ z := by
      simp only [List.mem_cons, List.not_mem_nil, or_false] at hm
      rcases hm with h | h | h | h | h | h | h | h | h | h | h | h <;> exact ⟨_, h, by decide⟩
    have npl := hp.ne hl
    have nlw : lw ≠ l := ne_of_none hW hl
    have eW1 : upd (upd H l (.lst [.int 1, .int 2, .int 2, .int 2, .int 3, .int 3, .int 3, .int 3, .int 4, .int 4, .int 5, .int 14])) p o lw = some (.lst (ws.map V.str)) := by rw [upd_ne npw.symm, upd_ne nlw]; exact hW
    refine ⟨l, _, r, _, rfl, rfl, SqL.of (by rw [upd_ne npl.symm, upd_same]), hv, _, rfl, lw, _, rfl, .inl (SqL.of eW1), fun aL hL => ⟨(by show 0 ≤ sizeLine; decide), fun aT hT => ⟨_, _, _, rfl, ?_⟩⟩⟩
    have nLT : aL ≠ aT := ne_of_none upd_same hT
    have hT1 : upd (upd H l (.lst [.int 1, .int 2, .int 2, .int 2, .int 3, .int 3, .int 3, .int 3, .int 4, .int 4, .int 5, .int 14])) p o aT = none := by
      rw [upd_ne nLT.symm] at hT
      exact hT
    have npL := hp1.ne hL
    have npT := hp1.ne hT1
    have smA : Same (del H p) (del (upd (upd H l (.lst [.int 1, .int 2, .int 2, .int 2, .int 3, .int 3, .int 3, .int 3, .int 4, .int 4, .int 5, .int 14])) p o) p) := sd_at (sd_put (Same.refl _) hl)
    have hL0 := sd_free smA hL npL.symm
    have hT0 := sd_free smA hT1 npT.symm
    refine gen_heap (F := fun G => Same (del H p) (del G p) ∧ G aL = some (.lst (ws.map V.str)) ∧ G aT = some (.lst []) ∧ Src G p (c + 1)) ⟨sd_put (sd_put smA hL0) hT0, by rw [upd_ne nLT, upd_same], upd_same, hp1.mono (by rw [upd_ne npT, upd_ne npL]) (Nat.le_refl _)⟩ (fun G ⟨smG, gL, gT, hs⟩ => ?_)
    refine ⟨_, rfl, p, _, 60, rfl, hs, by omega, by decide, by decide, fun r6 o6 _ _ hp6 => ⟨_, _, rfl, rfl, _, rfl, ?_⟩⟩
    have eL6 : upd G p o6 aL = some (.lst (ws.map V.str)) := by rw [upd_ne npL.symm]; exact gL
    refine ite_intP (fun j => 0 ≤ j ∧ j ≤ (ws.length : Int)) (fun j hj => ?_) (fun _ k => ?_) (fun _ k => ?_)
    · refine ⟨j, rfl, by omega, by omega, ?_⟩
      refine for_range (lo := 0) (n := j.toNat) (fun i σ H' => ∃ (L : List Str) (T : List TRow) (cl : List Ltr) (o5 : Option V), σ = [some (.ref p), some (.ref lw), some (.int z), some (.ref aL), some (.ref aT), o5] ∧
        H' aL = some (.lst (L.map V.str)) ∧ H' aT = some (.lst (T.map TRow.v)) ∧ T.map Prod.snd = cl.map ltD ∧ (∀ q ∈ T, Dat H' q.v q.2) ∧ (cl.map Prod.fst ++ L).Nodup ∧ (∀ x ∈ cl.map Prod.fst ++ L, x ∈ ws) ∧ L.length + i = ws.length ∧ cl.length = i ∧
        Src H' p (c + 2 + 2 * i) ∧ Same (del H p) (del H' p)) ?_ ?_ ?_
      · exact ⟨ws, [], [], _, rfl, eL6, by rw [upd_ne npT.symm]; exact gT, rfl, fun q hq => absurd hq (by simp), by simpa using nd, fun x hx => by simpa using hx, rfl, rfl, hp6, sd_at smG⟩
      · rintro i σ H' hi ⟨L, T, cl, o5, rfl, eL, eT, eD, hD, nd2, sub, len, lcl, hs7, sm7⟩
        have lp : 0 < L.length := by omega
        refine ⟨_, rfl, .inl ⟨rfl, _, SqL.of eT⟩, _, rfl, .inl ⟨rfl, _, SqL.of eL⟩, _, rfl, _, rfl, _, _, rfl, .inl (SqL.of eL), p, _, _, rfl, hs7, by omega, by rw [List.length_map]; omega, by rw [List.length_map]; omega, fun k o k0 k1 hp1 => ?_⟩
        rw [List.length_map] at k1
        have kl : k.toNat < L.length := by omega
        have pp := pop_perm L k.toNat kl
        have lenE : (L.eraseIdx k.toNat).length + 1 = L.length := by rw [pp.length_eq, List.length_cons]
        refine ⟨aL, _, k, k.toNat, .str L[k.toNat], rfl, rfl, by rw [upd_ne npL.symm]; exact eL, by omega, by omega, by rw [List.length_map]; exact seq_nat k0 k1, by rw [List.getElem?_map, List.getElem?_eq_getElem kl]; rfl, ?_⟩
        rw [map_erase]
        generalize L[k.toNat] = u at pp ⊢
        generalize L.eraseIdx k.toNat = L1 at pp lenE ⊢
        have sm8 := sd_put (l := aL) (o := .lst (L1.map V.str)) (sd_at (o := o) sm7) hL0
        have hs8 : Src (upd (upd H' p o) aL (.lst (L1.map V.str))) p (c + 2 + 2 * i + 1) := hp1.mono (upd_ne npL) (Nat.le_refl _)
        have eT8 : upd (upd H' p o) aL (.lst (L1.map V.str)) aT = some (.lst (T.map TRow.v)) := by rw [upd_ne nLT.symm, upd_ne npT.symm]; exact eT
        have eL8 : upd (upd H' p o) aL (.lst (L1.map V.str)) aL = some (.lst (L1.map V.str)) := upd_same
        have hD8 : ∀ q ∈ T, Dat (upd (upd H' p o) aL (.lst (L1.map V.str))) q.v q.2 := fun q hq => by
          have kq : keyable q.2 = true := by
            have m : q.2 ∈ cl.map ltD := eD ▸ List.mem_map_of_mem hq
            obtain ⟨x, _, hx⟩ := List.mem_map.mp m
            rw [← hx]
            rfl
          obtain ⟨xs, hx⟩ := hs7.lst
          exact dat_upd (xs := L.map V.str) (by rw [upd_ne npL.symm]; exact eL) kq (dat_upd hx kq (hD q hq))
        generalize upd (upd H' p o) aL (.lst (L1.map V.str)) = H8 at sm8 hs8 eT8 eL8 hD8 ⊢
        refine ⟨_, rfl, p, _, 2, rfl, hs8, by omega, by decide, by decide, fun k2 o2 _ _ hp9 => ⟨rfl, (by show 2 ≤ sizeLine; decide), fun t ht => ?_⟩⟩
        have sm9 := sd_at (o := o2) sm8
        have eT9 : upd H8 p o2 aT = some (.lst (T.map TRow.v)) := by rw [upd_ne npT.symm]; exact eT8
        have eL9 : upd H8 p o2 aL = some (.lst (L1.map V.str)) := by rw [upd_ne npL.symm]; exact eL8
        have npt := hp9.ne ht
        have nTt : aT ≠ t := ne_of_none eT9 ht
        have nLt : aL ≠ t := ne_of_none eL9 ht
        have ht0 := sd_free sm9 ht npt.symm
        have eT10 : upd (upd H8 p o2) t (.tup [.str u, .bl (decide (V.int k2 = V.int 0))]) aT = some (.lst (T.map TRow.v)) := by rw [upd_ne nTt]; exact eT9
        refine ⟨aT, _, _, rfl, rfl, eT10, by rw [List.length_map, ← List.length_map (f := Prod.snd), eD, List.length_map]; exact small1000 (by omega), ?_⟩
        refine ⟨L1, T ++ [(t, ltD (u, decide (V.int k2 = V.int 0)))], cl ++ [(u, decide (V.int k2 = V.int 0))], _, rfl, by rw [upd_ne nLT, upd_ne nLt]; exact eL9, by rw [upd_same, List.map_append]; rfl, by rw [List.map_append, List.map_append, eD]; rfl, fun q hq => ?_, ?_, ?_, by omega, by rw [List.length_append, lcl]; rfl,
          hp9.mono (by rw [upd_ne npT, upd_ne npt]) (by omega), sd_put (sd_put sm9 ht0) hT0⟩
        · have kq : keyable q.2 = true := by
            rcases List.mem_append.mp hq with m | m
            · have m : q.2 ∈ cl.map ltD := eD ▸ List.mem_map_of_mem m
              obtain ⟨x, _, hx⟩ := List.mem_map.mp m
              rw [← hx]
              rfl
            · cases List.mem_singleton.mp m
              rfl
          refine dat_upd eT10 kq ?_
          rcases List.mem_append.mp hq with m | m
          · obtain ⟨xs, hx⟩ := hs8.lst
            exact dat_new ht (dat_upd hx kq (hD8 q m))
          · cases List.mem_singleton.mp m
            exact .tup (xs := [.str u, .bl (decide (V.int k2 = V.int 0))]) upd_same (.cons (.str _) (.cons (.bl _) .nil))
        · have e : ((cl ++ [(u, decide (V.int k2 = V.int 0))]).map Prod.fst ++ L1).Perm (cl.map Prod.fst ++ L) := by
            rw [List.map_append, List.append_assoc]
            exact (List.Perm.refl _).append pp.symm
          exact e.nodup_iff.mpr nd2
        · intro x hx
          have e : ((cl ++ [(u, decide (V.int k2 = V.int 0))]).map Prod.fst ++ L1).Perm (cl.map Prod.fst ++ L) := by
            rw [List.map_append, List.append_assoc]
            exact (List.Perm.refl _).append pp.symm
          exact sub x (e.mem_iff.mp hx)
      · rintro σ H' ⟨L, T, cl, o5, rfl, eL, eT, eD, hD, nd2, sub, len, lcl, hs7, sm7⟩
        have ndc : (cl.map Prod.fst).Nodup := (List.nodup_append.mp nd2).1
        refine ⟨_, rfl, aT, T, rfl, SqL.of eT, hD, sorty_of eD alike_lt (fun x => ⟨_, rfl⟩) (fun x => by have := depth_lt x; omega), fun T' b pm _ up hb => .inl ⟨b, _, rfl, SqL.of upd_same, fun t ht => ?_⟩⟩
        obtain ⟨cl', p2, e2, up2⟩ := letters_back pm eD ndc up
        have npb := hs7.ne hb
        have hs8 : Src (upd H' b (.lst (T'.map TRow.v))) p (c + 2 + 2 * j.toNat) := hs7.mono (upd_ne npb) (Nat.le_refl _)
        have npt := hs8.ne ht
        have sm8 := sd_put (o := .lst (T'.map TRow.v)) sm7 (sd_free sm7 hb npb.symm)
        refine q _ cl' _ (.tup upd_same ?_) ⟨up2, fun l hl => sub _ (List.mem_append_left _ (List.mem_map_of_mem (p2.mem_iff.mp hl)))⟩ (hs8.mono (upd_ne npt) (by omega)) (sd_put sm8 (sd_free sm8 ht npt.symm))
        rw [← e2]
        exact dats_rows fun r hr => dat_new ht (dat_new hb (hD r (pm.mem_iff.mp hr)))
    · exact ⟨_, rfl, _, rfl, _, _, rfl, .inl (SqL.of eL6), _, _, rfl, k _ (by rw [List.length_map]; split <;> omega)⟩
    · exact k _ ⟨by omega, by omega⟩
end
end S1

set_option Elab.async false
set_option linter.all false
set_option maxRecDepth 100000
set_option maxHeartbeats 4000000
/-! a number drawn, seldom 0 -/
namespace S1
open PySem PySem.W PySem.Spec PyProof.Rows L2
def spSome : Sp := fun vs H Q _ => ∃ (p : Addr) (c n : Nat), vs = [.ref p, .int n] ∧ Src H p c ∧ c ≤ 90000 ∧ n ≤ 1000 ∧
  ∀ (r : Nat) (H' : Hp), r ≤ n → Src H' p (c + 2) → Same (del H p) (del H' p) → Q (.int r) H'
section
variable {P : Program} {w : World} {K : PySem.W.Frag} {mg : Str → Option Value} {base : Heap}
theorem scSome : FnScope ["source", "size"] ["source", "size"] (defScope sSome) := ⟨rfl, rfl, rfl, by decide +kernel, rfl, by decide +kernel, by decide +kernel⟩
theorem or_cut {c : Prop} [Decidable c] {u : TT} {σ : L2.St} {H : Hp} {Q : Bool → Hp → Prop} (h1 : c → Q true H) (h2 : ¬ c → u σ H Q) : if c then Q true H else u σ H Q := by
  by_cases h : c
  · rw [if_pos h]; exact h1 h
  · rw [if_neg h]; exact h2 h
theorem ok_some {f fP : Addr} {fd fdP : FuncData} (F : Fun K "_law_some" "_law_some" sSome f fd) (Pk : Has K mg "_law_pick" sPick ["source", "top"] fP fdP) (B : Blt mg) : FnOk P w K mg base CX0 2 f fd ["source", "size"] spSome := by
  have GP : FnOk P w K mg base CX0 1 fP fdP ["source", "top"] spPick := ok_pick Pk.F B
  refine F.ok scSome (fun vs H Q E h => ?_) (fun cdv A outer s H vs Q E hr h => ?_)
  · obtain ⟨p, c, n, rfl, _⟩ := h
    rfl
  · obtain ⟨p, c, n, rfl, hp, hc, hn, q⟩ := h
    refine ⟨_, pss_one (ps_ret (pe_ifExp (PW.pt (pw_or (pt_cmpR op_eq (pv 1) pe_int (nomark _)) (pw_or1 (pt_cmpR op_eq (pe_call GP hr rfl Pk.g Pk.F.kp Pk.b .nil pass0 (pa_cons (pv 0) (pa_cons pe_int pa_nil))) pe_int (nomark _)))))
      pe_int (pe_op op_add pe_int (pe_call GP hr rfl Pk.g Pk.F.kp Pk.b .nil pass0 (pa_cons (pv 0) (pa_cons (pv 1) pa_nil)))))), ?_⟩
    refine ⟨_, rfl, rfl, _, rfl, or_cut (fun h0 => ?_) (fun h0 => ?_)⟩
    · show if true = true then _ else _
      rw [if_pos rfl]
      exact q 0 H (Nat.zero_le _) (hp.mono rfl (by omega)) (Same.refl _)
    · have n0 : 0 < n := by
        have z : ¬ (V.int (n : Nat) = V.int 0) := fun z => h0 (decide_eq_true z)
        rcases Nat.eq_zero_or_pos n with e | e
        · exact absurd (by rw [e]; rfl) z
        · exact e
      refine ⟨_, rfl, p, _, 12, rfl, hp, by omega, by decide, by decide, fun r o r0 r1 hp1 => ⟨rfl, _, rfl, ?_⟩⟩
      refine ite2 (fun _ => ?_) (fun _ => ?_)
      · exact q 0 _ (Nat.zero_le _) (hp1.mono rfl (by omega)) (sd_at (Same.refl _))
      · refine ⟨_, rfl, _, rfl, p, _, _, rfl, hp1, by omega, by omega, by omega, fun r2 o2 r20 r21 hp2 => ⟨_, _, rfl, rfl, ?_⟩⟩
        have e : (1 : Int) + r2 = ((r2.toNat + 1 : Nat) : Int) := by omega
        show Q (V.int (1 + r2)) _
        rw [e]
        exact q (r2.toNat + 1) _ (by omega) hp2 (sd_at (sd_at (Same.refl _)))
end
end S1

set_option Elab.async false
set_option linter.all false
set_option maxRecDepth 100000
set_option maxHeartbeats 4000000
/-! sorted(list) of texts, and the data of sayings -/
namespace S1
open PySem PySem.W PySem.Spec PyProof.Rows L2
abbrev RS (v : Value) (x : Str) : Prop := RelV (.str x) v
theorem each_strs : ∀ {xs : List Str} {us : List Value}, Vals (xs.map V.str) us → EachIs RS us xs
  | [], _, .nil => .nil
  | _ :: _, _, .cons r t => .cons r (each_strs t)
theorem strs_each : ∀ {us : List Value} {xs : List Str}, EachIs RS us xs → Vals (xs.map V.str) us
  | _, _, .nil => .nil
  | _, _, .cons r t => .cons r (strs_each t)
theorem each_reads {h : Heap} : ∀ {us : List Value} {xs : List Str}, EachIs RS us xs → EachIs (fun v x => ∃ as, Reads h v (.str x) as) us xs
  | _, _, .nil => .nil
  | _, _, .cons r t => .cons (by obtain ⟨k, rfl⟩ := r; exact ⟨_, .str _ k⟩) (each_reads t)
def sortW (xs : List Str) : List Str := xs.mergeSort (dataLe false PyData.str)
theorem sortW_up {xs : List Str} (nd : xs.Nodup) : (sortW xs).Pairwise tlt := by
  have srt : (sortW xs).Pairwise fun p q => dataLe false PyData.str p q = true := sort_pairwise (sortLe_total (listOrd itemOrd) false fun p : Str => keyToks (.str p)) xs
  have nd' : (sortW xs).Nodup := (List.mergeSort_perm _ _).nodup_iff.mpr nd
  refine (srt.and nd').imp fun {p q} z => ?_
  have al : alike (.str p) (.str q) = true := by simp [alike]
  have ne : PyData.str p ≠ PyData.str q := fun e => z.2 (by injection e)
  rcases dataLt_or al ne with c | c
  · rw [dataLt_str, decide_eq_true_eq] at c
    exact c
  · have z3 : (!dataLt (.str q) (.str p)) = true := z.1
    rw [c] at z3
    exact absurd z3 (by decide)
section
variable {X : Cx}
/-- sorted(xs), xs a list of texts -/
def rSortW (K : PySem.W.Frag) : List V → Hp → VK → Prop := fun vs H Q => ∃ (l : Addr) (xs : List Str), vs = [V.ref l] ∧ SqL K H l (xs.map V.str) ∧
  ∀ (ys : List Str) (b : Addr), ys.Perm xs → (xs.Nodup → ys.Pairwise tlt) → H b = none → Q (.ref b) (upd H b (.lst (ys.map V.str)))
theorem cr_sortW (hu : X.A.units + 64 < cLine) : CallR X (.builtin "sorted") (rSortW X.K) := by
  intro pins s σ H vs us Q I r h
  obtain ⟨l, xs, rfl, hl, q⟩ := h
  rw [Vals.ref1 r]
  obtain ⟨its, rv, pl, hz⟩ := I.list hl
  have e0 := each_strs rv
  have rd := each_reads (h := sortingHeap (copyHeap s.heap its) (s.heap.objs.size + 1) its) e0
  have al : AllAlike (xs.map PyData.str) := AllAlike.of fun b b' => by simp [alike]
  have un : ∀ d, d ∈ xs.map PyData.str → X.A.in1.in1.units + d.depth < cLine := fun d z => by
    obtain ⟨p, _, rfl⟩ := List.mem_map.mp z
    simp only [Around.in1_units, PyData.depth]
    omega
  have srt := SortsAt.data (prog := X.prog) (w := X.w) (A := X.A.in1.in1) (s := { s with heap := sortingHeap (copyHeap s.heap its) (s.heap.objs.size + 1) its }) (each_map (R := fun v d => ∃ as, Reads _ v d as) PyData.str rd) al
    (Sortable.others fun b => ⟨fun z => (nomatch z), fun _ z => (nomatch z)⟩) un
  have out := strs_each (sortVals_data (R := RS) (enc := PyData.str) false e0 rd al)
  rw [List.length_map] at hz
  have len : its.length = xs.length := by rw [e0.length]
  refine sorted_vals pl.isList srt (by rw [len]; exact hz) ?_
  obtain ⟨c, hc⟩ := PyProof.Rows.sortedAll_at s.heap its (sortVals (dataKind (sortingHeap (copyHeap s.heap its) (s.heap.objs.size + 1) its) (xs.map PyData.str)) false its its).toArray
  have fresh : H (s.heap.objs.size + 1) = none := I.hok.fresh (Nat.le_succ _)
  have pm : (sortW xs).Perm xs := List.mergeSort_perm _ _
  exact ⟨.ref _, upd H (s.heap.objs.size + 1) (.lst ((sortW xs).map V.str)), I.laid (t' := s.toks) (fun _ _ => PyProof.Rows.sortedAll_old) (Nat.le_succ _) ⟨by rw [List.length_map, pm.length_eq]; exact hz, _, c, out, hc⟩, rfl,
    q (sortW xs) _ pm sortW_up fresh⟩
end
/-! ### the data of sayings -/
abbrev Own := Str × List Str
def nmsD (xs : List Str) : PyData := .tuple (xs.map .str)
def ownD (o : Own) : PyData := .tuple [.str o.1, nmsD o.2]
structure Say where
  picks : List Str
  owns : List Own
  cls : List (List Ltr)
def Say.d (s : Say) : PyData := .tuple [nmsD s.picks, .tuple (s.owns.map ownD), .tuple (s.cls.map clD)]
def Say.names (s : Say) : List Str := s.picks ++ s.owns.map Prod.fst
def copies (os : List Own) : Nat := (os.map fun o => 2 ^ o.2.length).sum
/-- a saying of at most so many picks, owns, copies, clauses -/
structure SayOk (a b c d : Nat) (s : Say) : Prop where
  pu : s.picks.Pairwise tlt
  pn : ∀ x ∈ s.picks, Nm x
  pl : s.picks.length ≤ a
  ou : s.owns.Pairwise fun x y => tlt x.1 y.1
  on : ∀ o ∈ s.owns, Nm o.1 ∧ o.1 ∉ s.picks ∧ o.2.Pairwise tlt ∧ ∀ x ∈ o.2, x ∈ s.picks
  ol : s.owns.length ≤ b
  oc : copies s.owns ≤ c
  cu : s.cls.Pairwise fun x y => dataLt (clD x) (clD y) = true
  ck : ∀ cl ∈ s.cls, ClOk s.names cl
  cl : s.cls.length ≤ d
theorem alike_nms (a b : List Str) : alike (nmsD a) (nmsD b) = true := by
  show alikeAll (a.map .str) (b.map .str) = true
  exact alikes_map PyData.str (fun _ _ => by simp [alike]) a b
theorem alike_own (a b : Own) : alike (ownD a) (ownD b) = true := by
  simp only [ownD, alike, alikeAll, alike_nms, Bool.and_self, Bool.and_true]
theorem depth_nms (a : List Str) : (nmsD a).depth ≤ 1 := by
  have := depths_map PyData.str 0 (fun _ => Nat.le_refl _) a
  simp only [nmsD, PyData.depth]
  omega
theorem depth_own (a : Own) : (ownD a).depth ≤ 2 := by
  have := depth_nms a.2
  simp only [ownD, PyData.depth, PyData.depthAll]
  omega
theorem keyable_nms (a : List Str) : keyable (nmsD a) = true := by
  show keyables (a.map .str) = true
  exact keyables_map PyData.str (fun _ => rfl) a
theorem keyable_own (a : Own) : keyable (ownD a) = true := by
  simp only [ownD, keyable, keyables, keyable_nms, Bool.and_self]
theorem lt_owns {a b : Own} (ne : a.1 ≠ b.1) (h : dataLt (ownD a) (ownD b) = true) : tlt a.1 b.1 := by
  unfold ownD at h
  rw [dataLt_pair (by simp [alike]) (alike_nms _ _)] at h
  have e : PyData.eqv (.str a.1) (.str b.1) = false := by
    simp only [PyData.eqv]
    exact beq_false_of_ne ne
  rw [e, if_neg (by decide), dataLt_str, decide_eq_true_eq] at h
  exact h
/-- a tuple that stands, its object without a dict of its own -/
def FT (H : Hp) (a : Addr) (xs : List V) : Prop := ∃ o : Obj, o.dict = none ∧ H a = some (.frz o (.tup xs))
theorem FT.rd {H : Hp} {a : Addr} {xs : List V} (h : FT H a xs) : Rd H a (.tup xs) := let ⟨o, _, e⟩ := h; .inr ⟨o, e⟩
theorem FT.sq {K : PySem.W.Frag} {H : Hp} {a : Addr} {xs : List V} (h : FT H a xs) : SqT K H a xs := .inl h.rd
theorem FT.same {H H' : Hp} {a : Addr} {xs : List V} (h : FT H a xs) (S : Same H H') : FT H' a xs := let ⟨o, d, e⟩ := h; ⟨o, d, S _ _ e⟩
/-- a saying, as it stands -/
def DatS (H : Hp) (v : V) (s : Say) : Prop := Dat H v s.d
theorem DatS.same {H H' : Hp} {v : V} {s : Say} (h : DatS H v s) (S : Same H H') : DatS H' v s := Dat.same S h
section
variable {X : Cx}
/-- tuple(xs), xs a list: what is new is known to the last -/
def kTupF (K : PySem.W.Frag) : V → Hp → VK → Prop := fun x H Q => ∃ (p : Addr) (ys : List V), x = .ref p ∧ SqL K H p ys ∧ ∀ (l : Addr) (o : Obj), H l = none → o.dict = none → Q (.ref l) (upd H l (.frz o (.tup ys)))
theorem call_tupleF {pins : List (Addr × Obj)} {σ : L2.St} {H : Hp} {s : Shared} {x : V} {u : Value} {Q : VK} (I : Inv X pins σ H s) (r : RelV x u) (h : kTupF X.K x H Q) : wpAny (model X.prog X.w) X.A (call (.type "tuple") [u]) (EP X pins σ Q) X.xe s := by
  obtain ⟨p, ys, rfl, hq, q⟩ := h
  cases r
  obtain ⟨its, r', pl, hz⟩ := I.list hq
  have hlen := r'.length
  refine call_tuple_list pl.isList (fun h' kp => ?_) (by simp only [List.size_toArray] <;> omega)
  have I1 : Inv X pins σ H { s with heap := h' } := I.kept (t' := s.toks) kp
  have I2 : Inv X pins σ (upd H h'.objs.size (.frz { cls := .type "tuple", data := .seq its.toArray } (.tup ys))) { s with heap := h'.push { cls := .type "tuple", data := .seq its.toArray } } :=
    I1.laid (t' := s.toks) (fun b o e => Heap.get?_push_of_some _ e) (Nat.le_refl _) (show ObjOk X.prog X.w _ _ _ (.frz _ (.tup ys)) from ⟨Heap.get?_push_size _ rfl, hz, its, r', IsTup.new _ _⟩)
  exact ⟨.ref h'.objs.size, _, I2, rfl, q _ _ (I1.hok.fresh (Nat.le_refl _)) rfl⟩
theorem pe_tupleF {a : Expr} {ta : TE} {p pos : Pos} (hg : Gl X "tuple") (hm : X.mg "tuple" = none) (ha : PE X a ta) (na : starEach [a] X.env = (false, eval a X.env) :: starEach [] X.env := by rfl) :
    PE X (.Call (.Name "tuple" p) [a] [] pos) (tThen ta (kTupF X.K)) := by
  refine ⟨fun pins s σ H Q I h => ?_⟩
  exact Call_ (ld_blt I hg hm boot_tuple (PyProof.Rows.callWith_type1 (one_arg ha I h (fun v s2 x H2 I2 r q => call_tupleF I2 r q) na) na))
end
end S1

set_option Elab.async false
set_option linter.all false
set_option maxRecDepth 100000
set_option maxHeartbeats 4000000
/-! sayings, drawn -/
namespace S1
open PySem PySem.W PySem.Spec PyProof.Rows L2
def spSaying : Sp := fun vs H Q _ => ∃ (p z : Addr) (c a b m d : Nat), vs = [.ref p, .ref z] ∧ Src H p c ∧ c ≤ 50000 ∧ H z = some (.tup [.int a, .int b, .int m, .int d]) ∧ a + b ≤ 14 ∧ m ≤ 1000 ∧ d ≤ 60 ∧
  ∀ (v : V) (s : Say) (H' : Hp), DatS H' v s → SayOk a b m d s → Src H' p (c + 1500 + 203 * d) → Same (del H p) (del H' p) → Q v H'
abbrev nSaying : List Str := ["source", "sizes", "words", "picks", "owns", "room", "word", "sight", "pick", "clauses", "turn"]
theorem cut_take {ws : List Str} {r : Nat} : cutV (ws.map V.str) none (some (r : Int)) = (ws.take r).map V.str := by
  unfold cutV
  rw [HT.sIx_nat, HT.sIx_none, List.drop_zero, List.map_take, Nat.sub_zero, ← List.take_eq_take_min]
theorem cut_mid {ws : List Str} {a r : Nat} (h : a + r ≤ ws.length) : cutV (ws.map V.str) (some (a : Int)) (some ((a + r : Nat) : Int)) = ((ws.drop a).take r).map V.str := by
  unfold cutV
  rw [HT.sIx_nat, HT.sIx_nat, List.length_map, Nat.min_eq_left (show a ≤ ws.length by omega), Nat.min_eq_left h, ← List.map_drop, ← List.map_take]
  congr 1
  congr 1
  omega
theorem dats_strs {H : Hp} : ∀ xs : List Str, DatAll H (xs.map V.str) (xs.map PyData.str)
  | [] => .nil
  | x :: xs => .cons (.str x) (dats_strs xs)
theorem copies_snoc (os : List Own) (o : Own) : copies (os ++ [o]) = copies os + 2 ^ o.2.length := by
  unfold copies
  rw [List.map_append, List.sum_append, List.map_cons, List.map_nil, List.sum_cons, List.sum_nil, Nat.add_zero]
theorem own_row {H : Hp} {q : TRow} {o : Own} (e : q.2 = ownD o) (D : Dat H q.v q.2) : ∃ t, H q.1 = some (.tup [.str o.1, .ref t]) ∧ H t = some (.tup (o.2.map V.str)) := by
  rw [e] at D
  have D2 : Dat H (.ref q.1) (.tuple [.str o.1, nmsD o.2]) := D
  cases D2 with
  | tup g h =>
    cases h with
    | cons h1 h2 =>
      cases h2 with
      | cons h3 h4 =>
        cases h4
        cases h1
        have h5 : Dat H _ (.tuple (o.2.map .str)) := h3
        cases h5 with
        | tup g2 h6 =>
          have key : ∀ {xs : List V} {l : List Str}, DatAll H xs (l.map PyData.str) → xs = l.map V.str := by
            intro xs l
            induction l generalizing xs with
            | nil => intro h; cases h; rfl
            | cons x l ih =>
              intro h
              cases h with
              | cons a b =>
                cases a
                rw [ih b, List.map_cons]
          rw [key h6] at g2
          exact ⟨_, g, g2⟩
theorem rows_back {α : Type} {f : α → PyData} {g : α → Str} (hg : ∀ a b, f a = f b → g a = g b) (hlt : ∀ a b, g a ≠ g b → dataLt (f a) (f b) = true → tlt (g a) (g b)) {T T' : List TRow} {l : List α} (pm : T'.Perm T) (e : T.map Prod.snd = l.map f)
    (nd : (l.map g).Nodup) (up : (T.map Prod.snd).Nodup → T'.Pairwise fun p q => dataLt p.2 q.2 = true) : ∃ l' : List α, l'.Perm l ∧ T'.map Prod.snd = l'.map f ∧ l'.Pairwise fun a b => tlt (g a) (g b) := by
  obtain ⟨l', p2, e2⟩ := perm_back (f := f) ((pm.map Prod.snd).trans (.of_eq e)) l rfl
  have nT : (T.map Prod.snd).Nodup := by
    rw [e]
    exact List.pairwise_map.mpr ((List.pairwise_map.mp nd).imp fun {a b} ne z => ne (hg a b z))
  have u1 : (T'.map Prod.snd).Pairwise fun d e => dataLt d e = true := List.pairwise_map.mpr (up nT)
  rw [e2] at u1
  have nd' : (l'.map g).Nodup := ((p2.map g).nodup_iff).mpr nd
  exact ⟨l', p2, e2, ((List.pairwise_map.mp u1).and (List.pairwise_map.mp nd')).imp fun {a b} z => hlt a b z.2 z.1⟩
theorem own_name (a b : Own) (h : ownD a = ownD b) : a.1 = b.1 := by
  unfold ownD at h
  injection h with h
  injection h with h _
  injection h
theorem nodup_le {α : Type} : ∀ {l m : List α}, l.Nodup → (∀ x ∈ l, x ∈ m) → l.length ≤ m.length
  | [], _, _, _ => Nat.zero_le _
  | x :: l, m, nd, h => by
    obtain ⟨s, t, e⟩ := List.append_of_mem (h x List.mem_cons_self)
    obtain ⟨n1, n2⟩ := List.nodup_cons.mp nd
    have ih := nodup_le (m := s ++ t) n2 fun y hy => by
      have z := h y (List.mem_cons_of_mem _ hy)
      rw [e] at z
      rcases List.mem_append.mp z with z | z
      · exact List.mem_append_left _ z
      · rcases List.mem_cons.mp z with z | z
        · exact absurd (z ▸ hy) n1
        · exact List.mem_append_right _ z
    rw [e, List.length_append, List.length_cons, List.length_cons]
    rw [List.length_append] at ih
    omega
theorem copies_perm {l m : List Own} (p : l.Perm m) : copies l = copies m := (p.map fun o : Own => 2 ^ o.2.length).sum_nat
theorem and_split {c : Prop} [Decidable c] {u : TT} {σ : L2.St} {H : Hp} {Q : Bool → Hp → Prop} (R : Hp → Prop) (k : ∀ H', R H' → Q false H') (h1 : c → (∀ H', R H' → Q false H') → u σ H Q) (h2 : ¬ c → (∀ H', R H' → Q false H') → Q false H) : if c then u σ H Q else Q false H := by
  by_cases h : c
  · rw [if_pos h]; exact h1 h k
  · rw [if_neg h]; exact h2 h k
/-- what a turn leaves as it is -/
structure Bun (H H1 : Hp) (p b0 n2 aO : Addr) (ys W2 : List Str) (T : List TRow) (G : Hp) : Prop where
  b : G b0 = some (.lst (ys.map V.str))
  n : G n2 = some (.lst (W2.map V.str))
  o : G aO = some (.lst (T.map TRow.v))
  d : ∀ q ∈ T, Dat G q.v q.2
  k : ∀ q ∈ T, keyable q.2 = true
  s : Same (del H p) (del G p)
  s1 : Same (del H1 p) (del G p)
  pb : p ≠ b0
  pn : p ≠ n2
  po : p ≠ aO
section
variable {H H1 : Hp} {p b0 n2 aO : Addr} {ys W2 : List Str} {T : List TRow} {G : Hp}
theorem Bun.src (B : Bun H H1 p b0 n2 aO ys W2 T G) {c : Nat} (h : Src G p c) (o : HO) : Bun H H1 p b0 n2 aO ys W2 T (upd G p o) := by
  obtain ⟨xs, hx⟩ := h.lst
  exact ⟨by rw [upd_ne B.pb.symm]; exact B.b, by rw [upd_ne B.pn.symm]; exact B.n, by rw [upd_ne B.po.symm]; exact B.o, fun q hq => dat_upd hx (B.k q hq) (B.d q hq), B.k, sd_at B.s, sd_at B.s1, B.pb, B.pn, B.po⟩
theorem Bun.new (B : Bun H H1 p b0 n2 aO ys W2 T G) {D : Addr} (h : G D = none) (n : D ≠ p) (o : HO) : Bun H H1 p b0 n2 aO ys W2 T (upd G D o) :=
  ⟨by rw [upd_ne (ne_of_none B.b h)]; exact B.b, by rw [upd_ne (ne_of_none B.n h)]; exact B.n, by rw [upd_ne (ne_of_none B.o h)]; exact B.o, fun q hq => dat_new h (B.d q hq), B.k, sd_new B.s h n, sd_new B.s1 h n, B.pb, B.pn, B.po⟩
/-- a list of the turn's own -/
structure Mine (H H1 : Hp) (b0 n2 aO D : Addr) : Prop where
  h : H D = none
  h1 : H1 D = none
  b : D ≠ b0
  n : D ≠ n2
  o : D ≠ aO
theorem Bun.mine (B : Bun H H1 p b0 n2 aO ys W2 T G) {D : Addr} (h : G D = none) (n : D ≠ p) : Mine H H1 b0 n2 aO D :=
  ⟨sd_free B.s h n, sd_free B.s1 h n, (ne_of_none B.b h).symm, (ne_of_none B.n h).symm, (ne_of_none B.o h).symm⟩
theorem Bun.put (B : Bun H H1 p b0 n2 aO ys W2 T G) {D : Addr} (M : Mine H H1 b0 n2 aO D) {xs : List V} (e : G D = some (.lst xs)) (o : HO) : Bun H H1 p b0 n2 aO ys W2 T (upd G D o) :=
  ⟨by rw [upd_ne M.b.symm]; exact B.b, by rw [upd_ne M.n.symm]; exact B.n, by rw [upd_ne M.o.symm]; exact B.o, fun q hq => dat_upd e (B.k q hq) (B.d q hq), B.k, sd_put B.s M.h, sd_put B.s1 M.h1, B.pb, B.pn, B.po⟩
end
section
variable {P : Program} {w : World} {K : PySem.W.Frag} {mg : Str → Option Value} {base : Heap}
theorem scSaying : FnScope nSaying ["source", "sizes"] (defScope sSaying) := ⟨rfl, rfl, rfl, by decide +kernel, rfl, by decide +kernel, by decide +kernel⟩
theorem ok_saying {f fP fW fC fS : Addr} {fd fdP fdW fdC fdS : FuncData} (F : Fun K "_law_saying" "_law_saying" sSaying f fd) (Pk : Has K mg "_law_pick" sPick ["source", "top"] fP fdP) (Wd : Has K mg "_law_words" sWords ["source", "size"] fW fdW)
    (Cl : Has K mg "_law_clause" sClause ["source", "words"] fC fdC) (So : Has K mg "_law_some" sSome ["source", "size"] fS fdS) (B : Blt mg) : FnOk P w K mg base CX0 3 f fd ["source", "sizes"] spSaying := by
  have GP : FnOk P w K mg base CX0 1 fP fdP ["source", "top"] spPick := ok_pick Pk.F B
  have GW : FnOk P w K mg base CX0 2 fW fdW ["source", "size"] spWords := ok_words Wd.F Pk B
  have GC : FnOk P w K mg base CX0 2 fC fdC ["source", "words"] spClause := ok_clause Cl.F Pk B
  have GS : FnOk P w K mg base CX0 2 fS fdS ["source", "size"] spSome := ok_some So.F Pk B
  refine F.ok scSaying (fun vs H Q E h => ?_) (fun cdv A outer s H vs Q E hr h => ?_)
  · obtain ⟨p, z, c, a, b, m, d, rfl, _⟩ := h
    rfl
  · obtain ⟨p, z, c, a, b, m, d, rfl, hp, hc, hz, hab, hm, hd, q⟩ := h
    have hu : (A.deeper (envOfC "_law_saying" (defScope sSaying) s.heap.objs.size f cdv)).units + 64 < cLine := hr.units
    have hr1 := hr.mono (show 1 ≤ 2 by decide)
    refine ⟨_, pss_cons (ps_set (i := 2) scSaying.nd rfl (.inr rfl) (pe_call GW hr rfl Wd.g Wd.F.kp Wd.b .nil pass0 (pa_cons (pv 0) (pa_cons (pe_op op_add (pe_ix ix_tup (pv 1) pe_int (fun _ _ => rfl)) (pe_ix ix_tup (pv 1) pe_int (fun _ _ => rfl))) pa_nil))))
      (pss_cons (ps_par3 (i := 3) (j := 4) (l := 5) rfl scSaying.nd rfl rfl rfl (by decide) (by decide) (by decide) rfl rfl rfl
        (pa_cons (pe_callB (cr_sortW (by exact hu)) (by rfl) B.sorted (by decide +kernel) (pa_cons (pe_slice sl_list (pv 2) po_none (po_some (pe_call GS hr rfl So.g So.F.kp So.b .nil pass0 (pa_cons (pv 0) (pa_cons (pe_ix ix_tup (pv 1) pe_int (fun _ _ => rfl)) pa_nil))))) pa_nil))
          (pa_cons (pe_lst pa_nil) (pa_cons (pe_ix ix_tup (pv 1) pe_int (fun _ _ => rfl)) pa_nil))) (by with_unfolding_all rfl))
      (pss_cons (ps_for PassesOwn.never rfl (pi_list (pe_slice sl_list (pv 2) (po_some (pe_ix ix_tup (pv 1) pe_int (fun _ _ => rfl))) (po_some (pe_op op_add (pe_ix ix_tup (pv 1) pe_int (fun _ _ => rfl))
            (pe_call GS hr rfl So.g So.F.kp So.b .nil pass0 (pa_cons (pv 0) (pa_cons (pe_ix ix_tup (pv 1) pe_int (fun _ _ => rfl)) pa_nil))))))) (pg_name (i := 6) scSaying.nd rfl (.inl rfl))
        (pss_cons (ps_setLc (i := 7) (own := [("pick", 8)]) (g := gName 8) rfl scSaying.nd rfl rfl (sw_true rfl rfl rfl (by decide +kernel)) (pi_list (pv 3)) (blkOk_by (N := nSaying) (sc := defScope sSaying) (by decide +kernel))
            (fun _ _ _ _ _ => pg_name (i := 8) scSaying.nd rfl (Or.inl rfl)) (fun _ _ _ _ _ => pts_one (pt_cmpR op_eq (pe_call GP (by exact hr1) (by rfl) Pk.g Pk.F.kp Pk.b .nil pass0 (pa_cons (pv 0) (pa_cons pe_int pa_nil))) pe_int (nomark _))) (fun _ _ _ _ _ => pv 8))
        (pss_cons (ps_while PassesOwn.never (PW.pt (pw_and (pt_cmpR op_gt (pe_callB call_len_seq (by rfl) B.len (by decide +kernel) (pa_cons (pv 7) pa_nil)) pe_int (nomark _))
              (pw_and1 (pt_cmpR op_gt (pe_op op_shl pe_int (pe_callB call_len_seq (by rfl) B.len (by decide +kernel) (pa_cons (pv 7) pa_nil))) (pv 5) (nomark _)))))
            (pss_one (ps_expr (pe_bm PySem.F.plainAttrs_list PySem.F.slot_list_pop PySem.F.type_list_pop mt_popAt (pv 7) (pa_cons (pe_call GP hr1 rfl Pk.g Pk.F.kp Pk.b .nil pass0 (pa_cons (pv 0) (pa_cons (pe_callB call_len_seq (by rfl) B.len (by decide +kernel) (pa_cons (pv 7) pa_nil)) pa_nil))) pa_nil)))))
        (pss_one (ps_if (pt_cmpR op_gt (pv 5) pe_int (nomark _))
            (pss_cons (ps_expr (pe_bm PySem.F.plainAttrs_list PySem.F.slot_list_append PySem.F.type_list_append mt_append (pv 4) (pa_cons (pe_tup (pa_cons (pv 6) (pa_cons (pe_tupleOf rfl B.tuple (pv 7)) pa_nil))) pa_nil)))
            (pss_one (ps_set (i := 5) scSaying.nd rfl (.inl rfl) (pe_op op_sub (pv 5) (pe_op op_shl pe_int (pe_callB call_len_seq (by rfl) B.len (by decide +kernel) (pa_cons (pv 7) pa_nil))))))) pss_nil)))))
      (pss_cons (ps_set (i := 2) scSaying.nd rfl (.inr rfl) (pe_op op_cat (pv 3) (pe_lc (own := [("word", 6), ("sight", 7)]) (g := gTup K 2 (gCons (gName 6) (gCons (gName 7) gNil))) (tt := tYes) rfl scSaying.nd (pi_list (pv 4)) (blkOk_by (N := nSaying) (sc := defScope sSaying) (by decide +kernel))
          (fun _ _ _ _ _ => by exact pg_tup rfl (pgs_cons (pg_name (i := 6) scSaying.nd rfl (.inl rfl)) (pgs_cons (pg_name (i := 7) scSaying.nd rfl (.inl rfl)) pgs_nil))) (fun _ _ _ _ _ => pts_nil) (fun _ _ _ _ _ => pv 6))))
      (pss_cons (ps_setLc (i := 9) (own := [("turn", 10)]) (g := gName 10) (tt := tYes) rfl scSaying.nd rfl rfl (sw_true rfl rfl rfl (by decide +kernel)) (pi_range1 rfl B.range (pa_cons (pe_call GP hr1 rfl Pk.g Pk.F.kp Pk.b .nil pass0 (pa_cons (pv 0) (pa_cons (pe_op op_add (pe_ix ix_tup (pv 1) pe_int (fun _ _ => rfl)) pe_int) pa_nil))) pa_nil))
          (blkOk_by (N := nSaying) (sc := defScope sSaying) (by decide +kernel)) (fun _ _ _ _ _ => pg_name (i := 10) scSaying.nd rfl (Or.inl rfl)) (fun _ _ _ _ _ => pts_nil)
          (fun _ _ _ _ _ => pe_call GC (by exact hr) (by rfl) Cl.g Cl.F.kp Cl.b .nil pass0 (pa_cons (pv 0) (pa_cons (pv 2) pa_nil))))
      (pss_one (ps_ret (pe_tup (pa_cons (pe_tupleOf rfl B.tuple (pv 3)) (pa_cons (pe_tupleOf rfl B.tuple (pe_callB (cr_sortL (by exact hu)) (by rfl) B.sorted (by decide +kernel) (pa_cons (pv 4) pa_nil)))
        (pa_cons (pe_tupleOf rfl B.tuple (pe_callB (cr_sortN rfl (by exact hu)) (by rfl) B.sorted (by decide +kernel) (pa_cons (pe_callTy (cr_setN rfl (by exact hu)) (by rfl) B.set (by decide +kernel) (pa_cons (pv 9) pa_nil)) pa_nil))) pa_nil)))))))))), ?_⟩
    have npz : z ≠ p := by
      obtain ⟨xs, hx⟩ := hp.lst
      exact ne_of hz hx (by intro y; cases y)
    have keep : ∀ {G : Hp}, Same (del H p) (del G p) → G z = some (.tup [.int a, .int b, .int m, .int d]) := fun {G} sm => by
      have y := sm z _ (by rw [del_ne npz]; exact hz)
      rwa [del_ne npz] at y
    refine ⟨_, rfl, _, rfl, z, _, 0, _, rfl, rfl, SqT.of hz, rfl, _, rfl, z, _, 1, _, rfl, rfl, SqT.of hz, rfl, _, _, rfl, rfl, p, c, a + b, rfl, hp, by omega, hab, fun l ws H1 hl el wl nd nm hs1 sm1 => ?_⟩
    refine ⟨_, rfl, _, rfl, _, rfl, z, _, 0, _, rfl, rfl, SqT.of (keep sm1), rfl, p, _, a, rfl, hs1, by omega, by omega, fun r H2 hra hs2 sm2 => ?_⟩
    have npl := hp.ne hl
    have keepL : ∀ {G : Hp}, Same (del H1 p) (del G p) → G l = some (.lst (ws.map V.str)) := fun {G} sm => by
      have y := sm l _ (by rw [del_ne npl.symm]; exact el)
      rwa [del_ne npl.symm] at y
    refine ⟨r, rfl, l, _, rfl, SqL.of (keepL sm2), fun n0 hn0 => ⟨n0, ws.take r, rfl, SqL.of (by rw [cut_take]; exact upd_same), fun ys b0 pm up hb0 => ⟨(by show 0 ≤ sizeLine; decide), fun aO hO => ?_⟩⟩⟩
    rw [cut_take] at hb0 hO
    have sm12 := sm1.trans sm2
    have n0p := (hs2.ne hn0).symm
    have smA := sd_new (o := .lst ((ws.take r).map V.str)) (Same.refl (del H2 p)) hn0 n0p
    have hsA : Src (upd H2 n0 (.lst ((ws.take r).map V.str))) p (c + 202) := hs2.mono (upd_ne n0p.symm) (by omega)
    have b0p := (hsA.ne hb0).symm
    have smB := sd_new (o := .lst (ys.map V.str)) smA hb0 b0p
    have hsB : Src (upd (upd H2 n0 (.lst ((ws.take r).map V.str))) b0 (.lst (ys.map V.str))) p (c + 202) := hsA.mono (upd_ne b0p.symm) (Nat.le_refl _)
    have aOp := (hsB.ne hO).symm
    have hO0 := sd_free (sm12.trans smB) hO aOp
    have hO1 := sd_free (sm2.trans smB) hO aOp
    have smC := sd_new (o := .lst []) smB hO aOp
    have nbO : b0 ≠ aO := ne_of_none upd_same hO
    rw [cut_take]
    refine ⟨_, rfl, z, _, 2, _, rfl, rfl, SqT.of (keep (sm12.trans smC)), rfl, _, _, _, rfl, ?_⟩
    refine gen_heap (F := fun G => Same (del H p) (del G p) ∧ Same (del H1 p) (del G p) ∧ G b0 = some (.lst (ys.map V.str)) ∧ G aO = some (.lst []) ∧ Src G p (c + 202)) ⟨sm12.trans smC, sm2.trans smC, by rw [upd_ne nbO, upd_same], upd_same, hsB.mono (upd_ne aOp.symm) (Nat.le_refl _)⟩ (fun G ⟨smG, smG1, gB, gO, hsG⟩ => ?_)
    refine ⟨_, rfl, _, rfl, z, _, 0, _, rfl, rfl, SqT.of (keep smG), rfl, a, rfl, _, rfl, z, _, 0, _, rfl, rfl, SqT.of (keep smG), rfl, _, rfl, _, rfl, z, _, 1, _, rfl, rfl, SqT.of (keep smG), rfl, p, _, b, rfl, hsG, by omega, by omega, fun r2 H3 hrb hs3 sm3 => ?_⟩
    refine ⟨_, _, rfl, rfl, ((a + r2 : Nat) : Int), rfl, l, _, rfl, SqL.of (keepL (smG1.trans sm3)), fun n2 hn2 => ?_⟩
    have hrw : a + r2 ≤ ws.length := by omega
    rw [cut_mid hrw]
    have n2p := (hs3.ne hn2).symm
    have gB3 : H3 b0 = some (.lst (ys.map V.str)) := by
      have y := sm3 b0 _ (by rw [del_ne b0p]; exact gB)
      rwa [del_ne b0p] at y
    have gO3 : H3 aO = some (.lst []) := by
      have y := sm3 aO _ (by rw [del_ne aOp]; exact gO)
      rwa [del_ne aOp] at y
    have n2b : b0 ≠ n2 := ne_of_none gB3 hn2
    have n2O : aO ≠ n2 := ne_of_none gO3 hn2
    generalize hW2 : (ws.drop a).take r2 = W2
    have W2l : W2.length = r2 := by rw [← hW2, List.length_take, List.length_drop]; omega
    refine ⟨n2, rfl, ⟨_, SqL.of upd_same⟩, ?_⟩
    have ysl : ys.length ≤ 14 := by rw [pm.length_eq, List.length_take]; omega
    refine for_list (K := K) (a := n2) (xs := W2.map V.str) (fun i σ H' => ∃ (os : List Own) (T : List TRow) (room : Nat) (o6 o7 o8 : Option V), σ = [some (.ref p), some (.ref z), some (.ref l), some (.ref b0), some (.ref aO), some (.int (room : Int)), o6, o7, o8, none, none] ∧
      H' b0 = some (.lst (ys.map V.str)) ∧ H' n2 = some (.lst (W2.map V.str)) ∧ H' aO = some (.lst (T.map TRow.v)) ∧ T.map Prod.snd = os.map ownD ∧ (∀ q ∈ T, Dat H' q.v q.2) ∧ copies os + room = m ∧ os.length ≤ i ∧
      (os.map Prod.fst).Sublist (W2.take i) ∧ (∀ o ∈ os, o.2.Sublist ys) ∧ Src H' p (c + 204 + 40 * i) ∧ Same (del H p) (del H' p) ∧ Same (del H1 p) (del H' p)) ?_ (fun i σ H' _ ⟨_, _, _, _, _, _, _, _, e, _⟩ => SqL.of e) ?_ ?_
    · refine ⟨[], [], m, _, _, _, rfl, by rw [upd_ne n2b]; exact gB3, upd_same, by rw [upd_ne n2O]; exact gO3, rfl, fun q hq => absurd hq (by simp), by show 0 + m = m; omega, Nat.zero_le _, List.nil_sublist _, fun o ho => absurd ho (by simp), hs3.mono (upd_ne n2p.symm) (by omega),
        sd_new (smG.trans sm3) hn2 n2p, sd_new (smG1.trans sm3) hn2 n2p⟩
    · rintro i x σ H' hx ⟨os, T, room, o6, o7, o8, rfl, eB, e2, eO, eT, hD, hroom, hos, hsub, hsg, hs5, sm5, sm51⟩
      rw [List.getElem?_map] at hx
      obtain ⟨u, hu2, rfl⟩ := Option.map_eq_some_iff.mp hx
      have il : i < W2.length := (List.getElem?_eq_some_iff.mp hu2).1
      have B0 : Bun H H1 p b0 n2 aO ys W2 T H' := ⟨eB, e2, eO, hD, fun q hq => by
        have y : q.2 ∈ os.map ownD := eT ▸ List.mem_map_of_mem hq
        obtain ⟨o, _, ho⟩ := List.mem_map.mp y
        rw [← ho]
        exact keyable_own o, sm5, sm51, b0p.symm, n2p.symm, aOp.symm⟩
      refine ⟨_, rfl, b0, rfl, ⟨_, SqL.of eB⟩, fun D hD' => ?_⟩
      have Dp := (hs5.ne hD').symm
      have MD := B0.mine hD' Dp
      refine lc_list (K := K) (a := b0) (xs := ys.map V.str) (fun j H4 => ∃ sg : List Str, H4 D = some (.lst (sg.map V.str)) ∧ sg.Sublist (ys.take j) ∧ Bun H H1 p b0 n2 aO ys W2 T H4 ∧ Src H4 p (c + 204 + 40 * i + j)) ⟨[], upd_same, List.nil_sublist _, B0.new hD' Dp _, hs5.mono (upd_ne Dp.symm) (by omega)⟩
        (fun j H4 _ ⟨_, _, _, B4, _⟩ => SqL.of B4.b) ?_ ?_
      · rintro j x H4 hx4 ⟨sg, eD, hsg4, B4, hs4⟩
        rw [List.getElem?_map] at hx4
        obtain ⟨y, hy, rfl⟩ := Option.map_eq_some_iff.mp hx4
        have jl : j < ys.length := (List.getElem?_eq_some_iff.mp hy).1
        refine ⟨rfl, _, rfl, p, _, 2, rfl, hs4, by omega, by decide, by decide, fun k4 o4 _ _ hp4 => ⟨rfl, _, rfl, ?_⟩⟩
        have B5 := B4.src hs4 o4
        have eD5 : upd H4 p o4 D = some (.lst (sg.map V.str)) := by rw [upd_ne Dp]; exact eD
        have tk : ys.take (j + 1) = ys.take j ++ [y] := take_next hy
        refine ite2 (fun _ => ?_) (fun _ => ?_)
        · refine ⟨_, rfl, _, eD5, ?_, sg ++ [y], by rw [upd_same, List.map_append]; rfl, by rw [tk]; exact hsg4.append (List.Sublist.refl _), B5.put MD eD5 _, hp4.mono (upd_ne Dp.symm) (by omega)⟩
          rw [List.length_map]
          have := hsg4.length_le
          rw [List.length_take] at this
          exact small1000 (by omega)
        · exact ⟨sg, eD5, by rw [tk]; exact hsg4.trans (List.sublist_append_left _ _), B5, hp4.mono rfl (by omega)⟩
      · rintro H4 ⟨sg, eD, hsg4, B4, hs4⟩
        rw [List.length_map] at hs4
        refine ⟨fun m' σ6 H6 => ∃ sg6 : List Str, σ6 = [some (.ref p), some (.ref z), some (.ref l), some (.ref b0), some (.ref aO), some (.int (room : Int)), some (.str u), some (.ref D), o8, none, none] ∧ m' = sg6.length ∧ H6 D = some (.lst (sg6.map V.str)) ∧ sg6.Sublist ys ∧
          Bun H H1 p b0 n2 aO ys W2 T H6 ∧ Src H6 p (c + 204 + 40 * i + 14 + (14 - sg6.length)), ⟨_, sg, rfl, rfl, eD, hsg4.trans (List.take_sublist _ _), B4, hs4.mono rfl (by omega)⟩, ?_⟩
        rintro m' σ6 H6 ⟨sg6, rfl, rfl, eD6, sub6, B6, hs6⟩
        have l6 : sg6.length ≤ 14 := by have := sub6.length_le; omega
        refine ⟨_, rfl, _, _, rfl, .inl (SqL.of eD6), _, _, rfl, rfl, _, rfl, ?_⟩
        refine and_split (R := fun H7 => H7 = H6 ∧ (sg6.length = 0 ∨ 2 ^ sg6.length ≤ room)) (fun H7 ⟨e7, cond⟩ => ?_) (fun h1 k => ?_) (fun h1 k => ?_)
        · have e8 := e7.symm
          subst e8
          show if false = true then _ else _
          rw [if_neg (by decide)]
          refine ⟨_, rfl, _, _, rfl, rfl, _, rfl, ?_⟩
          refine ite2 (fun hpos => ?_) (fun _ => ?_)
          · have rpos : 0 < room := by
              have y : (0 : Int) < (room : Int) := of_decide_eq_true hpos
              omega
            have fit : 2 ^ sg6.length ≤ room := by
              rcases cond with y | y
              · rw [y]; exact rpos
              · exact y
            refine ⟨_, rfl, .inl ⟨rfl, _, SqL.of B6.o⟩, _, rfl, _, rfl, .inl ⟨D, _, rfl, SqL.of eD6, fun t1 ht1 => ⟨(by show 2 ≤ sizeLine; decide), fun t2 ht2 => ?_⟩⟩⟩
            have t1p := (hs6.ne ht1).symm
            have B7 := B6.new ht1 t1p (.tup (sg6.map V.str))
            have hs7 : Src (upd H6 t1 (.tup (sg6.map V.str))) p (c + 204 + 40 * i + 14 + (14 - sg6.length)) := hs6.mono (upd_ne t1p.symm) (Nat.le_refl _)
            have t2p := (hs7.ne ht2).symm
            have B8 := B7.new ht2 t2p (.tup [.str u, .ref t1])
            have hs8 : Src (upd (upd H6 t1 (.tup (sg6.map V.str))) t2 (.tup [.str u, .ref t1])) p (c + 204 + 40 * i + 14 + (14 - sg6.length)) := hs7.mono (upd_ne t2p.symm) (Nat.le_refl _)
            have t12 : t1 ≠ t2 := ne_of_none upd_same ht2
            have e1 : upd (upd H6 t1 (.tup (sg6.map V.str))) t2 (.tup [.str u, .ref t1]) t1 = some (.tup (sg6.map V.str)) := by rw [upd_ne t12, upd_same]
            have e2' : upd (upd H6 t1 (.tup (sg6.map V.str))) t2 (.tup [.str u, .ref t1]) t2 = some (.tup [.str u, .ref t1]) := upd_same
            have eD8 : upd (upd H6 t1 (.tup (sg6.map V.str))) t2 (.tup [.str u, .ref t1]) D = some (.lst (sg6.map V.str)) := by rw [upd_ne (ne_of_none (by rw [upd_ne (ne_of_none eD6 ht1)]; exact eD6) ht2), upd_ne (ne_of_none eD6 ht1)]; exact eD6
            generalize upd (upd H6 t1 (.tup (sg6.map V.str))) t2 (.tup [.str u, .ref t1]) = H8 at B8 hs8 e1 e2' eD8 ⊢
            have lenT : T.length = os.length := by rw [← List.length_map (f := Prod.snd), eT, List.length_map]
            refine ⟨aO, _, _, rfl, rfl, B8.o, by rw [List.length_map, lenT]; exact small1000 (by omega), ?_⟩
            have eD9 : upd H8 aO (.lst (T.map TRow.v ++ [V.ref t2])) D = some (.lst (sg6.map V.str)) := by rw [upd_ne MD.o]; exact eD8
            refine ⟨_, rfl, _, rfl, _, _, rfl, .inl (SqL.of eD9), _, _, rfl, rfl, ⟨by omega, by rw [List.length_map]; omega, by decide⟩, _, _, rfl, rfl, ?_⟩
            have er : (room : Int) - 1 * 2 ^ ((sg6.map V.str).length : Int).toNat = ((room - 2 ^ sg6.length : Nat) : Int) := by
              rw [List.length_map, Int.toNat_natCast, Int.one_mul, Int.ofNat_sub fit]
              push_cast
              rfl
            refine ⟨os ++ [(u, sg6)], T ++ [(t2, ownD (u, sg6))], room - 2 ^ sg6.length, _, _, _, by rw [← er]; rfl, by rw [upd_ne nbO]; exact B8.b, by rw [upd_ne n2O.symm]; exact B8.n, by rw [upd_same, List.map_append]; rfl, by rw [List.map_append, List.map_append, eT]; rfl, fun q hq => ?_,
              by rw [copies_snoc]; show copies os + 2 ^ sg6.length + _ = m; omega, by rw [List.length_append]; show os.length + 1 ≤ i + 1; omega, ?_, fun o ho => ?_, hs8.mono (upd_ne aOp.symm) (by omega), sd_put B8.s hO0, sd_put B8.s1 hO1⟩
            · rcases List.mem_append.mp hq with y | y
              · exact dat_upd B8.o (B8.k q y) (B8.d q y)
              · cases List.mem_singleton.mp y
                refine dat_upd B8.o (keyable_own _) ?_
                exact .tup e2' (.cons (.str u) (.cons (.tup e1 (dats_strs sg6)) .nil))
            · rw [List.map_append, take_next hu2]
              exact hsub.append (List.Sublist.refl _)
            · rcases List.mem_append.mp ho with y | y
              · exact hsg o y
              · cases List.mem_singleton.mp y
                exact sub6
          · exact ⟨os, T, room, _, _, _, rfl, B6.b, B6.n, B6.o, eT, B6.d, hroom, by omega, by rw [take_next hu2]; exact hsub.trans (List.sublist_append_left _ _), hsg, hs6.mono rfl (by omega), B6.s, B6.s1⟩
        · refine ⟨_, rfl, _, _, rfl, .inl (SqL.of eD6), _, _, rfl, rfl, ⟨by omega, by rw [List.length_map]; omega, by decide⟩, _, rfl, _, _, rfl, rfl, _, rfl, ?_⟩
          refine ite2 (fun hgt => ?_) (fun hle => ?_)
          · have lp : 0 < sg6.length := by
              have y : (0 : Int) < ((sg6.map V.str).length : Int) := of_decide_eq_true h1
              rw [List.length_map] at y
              omega
            refine ⟨fun σ8 H8 => ∃ sg8 : List Str, σ8 = [some (.ref p), some (.ref z), some (.ref l), some (.ref b0), some (.ref aO), some (.int (room : Int)), some (.str u), some (.ref D), o8, none, none] ∧ sg8.length + 1 = sg6.length ∧ H8 D = some (.lst (sg8.map V.str)) ∧ sg8.Sublist ys ∧
              Bun H H1 p b0 n2 aO ys W2 T H8 ∧ Src H8 p (c + 204 + 40 * i + 14 + (14 - sg8.length)), fun σ8 H8 ⟨sg8, y1, y2, y3, y4, y5, y6⟩ => ⟨sg8.length, by omega, sg8, y1, rfl, y3, y4, y5, y6⟩, ?_⟩
            refine ⟨_, rfl, .inl ⟨rfl, _, SqL.of eD6⟩, _, rfl, _, rfl, _, _, rfl, .inl (SqL.of eD6), p, _, _, rfl, hs6, by omega, by rw [List.length_map]; omega, by rw [List.length_map]; omega, fun k9 o9 k90 k91 hp9 => ?_⟩
            rw [List.length_map] at k91
            have kl : k9.toNat < sg6.length := by omega
            have eD9 : upd H6 p o9 D = some (.lst (sg6.map V.str)) := by rw [upd_ne Dp]; exact eD6
            have lenE : (sg6.eraseIdx k9.toNat).length + 1 = sg6.length := by
              rw [List.length_eraseIdx, if_pos kl]
              omega
            refine ⟨D, _, k9, k9.toNat, .str sg6[k9.toNat], rfl, rfl, eD9, by omega, by omega, by rw [List.length_map]; exact seq_nat k90 k91, by rw [List.getElem?_map, List.getElem?_eq_getElem kl]; rfl, ?_⟩
            rw [map_erase]
            exact ⟨sg6.eraseIdx k9.toNat, rfl, lenE, upd_same, (List.eraseIdx_sublist _ _).trans sub6, (B6.src hs6 o9).put MD eD9 _, hp9.mono (upd_ne Dp.symm) (by omega)⟩
          · have y : if false = true then _ else _ := k _ ⟨rfl, .inr (by
              have y : ¬ ((room : Int) < 1 * 2 ^ ((sg6.map V.str).length : Int).toNat) := fun y => hle (decide_eq_true y)
              rw [List.length_map, Int.toNat_natCast, Int.one_mul] at y
              have y2 : ((2 ^ sg6.length : Nat) : Int) ≤ (room : Int) := by push_cast; omega
              omega)⟩
            rwa [if_neg (by decide)] at y
        · refine k _ ⟨rfl, .inl ?_⟩
          have y : ¬ ((0 : Int) < ((sg6.map V.str).length : Int)) := fun y => h1 (decide_eq_true y)
          rw [List.length_map] at y
          omega
    · rintro σ H' ⟨os, T, room, o6, o7, o8, rfl, eB, e2, eO, eT, hD, hroom, hos, hsub, hsg, hs5, sm5, sm51⟩
      rw [List.length_map] at hos hsub hs5
      have lenT : T.length = os.length := by rw [← List.length_map (f := Prod.snd), eT, List.length_map]
      have kT : ∀ q ∈ T, keyable q.2 = true := fun q hq => by
        have y : q.2 ∈ os.map ownD := eT ▸ List.mem_map_of_mem hq
        obtain ⟨o, _, ho⟩ := List.mem_map.mp y
        rw [← ho]
        exact keyable_own o
      have B0 : Bun H H1 p b0 n2 aO ys W2 T H' := ⟨eB, e2, eO, hD, kT, sm5, sm51, b0p.symm, n2p.symm, aOp.symm⟩
      refine ⟨_, rfl, _, rfl, aO, rfl, ⟨_, SqL.of eO⟩, fun D hD' => ?_⟩
      have Dp := (hs5.ne hD').symm
      have MD := B0.mine hD' Dp
      refine lc_list (K := K) (a := aO) (xs := T.map TRow.v) (fun j H4 => H4 D = some (.lst (((os.map Prod.fst).take j).map V.str)) ∧ Bun H H1 p b0 n2 aO ys W2 T H4 ∧ Src H4 p (c + 204 + 40 * W2.length)) ⟨upd_same, B0.new hD' Dp _, hs5.mono (upd_ne Dp.symm) (Nat.le_refl _)⟩
        (fun j H4 _ ⟨_, B4, _⟩ => SqL.of B4.o) ?_ ?_
      · rintro j x H4 hx4 ⟨eD, B4, hs4⟩
        rw [List.getElem?_map] at hx4
        obtain ⟨y, hy, rfl⟩ := Option.map_eq_some_iff.mp hx4
        have ey : (os.map ownD)[j]? = some y.2 := by rw [← eT, List.getElem?_map, hy]; rfl
        rw [List.getElem?_map] at ey
        obtain ⟨o, ho, eo⟩ := Option.map_eq_some_iff.mp ey
        obtain ⟨t', g1, g2⟩ := own_row eo.symm (B4.d y (List.mem_of_getElem? hy))
        have jl : j < os.length := (List.getElem?_eq_some_iff.mp ho).1
        refine ⟨y.1, _, rfl, SqT.of g1, rfl, _, _, rfl, _, _, rfl, rfl, rfl, yes_of ⟨_, rfl, _, eD, ?_, ?_, B4.put MD eD _, hs4.mono (upd_ne Dp.symm) (Nat.le_refl _)⟩⟩
        · rw [List.length_map, List.length_take, List.length_map]
          exact small1000 (by omega)
        · have tk : (os.map Prod.fst).take (j + 1) = (os.map Prod.fst).take j ++ [o.1] := take_next (by rw [List.getElem?_map, ho]; rfl)
          rw [upd_same, tk, List.map_append]
          rfl
      · rintro H4 ⟨eD, B4, hs4⟩
        have tk : (os.map Prod.fst).take (T.map TRow.v).length = os.map Prod.fst := by
          rw [List.length_map, lenT]
          exact List.take_of_length_le (by rw [List.length_map]; exact Nat.le_refl _)
        rw [tk] at eD
        refine ⟨_, _, _, _, rfl, rfl, B4.b, eD, ?_, fun aW hW => ?_⟩
        · rw [List.length_map, List.length_map, List.length_map]
          exact Nat.le_of_lt (small1000 (by omega))
        · have aWp := (hs4.ne hW).symm
          have B5 := B4.new hW aWp (.lst (ys.map V.str ++ (os.map Prod.fst).map V.str))
          have hs6 : Src (upd H4 aW (.lst (ys.map V.str ++ (os.map Prod.fst).map V.str))) p (c + 204 + 40 * W2.length) := hs4.mono (upd_ne aWp.symm) (Nat.le_refl _)
          have eW : upd H4 aW (.lst (ys.map V.str ++ (os.map Prod.fst).map V.str)) aW = some (.lst ((ys ++ os.map Prod.fst).map V.str)) := by rw [upd_same, List.map_append]
          generalize upd H4 aW (.lst (ys.map V.str ++ (os.map Prod.fst).map V.str)) = H5 at B5 hs6 eW ⊢
          refine ⟨_, rfl, _, rfl, z, _, 3, _, rfl, rfl, SqT.of (keep B5.s), rfl, _, _, rfl, rfl, p, _, _, rfl, hs6, by omega, by omega, by omega, fun r3 o3 r30 r31 hp3 => ⟨r3, rfl, by omega, by omega, fun D2 hD2 => ?_⟩⟩
          have B6 := B5.src hs6 o3
          have aWp' : aW ≠ p := aWp
          have eW6 : upd H5 p o3 aW = some (.lst ((ys ++ os.map Prod.fst).map V.str)) := by rw [upd_ne aWp]; exact eW
          have sub1 : (ws.take r ++ os.map Prod.fst).Sublist ws := by
            have y : (ws.take r ++ W2).Sublist (ws.take a ++ ws.drop a) := by
              refine List.Sublist.append ?_ (by rw [← hW2]; exact List.take_sublist _ _)
              have y2 : ws.take r = (ws.take a).take r := by rw [List.take_take, Nat.min_eq_left hra]
              rw [y2]
              exact List.take_sublist _ _
            rw [List.take_append_drop] at y
            exact ((List.Sublist.refl _).append (hsub.trans (List.take_sublist _ _))).trans y
          have pmN : (ys ++ os.map Prod.fst).Perm (ws.take r ++ os.map Prod.fst) := pm.append (List.Perm.refl _)
          have ndN : (ys ++ os.map Prod.fst).Nodup := pmN.nodup_iff.mpr (nd.sublist sub1)
          have inW : ∀ x ∈ ys ++ os.map Prod.fst, x ∈ ws := fun x hx => sub1.subset (pmN.mem_iff.mp hx)
          have lenN : (ys ++ os.map Prod.fst).length ≤ 14 := by
            have y := sub1.length_le
            rw [pmN.length_eq]
            omega
          have D2p := (hp3.ne hD2).symm
          have M2 := B6.mine hD2 D2p
          have nW2 : aW ≠ D2 := ne_of_none eW6 hD2
          refine lc_range (lo := 0) (n := r3.toNat) (fun j H7 => ∃ (Tc : List TRow) (cls : List (List Ltr)), H7 D2 = some (.lst (Tc.map TRow.v)) ∧ Tc.map Prod.snd = cls.map clD ∧ (∀ q ∈ Tc, Dat H7 q.v q.2) ∧ (∀ cl ∈ cls, ClOk (ys ++ os.map Prod.fst) cl) ∧ cls.length = j ∧
            H7 aW = some (.lst ((ys ++ os.map Prod.fst).map V.str)) ∧ Bun H H1 p b0 n2 aO ys W2 T H7 ∧ Src H7 p (c + 204 + 40 * W2.length + 1 + 202 * j)) ?_ ?_ ?_
          · exact ⟨[], [], upd_same, rfl, fun q hq => absurd hq (by simp), fun q hq => absurd hq (by simp), rfl, by rw [upd_ne nW2]; exact eW6, B6.new hD2 D2p _, hp3.mono (upd_ne D2p.symm) (Nat.le_refl _)⟩
          · rintro j H7 hj ⟨Tc, cls, eD7, eTc, hDc, hck, hcl, eW7, B7, hs7⟩
            refine ⟨rfl, yes_of ?_⟩
            refine ⟨_, rfl, _, rfl, p, aW, _, _, rfl, hs7, by omega, eW7, ndN, by omega, aWp.symm, fun v cl H8 Dv ck hs8 sm8 => ?_⟩
            obtain ⟨t8, rfl⟩ := tuple_ref (ds := cl.map ltD) Dv
            have kTc : ∀ q ∈ Tc, keyable q.2 = true := fun q hq => by
              have y : q.2 ∈ cls.map clD := eTc ▸ List.mem_map_of_mem hq
              obtain ⟨o, _, ho⟩ := List.mem_map.mp y
              rw [← ho]
              exact keyable_cl o
            have kp8 : ∀ {x : Addr} {o : HO}, x ≠ p → H7 x = some o → H8 x = some o := fun {x o} nx e => by
              have y := sm8 x o (by rw [del_ne nx]; exact e)
              rwa [del_ne nx] at y
            have B8 : Bun H H1 p b0 n2 aO ys W2 T H8 := ⟨kp8 B7.pb.symm B7.b, kp8 B7.pn.symm B7.n, kp8 B7.po.symm B7.o, fun q hq => dat_src hs7 sm8 (B7.k q hq) (B7.d q hq), B7.k, B7.s.trans sm8, B7.s1.trans sm8, B7.pb, B7.pn, B7.po⟩
            have eD8 := kp8 D2p eD7
            have lTc : Tc.length = cls.length := by rw [← List.length_map (f := Prod.snd), eTc, List.length_map]
            refine ⟨_, eD8, by rw [List.length_map, lTc]; exact small1000 (by omega), Tc ++ [(t8, clD cl)], cls ++ [cl], by rw [upd_same, List.map_append]; rfl, by rw [List.map_append, List.map_append, eTc]; rfl, fun q hq => ?_, fun cl' h' => ?_, by rw [List.length_append, hcl]; rfl,
              by rw [upd_ne nW2]; exact kp8 aWp eW7, B8.put M2 eD8 _, hs8.mono (upd_ne D2p.symm) (by omega)⟩
            · rcases List.mem_append.mp hq with y | y
              · exact dat_upd eD8 (kTc q y) (dat_src hs7 sm8 (kTc q y) (hDc q y))
              · cases List.mem_singleton.mp y
                exact dat_upd eD8 (keyable_cl cl) Dv
            · rcases List.mem_append.mp h' with y | y
              · exact hck cl' y
              · cases List.mem_singleton.mp y
                exact ck
          · rintro H7 ⟨Tc, cls, eD7, eTc, hDc, hck, hcl, eW7, B7, hs7⟩
            have lTc : Tc.length = cls.length := by rw [← List.length_map (f := Prod.snd), eTc, List.length_map]
            have soT : Sorty T := sorty_of eT alike_own (fun x => ⟨_, rfl⟩) (fun x => by have := depth_own x; omega)
            have soC : Sorty Tc := sorty_of eTc alike_cl (fun x => ⟨_, rfl⟩) (fun x => by have := depth_cl x; omega)
            have kC : ∀ q ∈ Tc, keyable q.2 = true := fun q hq => by
              have y : q.2 ∈ cls.map clD := eTc ▸ List.mem_map_of_mem hq
              obtain ⟨o, _, ho⟩ := List.mem_map.mp y
              rw [← ho]
              exact keyable_cl o
            refine ⟨_, rfl, .inl ⟨b0, _, rfl, SqL.of B7.b, fun t1 ht1 => ?_⟩⟩
            have S1 : Same H7 (upd H7 t1 (.tup (ys.map V.str))) := same_new ht1
            have g1 : upd H7 t1 (.tup (ys.map V.str)) t1 = some (.tup (ys.map V.str)) := upd_same
            generalize upd H7 t1 (.tup (ys.map V.str)) = J1 at S1 g1 ⊢
            refine ⟨_, rfl, aO, T, rfl, SqL.of (S1 _ _ B7.o), fun q hq => (B7.d q hq).same S1, soT, fun T' b' pm' _ up' hb' => .inl ⟨b', _, rfl, SqL.of upd_same, fun t2 ht2 => ?_⟩⟩
            have S2 : Same H7 (upd (upd J1 b' (.lst (T'.map TRow.v))) t2 (.tup (T'.map TRow.v))) := S1.trans ((same_new hb').trans (same_new ht2))
            have g1' := ((same_new (o := .lst (T'.map TRow.v)) hb').trans (same_new (o := .tup (T'.map TRow.v)) ht2)) _ _ g1
            have g2 : upd (upd J1 b' (.lst (T'.map TRow.v))) t2 (.tup (T'.map TRow.v)) t2 = some (.tup (T'.map TRow.v)) := upd_same
            generalize upd (upd J1 b' (.lst (T'.map TRow.v))) t2 (.tup (T'.map TRow.v)) = J2 at S2 g1' g2 ⊢
            refine ⟨_, rfl, D2, Tc, rfl, SqL.of (S2 _ _ eD7), fun q hq => (hDc q hq).same S2, soC, kC, by omega, fun aS T2 hS sub2 all2 nd2 => ?_⟩
            refine ⟨aS, T2, rfl, upd_same, fun q hq => ((hDc q (sub2 q hq)).same S2).same (same_new hS), soC.sub sub2, fun q hq => kC q (sub2 q hq), fun T3 b3 pm3 up3 hb3 => .inl ⟨b3, _, rfl, SqL.of upd_same, fun t3 ht3 => ⟨(by show 3 ≤ sizeLine; decide), fun t4 ht4 => ?_⟩⟩⟩
            have S4 := (((same_new hS).trans (same_new hb3)).trans (same_new ht3)).trans (same_new (o := .tup [V.ref t1, .ref t2, .ref t3]) ht4)
            have g3 := (same_new (o := .tup [V.ref t1, .ref t2, .ref t3]) ht4) t3 _ upd_same
            have S5 := S2.trans S4
            have g1'' := S4 _ _ g1'
            have g2'' := S4 _ _ g2
            have ndOs : (os.map Prod.fst).Nodup := (List.nodup_append.mp ndN).2.1
            obtain ⟨os', po, eo, uo⟩ := rows_back own_name (fun x y => lt_owns) pm' eT ndOs up'
            have inC : ∀ d' ∈ T3.map Prod.snd, d' ∈ cls.map clD := fun d' h' => by
              obtain ⟨y, hy, rfl⟩ := List.mem_map.mp h'
              rw [← eTc]
              exact List.mem_map_of_mem (sub2 y (pm3.mem_iff.mp hy))
            obtain ⟨cls', ec, subc⟩ := sub_back (f := clD) (m := cls) (T3.map Prod.snd) inC
            have lenC : cls'.length ≤ d := by
              have y1 : T2.length ≤ Tc.length := by
                have y := nodup_le (m := Tc.map Prod.snd) nd2 fun x hx => by
                  obtain ⟨q', hq', rfl⟩ := List.mem_map.mp hx
                  exact List.mem_map_of_mem (sub2 q' hq')
                rwa [List.length_map, List.length_map] at y
              have y2 : cls'.length = T3.length := by rw [← List.length_map (f := clD), ← ec, List.length_map]
              rw [y2, pm3.length_eq]
              omega
            have upc : cls'.Pairwise fun x y => dataLt (clD x) (clD y) = true := by
              have y : (T3.map Prod.snd).Pairwise fun d e => dataLt d e = true := List.pairwise_map.mpr up3
              rw [ec] at y
              exact List.pairwise_map.mp y
            refine q (.ref t4) ⟨ys, os', cls'⟩ _ (.tup upd_same (.cons (.tup g1'' (dats_strs ys)) (.cons (.tup g2'' ?_) (.cons (.tup g3 ?_) .nil)))) ?_ ?_ ?_
            · rw [← eo]
              exact dats_rows fun q' hq' => (B7.d q' (pm'.mem_iff.mp hq')).same S5
            · rw [← ec]
              exact dats_rows fun q' hq' => (hDc q' (sub2 q' (pm3.mem_iff.mp hq'))).same S5
            · refine ⟨up (nd.sublist (List.take_sublist _ _)), fun x hx => (nm x (inW x (List.mem_append_left _ hx))).1, ?_, uo, fun o ho => ?_, ?_, ?_, upc, fun cl hcl' => ?_, lenC⟩
              · show ys.length ≤ a
                rw [pm.length_eq, List.length_take]
                omega
              · have ho' := po.mem_iff.mp ho
                have mo : o.1 ∈ os.map Prod.fst := List.mem_map_of_mem ho'
                exact ⟨(nm _ (inW _ (List.mem_append_right _ mo))).1, fun h' => (List.nodup_append.mp ndN).2.2 _ h' _ mo rfl, (up (nd.sublist (List.take_sublist _ _))).sublist (hsg o ho'), fun x hx => (hsg o ho').subset hx⟩
              · show os'.length ≤ b
                rw [po.length_eq]
                omega
              · show copies os' ≤ m
                rw [copies_perm po]
                omega
              · have y := hck cl (subc cl hcl')
                refine ⟨y.up, fun l' hl' => ?_⟩
                show l'.1 ∈ ys ++ os'.map Prod.fst
                exact (((List.Perm.refl ys).append (po.map Prod.fst)).mem_iff).mpr (y.mem l' hl')
            · refine hs7.mono ?_ (by omega)
              obtain ⟨xs, hx⟩ := hs7.lst
              rw [hx, S5 _ _ hx]
            · exact B7.s.trans (sd_of S5)
end
end S1

set_option Elab.async false
set_option linter.all false
set_option maxRecDepth 100000
set_option maxHeartbeats 4000000
/-! what any data is told to be: the questions, as data -/
namespace S1
open PySem PySem.W PySem.Spec PyProof.Rows L2
def tyN : PyData → String
  | .none => "NoneType"
  | .bool _ => "bool"
  | .int _ => "int"
  | .str _ => "str"
  | .list _ => "list"
  | .tuple _ => "tuple"
  | .dict _ => "dict"
theorem ty_dat {K : PySem.W.Frag} {H : Hp} {v : V} {d : PyData} (D : Dat H v d) : TyX K H v (.type (tyN d)) := by
  cases D with
  | non => exact .base .non
  | bl b => exact .base (.bl b)
  | int i => exact .base (.int i)
  | str x => exact .base (.str x)
  | lst e _ => exact .base (.lst e)
  | tup e _ => exact .base (.tup e)
  | dct e _ => exact .base (.dK e)
def isTup : PyData → Bool
  | .tuple _ => true
  | _ => false
def isStr : PyData → Bool
  | .str _ => true
  | _ => false
def isTr : PyData → Bool
  | .bool _ => true
  | _ => false
theorem kit_tup : ∀ d : PyData, kitB (tyN d) "tuple" = some (isTup d)
  | .none => show kitB "NoneType" "tuple" = some false by decide +kernel
  | .bool _ => show kitB "bool" "tuple" = some false by decide +kernel
  | .int _ => show kitB "int" "tuple" = some false by decide +kernel
  | .str _ => show kitB "str" "tuple" = some false by decide +kernel
  | .list _ => show kitB "list" "tuple" = some false by decide +kernel
  | .tuple _ => show kitB "tuple" "tuple" = some true by decide +kernel
  | .dict _ => show kitB "dict" "tuple" = some false by decide +kernel
theorem kit_str : ∀ d : PyData, kitB (tyN d) "str" = some (isStr d)
  | .none => show kitB "NoneType" "str" = some false by decide +kernel
  | .bool _ => show kitB "bool" "str" = some false by decide +kernel
  | .int _ => show kitB "int" "str" = some false by decide +kernel
  | .str _ => show kitB "str" "str" = some true by decide +kernel
  | .list _ => show kitB "list" "str" = some false by decide +kernel
  | .tuple _ => show kitB "tuple" "str" = some false by decide +kernel
  | .dict _ => show kitB "dict" "str" = some false by decide +kernel
theorem kit_bool : ∀ d : PyData, kitB (tyN d) "bool" = some (isTr d)
  | .none => show kitB "NoneType" "bool" = some false by decide +kernel
  | .bool _ => show kitB "bool" "bool" = some true by decide +kernel
  | .int _ => show kitB "int" "bool" = some false by decide +kernel
  | .str _ => show kitB "str" "bool" = some false by decide +kernel
  | .list _ => show kitB "list" "bool" = some false by decide +kernel
  | .tuple _ => show kitB "tuple" "bool" = some false by decide +kernel
  | .dict _ => show kitB "dict" "bool" = some false by decide +kernel
def parts : PyData → List PyData
  | .tuple ds => ds
  | _ => []
def strOf : PyData → Str
  | .str x => x
  | _ => ""
def fstS (d : PyData) : Str := strOf ((parts d).headD .none)
mutual
/-- rows of at most a thousand parts -/
def lim : PyData → Bool
  | .list ds => decide (ds.length ≤ 1000) && lims ds
  | .tuple ds => decide (ds.length ≤ 1000) && lims ds
  | .str x => decide (x.length ≤ 1000)
  | _ => true
def lims : List PyData → Bool
  | [] => true
  | d :: ds => lim d && lims ds
end
theorem lims_mem : ∀ {ds : List PyData}, lims ds = true → ∀ d ∈ ds, lim d = true
  | [], _, d, h => nomatch h
  | x :: ds, t, d, h => by
    rw [lims, Bool.and_eq_true] at t
    rcases List.mem_cons.mp h with rfl | h
    · exact t.1
    · exact lims_mem t.2 d h
theorem lim_tup {ds : List PyData} (h : lim (.tuple ds) = true) : ds.length ≤ 1000 ∧ ∀ d ∈ ds, lim d = true := by
  rw [lim, Bool.and_eq_true, decide_eq_true_eq] at h
  exact ⟨h.1, lims_mem h.2⟩
/-- each below the next -/
def riseB : List PyData → Bool
  | x :: y :: r => dataLt x y && riseB (y :: r)
  | _ => true
def isNm : PyData → Bool
  | .str x => nmB x
  | _ => false
def isLt : PyData → Bool
  | .tuple [a, b] => isNm a && isTr b
  | _ => false
def isCl (d : PyData) : Bool := isTup d && ((parts d).all isLt && riseB ((parts d).map fun x => .str (fstS x)))
def isNames (m : Nat) (d : PyData) : Bool := isTup d && (decide ((parts d).length ≤ m) && ((parts d).all isNm && riseB (parts d)))
def isSightB (ps : List Str) (d : PyData) : Bool := isNames ps.length d && (parts d).all fun x => decide (strOf x ∈ ps)
def isOwnB (ps : List Str) : PyData → Bool
  | .tuple [a, b] => isNm a && (!decide (strOf a ∈ ps) && isSightB ps b)
  | _ => false
def sndLen : PyData → Nat
  | .tuple [_, b] => (parts b).length
  | _ => 0
def areOwnsB (ps : List Str) (d : PyData) : Bool :=
  isTup d && (decide ((parts d).length ≤ 8) && ((parts d).all (isOwnB ps) && (riseB ((parts d).map fun x => .str (fstS x)) && decide (((parts d).map fun x => 2 ^ sndLen x).sum ≤ 120))))
def isClO (ns : List Str) (d : PyData) : Bool := isCl d && (parts d).all fun x => decide (fstS x ∈ ns)
def areClsB (ns : List Str) (d : PyData) : Bool := isTup d && (decide ((parts d).length ≤ 40) && ((parts d).all (isClO ns) && riseB (parts d)))
def strsOf (d : PyData) : List Str := (parts d).map strOf
def namesD (p o : PyData) : List Str := strsOf p ++ (parts o).map fstS
def sayB : PyData → Bool
  | .tuple [p, o, c] => isNames 6 p && (areOwnsB (strsOf p) o && areClsB (namesD p o) c)
  | _ => false
def truthsB (n : Nat) (d : PyData) : Bool := isTup d && (decide ((parts d).length = n) && (parts d).all isTr)
section
variable {X : Cx}
/-- is True, is False -/
def rIsAny : R2 := fun x y H Q => ∃ (d : PyData) (b : Bool), Dat H x d ∧ y = .bl b ∧ Q (.bl (decide (x = .bl b))) H
theorem op_isAny : OpR X (compareOp .Is) rIsAny := by
  intro pins s σ H x y v u Q I rx ry h
  obtain ⟨d, b, D, rfl, q⟩ := h
  cases (show u = Value.bool b from ry)
  cases D with
  | non =>
    cases (show v = Value.none from rx)
    exact wpAny_is_other rfl (fun z => nomatch z) ⟨.bl false, H, I, rfl, q⟩
  | bl a =>
    cases (show v = Value.bool a from rx)
    by_cases e : a = b
    · subst e
      exact wpAny_is_self rfl ⟨.bl true, H, I, rfl, by simpa using q⟩
    · exact wpAny_is_other rfl (fun z => e (Value.bool.inj z)) ⟨.bl false, H, I, rfl, by simpa [e] using q⟩
  | int i =>
    obtain ⟨t, rfl⟩ := rx
    exact wpAny_is_other rfl (fun z => nomatch z) ⟨.bl false, H, I, rfl, q⟩
  | str i =>
    obtain ⟨t, rfl⟩ := rx
    exact wpAny_is_other rfl (fun z => nomatch z) ⟨.bl false, H, I, rfl, q⟩
  | @lst a _ _ _ _ =>
    cases (show v = Value.ref a from rx)
    exact wpAny_is_other rfl (fun z => nomatch z) ⟨.bl false, H, I, rfl, q⟩
  | @tup a _ _ _ _ =>
    cases (show v = Value.ref a from rx)
    exact wpAny_is_other rfl (fun z => nomatch z) ⟨.bl false, H, I, rfl, q⟩
  | @dct a _ _ _ _ =>
    cases (show v = Value.ref a from rx)
    exact wpAny_is_other rfl (fun z => nomatch z) ⟨.bl false, H, I, rfl, q⟩
end
end S1

set_option Elab.async false
set_option linter.all false
set_option maxRecDepth 100000
set_option maxHeartbeats 2000000
/-! the small questions of the program, of any data -/
namespace S1
open PySem PySem.W PySem.Spec PyProof.Rows L2
theorem dats_get {H : Hp} : ∀ {xs : List V} {ds : List PyData}, DatAll H xs ds → ∀ (k : Nat) (d : PyData), ds[k]? = some d → ∃ x, xs[k]? = some x ∧ Dat H x d
  | _, _, .nil, _, _, h => by simp at h
  | _, _, .cons (v := v) h t, 0, d, e => by
    cases (show some _ = some d from e)
    exact ⟨v, rfl, h⟩
  | _, _, .cons h t, k + 1, d, e => dats_get t k d e
theorem dats_get' {H : Hp} : ∀ {xs : List V} {ds : List PyData}, DatAll H xs ds → ∀ (k : Nat) (x : V), xs[k]? = some x → ∃ d, ds[k]? = some d ∧ Dat H x d
  | _, _, .nil, _, _, h => by simp at h
  | _, _, .cons (d := d) h t, 0, x, e => by
    cases (show some _ = some x from e)
    exact ⟨d, rfl, h⟩
  | _, _, .cons h t, k + 1, x, e => dats_get' t k x e
theorem dat_tup {H : Hp} {v : V} {ds : List PyData} (D : Dat H v (.tuple ds)) : ∃ a xs, v = .ref a ∧ H a = some (.tup xs) ∧ DatAll H xs ds := by
  cases D with
  | tup e h => exact ⟨_, _, rfl, e, h⟩
theorem dat_str {H : Hp} {v : V} {x : Str} (D : Dat H v (.str x)) : v = .str x := by
  cases D
  rfl
theorem tup_of {d : PyData} (h : isTup d = true) : ∃ ds, d = .tuple ds := by
  cases d with
  | tuple ds => exact ⟨ds, rfl⟩
  | _ => cases h
theorem str_of {d : PyData} (h : isStr d = true) : ∃ x, d = .str x := by
  cases d with
  | str x => exact ⟨x, rfl⟩
  | _ => cases h
theorem nm_of' {d : PyData} (h : isNm d = true) : ∃ x, d = .str x ∧ nmB x = true := by
  cases d with
  | str x => exact ⟨x, rfl, h⟩
  | _ => cases h
theorem same_tup {K : PySem.W.Frag} {H H' : Hp} {a : Addr} {xs : List V} (S : Same H H') (h : SqT K H a xs) : SqT K H' a xs := by
  rcases h with h | h
  · refine .inl ?_
    rcases h with h | ⟨o, h⟩
    · exact .inl (S _ _ h)
    · exact .inr ⟨o, S _ _ h⟩
  · exact .inr h
theorem same_sq {K : PySem.W.Frag} {H H' : Hp} {a : Addr} {xs : List V} (S : Same H H') (h : SqL K H a xs ∨ SqT K H a xs) : SqL K H' a xs ∨ SqT K H' a xs := h.elim (fun h => .inl (S.seq h)) fun h => .inr (same_tup S h)
theorem ix_any {K : PySem.W.Frag} {H : Hp} {a : Addr} {xs : List V} {i : Int} {v : V} {Q : VK} (h : SqL K H a xs ∨ SqT K H a xs) (e : atI xs i = some v) (q : Q v H) : rIx K (.ref a) (.int i) H Q :=
  h.elim (fun h => .inl ⟨a, xs, i, v, rfl, rfl, h, e, q⟩) fun h => .inr (.inl ⟨a, xs, i, v, rfl, rfl, h, e, q⟩)
section
variable {X : Cx}
def rLtD : R2 := fun x y H Q => ∃ d e, Dat H x d ∧ Dat H y e ∧ alike d e = true ∧ d ≠ .none ∧ d.depth ≤ 8 ∧ Q (.bl (dataLt d e)) H
theorem op_ltD (hu : X.A.units + 64 < cLine) : OpR X (compareOp .Lt) rLtD := by
  intro pins s σ H x y v u Q I rx ry h
  obtain ⟨d, e, D1, D2, al, ne, dp, q⟩ := h
  obtain ⟨as, R1⟩ := reads_of_dat I.hok D1 rx
  obtain ⟨bs, R2⟩ := reads_of_dat I.hok D2 ry
  exact rcLt_alike d e X.A s v u as bs R1 R2 al ne (by have := Nat.min_le_left d.depth e.depth; omega) X.prog X.w X.xe _ ⟨.bl (dataLt d e), H, I, rfl, q⟩
end
section
variable {K : PySem.W.Frag} {g : TG} {te : TE} {vs : List Nat} {σ : L2.St} {H : Hp} {D : Addr} {Qd : Hp → Prop}
/-- [f(x) for x in a tuple], what it gives known one by one -/
theorem lc_mapT {a : Addr} {xs ys : List V} (sq : SqT K H a xs) (hD : H D = none) (ly : ys.length = xs.length) (len : xs.length ≤ 1000)
    (step : ∀ (i : Nat) (x y : V) (H4 : Hp) (Qe : VK), xs[i]? = some x → ys[i]? = some y → Same H H4 → (∀ H5, Same H4 H5 → Qe y H5) → g x (wipe σ vs) H4 fun σ2 H2 => wipe σ2 vs = wipe σ vs ∧ te σ2 H2 Qe)
    (gm : ∀ x σ1 H1 (A B : L2.St → Hp → Prop), (∀ σ2 H2, A σ2 H2 → B σ2 H2) → g x σ1 H1 A → g x σ1 H1 B)
    (hd : ∀ H5, H5 D = some (.lst ys) → Same H H5 → Qd H5) :
    ∃ W : Nat → Nat → Hp → Prop, (∃ m, W 0 m (upd H D (.lst []))) ∧ ∀ i m H, W i m H →
      ((Itt K a).stop i H ∧ Qd H) ∨ ((Itt K a).go i H ∧ ∃ Nx : Hp → Prop, (∀ H', Nx H' → ∃ m', m' < m ∧ W (i + 1) m' H') ∧ ∀ x H', (Itt K a).yld i H x H' → g x (wipe σ vs) H' fun σ2 H2 => wipe σ2 vs = wipe σ vs ∧ tYes σ2 H2 fun b H3 =>
        if b = true then te σ2 H3 fun y H4 => ∃ acc, H4 D = some (.lst acc) ∧ acc.length < sizeLine ∧ Nx (upd H4 D (.lst (acc ++ [y]))) else Nx H3) := by
  refine lc_tup (K := K) (a := a) (xs := xs) (fun j H4 => H4 D = some (.lst (ys.take j)) ∧ Same H H4) ⟨by rw [upd_same, List.take_zero], same_new hD⟩ (fun i H4 _ h => same_tup h.2 sq) (fun i x H4 hx h => ?_) (fun H5 h => hd H5 (by rw [h.1, ← ly, List.take_length]) h.2)
  have il : i < xs.length := (List.getElem?_eq_some_iff.mp hx).1
  obtain ⟨y, hy⟩ : ∃ y, ys[i]? = some y := ⟨_, List.getElem?_eq_getElem (by omega)⟩
  refine gm x _ _ _ _ (fun σ2 H2 z => ⟨z.1, yes_of z.2⟩) (step i x y H4 _ hx hy h.2 fun H5 S5 => ?_)
  have e5 := S5 _ _ h.1
  exact ⟨_, e5, by rw [List.length_take]; exact small1000 (by omega), by rw [upd_same, take_next hy], same_upd (h.2.trans S5) hD⟩
/-- [p(x) for x in a tuple of data] -/
theorem lc_allD {a : Addr} {xs : List V} {ds : List PyData} {p : PyData → Bool} (e : H a = some (.tup xs)) (Da : DatAll H xs ds) (hD : H D = none) (len : ds.length ≤ 1000)
    (step : ∀ (i : Nat) (x : V) (d : PyData) (H4 : Hp) (Qe : VK), ds[i]? = some d → Same H H4 → Dat H4 x d → (∀ H5, Same H4 H5 → Qe (.bl (p d)) H5) → g x (wipe σ vs) H4 fun σ2 H2 => wipe σ2 vs = wipe σ vs ∧ te σ2 H2 Qe)
    (gm : ∀ x σ1 H1 (A B : L2.St → Hp → Prop), (∀ σ2 H2, A σ2 H2 → B σ2 H2) → g x σ1 H1 A → g x σ1 H1 B)
    (hd : ∀ H5, H5 D = some (.lst ((ds.map p).map V.bl)) → Same H H5 → Qd H5) :
    ∃ W : Nat → Nat → Hp → Prop, (∃ m, W 0 m (upd H D (.lst []))) ∧ ∀ i m H, W i m H →
      ((Itt K a).stop i H ∧ Qd H) ∨ ((Itt K a).go i H ∧ ∃ Nx : Hp → Prop, (∀ H', Nx H' → ∃ m', m' < m ∧ W (i + 1) m' H') ∧ ∀ x H', (Itt K a).yld i H x H' → g x (wipe σ vs) H' fun σ2 H2 => wipe σ2 vs = wipe σ vs ∧ tYes σ2 H2 fun b H3 =>
        if b = true then te σ2 H3 fun y H4 => ∃ acc, H4 D = some (.lst acc) ∧ acc.length < sizeLine ∧ Nx (upd H4 D (.lst (acc ++ [y]))) else Nx H3) := by
  have lx : xs.length = ds.length := Da.len
  refine lc_mapT (K := K) (ys := (ds.map p).map V.bl) (SqT.of e) hD (by rw [List.length_map, List.length_map, lx]) (by omega) (fun i x y H4 Qe hx hy S4 k => ?_) gm hd
  obtain ⟨d, hd', Dx⟩ := dats_get' Da i x hx
  have ey : y = V.bl (p d) := by
    rw [List.getElem?_map, List.getElem?_map, hd'] at hy
    exact (Option.some.inj hy).symm
  rw [ey] at k
  exact step i x d H4 Qe hd' S4 (Dx.same S4) k
/-- [f(x) for x in a tuple of data], f giving values without an address -/
theorem lc_mapD {a : Addr} {xs : List V} {ds : List PyData} {f : PyData → V} (e : H a = some (.tup xs)) (Da : DatAll H xs ds) (hD : H D = none) (len : ds.length ≤ 1000)
    (step : ∀ (i : Nat) (x : V) (d : PyData) (H4 : Hp) (Qe : VK), ds[i]? = some d → Same H H4 → Dat H4 x d → (∀ H5, Same H4 H5 → Qe (f d) H5) → g x (wipe σ vs) H4 fun σ2 H2 => wipe σ2 vs = wipe σ vs ∧ te σ2 H2 Qe)
    (gm : ∀ x σ1 H1 (A B : L2.St → Hp → Prop), (∀ σ2 H2, A σ2 H2 → B σ2 H2) → g x σ1 H1 A → g x σ1 H1 B)
    (hd : ∀ H5, H5 D = some (.lst (ds.map f)) → Same H H5 → Qd H5) :
    ∃ W : Nat → Nat → Hp → Prop, (∃ m, W 0 m (upd H D (.lst []))) ∧ ∀ i m H, W i m H →
      ((Itt K a).stop i H ∧ Qd H) ∨ ((Itt K a).go i H ∧ ∃ Nx : Hp → Prop, (∀ H', Nx H' → ∃ m', m' < m ∧ W (i + 1) m' H') ∧ ∀ x H', (Itt K a).yld i H x H' → g x (wipe σ vs) H' fun σ2 H2 => wipe σ2 vs = wipe σ vs ∧ tYes σ2 H2 fun b H3 =>
        if b = true then te σ2 H3 fun y H4 => ∃ acc, H4 D = some (.lst acc) ∧ acc.length < sizeLine ∧ Nx (upd H4 D (.lst (acc ++ [y]))) else Nx H3) := by
  have lx : xs.length = ds.length := Da.len
  refine lc_mapT (K := K) (ys := ds.map f) (SqT.of e) hD (by rw [List.length_map, lx]) (by omega) (fun i x y H4 Qe hx hy S4 k => ?_) gm hd
  obtain ⟨d, hd', Dx⟩ := dats_get' Da i x hx
  have ey : y = f d := by
    rw [List.getElem?_map, hd'] at hy
    exact (Option.some.inj hy).symm
  rw [ey] at k
  exact step i x d H4 Qe hd' S4 (Dx.same S4) k
end
theorem gName_mono {i : Nat} : ∀ (x : V) (σ1 : L2.St) (H1 : Hp) (A B : L2.St → Hp → Prop), (∀ σ2 H2, A σ2 H2 → B σ2 H2) → gName i x σ1 H1 A → gName i x σ1 H1 B := fun x σ1 H1 A B h z => h _ _ z
theorem all_id {α : Type} (p : α → Bool) (l : List α) : (l.map p).all id = l.all p := by
  rw [List.all_map]
  rfl
/-- a question about any data -/
def spJ (p : PyData → Bool) : Sp := fun vs H Q _ => ∃ (v : V) (d : PyData), vs = [v] ∧ Dat H v d ∧ lim d = true ∧ ∀ H', Same H H' → Q (.bl (p d)) H'
def spTupN : Sp := fun vs H Q _ => ∃ (v : V) (d : PyData) (n : Nat), vs = [v, .int (n : Nat)] ∧ Dat H v d ∧ lim d = true ∧ ∀ H', Same H H' → Q (.bl (isTup d && decide ((parts d).length ≤ n))) H'
def pairB (d : PyData) : Bool := isTup d && decide ((parts d).length = 2)
/-- all that may be compared with one another -/
def Likes (ds : List PyData) : Prop := (∀ x ∈ ds, x ≠ .none ∧ x.depth ≤ 8) ∧ ∀ x ∈ ds, ∀ y ∈ ds, alike x y = true
def spRise (K : PySem.W.Frag) : Sp := fun vs H Q _ => ∃ (a : Addr) (xs : List V) (ds : List PyData), vs = [.ref a] ∧ (SqL K H a xs ∨ SqT K H a xs) ∧ DatAll H xs ds ∧ Likes ds ∧ ds.length ≤ 1000 ∧ ∀ H', Same H H' → Q (.bl (riseB ds)) H'
def ltAt (ds : List PyData) (k : Nat) : Bool := dataLt (ds.getD k .none) (ds.getD (k + 1) .none)
theorem rise_range : ∀ ds : List PyData, ((List.range (ds.length - 1)).map (ltAt ds)).all id = riseB ds
  | [] => rfl
  | [_] => rfl
  | x :: y :: r => by
    have h := rise_range (y :: r)
    have e : (List.range ((x :: y :: r).length - 1)).map (ltAt (x :: y :: r)) = dataLt x y :: (List.range ((y :: r).length - 1)).map (ltAt (y :: r)) := by
      show (List.range (r.length + 1)).map _ = _ :: (List.range r.length).map _
      rw [List.range_succ_eq_map, List.map_cons, List.map_map]
      rfl
    rw [e, List.all_cons, h]
    rfl
section
variable {P : Program} {w : World} {K : PySem.W.Frag} {mg : Str → Option Value} {base : Heap}
theorem scIsTruth : FnScope ["value"] ["value"] (defScope sIsTruth) := ⟨rfl, rfl, rfl, by decide +kernel, rfl, by decide +kernel, by decide +kernel⟩
theorem scIsTuple : FnScope ["value", "most"] ["value", "most"] (defScope sIsTuple) := ⟨rfl, rfl, rfl, by decide +kernel, rfl, by decide +kernel, by decide +kernel⟩
theorem scIsPair : FnScope ["value"] ["value"] (defScope sIsPair) := ⟨rfl, rfl, rfl, by decide +kernel, rfl, by decide +kernel, by decide +kernel⟩
theorem scIsRising : FnScope ["parts", "k"] ["parts"] (defScope sIsRising) := ⟨rfl, rfl, rfl, by decide +kernel, rfl, by decide +kernel, by decide +kernel⟩
theorem ok_isTruth {f : Addr} {fd : FuncData} (F : Fun K "is_truth" "is_truth" sIsTruth f fd) : FnOk P w K mg base CX0 1 f fd ["value"] (spJ isTr) := by
  refine F.ok scIsTruth (fun vs H Q E h => ?_) (fun cdv A outer s H vs Q E hr h => ?_)
  · obtain ⟨v, d, rfl, _⟩ := h
    rfl
  · obtain ⟨v, d, rfl, D, li, q⟩ := h
    refine ⟨_, pss_one (ps_ret (pe_or (pe_cmpR op_isAny (pv 0) pe_bl (nomark _)) (pe_one (pe_cmpR op_isAny (pv 0) pe_bl (nomark _))))), ?_⟩
    refine ⟨_, rfl, d, true, D, rfl, _, rfl, ?_⟩
    have q' := q H (Same.refl _)
    cases D with
    | bl b =>
      cases b with
      | true => exact q'
      | false => exact ⟨_, rfl, _, false, .bl false, rfl, q'⟩
    | non => exact ⟨_, rfl, _, false, .non, rfl, q'⟩
    | int i => exact ⟨_, rfl, _, false, .int i, rfl, q'⟩
    | str i => exact ⟨_, rfl, _, false, .str i, rfl, q'⟩
    | lst e h => exact ⟨_, rfl, _, false, .lst e h, rfl, q'⟩
    | tup e h => exact ⟨_, rfl, _, false, .tup e h, rfl, q'⟩
    | dct e h => exact ⟨_, rfl, _, false, .dct e h, rfl, q'⟩
theorem ok_isTuple {f : Addr} {fd : FuncData} (F : Fun K "is_tuple" "is_tuple" sIsTuple f fd) (B : Blt mg) : FnOk P w K mg base CX0 1 f fd ["value", "most"] spTupN := by
  refine F.ok scIsTuple (fun vs H Q E h => ?_) (fun cdv A outer s H vs Q E hr h => ?_)
  · obtain ⟨v, d, n, rfl, _⟩ := h
    rfl
  · obtain ⟨v, d, n, rfl, D, li, q⟩ := h
    refine ⟨_, pss_one (ps_ret (pe_and (pe_callB call_isi (by rfl) B.isi (by decide +kernel) (pa_cons (pv 0) (pa_cons (pe_bltn (v := V.ty "tuple") (by rfl) B.tuple (by decide +kernel) rfl) pa_nil)))
      (pe_one (pe_cmpR op_le (pe_callB call_len_seq (by rfl) B.len (by decide +kernel) (pa_cons (pv 0) pa_nil)) (pv 1) (nomark _))))), ?_⟩
    refine ⟨_, rfl, _, _, _, _, isTup d, rfl, .ty _, ty_dat D, kit_ty (kit_tup d), isTup d, rfl, ?_⟩
    have q' := q H (Same.refl _)
    cases h : isTup d with
    | false =>
      rw [h] at q'
      show if false = true then _ else _
      rw [if_neg (by decide)]
      exact q'
    | true =>
      rw [h] at q'
      show if true = true then _ else _
      rw [if_pos rfl]
      obtain ⟨ds, rfl⟩ := tup_of h
      obtain ⟨a, xs, rfl, e, Da⟩ := dat_tup D
      refine ⟨_, rfl, _, _, rfl, .inr (SqT.of e), _, rfl, _, _, rfl, rfl, ?_⟩
      rw [Da.len]
      have en : decide (((ds.length : Nat) : Int) ≤ ((n : Nat) : Int)) = decide (ds.length ≤ n) := by simp
      show Q (.bl (decide (((ds.length : Nat) : Int) ≤ ((n : Nat) : Int)))) H
      rw [en]
      exact q'
theorem ok_isPair {f : Addr} {fd : FuncData} (F : Fun K "is_pair" "is_pair" sIsPair f fd) (B : Blt mg) : FnOk P w K mg base CX0 1 f fd ["value"] (spJ pairB) := by
  refine F.ok scIsPair (fun vs H Q E h => ?_) (fun cdv A outer s H vs Q E hr h => ?_)
  · obtain ⟨v, d, rfl, _⟩ := h
    rfl
  · obtain ⟨v, d, rfl, D, li, q⟩ := h
    refine ⟨_, pss_one (ps_ret (pe_and (pe_callB call_isi (by rfl) B.isi (by decide +kernel) (pa_cons (pv 0) (pa_cons (pe_bltn (v := V.ty "tuple") (by rfl) B.tuple (by decide +kernel) rfl) pa_nil)))
      (pe_one (pe_cmpR op_eq (pe_callB call_len_seq (by rfl) B.len (by decide +kernel) (pa_cons (pv 0) pa_nil)) pe_int (nomark _))))), ?_⟩
    refine ⟨_, rfl, _, _, _, _, isTup d, rfl, .ty _, ty_dat D, kit_ty (kit_tup d), isTup d, rfl, ?_⟩
    have q' := q H (Same.refl _)
    cases h : isTup d with
    | false =>
      rw [pairB, h] at q'
      show if false = true then _ else _
      rw [if_neg (by decide)]
      exact q'
    | true =>
      rw [pairB, h] at q'
      show if true = true then _ else _
      rw [if_pos rfl]
      obtain ⟨ds, rfl⟩ := tup_of h
      obtain ⟨a, xs, rfl, e, Da⟩ := dat_tup D
      refine ⟨_, rfl, _, _, rfl, .inr (SqT.of e), rfl, ?_⟩
      rw [Da.len]
      have en : decide (V.int ((ds.length : Nat) : Int) = V.int 2) = decide (ds.length = 2) := by
        by_cases z : ds.length = 2
        · rw [z]; rfl
        · rw [decide_eq_false z, decide_eq_false (fun y => z (by injection y with y; omega))]
      show Q (.bl (decide (V.int ((ds.length : Nat) : Int) = V.int 2))) H
      rw [en]
      exact q'
theorem ok_isRising {f : Addr} {fd : FuncData} (F : Fun K "is_rising" "is_rising" sIsRising f fd) (B : Blt mg) : FnOk P w K mg base CX0 1 f fd ["parts"] (spRise K) := by
  refine F.ok scIsRising (fun vs H Q E h => ?_) (fun cdv A outer s H vs Q E hr h => ?_)
  · obtain ⟨a, xs, ds, rfl, _⟩ := h
    rfl
  · obtain ⟨a, xs, ds, rfl, sq, D, L, len, q⟩ := h
    have hu : (A.deeper (envOfC "is_rising" (defScope sIsRising) s.heap.objs.size f cdv)).units + 64 < cLine := hr.units
    refine ⟨_, pss_one (ps_ret (pe_callB (cr_all rfl) (by rfl) B.all (by decide +kernel) (pa_cons (pe_lc (own := [("k", 1)]) (g := gName 1) (tt := tYes) (te := tOp rLtD (tOp (rIx K) (tVar 0) (tVar 1)) (tOp (rIx K) (tVar 0) (tOp (rI0 fun i j => V.int (i + j)) (tVar 1) (tC (V.int 1))))) rfl scIsRising.nd (pi_range1 rfl B.range (pa_cons (pe_op op_sub (pe_callB call_len_seq (by rfl) B.len (by decide +kernel) (pa_cons (pv 0) pa_nil)) pe_int) pa_nil))
      (blkOk_by (N := ["parts", "k"]) (sc := defScope sIsRising) (by decide +kernel)) (fun _ _ _ _ _ => pg_name (i := 1) scIsRising.nd rfl (Or.inl rfl)) (fun _ _ _ _ _ => pts_nil)
      (fun _ _ _ _ _ => by exact pe_cmpR (op_ltD (by exact hu)) (pe_ix ix_seq (pv 0) (pv 1) (fun _ _ => rfl)) (pe_ix ix_seq (pv 0) (pe_op op_add (pv 1) pe_int) (fun _ _ => rfl)) (nomark _))) pa_nil))), ?_⟩
    have lx : xs.length = ds.length := D.len
    refine ⟨_, rfl, _, _, rfl, sq, _, _, rfl, rfl, _, rfl, by omega, by omega, fun D0 hD0 => ?_⟩
    refine lc_range (lo := 0) (n := ((xs.length : Int) - 1).toNat) (fun j H4 => H4 D0 = some (.lst (((List.range j).map (ltAt ds)).map V.bl)) ∧ Same H H4) ⟨upd_same, same_new hD0⟩ ?_ ?_
    · rintro j H4 hj ⟨eD, S⟩
      have j1 : j + 1 < ds.length := by omega
      obtain ⟨x, hx, Dx⟩ := dats_get D j _ (List.getElem?_eq_getElem (show j < ds.length by omega))
      obtain ⟨y, hy, Dy⟩ := dats_get D (j + 1) _ (List.getElem?_eq_getElem j1)
      have m1 := List.getElem_mem (show j < ds.length by omega)
      have m2 := List.getElem_mem j1
      have at1 : atI xs (0 + (j : Int)) = some x := by rw [Int.zero_add]; exact atI_nat hx
      have at2 : atI xs (0 + (j : Int) + 1) = some y := by
        have e : (0 : Int) + (j : Int) + 1 = ((j + 1 : Nat) : Int) := by omega
        rw [e]
        exact atI_nat hy
      refine ⟨rfl, yes_of ?_⟩
      refine ⟨_, rfl, _, rfl, ix_any (same_sq S sq) at1 ⟨_, rfl, _, rfl, _, _, rfl, rfl, ix_any (same_sq S sq) at2 ?_⟩⟩
      refine ⟨_, _, Dx.same S, Dy.same S, L.2 _ m1 _ m2, (L.1 _ m1).1, (L.1 _ m1).2, _, eD, by rw [List.length_map, List.length_map, List.length_range]; exact small1000 (by omega), ?_, same_upd S hD0⟩
      rw [upd_same, List.range_succ, List.map_append, List.map_append]
      have e1 : ltAt ds j = dataLt ds[j] ds[j + 1] := by
        unfold ltAt
        rw [List.getD_eq_getElem?_getD, List.getD_eq_getElem?_getD, List.getElem?_eq_getElem (show j < ds.length by omega), List.getElem?_eq_getElem j1]
        rfl
      rw [List.map_singleton, e1]
      rfl
    · rintro H4 ⟨eD, S⟩
      have en : ((xs.length : Int) - 1).toNat = ds.length - 1 := by omega
      rw [en] at eD
      refine ⟨D0, _, rfl, SqL.of eD, ?_⟩
      rw [rise_range]
      exact q H4 S
end
end S1

set_option Elab.async false
set_option linter.all false
set_option maxRecDepth 100000
set_option maxHeartbeats 2000000
/-! names, letters, clauses, rows: any data asked -/
namespace S1
open PySem PySem.W PySem.Spec PyProof.Rows L2
/-- the numbers at the head of the program -/
structure Cst (mg : Str → Option Value) : Prop where
  small : ∃ t, mg "SMALL" = some (.str "abcdefghijklmnopqrstuvwxyz" t)
  signs : ∃ t, mg "MOST_SIGNS" = some (.int 8 t)
  picks : ∃ t, mg "MOST_PICKS" = some (.int 6 t)
  owns : ∃ t, mg "MOST_OWNS" = some (.int 8 t)
  clauses : ∃ t, mg "MOST_CLAUSES" = some (.int 40 t)
  copies : ∃ t, mg "MOST_COPIES" = some (.int 120 t)
def azB (c : Nat) : Bool := decide (97 ≤ c ∧ c ≤ 122)
theorem abc_iff (c : Nat) : decide (c ∈ ("abcdefghijklmnopqrstuvwxyz" : Str).cps.toList) = azB c := by
  have z : ∀ k, k < 123 → decide (k ∈ ("abcdefghijklmnopqrstuvwxyz" : Str).cps.toList) = azB k := by decide +kernel
  by_cases h : c < 123
  · exact z c h
  · have hm : c ∉ ("abcdefghijklmnopqrstuvwxyz" : Str).cps.toList := fun m => by
      have y : ∀ k ∈ ("abcdefghijklmnopqrstuvwxyz" : Str).cps.toList, k < 123 := by decide +kernel
      exact h (y c m)
    rw [decide_eq_false hm, azB, decide_eq_false (by omega)]
theorem nmB_eq (x : Str) : nmB x = (decide (1 ≤ x.length) && decide (x.length ≤ 8) && (x.cps.toList.map azB).all id) := by
  rw [all_id]
  rfl
section
variable {K : PySem.W.Frag} {g : TG} {te : TE} {vs : List Nat} {σ : L2.St} {H : Hp} {D : Addr} {Qd : Hp → Prop}
theorem lc_boolS {x : Str} {p : Nat → Bool} (hD : H D = none) (len : x.cps.size ≤ 1000)
    (step : ∀ (c : Nat) (H4 : Hp) (Qe : VK), c ∈ x.cps.toList → Same H H4 → (∀ H5, Same H4 H5 → Qe (.bl (p c)) H5) → g (.str ⟨#[c]⟩) (wipe σ vs) H4 fun σ2 H2 => wipe σ2 vs = wipe σ vs ∧ te σ2 H2 Qe)
    (gm : ∀ x σ1 H1 (A B : L2.St → Hp → Prop), (∀ σ2 H2, A σ2 H2 → B σ2 H2) → g x σ1 H1 A → g x σ1 H1 B)
    (hd : ∀ H5, H5 D = some (.lst ((x.cps.toList.map p).map V.bl)) → Same H H5 → Qd H5) :
    ∃ W : Nat → Nat → Hp → Prop, (∃ m, W 0 m (upd H D (.lst []))) ∧ ∀ i m H, W i m H →
      ((Its x).stop i H ∧ Qd H) ∨ ((Its x).go i H ∧ ∃ Nx : Hp → Prop, (∀ H', Nx H' → ∃ m', m' < m ∧ W (i + 1) m' H') ∧ ∀ y H', (Its x).yld i H y H' → g y (wipe σ vs) H' fun σ2 H2 => wipe σ2 vs = wipe σ vs ∧ tYes σ2 H2 fun b H3 =>
        if b = true then te σ2 H3 fun y H4 => ∃ acc, H4 D = some (.lst acc) ∧ acc.length < sizeLine ∧ Nx (upd H4 D (.lst (acc ++ [y]))) else Nx H3) := by
  refine ⟨fun i m H4 => m = x.cps.size - i ∧ i ≤ x.cps.size ∧ H4 D = some (.lst (((x.cps.toList.take i).map p).map V.bl)) ∧ Same H H4, ⟨_, rfl, Nat.zero_le _, upd_same, same_new hD⟩, ?_⟩
  rintro i m H4 ⟨rfl, hi, e4, S4⟩
  by_cases il : i < x.cps.size
  · refine .inr ⟨il, fun H5 => i + 1 ≤ x.cps.size ∧ H5 D = some (.lst (((x.cps.toList.take (i + 1)).map p).map V.bl)) ∧ Same H H5, fun H5 z => ⟨x.cps.size - (i + 1), by omega, rfl, z.1, z.2⟩, ?_⟩
    rintro y H' ⟨rfl, c, hc, rfl⟩
    have hc' : x.cps.toList[i]? = some c := by rw [Array.getElem?_toList]; exact hc
    have mc : c ∈ x.cps.toList := List.mem_of_getElem? hc'
    refine gm _ _ _ _ _ (fun σ2 H2 z => ⟨z.1, yes_of z.2⟩) (step c _ _ mc S4 fun H5 S5 => ?_)
    have e5 := S5 _ _ e4
    refine ⟨_, e5, ?_, il, ?_, same_upd (S4.trans S5) hD⟩
    · rw [List.length_map, List.length_map, List.length_take, Array.length_toList]
      exact small1000 (by omega)
    · rw [upd_same, take_next hc', List.map_append, List.map_append]
      rfl
  · have e : i = x.cps.size := by omega
    subst e
    rw [← Array.length_toList, List.take_length] at e4
    exact .inl ⟨Nat.le_refl _, hd H4 e4 S4⟩
end
theorem ite_yes {c A B : Prop} [Decidable c] (h : c) (k : A) : if c then A else B := by rw [if_pos h]; exact k
theorem let_eq (d : PyData) : isLt d = (pairB d && (isNm ((parts d).getD 0 .none) && isTr ((parts d).getD 1 .none))) := by
  cases d with
  | tuple ds =>
    match ds with
    | [] => rfl
    | [a] => rfl
    | [a, b] => rfl
    | a :: b :: c :: r =>
      have h : decide ((parts (.tuple (a :: b :: c :: r))).length = 2) = false := decide_eq_false (fun z => by simp [parts] at z)
      rw [pairB, h, Bool.and_false]
      rfl
  | _ => rfl
theorem pair_of {d : PyData} (h : pairB d = true) : ∃ a b, d = .tuple [a, b] := by
  unfold pairB at h
  rw [Bool.and_eq_true, decide_eq_true_eq] at h
  obtain ⟨ds, rfl⟩ := tup_of h.1
  match ds, h.2 with
  | [a, b], _ => exact ⟨a, b, rfl⟩
theorem dats_two {H : Hp} {xs : List V} {d e : PyData} (D : DatAll H xs [d, e]) : ∃ x y, xs = [x, y] ∧ Dat H x d ∧ Dat H y e := by
  cases D with
  | cons h1 D =>
    cases D with
    | cons h2 D =>
      cases D
      exact ⟨_, _, rfl, h1, h2⟩
theorem lim_two {d e : PyData} (h : lim (.tuple [d, e]) = true) : lim d = true ∧ lim e = true := by
  obtain ⟨_, h⟩ := lim_tup h
  exact ⟨h d List.mem_cons_self, h e (List.mem_cons_of_mem _ List.mem_cons_self)⟩
section
variable {P : Program} {w : World} {K : PySem.W.Frag} {mg : Str → Option Value} {base : Heap}
theorem scIsName : FnScope ["value", "sign"] ["value"] (defScope sIsName) := ⟨rfl, rfl, rfl, by decide +kernel, rfl, by decide +kernel, by decide +kernel⟩
theorem scIsLetter : FnScope ["value"] ["value"] (defScope sIsLetter) := ⟨rfl, rfl, rfl, by decide +kernel, rfl, by decide +kernel, by decide +kernel⟩
theorem scIsAnyClause : FnScope ["value", "part", "letter"] ["value"] (defScope sIsAnyClause) := ⟨rfl, rfl, rfl, by decide +kernel, rfl, by decide +kernel, by decide +kernel⟩
theorem scAreNames : FnScope ["value", "most", "part"] ["value", "most"] (defScope sAreNames) := ⟨rfl, rfl, rfl, by decide +kernel, rfl, by decide +kernel, by decide +kernel⟩
theorem scAreTruths : FnScope ["value", "many", "part"] ["value", "many"] (defScope sAreTruths) := ⟨rfl, rfl, rfl, by decide +kernel, rfl, by decide +kernel, by decide +kernel⟩
theorem ok_isName {f : Addr} {fd : FuncData} (F : Fun K "is_name" "is_name" sIsName f fd) (B : Blt mg) (C : Cst mg) : FnOk P w K mg base CX0 1 f fd ["value"] (spJ isNm) := by
  obtain ⟨t1, c1⟩ := C.small
  obtain ⟨t2, c2⟩ := C.signs
  refine F.ok scIsName (fun vs H Q E h => ?_) (fun cdv A outer s H vs Q E hr h => ?_)
  · obtain ⟨v, d, rfl, _⟩ := h
    rfl
  · obtain ⟨v, d, rfl, D, li, q⟩ := h
    refine ⟨_, pss_cons (ps_if (PW.pt (pw_or (pt_not (pt_val (pe_callB call_isi (by rfl) B.isi (by decide +kernel) (pa_cons (pv 0) (pa_cons (pe_bltn (v := V.ty "str") (by rfl) B.str (by decide +kernel) rfl) pa_nil)))))
        (pw_or1 (pt_not (pt_chain op_le op_le pe_int (pe_callB call_len_str (by rfl) B.len (by decide +kernel) (pa_cons (pv 0) pa_nil)) (pe_glob (v := V.int 8) rfl c2 ⟨_, rfl⟩)))))) (pss_one (ps_ret pe_bl)) pss_nil)
      (pss_one (ps_ret (pe_callB (cr_all rfl) (by rfl) B.all (by decide +kernel) (pa_cons (pe_lc (own := [("sign", 1)]) (g := gName 1) (tt := tYes) rfl scIsName.nd (pi_str (pv 0))
        (blkOk_by (N := ["value", "sign"]) (sc := defScope sIsName) (by decide +kernel)) (fun _ _ _ _ _ => pg_name (i := 1) scIsName.nd rfl (Or.inl rfl)) (fun _ _ _ _ _ => pts_nil)
        (fun _ _ _ _ _ => pe_cmpR op_in_sign (pv 1) (pe_glob (v := V.str "abcdefghijklmnopqrstuvwxyz") rfl c1 ⟨_, rfl⟩) (by with_unfolding_all rfl))) pa_nil)))), ?_⟩
    refine ⟨_, rfl, _, _, _, _, isStr d, rfl, .ty _, ty_dat D, kit_ty (kit_str d), isStr d, rfl, ?_⟩
    cases h : isStr d with
    | false =>
      show if (!false) = true then _ else _
      rw [if_pos (by decide)]
      show if true = true then _ else _
      rw [if_pos rfl]
      have e : isNm d = false := by cases d <;> first | rfl | cases h
      rw [e] at q
      exact q H (Same.refl _)
    | true =>
      obtain ⟨x, rfl⟩ := str_of h
      cases dat_str D
      have len1 : x.length ≤ 1000 := by rw [lim, decide_eq_true_eq] at li; exact li
      have len : x.length ≤ sizeLine := Nat.le_of_lt (small1000 len1)
      have e := nmB_eq x
      show if (!true) = true then _ else _
      rw [if_neg (by decide)]
      refine ⟨_, rfl, x, rfl, len, _, _, rfl, rfl, _, rfl, ?_⟩
      have fin0 : nmB x = false → Q (.bl false) H := fun z => by
        have q' := q H (Same.refl _)
        rw [show isNm (.str x) = nmB x from rfl, z] at q'
        exact q'
      refine ite2 (fun h1 => ?_) (fun h1 => ?_)
      · refine ⟨_, _, rfl, rfl, _, rfl, ?_⟩
        have l1 : (1 : Int) ≤ (x.length : Int) := of_decide_eq_true h1
        cases h2 : decide ((x.length : Int) ≤ 8) with
        | false =>
          show if (!false) = true then _ else _
          rw [if_pos (by decide)]
          have l8 : ¬ (x.length : Int) ≤ 8 := of_decide_eq_false h2
          exact fin0 (by rw [e, decide_eq_false (show ¬ x.length ≤ 8 by omega), Bool.and_false, Bool.false_and])
        | true =>
          show if (!true) = true then _ else _
          rw [if_neg (by decide)]
          have l8 : (x.length : Int) ≤ 8 := of_decide_eq_true h2
          have e' : isNm (.str x) = (x.cps.toList.map azB).all id := by
            show nmB x = _
            rw [e, decide_eq_true (show 1 ≤ x.length by omega), decide_eq_true (show x.length ≤ 8 by omega), Bool.true_and, Bool.true_and]
          refine ⟨_, rfl, x, rfl, fun D0 hD => ?_⟩
          refine lc_boolS (p := azB) hD (by show x.length ≤ 1000; omega) (fun c H4 Qe mc S4 k => ?_) gName_mono (fun H5 e5 S5 => ?_)
          · refine ⟨rfl, _, rfl, c, _, rfl, rfl, ?_⟩
            show Qe (.bl (decide _)) H4
            rw [abc_iff]
            exact k H4 (Same.refl _)
          · refine ⟨D0, _, rfl, SqL.of e5, ?_⟩
            rw [← e']
            exact q H5 S5
      · have l1 : ¬ (1 : Int) ≤ (x.length : Int) := fun z => h1 (decide_eq_true z)
        refine ⟨_, rfl, ?_⟩
        show if (!false) = true then _ else _
        rw [if_pos (by decide)]
        exact fin0 (by rw [e, decide_eq_false (show ¬ 1 ≤ x.length by omega), Bool.false_and, Bool.false_and])
theorem ok_isLetter {f fP fN fT : Addr} {fd fdP fdN fdT : FuncData} (F : Fun K "is_letter" "is_letter" sIsLetter f fd) (Pr : Has K mg "is_pair" sIsPair ["value"] fP fdP) (Nn : Has K mg "is_name" sIsName ["value"] fN fdN) (Tr : Has K mg "is_truth" sIsTruth ["value"] fT fdT)
    (B : Blt mg) (C : Cst mg) : FnOk P w K mg base CX0 2 f fd ["value"] (spJ isLt) := by
  have GP : FnOk P w K mg base CX0 1 fP fdP ["value"] (spJ pairB) := ok_isPair Pr.F B
  have GN : FnOk P w K mg base CX0 1 fN fdN ["value"] (spJ isNm) := ok_isName Nn.F B C
  have GT : FnOk P w K mg base CX0 1 fT fdT ["value"] (spJ isTr) := ok_isTruth Tr.F
  refine F.ok scIsLetter (fun vs H Q E h => ?_) (fun cdv A outer s H vs Q E hr h => ?_)
  · obtain ⟨v, d, rfl, _⟩ := h
    rfl
  · obtain ⟨v, d, rfl, D, li, q⟩ := h
    refine ⟨_, pss_one (ps_ret (pe_and (pe_call GP hr rfl Pr.g Pr.F.kp Pr.b .nil pass0 (pa_cons (pv 0) pa_nil)) (pe_and (pe_call GN hr rfl Nn.g Nn.F.kp Nn.b .nil pass0 (pa_cons (pe_ix ix_tup (pv 0) pe_int (fun _ _ => rfl)) pa_nil))
      (pe_one (pe_call GT hr rfl Tr.g Tr.F.kp Tr.b .nil pass0 (pa_cons (pe_ix ix_tup (pv 0) pe_int (fun _ _ => rfl)) pa_nil)))))), ?_⟩
    have e := let_eq d
    refine ⟨_, rfl, v, d, rfl, D, li, fun H1 S1 => ⟨pairB d, rfl, ?_⟩⟩
    cases h : pairB d with
    | false =>
      rw [h, Bool.false_and] at e
      rw [e] at q
      show if false = true then _ else _
      rw [if_neg (by decide)]
      exact q H1 S1
    | true =>
      obtain ⟨a, b, rfl⟩ := pair_of h
      obtain ⟨t, xs, rfl, et, Da⟩ := dat_tup D
      obtain ⟨x, y, rfl, D1, D2⟩ := dats_two Da
      obtain ⟨l1, l2⟩ := lim_two li
      show if true = true then _ else _
      rw [if_pos rfl]
      refine ⟨_, rfl, t, _, 0, _, rfl, rfl, SqT.of (S1 _ _ et), rfl, x, a, rfl, D1.same S1, l1, fun H2 S2 => ⟨isNm a, rfl, ?_⟩⟩
      have e2 : isLt (.tuple [a, b]) = (isNm a && isTr b) := rfl
      rw [e2] at q
      have S12 := S1.trans S2
      cases h2 : isNm a with
      | false =>
        rw [h2] at q
        show if false = true then _ else _
        rw [if_neg (by decide)]
        exact q H2 S12
      | true =>
        rw [h2] at q
        show if true = true then _ else _
        rw [if_pos rfl]
        exact ⟨_, rfl, t, _, 1, _, rfl, rfl, SqT.of (S12 _ _ et), rfl, y, b, rfl, D2.same S12, l2, fun H3 S3 => q H3 (S12.trans S3)⟩
theorem likes_strs {α : Type} (f : α → Str) (l : List α) : Likes (l.map fun x => PyData.str (f x)) := by
  refine ⟨fun d hd => ?_, fun d hd e he => ?_⟩
  · obtain ⟨x, _, rfl⟩ := List.mem_map.mp hd
    exact ⟨(fun z => nomatch z), Nat.zero_le _⟩
  · obtain ⟨x, _, rfl⟩ := List.mem_map.mp hd
    obtain ⟨y, _, rfl⟩ := List.mem_map.mp he
    simp [alike]
theorem likes_nms {ds : List PyData} (h : ds.all isNm = true) : Likes ds := by
  rw [List.all_eq_true] at h
  refine ⟨fun d hd => ?_, fun d hd e he => ?_⟩
  · obtain ⟨x, rfl, _⟩ := nm_of' (h d hd)
    exact ⟨(fun z => nomatch z), Nat.zero_le _⟩
  · obtain ⟨x, rfl, _⟩ := nm_of' (h d hd)
    obtain ⟨y, rfl, _⟩ := nm_of' (h e he)
    simp [alike]
theorem lt_of {d : PyData} (h : isLt d = true) : ∃ x b, d = .tuple [.str x, .bool b] ∧ nmB x = true := by
  rw [let_eq, Bool.and_eq_true, Bool.and_eq_true] at h
  obtain ⟨a, b, rfl⟩ := pair_of h.1
  obtain ⟨x, ex, hx⟩ := nm_of' h.2.1
  have h3 : isTr b = true := h.2.2
  cases b with
  | bool c =>
    have ex' : a = .str x := ex
    subst ex'
    exact ⟨x, c, rfl, hx⟩
  | _ => cases h3
theorem dats_strs' {H : Hp} {α : Type} (f : α → Str) : ∀ l : List α, DatAll H (l.map fun x => V.str (f x)) (l.map fun x => PyData.str (f x))
  | [] => .nil
  | x :: l => .cons (.str _) (dats_strs' f l)
theorem ok_isAnyClause {f fL fR : Addr} {fd fdL fdR : FuncData} (F : Fun K "is_any_clause" "is_any_clause" sIsAnyClause f fd) (Le : Has K mg "is_letter" sIsLetter ["value"] fL fdL) (GL : FnOk P w K mg base CX0 2 fL fdL ["value"] (spJ isLt))
    (Ri : Has K mg "is_rising" sIsRising ["parts"] fR fdR) (B : Blt mg) : FnOk P w K mg base CX0 3 f fd ["value"] (spJ isCl) := by
  have GR : FnOk P w K mg base CX0 1 fR fdR ["parts"] (spRise K) := ok_isRising Ri.F B
  refine F.ok scIsAnyClause (fun vs H Q E h => ?_) (fun cdv A outer s H vs Q E hr h => ?_)
  · obtain ⟨v, d, rfl, _⟩ := h
    rfl
  · obtain ⟨v, d, rfl, D, li, q⟩ := h
    have hr1 := hr.mono (show 1 ≤ 2 by decide)
    refine ⟨_, pss_cons (ps_if (PW.pt (pw_or (pt_not (pt_val (pe_callB call_isi (by rfl) B.isi (by decide +kernel) (pa_cons (pv 0) (pa_cons (pe_bltn (v := V.ty "tuple") (by rfl) B.tuple (by decide +kernel) rfl) pa_nil)))))
        (pw_or1 (pt_not (pt_val (pe_callB (cr_all rfl) (by rfl) B.all (by decide +kernel) (pa_cons (pe_lc (own := [("part", 1)]) (g := gName 1) (tt := tYes) rfl scIsAnyClause.nd (pi_tup (pv 0))
          (blkOk_by (N := ["value", "part", "letter"]) (sc := defScope sIsAnyClause) (by decide +kernel)) (fun _ _ _ _ _ => pg_name (i := 1) scIsAnyClause.nd rfl (Or.inl rfl)) (fun _ _ _ _ _ => pts_nil)
          (fun _ _ _ _ _ => pe_call GL (by exact hr) (by rfl) Le.g Le.F.kp Le.b .nil pass0 (pa_cons (pv 1) pa_nil))) pa_nil))))))) (pss_one (ps_ret pe_bl)) pss_nil)
      (pss_one (ps_ret (pe_call GR hr1 rfl Ri.g Ri.F.kp Ri.b .nil pass0 (pa_cons (pe_lc (own := [("letter", 2)]) (g := gName 2) (tt := tYes) (te := tOp (rIxT K) (tVar 2) (tC (V.int 0))) rfl scIsAnyClause.nd (pi_tup (pv 0))
          (blkOk_by (N := ["value", "part", "letter"]) (sc := defScope sIsAnyClause) (by decide +kernel)) (fun _ _ _ _ _ => pg_name (i := 2) scIsAnyClause.nd rfl (Or.inl rfl)) (fun _ _ _ _ _ => pts_nil)
          (fun _ _ _ _ _ => by exact pe_ix ix_tup (pv 2) pe_int (fun _ _ => rfl))) pa_nil)))), ?_⟩
    refine ⟨_, rfl, _, _, _, _, isTup d, rfl, .ty _, ty_dat D, kit_ty (kit_tup d), isTup d, rfl, ?_⟩
    cases h : isTup d with
    | false =>
      rw [isCl, h, Bool.false_and] at q
      show if (!false) = true then _ else _
      rw [if_pos (by decide)]
      show if true = true then _ else _
      rw [if_pos rfl]
      exact q H (Same.refl _)
    | true =>
      rw [isCl, h, Bool.true_and] at q
      obtain ⟨ds, rfl⟩ := tup_of h
      obtain ⟨a, xs, rfl, e, Da⟩ := dat_tup D
      obtain ⟨len, lm⟩ := lim_tup li
      show if (!true) = true then _ else _
      rw [if_neg (by decide)]
      refine ⟨_, rfl, a, rfl, ⟨_, SqT.of e⟩, fun D0 hD0 => lc_allD (K := K) (p := isLt) e Da hD0 len (fun i x d H4 Qe hd S4 Dx k => ?_) gName_mono (fun H5 e5 S5 => ?_)⟩
      · exact ⟨rfl, _, rfl, x, d, rfl, Dx, lm d (List.mem_of_getElem? hd), k⟩
      · refine ⟨D0, _, rfl, SqL.of e5, _, rfl, ?_⟩
        rw [all_id]
        have q1 : ∀ H', Same H H' → Q (.bl (ds.all isLt && riseB (ds.map fun x => .str (fstS x)))) H' := q
        cases h2 : ds.all isLt with
        | false =>
          rw [h2] at q1
          show if (!false) = true then _ else _
          rw [if_pos (by decide)]
          exact q1 H5 S5
        | true =>
          rw [h2] at q1
          show if (!true) = true then _ else _
          rw [if_neg (by decide)]
          refine ⟨_, rfl, a, rfl, ⟨_, SqT.of (S5 _ _ e)⟩, fun D1 hD1 => lc_mapD (K := K) (f := fun x => V.str (fstS x)) (S5 _ _ e) (DatAll.same S5 Da) hD1 len (fun i x d H4 Qe hd S4 Dx k => ?_) gName_mono (fun H6 e6 S6 => ?_)⟩
          · obtain ⟨z, b, rfl, _⟩ := lt_of (List.all_eq_true.mp h2 d (List.mem_of_getElem? hd))
            obtain ⟨t, ys, rfl, et, Dt⟩ := dat_tup Dx
            obtain ⟨u1, u2, rfl, D1', D2'⟩ := dats_two Dt
            cases dat_str D1'
            exact ⟨rfl, _, rfl, t, _, 0, _, rfl, rfl, SqT.of et, rfl, k H4 (Same.refl _)⟩
          · exact ⟨D1, _, _, rfl, .inl (SqL.of e6), dats_strs' fstS ds, likes_strs fstS ds, by rw [List.length_map]; exact len, fun H' S => q1 H' ((S5.trans S6).trans S)⟩
def spNames : Sp := fun vs H Q _ => ∃ (v : V) (d : PyData) (n : Nat), vs = [v, .int (n : Nat)] ∧ Dat H v d ∧ lim d = true ∧ ∀ H', Same H H' → Q (.bl (isNames n d)) H'
def spTruthsN : Sp := fun vs H Q _ => ∃ (v : V) (d : PyData) (n : Nat), vs = [v, .int (n : Nat)] ∧ Dat H v d ∧ lim d = true ∧ ∀ H', Same H H' → Q (.bl (truthsB n d)) H'
theorem ok_areNames {f fU fN fR : Addr} {fd fdU fdN fdR : FuncData} (F : Fun K "are_names" "are_names" sAreNames f fd) (Tu : Has K mg "is_tuple" sIsTuple ["value", "most"] fU fdU) (Nn : Has K mg "is_name" sIsName ["value"] fN fdN)
    (Ri : Has K mg "is_rising" sIsRising ["parts"] fR fdR) (B : Blt mg) (C : Cst mg) : FnOk P w K mg base CX0 2 f fd ["value", "most"] spNames := by
  have GU : FnOk P w K mg base CX0 1 fU fdU ["value", "most"] spTupN := ok_isTuple Tu.F B
  have GN : FnOk P w K mg base CX0 1 fN fdN ["value"] (spJ isNm) := ok_isName Nn.F B C
  have GR : FnOk P w K mg base CX0 1 fR fdR ["parts"] (spRise K) := ok_isRising Ri.F B
  refine F.ok scAreNames (fun vs H Q E h => ?_) (fun cdv A outer s H vs Q E hr h => ?_)
  · obtain ⟨v, d, n, rfl, _⟩ := h
    rfl
  · obtain ⟨v, d, n, rfl, D, li, q⟩ := h
    refine ⟨_, pss_cons (ps_if (PW.pt (pw_or (pt_not (pt_val (pe_call GU hr rfl Tu.g Tu.F.kp Tu.b .nil pass0 (pa_cons (pv 0) (pa_cons (pv 1) pa_nil)))))
        (pw_or1 (pt_not (pt_val (pe_callB (cr_all rfl) (by rfl) B.all (by decide +kernel) (pa_cons (pe_lc (own := [("part", 2)]) (g := gName 2) (tt := tYes) rfl scAreNames.nd (pi_tup (pv 0))
          (blkOk_by (N := ["value", "most", "part"]) (sc := defScope sAreNames) (by decide +kernel)) (fun _ _ _ _ _ => pg_name (i := 2) scAreNames.nd rfl (Or.inl rfl)) (fun _ _ _ _ _ => pts_nil)
          (fun _ _ _ _ _ => pe_call GN (by exact hr) (by rfl) Nn.g Nn.F.kp Nn.b .nil pass0 (pa_cons (pv 2) pa_nil))) pa_nil))))))) (pss_one (ps_ret pe_bl)) pss_nil)
      (pss_one (ps_ret (pe_call GR hr rfl Ri.g Ri.F.kp Ri.b .nil pass0 (pa_cons (pv 0) pa_nil)))), ?_⟩
    refine ⟨_, rfl, _, rfl, v, d, n, rfl, D, li, fun H1 S1 => ⟨_, rfl, ?_⟩⟩
    have eN : isNames n d = ((isTup d && decide ((parts d).length ≤ n)) && ((parts d).all isNm && riseB (parts d))) := by rw [isNames, Bool.and_assoc]
    rw [eN] at q
    cases h : (isTup d && decide ((parts d).length ≤ n)) with
    | false =>
      rw [h, Bool.false_and] at q
      show if (!false) = true then _ else _
      rw [if_pos (by decide)]
      show if true = true then _ else _
      rw [if_pos rfl]
      exact q H1 S1
    | true =>
      rw [h, Bool.true_and] at q
      rw [Bool.and_eq_true] at h
      obtain ⟨ds, rfl⟩ := tup_of h.1
      obtain ⟨a, xs, rfl, e, Da⟩ := dat_tup D
      obtain ⟨len, lm⟩ := lim_tup li
      show if (!true) = true then _ else _
      rw [if_neg (by decide)]
      refine ⟨_, rfl, a, rfl, ⟨_, SqT.of (S1 _ _ e)⟩, fun D0 hD0 => lc_allD (K := K) (p := isNm) (S1 _ _ e) (DatAll.same S1 Da) hD0 len (fun i x d H4 Qe hd S4 Dx k => ?_) gName_mono (fun H5 e5 S5 => ?_)⟩
      · exact ⟨rfl, _, rfl, x, d, rfl, Dx, lm d (List.mem_of_getElem? hd), k⟩
      · refine ⟨D0, _, rfl, SqL.of e5, _, rfl, ?_⟩
        rw [all_id]
        have S15 := S1.trans S5
        have q1 : ∀ H', Same H H' → Q (.bl (ds.all isNm && riseB ds)) H' := q
        cases h2 : ds.all isNm with
        | false =>
          rw [h2] at q1
          show if (!false) = true then _ else _
          rw [if_pos (by decide)]
          exact q1 H5 S15
        | true =>
          rw [h2] at q1
          show if (!true) = true then _ else _
          rw [if_neg (by decide)]
          exact ⟨_, rfl, a, _, ds, rfl, .inr (SqT.of (S15 _ _ e)), DatAll.same S15 Da, likes_nms h2, len, fun H' S => q1 H' (S15.trans S)⟩
theorem ok_areTruths {f fT : Addr} {fd fdT : FuncData} (F : Fun K "are_truths" "are_truths" sAreTruths f fd) (Tr : Has K mg "is_truth" sIsTruth ["value"] fT fdT) (B : Blt mg) : FnOk P w K mg base CX0 2 f fd ["value", "many"] spTruthsN := by
  have GT : FnOk P w K mg base CX0 1 fT fdT ["value"] (spJ isTr) := ok_isTruth Tr.F
  refine F.ok scAreTruths (fun vs H Q E h => ?_) (fun cdv A outer s H vs Q E hr h => ?_)
  · obtain ⟨v, d, n, rfl, _⟩ := h
    rfl
  · obtain ⟨v, d, n, rfl, D, li, q⟩ := h
    refine ⟨_, pss_cons (ps_if (PW.pt (pw_or (pt_not (pt_val (pe_callB call_isi (by rfl) B.isi (by decide +kernel) (pa_cons (pv 0) (pa_cons (pe_bltn (v := V.ty "tuple") (by rfl) B.tuple (by decide +kernel) rfl) pa_nil)))))
        (pw_or1 (pt_cmpR op_ne (pe_callB call_len_seq (by rfl) B.len (by decide +kernel) (pa_cons (pv 0) pa_nil)) (pv 1) (nomark _))))) (pss_one (ps_ret pe_bl)) pss_nil)
      (pss_one (ps_ret (pe_callB (cr_all rfl) (by rfl) B.all (by decide +kernel) (pa_cons (pe_lc (own := [("part", 2)]) (g := gName 2) (tt := tYes) rfl scAreTruths.nd (pi_tup (pv 0))
          (blkOk_by (N := ["value", "many", "part"]) (sc := defScope sAreTruths) (by decide +kernel)) (fun _ _ _ _ _ => pg_name (i := 2) scAreTruths.nd rfl (Or.inl rfl)) (fun _ _ _ _ _ => pts_nil)
          (fun _ _ _ _ _ => pe_call GT (by exact hr) (by rfl) Tr.g Tr.F.kp Tr.b .nil pass0 (pa_cons (pv 2) pa_nil))) pa_nil)))), ?_⟩
    refine ⟨_, rfl, _, _, _, _, isTup d, rfl, .ty _, ty_dat D, kit_ty (kit_tup d), isTup d, rfl, ?_⟩
    cases h : isTup d with
    | false =>
      rw [truthsB, h, Bool.false_and] at q
      show if (!false) = true then _ else _
      rw [if_pos (by decide)]
      show if true = true then _ else _
      rw [if_pos rfl]
      exact q H (Same.refl _)
    | true =>
      rw [truthsB, h, Bool.true_and] at q
      obtain ⟨ds, rfl⟩ := tup_of h
      obtain ⟨a, xs, rfl, e, Da⟩ := dat_tup D
      obtain ⟨len, lm⟩ := lim_tup li
      show if (!true) = true then _ else _
      rw [if_neg (by decide)]
      refine ⟨_, rfl, _, _, rfl, .inr (SqT.of e), _, rfl, rfl, _, rfl, ?_⟩
      rw [Da.len]
      have q1 : ∀ H', Same H H' → Q (.bl (decide (ds.length = n) && ds.all isTr)) H' := q
      by_cases hn : ds.length = n
      · rw [decide_eq_true hn] at q1
        refine iteNS (by rw [hn]) ?_
        refine ⟨_, rfl, a, rfl, ⟨_, SqT.of e⟩, fun D0 hD0 => lc_allD (K := K) (p := isTr) e Da hD0 len (fun i x d H4 Qe hd S4 Dx k => ?_) gName_mono (fun H5 e5 S5 => ?_)⟩
        · exact ⟨rfl, _, rfl, x, d, rfl, Dx, lm d (List.mem_of_getElem? hd), k⟩
        · refine ⟨D0, _, rfl, SqL.of e5, ?_⟩
          rw [all_id]
          exact q1 H5 S5
      · rw [decide_eq_false hn] at q1
        rw [show decide (V.int ((ds.length : Nat) : Int) = V.int ((n : Nat) : Int)) = false from decide_eq_false fun y => hn (by injection y with y; omega)]
        show if (!false) = true then _ else _
        rw [if_pos (by decide)]
        exact q1 H (Same.refl _)
end
end S1

set_option Elab.async false
set_option linter.all false
set_option maxRecDepth 100000
set_option maxHeartbeats 1000000
/-! owns, clauses of names, sayings: any data asked -/
namespace S1
open PySem PySem.W PySem.Spec PyProof.Rows L2
theorem iteNS {b : Bool} {A B : Prop} (h : b = true) (k : B) : if (!b) = true then A else B := by
  subst h
  rw [if_neg (by decide)]
  exact k
theorem dats_strs_eq {H : Hp} : ∀ {xs : List V} {l : List Str}, DatAll H xs (l.map PyData.str) → xs = l.map V.str
  | _, [], h => by cases h; rfl
  | _, x :: l, h => by
    cases h with
    | cons a b =>
      cases a
      rw [dats_strs_eq b, List.map_cons]
theorem ltr_row {H : Hp} {x : V} {l : Ltr} (D : Dat H x (ltD l)) : ∃ b, x = .ref b ∧ H b = some (.tup [.str l.1, .bl l.2]) := by
  obtain ⟨b, xs, rfl, e, h⟩ := dat_tup (ds := [.str l.1, .bool l.2]) D
  cases h with
  | cons h1 h =>
    cases h1
    cases h with
    | cons h2 h =>
      cases h2
      cases h
      exact ⟨b, rfl, e⟩
theorem get_map {α : Type} {f : α → PyData} {l : List α} {i : Nat} {d : PyData} (h : (l.map f)[i]? = some d) : ∃ x, l[i]? = some x ∧ d = f x := by
  rw [List.getElem?_map] at h
  obtain ⟨x, hx, e⟩ := Option.map_eq_some_iff.mp h
  exact ⟨x, hx, e.symm⟩
def spSightB : Sp := fun vs H Q _ => ∃ (v u : V) (d : PyData) (ps : List Str), vs = [v, u] ∧ Dat H v d ∧ lim d = true ∧ Dat H u (nmsD ps) ∧ ps.length ≤ 6 ∧ ∀ H', Same H H' → Q (.bl (isSightB ps d)) H'
def spOwnB : Sp := fun vs H Q _ => ∃ (v u : V) (d : PyData) (ps : List Str), vs = [v, u] ∧ Dat H v d ∧ lim d = true ∧ Dat H u (nmsD ps) ∧ ps.length ≤ 6 ∧ ∀ H', Same H H' → Q (.bl (isOwnB ps d)) H'
def spOwnsB : Sp := fun vs H Q _ => ∃ (v u : V) (d : PyData) (ps : List Str), vs = [v, u] ∧ Dat H v d ∧ lim d = true ∧ Dat H u (nmsD ps) ∧ ps.length ≤ 6 ∧ ∀ H', Same H H' → Q (.bl (areOwnsB ps d)) H'
def spClO : Sp := fun vs H Q _ => ∃ (v : V) (b : Addr) (d : PyData) (ns : List Str), vs = [v, .ref b] ∧ Dat H v d ∧ lim d = true ∧ H b = some (.lst (ns.map V.str)) ∧ ∀ H', Same H H' → Q (.bl (isClO ns d)) H'
def spClsB : Sp := fun vs H Q _ => ∃ (v : V) (b : Addr) (d : PyData) (ns : List Str), vs = [v, .ref b] ∧ Dat H v d ∧ lim d = true ∧ H b = some (.lst (ns.map V.str)) ∧ ∀ H', Same H H' → Q (.bl (areClsB ns d)) H'
def spNamesB : Sp := fun vs H Q _ => ∃ (u v : V) (ps : List Str) (ds : List PyData), vs = [u, v] ∧ Dat H u (nmsD ps) ∧ Dat H v (.tuple ds) ∧ (∀ d ∈ ds, ∃ x e, d = .tuple [.str x, e]) ∧ ps.length ≤ 6 ∧ ds.length ≤ 8 ∧ ∀ (l : Addr) (H' : Hp), Same H H' → H l = none → H' l = some (.lst ((ps ++ ds.map fstS).map V.str)) → Q (.ref l) H'
theorem own_of {ps : List Str} {d : PyData} (h : isOwnB ps d = true) : ∃ x e, d = .tuple [.str x, e] ∧ nmB x = true ∧ x ∉ ps ∧ isSightB ps e = true := by
  cases d with
  | tuple ds =>
    match ds, h with
    | [a, b], h =>
      have h : (isNm a && (!decide (strOf a ∈ ps) && isSightB ps b)) = true := h
      rw [Bool.and_eq_true, Bool.and_eq_true] at h
      obtain ⟨x, rfl, hx⟩ := nm_of' h.1
      have h2 := h.2.1
      rw [Bool.not_eq_true', decide_eq_false_iff_not] at h2
      exact ⟨x, b, rfl, hx, h2, h.2.2⟩
  | _ => cases h
theorem names_of' {n : Nat} {d : PyData} (h : isNames n d = true) : ∃ xs : List Str, d = nmsD xs ∧ xs.length ≤ n ∧ (∀ x ∈ xs, nmB x = true) := by
  rw [isNames, Bool.and_eq_true, Bool.and_eq_true, decide_eq_true_eq, Bool.and_eq_true] at h
  obtain ⟨ds, rfl⟩ := tup_of h.1
  have h2 := h.2.2.1
  have e : ds = (ds.map strOf).map PyData.str := by
    rw [List.map_map]
    conv => lhs; rw [← List.map_id ds]
    refine List.map_congr_left fun d hd => ?_
    obtain ⟨x, rfl, _⟩ := nm_of' (List.all_eq_true.mp h2 d hd)
    rfl
  refine ⟨ds.map strOf, by rw [nmsD, ← e], by rw [List.length_map]; exact h.2.1, fun x hx => ?_⟩
  obtain ⟨d, hd, rfl⟩ := List.mem_map.mp hx
  exact List.all_eq_true.mp h2 d hd |> fun z => by
    obtain ⟨y, rfl, hy⟩ := nm_of' z
    exact hy
theorem strs_nms (xs : List Str) : strsOf (nmsD xs) = xs := by
  show (xs.map PyData.str).map strOf = xs
  rw [List.map_map]
  exact List.map_id xs
section
variable {P : Program} {w : World} {K : PySem.W.Frag} {mg : Str → Option Value} {base : Heap}
theorem scIsSight : FnScope ["value", "picks", "name"] ["value", "picks"] (defScope sIsSight) := ⟨rfl, rfl, rfl, by decide +kernel, rfl, by decide +kernel, by decide +kernel⟩
theorem scIsOwn : FnScope ["value", "picks"] ["value", "picks"] (defScope sIsOwn) := ⟨rfl, rfl, rfl, by decide +kernel, rfl, by decide +kernel, by decide +kernel⟩
theorem scAreOwns : FnScope ["value", "picks", "part", "own"] ["value", "picks"] (defScope sAreOwns) := ⟨rfl, rfl, rfl, by decide +kernel, rfl, by decide +kernel, by decide +kernel⟩
theorem scIsClauseOver : FnScope ["value", "names", "letter"] ["value", "names"] (defScope sIsClauseOver) := ⟨rfl, rfl, rfl, by decide +kernel, rfl, by decide +kernel, by decide +kernel⟩
theorem scAreClauses : FnScope ["value", "names", "part"] ["value", "names"] (defScope sAreClauses) := ⟨rfl, rfl, rfl, by decide +kernel, rfl, by decide +kernel, by decide +kernel⟩
theorem scNamesOf : FnScope ["picks", "owns", "own"] ["picks", "owns"] (defScope sNamesOf) := ⟨rfl, rfl, rfl, by decide +kernel, rfl, by decide +kernel, by decide +kernel⟩
theorem ok_isSight {f fA : Addr} {fd fdA : FuncData} (F : Fun K "is_sight" "is_sight" sIsSight f fd) (An : Has K mg "are_names" sAreNames ["value", "most"] fA fdA) (GA : FnOk P w K mg base CX0 2 fA fdA ["value", "most"] spNames) (B : Blt mg) :
    FnOk P w K mg base CX0 3 f fd ["value", "picks"] spSightB := by
  refine F.ok scIsSight (fun vs H Q E h => ?_) (fun cdv A outer s H vs Q E hr h => ?_)
  · obtain ⟨v, u, d, ps, rfl, _⟩ := h
    rfl
  · obtain ⟨v, u, d, ps, rfl, D, li, Dp, lp, q⟩ := h
    refine ⟨_, pss_one (ps_ret (pe_and (pe_call GA hr rfl An.g An.F.kp An.b .nil pass0 (pa_cons (pv 0) (pa_cons (pe_callB call_len_seq (by rfl) B.len (by decide +kernel) (pa_cons (pv 1) pa_nil)) pa_nil)))
      (pe_one (pe_callB (cr_all rfl) (by rfl) B.all (by decide +kernel) (pa_cons (pe_lc (own := [("name", 2)]) (g := gName 2) (tt := tYes) (te := tOp (rIn K false) (tVar 2) (tVar 1)) rfl scIsSight.nd (pi_tup (pv 0))
        (blkOk_by (N := ["value", "picks", "name"]) (sc := defScope sIsSight) (by decide +kernel)) (fun _ _ _ _ _ => pg_name (i := 2) scIsSight.nd rfl (Or.inl rfl)) (fun _ _ _ _ _ => pts_nil)
        (fun _ _ _ _ _ => by exact pe_cmpR op_in_seq (pv 2) (pv 1) (by with_unfolding_all rfl))) pa_nil))))), ?_⟩
    obtain ⟨b, ups, rfl, eb, Db⟩ := dat_tup (ds := ps.map PyData.str) Dp
    cases dats_strs_eq Db
    refine ⟨_, rfl, _, rfl, _, _, rfl, .inr (SqT.of eb), v, d, ps.length, by rw [List.length_map]; rfl, D, li, fun H' S => ⟨isNames ps.length d, rfl, ?_⟩⟩
    rw [show isSightB ps d = (isNames ps.length d && (parts d).all fun x => decide (strOf x ∈ ps)) from rfl] at q
    cases h : isNames ps.length d with
    | false =>
      rw [h, Bool.false_and] at q
      show if false = true then _ else _
      rw [if_neg (by decide)]
      exact q H' S
    | true =>
      rw [h, Bool.true_and] at q
      obtain ⟨xs, rfl, lx, _⟩ := names_of' h
      obtain ⟨a, us, rfl, ea, Da⟩ := dat_tup (ds := xs.map PyData.str) D
      show if true = true then _ else _
      rw [if_pos rfl]
      refine ⟨_, rfl, a, rfl, ⟨_, SqT.of (S _ _ ea)⟩, fun D0 hD0 => lc_allD (K := K) (p := fun x => decide (strOf x ∈ ps)) (S _ _ ea) (DatAll.same S Da) hD0 (by rw [List.length_map]; omega) (fun i x d H4 Qe hd S4 Dx k => ?_) gName_mono (fun H5 e5 S5 => ?_)⟩
      · obtain ⟨y, hy, rfl⟩ := get_map hd
        cases dat_str Dx
        refine ⟨rfl, _, rfl, _, rfl, b, _, rfl, .inr (SqT.of (S4 _ _ (S _ _ eb))), rfl, flat_strs ps, ?_⟩
        show Qe (.bl (inV (V.str y) (ps.map V.str))) H4
        rw [inV_str]
        exact k H4 (Same.refl _)
      · refine ⟨D0, _, rfl, SqL.of e5, ?_⟩
        rw [all_id]
        exact q H5 (S.trans S5)
theorem ok_isOwn {f fP fN fS : Addr} {fd fdP fdN fdS : FuncData} (F : Fun K "is_own" "is_own" sIsOwn f fd) (Pr : Has K mg "is_pair" sIsPair ["value"] fP fdP) (Nn : Has K mg "is_name" sIsName ["value"] fN fdN) (Si : Has K mg "is_sight" sIsSight ["value", "picks"] fS fdS)
    (GS : FnOk P w K mg base CX0 3 fS fdS ["value", "picks"] spSightB) (B : Blt mg) (C : Cst mg) : FnOk P w K mg base CX0 4 f fd ["value", "picks"] spOwnB := by
  have GP : FnOk P w K mg base CX0 1 fP fdP ["value"] (spJ pairB) := ok_isPair Pr.F B
  have GN : FnOk P w K mg base CX0 1 fN fdN ["value"] (spJ isNm) := ok_isName Nn.F B C
  refine F.ok scIsOwn (fun vs H Q E h => ?_) (fun cdv A outer s H vs Q E hr h => ?_)
  · obtain ⟨v, u, d, ps, rfl, _⟩ := h
    rfl
  · obtain ⟨v, u, d, ps, rfl, D, li, Dp, lp, q⟩ := h
    have hr1 := hr.mono (show 1 ≤ 3 by decide)
    refine ⟨_, pss_cons (ps_if (PW.pt (pw_or (pt_not (pt_val (pe_call GP hr1 rfl Pr.g Pr.F.kp Pr.b .nil pass0 (pa_cons (pv 0) pa_nil)))) (pw_or (pt_not (pt_val (pe_call GN hr1 rfl Nn.g Nn.F.kp Nn.b .nil pass0 (pa_cons (pe_ix ix_tup (pv 0) pe_int (fun _ _ => rfl)) pa_nil))))
        (pw_or1 (pt_cmpR op_in_seq (pe_ix ix_tup (pv 0) pe_int (fun _ _ => rfl)) (pv 1) (by with_unfolding_all rfl)))))) (pss_one (ps_ret pe_bl)) pss_nil)
      (pss_one (ps_ret (pe_call GS hr rfl Si.g Si.F.kp Si.b .nil pass0 (pa_cons (pe_ix ix_tup (pv 0) pe_int (fun _ _ => rfl)) (pa_cons (pv 1) pa_nil))))), ?_⟩
    refine ⟨_, rfl, v, d, rfl, D, li, fun H1 S1 => ⟨pairB d, rfl, ?_⟩⟩
    cases h : pairB d with
    | false =>
      have e : isOwnB ps d = false := by
        cases z : isOwnB ps d with
        | false => rfl
        | true =>
          obtain ⟨x, e, rfl, _⟩ := own_of z
          cases h
      rw [e] at q
      show if (!false) = true then _ else _
      rw [if_pos (by decide)]
      show if true = true then _ else _
      rw [if_pos rfl]
      exact q H1 S1
    | true =>
      obtain ⟨a, b, rfl⟩ := pair_of h
      obtain ⟨t, xs, rfl, et, Da⟩ := dat_tup D
      obtain ⟨x, y, rfl, D1, D2⟩ := dats_two Da
      obtain ⟨l1, l2⟩ := lim_two li
      have q1 : ∀ H', Same H H' → Q (.bl (isNm a && (!decide (strOf a ∈ ps) && isSightB ps b))) H' := q
      show if (!true) = true then _ else _
      rw [if_neg (by decide)]
      refine ⟨_, rfl, t, _, 0, _, rfl, rfl, SqT.of (S1 _ _ et), rfl, x, a, rfl, D1.same S1, l1, fun H2 S2 => ⟨isNm a, rfl, ?_⟩⟩
      have S12 := S1.trans S2
      cases h2 : isNm a with
      | false =>
        rw [h2] at q1
        show if (!false) = true then _ else _
        rw [if_pos (by decide)]
        show if true = true then _ else _
        rw [if_pos rfl]
        exact q1 H2 S12
      | true =>
        rw [h2, Bool.true_and] at q1
        obtain ⟨z, rfl, _⟩ := nm_of' h2
        cases dat_str D1
        obtain ⟨b', ups, rfl, eb, Db⟩ := dat_tup (ds := ps.map PyData.str) Dp
        cases dats_strs_eq Db
        show if (!true) = true then _ else _
        rw [if_neg (by decide)]
        refine ⟨_, rfl, t, _, 0, _, rfl, rfl, SqT.of (S12 _ _ et), rfl, _, rfl, b', _, rfl, .inr (SqT.of (S12 _ _ eb)), rfl, flat_strs ps, _, rfl, ?_⟩
        have q2 : ∀ H', Same H H' → Q (.bl (!decide (z ∈ ps) && isSightB ps b)) H' := q1
        show if inV (V.str z) (ps.map V.str) = true then _ else _
        rw [inV_str]
        cases h3 : decide (z ∈ ps) with
        | true =>
          rw [h3] at q2
          rw [if_pos rfl]
          exact q2 H2 S12
        | false =>
          rw [h3] at q2
          rw [if_neg (by decide)]
          exact ⟨_, rfl, t, _, 1, _, rfl, rfl, SqT.of (S12 _ _ et), rfl, _, rfl, y, .ref b', b, ps, rfl, D2.same S12, l2, Dp.same S12, lp, fun H3 S3 => q2 H3 (S12.trans S3)⟩
theorem lts_of : ∀ ds : List PyData, ds.all isLt = true → ∃ cl : List Ltr, ds = cl.map ltD
  | [], _ => ⟨[], rfl⟩
  | d :: ds, h => by
    rw [List.all_cons, Bool.and_eq_true] at h
    obtain ⟨cl, rfl⟩ := lts_of ds h.2
    obtain ⟨x, b, rfl, _⟩ := lt_of h.1
    exact ⟨(x, b) :: cl, rfl⟩
theorem cl_of {d : PyData} (h : isCl d = true) : ∃ cl : List Ltr, d = clD cl := by
  rw [isCl, Bool.and_eq_true, Bool.and_eq_true] at h
  obtain ⟨ds, rfl⟩ := tup_of h.1
  obtain ⟨cl, e⟩ := lts_of ds h.2.1
  exact ⟨cl, by rw [e]; rfl⟩
theorem likes_cls {ds : List PyData} (h : ∀ d ∈ ds, ∃ cl : List Ltr, d = clD cl) : Likes ds := by
  refine ⟨fun d hd => ?_, fun d hd e he => ?_⟩
  · obtain ⟨cl, rfl⟩ := h d hd
    exact ⟨(fun z => nomatch z), by have := depth_cl cl; omega⟩
  · obtain ⟨x, rfl⟩ := h d hd
    obtain ⟨y, rfl⟩ := h e he
    exact alike_cl x y
theorem ok_isClauseOver {f fA : Addr} {fd fdA : FuncData} (F : Fun K "is_clause_over" "is_clause_over" sIsClauseOver f fd) (An : Has K mg "is_any_clause" sIsAnyClause ["value"] fA fdA) (GA : FnOk P w K mg base CX0 3 fA fdA ["value"] (spJ isCl)) (B : Blt mg) :
    FnOk P w K mg base CX0 4 f fd ["value", "names"] spClO := by
  refine F.ok scIsClauseOver (fun vs H Q E h => ?_) (fun cdv A outer s H vs Q E hr h => ?_)
  · obtain ⟨v, b, d, ns, rfl, _⟩ := h
    rfl
  · obtain ⟨v, b, d, ns, rfl, D, li, eb, q⟩ := h
    refine ⟨_, pss_one (ps_ret (pe_and (pe_call GA hr rfl An.g An.F.kp An.b .nil pass0 (pa_cons (pv 0) pa_nil))
      (pe_one (pe_callB (cr_all rfl) (by rfl) B.all (by decide +kernel) (pa_cons (pe_lc (own := [("letter", 2)]) (g := gName 2) (tt := tYes) (te := tOp (rIn K false) (tOp (rIxT K) (tVar 2) (tC (V.int 0))) (tVar 1)) rfl scIsClauseOver.nd (pi_tup (pv 0))
        (blkOk_by (N := ["value", "names", "letter"]) (sc := defScope sIsClauseOver) (by decide +kernel)) (fun _ _ _ _ _ => pg_name (i := 2) scIsClauseOver.nd rfl (Or.inl rfl)) (fun _ _ _ _ _ => pts_nil)
        (fun _ _ _ _ _ => by exact pe_cmpR op_in_seq (pe_ix ix_tup (pv 2) pe_int (fun _ _ => rfl)) (pv 1) (by with_unfolding_all rfl))) pa_nil))))), ?_⟩
    refine ⟨_, rfl, v, d, rfl, D, li, fun H' S => ⟨isCl d, rfl, ?_⟩⟩
    rw [show isClO ns d = (isCl d && (parts d).all fun x => decide (fstS x ∈ ns)) from rfl] at q
    cases h : isCl d with
    | false =>
      rw [h, Bool.false_and] at q
      show if false = true then _ else _
      rw [if_neg (by decide)]
      exact q H' S
    | true =>
      rw [h, Bool.true_and] at q
      obtain ⟨cl, rfl⟩ := cl_of h
      obtain ⟨a, us, rfl, ea, Da⟩ := dat_tup (ds := cl.map ltD) D
      obtain ⟨len, _⟩ := lim_tup (ds := cl.map ltD) li
      show if true = true then _ else _
      rw [if_pos rfl]
      refine ⟨_, rfl, a, rfl, ⟨_, SqT.of (S _ _ ea)⟩, fun D0 hD0 => lc_allD (K := K) (p := fun x => decide (fstS x ∈ ns)) (S _ _ ea) (DatAll.same S Da) hD0 len (fun i x d H4 Qe hd S4 Dx k => ?_) gName_mono (fun H5 e5 S5 => ?_)⟩
      · obtain ⟨l, hl, rfl⟩ := get_map hd
        obtain ⟨t, rfl, et⟩ := ltr_row Dx
        refine ⟨rfl, _, rfl, t, _, 0, _, rfl, rfl, SqT.of et, rfl, _, rfl, b, _, rfl, .inl (SqL.of (S4 _ _ (S _ _ eb))), rfl, flat_strs ns, ?_⟩
        show Qe (.bl (inV (V.str l.1) (ns.map V.str))) H4
        rw [inV_str]
        exact k H4 (Same.refl _)
      · refine ⟨D0, _, rfl, SqL.of e5, ?_⟩
        rw [all_id]
        exact q H5 (S.trans S5)
theorem ok_areClauses {f fU fO fR : Addr} {fd fdU fdO fdR : FuncData} (F : Fun K "are_clauses" "are_clauses" sAreClauses f fd) (Tu : Has K mg "is_tuple" sIsTuple ["value", "most"] fU fdU) (Ov : Has K mg "is_clause_over" sIsClauseOver ["value", "names"] fO fdO)
    (Ri : Has K mg "is_rising" sIsRising ["parts"] fR fdR) (GO : FnOk P w K mg base CX0 4 fO fdO ["value", "names"] spClO) (B : Blt mg) (C : Cst mg) : FnOk P w K mg base CX0 5 f fd ["value", "names"] spClsB := by
  have GU : FnOk P w K mg base CX0 1 fU fdU ["value", "most"] spTupN := ok_isTuple Tu.F B
  have GR : FnOk P w K mg base CX0 1 fR fdR ["parts"] (spRise K) := ok_isRising Ri.F B
  obtain ⟨t1, c1⟩ := C.clauses
  refine F.ok scAreClauses (fun vs H Q E h => ?_) (fun cdv A outer s H vs Q E hr h => ?_)
  · obtain ⟨v, b, d, ns, rfl, _⟩ := h
    rfl
  · obtain ⟨v, b, d, ns, rfl, D, li, eb, q⟩ := h
    have hr1 := hr.mono (show 1 ≤ 4 by decide)
    refine ⟨_, pss_cons (ps_if (pt_not (pt_val (pe_call GU hr1 rfl Tu.g Tu.F.kp Tu.b .nil pass0 (pa_cons (pv 0) (pa_cons (pe_glob (v := V.int 40) rfl c1 ⟨_, rfl⟩) pa_nil))))) (pss_one (ps_ret pe_bl)) pss_nil)
      (pss_one (ps_ret (pe_and (pe_callB (cr_all rfl) (by rfl) B.all (by decide +kernel) (pa_cons (pe_lc (own := [("part", 2)]) (g := gName 2) (tt := tYes) rfl scAreClauses.nd (pi_tup (pv 0))
          (blkOk_by (N := ["value", "names", "part"]) (sc := defScope sAreClauses) (by decide +kernel)) (fun _ _ _ _ _ => pg_name (i := 2) scAreClauses.nd rfl (Or.inl rfl)) (fun _ _ _ _ _ => pts_nil)
          (fun _ _ _ _ _ => pe_call GO (by exact hr) (by rfl) Ov.g Ov.F.kp Ov.b .nil pass0 (pa_cons (pv 2) (pa_cons (pv 1) pa_nil)))) pa_nil))
        (pe_one (pe_call GR hr1 rfl Ri.g Ri.F.kp Ri.b .nil pass0 (pa_cons (pv 0) pa_nil)))))), ?_⟩
    refine ⟨_, rfl, v, d, 40, rfl, D, li, fun H1 S1 => ⟨_, rfl, ?_⟩⟩
    rw [show areClsB ns d = ((isTup d && decide ((parts d).length ≤ 40)) && ((parts d).all (isClO ns) && riseB (parts d))) by rw [areClsB, Bool.and_assoc]] at q
    cases h : (isTup d && decide ((parts d).length ≤ 40)) with
    | false =>
      rw [h, Bool.false_and] at q
      show if (!false) = true then _ else _
      rw [if_pos (by decide)]
      exact q H1 S1
    | true =>
      rw [h, Bool.true_and] at q
      rw [Bool.and_eq_true] at h
      obtain ⟨ds, rfl⟩ := tup_of h.1
      obtain ⟨a, us, rfl, ea, Da⟩ := dat_tup D
      obtain ⟨len, lm⟩ := lim_tup li
      show if (!true) = true then _ else _
      rw [if_neg (by decide)]
      refine ⟨_, rfl, a, rfl, ⟨_, SqT.of (S1 _ _ ea)⟩, fun D0 hD0 => lc_allD (K := K) (p := isClO ns) (S1 _ _ ea) (DatAll.same S1 Da) hD0 len (fun i x d H4 Qe hd S4 Dx k => ?_) gName_mono (fun H5 e5 S5 => ?_)⟩
      · exact ⟨rfl, _, rfl, _, rfl, x, b, d, ns, rfl, Dx, lm d (List.mem_of_getElem? hd), S4 _ _ (S1 _ _ eb), k⟩
      · have q1 : ∀ H', Same H H' → Q (.bl (ds.all (isClO ns) && riseB ds)) H' := q
        have S15 := S1.trans S5
        refine ⟨D0, _, rfl, SqL.of e5, _, rfl, ?_⟩
        rw [all_id]
        cases h2 : ds.all (isClO ns) with
        | false =>
          rw [h2] at q1
          show if false = true then _ else _
          rw [if_neg (by decide)]
          exact q1 H5 S15
        | true =>
          rw [h2] at q1
          show if true = true then _ else _
          rw [if_pos rfl]
          refine ⟨_, rfl, a, us, ds, rfl, .inr (SqT.of (S15 _ _ ea)), DatAll.same S15 Da, likes_cls fun d hd => ?_, len, fun H' S => q1 H' (S15.trans S)⟩
          have z := List.all_eq_true.mp h2 d hd
          rw [isClO, Bool.and_eq_true] at z
          exact cl_of z.1
end
end S1

set_option Elab.async false
set_option linter.all false
set_option maxRecDepth 100000
set_option maxHeartbeats 4000000
/-! enumerate(t), t a tuple, as what a for walks -/
namespace L2
open PySem PySem.Spec PyProof.Rows
theorem meets_enum_new {v : Value} {o : Obj} {H : Heap → Prop} (B : Begins v o H) :
    Meets (Builtin.«enumerate.__new__» ⟨[.type "enumerate", v], []⟩) (fun _ R s => H s.heap ∧
      R (.ok (.ret (.ref (s.heap.push o).objs.size))) { s with heap := (s.heap.push o).push { cls := .type "enumerate", data := .fields #[.none, .bool false, .ref s.heap.objs.size, rawInt 0, .none, .none] } }) :=
  .of_wp fun prog w A R s h => by
    obtain ⟨hp, g, d, tk, os⟩ := s; obtain ⟨h1, h⟩ := h
    have hsub := sub_enumerate
    have q1 : ∀ {A' : Around} {E : Value → Shared → Prop} {Q : Value → Shared → Prop}, Q (.ref hp.objs.size) ⟨hp.push o, g, d, tk, os⟩ → wpAny (model prog w) A' (pyIter v) Q E ⟨hp, g, d, tk, os⟩ :=
      fun q => B.iter prog w _ _ ⟨hp, g, d, tk, os⟩ _ h1 q
    wp_walk using q1
    refine wpAny_stack_any fun st => wpAny_pure ?_
    split
    · rename_i c _ _ _ _ _
      cases (c == Value.type "enumerate")
      · wp_walk using q1
        exact ⟨_, rfl, h⟩
      · wp_walk using q1
        exact ⟨_, rfl, h⟩
    · wp_walk using q1
      exact ⟨_, rfl, h⟩
theorem enum_new {prog : Program} {w : World} {A : Around} {E : Value → Shared → Prop} {s : Shared} {v : Value} {o : Obj} {H : Heap → Prop} {Q : Value → Shared → Prop} (B : Begins v o H) (h1 : H s.heap)
    (h : ∀ h', IsEnum h' (s.heap.objs.size + 1) s.heap.objs.size 0 .none → h'.get? s.heap.objs.size = some o → h'.objs.size = s.heap.objs.size + 2 →
      (∀ b o, s.heap.get? b = some o → h'.get? b = some o) → Q (.ref (s.heap.objs.size + 1)) { s with heap := h' }) :
    wpAny (model prog w) A (call (.type "enumerate") [v]) Q E s := by
  refine callType_new F.called_enumerate (by decide) (F.typeCall_enumerate_1 _) (F.newCall_enumerate_1 _) (fun obj => F.args_object_init_2 obj _) F.entry_enumerate_new
    (meets_enum_new B) ⟨h1, ?_⟩
  have hz : (s.heap.push o).objs.size = s.heap.objs.size + 1 := Heap.size_push ..
  show _ ∧ _
  rw [hz]
  have he : IsEnum ((s.heap.push o).push { cls := .type "enumerate", data := .fields #[.none, .bool false, .ref s.heap.objs.size, rawInt 0, .none, .none] }) (s.heap.objs.size + 1) s.heap.objs.size 0 .none := by
    have := Heap.get?_push_size (s.heap.push o) (o := { cls := .type "enumerate", data := .fields #[.none, .bool false, .ref s.heap.objs.size, rawInt 0, .none, .none] }) rfl
    rw [hz] at this; exact this
  refine ⟨⟨_, he, rfl⟩, h _ he (Heap.get?_push_of_some _ (Heap.get?_push_size _ B.free)) (by rw [Heap.size_push, hz]) fun b o x => Heap.get?_push_of_some _ (Heap.get?_push_of_some _ x)⟩
/-- the tuple at a as it stands, item by item, with the index, in new pairs -/
def IteT (K : PySem.W.Frag) (a : Addr) : It :=
  ⟨fun i H => ∃ (xs : List V) (x : V), SqT K H a xs ∧ xs[i]? = some x, fun i H v H' => ∃ T x, v = .ref T ∧ H T = none ∧ H' = upd H T (.tup [.int (i : Nat), x]) ∧ ∀ xs, SqT K H a xs → xs[i]? = some x, fun i H => ∃ xs : List V, SqT K H a xs ∧ xs.length ≤ i⟩
theorem turn_enumT {P : Program} {w : World} {K : PySem.W.Frag} {elts : List Expr} {kk : Nat} {tpos : Pos} (a e it : Addr) (hea : e ≠ a) (hai : a ≠ it) (hne : e ≠ it) :
    Turn P w K (.Tuple elts kk tpos) (IteT K a) [e, it] e (fun i h => (∃ old, IsEnum h e it ((i : Nat) : Int) old) ∧ h.IsTupleIter it a i) where
  mem := by simp
  obj := fun i h st b hb => by
    obtain ⟨⟨old, he⟩, ⟨o, ho, hc, hd⟩⟩ := st
    have e' : b = e ∨ b = it := by simpa using hb
    rcases e' with z | z
    · rw [z]; exact ⟨_, he, fun v q => nomatch q⟩
    · rw [z]; exact ⟨o, ho, fun v q => by rw [hd] at q; cases q⟩
  keep := fun i h h' st k => let ⟨⟨old, he⟩, hi⟩ := st; ⟨⟨old, k e (by simp) _ he⟩, hi.at fun o q => k it (by simp) o q⟩
  item := by
    intro X hP hw hK hc i pins s σ H E I hf st hg
    subst hP hw hK
    obtain ⟨⟨old, he⟩, hit⟩ := st
    obtain ⟨xs, x, hq, hx⟩ := hg
    obtain ⟨its, rv, p, hz⟩ := I.tuple hq
    obtain ⟨u, hu, ru⟩ := rv.get hx
    have hel : e < s.heap.objs.size := Heap.lt_size he
    have hil : it < s.heap.objs.size := by obtain ⟨_, q, _⟩ := hit; exact Heap.lt_size q
    have D : Draws X.prog X.w X.A.in1 it [it, a] its.toArray.size (fun i v => its.toArray[i]? = some v) (fun i h => h.IsTupleIter it a i ∧ h.IsTuple a its.toArray) := Draws.tuple (A := X.A.in1) (I.ok.hd hc) it a hai _
    have il : i < its.toArray.size := by
      rw [List.size_toArray]
      exact (List.getElem?_eq_some_iff.mp hu).1
    refine wpAny_pyNext_enum_itemD D he ⟨hit, p⟩ il hne (by simp [hea, hne]) fun y h' tk hy ho hit' hT hsz hk => ?_
    have ey : y = u := by
      have h2 : its.toArray[i]? = some u := by simpa using hu
      rw [h2] at hy
      exact (Option.some.inj hy).symm
    subst ey
    refine ⟨_, rfl, wpAny_letOwnedTupleGo_enum (s := { s with heap := h', toks := tk + 1 }) ho fun h'' he' sb => ?_⟩
    have hT2 : h''.get? s.heap.objs.size = some { cls := .type "tuple", data := .seq #[.int i tk, y] } := (sb.2 _ (Nat.ne_of_gt hel)).trans hT
    have new : ObjOk X.prog X.w (upd H s.heap.objs.size (.tup [.int (i : Nat), x])) h'' s.heap.objs.size (.tup [.int (i : Nat), x]) :=
      ⟨by show 2 ≤ sizeLine; decide, [.int i tk, y], .cons ⟨_, rfl⟩ (.cons ru .nil), ⟨_, hT2, rfl, _, rfl⟩⟩
    have I1 : Inv X pins σ (upd H s.heap.objs.size (.tup [.int (i : Nat), x])) { s with heap := h'', toks := tk + 1 } :=
      I.turnedNew (ch := [e, it]) (fun b ob hb q => (sb.2 b (fun z => hb (by simp [z]))).trans (hk b ob (fun z => hb (by simp [z])) (fun z => hb (by simp [z])) q)) hf (Nat.le_refl _) new
    refine ⟨.ref s.heap.objs.size, _, I1, rfl, ⟨_, x, rfl, I.hok.fresh (Nat.le_refl _), rfl, fun ys hy => by rw [I.tuple_inj hy hq]; exact hx⟩, ⟨⟨y, ?_⟩, hit'.1.at fun o q => (sb.2 it (Ne.symm hne)).trans q⟩, fun b hb => ?_⟩
    · have e1 : ((i + 1 : Nat) : Int) = (i : Int) + 1 := by omega
      rw [e1]; exact he'
    · have hb' : b < s.heap.objs.size := by
        have e' : b = e ∨ b = it := by simpa using hb
        rcases e' with z | z
        · rw [z]; exact hel
        · rw [z]; exact hil
      rw [upd_ne (Nat.ne_of_lt hb')]
      exact (hf b hb).1
  done := by
    intro X hP hw hK hc i pins s σ H E I hf st hg
    subst hP hw hK
    obtain ⟨⟨old, he⟩, hit⟩ := st
    obtain ⟨xs, hq, hx⟩ := hg
    obtain ⟨its, rv, p, hz⟩ := I.tuple hq
    have hl := rv.length
    obtain ⟨f0, f1, f2, f3, f4, f5⟩ := hf it (by simp)
    have D : Draws X.prog X.w X.A.in1 it [it, a] 0 (fun _ _ => True) (fun _ h => h.IsTupleIter it a i ∧ h.IsTuple a its.toArray) := {
      live := fun _ _ st => let ⟨o, ho, _⟩ := st.1; ⟨o, ho⟩
      frame := fun _ _ _ st hk => ⟨st.1.at fun o e => hk it (by simp) o e, st.2.at fun o e => hk a (by simp) o e⟩
      item := fun j s Q E hj st hQ => absurd hj (Nat.not_lt_zero _)
      done := fun s Q E st hE => wpAny_nextOf_tuple_end (A := X.A.in1) (I.ok.hd hc) st.1 st.2 (by simp; omega) hE }
    exact wpAny_pyNext_enum_endD D he ⟨hit, p⟩ fun h' eb => ⟨rfl, I.turned (t' := s.toks) (fun b o hb q => eb b o hb q) f0 f1 f3 f4 f5⟩
  self := fun A i s Q E st h => let ⟨⟨_, he⟩, _⟩ := st; wpAny_pyIter_enum he h
def iEnumT (K : PySem.W.Frag) (ta : TA) : TI := fun σ H R => ta σ H fun vs H1 => ∃ a xs, vs = [.ref a] ∧ SqT K H1 a xs ∧ R (IteT K a) H1
theorem pi_enumT {X : Cx} {e : Expr} {ta : TA} {p pos tpos : Pos} {elts : List Expr} {kk : Nat} (hg : Gl X "enumerate") (hm : X.mg "enumerate" = none) (ha : PA X [e] ta) (hs : starEach [e] X.env = [(false, eval e X.env)] := by rfl) :
    PI X (.Tuple elts kk tpos) (.Call (.Name "enumerate" p) [e] [] pos) (iEnumT X.K ta) := by
  refine ⟨fun pins s σ H R I h => ?_⟩
  refine Call_ (ld_blt I hg hm boot_enumerate (PyProof.Rows.callWith_type1 (thn (ha.run pos pins s σ H _ I h) fun us s1 ⟨vs, H1, I1, r1, q1⟩ => ?_) hs rfl))
  obtain ⟨a, xs, ex, hq, q⟩ := q1
  subst ex
  cases r1 with
  | cons r rr =>
    cases rr
    cases r
    obtain ⟨its, rv, p', hz⟩ := I1.tuple hq
    have hal : a < s1.heap.objs.size := by
      obtain ⟨_, q, _⟩ := p'
      exact Heap.lt_size q
    refine enum_new (begins_tuple a its.toArray) p' fun h' he hit hsz hk => wpAny_pyIter_enum he ?_
    have I2 : Inv X pins σ H1 { s1 with heap := h' } := I1.kept (t' := s1.toks) hk
    refine ⟨s1.heap.objs.size + 1, [s1.heap.objs.size + 1, s1.heap.objs.size], _, _, H1, rfl, I2, turn_enumT a (s1.heap.objs.size + 1) s1.heap.objs.size (Nat.ne_of_gt (Nat.lt_succ_of_lt hal)) (Nat.ne_of_lt hal) (Nat.succ_ne_self _), ⟨⟨.none, he⟩, ⟨_, hit, rfl, rfl⟩⟩, fun b hb => ?_, q⟩
    have e' : b = s1.heap.objs.size + 1 ∨ b = s1.heap.objs.size := by simpa using hb
    have hle : s1.heap.objs.size ≤ b := by
      rcases e' with z | z
      · rw [z]; exact Nat.le_add_right _ _
      · rw [z]; exact Nat.le_refl _
    exact I1.fpOk hle (I1.hok.fresh hle)
/-- a comprehension over enumerate(tuple) -/
theorem lc_enumT {K : PySem.W.Frag} {a : Addr} {xs : List V} {g : TG} {tt : TT} {te : TE} {vs : List Nat} {σ : L2.St} {H1 : Hp} {D : Addr} {Qd : Hp → Prop} (Pv : Nat → Hp → Prop) (h0 : Pv 0 (upd H1 D (.lst []))) (hl : ∀ i H, i ≤ xs.length → Pv i H → SqT K H a xs)
    (hs : ∀ (i : Nat) (x : V) (H : Hp) (T : Addr), xs[i]? = some x → Pv i H → H T = none → g (.ref T) (wipe σ vs) (upd H T (.tup [.int (i : Nat), x])) fun σ2 H2 => wipe σ2 vs = wipe σ vs ∧ tt σ2 H2 fun b H3 =>
      if b = true then te σ2 H3 fun y H4 => ∃ acc, H4 D = some (.lst acc) ∧ acc.length < sizeLine ∧ Pv (i + 1) (upd H4 D (.lst (acc ++ [y]))) else Pv (i + 1) H3) (hd : ∀ H, Pv xs.length H → Qd H) :
    ∃ W : Nat → Nat → Hp → Prop, (∃ m, W 0 m (upd H1 D (.lst []))) ∧ ∀ i m H, W i m H →
      ((IteT K a).stop i H ∧ Qd H) ∨ ((IteT K a).go i H ∧ ∃ Nx : Hp → Prop, (∀ H', Nx H' → ∃ m', m' < m ∧ W (i + 1) m' H') ∧ ∀ x H', (IteT K a).yld i H x H' → g x (wipe σ vs) H' fun σ2 H2 => wipe σ2 vs = wipe σ vs ∧ tt σ2 H2 fun b H3 =>
        if b = true then te σ2 H3 fun y H4 => ∃ acc, H4 D = some (.lst acc) ∧ acc.length < sizeLine ∧ Nx (upd H4 D (.lst (acc ++ [y]))) else Nx H3) := by
  refine ⟨fun i m H => m = xs.length - i ∧ i ≤ xs.length ∧ Pv i H, ⟨xs.length, rfl, Nat.zero_le _, h0⟩, ?_⟩
  rintro i m H ⟨rfl, hi, p⟩
  have q := hl i H hi p
  by_cases hlt : i < xs.length
  · refine .inr ⟨⟨xs, xs[i], q, List.getElem?_eq_getElem hlt⟩, Pv (i + 1), fun H' p' => ⟨xs.length - (i + 1), by omega, rfl, hlt, p'⟩, ?_⟩
    rintro x H' ⟨T, y, rfl, hT, rfl, hy⟩
    exact hs i y H T (hy xs q) p hT
  · obtain rfl : i = xs.length := by omega
    exact .inl ⟨⟨xs, q, Nat.le_refl _⟩, hd H p⟩
/-- a for over enumerate(tuple) -/
theorem for_enumT {K : PySem.W.Frag} {a : Addr} {xs : List V} {g : TG} {tb : TS} {D : Ends} {σ : L2.St} {H : Hp} (Pv : Nat → L2.St → Hp → Prop) (h0 : Pv 0 σ H) (hl : ∀ i σ H, i ≤ xs.length → Pv i σ H → SqT K H a xs)
    (hs : ∀ (i : Nat) (x : V) (σ : L2.St) (H : Hp) (T : Addr), xs[i]? = some x → Pv i σ H → H T = none → g (.ref T) σ (upd H T (.tup [.int (i : Nat), x])) fun σ2 H2 => tb { D with nx := Pv (i + 1), ct := Pv (i + 1), bk := D.nx } σ2 H2) (hd : ∀ σ H, Pv xs.length σ H → D.nx σ H) :
    ∃ W : Nat → Nat → L2.St → Hp → Prop, (∃ m, W 0 m σ H) ∧ ∀ i m σ H, W i m σ H →
      ((IteT K a).stop i H ∧ D.nx σ H) ∨ ((IteT K a).go i H ∧ ∃ N : L2.St → Hp → Prop, (∀ σ' H', N σ' H' → ∃ m', m' < m ∧ W (i + 1) m' σ' H') ∧ ∀ x H', (IteT K a).yld i H x H' → g x σ H' fun σ2 H2 => tb { D with nx := N, ct := N, bk := D.nx } σ2 H2) := by
  refine ⟨fun i m σ H => m = xs.length - i ∧ i ≤ xs.length ∧ Pv i σ H, ⟨xs.length, by simp, Nat.zero_le _, h0⟩, ?_⟩
  rintro i m σ H ⟨rfl, hi, p⟩
  have q := hl i σ H hi p
  by_cases hlt : i < xs.length
  · refine .inr ⟨⟨xs, xs[i], q, List.getElem?_eq_getElem hlt⟩, Pv (i + 1), fun σ' H' p' => ⟨xs.length - (i + 1), by omega, rfl, hlt, p'⟩, ?_⟩
    rintro x H' ⟨T, y, rfl, hT, rfl, hy⟩
    exact hs i y σ H T (hy xs q) p hT
  · obtain rfl : i = xs.length := by omega
    exact .inl ⟨⟨xs, q, Nat.le_refl _⟩, hd σ H p⟩
end L2

set_option Elab.async false
set_option linter.all false
set_option maxRecDepth 100000
set_option maxHeartbeats 1000000
/-! sayings, clauses, plays, answers: any data asked by the program -/
namespace S1
open PySem PySem.W PySem.Spec PyProof.Rows L2 RZ
section
variable {X : Cx}
/-- if c: ..., where c is known to be False -/
def tIfNo (tc : TT) (u : TS) : TS := fun D σ H => tc σ H fun b H1 => b = false ∧ u D σ H1
end
def sizeD (d : PyData) : Int := 1 * 2 ^ ((sndLen d : Nat) : Int).toNat
theorem sizeD_sum (ds : List PyData) : (ds.map sizeD).sum = (((ds.map fun x => 2 ^ sndLen x).sum : Nat) : Int) := by
  induction ds with
  | nil => rfl
  | cons d ds ih =>
    rw [List.map_cons, List.sum_cons, ih, List.map_cons, List.sum_cons]
    show (1 : Int) * 2 ^ ((sndLen d : Nat) : Int).toNat + _ = _
    rw [Int.toNat_natCast, Int.one_mul]
    push_cast
    rfl
section
variable {P : Program} {w : World} {K : PySem.W.Frag} {mg : Str → Option Value} {base : Heap}
theorem ok_areOwns {f fU fO fR : Addr} {fd fdU fdO fdR : FuncData} (F : Fun K "are_owns" "are_owns" sAreOwns f fd) (Tu : Has K mg "is_tuple" sIsTuple ["value", "most"] fU fdU) (Ow : Has K mg "is_own" sIsOwn ["value", "picks"] fO fdO)
    (Ri : Has K mg "is_rising" sIsRising ["parts"] fR fdR) (GO : FnOk P w K mg base CX0 4 fO fdO ["value", "picks"] spOwnB) (B : Blt mg) (C : Cst mg) : FnOk P w K mg base CX0 5 f fd ["value", "picks"] spOwnsB := by
  have GU : FnOk P w K mg base CX0 1 fU fdU ["value", "most"] spTupN := ok_isTuple Tu.F B
  have GR : FnOk P w K mg base CX0 1 fR fdR ["parts"] (spRise K) := ok_isRising Ri.F B
  obtain ⟨t1, c1⟩ := C.owns
  obtain ⟨t2, c2⟩ := C.copies
  refine F.ok scAreOwns (fun vs H Q E h => ?_) (fun cdv A outer s H vs Q E hr h => ?_)
  · obtain ⟨v, u, d, ps, rfl, _⟩ := h
    rfl
  · obtain ⟨v, u, d, ps, rfl, D, li, Dp, lp, q⟩ := h
    have hr1 := hr.mono (show 1 ≤ 4 by decide)
    refine ⟨_, pss_cons (ps_if (PW.pt (pw_or (pt_not (pt_val (pe_call GU hr1 rfl Tu.g Tu.F.kp Tu.b .nil pass0 (pa_cons (pv 0) (pa_cons (pe_glob (v := V.int 8) rfl c1 ⟨_, rfl⟩) pa_nil)))))
        (pw_or1 (pt_not (pt_val (pe_callB (cr_all rfl) (by rfl) B.all (by decide +kernel) (pa_cons (pe_lc (own := [("part", 2)]) (g := gName 2) (tt := tYes) rfl scAreOwns.nd (pi_tup (pv 0))
          (blkOk_by (N := ["value", "picks", "part", "own"]) (sc := defScope sAreOwns) (by decide +kernel)) (fun _ _ _ _ _ => pg_name (i := 2) scAreOwns.nd rfl (Or.inl rfl)) (fun _ _ _ _ _ => pts_nil)
          (fun _ _ _ _ _ => pe_call GO (by exact hr) (by rfl) Ow.g Ow.F.kp Ow.b .nil pass0 (pa_cons (pv 2) (pa_cons (pv 1) pa_nil)))) pa_nil))))))) (pss_one (ps_ret pe_bl)) pss_nil)
      (pss_cons (ps_if (pt_not (pt_val (pe_call GR hr1 rfl Ri.g Ri.F.kp Ri.b .nil pass0 (pa_cons (pe_lc (own := [("own", 3)]) (g := gName 3) (tt := tYes) (te := tOp (rIxT K) (tVar 3) (tC (V.int 0))) rfl scAreOwns.nd (pi_tup (pv 0))
          (blkOk_by (N := ["value", "picks", "part", "own"]) (sc := defScope sAreOwns) (by decide +kernel)) (fun _ _ _ _ _ => pg_name (i := 3) scAreOwns.nd rfl (Or.inl rfl)) (fun _ _ _ _ _ => pts_nil)
          (fun _ _ _ _ _ => by exact pe_ix ix_tup (pv 3) pe_int (fun _ _ => rfl))) pa_nil)))) (pss_one (ps_ret pe_bl)) pss_nil)
      (pss_one (ps_ret (pe_cmpR op_le (pe_callB (cr_sum rfl) (by rfl) B.sum (by decide +kernel) (pa_cons (pe_lc (own := [("own", 3)]) (g := gName 3) (tt := tYes)
            (te := tOp (rI CPow fun i j => V.int (i * 2 ^ j.toNat)) (tC (V.int 1)) (tCB (fun xs H Q => ∃ p ys, xs = [V.ref p] ∧ (SqL K H p ys ∨ SqT K H p ys) ∧ Q (V.int ys.length) H) (tCons (tOp (rIxT K) (tVar 3) (tC (V.int 1))) tNil))) rfl scAreOwns.nd (pi_tup (pv 0))
          (blkOk_by (N := ["value", "picks", "part", "own"]) (sc := defScope sAreOwns) (by decide +kernel)) (fun _ _ _ _ _ => pg_name (i := 3) scAreOwns.nd rfl (Or.inl rfl)) (fun _ _ _ _ _ => pts_nil)
          (fun _ _ _ _ _ => by exact pe_op op_shl pe_int (pe_callB call_len_seq (by rfl) B.len (by decide +kernel) (pa_cons (pe_ix ix_tup (pv 3) pe_int (fun _ _ => rfl)) pa_nil)))) pa_nil)) (pe_glob (v := V.int 120) rfl c2 ⟨_, rfl⟩) (nomark _))))), ?_⟩
    refine ⟨_, rfl, v, d, 8, rfl, D, li, fun H1 S1 => ⟨_, rfl, ?_⟩⟩
    rw [show areOwnsB ps d = ((isTup d && decide ((parts d).length ≤ 8)) && ((parts d).all (isOwnB ps) && (riseB ((parts d).map fun x => .str (fstS x)) && decide (((parts d).map fun x => 2 ^ sndLen x).sum ≤ 120)))) by rw [areOwnsB, Bool.and_assoc]] at q
    cases h : (isTup d && decide ((parts d).length ≤ 8)) with
    | false =>
      rw [h, Bool.false_and] at q
      show if (!false) = true then _ else _
      rw [if_pos (by decide)]
      show if true = true then _ else _
      rw [if_pos rfl]
      exact q H1 S1
    | true =>
      rw [h, Bool.true_and] at q
      rw [Bool.and_eq_true] at h
      obtain ⟨ds, rfl⟩ := tup_of h.1
      obtain ⟨a, us, rfl, ea, Da⟩ := dat_tup D
      obtain ⟨len, lm⟩ := lim_tup li
      have q1 : ∀ H', Same H H' → Q (.bl (ds.all (isOwnB ps) && (riseB (ds.map fun x => .str (fstS x)) && decide ((ds.map fun x => 2 ^ sndLen x).sum ≤ 120)))) H' := q
      show if (!true) = true then _ else _
      rw [if_neg (by decide)]
      refine ⟨_, rfl, a, rfl, ⟨_, SqT.of (S1 _ _ ea)⟩, fun D0 hD0 => lc_allD (K := K) (p := isOwnB ps) (S1 _ _ ea) (DatAll.same S1 Da) hD0 len (fun i x d H4 Qe hd S4 Dx k => ?_) gName_mono (fun H5 e5 S5 => ?_)⟩
      · exact ⟨rfl, _, rfl, _, rfl, x, u, d, ps, rfl, Dx, lm d (List.mem_of_getElem? hd), Dp.same (S1.trans S4), lp, k⟩
      · have S15 := S1.trans S5
        refine ⟨D0, _, rfl, SqL.of e5, _, rfl, ?_⟩
        rw [all_id]
        cases h2 : ds.all (isOwnB ps) with
        | false =>
          rw [h2] at q1
          show if (!false) = true then _ else _
          rw [if_pos (by decide)]
          exact q1 H5 S15
        | true =>
          rw [h2, Bool.true_and] at q1
          show if (!true) = true then _ else _
          rw [if_neg (by decide)]
          refine ⟨_, rfl, a, rfl, ⟨_, SqT.of (S15 _ _ ea)⟩, fun D1 hD1 => lc_mapD (K := K) (f := fun x => V.str (fstS x)) (S15 _ _ ea) (DatAll.same S15 Da) hD1 len (fun i x d H4 Qe hd S4 Dx k => ?_) gName_mono (fun H6 e6 S6 => ?_)⟩
          · obtain ⟨z, e, rfl, _⟩ := own_of (List.all_eq_true.mp h2 d (List.mem_of_getElem? hd))
            obtain ⟨t, ys, rfl, et, Dt⟩ := dat_tup Dx
            obtain ⟨u1, u2, rfl, D1', D2'⟩ := dats_two Dt
            cases dat_str D1'
            exact ⟨rfl, _, rfl, t, _, 0, _, rfl, rfl, SqT.of et, rfl, k H4 (Same.refl _)⟩
          · refine ⟨D1, _, _, rfl, .inl (SqL.of e6), dats_strs' fstS ds, likes_strs fstS ds, by rw [List.length_map]; exact len, fun H7 S7 => ⟨_, rfl, ?_⟩⟩
            have S17 := (S15.trans S6).trans S7
            cases h3 : riseB (ds.map fun x => .str (fstS x)) with
            | false =>
              rw [h3] at q1
              show if (!false) = true then _ else _
              rw [if_pos (by decide)]
              exact q1 H7 S17
            | true =>
              rw [h3, Bool.true_and] at q1
              show if (!true) = true then _ else _
              rw [if_neg (by decide)]
              refine ⟨_, rfl, a, rfl, ⟨_, SqT.of (S17 _ _ ea)⟩, fun D2 hD2 => lc_mapD (K := K) (f := fun x => V.int (sizeD x)) (S17 _ _ ea) (DatAll.same S17 Da) hD2 len (fun i x d H4 Qe hd S4 Dx k => ?_) gName_mono (fun H9 e9 S9 => ?_)⟩
              · obtain ⟨z, e, rfl, _, _, hs⟩ := own_of (List.all_eq_true.mp h2 d (List.mem_of_getElem? hd))
                obtain ⟨t, ys, rfl, et, Dt⟩ := dat_tup Dx
                obtain ⟨u1, u2, rfl, D1', D2'⟩ := dats_two Dt
                cases dat_str D1'
                rw [isSightB, Bool.and_eq_true] at hs
                obtain ⟨xs, rfl, lx, _⟩ := names_of' hs.1
                obtain ⟨b2, us2, rfl, eb2, Db2⟩ := dat_tup (ds := xs.map PyData.str) D2'
                cases dats_strs_eq Db2
                have ez : sizeD (.tuple [.str z, nmsD xs]) = 1 * 2 ^ ((xs.map V.str).length : Int).toNat := by
                  show (1 : Int) * 2 ^ (((xs.map PyData.str).length : Nat) : Int).toNat = _
                  rw [List.length_map, List.length_map]
                rw [ez] at k
                exact ⟨rfl, _, rfl, t, _, 1, _, rfl, rfl, SqT.of et, rfl, b2, _, rfl, .inr (SqT.of eb2), _, _, rfl, rfl, ⟨by omega, by rw [List.length_map]; omega, by decide⟩, k H4 (Same.refl _)⟩
              · refine ⟨D2, ds.map sizeD, rfl, SqL.of (by rw [List.map_map]; exact e9), _, _, rfl, rfl, ?_⟩
                rw [sizeD_sum]
                have en : decide ((((ds.map fun x => 2 ^ sndLen x).sum : Nat) : Int) ≤ 120) = decide ((ds.map fun x => 2 ^ sndLen x).sum ≤ 120) := by
                  rw [decide_eq_decide]
                  omega
                show Q (.bl (decide ((((ds.map fun x => 2 ^ sndLen x).sum : Nat) : Int) ≤ 120))) H9
                rw [en]
                exact q1 H9 (S17.trans S9)
theorem ok_namesOf {f : Addr} {fd : FuncData} (F : Fun K "names_of" "names_of" sNamesOf f fd) (B : Blt mg) : FnOk P w K mg base CX0 1 f fd ["picks", "owns"] spNamesB := by
  refine F.ok scNamesOf (fun vs H Q E h => ?_) (fun cdv A outer s H vs Q E hr h => ?_)
  · obtain ⟨u, v, ps, ds, rfl, _⟩ := h
    rfl
  · obtain ⟨u, v, ps, ds, rfl, Dp, D, hd0, lp, lo, q⟩ := h
    refine ⟨_, pss_one (ps_ret (pe_op op_cat (pe_callTy call_list_of (by rfl) B.list (by decide +kernel) (pa_cons (pv 0) pa_nil)) (pe_lc (own := [("own", 2)]) (g := gName 2) (tt := tYes) (te := tOp (rIxT K) (tVar 2) (tC (V.int 0))) rfl scNamesOf.nd (pi_tup (pv 1))
          (blkOk_by (N := ["picks", "owns", "own"]) (sc := defScope sNamesOf) (by decide +kernel)) (fun _ _ _ _ _ => pg_name (i := 2) scNamesOf.nd rfl (Or.inl rfl)) (fun _ _ _ _ _ => pts_nil)
          (fun _ _ _ _ _ => by exact pe_ix ix_tup (pv 2) pe_int (fun _ _ => rfl))))), ?_⟩
    obtain ⟨b, ups, rfl, eb, Db⟩ := dat_tup (ds := ps.map PyData.str) Dp
    cases dats_strs_eq Db
    obtain ⟨a, us, rfl, ea, Da⟩ := dat_tup D
    refine ⟨_, rfl, b, _, rfl, .inr (SqT.of eb), fun l1 hl1 => ?_⟩
    have S1 : Same H (upd H l1 (.lst (ps.map V.str))) := same_new hl1
    have e1 : upd H l1 (.lst (ps.map V.str)) l1 = some (.lst (ps.map V.str)) := upd_same
    generalize upd H l1 (.lst (ps.map V.str)) = H1 at S1 e1 ⊢
    refine ⟨_, rfl, a, rfl, ⟨_, SqT.of (S1 _ _ ea)⟩, fun D1 hD1 => lc_mapD (K := K) (f := fun x => V.str (fstS x)) (S1 _ _ ea) (DatAll.same S1 Da) hD1 (by omega) (fun i x d H4 Qe hd S4 Dx k => ?_) gName_mono (fun H6 e6 S6 => ?_)⟩
    · obtain ⟨z, e, rfl⟩ := hd0 d (List.mem_of_getElem? hd)
      obtain ⟨t, ys, rfl, et, Dt⟩ := dat_tup Dx
      obtain ⟨u1, u2, rfl, D1', D2'⟩ := dats_two Dt
      cases dat_str D1'
      exact ⟨rfl, _, rfl, t, _, 0, _, rfl, rfl, SqT.of et, rfl, k H4 (Same.refl _)⟩
    · refine ⟨_, _, _, _, rfl, rfl, S6 _ _ e1, e6, ?_, fun l hl => ?_⟩
      · rw [List.length_map, List.length_map]
        exact Nat.le_of_lt (small1000 (by omega))
      · refine q l _ ((S1.trans S6).trans (same_new hl)) ((S1.trans S6).free hl) ?_
        rw [upd_same, List.map_append, List.map_map]
        rfl
theorem scFitsSaying : FnScope ["value", "picks", "owns", "clauses"] ["value"] (defScope sFitsSaying) := ⟨rfl, rfl, rfl, by decide +kernel, rfl, by decide +kernel, by decide +kernel⟩
theorem three_of {d : PyData} (h : isTup d = true) (l : (parts d).length = 3) : ∃ p o c, d = .tuple [p, o, c] := by
  obtain ⟨ds, rfl⟩ := tup_of h
  match ds, l with
  | [p, o, c], _ => exact ⟨p, o, c, rfl⟩
theorem say_no {d : PyData} (h : (isTup d && decide ((parts d).length = 3)) = false) : sayB d = false := by
  cases d with
  | tuple ds =>
    match ds, h with
    | [], _ => rfl
    | [_], _ => rfl
    | [_, _], _ => rfl
    | [a, b, c], h => exact absurd h (by simp [isTup, parts])
    | a :: b :: c :: d :: r, _ => rfl
  | _ => rfl
theorem ok_fitsSaying {f fA fO fC fN : Addr} {fd fdA fdO fdC fdN : FuncData} (F : Fun K "fits_saying" "fits_saying" sFitsSaying f fd) (An : Has K mg "are_names" sAreNames ["value", "most"] fA fdA) (Ow : Has K mg "are_owns" sAreOwns ["value", "picks"] fO fdO)
    (Cl : Has K mg "are_clauses" sAreClauses ["value", "names"] fC fdC) (No : Has K mg "names_of" sNamesOf ["picks", "owns"] fN fdN) (GA : FnOk P w K mg base CX0 2 fA fdA ["value", "most"] spNames) (GO : FnOk P w K mg base CX0 5 fO fdO ["value", "picks"] spOwnsB)
    (GC : FnOk P w K mg base CX0 5 fC fdC ["value", "names"] spClsB) (B : Blt mg) (C : Cst mg) : FnOk P w K mg base CX0 6 f fd ["value"] (spJ sayB) := by
  have GN : FnOk P w K mg base CX0 1 fN fdN ["picks", "owns"] spNamesB := ok_namesOf No.F B
  obtain ⟨t1, c1⟩ := C.picks
  refine F.ok scFitsSaying (fun vs H Q E h => ?_) (fun cdv A outer s H vs Q E hr h => ?_)
  · obtain ⟨v, d, rfl, _⟩ := h
    rfl
  · obtain ⟨v, d, rfl, D, li, q⟩ := h
    have hr1 := hr.mono (show 1 ≤ 5 by decide)
    have hr2 := hr.mono (show 2 ≤ 5 by decide)
    refine ⟨_, pss_cons (ps_if (PW.pt (pw_or (pt_not (pt_val (pe_callB call_isi (by rfl) B.isi (by decide +kernel) (pa_cons (pv 0) (pa_cons (pe_bltn (v := V.ty "tuple") (by rfl) B.tuple (by decide +kernel) rfl) pa_nil)))))
        (pw_or1 (pt_cmpR op_ne (pe_callB call_len_seq (by rfl) B.len (by decide +kernel) (pa_cons (pv 0) pa_nil)) pe_int (nomark _))))) (pss_one (ps_ret pe_bl)) pss_nil)
      (pss_cons (ps_asg (pv 0) (pg_tup rfl (pgs_cons (pg_name (i := 1) scFitsSaying.nd rfl (.inl rfl)) (pgs_cons (pg_name (i := 2) scFitsSaying.nd rfl (.inl rfl)) (pgs_cons (pg_name (i := 3) scFitsSaying.nd rfl (.inl rfl)) pgs_nil)))))
      (pss_cons (ps_if (PW.pt (pw_or (pt_not (pt_val (pe_call GA hr2 rfl An.g An.F.kp An.b .nil pass0 (pa_cons (pv 1) (pa_cons (pe_glob (v := V.int 6) rfl c1 ⟨_, rfl⟩) pa_nil)))))
        (pw_or1 (pt_not (pt_val (pe_call GO hr rfl Ow.g Ow.F.kp Ow.b .nil pass0 (pa_cons (pv 2) (pa_cons (pv 1) pa_nil)))))))) (pss_one (ps_ret pe_bl)) pss_nil)
      (pss_one (ps_ret (pe_call GC hr rfl Cl.g Cl.F.kp Cl.b .nil pass0 (pa_cons (pv 3) (pa_cons (pe_call GN hr1 rfl No.g No.F.kp No.b .nil pass0 (pa_cons (pv 1) (pa_cons (pv 2) pa_nil))) pa_nil))))))), ?_⟩
    refine ⟨_, rfl, _, _, _, _, isTup d, rfl, .ty _, ty_dat D, kit_ty (kit_tup d), isTup d, rfl, ?_⟩
    cases h : isTup d with
    | false =>
      rw [say_no (by rw [h]; rfl)] at q
      show if (!false) = true then _ else _
      rw [if_pos (by decide)]
      show if true = true then _ else _
      rw [if_pos rfl]
      exact q H (Same.refl _)
    | true =>
      obtain ⟨ds, rfl⟩ := tup_of h
      obtain ⟨a, us, rfl, ea, Da⟩ := dat_tup D
      show if (!true) = true then _ else _
      rw [if_neg (by decide)]
      refine ⟨_, rfl, _, _, rfl, .inr (SqT.of ea), rfl, _, rfl, ?_⟩
      rw [Da.len]
      by_cases hn : ds.length = 3
      · refine iteNS (by rw [hn]; rfl) ?_
        obtain ⟨p, o, c, e⟩ := three_of (d := .tuple ds) rfl hn
        cases e
        cases Da with
        | @cons v1 _ _ _ h1 Da =>
        cases Da with
        | @cons v2 _ _ _ h2 Da =>
        cases Da with
        | @cons v3 _ _ _ h3 Da =>
        cases Da
        obtain ⟨_, lm⟩ := lim_tup li
        have l1 := lm p List.mem_cons_self
        have l2 := lm o (List.mem_cons_of_mem _ List.mem_cons_self)
        have l3 := lm c (List.mem_cons_of_mem _ (List.mem_cons_of_mem _ List.mem_cons_self))
        have q1 : ∀ H', Same H H' → Q (.bl (isNames 6 p && (areOwnsB (strsOf p) o && areClsB (namesD p o) c))) H' := q
        refine ⟨_, rfl, a, _, rfl, SqT.of ea, rfl, _, _, rfl, _, _, rfl, _, _, rfl, rfl, ?_⟩
        refine ⟨_, rfl, v1, p, 6, rfl, h1, l1, fun H1 S1 => ⟨_, rfl, ?_⟩⟩
        cases n1 : isNames 6 p with
        | false =>
          rw [n1] at q1
          show if (!false) = true then _ else _
          rw [if_pos (by decide)]
          show if true = true then _ else _
          rw [if_pos rfl]
          exact q1 H1 S1
        | true =>
          rw [n1, Bool.true_and] at q1
          obtain ⟨xs, rfl, lx, _⟩ := names_of' n1
          rw [strs_nms] at q1
          show if (!true) = true then _ else _
          rw [if_neg (by decide)]
          refine ⟨_, rfl, _, rfl, v2, v1, o, xs, rfl, h2.same S1, l2, h1.same S1, lx, fun H2 S2 => ⟨_, rfl, ?_⟩⟩
          have S12 := S1.trans S2
          cases n2 : areOwnsB xs o with
          | false =>
            rw [n2] at q1
            show if (!false) = true then _ else _
            rw [if_pos (by decide)]
            exact q1 H2 S12
          | true =>
            rw [n2, Bool.true_and] at q1
            have n2' := n2
            rw [areOwnsB, Bool.and_eq_true, Bool.and_eq_true, decide_eq_true_eq, Bool.and_eq_true] at n2'
            obtain ⟨od, rfl⟩ := tup_of n2'.1
            show if (!true) = true then _ else _
            rw [if_neg (by decide)]
            refine ⟨_, rfl, _, rfl, _, rfl, v1, v2, xs, od, rfl, h1.same S12, h2.same S12, fun d hd => ?_, lx, n2'.2.1, fun l H3 S3 _ el => ?_⟩
            · obtain ⟨x, e, rfl, _⟩ := own_of (List.all_eq_true.mp n2'.2.2.1 d hd)
              exact ⟨x, e, rfl⟩
            · have S13 := S12.trans S3
              have en : namesD (nmsD xs) (.tuple od) = xs ++ od.map fstS := by
                show strsOf (nmsD xs) ++ od.map fstS = _
                rw [strs_nms]
              rw [en] at q1
              exact ⟨v3, l, c, _, rfl, h3.same S13, l3, el, fun H4 S4 => q1 H4 (S13.trans S4)⟩
      · rw [say_no (by
          show (true && decide (ds.length = 3)) = false
          rw [decide_eq_false hn]
          rfl)] at q
        rw [show decide (V.int ((ds.length : Nat) : Int) = V.int 3) = false from decide_eq_false fun y => hn (by injection y with y; omega)]
        show if (!false) = true then _ else _
        rw [if_pos (by decide)]
        exact q H (Same.refl _)
end
end S1

set_option Elab.async false
set_option linter.all false
set_option maxRecDepth 100000
set_option maxHeartbeats 1000000
namespace L2
open PySem PySem.Spec PyProof.Rows RZ
/-- a comprehension over zip of two tuples of one length -/
theorem lc_zipT {K : PySem.W.Frag} {a b : Addr} {xs ys : List V} {g : TG} {tt : TT} {te : TE} {vs : List Nat} {σ : L2.St} {H1 : Hp} {D : Addr} {Qd : Hp → Prop} (hl : xs.length = ys.length) (Pv : Nat → Hp → Prop) (h0 : Pv 0 (upd H1 D (.lst []))) (hq : ∀ i H, Pv i H → SqT K H a xs ∧ SqT K H b ys)
    (hs : ∀ (i : Nat) (x y : V) (H : Hp) (T : Addr), xs[i]? = some x → ys[i]? = some y → Pv i H → H T = none → g (.ref T) (wipe σ vs) (upd H T (.tup [x, y])) fun σ2 H2 => wipe σ2 vs = wipe σ vs ∧ tt σ2 H2 fun b H3 =>
      if b = true then te σ2 H3 fun y H4 => ∃ acc, H4 D = some (.lst acc) ∧ acc.length < sizeLine ∧ Pv (i + 1) (upd H4 D (.lst (acc ++ [y]))) else Pv (i + 1) H3) (hd : ∀ H, Pv xs.length H → Qd H) :
    ∃ W : Nat → Nat → Hp → Prop, (∃ m, W 0 m (upd H1 D (.lst []))) ∧ ∀ i m H, W i m H →
      ((ItzT K a b).stop i H ∧ Qd H) ∨ ((ItzT K a b).go i H ∧ ∃ Nx : Hp → Prop, (∀ H', Nx H' → ∃ m', m' < m ∧ W (i + 1) m' H') ∧ ∀ x H', (ItzT K a b).yld i H x H' → g x (wipe σ vs) H' fun σ2 H2 => wipe σ2 vs = wipe σ vs ∧ tt σ2 H2 fun b H3 =>
        if b = true then te σ2 H3 fun y H4 => ∃ acc, H4 D = some (.lst acc) ∧ acc.length < sizeLine ∧ Nx (upd H4 D (.lst (acc ++ [y]))) else Nx H3) := by
  refine ⟨fun i m H => m = xs.length - i ∧ i ≤ xs.length ∧ Pv i H, ⟨xs.length, rfl, Nat.zero_le _, h0⟩, ?_⟩
  rintro i m H ⟨rfl, hi, p⟩
  obtain ⟨qx, qy⟩ := hq i H p
  by_cases hlt : i < xs.length
  · have hx : xs[i]? = some xs[i] := List.getElem?_eq_getElem hlt
    have hlt2 : i < ys.length := by omega
    have hy : ys[i]? = some ys[i] := List.getElem?_eq_getElem hlt2
    refine .inr ⟨⟨xs, ys, _, _, qx, qy, hx, hy⟩, Pv (i + 1), fun H' p' => ⟨xs.length - (i + 1), by omega, rfl, hlt, p'⟩, ?_⟩
    rintro v H' ⟨T, x', y', rfl, hT, rfl, f1, f2⟩
    exact hs i x' y' H T (f1 xs qx) (f2 ys qy) p hT
  · obtain rfl : i = xs.length := by omega
    exact .inl ⟨⟨xs, ys, qx, qy, Or.inl (Nat.le_refl _)⟩, hd H p⟩
end L2
/-! is_saying, is_clause, is_play, is_answers: any data asked -/
namespace S1
open PySem PySem.W PySem.Spec PyProof.Rows L2 RZ
theorem nmB_of {x : Str} (h : Nm x) : nmB x = true := by
  unfold nmB
  rw [decide_eq_true h.lo, decide_eq_true h.hi, Bool.true_and, Bool.true_and, List.all_eq_true]
  exact fun c hc => decide_eq_true (h.az c hc)
theorem riseB_of {α : Type} {f : α → PyData} : ∀ {l : List α}, (l.Pairwise fun x y => dataLt (f x) (f y) = true) → riseB (l.map f) = true
  | [], _ => rfl
  | [_], _ => rfl
  | x :: y :: l, h => by
    obtain ⟨h1, h2⟩ := List.pairwise_cons.mp h
    show (dataLt (f x) (f y) && riseB ((y :: l).map f)) = true
    rw [h1 y List.mem_cons_self, riseB_of h2]
    rfl
theorem riseB_strs {l : List Str} (h : l.Pairwise tlt) : riseB (l.map PyData.str) = true := riseB_of (f := PyData.str) (h.imp fun {x y} z => by
  rw [dataLt_str]
  exact decide_eq_true z)
theorem names_ok {n : Nat} {xs : List Str} (up : xs.Pairwise tlt) (nm : ∀ x ∈ xs, Nm x) (le : xs.length ≤ n) : isNames n (nmsD xs) = true := by
  show (true && (decide ((xs.map PyData.str).length ≤ n) && ((xs.map PyData.str).all isNm && riseB (xs.map PyData.str)))) = true
  have h : (xs.map PyData.str).all isNm = true := by
    rw [List.all_eq_true]
    intro d hd
    obtain ⟨x, hx, rfl⟩ := List.mem_map.mp hd
    exact nmB_of (nm x hx)
  rw [List.length_map, decide_eq_true le, h, riseB_strs up]
  rfl
theorem fst_own (o : Own) : fstS (ownD o) = o.1 := rfl
theorem sndLen_own (o : Own) : sndLen (ownD o) = o.2.length := by
  show (o.2.map PyData.str).length = _
  rw [List.length_map]
theorem own_ok {ps : List Str} {o : Own} (n : Nm o.1) (out : o.1 ∉ ps) (up : o.2.Pairwise tlt) (nm : ∀ x ∈ o.2, Nm x) (sub : ∀ x ∈ o.2, x ∈ ps) (le : o.2.length ≤ ps.length) : isOwnB ps (ownD o) = true := by
  show (nmB o.1 && (!decide (o.1 ∈ ps) && isSightB ps (nmsD o.2))) = true
  have h : ((parts (nmsD o.2)).all fun x => decide (strOf x ∈ ps)) = true := by
    rw [List.all_eq_true]
    intro d hd
    obtain ⟨x, hx, rfl⟩ := List.mem_map.mp hd
    exact decide_eq_true (sub x hx)
  rw [nmB_of n, decide_eq_false out, isSightB, names_ok up nm le, h]
  rfl
theorem cl_ok {ns : List Str} {cl : List Ltr} (ck : ClOk ns cl) (nm : ∀ x ∈ ns, Nm x) : isClO ns (clD cl) = true := by
  have h1 : (cl.map ltD).all isLt = true := by
    rw [List.all_eq_true]
    intro d hd
    obtain ⟨l, hl, rfl⟩ := List.mem_map.mp hd
    show (nmB l.1 && true) = true
    rw [nmB_of (nm _ (ck.mem l hl))]
    rfl
  have h2 : ((cl.map ltD).all fun x => decide (fstS x ∈ ns)) = true := by
    rw [List.all_eq_true]
    intro d hd
    obtain ⟨l, hl, rfl⟩ := List.mem_map.mp hd
    exact decide_eq_true (ck.mem l hl)
  have h3 : riseB ((cl.map ltD).map fun x => .str (fstS x)) = true := by
    rw [List.map_map]
    show riseB (cl.map fun l => PyData.str l.1) = true
    exact riseB_of (f := fun l : Ltr => PyData.str l.1) (ck.up.imp fun {x y} z => by
      rw [dataLt_str]
      exact decide_eq_true z)
  show ((true && ((cl.map ltD).all isLt && riseB ((cl.map ltD).map fun x => .str (fstS x)))) && ((cl.map ltD).all fun x => decide (fstS x ∈ ns))) = true
  rw [h1, h2, h3]
  rfl
theorem SayOk.nm {a b c d : Nat} {s : Say} (h : SayOk a b c d s) : ∀ x ∈ s.names, Nm x := fun x hx => by
  rcases List.mem_append.mp hx with y | y
  · exact h.pn x y
  · obtain ⟨o, ho, rfl⟩ := List.mem_map.mp y
    exact (h.on o ho).1
theorem tlt_irrefl (x : Str) : ¬ tlt x x := fun h => by
  have z := dataLt_irrefl (.str x)
  rw [dataLt_str, decide_eq_false_iff_not] at z
  exact z h
theorem nodup_tlt {xs : List Str} (h : xs.Pairwise tlt) : xs.Nodup := List.Pairwise.imp (fun {a b} z => fun e : a = b => tlt_irrefl b (by rw [e] at z; exact z)) h
theorem names_say (s : Say) : namesD (nmsD s.picks) (.tuple (s.owns.map ownD)) = s.names := by
  show strsOf (nmsD s.picks) ++ (s.owns.map ownD).map fstS = s.picks ++ s.owns.map Prod.fst
  rw [strs_nms, List.map_map]
  rfl
theorem sizes_own (os : List Own) : ((os.map ownD).map fun x => 2 ^ sndLen x) = os.map fun o => 2 ^ o.2.length := by
  rw [List.map_map]
  exact List.map_congr_left fun o _ => by
    show 2 ^ sndLen (ownD o) = _
    rw [sndLen_own]
theorem say_ok {s : Say} (ok : SayOk 6 8 120 40 s) : sayB s.d = true := by
  show (isNames 6 (nmsD s.picks) && (areOwnsB (strsOf (nmsD s.picks)) (.tuple (s.owns.map ownD)) && areClsB (namesD (nmsD s.picks) (.tuple (s.owns.map ownD))) (.tuple (s.cls.map clD)))) = true
  rw [names_ok ok.pu ok.pn ok.pl, strs_nms, names_say]
  have ho : areOwnsB s.picks (.tuple (s.owns.map ownD)) = true := by
    have h1 : (s.owns.map ownD).all (isOwnB s.picks) = true := by
      rw [List.all_eq_true]
      intro d hd
      obtain ⟨o, mo, rfl⟩ := List.mem_map.mp hd
      obtain ⟨g1, g2, g3, g4⟩ := ok.on o mo
      exact own_ok g1 g2 g3 (fun x hx => ok.pn x (g4 x hx)) g4 (nodup_le (nodup_tlt g3) g4)
    have h2 : riseB ((s.owns.map ownD).map fun x => .str (fstS x)) = true := by
      rw [List.map_map]
      show riseB (s.owns.map fun o => PyData.str o.1) = true
      exact riseB_of (f := fun o : Own => PyData.str o.1) (ok.ou.imp fun {x y} z => by
        rw [dataLt_str]
        exact decide_eq_true z)
    have h3 : ((s.owns.map ownD).map fun x => 2 ^ sndLen x).sum ≤ 120 := by
      rw [sizes_own]
      exact ok.oc
    have h4 : (s.owns.map ownD).length ≤ 8 := by rw [List.length_map]; exact ok.ol
    unfold areOwnsB
    rw [Bool.and_eq_true, Bool.and_eq_true, Bool.and_eq_true, Bool.and_eq_true, decide_eq_true_eq, decide_eq_true_eq]
    exact ⟨rfl, h4, h1, h2, h3⟩
  have hc : areClsB s.names (.tuple (s.cls.map clD)) = true := by
    show (true && (decide ((s.cls.map clD).length ≤ 40) && ((s.cls.map clD).all (isClO s.names) && riseB (s.cls.map clD)))) = true
    have h1 : (s.cls.map clD).all (isClO s.names) = true := by
      rw [List.all_eq_true]
      intro d hd
      obtain ⟨cl, m, rfl⟩ := List.mem_map.mp hd
      exact cl_ok (ok.ck cl m) ok.nm
    rw [List.length_map, decide_eq_true ok.cl, h1, riseB_of ok.cu]
    rfl
  rw [ho, hc]
  rfl
theorem lims_map {α : Type} {f : α → PyData} : ∀ {l : List α}, (∀ x ∈ l, lim (f x) = true) → lims (l.map f) = true
  | [], _ => rfl
  | x :: l, h => by
    rw [List.map_cons, lims, h x List.mem_cons_self, lims_map fun y hy => h y (List.mem_cons_of_mem _ hy)]
    rfl
theorem lim_map {α : Type} {f : α → PyData} {l : List α} (le : l.length ≤ 1000) (h : ∀ x ∈ l, lim (f x) = true) : lim (.tuple (l.map f)) = true := by
  rw [lim, List.length_map, decide_eq_true le, lims_map h]
  rfl
theorem lim_nm {x : Str} (h : Nm x) : lim (.str x) = true := by
  rw [lim]
  exact decide_eq_true (by have := h.hi; omega)
theorem lim_nms {xs : List Str} (h : ∀ x ∈ xs, Nm x) (le : xs.length ≤ 1000) : lim (nmsD xs) = true := lim_map le fun x hx => lim_nm (h x hx)
theorem cl_len {ns : List Str} {cl : List Ltr} (h : ClOk ns cl) : cl.length ≤ ns.length := by
  have nd : (cl.map Prod.fst).Nodup := nodup_tlt (List.pairwise_map.mpr h.up)
  have z := nodup_le nd fun x hx => by
    obtain ⟨l, hl, rfl⟩ := List.mem_map.mp hx
    exact h.mem l hl
  rwa [List.length_map] at z
theorem SayOk.nlen {s : Say} (h : SayOk 6 8 120 40 s) : s.names.length ≤ 14 := by
  have h1 := h.pl
  have h2 := h.ol
  show (s.picks ++ s.owns.map Prod.fst).length ≤ 14
  rw [List.length_append, List.length_map]
  omega
theorem lim_cl {ns : List Str} {cl : List Ltr} (ck : ClOk ns cl) (nm : ∀ x ∈ ns, Nm x) (le : ns.length ≤ 1000) : lim (clD cl) = true := by
  refine lim_map (Nat.le_trans (cl_len ck) le) fun l hl => ?_
  show (decide (2 ≤ 1000) && (lim (.str l.1) && (true && true))) = true
  rw [lim_nm (nm _ (ck.mem l hl))]
  rfl
theorem sight_le {s : Say} (ok : SayOk 6 8 120 40 s) {o : Own} (ho : o ∈ s.owns) : o.2.length ≤ 6 := by
  obtain ⟨g1, g2, g3, g4⟩ := ok.on o ho
  exact Nat.le_trans (nodup_le (nodup_tlt g3) g4) ok.pl
theorem lim_say {s : Say} (ok : SayOk 6 8 120 40 s) : lim s.d = true := by
  have l1 := ok.pl
  have l2 := ok.ol
  have l3 := ok.cl
  have nl := ok.nlen
  have h1 : lim (nmsD s.picks) = true := lim_nms ok.pn (by omega)
  have h2 : lim (.tuple (s.owns.map ownD)) = true := lim_map (by omega) fun o ho => by
    have := sight_le ok ho
    show (decide (2 ≤ 1000) && (lim (.str o.1) && (lim (nmsD o.2) && true))) = true
    rw [lim_nm (ok.on o ho).1, lim_nms (fun x hx => ok.pn x ((ok.on o ho).2.2.2 x hx)) (by omega)]
    rfl
  have h3 : lim (.tuple (s.cls.map clD)) = true := lim_map (by omega) fun cl hc => lim_cl (ok.ck cl hc) ok.nm (by omega)
  show (decide (3 ≤ 1000) && (lim (nmsD s.picks) && (lim (.tuple (s.owns.map ownD)) && (lim (.tuple (s.cls.map clD)) && true)))) = true
  rw [h1, h2, h3]
  rfl
theorem say_row {H : Hp} {v : V} {s : Say} (D : DatS H v s) : ∃ a p o c, v = .ref a ∧ H a = some (.tup [p, o, c]) ∧ Dat H p (nmsD s.picks) ∧ Dat H o (.tuple (s.owns.map ownD)) ∧ Dat H c (.tuple (s.cls.map clD)) := by
  obtain ⟨a, xs, rfl, e, Da⟩ := dat_tup (ds := [nmsD s.picks, .tuple (s.owns.map ownD), .tuple (s.cls.map clD)]) D
  cases Da with
  | cons h1 Da =>
  cases Da with
  | cons h2 Da =>
  cases Da with
  | cons h3 Da =>
  cases Da
  exact ⟨a, _, _, _, rfl, e, h1, h2, h3⟩
/-- whether any data is answers of a saying -/
def ansB (os : List Own) (d : PyData) : Bool := isTup d && (decide ((parts d).length = os.length) && (os.zip (parts d)).all fun q => truthsB (2 ^ q.1.2.length) q.2)
/-- a question about any data beside a saying -/
def spJS (p : Say → PyData → Bool) : Sp := fun vs H Q _ => ∃ (v u : V) (s : Say) (d : PyData), vs = [v, u] ∧ DatS H v s ∧ SayOk 6 8 120 40 s ∧ Dat H u d ∧ lim d = true ∧ ∀ H', Same H H' → Q (.bl (p s d)) H'
def spWantSay : Sp := fun vs H Q _ => ∃ (v : V) (s : Say), vs = [v] ∧ DatS H v s ∧ SayOk 6 8 120 40 s ∧ ∀ H', Same H H' → Q .non H'
abbrev nFA : List Str := ["saying", "value", "owns", "own", "table"]
section
variable {P : Program} {w : World} {K : PySem.W.Frag} {mg : Str → Option Value} {base : Heap}
theorem scFitsClause : FnScope ["saying", "value"] ["saying", "value"] (defScope sFitsClause) := ⟨rfl, rfl, rfl, by decide +kernel, rfl, by decide +kernel, by decide +kernel⟩
theorem scFitsPlay : FnScope ["saying", "value"] ["saying", "value"] (defScope sFitsPlay) := ⟨rfl, rfl, rfl, by decide +kernel, rfl, by decide +kernel, by decide +kernel⟩
theorem scFitsAnswers : FnScope nFA ["saying", "value"] (defScope sFitsAnswers) := ⟨rfl, rfl, rfl, by decide +kernel, rfl, by decide +kernel, by decide +kernel⟩
theorem scWantSaying : FnScope ["saying"] ["saying"] (defScope sWantSaying) := ⟨rfl, rfl, rfl, by decide +kernel, rfl, by decide +kernel, by decide +kernel⟩
theorem scIsSaying : FnScope ["value"] ["value"] (defScope sIsSaying) := ⟨rfl, rfl, rfl, by decide +kernel, rfl, by decide +kernel, by decide +kernel⟩
theorem scIsClause : FnScope ["saying", "value"] ["saying", "value"] (defScope sIsClause) := ⟨rfl, rfl, rfl, by decide +kernel, rfl, by decide +kernel, by decide +kernel⟩
theorem scIsPlay : FnScope ["saying", "value"] ["saying", "value"] (defScope sIsPlay) := ⟨rfl, rfl, rfl, by decide +kernel, rfl, by decide +kernel, by decide +kernel⟩
theorem scIsAnswers : FnScope ["saying", "value"] ["saying", "value"] (defScope sIsAnswers) := ⟨rfl, rfl, rfl, by decide +kernel, rfl, by decide +kernel, by decide +kernel⟩
theorem ok_wantSaying {f fA : Addr} {fd fdA : FuncData} (F : Fun K "want_saying" "want_saying" sWantSaying f fd) (An : Has K mg "fits_saying" sFitsSaying ["value"] fA fdA) (GA : FnOk P w K mg base CX0 6 fA fdA ["value"] (spJ sayB)) :
    FnOk P w K mg base CX0 7 f fd ["saying"] spWantSay := by
  refine F.ok scWantSaying (fun vs H Q E h => ?_) (fun cdv A outer s H vs Q E hr h => ?_)
  · obtain ⟨v, sy, rfl, _⟩ := h
    rfl
  · obtain ⟨v, sy, rfl, D, ok, q⟩ := h
    refine ⟨_, pss_one (ps_if (pt_not (pt_val (pe_call GA hr rfl An.g An.F.kp An.b .nil pass0 (pa_cons (pv 0) pa_nil)))) pss_never pss_nil), ?_⟩
    refine ⟨_, rfl, v, sy.d, rfl, D, lim_say ok, fun H' S => ⟨_, rfl, ?_⟩⟩
    rw [say_ok ok]
    show if (!true) = true then _ else _
    rw [if_neg (by decide)]
    exact q H' S
theorem ok_fitsClause {f fO fN : Addr} {fd fdO fdN : FuncData} (F : Fun K "fits_clause" "fits_clause" sFitsClause f fd) (Ov : Has K mg "is_clause_over" sIsClauseOver ["value", "names"] fO fdO) (No : Has K mg "names_of" sNamesOf ["picks", "owns"] fN fdN)
    (GO : FnOk P w K mg base CX0 4 fO fdO ["value", "names"] spClO) (B : Blt mg) : FnOk P w K mg base CX0 5 f fd ["saying", "value"] (spJS fun s d => isClO s.names d) := by
  have GN : FnOk P w K mg base CX0 1 fN fdN ["picks", "owns"] spNamesB := ok_namesOf No.F B
  refine F.ok scFitsClause (fun vs H Q E h => ?_) (fun cdv A outer s H vs Q E hr h => ?_)
  · obtain ⟨v, u, sy, d, rfl, _⟩ := h
    rfl
  · obtain ⟨v, u, sy, d, rfl, D, ok, Du, li, q⟩ := h
    have hr1 := hr.mono (show 1 ≤ 4 by decide)
    refine ⟨_, pss_one (ps_ret (pe_call GO hr rfl Ov.g Ov.F.kp Ov.b .nil pass0 (pa_cons (pv 1) (pa_cons (pe_call GN hr1 rfl No.g No.F.kp No.b .nil pass0 (pa_cons (pe_ix ix_tup (pv 0) pe_int (fun _ _ => rfl)) (pa_cons (pe_ix ix_tup (pv 0) pe_int (fun _ _ => rfl)) pa_nil))) pa_nil)))), ?_⟩
    obtain ⟨a, p, o, c, rfl, ea, Dp, Do, Dc⟩ := say_row D
    have l1 := ok.pl
    have l2 := ok.ol
    refine ⟨_, rfl, _, rfl, a, _, 0, _, rfl, rfl, SqT.of ea, rfl, _, rfl, a, _, 1, _, rfl, rfl, SqT.of ea, rfl, p, o, sy.picks, sy.owns.map ownD, rfl, Dp, Do, fun d hd => ?_, l1, by rw [List.length_map]; exact l2, fun l H3 S3 _ el => ?_⟩
    · obtain ⟨x, _, rfl⟩ := List.mem_map.mp hd
      exact ⟨x.1, nmsD x.2, rfl⟩
    · rw [List.map_map] at el
      exact ⟨u, l, d, sy.names, rfl, Du.same S3, li, el, fun H4 S4 => q H4 (S3.trans S4)⟩
theorem ok_fitsPlay {f fT : Addr} {fd fdT : FuncData} (F : Fun K "fits_play" "fits_play" sFitsPlay f fd) (Tr : Has K mg "are_truths" sAreTruths ["value", "many"] fT fdT) (GT : FnOk P w K mg base CX0 2 fT fdT ["value", "many"] spTruthsN) (B : Blt mg) :
    FnOk P w K mg base CX0 3 f fd ["saying", "value"] (spJS fun s d => truthsB s.picks.length d) := by
  refine F.ok scFitsPlay (fun vs H Q E h => ?_) (fun cdv A outer s H vs Q E hr h => ?_)
  · obtain ⟨v, u, sy, d, rfl, _⟩ := h
    rfl
  · obtain ⟨v, u, sy, d, rfl, D, ok, Du, li, q⟩ := h
    refine ⟨_, pss_one (ps_ret (pe_call GT hr rfl Tr.g Tr.F.kp Tr.b .nil pass0 (pa_cons (pv 1) (pa_cons (pe_callB call_len_seq (by rfl) B.len (by decide +kernel) (pa_cons (pe_ix ix_tup (pv 0) pe_int (fun _ _ => rfl)) pa_nil)) pa_nil)))), ?_⟩
    obtain ⟨a, p, o, c, rfl, ea, Dp, Do, Dc⟩ := say_row D
    obtain ⟨b, ups, rfl, eb, Db⟩ := dat_tup (ds := sy.picks.map PyData.str) Dp
    cases dats_strs_eq Db
    exact ⟨_, rfl, _, rfl, a, _, 0, _, rfl, rfl, SqT.of ea, rfl, b, _, rfl, .inr (SqT.of eb), u, d, sy.picks.length, by rw [List.length_map]; rfl, Du, li, q⟩
theorem ok_fitsAnswers {f fT : Addr} {fd fdT : FuncData} (F : Fun K "fits_answers" "fits_answers" sFitsAnswers f fd) (Tr : Has K mg "are_truths" sAreTruths ["value", "many"] fT fdT) (GT : FnOk P w K mg base CX0 2 fT fdT ["value", "many"] spTruthsN) (B : Blt mg) :
    FnOk P w K mg base CX0 3 f fd ["saying", "value"] (spJS fun s d => ansB s.owns d) := by
  refine F.ok scFitsAnswers (fun vs H Q E h => ?_) (fun cdv A outer s H vs Q E hr h => ?_)
  · obtain ⟨v, u, sy, d, rfl, _⟩ := h
    rfl
  · obtain ⟨v, u, sy, d, rfl, D, ok, Du, li, q⟩ := h
    refine ⟨_, pss_cons (ps_set (i := 2) scFitsAnswers.nd rfl (.inl rfl) (pe_ix ix_tup (pv 0) pe_int (fun _ _ => rfl)))
      (pss_cons (ps_if (PW.pt (pw_or (pt_not (pt_val (pe_callB call_isi (by rfl) B.isi (by decide +kernel) (pa_cons (pv 1) (pa_cons (pe_bltn (v := V.ty "tuple") (by rfl) B.tuple (by decide +kernel) rfl) pa_nil)))))
        (pw_or1 (pt_cmpR op_ne (pe_callB call_len_seq (by rfl) B.len (by decide +kernel) (pa_cons (pv 1) pa_nil)) (pe_callB call_len_seq (by rfl) B.len (by decide +kernel) (pa_cons (pv 2) pa_nil)) (nomark _))))) (pss_one (ps_ret pe_bl)) pss_nil)
      (pss_one (ps_ret (pe_callB (cr_all rfl) (by rfl) B.all (by decide +kernel) (pa_cons (pe_lc (own := [("own", 3), ("table", 4)]) (g := gTup K 2 (gCons (gName 3) (gCons (gName 4) gNil))) (tt := tYes)
          (te := tCall spTruthsN [] E0 (tCons (tVar 4) (tCons (tOp (rI CPow fun i j => V.int (i * 2 ^ j.toNat)) (tC (V.int 1)) (tCB (fun xs H Q => ∃ p ys, xs = [V.ref p] ∧ (SqL K H p ys ∨ SqT K H p ys) ∧ Q (V.int ys.length) H) (tCons (tOp (rIxT K) (tVar 3) (tC (V.int 1))) tNil))) tNil))) rfl scFitsAnswers.nd
          (pi_zipA (by rfl) B.zip (pa_cons (pv 2) (pa_cons (pv 1) pa_nil))) (blkOk_by (N := nFA) (sc := defScope sFitsAnswers) (by decide +kernel))
          (fun _ _ _ _ _ => by exact pg_tup rfl (pgs_cons (pg_name (i := 3) scFitsAnswers.nd rfl (.inl rfl)) (pgs_cons (pg_name (i := 4) scFitsAnswers.nd rfl (.inl rfl)) pgs_nil))) (fun _ _ _ _ _ => pts_nil)
          (fun _ _ _ _ _ => by exact pe_call GT (by exact hr) (by rfl) Tr.g Tr.F.kp Tr.b .nil pass0 (pa_cons (pv 4) (pa_cons (pe_op op_shl pe_int (pe_callB call_len_seq (by rfl) B.len (by decide +kernel) (pa_cons (pe_ix ix_tup (pv 3) pe_int (fun _ _ => rfl)) pa_nil))) pa_nil)))) pa_nil))))), ?_⟩
    obtain ⟨a, pk, ow, c, rfl, ea, Dk, Do, Dc⟩ := say_row D
    obtain ⟨b, us, rfl, eb, Db⟩ := dat_tup Do
    have lu : us.length = sy.owns.length := by rw [Db.len, List.length_map]
    have lo := ok.ol
    refine ⟨_, rfl, a, _, 1, _, rfl, rfl, SqT.of ea, rfl, ?_⟩
    refine ⟨_, rfl, _, _, _, _, isTup d, rfl, .ty _, ty_dat Du, kit_ty (kit_tup d), isTup d, rfl, ?_⟩
    cases h : isTup d with
    | false =>
      replace q : ∀ H', Same H H' → Q (.bl (ansB sy.owns d)) H' := q
      rw [ansB, h, Bool.false_and] at q
      show if (!false) = true then _ else _
      rw [if_pos (by decide)]
      show if true = true then _ else _
      rw [if_pos rfl]
      exact q H (Same.refl _)
    | true =>
      replace q : ∀ H', Same H H' → Q (.bl (ansB sy.owns d)) H' := q
      rw [ansB, h, Bool.true_and] at q
      obtain ⟨ds, rfl⟩ := tup_of h
      obtain ⟨t, ts, rfl, et, Dt⟩ := dat_tup Du
      obtain ⟨_, lm⟩ := lim_tup li
      have lt : ts.length = ds.length := Dt.len
      have q1 : ∀ H', Same H H' → Q (.bl (decide (ds.length = sy.owns.length) && (sy.owns.zip ds).all fun q => truthsB (2 ^ q.1.2.length) q.2)) H' := q
      show if (!true) = true then _ else _
      rw [if_neg (by decide)]
      refine ⟨_, rfl, _, _, rfl, .inr (SqT.of et), _, rfl, _, _, rfl, .inr (SqT.of eb), rfl, _, rfl, ?_⟩
      rw [lt, lu]
      by_cases hn : ds.length = sy.owns.length
      · rw [decide_eq_true hn, Bool.true_and] at q1
        refine iteNS (by rw [hn]; exact decide_eq_true rfl) ?_
        refine ⟨_, rfl, _, rfl, b, t, us, ts, rfl, .inr ⟨SqT.of eb, SqT.of et, fun D0 hD0 => ?_⟩⟩
        refine lc_zipT (K := K) (a := b) (b := t) (xs := us) (ys := ts) (by omega) (fun i H4 => H4 D0 = some (.lst ((((sy.owns.zip ds).take i).map fun q => truthsB (2 ^ q.1.2.length) q.2).map V.bl)) ∧ Same H H4) ⟨upd_same, same_new hD0⟩ (fun i H4 h => ⟨SqT.of (h.2 _ _ eb), SqT.of (h.2 _ _ et)⟩) ?_ ?_
        · rintro i x y H4 T hx hy ⟨e4, S4⟩ hT
          obtain ⟨d, hd, Dx⟩ := dats_get' Db i x hx
          obtain ⟨o, ho, rfl⟩ := get_map hd
          obtain ⟨to, rfl⟩ := tuple_ref (ds := [.str o.1, nmsD o.2]) Dx
          obtain ⟨t', g1, g2⟩ := own_row (q := (to, ownD o)) rfl Dx
          obtain ⟨d2, hd2, Dy⟩ := dats_get' Dt i y hy
          have il : i < us.length := (List.getElem?_eq_some_iff.mp hx).1
          have og := sight_le ok (List.mem_of_getElem? ho)
          have hz : (sy.owns.zip ds)[i]? = some (o, d2) := by rw [List.getElem?_zip_eq_some]; exact ⟨ho, hd2⟩
          have S5 := S4.trans (same_new (o := .tup [V.ref to, y]) hT)
          refine ⟨T, _, rfl, SqT.of upd_same, rfl, _, _, rfl, _, _, rfl, rfl, rfl, yes_of ?_⟩
          refine ⟨_, rfl, _, rfl, to, _, 1, _, rfl, rfl, SqT.of (S5 _ _ g1), rfl, t', _, rfl, .inr (SqT.of (S5 _ _ g2)), _, _, rfl, rfl, ⟨by omega, by rw [List.length_map]; omega, by decide⟩, ?_⟩
          have ep : (1 : Int) * 2 ^ ((o.2.map V.str).length : Int).toNat = ((2 ^ o.2.length : Nat) : Int) := by
            rw [List.length_map, Int.toNat_natCast, Int.one_mul]
            push_cast
            rfl
          refine ⟨y, d2, 2 ^ o.2.length, by show [y, V.int (1 * 2 ^ ((o.2.map V.str).length : Int).toNat)] = _; rw [ep], Dy.same S5, lm d2 (List.mem_of_getElem? hd2), fun H6 S6 => ?_⟩
          have e6 := S6 _ _ ((same_new (o := .tup [V.ref to, y]) hT) _ _ e4)
          refine ⟨_, e6, ?_, ?_, same_upd (S5.trans S6) hD0⟩
          · rw [List.length_map, List.length_map, List.length_take]
            exact small1000 (by omega)
          · rw [upd_same, take_next hz, List.map_append, List.map_append]
            rfl
        · rintro H4 ⟨e4, S4⟩
          have tk : (sy.owns.zip ds).take us.length = sy.owns.zip ds := List.take_of_length_le (by rw [List.length_zip]; omega)
          rw [tk] at e4
          refine ⟨D0, _, rfl, SqL.of e4, ?_⟩
          rw [all_id]
          exact q1 H4 S4
      · rw [decide_eq_false hn] at q1
        rw [show decide (V.int ((ds.length : Nat) : Int) = V.int ((sy.owns.length : Nat) : Int)) = false from decide_eq_false fun y => hn (by injection y with y; omega)]
        show if (!false) = true then _ else _
        rw [if_pos (by decide)]
        exact q1 H (Same.refl _)
theorem ok_isSaying {f fA : Addr} {fd fdA : FuncData} (F : Fun K "is_saying" "is_saying" sIsSaying f fd) (An : Has K mg "fits_saying" sFitsSaying ["value"] fA fdA) (GA : FnOk P w K mg base CX0 6 fA fdA ["value"] (spJ sayB)) : FnOk P w K mg base CX0 8 f fd ["value"] (spJ sayB) := by
  refine F.ok scIsSaying (fun vs H Q E h => ?_) (fun cdv A outer s H vs Q E hr h => ?_)
  · obtain ⟨v, d, rfl, _⟩ := h
    rfl
  · obtain ⟨v, d, rfl, D, li, q⟩ := h
    exact ⟨_, pss_one (ps_ret (pe_call GA (hr.mono (by decide)) rfl An.g An.F.kp An.b .nil pass0 (pa_cons (pv 0) pa_nil))), ⟨_, rfl, v, d, rfl, D, li, q⟩⟩
theorem ok_isClause {f fW fA : Addr} {fd fdW fdA : FuncData} (F : Fun K "is_clause" "is_clause" sIsClause f fd) (Ws : Has K mg "want_saying" sWantSaying ["saying"] fW fdW) (An : Has K mg "fits_clause" sFitsClause ["saying", "value"] fA fdA)
    (GW : FnOk P w K mg base CX0 7 fW fdW ["saying"] spWantSay) (GA : FnOk P w K mg base CX0 5 fA fdA ["saying", "value"] (spJS fun s d => isClO s.names d)) : FnOk P w K mg base CX0 8 f fd ["saying", "value"] (spJS fun s d => isClO s.names d) := by
  refine F.ok scIsClause (fun vs H Q E h => ?_) (fun cdv A outer s H vs Q E hr h => ?_)
  · obtain ⟨v, u, sy, d, rfl, _⟩ := h
    rfl
  · obtain ⟨v, u, sy, d, rfl, D, ok, Du, li, q⟩ := h
    refine ⟨_, pss_cons (ps_expr (pe_call GW hr rfl Ws.g Ws.F.kp Ws.b .nil pass0 (pa_cons (pv 0) pa_nil))) (pss_one (ps_ret (pe_call GA (hr.mono (by decide)) rfl An.g An.F.kp An.b .nil pass0 (pa_cons (pv 0) (pa_cons (pv 1) pa_nil))))), ?_⟩
    exact ⟨_, rfl, v, sy, rfl, D, ok, fun H1 S1 => ⟨_, rfl, _, rfl, v, u, sy, d, rfl, D.same S1, ok, Du.same S1, li, fun H2 S2 => q H2 (S1.trans S2)⟩⟩
theorem ok_isPlay {f fW fA : Addr} {fd fdW fdA : FuncData} (F : Fun K "is_play" "is_play" sIsPlay f fd) (Ws : Has K mg "want_saying" sWantSaying ["saying"] fW fdW) (An : Has K mg "fits_play" sFitsPlay ["saying", "value"] fA fdA)
    (GW : FnOk P w K mg base CX0 7 fW fdW ["saying"] spWantSay) (GA : FnOk P w K mg base CX0 3 fA fdA ["saying", "value"] (spJS fun s d => truthsB s.picks.length d)) : FnOk P w K mg base CX0 8 f fd ["saying", "value"] (spJS fun s d => truthsB s.picks.length d) := by
  refine F.ok scIsPlay (fun vs H Q E h => ?_) (fun cdv A outer s H vs Q E hr h => ?_)
  · obtain ⟨v, u, sy, d, rfl, _⟩ := h
    rfl
  · obtain ⟨v, u, sy, d, rfl, D, ok, Du, li, q⟩ := h
    refine ⟨_, pss_cons (ps_expr (pe_call GW hr rfl Ws.g Ws.F.kp Ws.b .nil pass0 (pa_cons (pv 0) pa_nil))) (pss_one (ps_ret (pe_call GA (hr.mono (by decide)) rfl An.g An.F.kp An.b .nil pass0 (pa_cons (pv 0) (pa_cons (pv 1) pa_nil))))), ?_⟩
    exact ⟨_, rfl, v, sy, rfl, D, ok, fun H1 S1 => ⟨_, rfl, _, rfl, v, u, sy, d, rfl, D.same S1, ok, Du.same S1, li, fun H2 S2 => q H2 (S1.trans S2)⟩⟩
theorem ok_isAnswers {f fW fA : Addr} {fd fdW fdA : FuncData} (F : Fun K "is_answers" "is_answers" sIsAnswers f fd) (Ws : Has K mg "want_saying" sWantSaying ["saying"] fW fdW) (An : Has K mg "fits_answers" sFitsAnswers ["saying", "value"] fA fdA)
    (GW : FnOk P w K mg base CX0 7 fW fdW ["saying"] spWantSay) (GA : FnOk P w K mg base CX0 3 fA fdA ["saying", "value"] (spJS fun s d => ansB s.owns d)) : FnOk P w K mg base CX0 8 f fd ["saying", "value"] (spJS fun s d => ansB s.owns d) := by
  refine F.ok scIsAnswers (fun vs H Q E h => ?_) (fun cdv A outer s H vs Q E hr h => ?_)
  · obtain ⟨v, u, sy, d, rfl, _⟩ := h
    rfl
  · obtain ⟨v, u, sy, d, rfl, D, ok, Du, li, q⟩ := h
    refine ⟨_, pss_cons (ps_expr (pe_call GW hr rfl Ws.g Ws.F.kp Ws.b .nil pass0 (pa_cons (pv 0) pa_nil))) (pss_one (ps_ret (pe_call GA (hr.mono (by decide)) rfl An.g An.F.kp An.b .nil pass0 (pa_cons (pv 0) (pa_cons (pv 1) pa_nil))))), ?_⟩
    exact ⟨_, rfl, v, sy, rfl, D, ok, fun H1 S1 => ⟨_, rfl, _, rfl, v, u, sy, d, rfl, D.same S1, ok, Du.same S1, li, fun H2 S2 => q H2 (S1.trans S2)⟩⟩
end
end S1

set_option Elab.async false
set_option linter.all false
set_option maxRecDepth 100000
set_option maxHeartbeats 4000000
/-! sets of texts: what they hold, adding -/
namespace L2
open PySem PySem.SeqAt PySem.Spec PyProof.Rows
def txOf (e : Int × Value) : Str := match e.2 with
  | .str x _ => x
  | _ => Str.empty
def GoodT (w : World) (e : Int × Value) : Prop := ∃ x tk, e.2 = Value.str x tk ∧ e.1 = hashStr w x
/-- the set of texts at a: its members, in some sequence -/
def SetT (w : World) (h : Heap) (a : Addr) (l : List Str) : Prop :=
  ∃ o es ep t, h.get? a = some o ∧ o.ExactSet ∧ o.data = .set es ep t ∧ (∀ e ∈ es.toList, GoodT w e) ∧ (es.toList.map txOf).Perm l ∧ l.Nodup ∧ es.size < scanBound ∧ t.fits es.size = true ∧ Ris t.place.toList ∧
    (w.params.followText "set-order" = true ∨ t.led = true)
section
variable {P : Program} {w : World} {h h' : Heap} {a : Addr} {l : List Str}
theorem SetT.at (R : SetT w h a l) (k : ∀ o, h.get? a = some o → h'.get? a = some o) : SetT w h' a l := by
  obtain ⟨o, es, ep, t, ho, r⟩ := R
  exact ⟨o, es, ep, t, k o ho, r⟩
theorem isStr_self (k : Str) (u : Tok) : (strKind P w).is k (.str k u) = true := by
  show Value.isStrOf k (.str k u) = true
  simp [Value.isStrOf]
theorem goodT_elems {l : List (Int × Value)} (g : ∀ e ∈ l, GoodT w e) : ElemsOf (strKind P w) l := fun e he => by
  obtain ⟨k, tk, h1, h2⟩ := g e he
  exact ⟨⟨k, by rw [h1]; exact isStr_self k tk, h2⟩, by rw [h1] <;> rfl⟩
theorem goodT_is {e : Int × Value} (g : GoodT w e) (k : Str) : (strKind P w).is k e.2 = true ↔ txOf e = k := by
  obtain ⟨k0, tk, h1, _⟩ := g
  unfold txOf
  rw [h1]
  constructor
  · intro z
    exact (strKind P w).inj (.str k0 tk) k0 k (isStr_self k0 tk) z
  · rintro rfl
    exact isStr_self _ tk
theorem goodT_mem {l : List (Int × Value)} (g : ∀ e ∈ l, GoodT w e) (k : Str) : k ∈ l.map txOf ↔ ∃ e ∈ l, (strKind P w).is k e.2 = true := by
  rw [List.mem_map]
  constructor
  · rintro ⟨e, he, q⟩
    exact ⟨e, he, (goodT_is (g e he) k).2 q⟩
  · rintro ⟨e, he, q⟩
    exact ⟨e, he, (goodT_is (g e he) k).1 q⟩
theorem setT_new (g : h.get? a = some (newSetObj w)) : SetT w h a [] :=
  ⟨_, #[], 0, _, g, ⟨rfl, rfl, rfl⟩, rfl, (fun e he => by simp at he), .refl _, List.nodup_nil, (by decide), (by rfl), List.Pairwise.nil, by
    cases z : w.params.followText "set-order"
    · exact .inr rfl
    · exact .inl rfl⟩
end
section
variable {P : Program} {w : World} {A : Around} {E : Value → Shared → Prop} {s : Shared} {a : Addr} {l : List Str}
theorem setT_add_tail {g : Bool → Sem Unit} (hg : ∀ (b : Bool) (s₁ : Shared) (Q' : Unit → Shared → Prop), Q' () s₁ → wpAny (model P w) A (g b) Q' E s₁)
    {o : Obj} {es : Array (Int × Value)} {ep : Nat} {t : SetTable} (ho : s.heap.get? a = some o) (hex : o.ExactSet) (hd : o.data = .set es ep t)
    {es1 : Array (Int × Value)} {t2 : SetTable} {l1 : List Str} (g1 : ∀ e ∈ es1.toList, GoodT w e) (p1 : (es1.toList.map txOf).Perm l1) (nd1 : l1.Nodup)
    (hb1 : es1.size < scanBound) (hf2 : t2.fits es1.size = true) (hr : Ris t2.place.toList) (hl : w.params.followText "set-order" = true ∨ t2.led = true) {wasDummy : Bool} {R : Option Bool → Shared → Prop}
    (hR : ∀ h', Heap.SameBut a s.heap h' → SetT w h' a l1 → R (some true) { s with heap := h' }) :
    wpAny (model P w) A (do
        storeSet a es1 t2
        if (!wasDummy && t2.tooFull) = true then do
            g (relayAll t2 es1 (SetTable.grown es1.size)).2.2
            storeSet a (relayAll t2 es1 (SetTable.grown es1.size)).1 (relayAll t2 es1 (SetTable.grown es1.size)).2.1
            pure (some true)
          else pure (some true)) R E s := by
  refine wpAny_bind (wpAny_storeSet_of ho hd ?_ (fits_of_scanBound hb1))
  have ho1 := L2.store_at (es' := es1) (t' := t2) ho hd
  have sb1 := Heap.SameBut.update s.heap a (Obj.putSet es1 t2)
  split
  · have pm := relayAll_perm t2 es1 (SetTable.grown es1.size)
    have hf3 := relayAll_fits t2 es1 (SetTable.grown es1.size)
    have hr3 := relayAll_ris t2 es1 (SetTable.grown es1.size)
    have hl3 := relayAll_led t2 es1 (SetTable.grown es1.size)
    generalize relayAll t2 es1 (SetTable.grown es1.size) = Z at pm hf3 hr3 hl3 ⊢
    obtain ⟨es2, t3, gave⟩ := Z
    dsimp only at pm hf3 hr3 hl3 ⊢
    have hsz : es2.size = es1.size := by rw [← Array.length_toList, pm.length_eq, Array.length_toList]
    have hb2 : es2.size < scanBound := by rw [hsz]; exact hb1
    refine wpAny_bind (hg _ _ _ ?_)
    refine wpAny_bind (wpAny_storeSet_of ho1 rfl ?_ (fits_of_scanBound hb2))
    have ho2 := L2.store_at (es' := es2) (t' := t3) ho1 rfl
    refine wpAny_pure (hR _ (sb1.trans (Heap.SameBut.update _ a _)) ?_)
    exact ⟨_, es2, _, t3, ho2, hex, rfl, fun e he => g1 e (pm.mem_iff.mp he), (pm.map txOf).trans p1, nd1, hb2, hf3, hr3, hl.imp id fun z => by rw [hl3]; exact z⟩
  · exact wpAny_pure (hR _ sb1 ⟨_, es1, _, t2, ho1, hex, rfl, g1, p1, nd1, hb1, hf2, hr, hl⟩)
theorem setT_add {k : Str} {tk : Tok} {Q : Bool → Shared → Prop} (R : SetT w s.heap a l) (room : l.length + 1 < scanBound)
    (hQ : ∀ b h', Heap.SameBut a s.heap h' → SetT w h' a (if k ∈ l then l else k :: l) → Q b { s with heap := h' }) :
    wpAny (model P w) A (setAddHashed a (.str k tk) (hashStr w k)) Q E s := by
  obtain ⟨o, es, ep, t, ho, hex, hd, g, pl, nd, hb, hf, hr, hl⟩ := R
  have hkey : (strKind P w).is k (.str k tk) = true := isStr_self k tk
  have hsc : (Value.str k tk).scannable = true := rfl
  have hel : ElemsOf (strKind P w) es.toList := goodT_elems g
  have hn : es.size = l.length := by rw [← Array.length_toList, ← List.length_map (f := txOf), pl.length_eq]
  unfold setAddHashed setAddHashedIn
  refine wpAny_holding (wpAny_bind (wpAny_setState_of ho hd hf ?_))
  dsimp only
  rw [byScan_of hsc hb hel]
  simp only [↓reduceIte]
  unfold setAddByScan
  refine wpAny_bind ?_
  refine wpAny_bind (wpAny_rule ?_)
  refine wpAny_bind (wpAny_setScan_of (knd := strKind P w) (k := k) hkey ho hd hf hel ?_)
  cases hfi : List.findIdx? (fun e => (strKind P w).is k e.2) es.toList with
  | some j =>
    dsimp only
    obtain ⟨hj, pj, _⟩ := List.findIdx?_eq_some_iff_getElem.mp hfi
    have hSk : k ∈ l := pl.mem_iff.mp ((goodT_mem (P := P) (w := w) g k).2 ⟨es.toList[j], List.getElem_mem hj, pj⟩)
    refine wpAny_pure (wpAny_pure ?_)
    exact hQ _ s.heap (Heap.SameBut.refl a s.heap) (by rw [if_pos hSk]; exact ⟨o, es, ep, t, ho, hex, hd, g, pl, nd, hb, hf, hr, hl⟩)
  | none =>
    dsimp only
    have hnk : k ∉ es.toList.map txOf := fun z => by
      obtain ⟨e, he, q⟩ := (goodT_mem (P := P) (w := w) g k).1 z
      have c := List.findIdx?_eq_none_iff.mp hfi e he
      rw [q] at c
      cases c
    have hSk : k ∉ l := fun z => hnk (pl.mem_iff.mpr z)
    have hgw : ∀ (b : Bool) {s₁ : Shared} {Q' : Unit → Shared → Prop}, Q' () s₁ → wpAny (model P w) A (match b with | true => rule "set.scan.the-table-gave-way" | false => pure ()) Q' E s₁ :=
      fun b s₁ Q' q => by cases b <;> first | exact wpAny_pure q | exact wpAny_rule q
    have pm := layNew_perm t es (hashStr w k) (.str k tk)
    have hf1 := layNew_fits t es (hashStr w k) (.str k tk)
    have hr1 := layNew_ris t es (hashStr w k) (.str k tk) hr
    have hl1 := layNew_led t es (hashStr w k) (.str k tk)
    generalize layNew t es (hashStr w k) (.str k tk) = Z at pm hf1 hr1 hl1 ⊢
    obtain ⟨es1, t1, wasDummy, gave⟩ := Z
    dsimp only at pm hf1 hr1 hl1 ⊢
    rw [Array.toList_push] at pm
    have pc : es1.toList.Perm ((hashStr w k, Value.str k tk) :: es.toList) := pm.trans (List.perm_append_singleton _ _)
    have pk : (es1.toList.map txOf).Perm (k :: es.toList.map txOf) := pc.map txOf
    have g1 : ∀ e ∈ es1.toList, GoodT w e := fun e he => by
      rcases List.mem_cons.mp (pc.mem_iff.mp he) with z | z
      · rw [z]; exact ⟨k, tk, rfl, rfl⟩
      · exact g e z
    have p1 : (es1.toList.map txOf).Perm (k :: l) := pk.trans (pl.cons k)
    have nd1 : (k :: l).Nodup := List.nodup_cons.mpr ⟨hSk, nd⟩
    have hsz : es1.size = l.length + 1 := by rw [← Array.length_toList, pc.length_eq, List.length_cons, Array.length_toList, hn]
    have hb1 : es1.size < scanBound := by rw [hsz]; exact room
    have hled : w.params.followText "set-order" = true ∨ t1.led = true := hl.imp id fun z => by rw [hl1]; exact z
    have fin : ∀ h', Heap.SameBut a s.heap h' → SetT w h' a (k :: l) → Q true { s with heap := h' } := fun h' sb r => hQ true h' sb (by rw [if_neg hSk]; exact r)
    refine wpAny_bind (hgw _ ?_)
    split
    · refine wpAny_bind ?_
      rw [hashByValue_scannable 8 hsc]
      refine wpAny_pure ?_
      refine setT_add_tail ?_ ho hex hd g1 p1 nd1 hb1 ?_ ?_ ?_ ?_
      · intro b s₁ Q' q; cases b <;> first | exact wpAny_pure q | exact wpAny_rule q
      · first | (split <;> first | exact hf1 | exact SetTable.fits_plain_off hf1) | exact hf1
      · first | (split <;> exact hr1) | exact hr1
      · first | (split <;> exact hled) | exact hled
      · intro h' sb r; dsimp only; exact wpAny_pure (fin h' sb r)
    · refine wpAny_bind (wpAny_pure ?_)
      simp only [↓reduceIte]
      refine setT_add_tail ?_ ho hex hd g1 p1 nd1 hb1 hf1 hr1 hled ?_
      · intro b s₁ Q' q; cases b <;> first | exact wpAny_pure q | exact wpAny_rule q
      · intro h' sb r; dsimp only; exact wpAny_pure (fin h' sb r)
/-- what a set has got of the first i of these texts -/
structure TGot (xs : List Str) (i : Nat) (l : List Str) : Prop where
  mem : ∀ x, x ∈ l ↔ x ∈ xs.take i
  most : l.length ≤ i
theorem TGot.next {xs : List Str} {i : Nat} {l : List Str} {x : Str} (g : TGot xs i l) (e : xs[i]? = some x) : TGot xs (i + 1) (if x ∈ l then l else x :: l) := by
  have tk : xs.take (i + 1) = xs.take i ++ [x] := by
    obtain ⟨h, he⟩ := List.getElem?_eq_some_iff.mp e
    rw [List.take_succ, e]
    rfl
  by_cases h : x ∈ l
  · rw [if_pos h]
    refine ⟨fun y => ?_, Nat.le_succ_of_le g.most⟩
    rw [tk, List.mem_append, List.mem_singleton, ← g.mem y]
    exact ⟨.inl, fun z => z.elim id fun z => z ▸ h⟩
  · rw [if_neg h]
    refine ⟨fun y => ?_, by rw [List.length_cons]; exact Nat.succ_le_succ g.most⟩
    rw [tk, List.mem_append, List.mem_singleton, List.mem_cons, g.mem y]
    exact Or.comm
/-- the loop of set.update -/
theorem tupdate {I : Addr} {fp wr : List Addr} {G : Array GenState → Array GenState → Prop} {n : Nat} {Pv : Nat → Value → Prop} {St : Nat → Shared → Prop} {R : Result → Shared → Prop}
    (W : WalksS P w A.in1 I fp wr G n Pv St) (S : Addr) (hS : S ∉ fp) (xs : List Str) (hn : n = xs.length) (few : xs.length ≤ 1000) (val : ∀ i v, Pv i v → ∃ t, v = .str (xs.getD i Str.empty) t)
    (h0 : Heap) (hS0 : h0.get? S = none) (hw0 : ∀ b ∈ wr, h0.get? b = none) :
    ∀ (d i : Nat) (s : Shared), n - i = d → i ≤ n → St i s → (∀ b o, h0.get? b = some o → s.heap.get? b = some o) → (∃ l, SetT w s.heap S l ∧ TGot xs i l) →
      (∀ s' l, Moved (S :: wr) G s s' → SetT w s'.heap S l → TGot xs n l → (∀ b o, h0.get? b = some o → s'.heap.get? b = some o) → R (.ok (.ret .none)) s') →
      codeAny (model P w) A (.builtin "set.update.loop" ⟨[.ref S, .ref I], []⟩) R s := by
  have out : S ∉ wr := fun z => hS (W.sub _ z)
  have up : ∀ b ∈ wr, b ∈ S :: wr := fun b z => List.mem_cons_of_mem _ z
  have moved : ∀ {s s' : Shared}, Moved wr G s s' → (∀ b o, h0.get? b = some o → s.heap.get? b = some o) → ∀ b o, h0.get? b = some o → s'.heap.get? b = some o := fun m ext b o e =>
    m.heap b o (fun z => nomatch (hw0 b z).symm.trans e) (ext b o e)
  intro d
  induction d with
  | zero =>
    intro i s hd hi st ext ⟨l, N, g⟩ hR
    obtain rfl : i = n := by omega
    refine codeAny_builtin F.entry_set_update_loop ?_
    rw [Around.under_plainId F.plain_set_update_loop _]
    show wpAny _ A.in1 (pyNext (.ref I) >>= _) _ _ s
    refine wpAny_bind (W.done s _ _ st fun s' m => ?_)
    show wpAny _ A.in1 (ret Value.none) _ _ s'
    exact wpAny_pure (hR s' l (m.mono up) (N.at fun o e => m.heap S o out e) g (moved m ext))
  | succ d ih =>
    intro i s hd hi st ext ⟨l, N, g⟩ hR
    have lt : i < n := by omega
    refine codeAny_builtin F.entry_set_update_loop ?_
    rw [Around.under_plainId F.plain_set_update_loop _]
    show wpAny _ A.in1 (pyNext (.ref I) >>= _) _ _ s
    refine wpAny_bind (W.item i s _ _ lt st fun v s' hv st' m => ?_)
    obtain ⟨t, rfl⟩ := val i v hv
    have hx : xs[i]? = some (xs.getD i Str.empty) := by rw [List.getD_eq_getElem?_getD, List.getElem?_eq_getElem (by omega)]; rfl
    have ext' := moved m ext
    have N' : SetT w s'.heap S l := N.at fun o e => m.heap S o out e
    show wpAny _ A.in1 (holding [Value.str (xs.getD i Str.empty) t] (setAdd S (.str (xs.getD i Str.empty) t)) >>= _) _ _ s'
    generalize xs.getD i Str.empty = x at hx ⊢
    refine wpAny_bind (wpAny_holding ?_)
    unfold setAdd
    refine wpAny_holding ?_
    refine wpAny_bind ((PySem.strKind P w).pyHash (k := x) (isStr_self x t) ?_)
    refine setT_add (s := { s' with toks := s'.toks + 1 }) N' (by have := g.most; unfold scanBound; omega) fun b h' sb N2 => ?_
    have g' := g.next hx
    have ext2 : ∀ b o, h0.get? b = some o → h'.get? b = some o := fun b o e => (sb.2 b (fun z => by rw [z, hS0] at e; exact nomatch e)).trans (ext' b o e)
    refine wpAny_pure ⟨plainId_quiet F.plain_set_update_loop _, ih (i + 1) _ (by omega) lt (W.frame _ s' _ _ st' (Nat.le_succ _) fun b hb o e => ?_) ext2 ⟨_, N2, g'⟩ fun s2 l2 m2 N3 g3 ext3 => ?_⟩
    · rw [sb.2 b (fun z => hS (z ▸ hb))]
      exact e
    · refine hR s2 l2 (Moved.trans W.gtrans ((m.mono up).then_heap (Nat.le_succ _) fun b o hb e => ?_) m2) N3 g3 ext3
      rw [sb.2 b (fun z => hb (z ▸ List.mem_cons_self))]
      exact e
end
end L2

set_option Elab.async false
set_option linter.all false
set_option maxRecDepth 100000
set_option maxHeartbeats 4000000
/-! set(list), set(tuple) of texts; sorted of such a set -/
namespace L2
open PySem PySem.SeqAt PySem.Spec PyProof.Rows
section
variable {P : Program} {w : World} {A : Around} {E : Value → Shared → Prop} {s : Shared}
def TMade (w : World) (s : Shared) (xs : List Str) (s' : Shared) : Prop := ∃ h' tk l, s' = { s with heap := h', toks := tk } ∧ SetT w h' s.heap.objs.size l ∧ TGot xs xs.length l ∧ ∀ b o, s.heap.get? b = some o → h'.get? b = some o
theorem tset_list {l : Addr} {us : Array Value} (xs : List Str) {Q : Value → Shared → Prop} (hh : A.handled = none) (hl : s.heap.IsList l us) (hit : PyProof.Rows.StrsAre us.toList xs)
    (few : xs.length ≤ 1000) (q : ∀ s', TMade w s xs s' → Q (.ref s.heap.objs.size) s') :
    wpAny (model P w) A (call (.type "set") [.ref l]) Q E s := by
  have n0 : us.size = xs.length := by
    have z := PyProof.Rows.StrsAre.len_eq hit
    simpa using z
  obtain ⟨c, tl, mro⟩ := F.called_set.mro
  have made_ := F.called_set.made
  have sub_ := F.called_set.sub
  refine wpAny_call (codeAny_of_tree ?_)
  show wpAny _ _ (callAny (.type "set") _) _ _ _
  refine wpAny_pure ⟨Code.quiet_builtin _ (by decide +kernel), codeAny_builtin F.entry_type_call ?_⟩
  rw [Around.under_plain (weight_type_call_type "set" [.ref l] []) rfl]
  have isn := F.called_set.notType
  have can := F.called_set.canCreate
  have fit := F.typeCall_set_1 (.ref l)
  repeat (any_goals (first | assumption | wp_step))
  refine codeAny_mono (code_set_led1 (.ref l) (E := E) (Q₁ := fun obj s₁ => obj = .ref s.heap.objs.size ∧ s₁ = { s with heap := s.heap.push (newSetObj w) }) ⟨rfl, rfl⟩) fun r s₁ hr => ?_
  cases r with
  | error e => exact hr
  | ok fl =>
    cases fl with
    | ret obj =>
      obtain ⟨rfl, rfl⟩ := hr
      have gS : (s.heap.push (newSetObj w)).get? s.heap.objs.size = some (newSetObj w) := Heap.get?_push_size _ rfl
      have tS : Shared.TypeIs { s with heap := s.heap.push (newSetObj w) } (.ref s.heap.objs.size) "set" := ⟨_, gS, rfl⟩
      have look := F.called_set.init.lookup
      have bind_ := F.called_set.init.bind (.ref s.heap.objs.size)
      repeat (any_goals (first | assumption | wp_step))
      refine codeAny_mono (codeAny_call_builtin (R := wants (fun r s₂ => r = .none ∧ TMade w s xs s₂) E) F.called_set.init.plain F.entry_set_init (check_set_init_1 tS ?_)) fun r₂ s₂ hr₂ => ?_
      · obtain ⟨⟨kl, dl, tl', sl⟩, gl, rfl, nl, rfl⟩ := hl
        have gl' : (s.heap.push (newSetObj w)).get? l = some { cls := .type "list", dict := dl, data := .seq us nl, slots := sl } := Heap.get?_push_of_some _ gl
        have sub1 := F.sub_list_set
        have sub2 := F.sub_list_frozenset
        have nd : (Value.type "list" == Value.type "dict") = false := by decide
        have L1 : (s.heap.push (newSetObj w)).IsList l us := ⟨_, gl', rfl, nl, rfl⟩
        unfold Builtin.«set.__init__» noKeywords Builtin.Frozenset.updateFrom
        generalize hit_ : pyIter = IT
        wp_walk
        subst hit_
        refine wpAny_pyIter_list L1 ?_
        refine wpAny_bind (wpAny_runValue ?_)
        have ll : l < s.heap.objs.size := Heap.lt_size gl
        have sz1 : (s.heap.push (newSetObj w)).objs.size = s.heap.objs.size + 1 := Heap.size_push ..
        have ne1 : l ≠ (s.heap.push (newSetObj w)).objs.size := by
          rw [sz1]
          exact Nat.ne_of_lt (Nat.lt_succ_of_lt ll)
        have out : s.heap.objs.size ∉ [(s.heap.push (newSetObj w)).objs.size, l] := by
          rw [sz1]
          intro z
          rcases List.mem_cons.mp z with z | z
          · exact absurd z (Nat.ne_of_lt (Nat.lt_succ_self _))
          · exact absurd (List.mem_singleton.mp z) (Nat.ne_of_gt ll)
        have val : ∀ (i : Nat) (v : Value), us[i]? = some v → ∃ t, v = .str (xs.getD i Str.empty) t := fun i v hv => SS.strs_at hit i v (by rw [Array.getElem?_toList]; exact hv)
        have W0 := (Walks.list (prog := P) (w := w) (A := A.in1.in1.in1) (show A.in1.in1.in1.handled = none by simp [hh]) (s.heap.push (newSetObj w)).objs.size l ne1 us).toS
        refine tupdate W0 s.heap.objs.size out xs n0 few val s.heap (absent_of (Nat.le_refl _)) (fun b hb => absent_of (by
            rw [List.mem_singleton.mp hb, sz1]
            exact Nat.le_succ _)) (us.size - 0) 0 _ (by omega) (Nat.zero_le _)
          ⟨⟨_, Heap.get?_push_size _ rfl, rfl, rfl⟩, L1.push _⟩ (fun b o e => Heap.get?_push_of_some _ (Heap.get?_push_of_some _ e)) ?first ?last
        case first => exact ⟨[], setT_new (Heap.get?_push_of_some _ gS), ⟨fun x => by simp, Nat.le_refl _⟩⟩
        case last =>
          intro s' L m N g ext
          obtain ⟨h', gn, dr, tk', os'⟩ := s'
          cases (show gn = s.gens from m.gens)
          cases (show dr = s.drawn from m.drawn)
          cases (show os' = s.os from m.os)
          show wpAny _ _ _ _ _ _
          refine wpAny_pure ?_
          show wpAny _ _ (ret Value.none) _ _ _
          rw [n0] at g
          exact wpAny_pure ⟨rfl, h', tk', L, rfl, N, g, ext⟩
      · cases r₂ with
        | error e => exact hr₂
        | ok fl₂ =>
          cases fl₂ with
          | ret r =>
            obtain ⟨rfl, hm⟩ := hr₂
            have hm' := hm
            obtain ⟨h', tk, L, rfl, N, g, ext⟩ := hm
            repeat (any_goals (first | assumption | wp_step))
            exact q _ hm'
          | _ => exact hr₂.elim
    | _ => exact hr.elim
theorem tset_tuple {l : Addr} {us : Array Value} (xs : List Str) {Q : Value → Shared → Prop} (hh : A.handled = none) (hl : s.heap.IsTuple l us) (hit : PyProof.Rows.StrsAre us.toList xs)
    (few : xs.length ≤ 1000) (q : ∀ s', TMade w s xs s' → Q (.ref s.heap.objs.size) s') :
    wpAny (model P w) A (call (.type "set") [.ref l]) Q E s := by
  have n0 : us.size = xs.length := by
    have z := PyProof.Rows.StrsAre.len_eq hit
    simpa using z
  obtain ⟨c, tl, mro⟩ := F.called_set.mro
  have made_ := F.called_set.made
  have sub_ := F.called_set.sub
  refine wpAny_call (codeAny_of_tree ?_)
  show wpAny _ _ (callAny (.type "set") _) _ _ _
  refine wpAny_pure ⟨Code.quiet_builtin _ (by decide +kernel), codeAny_builtin F.entry_type_call ?_⟩
  rw [Around.under_plain (weight_type_call_type "set" [.ref l] []) rfl]
  have isn := F.called_set.notType
  have can := F.called_set.canCreate
  have fit := F.typeCall_set_1 (.ref l)
  repeat (any_goals (first | assumption | wp_step))
  refine codeAny_mono (code_set_led1 (.ref l) (E := E) (Q₁ := fun obj s₁ => obj = .ref s.heap.objs.size ∧ s₁ = { s with heap := s.heap.push (newSetObj w) }) ⟨rfl, rfl⟩) fun r s₁ hr => ?_
  cases r with
  | error e => exact hr
  | ok fl =>
    cases fl with
    | ret obj =>
      obtain ⟨rfl, rfl⟩ := hr
      have gS : (s.heap.push (newSetObj w)).get? s.heap.objs.size = some (newSetObj w) := Heap.get?_push_size _ rfl
      have tS : Shared.TypeIs { s with heap := s.heap.push (newSetObj w) } (.ref s.heap.objs.size) "set" := ⟨_, gS, rfl⟩
      have look := F.called_set.init.lookup
      have bind_ := F.called_set.init.bind (.ref s.heap.objs.size)
      repeat (any_goals (first | assumption | wp_step))
      refine codeAny_mono (codeAny_call_builtin (R := wants (fun r s₂ => r = .none ∧ TMade w s xs s₂) E) F.called_set.init.plain F.entry_set_init (check_set_init_1 tS ?_)) fun r₂ s₂ hr₂ => ?_
      · obtain ⟨⟨kl, dl, tl', sl⟩, gl, rfl, nl, rfl⟩ := hl
        have gl' : (s.heap.push (newSetObj w)).get? l = some { cls := .type "tuple", dict := dl, data := .seq us nl, slots := sl } := Heap.get?_push_of_some _ gl
        have sub1 := F.sub_tuple_set
        have sub2 := F.sub_tuple_frozenset
        have nd : (Value.type "tuple" == Value.type "dict") = false := by decide
        have L1 : (s.heap.push (newSetObj w)).IsTuple l us := ⟨_, gl', rfl, nl, rfl⟩
        unfold Builtin.«set.__init__» noKeywords Builtin.Frozenset.updateFrom
        generalize hit_ : pyIter = IT
        wp_walk
        subst hit_
        refine wpAny_pyIter_tuple L1 ?_
        refine wpAny_bind (wpAny_runValue ?_)
        have ll : l < s.heap.objs.size := Heap.lt_size gl
        have sz1 : (s.heap.push (newSetObj w)).objs.size = s.heap.objs.size + 1 := Heap.size_push ..
        have ne1 : l ≠ (s.heap.push (newSetObj w)).objs.size := by
          rw [sz1]
          exact Nat.ne_of_lt (Nat.lt_succ_of_lt ll)
        have out : s.heap.objs.size ∉ [(s.heap.push (newSetObj w)).objs.size, l] := by
          rw [sz1]
          intro z
          rcases List.mem_cons.mp z with z | z
          · exact absurd z (Nat.ne_of_lt (Nat.lt_succ_self _))
          · exact absurd (List.mem_singleton.mp z) (Nat.ne_of_gt ll)
        have val : ∀ (i : Nat) (v : Value), us[i]? = some v → ∃ t, v = .str (xs.getD i Str.empty) t := fun i v hv => SS.strs_at hit i v (by rw [Array.getElem?_toList]; exact hv)
        have W0 := (Walks.tuple (prog := P) (w := w) (A := A.in1.in1.in1) (show A.in1.in1.in1.handled = none by simp [hh]) (s.heap.push (newSetObj w)).objs.size l ne1 us).toS
        refine tupdate W0 s.heap.objs.size out xs n0 few val s.heap (absent_of (Nat.le_refl _)) (fun b hb => absent_of (by
            rw [List.mem_singleton.mp hb, sz1]
            exact Nat.le_succ _)) (us.size - 0) 0 _ (by omega) (Nat.zero_le _)
          ⟨⟨_, Heap.get?_push_size _ rfl, rfl, rfl⟩, L1.push _⟩ (fun b o e => Heap.get?_push_of_some _ (Heap.get?_push_of_some _ e)) ?first ?last
        case first => exact ⟨[], setT_new (Heap.get?_push_of_some _ gS), ⟨fun x => by simp, Nat.le_refl _⟩⟩
        case last =>
          intro s' L m N g ext
          obtain ⟨h', gn, dr, tk', os'⟩ := s'
          cases (show gn = s.gens from m.gens)
          cases (show dr = s.drawn from m.drawn)
          cases (show os' = s.os from m.os)
          show wpAny _ _ _ _ _ _
          refine wpAny_pure ?_
          show wpAny _ _ (ret Value.none) _ _ _
          rw [n0] at g
          exact wpAny_pure ⟨rfl, h', tk', L, rfl, N, g, ext⟩
      · cases r₂ with
        | error e => exact hr₂
        | ok fl₂ =>
          cases fl₂ with
          | ret r =>
            obtain ⟨rfl, hm⟩ := hr₂
            have hm' := hm
            obtain ⟨h', tk, L, rfl, N, g, ext⟩ := hm
            repeat (any_goals (first | assumption | wp_step))
            exact q _ hm'
          | _ => exact hr₂.elim
    | _ => exact hr.elim
end
end L2

set_option Elab.async false
set_option linter.all false
set_option maxRecDepth 100000
set_option maxHeartbeats 4000000
/-! sets of texts: rules of the layer -/
namespace L2
open PySem PySem.SeqAt PySem.Spec PyProof.Rows
/-- a set of texts, as it stands in the layer -/
def TxO (w : World) (a : Addr) (l : List Str) : HO := .ext fun h => SetT w h a l
theorem txO_ok {P : Program} {w : World} {H : Hp} {h : Heap} {a : Addr} {l : List Str} (N : SetT w h a l) : ObjOk P w H h a (TxO w a l) := by
  have ⟨o, _, _, _, ho, _⟩ := N
  exact ⟨N, ⟨o, ho⟩, fun h1 h2 p k => SetT.at p k⟩
end L2
namespace S1
open PySem PySem.W PySem.Spec PyProof.Rows L2
section
variable {X : Cx}
/-- sorted(set), the members texts -/
def rSortTx (w : World) : List V → Hp → VK → Prop := fun vs H Q => ∃ (a : Addr) (l : List Str), vs = [V.ref a] ∧ H a = some (TxO w a l) ∧ l.length ≤ 1000 ∧
  ∀ (ys : List Str) (b : Addr), ys.Perm l → ys.Pairwise tlt → H b = none → Q (.ref b) (upd H b (.lst (ys.map V.str)))
theorem strs_perm {vs us : List Value} {xs : List Str} (pm : vs.Perm us) (e : EachIs RS us xs) : ∃ ys : List Str, ys.Perm xs ∧ EachIs RS vs ys := by
  induction pm generalizing xs with
  | nil => exact ⟨xs, .refl _, e⟩
  | cons x _ ih =>
    cases e with
    | cons r t =>
      obtain ⟨ys, p, e2⟩ := ih t
      exact ⟨_ :: ys, p.cons _, .cons r e2⟩
  | swap x y l =>
    cases e with
    | cons r t =>
      cases t with
      | cons r2 t => exact ⟨_ :: _ :: _, .swap _ _ _, .cons r2 (.cons r t)⟩
  | trans _ _ ih1 ih2 =>
    obtain ⟨y1, p1, e1⟩ := ih2 e
    obtain ⟨y2, p2, e2⟩ := ih1 e1
    exact ⟨y2, p2.trans p1, e2⟩
theorem good_each {w : World} : ∀ {es : List (Int × Value)}, (∀ e ∈ es, GoodT w e) → EachIs RS (es.map (·.2)) (es.map txOf)
  | [], _ => .nil
  | e :: es, g => by
    obtain ⟨x, tk, h1, _⟩ := g e List.mem_cons_self
    refine .cons ?_ (good_each fun y hy => g y (List.mem_cons_of_mem _ hy))
    show RelV (.str (txOf e)) e.2
    unfold txOf
    rw [h1]
    exact ⟨tk, rfl⟩
theorem cr_sortTx (hc : X.calm = true) (hu : X.A.units + 64 < cLine) : CallR X (.builtin "sorted") (rSortTx X.w) := by
  intro pins s σ H vs us Q I r h
  obtain ⟨a, l, rfl, ha, few, q⟩ := h
  have N : SetT X.w s.heap a l := (I.hok a _ ha).1
  rw [Vals.ref1 r]
  obtain ⟨o, es, ep, t, g, hex, hd, good, pl, nd, hb, hf, hr, hl⟩ := N
  refine PySem.Calls.call_function_entry kind_sorted plain_sorted entry_sorted (args_sorted1 _) ?_
  unfold Builtin.«sorted»
  refine wpAny_bind (m := checkCount "sorted" 1 1 _) (wpAny_pure ?_)
  refine wpAny_bind (collect_set (A := X.A.in1) (I.ok.hd hc) ⟨o, g, hex.1, hd⟩ hf hb hr hl fun s1 vs k1 hz g1 o1 pm => ?_)
  obtain ⟨ys, py, e0⟩ := strs_perm pm (good_each good)
  have pyl : ys.Perm l := py.trans pl
  have lenv : vs.length = ys.length := e0.length
  have leny : ys.length ≤ 1000 := by rw [pyl.length_eq]; exact few
  refine wpAny_bind (wpAny_newList ?_ (by rw [sizeLine_eq]; omega))
  have gL : (s1.heap.push (seqObj "list" vs.toArray 0)).get? s1.heap.objs.size = some (seqObj "list" vs.toArray 0) := Heap.get?_push_size _ rfl
  have rd := each_reads (h := sortingHeap (s1.heap.push (seqObj "list" vs.toArray 0)) s1.heap.objs.size vs) e0
  have al : AllAlike (ys.map PyData.str) := AllAlike.of fun b b' => by simp [alike]
  have un : ∀ d, d ∈ ys.map PyData.str → X.A.in1.in1.units + d.depth < cLine := fun d z => by
    obtain ⟨p, _, rfl⟩ := List.mem_map.mp z
    simp only [Around.in1_units, PyData.depth]
    omega
  have srt := SortsAt.data (prog := X.prog) (w := X.w) (A := X.A.in1.in1) (s := { s1 with heap := sortingHeap (s1.heap.push (seqObj "list" vs.toArray 0)) s1.heap.objs.size vs }) (each_map (R := fun v d => ∃ as, Reads _ v d as) PyData.str rd) al
    (Sortable.others fun b => ⟨fun z => (nomatch z), fun _ z => (nomatch z)⟩) un
  have out := strs_each (sortVals_data (R := RS) (enc := PyData.str) false e0 rd al)
  refine wpAny_bind (wpAny_holding (wpAny_call_entry slot_list_sort ⟨_, gL, rfl⟩ entry_list_sort (list_sort_vals (s := { s1 with heap := s1.heap.push (seqObj "list" vs.toArray 0) }) gL srt (by rw [sizeLine_eq]; omega) ⟨_, rfl, ?_⟩) (args_list_sort _)))
  generalize hO : sortVals (dataKind (sortingHeap (s1.heap.push (seqObj "list" vs.toArray 0)) s1.heap.objs.size vs) (ys.map PyData.str)) false vs vs = outs at out ⊢
  obtain ⟨c, hc'⟩ := sortedHeap_at (vs := vs) (out := outs.toArray) gL
  have fresh : H s1.heap.objs.size = none := I.hok.fresh hz
  have pm2 : (sortW ys).Perm ys := List.mergeSort_perm _ _
  have k : ∀ b u, s.heap.get? b = some u → (sortedHeap (s1.heap.push (seqObj "list" vs.toArray 0)) s1.heap.objs.size vs outs.toArray).get? b = some u := fun b u e => by
    have z := k1 b u e
    have lt := Heap.lt_size z
    rw [sortedHeap_old (Nat.ne_of_lt lt) (by rw [size_push']; exact Nat.lt_succ_of_lt lt)]
    exact Heap.get?_push_of_some _ z
  have len3 : ((sortW ys).map V.str).length ≤ sizeLine := by rw [List.length_map, pm2.length_eq]; exact Nat.le_of_lt (small1000 leny)
  refine wpAny_pure ⟨_, rfl, ?_⟩
  have J : Inv X pins σ (upd H s1.heap.objs.size (.lst ((sortW ys).map V.str))) { s with heap := sortedHeap (s1.heap.push (seqObj "list" vs.toArray 0)) s1.heap.objs.size vs outs.toArray, gens := s1.gens, drawn := s1.drawn, toks := s1.toks } :=
    I.call (ch := []) (Un.laid k hz fresh) (I.hok.laid k hz ⟨len3, outs, c, out, hc'⟩) (by rw [g1]; exact I.bare) (fun _ z => nomatch z)
  have e : ({ s1 with heap := sortedHeap (s1.heap.push (seqObj "list" vs.toArray 0)) s1.heap.objs.size vs outs.toArray } : Shared) = { s with heap := sortedHeap (s1.heap.push (seqObj "list" vs.toArray 0)) s1.heap.objs.size vs outs.toArray, gens := s1.gens, drawn := s1.drawn, toks := s1.toks } := by
    cases s1
    cases s
    cases o1
    rfl
  rw [e]
  exact ⟨.ref _, _, J, rfl, q (sortW ys) _ (pm2.trans pyl) (sortW_up (pyl.nodup_iff.mpr nd)) fresh⟩
end
end S1

set_option Elab.async false
set_option linter.all false
set_option maxRecDepth 100000
set_option maxHeartbeats 4000000
/-! set(xs) of texts -/
namespace S1
open PySem PySem.W PySem.Spec PyProof.Rows L2
section
variable {X : Cx}
/-- set(xs), xs a list or a tuple of texts -/
def rSetTx (K : PySem.W.Frag) (w : World) : List V → Hp → VK → Prop := fun vs H Q => ∃ (p : Addr) (xs : List Str), vs = [V.ref p] ∧ (SqL K H p (xs.map V.str) ∨ SqT K H p (xs.map V.str)) ∧ xs.length ≤ 1000 ∧
  ∀ (a : Addr) (l : List Str), H a = none → l.Nodup → (∀ x, x ∈ l ↔ x ∈ xs) → l.length ≤ 1000 → Q (.ref a) (upd H a (TxO w a l))
theorem cr_setTx (hc : X.calm = true) : CallR X (.type "set") (rSetTx X.K X.w) := by
  intro pins s σ H vs us Q I r h
  obtain ⟨p, xs, rfl, hq, few, q⟩ := h
  rw [Vals.ref1 r]
  have fresh : H s.heap.objs.size = none := I.hok.fresh (Nat.le_refl _)
  have fin : ∀ s', TMade X.w s xs s' → EP X pins σ Q (.ref s.heap.objs.size) s' := fun s' hm => by
    obtain ⟨h', tk, l, rfl, N, g, ext⟩ := hm
    have nd : l.Nodup := by
      obtain ⟨_, _, _, _, _, _, _, _, _, nd, _⟩ := N
      exact nd
    exact ⟨.ref s.heap.objs.size, upd H s.heap.objs.size (TxO X.w s.heap.objs.size l), I.laid (t' := tk) ext (Nat.le_refl _) (txO_ok N), rfl, q _ l fresh nd (fun x => by rw [g.mem x, List.take_length]) (Nat.le_trans g.most few)⟩
  rcases hq with hq | hq
  · obtain ⟨its, rv, pl, hz⟩ := I.list hq
    exact tset_list xs (I.ok.hd hc) pl.isList (by simpa using strsAre_of rv) few fin
  · obtain ⟨its, rv, pl, hz⟩ := I.tuple hq
    exact tset_tuple xs (I.ok.hd hc) pl (by simpa using strsAre_of rv) few fin
end
end S1

set_option Elab.async false
set_option linter.all false
set_option maxRecDepth 100000
set_option maxHeartbeats 2000000
/-! the law's own questions: words, rows of words, rows of truths -/
namespace S1
open PySem PySem.W PySem.Spec PyProof.Rows L2
section
variable {X : Cx}
def rEqP : R2 := fun x y H Q => ∃ d e, Dat H x d ∧ Dat H y e ∧ d.plain = true ∧ e.plain = true ∧ d.depth ≤ 8 ∧ Q (.bl (PyData.eqv d e)) H
theorem op_eqP (hu : X.A.units + 64 < cLine) : OpR X (compareOp .Eq) rEqP := by
  intro pins s σ H x y v u Q I rx ry h
  obtain ⟨d, e, D1, D2, p1, p2, dp, q⟩ := h
  obtain ⟨as, R1⟩ := reads_of_dat I.hok D1 rx
  obtain ⟨bs, R2⟩ := reads_of_dat I.hok D2 ry
  exact PySem.SeqAt.eq_plain R1 R2 p1 p2 (by have := Nat.min_le_left d.depth e.depth; omega) ⟨.bl _, H, I, rfl, q⟩
end
theorem plains_map {α : Type} (f : α → PyData) (h : ∀ x, (f x).plain = true) : ∀ l : List α, PyData.plainAll (l.map f) = true
  | [] => rfl
  | x :: l => by rw [List.map_cons, PyData.plainAll, h x, plains_map f h l]; rfl
theorem eq_nilL {xs : List PyData} : PyData.eqv (.list xs) (.list []) = xs.isEmpty := by
  cases xs <;> simp [PyData.eqv, PyData.eqvAll]
theorem eqvs_strs : ∀ xs ys : List Str, PyData.eqvAll (xs.map PyData.str) (ys.map PyData.str) = decide (xs = ys)
  | [], [] => rfl
  | [], _ :: _ => by simp [PyData.eqvAll]
  | _ :: _, [] => by simp [PyData.eqvAll]
  | x :: xs, y :: ys => by
    rw [List.map_cons, List.map_cons, PyData.eqvAll, eqvs_strs xs ys]
    have e : PyData.eqv (.str x) (.str y) = decide (x = y) := by
      simp only [PyData.eqv]
      by_cases h : x = y
      · rw [h, decide_eq_true rfl]
        simp
      · rw [decide_eq_false h]
        exact beq_false_of_ne h
    rw [e]
    by_cases h : x = y <;> by_cases h2 : xs = ys <;> simp [h, h2]
theorem eqv_strs (xs ys : List Str) : PyData.eqv (.list (xs.map PyData.str)) (.list (ys.map PyData.str)) = decide (xs = ys) := by
  simp only [PyData.eqv]
  exact eqvs_strs xs ys
theorem tlt_trans {x y z : Str} (h1 : tlt x y) (h2 : tlt y z) : tlt x z := by
  have a : dataLt (.str x) (.str y) = true := by rw [dataLt_str]; exact decide_eq_true h1
  have b : dataLt (.str y) (.str z) = true := by rw [dataLt_str]; exact decide_eq_true h2
  have c := dataLt_trans a b
  rw [dataLt_str, decide_eq_true_eq] at c
  exact c
/-- two that rise and have the same members are one -/
theorem rise_unique {α : Type} {r : α → α → Prop} (irr : ∀ x, ¬ r x x) (tr : ∀ {x y z}, r x y → r y z → r x z) : ∀ {xs ys : List α}, xs.Pairwise r → ys.Pairwise r → (∀ x, x ∈ xs ↔ x ∈ ys) → xs = ys
  | [], [], _, _, _ => rfl
  | [], y :: ys, _, _, h => absurd ((h y).mpr List.mem_cons_self) (by simp)
  | x :: xs, [], _, _, h => absurd ((h x).mp List.mem_cons_self) (by simp)
  | x :: xs, y :: ys, h1, h2, h => by
    obtain ⟨a1, a2⟩ := List.pairwise_cons.mp h1
    obtain ⟨b1, b2⟩ := List.pairwise_cons.mp h2
    have e : x = y := by
      rcases List.mem_cons.mp ((h x).mp List.mem_cons_self) with z | z
      · exact z
      · rcases List.mem_cons.mp ((h y).mpr List.mem_cons_self) with w | w
        · exact w.symm
        · exact absurd (tr (b1 x z) (a1 y w)) (irr y)
    subst e
    rw [rise_unique (r := r) irr tr a2 b2 fun z => ⟨fun m => by
      rcases List.mem_cons.mp ((h z).mp (List.mem_cons_of_mem _ m)) with w | w
      · exact absurd (a1 z m) (by rw [w]; exact irr x)
      · exact w, fun m => by
      rcases List.mem_cons.mp ((h z).mpr (List.mem_cons_of_mem _ m)) with w | w
      · exact absurd (b1 z m) (by rw [w]; exact irr x)
      · exact w⟩]
theorem pair_of_rise {α : Type} {r : α → α → Prop} (tr : ∀ {x y z}, r x y → r y z → r x z) : ∀ {l : List α}, (∀ i x y, l[i]? = some x → l[i + 1]? = some y → r x y) → l.Pairwise r
  | [], _ => .nil
  | [_], _ => List.pairwise_singleton _ _
  | x :: y :: l, h => by
    have t := pair_of_rise (r := r) tr (l := y :: l) fun i a b h1 h2 => h (i + 1) a b h1 h2
    have xy := h 0 x y rfl rfl
    refine List.pairwise_cons.mpr ⟨fun z hz => ?_, t⟩
    rcases List.mem_cons.mp hz with e | m
    · rw [e]; exact xy
    · exact tr xy ((List.pairwise_cons.mp t).1 z m)
theorem riseB_at : ∀ {ds : List PyData}, riseB ds = true → ∀ i x y, ds[i]? = some x → ds[i + 1]? = some y → dataLt x y = true
  | [], _, _, _, _, h, _ => by simp at h
  | [_], _, i, _, _, _, h => by simp at h
  | a :: b :: r, h, 0, x, y, h1, h2 => by
    cases (show some a = some x from h1)
    cases (show some b = some y from h2)
    have z : (dataLt a b && riseB (b :: r)) = true := h
    rw [Bool.and_eq_true] at z
    exact z.1
  | a :: b :: r, h, i + 1, x, y, h1, h2 => by
    have z : (dataLt a b && riseB (b :: r)) = true := h
    rw [Bool.and_eq_true] at z
    exact riseB_at z.2 i x y h1 h2
theorem rise_strs {xs : List Str} (h : riseB (xs.map PyData.str) = true) : xs.Pairwise tlt := pair_of_rise (r := tlt) tlt_trans fun i x y h1 h2 => by
  have z := riseB_at h i (.str x) (.str y) (by rw [List.getElem?_map, h1]; rfl) (by rw [List.getElem?_map, h2]; rfl)
  rw [dataLt_str, decide_eq_true_eq] at z
  exact z
/-- a row is its sorted set exactly if it rises -/
theorem sorted_rise {xs l ys : List Str} (pm : ys.Perm l) (up : ys.Pairwise tlt) (mem : ∀ x, x ∈ l ↔ x ∈ xs) : decide (xs = ys) = riseB (xs.map PyData.str) := by
  cases h : riseB (xs.map PyData.str) with
  | true =>
    exact decide_eq_true (rise_unique (r := tlt) tlt_irrefl tlt_trans (rise_strs h) up fun x => by rw [pm.mem_iff, mem x])
  | false =>
    refine decide_eq_false fun e => ?_
    rw [e, riseB_strs up] at h
    cases h
section
variable {K : PySem.W.Frag} {g : TG} {te : TE} {tt : TT} {vs : List Nat} {σ : L2.St} {H : Hp} {D : Addr} {Qd : Hp → Prop}
theorem lc_signs {x : Str} (Pv : Nat → Hp → Prop) (h0 : Pv 0 (upd H D (.lst [])))
    (step : ∀ (i c : Nat) (H4 : Hp), x.cps.toList[i]? = some c → Pv i H4 → g (.str ⟨#[c]⟩) (wipe σ vs) H4 fun σ2 H2 => wipe σ2 vs = wipe σ vs ∧ tt σ2 H2 fun b H3 =>
      if b = true then te σ2 H3 fun y H4 => ∃ acc, H4 D = some (.lst acc) ∧ acc.length < sizeLine ∧ Pv (i + 1) (upd H4 D (.lst (acc ++ [y]))) else Pv (i + 1) H3)
    (hd : ∀ H5, Pv x.cps.size H5 → Qd H5) :
    ∃ W : Nat → Nat → Hp → Prop, (∃ m, W 0 m (upd H D (.lst []))) ∧ ∀ i m H, W i m H →
      ((Its x).stop i H ∧ Qd H) ∨ ((Its x).go i H ∧ ∃ Nx : Hp → Prop, (∀ H', Nx H' → ∃ m', m' < m ∧ W (i + 1) m' H') ∧ ∀ y H', (Its x).yld i H y H' → g y (wipe σ vs) H' fun σ2 H2 => wipe σ2 vs = wipe σ vs ∧ tt σ2 H2 fun b H3 =>
        if b = true then te σ2 H3 fun y H4 => ∃ acc, H4 D = some (.lst acc) ∧ acc.length < sizeLine ∧ Nx (upd H4 D (.lst (acc ++ [y]))) else Nx H3) := by
  refine ⟨fun i m H4 => m = x.cps.size - i ∧ i ≤ x.cps.size ∧ Pv i H4, ⟨_, rfl, Nat.zero_le _, h0⟩, ?_⟩
  rintro i m H4 ⟨rfl, hi, p⟩
  by_cases il : i < x.cps.size
  · refine .inr ⟨il, Pv (i + 1), fun H5 z => ⟨x.cps.size - (i + 1), by omega, rfl, il, z⟩, ?_⟩
    rintro y H' ⟨rfl, c, hc, rfl⟩
    exact step i c _ (by rw [Array.getElem?_toList]; exact hc) p
  · have e : i = x.cps.size := by omega
    subst e
    exact .inl ⟨Nat.le_refl _, hd H4 p⟩
end
section
variable {P : Program} {w : World} {K : PySem.W.Frag} {mg : Str → Option Value} {base : Heap}
theorem scJWord : FnScope ["value", "sign"] ["value"] (defScope sJWord) := ⟨rfl, rfl, rfl, by decide +kernel, rfl, by decide +kernel, by decide +kernel⟩
theorem scJWords : FnScope ["value", "word"] ["value"] (defScope sJWords) := ⟨rfl, rfl, rfl, by decide +kernel, rfl, by decide +kernel, by decide +kernel⟩
theorem scJRow : FnScope ["value", "size", "truth"] ["value", "size"] (defScope sJRow) := ⟨rfl, rfl, rfl, by decide +kernel, rfl, by decide +kernel, by decide +kernel⟩
theorem ok_jWord {f : Addr} {fd : FuncData} (F : Fun K "_law_is_word" "_law_is_word" sJWord f fd) (B : Blt mg) : FnOk P w K mg base CX0 1 f fd ["value"] (spJ isNm) := by
  refine F.ok scJWord (fun vs H Q E h => ?_) (fun cdv A outer s H vs Q E hr h => ?_)
  · obtain ⟨v, d, rfl, _⟩ := h
    rfl
  · obtain ⟨v, d, rfl, D, li, q⟩ := h
    have h64 : (A.deeper (envOfC "_law_is_word" (defScope sJWord) s.heap.objs.size f cdv)).units + 64 < cLine := hr.units
    refine ⟨_, pss_cons (ps_if (PW.pt (pw_or (pt_not (pt_val (pe_callB call_isi (by rfl) B.isi (by decide +kernel) (pa_cons (pv 0) (pa_cons (pe_bltn (v := V.ty "str") (by rfl) B.str (by decide +kernel) rfl) pa_nil)))))
        (pw_or1 (pt_not (pt_chain op_lt op_lt pe_int (pe_callB call_len_str (by rfl) B.len (by decide +kernel) (pa_cons (pv 0) pa_nil)) pe_int))))) (pss_one (ps_ret pe_bl)) pss_nil)
      (pss_one (ps_ret (pe_cmpR (op_eqP (by exact h64)) (pe_lc (own := [("sign", 1)]) (g := gName 1) (tt := tTest (tOp (fun x y H Q => ∃ (c : Nat) (z : Str), x = .str ⟨#[c]⟩ ∧ y = .str z ∧ Q (.bl (!decide (c ∈ z.cps.toList))) H) (tVar 1) (tC (V.str "abcdefghijklmnopqrstuvwxyz")))) (te := tVar 1) rfl scJWord.nd (pi_str (pv 0))
        (blkOk_by (N := ["value", "sign"]) (sc := defScope sJWord) (by decide +kernel)) (fun _ _ _ _ _ => pg_name (i := 1) scJWord.nd rfl (Or.inl rfl)) (fun _ _ _ _ _ => by exact pts_one (pt_cmpR op_notIn_sign (pv 1) pe_str (by with_unfolding_all rfl)))
        (fun _ _ _ _ _ => by exact pv 1)) (pe_lst pa_nil) (by with_unfolding_all rfl)))), ?_⟩
    refine ⟨_, rfl, _, _, _, _, isStr d, rfl, .ty _, ty_dat D, kit_ty (kit_str d), isStr d, rfl, ?_⟩
    cases h : isStr d with
    | false =>
      show if (!false) = true then _ else _
      rw [if_pos (by decide)]
      show if true = true then _ else _
      rw [if_pos rfl]
      have e : isNm d = false := by cases d <;> first | rfl | cases h
      rw [e] at q
      exact q H (Same.refl _)
    | true =>
      obtain ⟨x, rfl⟩ := str_of h
      cases dat_str D
      have len1 : x.length ≤ 1000 := by rw [lim, decide_eq_true_eq] at li; exact li
      have len : x.length ≤ sizeLine := Nat.le_of_lt (small1000 len1)
      have e := nmB_eq x
      show if (!true) = true then _ else _
      rw [if_neg (by decide)]
      refine ⟨_, rfl, x, rfl, len, _, _, rfl, rfl, _, rfl, ?_⟩
      have fin0 : nmB x = false → Q (.bl false) H := fun z => by
        have q' := q H (Same.refl _)
        rw [show isNm (.str x) = nmB x from rfl, z] at q'
        exact q'
      refine ite2 (fun h1 => ?_) (fun h1 => ?_)
      · refine ⟨_, _, rfl, rfl, _, rfl, ?_⟩
        have l1 : (0 : Int) < (x.length : Int) := of_decide_eq_true h1
        cases h2 : decide ((x.length : Int) < 9) with
        | false =>
          show if (!false) = true then _ else _
          rw [if_pos (by decide)]
          have l8 : ¬ (x.length : Int) < 9 := of_decide_eq_false h2
          exact fin0 (by rw [e, decide_eq_false (show ¬ x.length ≤ 8 by omega), Bool.and_false, Bool.false_and])
        | true =>
          show if (!true) = true then _ else _
          rw [if_neg (by decide)]
          have l8 : (x.length : Int) < 9 := of_decide_eq_true h2
          have e' : isNm (.str x) = (x.cps.toList.map azB).all id := by
            show nmB x = _
            rw [e, decide_eq_true (show 1 ≤ x.length by omega), decide_eq_true (show x.length ≤ 8 by omega), Bool.true_and, Bool.true_and]
          refine ⟨_, rfl, x, rfl, fun D0 hD => ?_⟩
          refine lc_signs (fun i H4 => H4 D0 = some (.lst (((x.cps.toList.take i).filter fun c => !azB c).map fun c => V.str ⟨#[c]⟩)) ∧ Same H H4) ⟨upd_same, same_new hD⟩ ?_ ?_
          · rintro i c H4 hc ⟨e4, S4⟩
            have il : i < x.cps.toList.length := (List.getElem?_eq_some_iff.mp hc).1
            rw [Array.length_toList] at il
            have hl : x.cps.size ≤ 8 := by show x.length ≤ 8; omega
            have hf : (x.cps.toList.take (i + 1)).filter (fun c => !azB c) = (x.cps.toList.take i).filter (fun c => !azB c) ++ if (!azB c) = true then [c] else [] := by
              rw [take_next hc, List.filter_append]
              congr 1
              cases h : azB c <;> simp [h]
            refine ⟨rfl, _, rfl, c, _, rfl, rfl, _, rfl, ?_⟩
            rw [abc_iff]
            refine ite2 (fun h => ?_) (fun h => ?_)
            · rw [if_pos h] at hf
              refine ⟨_, rfl, _, e4, ?_, ?_, same_upd S4 hD⟩
              · rw [List.length_map]
                exact small1000 (Nat.le_trans (List.length_filter_le _ _) (by rw [List.length_take, Array.length_toList]; omega))
              · rw [upd_same, hf, List.map_append]
                rfl
            · rw [if_neg h, List.append_nil] at hf
              exact ⟨by rw [hf]; exact e4, S4⟩
          · rintro H5 ⟨e5, S5⟩
            rw [← Array.length_toList, List.take_length] at e5
            refine ⟨Nat.zero_le _, fun le hle => ?_⟩
            have S7 := same_new (o := .lst []) hle
            refine ⟨.list ((x.cps.toList.filter fun c => !azB c).map fun c => PyData.str ⟨#[c]⟩), .list [], .lst (S7 _ _ e5) (dats_strs' (fun c => ⟨#[c]⟩) _), .lst upd_same .nil, plains_map (fun c => PyData.str ⟨#[c]⟩) (fun _ => rfl) _, rfl, by
              have := depths_map (fun c => PyData.str ⟨#[c]⟩) 0 (fun _ => Nat.le_refl _) (x.cps.toList.filter fun c => !azB c)
              simp only [PyData.depth]
              omega, ?_⟩
            have eb : PyData.eqv (.list ((x.cps.toList.filter fun c => !azB c).map fun c => PyData.str ⟨#[c]⟩)) (.list []) = isNm (.str x) := by
              rw [eq_nilL, List.isEmpty_map, e', all_id]
              clear e5
              induction x.cps.toList with
              | nil => rfl
              | cons c cs ih =>
                rw [List.all_cons]
                cases h : azB c with
                | true => rw [List.filter_cons_of_neg (by simp [h]), ih]; rfl
                | false => rw [List.filter_cons_of_pos (by simp [h])]; rfl
            rw [eb]
            exact q _ (S5.trans S7)
      · have l1 : ¬ (0 : Int) < (x.length : Int) := fun z => h1 (decide_eq_true z)
        refine ⟨_, rfl, ?_⟩
        show if (!false) = true then _ else _
        rw [if_pos (by decide)]
        exact fin0 (by rw [e, decide_eq_false (show ¬ 1 ≤ x.length by omega), Bool.false_and, Bool.false_and])
theorem ok_jRow {f : Addr} {fd : FuncData} (F : Fun K "_law_is_row" "_law_is_row" sJRow f fd) (B : Blt mg) : FnOk P w K mg base CX0 1 f fd ["value", "size"] spTruthsN := by
  refine F.ok scJRow (fun vs H Q E h => ?_) (fun cdv A outer s H vs Q E hr h => ?_)
  · obtain ⟨v, d, n, rfl, _⟩ := h
    rfl
  · obtain ⟨v, d, n, rfl, D, li, q⟩ := h
    refine ⟨_, pss_one (ps_ret (pe_and (pe_callB call_isi (by rfl) B.isi (by decide +kernel) (pa_cons (pv 0) (pa_cons (pe_bltn (v := V.ty "tuple") (by rfl) B.tuple (by decide +kernel) rfl) pa_nil)))
      (pe_and (pe_cmpR op_eq (pe_callB call_len_seq (by rfl) B.len (by decide +kernel) (pa_cons (pv 0) pa_nil)) (pv 1) (nomark _))
      (pe_one (pe_callB (cr_all rfl) (by rfl) B.all (by decide +kernel) (pa_cons (pe_lc (own := [("truth", 2)]) (g := gName 2) (tt := tYes) (te := tCB (rIsi K) (tCons (tVar 2) (tCons (tC (V.ty "bool")) tNil))) rfl scJRow.nd (pi_tup (pv 0))
          (blkOk_by (N := ["value", "size", "truth"]) (sc := defScope sJRow) (by decide +kernel)) (fun _ _ _ _ _ => pg_name (i := 2) scJRow.nd rfl (Or.inl rfl)) (fun _ _ _ _ _ => pts_nil)
          (fun _ _ _ _ _ => by exact pe_callB call_isi (by rfl) B.isi (by decide +kernel) (pa_cons (pv 2) (pa_cons (pe_bltn (v := V.ty "bool") (by rfl) B.bool (by decide +kernel) rfl) pa_nil)))) pa_nil)))))), ?_⟩
    refine ⟨_, rfl, _, _, _, _, isTup d, rfl, .ty _, ty_dat D, kit_ty (kit_tup d), isTup d, rfl, ?_⟩
    cases h : isTup d with
    | false =>
      rw [truthsB, h, Bool.false_and] at q
      show if false = true then _ else _
      rw [if_neg (by decide)]
      exact q H (Same.refl _)
    | true =>
      rw [truthsB, h, Bool.true_and] at q
      obtain ⟨ds, rfl⟩ := tup_of h
      obtain ⟨a, xs, rfl, e, Da⟩ := dat_tup D
      obtain ⟨len, lm⟩ := lim_tup li
      have q1 : ∀ H', Same H H' → Q (.bl (decide (ds.length = n) && ds.all isTr)) H' := q
      show if true = true then _ else _
      rw [if_pos rfl]
      refine ⟨_, rfl, _, _, rfl, .inr (SqT.of e), _, rfl, rfl, _, rfl, ?_⟩
      rw [Da.len]
      by_cases hn : ds.length = n
      · rw [decide_eq_true hn, Bool.true_and] at q1
        rw [show decide (V.int ((ds.length : Nat) : Int) = V.int ((n : Nat) : Int)) = true from decide_eq_true (by rw [hn])]
        show if true = true then _ else _
        rw [if_pos rfl]
        refine ⟨_, rfl, a, rfl, ⟨_, SqT.of e⟩, fun D0 hD0 => lc_allD (K := K) (p := isTr) e Da hD0 len (fun i x d H4 Qe hd S4 Dx k => ?_) gName_mono (fun H5 e5 S5 => ?_)⟩
        · exact ⟨rfl, _, rfl, _, _, _, _, isTr d, rfl, .ty _, ty_dat Dx, kit_ty (kit_bool d), k H4 (Same.refl _)⟩
        · refine ⟨D0, _, rfl, SqL.of e5, ?_⟩
          rw [all_id]
          exact q1 H5 S5
      · rw [decide_eq_false hn, Bool.false_and] at q1
        rw [show decide (V.int ((ds.length : Nat) : Int) = V.int ((n : Nat) : Int)) = false from decide_eq_false fun y => hn (by injection y with y; omega)]
        show if false = true then _ else _
        rw [if_neg (by decide)]
        exact q1 H (Same.refl _)
end
end S1

set_option Elab.async false
set_option linter.all false
set_option maxRecDepth 100000
set_option maxHeartbeats 2000000
/-! the law's own questions: rows of words, clauses, owns -/
namespace S1
open PySem PySem.W PySem.Spec PyProof.Rows L2
theorem nms_of : ∀ ds : List PyData, ds.all isNm = true → ∃ xs : List Str, ds = xs.map PyData.str ∧ ∀ x ∈ xs, nmB x = true
  | [], _ => ⟨[], rfl, fun _ h => nomatch h⟩
  | d :: ds, h => by
    rw [List.all_cons, Bool.and_eq_true] at h
    obtain ⟨xs, rfl, hx⟩ := nms_of ds h.2
    obtain ⟨x, rfl, h1⟩ := nm_of' h.1
    refine ⟨x :: xs, rfl, fun y hy => ?_⟩
    rcases List.mem_cons.mp hy with rfl | hy
    · exact h1
    · exact hx y hy
/-- whether any data is an ascending tuple of names -/
def wordsB (d : PyData) : Bool := isTup d && ((parts d).all isNm && riseB (parts d))
def spClW : Sp := fun vs H Q _ => ∃ (v : V) (b : Addr) (d : PyData) (ns : List Str), vs = [.ref b, v] ∧ Dat H v d ∧ lim d = true ∧ H b = some (.lst (ns.map V.str)) ∧ ∀ H', Same H H' → Q (.bl (isClO ns d)) H'
def spOwnW : Sp := fun vs H Q _ => ∃ (v u : V) (d : PyData) (ps : List Str), vs = [u, v] ∧ Dat H v d ∧ lim d = true ∧ Dat H u (nmsD ps) ∧ ps.Nodup ∧ ∀ H', Same H H' → Q (.bl (isOwnB ps d)) H'
section
variable {P : Program} {w : World} {K : PySem.W.Frag} {mg : Str → Option Value} {base : Heap}
theorem ok_jWords {f fW : Addr} {fd fdW : FuncData} (F : Fun K "_law_are_words" "_law_are_words" sJWords f fd) (Wo : Has K mg "_law_is_word" sJWord ["value"] fW fdW) (B : Blt mg) : FnOk P w K mg base CX0 2 f fd ["value"] (spJ wordsB) := by
  have GW : FnOk P w K mg base CX0 1 fW fdW ["value"] (spJ isNm) := ok_jWord Wo.F B
  refine F.ok scJWords (fun vs H Q E h => ?_) (fun cdv A outer s H vs Q E hr h => ?_)
  · obtain ⟨v, d, rfl, _⟩ := h
    rfl
  · obtain ⟨v, d, rfl, D, li, q⟩ := h
    have h64 : (A.deeper (envOfC "_law_are_words" (defScope sJWords) s.heap.objs.size f cdv)).units + 64 < cLine := hr.units
    refine ⟨_, pss_cons (ps_if (PW.pt (pw_or (pt_not (pt_val (pe_callB call_isi (by rfl) B.isi (by decide +kernel) (pa_cons (pv 0) (pa_cons (pe_bltn (v := V.ty "tuple") (by rfl) B.tuple (by decide +kernel) rfl) pa_nil)))))
        (pw_or1 (pt_not (pt_val (pe_callB (cr_all rfl) (by rfl) B.all (by decide +kernel) (pa_cons (pe_lc (own := [("word", 1)]) (g := gName 1) (tt := tYes) rfl scJWords.nd (pi_tup (pv 0))
          (blkOk_by (N := ["value", "word"]) (sc := defScope sJWords) (by decide +kernel)) (fun _ _ _ _ _ => pg_name (i := 1) scJWords.nd rfl (Or.inl rfl)) (fun _ _ _ _ _ => pts_nil)
          (fun _ _ _ _ _ => pe_call GW (by exact hr) (by rfl) Wo.g Wo.F.kp Wo.b .nil pass0 (pa_cons (pv 1) pa_nil))) pa_nil))))))) (pss_one (ps_ret pe_bl)) pss_nil)
      (pss_one (ps_ret (pe_cmpR (op_eqP (by exact h64)) (pe_callTy call_list_of (by rfl) B.list (by decide +kernel) (pa_cons (pv 0) pa_nil))
        (pe_callB (cr_sortTx rfl (by exact h64)) (by rfl) B.sorted (by decide +kernel) (pa_cons (pe_callTy (cr_setTx rfl) (by rfl) B.set (by decide +kernel) (pa_cons (pv 0) pa_nil)) pa_nil)) (nomark _)))), ?_⟩
    refine ⟨_, rfl, _, _, _, _, isTup d, rfl, .ty _, ty_dat D, kit_ty (kit_tup d), isTup d, rfl, ?_⟩
    cases h : isTup d with
    | false =>
      rw [wordsB, h, Bool.false_and] at q
      show if (!false) = true then _ else _
      rw [if_pos (by decide)]
      show if true = true then _ else _
      rw [if_pos rfl]
      exact q H (Same.refl _)
    | true =>
      rw [wordsB, h, Bool.true_and] at q
      obtain ⟨ds, rfl⟩ := tup_of h
      obtain ⟨a, us, rfl, e, Da⟩ := dat_tup D
      obtain ⟨len, lm⟩ := lim_tup li
      have q1 : ∀ H', Same H H' → Q (.bl (ds.all isNm && riseB ds)) H' := q
      show if (!true) = true then _ else _
      rw [if_neg (by decide)]
      refine ⟨_, rfl, a, rfl, ⟨_, SqT.of e⟩, fun D0 hD0 => lc_allD (K := K) (p := isNm) e Da hD0 len (fun i x d H4 Qe hd S4 Dx k => ?_) gName_mono (fun H5 e5 S5 => ?_)⟩
      · exact ⟨rfl, _, rfl, x, d, rfl, Dx, lm d (List.mem_of_getElem? hd), k⟩
      · refine ⟨D0, _, rfl, SqL.of e5, _, rfl, ?_⟩
        rw [all_id]
        cases h2 : ds.all isNm with
        | false =>
          rw [h2] at q1
          show if (!false) = true then _ else _
          rw [if_pos (by decide)]
          exact q1 H5 S5
        | true =>
          rw [h2, Bool.true_and] at q1
          obtain ⟨xs, rfl, _⟩ := nms_of ds h2
          cases dats_strs_eq Da
          rw [List.length_map] at len
          show if (!true) = true then _ else _
          rw [if_neg (by decide)]
          refine ⟨_, rfl, a, _, rfl, .inr (SqT.of (S5 _ _ e)), fun l1 hl1 => ?_⟩
          have S6 := same_new (o := .lst (xs.map V.str)) hl1
          have e6 : upd H5 l1 (.lst (xs.map V.str)) l1 = some (.lst (xs.map V.str)) := upd_same
          have ea6 := S6 _ _ (S5 _ _ e)
          have S56 := S5.trans S6
          generalize upd H5 l1 (.lst (xs.map V.str)) = H6 at S6 e6 ea6 S56 ⊢
          refine ⟨_, rfl, a, xs, rfl, .inr (SqT.of ea6), len, fun st l hst nd mem few => ?_⟩
          have S7 := same_new (o := TxO w st l) hst
          refine ⟨st, l, rfl, upd_same, few, fun ys b pm up hb => ?_⟩
          have S8 := same_new (o := .lst (ys.map V.str)) hb
          refine ⟨.list (xs.map PyData.str), .list (ys.map PyData.str), .lst (S8 _ _ (S7 _ _ e6)) (dats_strs xs), .lst upd_same (dats_strs ys), plains_map PyData.str (fun _ => rfl) _, plains_map PyData.str (fun _ => rfl) _, by
            have := depths_map PyData.str 0 (fun _ => Nat.le_refl _) xs
            simp only [PyData.depth]
            omega, ?_⟩
          rw [eqv_strs, sorted_rise pm up mem]
          exact q1 _ (S56.trans (S7.trans S8))
end
end S1

set_option Elab.async false
set_option linter.all false
set_option maxRecDepth 100000
set_option maxHeartbeats 1000000
/-! the law's own questions: clauses, owns -/
namespace S1
open PySem PySem.W PySem.Spec PyProof.Rows L2
def goodL (ns : List Str) (d : PyData) : Bool := isLt d && decide (fstS d ∈ ns)
theorem clO_no {ns : List Str} {ds : List PyData} {d : PyData} (m : d ∈ ds) (h : goodL ns d = false) : isClO ns (.tuple ds) = false := by
  cases z : isClO ns (.tuple ds) with
  | false => rfl
  | true =>
    have z2 : ((true && (ds.all isLt && riseB (ds.map fun x => .str (fstS x)))) && ds.all fun x => decide (fstS x ∈ ns)) = true := z
    rw [Bool.and_eq_true, Bool.and_eq_true, Bool.and_eq_true] at z2
    have a1 := List.all_eq_true.mp z2.1.2.1 d m
    have a2 := List.all_eq_true.mp z2.2 d m
    rw [goodL, a1, a2] at h
    cases h
theorem clO_yes {ns : List Str} {cl : List Ltr} (h : ∀ d ∈ cl.map ltD, goodL ns d = true) : isClO ns (clD cl) = riseB ((cl.map Prod.fst).map PyData.str) := by
  have h1 : (cl.map ltD).all isLt = true := List.all_eq_true.mpr fun d hd => by
    have z := h d hd
    rw [goodL, Bool.and_eq_true] at z
    exact z.1
  have h2 : ((cl.map ltD).all fun x => decide (fstS x ∈ ns)) = true := List.all_eq_true.mpr fun d hd => by
    have z := h d hd
    rw [goodL, Bool.and_eq_true] at z
    exact z.2
  show ((true && ((cl.map ltD).all isLt && riseB ((cl.map ltD).map fun x => .str (fstS x)))) && ((cl.map ltD).all fun x => decide (fstS x ∈ ns))) = _
  rw [h1, h2, Bool.true_and, Bool.true_and, Bool.and_true, List.map_map, List.map_map]
  rfl
abbrev nJC : List Str := ["words", "value", "letter", "word", "truth"]
section
variable {P : Program} {w : World} {K : PySem.W.Frag} {mg : Str → Option Value} {base : Heap}
theorem scJClause : FnScope nJC ["words", "value"] (defScope sJClause) := ⟨rfl, rfl, rfl, by decide +kernel, rfl, by decide +kernel, by decide +kernel⟩
theorem ok_jClause {f fW : Addr} {fd fdW : FuncData} (F : Fun K "_law_is_clause" "_law_is_clause" sJClause f fd) (Wo : Has K mg "_law_is_word" sJWord ["value"] fW fdW) (B : Blt mg) : FnOk P w K mg base CX0 2 f fd ["words", "value"] spClW := by
  have GW : FnOk P w K mg base CX0 1 fW fdW ["value"] (spJ isNm) := ok_jWord Wo.F B
  refine F.ok scJClause (fun vs H Q E h => ?_) (fun cdv A outer s H vs Q E hr h => ?_)
  · obtain ⟨v, b, d, ns, rfl, _⟩ := h
    rfl
  · obtain ⟨v, b, d, ns, rfl, D, li, eb, q⟩ := h
    have h64 : (A.deeper (envOfC "_law_is_clause" (defScope sJClause) s.heap.objs.size f cdv)).units + 64 < cLine := hr.units
    refine ⟨_, pss_cons (ps_if (pt_not (pt_val (pe_callB call_isi (by rfl) B.isi (by decide +kernel) (pa_cons (pv 1) (pa_cons (pe_bltn (v := V.ty "tuple") (by rfl) B.tuple (by decide +kernel) rfl) pa_nil))))) (pss_one (ps_ret pe_bl)) pss_nil)
      (pss_cons (ps_for PassesOwn.never rfl (pi_tup (pv 1)) (pg_name (i := 2) scJClause.nd rfl (.inl rfl))
        (pss_cons (ps_if (PW.pt (pw_or (pt_not (pt_val (pe_callB call_isi (by rfl) B.isi (by decide +kernel) (pa_cons (pv 2) (pa_cons (pe_bltn (v := V.ty "tuple") (by rfl) B.tuple (by decide +kernel) rfl) pa_nil)))))
            (pw_or (pt_cmpR op_ne (pe_callB call_len_seq (by rfl) B.len (by decide +kernel) (pa_cons (pv 2) pa_nil)) pe_int (nomark _))
            (pw_or (pt_not (pt_val (pe_call GW hr rfl Wo.g Wo.F.kp Wo.b .nil pass0 (pa_cons (pe_ix ix_tup (pv 2) pe_int (fun _ _ => rfl)) pa_nil))))
            (pw_or1 (pt_cmpR op_notIn_seq (pe_ix ix_tup (pv 2) pe_int (fun _ _ => rfl)) (pv 0) (by with_unfolding_all rfl))))))) (pss_one (ps_ret pe_bl)) pss_nil)
        (pss_one (ps_if (pt_not (pt_val (pe_callB call_isi (by rfl) B.isi (by decide +kernel) (pa_cons (pe_ix ix_tup (pv 2) pe_int (fun _ _ => rfl)) (pa_cons (pe_bltn (v := V.ty "bool") (by rfl) B.bool (by decide +kernel) rfl) pa_nil))))) (pss_one (ps_ret pe_bl)) pss_nil))))
      (pss_one (ps_ret (pe_cmpR (op_eqP (by exact h64)) (pe_lc (own := [("word", 3), ("truth", 4)]) (g := gTup K 2 (gCons (gName 3) (gCons (gName 4) gNil))) (tt := tYes) (te := tVar 3) rfl scJClause.nd (pi_tup (pv 1)) (blkOk_by (N := nJC) (sc := defScope sJClause) (by decide +kernel))
            (fun _ _ _ _ _ => by exact pg_tup rfl (pgs_cons (pg_name (i := 3) scJClause.nd rfl (.inl rfl)) (pgs_cons (pg_name (i := 4) scJClause.nd rfl (.inl rfl)) pgs_nil))) (fun _ _ _ _ _ => pts_nil) (fun _ _ _ _ _ => by exact pv 3))
        (pe_callB (cr_sortTx rfl (by exact h64)) (by rfl) B.sorted (by decide +kernel) (pa_cons (pe_callTy (cr_setTx rfl) (by rfl) B.set (by decide +kernel) (pa_cons
          (pe_lc (own := [("word", 3), ("truth", 4)]) (g := gTup K 2 (gCons (gName 3) (gCons (gName 4) gNil))) (tt := tYes) (te := tVar 3) rfl scJClause.nd (pi_tup (pv 1)) (blkOk_by (N := nJC) (sc := defScope sJClause) (by decide +kernel))
            (fun _ _ _ _ _ => by exact pg_tup rfl (pgs_cons (pg_name (i := 3) scJClause.nd rfl (.inl rfl)) (pgs_cons (pg_name (i := 4) scJClause.nd rfl (.inl rfl)) pgs_nil))) (fun _ _ _ _ _ => pts_nil) (fun _ _ _ _ _ => by exact pv 3)) pa_nil)) pa_nil)) (by with_unfolding_all rfl))))), ?_⟩
    refine ⟨_, rfl, _, _, _, _, isTup d, rfl, .ty _, ty_dat D, kit_ty (kit_tup d), isTup d, rfl, ?_⟩
    cases h : isTup d with
    | false =>
      rw [isClO, isCl, h, Bool.false_and, Bool.false_and] at q
      show if (!false) = true then _ else _
      rw [if_pos (by decide)]
      exact q H (Same.refl _)
    | true =>
      obtain ⟨ds, rfl⟩ := tup_of h
      obtain ⟨a, us, rfl, e, Da⟩ := dat_tup D
      obtain ⟨len, lm⟩ := lim_tup li
      have lu : us.length = ds.length := Da.len
      have no : ∀ d ∈ ds, goodL ns d = false → ∀ H', Same H H' → Q (.bl false) H' := fun d m z H' S => by
        have y := q H' S
        rw [clO_no m z] at y
        exact y
      show if (!true) = true then _ else _
      rw [if_neg (by decide)]
      refine ⟨_, rfl, a, rfl, ⟨_, SqT.of e⟩, ?_⟩
      refine for_tup (K := K) (a := a) (xs := us) (fun j σ G => ∃ o2 : Option V, σ = [some (.ref b), some (.ref a), o2, none, none] ∧ (∀ d ∈ ds.take j, goodL ns d = true) ∧ Same H G) ⟨_, rfl, fun d hd => by simp at hd, Same.refl _⟩
        (fun j σ G _ ⟨_, _, _, S⟩ => SqT.of (S _ _ e)) ?_ ?_
      · rintro j x σ G hx ⟨o2, rfl, hg, SG⟩
        obtain ⟨d, hd, Dx⟩ := dats_get' Da j x hx
        have md := List.mem_of_getElem? hd
        have DxG := Dx.same SG
        have ld := lm d md
        refine ⟨_, rfl, _, _, _, _, isTup d, rfl, .ty _, ty_dat DxG, kit_ty (kit_tup d), isTup d, rfl, ?_⟩
        cases t1 : isTup d with
        | false =>
          show if (!false) = true then _ else _
          rw [if_pos (by decide)]
          show if true = true then _ else _
          rw [if_pos rfl]
          exact no d md (by rw [goodL, let_eq, pairB, t1]; rfl) G SG
        | true =>
          obtain ⟨es, rfl⟩ := tup_of t1
          obtain ⟨t, ys, rfl, et, Dt⟩ := dat_tup DxG
          show if (!true) = true then _ else _
          rw [if_neg (by decide)]
          refine ⟨_, rfl, _, _, rfl, .inr (SqT.of et), rfl, _, rfl, ?_⟩
          rw [Dt.len]
          by_cases hn : es.length = 2
          · rw [show decide (V.int ((es.length : Nat) : Int) = V.int 2) = true from decide_eq_true (by rw [hn]; rfl)]
            show if (!true) = true then _ else _
            rw [if_neg (by decide)]
            obtain ⟨d1, d2, ed⟩ := pair_of (d := .tuple es) (by
              show (true && decide (es.length = 2)) = true
              rw [decide_eq_true hn]
              rfl)
            cases ed
            obtain ⟨y1, y2, rfl, E1, E2⟩ := dats_two Dt
            obtain ⟨l1, l2⟩ := lim_two ld
            refine ⟨_, rfl, t, _, 0, _, rfl, rfl, SqT.of et, rfl, y1, d1, rfl, E1, l1, fun G2 S2 => ⟨isNm d1, rfl, ?_⟩⟩
            have SG2 := SG.trans S2
            cases n1 : isNm d1 with
            | false =>
              show if (!false) = true then _ else _
              rw [if_pos (by decide)]
              show if true = true then _ else _
              rw [if_pos rfl]
              exact no _ md (by
                show ((isNm d1 && isTr d2) && _) = false
                rw [n1]
                rfl) G2 SG2
            | true =>
              obtain ⟨z, rfl, _⟩ := nm_of' n1
              cases dat_str E1
              show if (!true) = true then _ else _
              rw [if_neg (by decide)]
              refine ⟨_, rfl, t, _, 0, _, rfl, rfl, SqT.of (S2 _ _ et), rfl, _, rfl, b, _, rfl, .inl (SqL.of (SG2 _ _ eb)), rfl, flat_strs ns, _, rfl, ?_⟩
              show if (!inV (V.str z) (ns.map V.str)) = true then _ else _
              rw [inV_str]
              cases m1 : decide (z ∈ ns) with
              | false =>
                rw [if_pos (by decide)]
                exact no _ md (by
                  show (_ && decide (z ∈ ns)) = false
                  rw [m1, Bool.and_false]) G2 SG2
              | true =>
                rw [if_neg (by decide)]
                refine ⟨_, rfl, t, _, 1, _, rfl, rfl, SqT.of (S2 _ _ et), rfl, _, _, _, _, isTr d2, rfl, .ty _, ty_dat (E2.same S2), kit_ty (kit_bool d2), isTr d2, rfl, ?_⟩
                cases b1 : isTr d2 with
                | false =>
                  show if (!false) = true then _ else _
                  rw [if_pos (by decide)]
                  exact no _ md (by
                    show ((isNm (.str z) && isTr d2) && _) = false
                    rw [b1, Bool.and_false]
                    rfl) G2 SG2
                | true =>
                  show if (!true) = true then _ else _
                  rw [if_neg (by decide)]
                  refine ⟨_, rfl, fun d' hd' => ?_, SG2⟩
                  rw [take_next hd] at hd'
                  rcases List.mem_append.mp hd' with m | m
                  · exact hg d' m
                  · cases List.mem_singleton.mp m
                    show ((isNm (.str z) && isTr d2) && decide (z ∈ ns)) = true
                    rw [n1, b1, m1]
                    rfl
          · rw [show decide (V.int ((es.length : Nat) : Int) = V.int 2) = false from decide_eq_false fun y => hn (by injection y with y; omega)]
            show if (!false) = true then _ else _
            rw [if_pos (by decide)]
            show if true = true then _ else _
            rw [if_pos rfl]
            exact no _ md (by
              rw [goodL, let_eq]
              show (((true && decide (es.length = 2)) && _) && _) = false
              rw [decide_eq_false hn]
              rfl) G SG
      · rintro σ G ⟨o2, rfl, hg, SG⟩
        rw [lu, List.take_length] at hg
        obtain ⟨cl, rfl⟩ := lts_of ds (List.all_eq_true.mpr fun d hd => by
          have z := hg d hd
          rw [goodL, Bool.and_eq_true] at z
          exact z.1)
        have lc : cl.length ≤ 1000 := by rw [List.length_map] at len; exact len
        have lu' : us.length = cl.length := by rw [lu, List.length_map]
        have q1 : ∀ H', Same H H' → Q (.bl (riseB ((cl.map Prod.fst).map PyData.str))) H' := fun H' S => by
          have y : Q (.bl (isClO ns (clD cl))) H' := q H' S
          rw [clO_yes hg] at y
          exact y
        have stp : ∀ {G1 G4 : Hp} {D0 : Addr} {j : Nat} {x : V} {σ : L2.St} {Qe : L2.St → Hp → Prop}, us[j]? = some x → Same H G4 → (∀ (tk : Addr) (l : Ltr), cl[j]? = some l → x = .ref tk → G4 tk = some (.tup [.str l.1, .bl l.2]) → Qe σ G4) → Qe σ G4 := fun {G1 G4 D0 j x σ Qe} hx S k => by
          obtain ⟨d, hd, Dx⟩ := dats_get' Da j x hx
          obtain ⟨l, hl, rfl⟩ := get_map hd
          obtain ⟨tk, rfl, ek⟩ := ltr_row Dx
          exact k tk l hl rfl (S _ _ ek)
        refine ⟨_, rfl, a, rfl, ⟨_, SqT.of (SG _ _ e)⟩, fun D0 hD0 => ?_⟩
        refine lc_tup (K := K) (a := a) (xs := us) (fun j H4 => H4 D0 = some (.lst (((cl.take j).map Prod.fst).map V.str)) ∧ Same G H4) ⟨upd_same, same_new hD0⟩ (fun j H4 _ h => SqT.of (h.2 _ _ (SG _ _ e))) ?_ ?_
        · rintro j x H4 hx ⟨e4, S4⟩
          obtain ⟨d, hd, Dx⟩ := dats_get' Da j x hx
          obtain ⟨l, hl, rfl⟩ := get_map hd
          obtain ⟨tk, rfl, ek⟩ := ltr_row Dx
          have jl : j < cl.length := (List.getElem?_eq_some_iff.mp hl).1
          refine ⟨tk, _, rfl, SqT.of (S4 _ _ (SG _ _ ek)), rfl, _, _, rfl, _, _, rfl, rfl, rfl, yes_of ?_⟩
          refine ⟨_, rfl, _, e4, by rw [List.length_map, List.length_map, List.length_take]; exact small1000 (by omega), ?_, same_upd S4 hD0⟩
          rw [upd_same, take_next hl, List.map_append, List.map_append]
          rfl
        · rintro H5 ⟨e5, S5⟩
          rw [lu', List.take_length] at e5
          have S05 := SG.trans S5
          refine ⟨_, rfl, a, rfl, ⟨_, SqT.of (S05 _ _ e)⟩, fun D1 hD1 => ?_⟩
          refine lc_tup (K := K) (a := a) (xs := us) (fun j H4 => H4 D1 = some (.lst (((cl.take j).map Prod.fst).map V.str)) ∧ Same H5 H4) ⟨upd_same, same_new hD1⟩ (fun j H4 _ h => SqT.of (h.2 _ _ (S05 _ _ e))) ?_ ?_
          · rintro j x H4 hx ⟨e4, S4⟩
            obtain ⟨d, hd, Dx⟩ := dats_get' Da j x hx
            obtain ⟨l, hl, rfl⟩ := get_map hd
            obtain ⟨tk, rfl, ek⟩ := ltr_row Dx
            have jl : j < cl.length := (List.getElem?_eq_some_iff.mp hl).1
            refine ⟨tk, _, rfl, SqT.of (S4 _ _ (S05 _ _ ek)), rfl, _, _, rfl, _, _, rfl, rfl, rfl, yes_of ?_⟩
            refine ⟨_, rfl, _, e4, by rw [List.length_map, List.length_map, List.length_take]; exact small1000 (by omega), ?_, same_upd S4 hD1⟩
            rw [upd_same, take_next hl, List.map_append, List.map_append]
            rfl
          · rintro H6 ⟨e6, S6⟩
            rw [lu', List.take_length] at e6
            refine ⟨D1, cl.map Prod.fst, rfl, .inl (SqL.of e6), by rw [List.length_map]; exact lc, fun st l hst nd mem few => ?_⟩
            have S7 := same_new (o := TxO w st l) hst
            refine ⟨st, l, rfl, upd_same, few, fun ys b' pm up hb => ?_⟩
            have S8 := same_new (o := .lst (ys.map V.str)) hb
            refine ⟨.list ((cl.map Prod.fst).map PyData.str), .list (ys.map PyData.str), .lst (S8 _ _ (S7 _ _ (S6 _ _ e5))) (dats_strs _), .lst upd_same (dats_strs ys), plains_map PyData.str (fun _ => rfl) _, plains_map PyData.str (fun _ => rfl) _, by
              have := depths_map PyData.str 0 (fun _ => Nat.le_refl _) (cl.map Prod.fst)
              simp only [PyData.depth]
              omega, ?_⟩
            rw [eqv_strs, sorted_rise pm up mem]
            exact q1 _ (S05.trans (S6.trans (S7.trans S8)))
end
end S1

set_option Elab.async false
set_option linter.all false
set_option maxRecDepth 100000
set_option maxHeartbeats 4000000
/-! sets of nested tuples: the call set(tuple) -/
namespace L2
open PySem PySem.SeqAt PySem.Spec PyProof.Rows
section
variable {P : Program} {w : World} {A : Around} {E : Value → Shared → Prop} {s : Shared}
theorem nset_callT {l : Addr} {us : Array Value} (ks : List NRow) {Q : Value → Shared → Prop} (hh : A.handled = none) (hl : s.heap.IsTuple l us) (hit : us.toList = ks.map fun r => Value.ref r.1)
    (hk : ∀ r ∈ ks, TupKey s.heap r.2 r.1) (few : ks.length < 64) (hu : A.units + 16 < cLine) (q : ∀ s', NMade w s ks s' → Q (.ref s.heap.objs.size) s') :
    wpAny (model P w) A (call (.type "set") [.ref l]) Q E s := by
  have n0 : us.size = ks.length := by
    have z := congrArg List.length hit
    simpa using z
  obtain ⟨c, tl, mro⟩ := F.called_set.mro
  have made_ := F.called_set.made
  have sub_ := F.called_set.sub
  refine wpAny_call (codeAny_of_tree ?_)
  show wpAny _ _ (callAny (.type "set") _) _ _ _
  refine wpAny_pure ⟨Code.quiet_builtin _ (by decide +kernel), codeAny_builtin F.entry_type_call ?_⟩
  rw [Around.under_plain (weight_type_call_type "set" [.ref l] []) rfl]
  have isn := F.called_set.notType
  have can := F.called_set.canCreate
  have fit := F.typeCall_set_1 (.ref l)
  repeat (any_goals (first | assumption | wp_step))
  refine codeAny_mono (code_set_led1 (.ref l) (E := E) (Q₁ := fun obj s₁ => obj = .ref s.heap.objs.size ∧ s₁ = { s with heap := s.heap.push (newSetObj w) }) ⟨rfl, rfl⟩) fun r s₁ hr => ?_
  cases r with
  | error e => exact hr
  | ok fl =>
    cases fl with
    | ret obj =>
      obtain ⟨rfl, rfl⟩ := hr
      have gS : (s.heap.push (newSetObj w)).get? s.heap.objs.size = some (newSetObj w) := Heap.get?_push_size _ rfl
      have tS : Shared.TypeIs { s with heap := s.heap.push (newSetObj w) } (.ref s.heap.objs.size) "set" := ⟨_, gS, rfl⟩
      have look := F.called_set.init.lookup
      have bind_ := F.called_set.init.bind (.ref s.heap.objs.size)
      repeat (any_goals (first | assumption | wp_step))
      refine codeAny_mono (codeAny_call_builtin (R := wants (fun r s₂ => r = .none ∧ NMade w s ks s₂) E) F.called_set.init.plain F.entry_set_init (check_set_init_1 tS ?_)) fun r₂ s₂ hr₂ => ?_
      · obtain ⟨⟨kl, dl, tl', sl⟩, gl, rfl, nl, rfl⟩ := hl
        have gl' : (s.heap.push (newSetObj w)).get? l = some { cls := .type "tuple", dict := dl, data := .seq us nl, slots := sl } := Heap.get?_push_of_some _ gl
        have sub1 := F.sub_tuple_set
        have sub2 := F.sub_tuple_frozenset
        have nd : (Value.type "tuple" == Value.type "dict") = false := by decide
        have L1 : (s.heap.push (newSetObj w)).IsTuple l us := ⟨_, gl', rfl, nl, rfl⟩
        unfold Builtin.«set.__init__» noKeywords Builtin.Frozenset.updateFrom
        generalize hit_ : pyIter = IT
        wp_walk
        subst hit_
        refine wpAny_pyIter_tuple L1 ?_
        refine wpAny_bind (wpAny_runValue ?_)
        have ll : l < s.heap.objs.size := Heap.lt_size gl
        have sz1 : (s.heap.push (newSetObj w)).objs.size = s.heap.objs.size + 1 := Heap.size_push ..
        have ne1 : l ≠ (s.heap.push (newSetObj w)).objs.size := by
          rw [sz1]
          exact Nat.ne_of_lt (Nat.lt_succ_of_lt ll)
        have out : s.heap.objs.size ∉ [(s.heap.push (newSetObj w)).objs.size, l] := by
          rw [sz1]
          intro z
          rcases List.mem_cons.mp z with z | z
          · exact absurd z (Nat.ne_of_lt (Nat.lt_succ_self _))
          · exact absurd (List.mem_singleton.mp z) (Nat.ne_of_gt ll)
        have val : ∀ (i : Nat) (v : Value), us[i]? = some v → ∃ r, ks[i]? = some r ∧ v = .ref r.1 := fun i v hv => by
          rw [← Array.getElem?_toList, hit, List.getElem?_map] at hv
          obtain ⟨r, hr, e⟩ := Option.map_eq_some_iff.mp hv
          exact ⟨r, hr, e.symm⟩
        have W0 := (Walks.tuple (prog := P) (w := w) (A := A.in1.in1.in1) (show A.in1.in1.in1.handled = none by simp [hh]) (s.heap.push (newSetObj w)).objs.size l ne1 us).toS
        refine nupdate W0 s.heap.objs.size out ks n0 few val s.heap hk (absent_of (Nat.le_refl _)) (fun b hb => absent_of (by
            rw [List.mem_singleton.mp hb, sz1]
            exact Nat.le_succ _)) (by simp only [Around.in1_units]; omega) (us.size - 0) 0 _ (by omega) (Nat.zero_le _)
          ⟨⟨_, Heap.get?_push_size _ rfl, rfl, rfl⟩, L1.push _⟩ (fun b o e => Heap.get?_push_of_some _ (Heap.get?_push_of_some _ e)) ?first ?last
        case first => exact ⟨[], #[], 0, _, nset_new (Heap.get?_push_of_some _ gS), NGot.none_ ks⟩
        case last =>
          intro s' L es ep t m N g ext
          obtain ⟨h', gn, dr, tk', os'⟩ := s'
          cases (show gn = s.gens from m.gens)
          cases (show dr = s.drawn from m.drawn)
          cases (show os' = s.os from m.os)
          show wpAny _ _ _ _ _ _
          refine wpAny_pure ?_
          show wpAny _ _ (ret Value.none) _ _ _
          rw [n0] at g
          exact wpAny_pure ⟨rfl, h', tk', L, es, ep, t, rfl, N, g, ext⟩
      · cases r₂ with
        | error e => exact hr₂
        | ok fl₂ =>
          cases fl₂ with
          | ret r =>
            obtain ⟨rfl, hm⟩ := hr₂
            have hm' := hm
            obtain ⟨h', tk, L, es, ep, t, rfl, N, g, ext⟩ := hm
            repeat (any_goals (first | assumption | wp_step))
            exact q _ hm'
          | _ => exact hr₂.elim
    | _ => exact hr.elim
end
section
variable {X : Cx}
/-- set(xs), xs a tuple of nested tuples -/
def rSetNT (K : PySem.W.Frag) (w : World) : List V → Hp → VK → Prop := fun xs H Q => ∃ (l : Addr) (T : List TRow), xs = [V.ref l] ∧ SqT K H l (T.map TRow.v) ∧ (∀ p ∈ T, Dat H p.v p.2) ∧ Sorty T ∧ (∀ p ∈ T, keyable p.2 = true) ∧ T.length < 64 ∧
  ∀ (a : Addr) (T' : List TRow), H a = none → (∀ p ∈ T', p ∈ T) → (∀ p ∈ T, p.2 ∈ T'.map Prod.snd) → (T'.map Prod.snd).Nodup → Q (.ref a) (upd H a (SetNO w a (T'.map TRow.n)))
theorem cr_setNT (hc : X.calm = true) (hu : X.A.units + 64 < cLine) : CallR X (.type "set") (rSetNT X.K X.w) := by
  intro pins s σ H xs us Q I r h
  obtain ⟨l, T, rfl, hl, hd, so, hk, few, q⟩ := h
  rw [Vals.ref1 r]
  obtain ⟨its, rv, pl, hz⟩ := I.tuple hl
  have e1 : its = T.map TRow.r := vals_rows rv
  have fresh : H s.heap.objs.size = none := I.hok.fresh (Nat.le_refl _)
  have keys : ∀ r ∈ T.map TRow.n, TupKey s.heap r.2 r.1 := fun r hr => by
    obtain ⟨p, hp, rfl⟩ := List.mem_map.mp hr
    exact tupKey_of (I.reads (hd p hp)) (hk p hp) (so.deep p hp)
  refine nset_callT (P := X.prog) (w := X.w) (T.map TRow.n) (I.ok.hd hc) pl (by rw [e1, List.map_map]; first | rfl | done) keys (by rw [List.length_map]; exact few) (by omega) fun s' hm => ?_
  obtain ⟨h', tk, L, es, ep, t, rfl, N, g, ext⟩ := hm
  have sub : ∀ r ∈ L, r ∈ T.map TRow.n := fun r hr => List.mem_of_mem_take (g.only r hr)
  obtain ⟨T', rfl, sub'⟩ := sub_back L sub
  refine ⟨.ref s.heap.objs.size, upd H s.heap.objs.size (SetNO X.w s.heap.objs.size (T'.map TRow.n)), I.laid (t' := tk) ext (Nat.le_refl _) (setNO_ok N.less), rfl, q _ T' fresh sub' (fun p hp => ?_) ?_⟩
  · have z := g.every p.n (by rw [List.take_length]; exact List.mem_map_of_mem hp)
    rw [List.map_map] at z
    obtain ⟨p', hp', e⟩ := List.mem_map.mp z
    have e2 : nkey p'.2 = nkey p.2 := e
    have mp' := sub' p' hp'
    rw [← nkey_inj _ _ (hk p' mp') (hk p hp) (so.alike _ (List.mem_map_of_mem mp') _ (List.mem_map_of_mem hp)) e2]
    exact List.mem_map_of_mem hp'
  · have z := N.dif
    rw [List.map_map] at z
    have z2 : ((T'.map Prod.snd).map nkey).Nodup := by
      rw [List.map_map]
      exact z
    exact nodup_of_map z2
end
end L2

set_option Elab.async false
set_option linter.all false
set_option maxRecDepth 100000
set_option maxHeartbeats 1000000
/-! the law's own questions: owns -/
namespace S1
open PySem PySem.W PySem.Spec PyProof.Rows L2
theorem words_of {d : PyData} (h : wordsB d = true) : ∃ xs : List Str, d = nmsD xs ∧ xs.Pairwise tlt ∧ ∀ x ∈ xs, nmB x = true := by
  rw [wordsB, Bool.and_eq_true, Bool.and_eq_true] at h
  obtain ⟨ds, rfl⟩ := tup_of h.1
  obtain ⟨xs, e, hx⟩ := nms_of ds h.2.1
  have h2 : riseB ds = true := h.2.2
  subst e
  exact ⟨xs, rfl, rise_strs h2, hx⟩
theorem sight_words {ps : List Str} {d : PyData} (h : wordsB d = false) : isSightB ps d = false := by
  cases z : isSightB ps d with
  | false => rfl
  | true =>
    rw [isSightB, isNames, Bool.and_eq_true, Bool.and_eq_true, Bool.and_eq_true] at z
    rw [wordsB, z.1.1, z.1.2.2] at h
    cases h
theorem sight_eq {ps xs : List Str} (nd : ps.Nodup) (h : wordsB (nmsD xs) = true) (up : xs.Pairwise tlt) : isSightB ps (nmsD xs) = (xs.filter fun x => !decide (x ∈ ps)).isEmpty := by
  have e : ((parts (nmsD xs)).all fun x => decide (strOf x ∈ ps)) = (xs.filter fun x => !decide (x ∈ ps)).isEmpty := by
    show ((xs.map PyData.str).all fun x => decide (strOf x ∈ ps)) = _
    clear h up
    induction xs with
    | nil => rfl
    | cons x xs ih =>
      rw [List.map_cons, List.all_cons, ih]
      show (decide (x ∈ ps) && _) = _
      cases c : decide (x ∈ ps) with
      | true => rw [List.filter_cons_of_neg (by simp [c])]; rfl
      | false => rw [List.filter_cons_of_pos (by simp [c])]; rfl
  rw [isSightB, e]
  cases c : (xs.filter fun x => !decide (x ∈ ps)).isEmpty with
  | false => rw [Bool.and_false]
  | true =>
    have sub : ∀ x ∈ xs, x ∈ ps := fun x hx => by
      rw [List.isEmpty_iff, List.filter_eq_nil_iff] at c
      have z := c x hx
      simpa using z
    have le : xs.length ≤ ps.length := nodup_le (nodup_tlt up) sub
    rw [wordsB, Bool.and_eq_true] at h
    have le2 : decide ((parts (nmsD xs)).length ≤ ps.length) = true := decide_eq_true (by
      show (xs.map PyData.str).length ≤ _
      rw [List.length_map]
      exact le)
    rw [isNames, h.1, h.2, le2]
    rfl
section
variable {P : Program} {w : World} {K : PySem.W.Frag} {mg : Str → Option Value} {base : Heap}
theorem scJOwn : FnScope ["picks", "value", "pick"] ["picks", "value"] (defScope sJOwn) := ⟨rfl, rfl, rfl, by decide +kernel, rfl, by decide +kernel, by decide +kernel⟩
theorem ok_jOwn {f fW fS : Addr} {fd fdW fdS : FuncData} (F : Fun K "_law_is_own" "_law_is_own" sJOwn f fd) (Wo : Has K mg "_law_is_word" sJWord ["value"] fW fdW) (Ws : Has K mg "_law_are_words" sJWords ["value"] fS fdS) (B : Blt mg) : FnOk P w K mg base CX0 3 f fd ["picks", "value"] spOwnW := by
  have GW : FnOk P w K mg base CX0 1 fW fdW ["value"] (spJ isNm) := ok_jWord Wo.F B
  have GS : FnOk P w K mg base CX0 2 fS fdS ["value"] (spJ wordsB) := ok_jWords Ws.F Wo B
  refine F.ok scJOwn (fun vs H Q E h => ?_) (fun cdv A outer s H vs Q E hr h => ?_)
  · obtain ⟨v, u, d, ps, rfl, _⟩ := h
    rfl
  · obtain ⟨v, u, d, ps, rfl, D, li, Dp, nd, q⟩ := h
    have hr1 := hr.mono (show 1 ≤ 2 by decide)
    have h64 : (A.deeper (envOfC "_law_is_own" (defScope sJOwn) s.heap.objs.size f cdv)).units + 64 < cLine := hr.units
    refine ⟨_, pss_cons (ps_if (PW.pt (pw_or (pt_not (pt_val (pe_callB call_isi (by rfl) B.isi (by decide +kernel) (pa_cons (pv 1) (pa_cons (pe_bltn (v := V.ty "tuple") (by rfl) B.tuple (by decide +kernel) rfl) pa_nil)))))
            (pw_or (pt_cmpR op_ne (pe_callB call_len_seq (by rfl) B.len (by decide +kernel) (pa_cons (pv 1) pa_nil)) pe_int (nomark _))
            (pw_or (pt_not (pt_val (pe_call GW hr1 rfl Wo.g Wo.F.kp Wo.b .nil pass0 (pa_cons (pe_ix ix_tup (pv 1) pe_int (fun _ _ => rfl)) pa_nil))))
            (pw_or1 (pt_cmpR op_in_seq (pe_ix ix_tup (pv 1) pe_int (fun _ _ => rfl)) (pv 0) (by with_unfolding_all rfl))))))) (pss_one (ps_ret pe_bl)) pss_nil)
      (pss_one (ps_ret (pe_and (pe_call GS hr rfl Ws.g Ws.F.kp Ws.b .nil pass0 (pa_cons (pe_ix ix_tup (pv 1) pe_int (fun _ _ => rfl)) pa_nil))
        (pe_one (pe_cmpR (op_eqP (by exact h64)) (pe_lc (own := [("pick", 2)]) (g := gName 2) (tt := tTest (tOp (rIn K true) (tVar 2) (tVar 0))) (te := tVar 2) rfl scJOwn.nd (pi_tup (pe_ix ix_tup (pv 1) pe_int (fun _ _ => rfl)))
          (blkOk_by (N := ["picks", "value", "pick"]) (sc := defScope sJOwn) (by decide +kernel)) (fun _ _ _ _ _ => pg_name (i := 2) scJOwn.nd rfl (Or.inl rfl)) (fun _ _ _ _ _ => by exact pts_one (pt_cmpR op_notIn_seq (pv 2) (pv 0) (by with_unfolding_all rfl)))
          (fun _ _ _ _ _ => by exact pv 2)) (pe_lst pa_nil) (by with_unfolding_all rfl)))))), ?_⟩
    obtain ⟨b, ups, rfl, eb, Db⟩ := dat_tup (ds := ps.map PyData.str) Dp
    cases dats_strs_eq Db
    refine ⟨_, rfl, _, _, _, _, isTup d, rfl, .ty _, ty_dat D, kit_ty (kit_tup d), isTup d, rfl, ?_⟩
    have no : pairB d = false → ∀ H', Same H H' → Q (.bl false) H' := fun z H' S => by
      have y := q H' S
      cases o : isOwnB ps d with
      | false => rw [o] at y; exact y
      | true =>
        obtain ⟨x, e, rfl, _⟩ := own_of o
        cases z
    cases h : isTup d with
    | false =>
      show if (!false) = true then _ else _
      rw [if_pos (by decide)]
      show if true = true then _ else _
      rw [if_pos rfl]
      exact no (by rw [pairB, h]; rfl) H (Same.refl _)
    | true =>
      obtain ⟨es, rfl⟩ := tup_of h
      obtain ⟨t, ys, rfl, et, Dt⟩ := dat_tup D
      show if (!true) = true then _ else _
      rw [if_neg (by decide)]
      refine ⟨_, rfl, _, _, rfl, .inr (SqT.of et), rfl, _, rfl, ?_⟩
      rw [Dt.len]
      by_cases hn : es.length = 2
      · rw [show decide (V.int ((es.length : Nat) : Int) = V.int 2) = true from decide_eq_true (by rw [hn]; rfl)]
        show if (!true) = true then _ else _
        rw [if_neg (by decide)]
        obtain ⟨d1, d2, ed⟩ := pair_of (d := .tuple es) (by
          show (true && decide (es.length = 2)) = true
          rw [decide_eq_true hn]
          rfl)
        cases ed
        obtain ⟨y1, y2, rfl, E1, E2⟩ := dats_two Dt
        obtain ⟨l1, l2⟩ := lim_two li
        have q1 : ∀ H', Same H H' → Q (.bl (isNm d1 && (!decide (strOf d1 ∈ ps) && isSightB ps d2))) H' := q
        refine ⟨_, rfl, t, _, 0, _, rfl, rfl, SqT.of et, rfl, y1, d1, rfl, E1, l1, fun G2 S2 => ⟨isNm d1, rfl, ?_⟩⟩
        cases n1 : isNm d1 with
        | false =>
          rw [n1] at q1
          show if (!false) = true then _ else _
          rw [if_pos (by decide)]
          show if true = true then _ else _
          rw [if_pos rfl]
          exact q1 G2 S2
        | true =>
          rw [n1, Bool.true_and] at q1
          obtain ⟨z, rfl, _⟩ := nm_of' n1
          cases dat_str E1
          have q2 : ∀ H', Same H H' → Q (.bl (!decide (z ∈ ps) && isSightB ps d2)) H' := q1
          show if (!true) = true then _ else _
          rw [if_neg (by decide)]
          refine ⟨_, rfl, t, _, 0, _, rfl, rfl, SqT.of (S2 _ _ et), rfl, _, rfl, b, _, rfl, .inr (SqT.of (S2 _ _ eb)), rfl, flat_strs ps, _, rfl, ?_⟩
          show if inV (V.str z) (ps.map V.str) = true then _ else _
          rw [inV_str]
          cases m1 : decide (z ∈ ps) with
          | true =>
            rw [m1] at q2
            rw [if_pos rfl]
            exact q2 G2 S2
          | false =>
            rw [m1] at q2
            have q3 : ∀ H', Same H H' → Q (.bl (isSightB ps d2)) H' := q2
            rw [if_neg (by decide)]
            refine ⟨_, rfl, t, _, 1, _, rfl, rfl, SqT.of (S2 _ _ et), rfl, y2, d2, rfl, E2.same S2, l2, fun G3 S3 => ⟨wordsB d2, rfl, ?_⟩⟩
            have S23 := S2.trans S3
            cases w1 : wordsB d2 with
            | false =>
              rw [sight_words w1] at q3
              show if false = true then _ else _
              rw [if_neg (by decide)]
              exact q3 G3 S23
            | true =>
              obtain ⟨xs, rfl, up, _⟩ := words_of w1
              rw [sight_eq nd w1 up] at q3
              obtain ⟨b2, us2, rfl, eb2, Db2⟩ := dat_tup (ds := xs.map PyData.str) E2
              cases dats_strs_eq Db2
              have lx : xs.length ≤ 1000 := by
                have y := (lim_tup (ds := xs.map PyData.str) l2).1
                rw [List.length_map] at y
                exact y
              show if true = true then _ else _
              rw [if_pos rfl]
              refine ⟨_, rfl, t, _, 1, _, rfl, rfl, SqT.of (S23 _ _ et), rfl, b2, rfl, ⟨_, SqT.of (S23 _ _ eb2)⟩, fun D0 hD0 => ?_⟩
              refine lc_tup (K := K) (a := b2) (xs := xs.map V.str) (fun j H4 => H4 D0 = some (.lst (((xs.take j).filter fun x => !decide (x ∈ ps)).map V.str)) ∧ Same G3 H4) ⟨upd_same, same_new hD0⟩ (fun j H4 _ h => SqT.of (h.2 _ _ (S23 _ _ eb2))) ?_ ?_
              · rintro j x H4 hx ⟨e4, S4⟩
                rw [List.getElem?_map] at hx
                obtain ⟨y, hy, rfl⟩ := Option.map_eq_some_iff.mp hx
                have jl : j < xs.length := (List.getElem?_eq_some_iff.mp hy).1
                have hf : (xs.take (j + 1)).filter (fun x => !decide (x ∈ ps)) = (xs.take j).filter (fun x => !decide (x ∈ ps)) ++ if (!decide (y ∈ ps)) = true then [y] else [] := by
                  rw [take_next hy, List.filter_append]
                  congr 1
                  cases h : decide (y ∈ ps) <;> simp [h]
                refine ⟨rfl, _, rfl, _, rfl, b, _, rfl, .inr (SqT.of (S4 _ _ (S23 _ _ eb))), rfl, flat_strs ps, _, rfl, ?_⟩
                show if (!inV (V.str y) (ps.map V.str)) = true then _ else _
                rw [inV_str]
                refine ite2 (fun h => ?_) (fun h => ?_)
                · rw [if_pos h] at hf
                  refine ⟨_, rfl, _, e4, ?_, ?_, same_upd S4 hD0⟩
                  · rw [List.length_map]
                    exact small1000 (Nat.le_trans (List.length_filter_le _ _) (by rw [List.length_take]; omega))
                  · rw [upd_same, hf, List.map_append]
                    rfl
                · rw [if_neg h, List.append_nil] at hf
                  exact ⟨by rw [hf]; exact e4, S4⟩
              · rintro H5 ⟨e5, S5⟩
                rw [List.length_map, List.take_length] at e5
                refine ⟨Nat.zero_le _, fun le hle => ?_⟩
                have S7 := same_new (o := .lst []) hle
                refine ⟨.list ((xs.filter fun x => !decide (x ∈ ps)).map PyData.str), .list [], .lst (S7 _ _ e5) (dats_strs _), .lst upd_same .nil, plains_map PyData.str (fun _ => rfl) _, rfl, by
                  have := depths_map PyData.str 0 (fun _ => Nat.le_refl _) (xs.filter fun x => !decide (x ∈ ps))
                  simp only [PyData.depth]
                  omega, ?_⟩
                rw [eq_nilL, List.isEmpty_map]
                exact q3 _ (S23.trans (S5.trans S7))
      · rw [show decide (V.int ((es.length : Nat) : Int) = V.int 2) = false from decide_eq_false fun y => hn (by injection y with y; omega)]
        show if (!false) = true then _ else _
        rw [if_pos (by decide)]
        show if true = true then _ else _
        rw [if_pos rfl]
        exact no (by
          show (true && decide (es.length = 2)) = false
          rw [decide_eq_false hn]
          rfl) H (Same.refl _)
end
end S1

set_option Elab.async false
set_option linter.all false
set_option maxRecDepth 100000
set_option maxHeartbeats 1000000
/-! the law's own questions: sayings -/
namespace S1
open PySem PySem.W PySem.Spec PyProof.Rows L2
section
variable {X : Cx}
def rNeP : R2 := fun x y H Q => ∃ d e, Dat H x d ∧ Dat H y e ∧ d.plain = true ∧ e.plain = true ∧ d.depth ≤ 8 ∧ Q (.bl (!PyData.eqv d e)) H
theorem op_neP (hu : X.A.units + 64 < cLine) : OpR X (compareOp .NotEq) rNeP := by
  intro pins s σ H x y v u Q I rx ry h
  obtain ⟨d, e, D1, D2, p1, p2, dp, q⟩ := h
  obtain ⟨as, R1⟩ := reads_of_dat I.hok D1 rx
  obtain ⟨bs, R2⟩ := reads_of_dat I.hok D2 ry
  exact PySem.SeqAt.ne_plain R1 R2 p1 p2 (by have := Nat.min_le_left d.depth e.depth; omega) ⟨.bl _, H, I, rfl, q⟩
end
theorem say_chain (p o c : PyData) : sayB (.tuple [p, o, c]) = (wordsB p && (decide ((parts p).length ≤ 6) && (isTup o && (decide ((parts o).length ≤ 8) && ((parts o).all (isOwnB (strsOf p)) && (riseB ((parts o).map fun x => .str (fstS x)) &&
    (decide (((parts o).map fun x => 2 ^ sndLen x).sum ≤ 120) && (isTup c && (decide ((parts c).length ≤ 40) && ((parts c).all (isClO (namesD p o)) && riseB (parts c))))))))))) := by
  show (isNames 6 p && (areOwnsB (strsOf p) o && areClsB (namesD p o) c)) = _
  unfold isNames areOwnsB areClsB wordsB
  generalize isTup p = b1
  generalize decide ((parts p).length ≤ 6) = b2
  generalize ((parts p).all isNm && riseB (parts p)) = b3
  generalize isTup o = b4
  generalize decide ((parts o).length ≤ 8) = b5
  generalize (parts o).all (isOwnB (strsOf p)) = b6
  generalize riseB ((parts o).map fun x => .str (fstS x)) = b7
  generalize decide (((parts o).map fun x => 2 ^ sndLen x).sum ≤ 120) = b8
  generalize (isTup c && (decide ((parts c).length ≤ 40) && ((parts c).all (isClO (namesD p o)) && riseB (parts c)))) = b9
  cases b1 <;> cases b2 <;> cases b3 <;> cases b4 <;> cases b5 <;> cases b6 <;> cases b7 <;> cases b8 <;> rfl
theorem cls_of : ∀ (ds : List PyData) {ns : List Str}, ds.all (isClO ns) = true → ∃ cls : List (List Ltr), ds = cls.map clD
  | [], _, _ => ⟨[], rfl⟩
  | d :: ds, ns, h => by
    rw [List.all_cons, Bool.and_eq_true] at h
    obtain ⟨cls, rfl⟩ := cls_of ds h.2
    have z := h.1
    rw [isClO, Bool.and_eq_true] at z
    obtain ⟨cl, rfl⟩ := cl_of z.1
    exact ⟨cl :: cls, rfl⟩
theorem rise_cls {ds : List PyData} (h : riseB ds = true) : ds.Pairwise fun d e => dataLt d e = true := pair_of_rise (r := fun d e => dataLt d e = true) dataLt_trans (riseB_at h)
theorem plain_cl (cl : List Ltr) : (clD cl).plain = true := plains_map ltD (fun _ => rfl) cl
theorem alikes_cls : ∀ a b : List (List Ltr), alikeAll (a.map clD) (b.map clD) = true := fun a b => alikes_map clD alike_cl a b
/-- the clauses are their sorted set exactly if they rise -/
theorem sorted_cls {cls : List (List Ltr)} {es : List PyData} (hes : ∀ d ∈ es, d ∈ cls.map clD) (cov : ∀ d ∈ cls.map clD, d ∈ es) (up : es.Pairwise fun d e => dataLt d e = true) :
    PyData.eqv (.list (cls.map clD)) (.list es) = riseB (cls.map clD) := by
  obtain ⟨ms, em, _⟩ := sub_back (f := clD) (m := cls) es hes
  cases h : riseB (cls.map clD) with
  | true =>
    have e : cls.map clD = es := rise_unique (r := fun d e => dataLt d e = true) (fun d z => by rw [dataLt_irrefl] at z; cases z) dataLt_trans (rise_cls h) up fun d => ⟨cov d, hes d⟩
    rw [← e]
    exact PySem.SeqAt.eqv_refl_plain _ (plains_map clD plain_cl cls)
  | false =>
    cases z : PyData.eqv (.list (cls.map clD)) (.list es) with
    | false => rfl
    | true =>
      have z2 : PyData.eqvAll (cls.map clD) es = true := by simpa only [PyData.eqv] using z
      have e : cls.map clD = es := eqvs_same _ _ (by rw [em]; exact alikes_cls _ _) z2
      have y : riseB (cls.map clD) = true := by
        rw [e]
        have y2 := riseB_of (f := fun d : PyData => d) up
        rwa [List.map_id'] at y2
      rw [y] at h
      cases h
abbrev nJS : List Str := ["value", "picks", "owns", "clauses", "words", "own", "word", "sight", "clause"]
section
variable {P : Program} {w : World} {K : PySem.W.Frag} {mg : Str → Option Value} {base : Heap}
theorem scJSaying : FnScope nJS ["value"] (defScope sJSaying) := ⟨rfl, rfl, rfl, by decide +kernel, rfl, by decide +kernel, by decide +kernel⟩
theorem ok_jSaying {f fS fO fC : Addr} {fd fdS fdO fdC : FuncData} (F : Fun K "_law_is_saying" "_law_is_saying" sJSaying f fd) (Ws : Has K mg "_law_are_words" sJWords ["value"] fS fdS) (Ow : Has K mg "_law_is_own" sJOwn ["picks", "value"] fO fdO) (Cl : Has K mg "_law_is_clause" sJClause ["words", "value"] fC fdC)
    (GS : FnOk P w K mg base CX0 2 fS fdS ["value"] (spJ wordsB)) (GO : FnOk P w K mg base CX0 3 fO fdO ["picks", "value"] spOwnW) (GC : FnOk P w K mg base CX0 2 fC fdC ["words", "value"] spClW) (B : Blt mg) : FnOk P w K mg base CX0 4 f fd ["value"] (spJ sayB) := by
  refine F.ok scJSaying (fun vs H Q E h => ?_) (fun cdv A outer s H vs Q E hr h => ?_)
  · obtain ⟨v, d, rfl, _⟩ := h
    rfl
  · obtain ⟨v, d, rfl, D, li, q⟩ := h
    have hr2 := hr.mono (show 2 ≤ 3 by decide)
    have h64 : (A.deeper (envOfC "_law_is_saying" (defScope sJSaying) s.heap.objs.size f cdv)).units + 64 < cLine := hr.units
    refine ⟨_, pss_cons (ps_if (PW.pt (pw_or (pt_not (pt_val (pe_callB call_isi (by rfl) B.isi (by decide +kernel) (pa_cons (pv 0) (pa_cons (pe_bltn (v := V.ty "tuple") (by rfl) B.tuple (by decide +kernel) rfl) pa_nil)))))
            (pw_or (pt_cmpR op_ne (pe_callB call_len_seq (by rfl) B.len (by decide +kernel) (pa_cons (pv 0) pa_nil)) pe_int (nomark _))
            (pw_or (pt_not (pt_val (pe_call GS hr2 rfl Ws.g Ws.F.kp Ws.b .nil pass0 (pa_cons (pe_ix ix_tup (pv 0) pe_int (fun _ _ => rfl)) pa_nil))))
            (pw_or1 (pt_cmpR op_gt (pe_callB call_len_seq (by rfl) B.len (by decide +kernel) (pa_cons (pe_ix ix_tup (pv 0) pe_int (fun _ _ => rfl)) pa_nil)) pe_int (nomark _))))))) (pss_one (ps_ret pe_bl)) pss_nil)
      (pss_cons (ps_asg (pv 0) (pg_tup rfl (pgs_cons (pg_name (i := 1) scJSaying.nd rfl (.inr rfl)) (pgs_cons (pg_name (i := 2) scJSaying.nd rfl (.inl rfl)) (pgs_cons (pg_name (i := 3) scJSaying.nd rfl (.inl rfl)) pgs_nil)))))
      (pss_cons (ps_if (PW.pt (pw_or (pt_not (pt_val (pe_callB call_isi (by rfl) B.isi (by decide +kernel) (pa_cons (pv 2) (pa_cons (pe_bltn (v := V.ty "tuple") (by rfl) B.tuple (by decide +kernel) rfl) pa_nil)))))
            (pw_or (pt_cmpR op_gt (pe_callB call_len_seq (by rfl) B.len (by decide +kernel) (pa_cons (pv 2) pa_nil)) pe_int (nomark _))
            (pw_or1 (pt_not (pt_val (pe_callB (cr_all rfl) (by rfl) B.all (by decide +kernel) (pa_cons (pe_lc (own := [("own", 5)]) (g := gName 5) (tt := tYes) rfl scJSaying.nd (pi_tup (pv 2))
              (blkOk_by (N := nJS) (sc := defScope sJSaying) (by decide +kernel)) (fun _ _ _ _ _ => pg_name (i := 5) scJSaying.nd rfl (Or.inl rfl)) (fun _ _ _ _ _ => pts_nil)
              (fun _ _ _ _ _ => pe_call GO (by exact hr) (by rfl) Ow.g Ow.F.kp Ow.b .nil pass0 (pa_cons (pv 1) (pa_cons (pv 5) pa_nil)))) pa_nil)))))))) (pss_one (ps_ret pe_bl)) pss_nil)
      (pss_cons (ps_if (pt_cmpR (op_neP (by exact h64)) (pe_lc (own := [("word", 6), ("sight", 7)]) (g := gTup K 2 (gCons (gName 6) (gCons (gName 7) gNil))) (tt := tYes) (te := tVar 6) rfl scJSaying.nd (pi_tup (pv 2)) (blkOk_by (N := nJS) (sc := defScope sJSaying) (by decide +kernel))
            (fun _ _ _ _ _ => by exact pg_tup rfl (pgs_cons (pg_name (i := 6) scJSaying.nd rfl (.inl rfl)) (pgs_cons (pg_name (i := 7) scJSaying.nd rfl (.inl rfl)) pgs_nil))) (fun _ _ _ _ _ => pts_nil) (fun _ _ _ _ _ => by exact pv 6))
          (pe_callB (cr_sortTx rfl (by exact h64)) (by rfl) B.sorted (by decide +kernel) (pa_cons (pe_callTy (cr_setTx rfl) (by rfl) B.set (by decide +kernel) (pa_cons
            (pe_lc (own := [("word", 6), ("sight", 7)]) (g := gTup K 2 (gCons (gName 6) (gCons (gName 7) gNil))) (tt := tYes) (te := tVar 6) rfl scJSaying.nd (pi_tup (pv 2)) (blkOk_by (N := nJS) (sc := defScope sJSaying) (by decide +kernel))
              (fun _ _ _ _ _ => by exact pg_tup rfl (pgs_cons (pg_name (i := 6) scJSaying.nd rfl (.inl rfl)) (pgs_cons (pg_name (i := 7) scJSaying.nd rfl (.inl rfl)) pgs_nil))) (fun _ _ _ _ _ => pts_nil) (fun _ _ _ _ _ => by exact pv 6)) pa_nil)) pa_nil)) (by with_unfolding_all rfl)) (pss_one (ps_ret pe_bl)) pss_nil)
      (pss_cons (ps_if (pt_cmpR op_gt (pe_callB (cr_sum rfl) (by rfl) B.sum (by decide +kernel) (pa_cons (pe_lc (own := [("word", 6), ("sight", 7)]) (g := gTup K 2 (gCons (gName 6) (gCons (gName 7) gNil))) (tt := tYes)
            (te := tOp (rI CPow fun i j => V.int (i * 2 ^ j.toNat)) (tC (V.int 1)) (tCB (fun xs H Q => ∃ p ys, xs = [V.ref p] ∧ (SqL K H p ys ∨ SqT K H p ys) ∧ Q (V.int ys.length) H) (tCons (tVar 7) tNil))) rfl scJSaying.nd (pi_tup (pv 2)) (blkOk_by (N := nJS) (sc := defScope sJSaying) (by decide +kernel))
            (fun _ _ _ _ _ => by exact pg_tup rfl (pgs_cons (pg_name (i := 6) scJSaying.nd rfl (.inl rfl)) (pgs_cons (pg_name (i := 7) scJSaying.nd rfl (.inl rfl)) pgs_nil))) (fun _ _ _ _ _ => pts_nil)
            (fun _ _ _ _ _ => by exact pe_op op_shl pe_int (pe_callB call_len_seq (by rfl) B.len (by decide +kernel) (pa_cons (pv 7) pa_nil)))) pa_nil)) pe_int (nomark _)) (pss_one (ps_ret pe_bl)) pss_nil)
      (pss_cons (ps_if (PW.pt (pw_or (pt_not (pt_val (pe_callB call_isi (by rfl) B.isi (by decide +kernel) (pa_cons (pv 3) (pa_cons (pe_bltn (v := V.ty "tuple") (by rfl) B.tuple (by decide +kernel) rfl) pa_nil)))))
            (pw_or1 (pt_cmpR op_gt (pe_callB call_len_seq (by rfl) B.len (by decide +kernel) (pa_cons (pv 3) pa_nil)) pe_int (nomark _))))) (pss_one (ps_ret pe_bl)) pss_nil)
      (pss_cons (ps_set (i := 4) scJSaying.nd rfl (.inr rfl) (pe_op op_cat (pe_callTy call_list_of (by rfl) B.list (by decide +kernel) (pa_cons (pv 1) pa_nil))
          (pe_lc (own := [("word", 6), ("sight", 7)]) (g := gTup K 2 (gCons (gName 6) (gCons (gName 7) gNil))) (tt := tYes) (te := tVar 6) rfl scJSaying.nd (pi_tup (pv 2)) (blkOk_by (N := nJS) (sc := defScope sJSaying) (by decide +kernel))
            (fun _ _ _ _ _ => by exact pg_tup rfl (pgs_cons (pg_name (i := 6) scJSaying.nd rfl (.inl rfl)) (pgs_cons (pg_name (i := 7) scJSaying.nd rfl (.inl rfl)) pgs_nil))) (fun _ _ _ _ _ => pts_nil) (fun _ _ _ _ _ => by exact pv 6))))
      (pss_cons (ps_if (pt_not (pt_val (pe_callB (cr_all rfl) (by rfl) B.all (by decide +kernel) (pa_cons (pe_lc (own := [("clause", 8)]) (g := gName 8) (tt := tYes) rfl scJSaying.nd (pi_tup (pv 3))
              (blkOk_by (N := nJS) (sc := defScope sJSaying) (by decide +kernel)) (fun _ _ _ _ _ => pg_name (i := 8) scJSaying.nd rfl (Or.inl rfl)) (fun _ _ _ _ _ => pts_nil)
              (fun _ _ _ _ _ => pe_call GC (by exact hr2) (by rfl) Cl.g Cl.F.kp Cl.b .nil pass0 (pa_cons (pv 4) (pa_cons (pv 8) pa_nil)))) pa_nil)))) (pss_one (ps_ret pe_bl)) pss_nil)
      (pss_one (ps_ret (pe_cmpR (op_eqP (by exact h64)) (pe_callTy call_list_of (by rfl) B.list (by decide +kernel) (pa_cons (pv 3) pa_nil))
        (pe_callB (cr_sortN rfl (by exact h64)) (by rfl) B.sorted (by decide +kernel) (pa_cons (pe_callTy (cr_setNT rfl (by exact h64)) (by rfl) B.set (by decide +kernel) (pa_cons (pv 3) pa_nil)) pa_nil)) (nomark _))))))))))), ?_⟩
    refine ⟨_, rfl, _, _, _, _, isTup d, rfl, .ty _, ty_dat D, kit_ty (kit_tup d), isTup d, rfl, ?_⟩
    cases h : isTup d with
    | false =>
      rw [say_no (by rw [h]; rfl)] at q
      show if (!false) = true then _ else _
      rw [if_pos (by decide)]
      show if true = true then _ else _
      rw [if_pos rfl]
      exact q H (Same.refl _)
    | true =>
      obtain ⟨ds, rfl⟩ := tup_of h
      obtain ⟨a, vs', rfl, ea, Da⟩ := dat_tup D
      show if (!true) = true then _ else _
      rw [if_neg (by decide)]
      refine ⟨_, rfl, _, _, rfl, .inr (SqT.of ea), rfl, _, rfl, ?_⟩
      rw [Da.len]
      by_cases hn : ds.length = 3
      · rw [show decide (V.int ((ds.length : Nat) : Int) = V.int 3) = true from decide_eq_true (by rw [hn]; rfl)]
        show if (!true) = true then _ else _
        rw [if_neg (by decide)]
        obtain ⟨p, o, c, e⟩ := three_of (d := .tuple ds) rfl hn
        cases e
        cases Da with
        | @cons v1 _ _ _ h1 Da =>
        cases Da with
        | @cons v2 _ _ _ h2 Da =>
        cases Da with
        | @cons v3 _ _ _ h3 Da =>
        cases Da
        obtain ⟨_, lm⟩ := lim_tup li
        have l1 := lm p List.mem_cons_self
        have l2 := lm o (List.mem_cons_of_mem _ List.mem_cons_self)
        have l3 := lm c (List.mem_cons_of_mem _ (List.mem_cons_of_mem _ List.mem_cons_self))
        have q1 : ∀ H', Same H H' → Q (.bl (sayB (.tuple [p, o, c]))) H' := q
        rw [say_chain] at q1
        refine ⟨_, rfl, a, _, 0, _, rfl, rfl, SqT.of ea, rfl, v1, p, rfl, h1, l1, fun H1 S1 => ⟨wordsB p, rfl, ?_⟩⟩
        cases n1 : wordsB p with
        | false =>
          rw [n1] at q1
          show if (!false) = true then _ else _
          rw [if_pos (by decide)]
          show if true = true then _ else _
          rw [if_pos rfl]
          exact q1 H1 S1
        | true =>
          rw [n1, Bool.true_and] at q1
          obtain ⟨xs, rfl, up, _⟩ := words_of n1
          obtain ⟨b1, vs1, rfl, eb1, Db1⟩ := dat_tup (ds := xs.map PyData.str) h1
          cases dats_strs_eq Db1
          rw [strs_nms] at q1
          have ndx := nodup_tlt up
          show if (!true) = true then _ else _
          rw [if_neg (by decide)]
          refine ⟨_, rfl, a, _, 0, _, rfl, rfl, SqT.of (S1 _ _ ea), rfl, b1, _, rfl, .inr (SqT.of (S1 _ _ eb1)), _, _, rfl, rfl, _, rfl, ?_⟩
          have lp : (parts (nmsD xs)).length = xs.length := by
            show (xs.map PyData.str).length = _
            rw [List.length_map]
          rw [lp] at q1
          refine ite2 (fun g => ?_) (fun g => ?_)
          · have g' := of_decide_eq_true g
            rw [List.length_map] at g'
            rw [decide_eq_false (show ¬ xs.length ≤ 6 by omega)] at q1
            exact q1 H1 S1
          have le6 : xs.length ≤ 6 := by
            by_cases z : xs.length ≤ 6
            · exact z
            · exact absurd (decide_eq_true (by rw [List.length_map]; omega)) g
          rw [decide_eq_true le6, Bool.true_and] at q1
          refine ⟨_, rfl, a, _, rfl, SqT.of (S1 _ _ ea), rfl, _, _, rfl, _, _, rfl, _, _, rfl, rfl, ?_⟩
          refine ⟨_, rfl, _, _, _, _, isTup o, rfl, .ty _, ty_dat (h2.same S1), kit_ty (kit_tup o), isTup o, rfl, ?_⟩
          cases n2 : isTup o with
          | false =>
            rw [n2] at q1
            show if (!false) = true then _ else _
            rw [if_pos (by decide)]
            show if true = true then _ else _
            rw [if_pos rfl]
            exact q1 H1 S1
          | true =>
            rw [n2, Bool.true_and] at q1
            obtain ⟨od, rfl⟩ := tup_of n2
            obtain ⟨ao, us, rfl, eo, Do⟩ := dat_tup h2
            have lu : us.length = od.length := Do.len
            obtain ⟨leno, lmo⟩ := lim_tup l2
            have q2 : ∀ H', Same H H' → Q (.bl (decide (od.length ≤ 8) && (od.all (isOwnB xs) && (riseB (od.map fun x => .str (fstS x)) && (decide ((od.map fun x => 2 ^ sndLen x).sum ≤ 120) && (isTup c && (decide ((parts c).length ≤ 40) && ((parts c).all (isClO (namesD (nmsD xs) (.tuple od))) && riseB (parts c))))))))) H' := q1
            show if (!true) = true then _ else _
            rw [if_neg (by decide)]
            refine ⟨_, rfl, _, _, rfl, .inr (SqT.of (S1 _ _ eo)), _, _, rfl, rfl, _, rfl, ?_⟩
            refine ite2 (fun g => ?_) (fun g => ?_)
            · have g' := of_decide_eq_true g
              rw [lu] at g'
              rw [decide_eq_false (show ¬ od.length ≤ 8 by omega)] at q2
              show if true = true then _ else _
              rw [if_pos rfl]
              exact q2 H1 S1
            have le8 : od.length ≤ 8 := by
              by_cases z : od.length ≤ 8
              · exact z
              · exact absurd (decide_eq_true (by rw [lu]; omega)) g
            rw [decide_eq_true le8, Bool.true_and] at q2
            refine ⟨_, rfl, ao, rfl, ⟨_, SqT.of (S1 _ _ eo)⟩, fun D0 hD0 => lc_allD (K := K) (p := isOwnB xs) (S1 _ _ eo) (DatAll.same S1 Do) hD0 leno (fun i x d H4 Qe hd S4 Dx k => ?_) gName_mono (fun H5 e5 S5 => ?_)⟩
            · exact ⟨rfl, _, rfl, _, rfl, x, .ref b1, d, xs, rfl, Dx, lmo d (List.mem_of_getElem? hd), h1.same (S1.trans S4), ndx, k⟩
            have S15 := S1.trans S5
            refine ⟨D0, _, rfl, SqL.of e5, _, rfl, ?_⟩
            rw [all_id]
            cases n4 : od.all (isOwnB xs) with
            | false =>
              rw [n4] at q2
              show if (!false) = true then _ else _
              rw [if_pos (by decide)]
              exact q2 H5 S15
            | true =>
              rw [n4, Bool.true_and] at q2
              have er : (od.map fun x => PyData.str (fstS x)) = (od.map fstS).map PyData.str := by rw [List.map_map]; rfl
              rw [er] at q2
              show if (!true) = true then _ else _
              rw [if_neg (by decide)]
              refine ⟨_, rfl, ao, rfl, ⟨_, SqT.of (S15 _ _ eo)⟩, fun W1 hW1 => ?_⟩
              refine lc_tup (K := K) (a := ao) (xs := us) (fun j H4 => H4 W1 = some (.lst (((od.take j).map fstS).map V.str)) ∧ Same H5 H4) ⟨upd_same, same_new hW1⟩ (fun j H4 _ h => SqT.of (h.2 _ _ (S15 _ _ eo))) ?_ ?_
              · rintro j x H4 hx ⟨e4, S4⟩
                obtain ⟨d, hd, Dx⟩ := dats_get' Do j x hx
                obtain ⟨z, e', rfl, _⟩ := own_of (List.all_eq_true.mp n4 d (List.mem_of_getElem? hd))
                obtain ⟨tk, ys, rfl, et, Dt⟩ := dat_tup Dx
                obtain ⟨u1, u2, rfl, D1', D2'⟩ := dats_two Dt
                cases dat_str D1'
                have jl : j < od.length := (List.getElem?_eq_some_iff.mp hd).1
                refine ⟨tk, _, rfl, SqT.of (S4 _ _ (S15 _ _ et)), rfl, _, _, rfl, _, _, rfl, rfl, rfl, yes_of ?_⟩
                refine ⟨_, rfl, _, e4, by rw [List.length_map, List.length_map, List.length_take]; exact small1000 (by omega), ?_, same_upd S4 hW1⟩
                rw [upd_same, take_next hd, List.map_append, List.map_append]
                rfl
              · rintro H6 ⟨e6, S6⟩
                rw [lu, List.take_length] at e6
                have S16 := S15.trans S6
                refine ⟨_, rfl, ao, rfl, ⟨_, SqT.of (S16 _ _ eo)⟩, fun W2 hW2 => ?_⟩
                refine lc_tup (K := K) (a := ao) (xs := us) (fun j H4 => H4 W2 = some (.lst (((od.take j).map fstS).map V.str)) ∧ Same H6 H4) ⟨upd_same, same_new hW2⟩ (fun j H4 _ h => SqT.of (h.2 _ _ (S16 _ _ eo))) ?_ ?_
                · rintro j x H4 hx ⟨e4, S4⟩
                  obtain ⟨d, hd, Dx⟩ := dats_get' Do j x hx
                  obtain ⟨z, e', rfl, _⟩ := own_of (List.all_eq_true.mp n4 d (List.mem_of_getElem? hd))
                  obtain ⟨tk, ys, rfl, et, Dt⟩ := dat_tup Dx
                  obtain ⟨u1, u2, rfl, D1', D2'⟩ := dats_two Dt
                  cases dat_str D1'
                  have jl : j < od.length := (List.getElem?_eq_some_iff.mp hd).1
                  refine ⟨tk, _, rfl, SqT.of (S4 _ _ (S16 _ _ et)), rfl, _, _, rfl, _, _, rfl, rfl, rfl, yes_of ?_⟩
                  refine ⟨_, rfl, _, e4, by rw [List.length_map, List.length_map, List.length_take]; exact small1000 (by omega), ?_, same_upd S4 hW2⟩
                  rw [upd_same, take_next hd, List.map_append, List.map_append]
                  rfl
                · rintro H7 ⟨e7, S7⟩
                  rw [lu, List.take_length] at e7
                  refine ⟨W2, od.map fstS, rfl, .inl (SqL.of e7), by rw [List.length_map]; omega, fun st l hst nd mem few => ?_⟩
                  have S8 := same_new (o := TxO w st l) hst
                  refine ⟨st, l, rfl, upd_same, few, fun ys b' pm upy hb => ?_⟩
                  have S9 := same_new (o := .lst (ys.map V.str)) hb
                  have S19 := S16.trans (S7.trans (S8.trans S9))
                  refine ⟨.list ((od.map fstS).map PyData.str), .list (ys.map PyData.str), .lst (S9 _ _ (S8 _ _ (S7 _ _ e6))) (dats_strs _), .lst upd_same (dats_strs ys), plains_map PyData.str (fun _ => rfl) _, plains_map PyData.str (fun _ => rfl) _, by
                    have := depths_map PyData.str 0 (fun _ => Nat.le_refl _) (od.map fstS)
                    simp only [PyData.depth]
                    omega, _, rfl, ?_⟩
                  rw [eqv_strs, sorted_rise pm upy mem]
                  generalize upd (upd H7 st (TxO (cxOf CX0 P w K mg base nJS "_law_is_saying" (defScope sJSaying) f cdv A outer s H E).nox.w st l)) b' (.lst (ys.map V.str)) = H9 at S9 S19 ⊢
                  cases n5 : riseB ((od.map fstS).map PyData.str) with
                  | false =>
                    rw [n5] at q2
                    show if (!false) = true then _ else _
                    rw [if_pos (by decide)]
                    exact q2 H9 S19
                  | true =>
                    rw [n5, Bool.true_and] at q2
                    show if (!true) = true then _ else _
                    rw [if_neg (by decide)]
                    -- sizes
                    refine ⟨_, rfl, ao, rfl, ⟨_, SqT.of (S19 _ _ eo)⟩, fun W3 hW3 => ?_⟩
                    refine lc_tup (K := K) (a := ao) (xs := us) (fun j H4 => H4 W3 = some (.lst (((od.take j).map sizeD).map V.int)) ∧ Same H9 H4) ⟨upd_same, same_new hW3⟩ (fun j H4 _ h => SqT.of (h.2 _ _ (S19 _ _ eo))) ?_ ?_
                    · rintro j x H4 hx ⟨e4, S4⟩
                      obtain ⟨d, hd, Dx⟩ := dats_get' Do j x hx
                      obtain ⟨z, e', rfl, _, _, hs⟩ := own_of (List.all_eq_true.mp n4 d (List.mem_of_getElem? hd))
                      obtain ⟨tk, ys, rfl, et, Dt⟩ := dat_tup Dx
                      obtain ⟨u1, u2, rfl, D1', D2'⟩ := dats_two Dt
                      cases dat_str D1'
                      rw [isSightB, Bool.and_eq_true] at hs
                      obtain ⟨zs, rfl, lz, _⟩ := names_of' hs.1
                      obtain ⟨b2, us2, rfl, eb2, Db2⟩ := dat_tup (ds := zs.map PyData.str) D2'
                      cases dats_strs_eq Db2
                      have jl : j < od.length := (List.getElem?_eq_some_iff.mp hd).1
                      have ez : sizeD (.tuple [.str z, nmsD zs]) = 1 * 2 ^ ((zs.map V.str).length : Int).toNat := by
                        show (1 : Int) * 2 ^ (((zs.map PyData.str).length : Nat) : Int).toNat = _
                        rw [List.length_map, List.length_map]
                      refine ⟨tk, _, rfl, SqT.of (S4 _ _ (S19 _ _ et)), rfl, _, _, rfl, _, _, rfl, rfl, rfl, yes_of ?_⟩
                      refine ⟨_, rfl, b2, _, rfl, .inr (SqT.of (S4 _ _ (S19 _ _ eb2))), _, _, rfl, rfl, ⟨by omega, by rw [List.length_map]; omega, by decide⟩, _, e4, by rw [List.length_map, List.length_map, List.length_take]; exact small1000 (by omega), ?_, same_upd S4 hW3⟩
                      rw [upd_same, take_next hd, List.map_append, List.map_append]
                      show some (HO.lst (_ ++ [V.int (1 * 2 ^ ((zs.map V.str).length : Int).toNat)])) = some (HO.lst (_ ++ [V.int (sizeD (.tuple [.str z, nmsD zs]))]))
                      rw [ez]
                    · rintro H10 ⟨e10, S10⟩
                      rw [lu, List.take_length] at e10
                      have S20 := S19.trans S10
                      refine ⟨W3, od.map sizeD, rfl, SqL.of e10, _, _, rfl, rfl, _, rfl, ?_⟩
                      rw [sizeD_sum]
                      refine ite2 (fun g => ?_) (fun g => ?_)
                      · have g' := of_decide_eq_true g
                        rw [decide_eq_false (show ¬ (od.map fun x => 2 ^ sndLen x).sum ≤ 120 by omega)] at q2
                        exact q2 H10 S20
                      have le120 : (od.map fun x => 2 ^ sndLen x).sum ≤ 120 := by
                        by_cases z : (od.map fun x => 2 ^ sndLen x).sum ≤ 120
                        · exact z
                        · exact absurd (decide_eq_true (by omega)) g
                      rw [decide_eq_true le120, Bool.true_and] at q2
                      refine ⟨_, rfl, _, _, _, _, isTup c, rfl, .ty _, ty_dat (h3.same S20), kit_ty (kit_tup c), isTup c, rfl, ?_⟩
                      cases n6 : isTup c with
                      | false =>
                        rw [n6] at q2
                        show if (!false) = true then _ else _
                        rw [if_pos (by decide)]
                        show if true = true then _ else _
                        rw [if_pos rfl]
                        exact q2 H10 S20
                      | true =>
                        rw [n6, Bool.true_and] at q2
                        obtain ⟨cd, rfl⟩ := tup_of n6
                        obtain ⟨ac, cs, rfl, ec, Dc⟩ := dat_tup h3
                        obtain ⟨lenc, lmc⟩ := lim_tup l3
                        have en : namesD (nmsD xs) (.tuple od) = xs ++ od.map fstS := by
                          show strsOf (nmsD xs) ++ od.map fstS = _
                          rw [strs_nms]
                        rw [en] at q2
                        have q3 : ∀ H', Same H H' → Q (.bl (decide (cd.length ≤ 40) && (cd.all (isClO (xs ++ od.map fstS)) && riseB cd))) H' := q2
                        show if (!true) = true then _ else _
                        rw [if_neg (by decide)]
                        refine ⟨_, rfl, _, _, rfl, .inr (SqT.of (S20 _ _ ec)), _, _, rfl, rfl, _, rfl, ?_⟩
                        have lcs : cs.length = cd.length := Dc.len
                        refine ite2 (fun g => ?_) (fun g => ?_)
                        · have g' := of_decide_eq_true g
                          rw [lcs] at g'
                          rw [decide_eq_false (show ¬ cd.length ≤ 40 by omega)] at q3
                          exact q3 H10 S20
                        have le40 : cd.length ≤ 40 := by
                          by_cases z : cd.length ≤ 40
                          · exact z
                          · exact absurd (decide_eq_true (by rw [lcs]; omega)) g
                        rw [decide_eq_true le40, Bool.true_and] at q3
                        refine ⟨_, rfl, b1, _, rfl, .inr (SqT.of (S20 _ _ eb1)), fun k1 hk1 => ?_⟩
                        have S11 := same_new (o := .lst (xs.map V.str)) hk1
                        have e11 : upd H10 k1 (.lst (xs.map V.str)) k1 = some (.lst (xs.map V.str)) := upd_same
                        have S21 := S20.trans S11
                        generalize upd H10 k1 (.lst (xs.map V.str)) = H11 at S11 e11 S21 ⊢
                        refine ⟨_, rfl, ao, rfl, ⟨_, SqT.of (S21 _ _ eo)⟩, fun W4 hW4 => ?_⟩
                        refine lc_tup (K := K) (a := ao) (xs := us) (fun j H4 => H4 W4 = some (.lst (((od.take j).map fstS).map V.str)) ∧ Same H11 H4) ⟨upd_same, same_new hW4⟩ (fun j H4 _ h => SqT.of (h.2 _ _ (S21 _ _ eo))) ?_ ?_
                        · rintro j x H4 hx ⟨e4, S4⟩
                          obtain ⟨d, hd, Dx⟩ := dats_get' Do j x hx
                          obtain ⟨z, e', rfl, _⟩ := own_of (List.all_eq_true.mp n4 d (List.mem_of_getElem? hd))
                          obtain ⟨tk, ys, rfl, et, Dt⟩ := dat_tup Dx
                          obtain ⟨u1, u2, rfl, D1', D2'⟩ := dats_two Dt
                          cases dat_str D1'
                          have jl : j < od.length := (List.getElem?_eq_some_iff.mp hd).1
                          refine ⟨tk, _, rfl, SqT.of (S4 _ _ (S21 _ _ et)), rfl, _, _, rfl, _, _, rfl, rfl, rfl, yes_of ?_⟩
                          refine ⟨_, rfl, _, e4, by rw [List.length_map, List.length_map, List.length_take]; exact small1000 (by omega), ?_, same_upd S4 hW4⟩
                          rw [upd_same, take_next hd, List.map_append, List.map_append]
                          rfl
                        · rintro H12 ⟨e12, S12⟩
                          rw [lu, List.take_length] at e12
                          refine ⟨_, _, _, _, rfl, rfl, S12 _ _ e11, e12, by rw [List.length_map, List.length_map, List.length_map]; exact Nat.le_of_lt (small1000 (by omega)), fun k2 hk2 => ?_⟩
                          have S13 := same_new (o := .lst (xs.map V.str ++ (od.map fstS).map V.str)) hk2
                          have e13 : upd H12 k2 (.lst (xs.map V.str ++ (od.map fstS).map V.str)) k2 = some (.lst ((xs ++ od.map fstS).map V.str)) := by rw [upd_same, List.map_append]
                          have S23 := S21.trans (S12.trans S13)
                          generalize upd H12 k2 (.lst (xs.map V.str ++ (od.map fstS).map V.str)) = H13 at S13 e13 S23 ⊢
                          refine ⟨_, rfl, ac, rfl, ⟨_, SqT.of (S23 _ _ ec)⟩, fun W5 hW5 => lc_allD (K := K) (p := isClO (xs ++ od.map fstS)) (S23 _ _ ec) (DatAll.same S23 Dc) hW5 lenc (fun i x d H4 Qe hd S4 Dx k => ?_) gName_mono (fun H14 e14 S14 => ?_)⟩
                          · exact ⟨rfl, _, rfl, _, rfl, x, k2, d, _, rfl, Dx, lmc d (List.mem_of_getElem? hd), S4 _ _ e13, k⟩
                          have S24 := S23.trans S14
                          refine ⟨W5, _, rfl, SqL.of e14, _, rfl, ?_⟩
                          rw [all_id]
                          cases n7 : cd.all (isClO (xs ++ od.map fstS)) with
                          | false =>
                            rw [n7] at q3
                            show if (!false) = true then _ else _
                            rw [if_pos (by decide)]
                            exact q3 H14 S24
                          | true =>
                            rw [n7, Bool.true_and] at q3
                            obtain ⟨cls, rfl⟩ := cls_of cd n7
                            obtain ⟨T, eT, dT, DT⟩ := rows_of_dat Dc (fun d hd => by
                              obtain ⟨cl, _, rfl⟩ := List.mem_map.mp hd
                              exact ⟨_, rfl⟩)
                            subst eT
                            have so : Sorty T := sorty_of dT.symm alike_cl (fun x => ⟨_, rfl⟩) (fun x => by have := depth_cl x; omega)
                            have kT : ∀ r ∈ T, keyable r.2 = true := fun r hr => by
                              have y : r.2 ∈ cls.map clD := dT ▸ List.mem_map_of_mem hr
                              obtain ⟨cl, _, hcl⟩ := List.mem_map.mp y
                              rw [← hcl]
                              exact keyable_cl cl
                            have lT : T.length ≤ 40 := by
                              have y : T.length = (cls.map clD).length := by rw [dT, List.length_map]
                              omega
                            show if (!true) = true then _ else _
                            rw [if_neg (by decide)]
                            refine ⟨_, rfl, ac, _, rfl, .inr (SqT.of (S24 _ _ ec)), fun k3 hk3 => ?_⟩
                            have S15' := same_new (o := .lst (T.map TRow.v)) hk3
                            have e15 : upd H14 k3 (.lst (T.map TRow.v)) k3 = some (.lst (T.map TRow.v)) := upd_same
                            have S25 := S24.trans S15'
                            generalize upd H14 k3 (.lst (T.map TRow.v)) = H15 at S15' e15 S25 ⊢
                            refine ⟨_, rfl, ac, T, rfl, SqT.of (S25 _ _ ec), fun r hr => (DT r hr).same S25, so, kT, by omega, fun aS T2 hS sub2 all2 nd2 => ?_⟩
                            have S16' := same_new (o := SetNO w aS (T2.map TRow.n)) hS
                            refine ⟨aS, T2, rfl, upd_same, fun r hr => ((DT r (sub2 r hr)).same S25).same S16', so.sub sub2, fun r hr => kT r (sub2 r hr), fun T3 b3 pm3 up3 hb3 => ?_⟩
                            have S17' := same_new (o := .lst (T3.map TRow.v)) hb3
                            have S26 := S25.trans (S16'.trans S17')
                            refine ⟨.list (cls.map clD), .list (T3.map Prod.snd), .lst (S17' _ _ (S16' _ _ e15)) (DatAll.same S26 Dc), .lst upd_same (dats_rows fun r hr => (DT r (sub2 r (pm3.mem_iff.mp hr))).same S26), plains_map clD plain_cl cls, ?_, by
                              have := depths_map clD 2 depth_cl cls
                              simp only [PyData.depth]
                              omega, ?_⟩
                            · obtain ⟨ms, em, _⟩ := sub_back (f := clD) (m := cls) (T3.map Prod.snd) (fun d hd => by
                                obtain ⟨r, hr, rfl⟩ := List.mem_map.mp hd
                                rw [dT]
                                exact List.mem_map_of_mem (sub2 r (pm3.mem_iff.mp hr)))
                              rw [em]
                              exact plains_map clD plain_cl ms
                            · rw [sorted_cls (fun d hd => by
                                obtain ⟨r, hr, rfl⟩ := List.mem_map.mp hd
                                rw [dT]
                                exact List.mem_map_of_mem (sub2 r (pm3.mem_iff.mp hr))) (fun d hd => by
                                rw [dT] at hd
                                obtain ⟨r, hr, rfl⟩ := List.mem_map.mp hd
                                obtain ⟨r2, hr2, e2⟩ := List.mem_map.mp (all2 r hr)
                                rw [← e2]
                                exact List.mem_map_of_mem (pm3.mem_iff.mpr hr2)) (List.pairwise_map.mpr up3)]
                              exact q3 _ S26
      · rw [say_no (by
          show (true && decide (ds.length = 3)) = false
          rw [decide_eq_false hn]
          rfl)] at q
        rw [show decide (V.int ((ds.length : Nat) : Int) = V.int 3) = false from decide_eq_false fun y => hn (by injection y with y; omega)]
        show if (!false) = true then _ else _
        rw [if_pos (by decide)]
        show if true = true then _ else _
        rw [if_pos rfl]
        exact q H (Same.refl _)
end
end S1

set_option Elab.async false
set_option linter.all false
set_option maxRecDepth 100000
set_option maxHeartbeats 2000000
/-! answers drawn -/
namespace S1
open PySem PySem.W PySem.Spec PyProof.Rows L2
def blsD (bs : List Bool) : PyData := .tuple (bs.map .bool)
abbrev Tbl := List Bool
def ansT (an : List Tbl) : PyData := .tuple (an.map blsD)
structure AnsOk (os : List Own) (an : List Tbl) : Prop where
  len : an.length = os.length
  tbl : ∀ (i : Nat) (o : Own) (t : Tbl), os[i]? = some o → an[i]? = some t → t.length = 2 ^ o.2.length
theorem keyable_bls (p : List Bool) : keyable (blsD p) = true := keyables_map PyData.bool (fun _ => rfl) p
theorem dats_bls {H : Hp} : ∀ bs : List Bool, DatAll H (bs.map V.bl) (bs.map PyData.bool)
  | [] => .nil
  | b :: bs => .cons (.bl b) (dats_bls bs)
theorem copies_take (os : List Own) (j : Nat) : copies (os.take j) ≤ copies os := by
  unfold copies
  have e : os.map (fun o : Own => 2 ^ o.2.length) = (os.take j).map (fun o : Own => 2 ^ o.2.length) ++ (os.drop j).map (fun o : Own => 2 ^ o.2.length) := by rw [← List.map_append, List.take_append_drop]
  rw [e, List.sum_append]
  omega
def spDrawn : Sp := fun vs H Q _ => ∃ (p : Addr) (v : V) (c : Nat) (s : Say), vs = [.ref p, v] ∧ Src H p c ∧ c ≤ 80000 ∧ DatS H v s ∧ SayOk 6 8 120 40 s ∧
  ∀ (u : V) (an : List Tbl) (H' : Hp), Dat H' u (ansT an) → AnsOk s.owns an → Src H' p (c + 120) → Same (del H p) (del H' p) → Q u H'
abbrev nLD : List Str := ["source", "saying", "word", "sight", "turn"]
def lcScope : Expr → Scope
  | .ListComp _ _ sc _ => sc
  | _ => defScope sLDrawn
def retArg : List Stmt → Expr
  | [.Return (some (.Call _ [e] _ _)) _] => e
  | _ => .Constant .none 0 ⟨0, 0, 0, 0⟩
abbrev scOut : Scope := lcScope (retArg (defBody sLDrawn))
def envD : Env := { scope := defScope sLDrawn, locals := 0, globals := 0, cells := [], qual := "", func := none, code := .none, frame := .none, builtins := 0 }
abbrev scOutR : Scope := relabel scOut envD
theorem tup_src {H H' : Hp} {p a : Addr} {c : Nat} {xs : List V} (h : Src H p c) (s : Same (del H p) (del H' p)) (e : H a = some (.tup xs)) : H' a = some (.tup xs) := by
  obtain ⟨ys, hx⟩ := h.lst
  have na : a ≠ p := fun z => by rw [z, hx] at e; cases e
  have z := s a _ (by rw [del_ne na]; exact e)
  rwa [del_ne na] at z
section
variable {P : Program} {w : World} {K : PySem.W.Frag} {mg : Str → Option Value} {base : Heap}
theorem scLDrawn : FnScope nLD ["source", "saying"] (defScope sLDrawn) := ⟨rfl, rfl, rfl, by decide +kernel, rfl, by decide +kernel, by decide +kernel⟩
theorem ok_lDrawn {f fP : Addr} {fd fdP : FuncData} (F : Fun K "_law_drawn" "_law_drawn" sLDrawn f fd) (Pk : Has K mg "_law_pick" sPick ["source", "top"] fP fdP) (B : Blt mg) : FnOk P w K mg base CX0 2 f fd ["source", "saying"] spDrawn := by
  have GP : FnOk P w K mg base CX0 1 fP fdP ["source", "top"] spPick := ok_pick Pk.F B
  refine F.ok scLDrawn (fun vs H Q E h => ?_) (fun cdv A outer s H vs Q E hr h => ?_)
  · obtain ⟨p, v, c, sy, rfl, _⟩ := h
    rfl
  · obtain ⟨p, v, c, sy, rfl, hp, hc, D, ok, q⟩ := h
    refine ⟨_, pss_one (ps_ret (pe_tupleOf rfl B.tuple (pe_lc (own := [("word", 2), ("sight", 3)]) (g := gTup K 2 (gCons (gName 2) (gCons (gName 3) gNil))) (tt := tYes)
        (te := tThen (tLc (iRng1 (tCons (tOp (rI CPow fun i j => V.int (i * 2 ^ j.toNat)) (tC (V.int 1)) (tCB (fun xs H Q => ∃ p ys, xs = [V.ref p] ∧ (SqL K H p ys ∨ SqT K H p ys) ∧ Q (V.int ys.length) H) (tCons (tVar 3) tNil))) tNil)) (gName 4) tYes (tOp rEq (tCall spPick [] E0 (tCons (tVar 0) (tCons (tC (V.int 2)) tNil))) (tC (V.int 0))) [4]) (kTup K))
        rfl scLDrawn.nd (pi_tup (pe_ix ix_tup (pv 1) pe_int (fun _ _ => rfl))) (blkOk_by (N := nLD) (sc := defScope sLDrawn) (by decide +kernel))
        (fun _ _ _ _ _ => by exact pg_tup rfl (pgs_cons (pg_name (i := 2) scLDrawn.nd rfl (.inl rfl)) (pgs_cons (pg_name (i := 3) scLDrawn.nd rfl (.inl rfl)) pgs_nil))) (fun _ _ _ _ _ => pts_nil)
        (fun _ _ _ _ _ => by exact pe_tupleOf rfl B.tuple (pe_lc (own := [("turn", 4)]) rfl scLDrawn.nd (pi_range1 rfl B.range (pa_cons (pe_op op_shl pe_int (pe_callB call_len_seq (by rfl) B.len (by decide +kernel) (pa_cons (pv 3) pa_nil))) pa_nil))
          (by show BlkOk nLD scOutR _ _; exact blkOk_by (by decide +kernel)) (fun _ _ _ _ _ => pg_name (i := 4) scLDrawn.nd rfl (.inl rfl)) (fun _ _ _ _ _ => pts_nil)
          (fun _ _ _ _ _ => by exact pe_cmpR op_eq (pe_call GP (by exact hr) (by rfl) Pk.g Pk.F.kp Pk.b .nil pass0 (pa_cons (pv 0) (pa_cons pe_int pa_nil))) pe_int (nomark _))))))), ?_⟩
    obtain ⟨a, pk, ow, cc, rfl, ea, Dk, Do, Dc⟩ := say_row D
    obtain ⟨b, us, rfl, eb, Db⟩ := dat_tup Do
    have lu : us.length = sy.owns.length := by rw [Db.len, List.length_map]
    have lo := ok.ol
    have oc := ok.oc
    have opl := ok.pl
    refine ⟨_, rfl, a, _, 1, _, rfl, rfl, SqT.of ea, rfl, b, rfl, ⟨_, SqT.of eb⟩, fun D0 hD0 => ?_⟩
    have pD0 := hp.ne hD0
    refine lc_tup (K := K) (a := b) (xs := us) (fun j H4 => ∃ (T : List TRow) (an : List Tbl), H4 D0 = some (.lst (T.map TRow.v)) ∧ T.map Prod.snd = an.map blsD ∧ (∀ q' ∈ T, Dat H4 q'.v q'.2) ∧ an.length = j ∧ (∀ (i : Nat) (o : Own) (t : Tbl), sy.owns[i]? = some o → an[i]? = some t → t.length = 2 ^ o.2.length) ∧
      Src H4 p (c + copies (sy.owns.take j)) ∧ Same (del H p) (del H4 p))
      ⟨[], [], upd_same, rfl, fun q' hq' => absurd hq' (by simp), rfl, fun i o t _ h => by simp at h, hp.mono (upd_ne pD0) (by omega), sd_of (same_new hD0)⟩
      (fun j H4 _ ⟨_, _, _, _, _, _, _, _, S⟩ => SqT.of (tup_src hp S eb)) ?_ ?_
    · rintro j x H4 hx ⟨T, an, e4, d4, D4, la, ta, s4, S4⟩
      obtain ⟨d, hd, Dx⟩ := dats_get' Db j x hx
      obtain ⟨o, ho, rfl⟩ := get_map hd
      obtain ⟨to, rfl⟩ := tuple_ref (ds := [.str o.1, nmsD o.2]) Dx
      obtain ⟨t', h1, h2⟩ := own_row (q := (to, ownD o)) rfl Dx
      have il : j < sy.owns.length := (List.getElem?_eq_some_iff.mp ho).1
      have og := sight_le ok (List.mem_of_getElem? ho)
      have ct := copies_take sy.owns (j + 1)
      have cs : copies (sy.owns.take (j + 1)) = copies (sy.owns.take j) + 2 ^ o.2.length := by rw [take_next ho, copies_snoc]
      have kT : ∀ q' ∈ T, keyable q'.2 = true := fun q' hq' => by
        have m2 : q'.2 ∈ an.map blsD := d4 ▸ List.mem_map_of_mem hq'
        obtain ⟨z, _, hz⟩ := List.mem_map.mp m2
        rw [← hz]
        exact keyable_bls z
      have pow : 2 ^ o.2.length ≤ 120 := by omega
      have eN : ((1 : Int) * 2 ^ ((o.2.map V.str).length : Int).toNat).toNat = 2 ^ o.2.length := by
        rw [List.length_map, Int.toNat_natCast, Int.one_mul]
        have : ((2 : Int) ^ o.2.length) = ((2 ^ o.2.length : Nat) : Int) := by push_cast; rfl
        rw [this, Int.toNat_natCast]
      have eI : (1 : Int) * 2 ^ ((o.2.map V.str).length : Int).toNat = ((2 ^ o.2.length : Nat) : Int) := by
        rw [List.length_map, Int.toNat_natCast, Int.one_mul]
        push_cast
        rfl
      refine ⟨to, _, rfl, SqT.of (tup_src hp S4 h1), rfl, _, _, rfl, _, _, rfl, rfl, rfl, yes_of ?_⟩
      refine ⟨_, rfl, _, _, rfl, .inr (SqT.of (tup_src hp S4 h2)), _, _, rfl, rfl, ⟨by omega, by rw [List.length_map]; omega, by decide⟩, _, rfl, by rw [eI]; omega, by rw [eI]; omega, fun D1 hD1 => ?_⟩
      have pD1 := s4.ne hD1
      have D01 : D0 ≠ D1 := ne_of_none e4 hD1
      rw [eN]
      refine lc_range (lo := 0) (n := 2 ^ o.2.length) (fun k H6 => ∃ bs : List Bool, H6 D1 = some (.lst (bs.map V.bl)) ∧ bs.length = k ∧ H6 D0 = some (.lst (T.map TRow.v)) ∧ (∀ q' ∈ T, Dat H6 q'.v q'.2) ∧ Src H6 p (c + copies (sy.owns.take j) + k) ∧ Same (del H p) (del H6 p) ∧ Same (del H4 p) (del H6 p)) ?_ ?_ ?_
      · exact ⟨[], upd_same, rfl, by rw [upd_ne D01]; exact e4, fun q' hq' => (D4 q' hq').same (same_new hD1), s4.mono (upd_ne pD1) (by omega), S4.trans (sd_of (same_new hD1)), sd_of (same_new hD1)⟩
      · rintro k H6 hk ⟨bs, e6, lb, e60, D6, s6, S6, S46⟩
        refine ⟨rfl, yes_of ?_⟩
        refine ⟨_, rfl, p, _, 2, rfl, s6, by omega, by decide, by decide, fun r o' _ _ hp7 => ⟨rfl, _, by rw [upd_ne pD1.symm]; exact e6, by rw [List.length_map, lb]; exact small1000 (by omega), bs ++ [decide (V.int r = V.int 0)], ?_⟩⟩
        obtain ⟨xs6, hx6⟩ := s6.lst
        have e71 : upd H6 p o' D1 = some (.lst (bs.map V.bl)) := by rw [upd_ne pD1.symm]; exact e6
        have hD1H : H D1 = none := sd_free S4 hD1 pD1.symm
        have hD1H4 : del H4 p D1 = none := by rw [del_ne pD1.symm]; exact hD1
        refine ⟨by rw [upd_same, List.map_append]; rfl, by rw [List.length_append, lb]; rfl, by rw [upd_ne D01, upd_ne pD0.symm]; exact e60, fun q' hq' => dat_upd e71 (kT q' hq') (dat_upd hx6 (kT q' hq') (D6 q' hq')), hp7.mono (upd_ne pD1) (by omega), sd_put (sd_at S6) hD1H, sd_put (sd_at S46) hD1⟩
      · rintro H6 ⟨bs, e6, lb, e60, D6, s6, S6, S46⟩
        refine .inl ⟨D1, _, rfl, SqL.of e6, fun t ht => ?_⟩
        have St := same_new (o := .tup (bs.map V.bl)) ht
        have pt := s6.ne ht
        have e70 := St _ _ e60
        refine ⟨_, e70, by rw [List.length_map, ← List.length_map (f := Prod.snd), d4, List.length_map, la]; exact small1000 (by omega), T ++ [(t, blsD bs)], an ++ [bs], by rw [upd_same, List.map_append]; rfl, by rw [List.map_append, d4, List.map_append]; rfl, fun q' hq' => ?_, by rw [List.length_append, la]; rfl, fun i o2 t2 h3 h4 => ?_, ?_, ?_⟩
        · rcases List.mem_append.mp hq' with m | m
          · exact dat_upd e70 (kT q' m) ((D6 q' m).same St)
          · cases List.mem_singleton.mp m
            exact dat_upd e70 (keyable_bls _) (.tup upd_same (dats_bls bs))
        · by_cases hi : i < an.length
          · rw [List.getElem?_append_left hi] at h4
            exact ta i o2 t2 h3 h4
          · have hi2 : i = an.length := by
              have := (List.getElem?_eq_some_iff.mp h4).1
              rw [List.length_append] at this
              simp at this
              omega
            rw [hi2, List.getElem?_append_right (Nat.le_refl _), Nat.sub_self] at h4
            cases (show some bs = some t2 from h4)
            rw [hi2, la, ho] at h3
            cases h3
            exact lb
        · exact s6.mono (by rw [upd_ne pD0, upd_ne pt]) (by rw [cs]; omega)
        · exact sd_put (sd_put S6 (sd_free S6 ht pt.symm)) hD0
    · rintro H4 ⟨T, an, e4, d4, D4, la, ta, s4, S4⟩
      rw [lu, List.take_length] at s4
      refine .inl ⟨D0, _, rfl, SqL.of e4, fun t ht => ?_⟩
      have pt := s4.ne ht
      refine q (.ref t) an _ (.tup upd_same ?_) ⟨by rw [la, lu], ta⟩ (s4.mono (upd_ne pt) (by omega)) (S4.trans (sd_of (same_new ht)))
      rw [← d4]
      exact dats_rows fun r hr => (D4 r hr).same (same_new ht)
end
end S1

set_option Elab.async false
set_option linter.all false
set_option maxRecDepth 100000
set_option maxHeartbeats 1000000
/-! how great bent data can be: widths, and a weight that adds up -/
namespace S1
open PySem PySem.W PySem.Spec PyProof.Rows L2
theorem listText_le : ∀ ts : List Str, (listText ts).length ≤ piled ts + 2
  | [] => by decide
  | t :: r => by
    have h := textFrom_length_pos r 1 (("[" : Str) ++ (if (0 : Nat) > 0 then ", " else "" : String) ++ t) (Nat.succ_pos 0)
    have e1 : (("[" : Str) ++ (if (0 : Nat) > 0 then ", " else "" : String) ++ t).length = 1 + t.length := by
      rw [strLen_append, strLen_append]
      rfl
    have e2 : (listText (t :: r)).length = (textFrom 1 (("[" : Str) ++ (if (0 : Nat) > 0 then ", " else "" : String) ++ t) r).length + 1 := by
      show (textFrom 1 _ r ++ "]").length = _
      rw [strLen_append]
      rfl
    rw [piled_cons]
    omega
theorem join_le (ts : List Str) : (Str.join ", " ts).length ≤ piled ts := by
  by_cases h : ts = []
  · subst h
    decide
  · have := join_length_add ts h
    omega
theorem tupleText_le (ts : List Str) : (tupleText ts).length ≤ piled ts + 3 := by
  have h := join_le ts
  unfold tupleText
  rw [strLen_append, strLen_append]
  have e1 : ((("(" : String) : Str)).length = 1 := rfl
  have e3 : (((if ts.length == 1 then ",)" else ")" : String) : Str)).length ≤ 2 := by split <;> decide
  omega
mutual
/-- at least as much as its shown text has signs; adds up over parts -/
def wt : PyData → Nat
  | .list ds => 3 + wts ds
  | .tuple ds => 3 + wts ds
  | .str x => 10 * x.length + 2
  | .dict kvs => (PyData.shown (.dict kvs)).length
  | .none => (PyData.shown .none).length
  | .bool b => (PyData.shown (.bool b)).length
  | .int i => (PyData.shown (.int i)).length
def wts : List PyData → Nat
  | [] => 0
  | d :: ds => wt d + 2 + wts ds
end
mutual
/-- rows of at most n parts, texts of at most n signs, each with a code that a text can have -/
def limN (n : Nat) : PyData → Bool
  | .list ds => decide (ds.length ≤ n) && limNs n ds
  | .tuple ds => decide (ds.length ≤ n) && limNs n ds
  | .str x => decide (x.length ≤ n) && x.cps.toList.all fun c => decide (c < 200)
  | _ => true
def limNs (n : Nat) : List PyData → Bool
  | [] => true
  | d :: ds => limN n d && limNs n ds
end
theorem limNs_mem {n : Nat} : ∀ {ds : List PyData}, limNs n ds = true → ∀ d ∈ ds, limN n d = true
  | [], _, d, h => nomatch h
  | x :: ds, t, d, h => by
    rw [limNs, Bool.and_eq_true] at t
    rcases List.mem_cons.mp h with rfl | h
    · exact t.1
    · exact limNs_mem t.2 d h
theorem limNs_of {n : Nat} : ∀ {ds : List PyData}, (∀ d ∈ ds, limN n d = true) → limNs n ds = true
  | [], _ => rfl
  | x :: ds, h => by
    rw [limNs, h x List.mem_cons_self, limNs_of fun d hd => h d (List.mem_cons_of_mem _ hd)]
    rfl
theorem wts_append (a b : List PyData) : wts (a ++ b) = wts a + wts b := by
  induction a with
  | nil => rw [List.nil_append, wts, Nat.zero_add]
  | cons x a ih =>
    rw [List.cons_append, wts, wts, ih]
    omega
theorem wts_mem {d : PyData} : ∀ {ds : List PyData}, d ∈ ds → wt d + 2 ≤ wts ds
  | x :: ds, h => by
    rw [wts]
    rcases List.mem_cons.mp h with rfl | h
    · omega
    · have := wts_mem h
      omega
theorem wts_take (ds : List PyData) (k : Nat) : wts (ds.take k) ≤ wts ds := by
  conv => rhs; rw [← List.take_append_drop k ds, wts_append]
  exact Nat.le_add_right _ _
theorem wts_drop (ds : List PyData) (k : Nat) : wts (ds.drop k) ≤ wts ds := by
  conv => rhs; rw [← List.take_append_drop k ds, wts_append]
  exact Nat.le_add_left _ _
theorem wts_reverse (ds : List PyData) : wts ds.reverse = wts ds := by
  induction ds with
  | nil => rfl
  | cons x ds ih =>
    rw [List.reverse_cons, wts_append, ih, wts, wts, wts]
    omega
/-- it can be shown, and stays small -/
structure Fit (n w k : Nat) (d : PyData) : Prop where
  s : d.showable = true
  z : wt d ≤ w
  dp : d.depth ≤ k
  l : limN n d = true
theorem Fit.up {n w k n' w' k' : Nat} {d : PyData} (h : Fit n w k d) (hn : limN n d = true → limN n' d = true) (hw : w ≤ w') (hk : k ≤ k') : Fit n' w' k' d := ⟨h.s, Nat.le_trans h.z hw, Nat.le_trans h.dp hk, hn h.l⟩
mutual
theorem limN_mono {n n' : Nat} (h : n ≤ n') : ∀ d : PyData, limN n d = true → limN n' d = true
  | .list ds, t => by
    rw [limN, Bool.and_eq_true, decide_eq_true_eq] at t ⊢
    exact ⟨Nat.le_trans t.1 h, limNs_mono h ds t.2⟩
  | .tuple ds, t => by
    rw [limN, Bool.and_eq_true, decide_eq_true_eq] at t ⊢
    exact ⟨Nat.le_trans t.1 h, limNs_mono h ds t.2⟩
  | .str x, t => by
    rw [limN, Bool.and_eq_true, decide_eq_true_eq] at t ⊢
    exact ⟨Nat.le_trans t.1 h, t.2⟩
  | .none, _ => by simp [limN]
  | .bool _, _ => by simp [limN]
  | .int _, _ => by simp [limN]
  | .dict _, _ => by simp [limN]
theorem limNs_mono {n n' : Nat} (h : n ≤ n') : ∀ ds : List PyData, limNs n ds = true → limNs n' ds = true
  | [], _ => rfl
  | d :: ds, t => by
    rw [limNs, Bool.and_eq_true] at t ⊢
    exact ⟨limN_mono h d t.1, limNs_mono h ds t.2⟩
end
mutual
theorem lim_of {n : Nat} (h : n ≤ 1000) : ∀ d : PyData, limN n d = true → lim d = true
  | .list ds, t => by
    rw [limN, Bool.and_eq_true, decide_eq_true_eq] at t
    rw [lim, Bool.and_eq_true, decide_eq_true_eq]
    exact ⟨Nat.le_trans t.1 h, lims_of h ds t.2⟩
  | .tuple ds, t => by
    rw [limN, Bool.and_eq_true, decide_eq_true_eq] at t
    rw [lim, Bool.and_eq_true, decide_eq_true_eq]
    exact ⟨Nat.le_trans t.1 h, lims_of h ds t.2⟩
  | .str x, t => by
    rw [limN, Bool.and_eq_true, decide_eq_true_eq] at t
    rw [lim, decide_eq_true_eq]
    exact Nat.le_trans t.1 h
  | .none, _ => by simp [lim]
  | .bool _, _ => by simp [lim]
  | .int _, _ => by simp [lim]
  | .dict _, _ => by simp [lim]
theorem lims_of {n : Nat} (h : n ≤ 1000) : ∀ ds : List PyData, limNs n ds = true → lims ds = true
  | [], _ => rfl
  | d :: ds, t => by
    rw [limNs, Bool.and_eq_true] at t
    rw [lims, Bool.and_eq_true]
    exact ⟨lim_of h d t.1, lims_of h ds t.2⟩
end
mutual
/-- the weight is enough -/
theorem shown_wt {n : Nat} : ∀ d : PyData, limN n d = true → d.shown.length ≤ wt d
  | .list ds, t => by
    rw [limN, Bool.and_eq_true] at t
    simp only [PyData.shown]
    have h1 := listText_le (PyData.shownAll ds)
    have h2 := piled_wts ds t.2
    rw [wt]
    omega
  | .tuple ds, t => by
    rw [limN, Bool.and_eq_true] at t
    simp only [PyData.shown]
    have h1 := tupleText_le (PyData.shownAll ds)
    have h2 := piled_wts ds t.2
    rw [wt]
    omega
  | .str x, t => by
    rw [limN, Bool.and_eq_true, List.all_eq_true] at t
    simp only [PyData.shown]
    rw [wt]
    exact StrLaws.reprText_len x fun c hc => Nat.lt_trans (of_decide_eq_true (t.2 c hc)) (by decide)
  | .none, _ => by rw [wt]; exact Nat.le_refl _
  | .bool b, _ => by rw [wt]; exact Nat.le_refl _
  | .int i, _ => by rw [wt]; exact Nat.le_refl _
  | .dict kvs, _ => by rw [wt]; exact Nat.le_refl _
theorem piled_wts {n : Nat} : ∀ ds : List PyData, limNs n ds = true → piled (PyData.shownAll ds) ≤ wts ds
  | [], _ => by
    simp only [PyData.shownAll, wts]
    exact Nat.le_refl _
  | d :: ds, t => by
    rw [limNs, Bool.and_eq_true] at t
    have h1 := shown_wt d t.1
    have h2 := piled_wts ds t.2
    simp only [PyData.shownAll]
    rw [piled_cons, wts]
    omega
end
theorem Fit.lim {n w k : Nat} {d : PyData} (h : Fit n w k d) (hn : n ≤ 1000) : S1.lim d = true := lim_of hn d h.l
theorem Fit.shown {n w k : Nat} {d : PyData} (h : Fit n w k d) : d.shown.length ≤ w := Nat.le_trans (shown_wt d h.l) h.z
end S1

set_option Elab.async false
set_option linter.all false
set_option maxRecDepth 100000
set_option maxHeartbeats 1000000
/-! an object in the place of another one -/
namespace S1
open PySem PySem.W PySem.Spec PyProof.Rows L2
theorem Fit.dict0 {n w k : Nat} (hw : 2 ≤ w) (hk : 1 ≤ k) : Fit n w k (.dict []) := ⟨by simp [PyData.showable, PyData.showableKv], by rw [wt]; exact hw, by simp only [PyData.depth, PyData.depthKv]; omega, by simp [limN]⟩
theorem Fit.non {n w k : Nat} (hw : 4 ≤ w) : Fit n w k .none := ⟨rfl, by rw [wt]; exact hw, Nat.zero_le _, by simp [limN]⟩
theorem Fit.bl {n w k : Nat} (b : Bool) (hw : 5 ≤ w) : Fit n w k (.bool b) := ⟨rfl, by rw [wt]; cases b <;> exact Nat.le_trans (by decide) hw, Nat.zero_le _, by simp [limN]⟩
/-- the integers that stand in the law's text -/
theorem Fit.num {n w k : Nat} {i : Int} (h : i = 0 ∨ i = 1 ∨ i = -1) (hw : 5 ≤ w) : Fit n w k (.int i) := by
  rcases h with rfl | rfl | rfl
  · exact ⟨by decide, by rw [wt]; exact Nat.le_trans (by decide) hw, Nat.zero_le _, by simp [limN]⟩
  · exact ⟨by decide, by rw [wt]; exact Nat.le_trans (by decide) hw, Nat.zero_le _, by simp [limN]⟩
  · exact ⟨by decide, by rw [wt]; exact Nat.le_trans (by decide) hw, Nat.zero_le _, by simp [limN]⟩
theorem Fit.str {n w k : Nat} {x : Str} (h1 : x.length ≤ n) (h2 : (x.cps.toList.all fun c => decide (c < 200)) = true) (hw : 10 * x.length + 2 ≤ w) : Fit n w k (.str x) := ⟨rfl, by rw [wt]; exact hw, Nat.zero_le _, by rw [limN, h2, decide_eq_true h1]; rfl⟩
theorem fits_parts {n w k : Nat} : ∀ {ds : List PyData}, (∀ d ∈ ds, Fit n w k d) → PyData.showableAll ds = true ∧ PyData.depthAll ds ≤ k ∧ limNs n ds = true
  | [], _ => ⟨by simp only [PyData.showableAll], by simp only [PyData.depthAll]; omega, rfl⟩
  | d :: ds, h => by
    have h1 := h d List.mem_cons_self
    obtain ⟨a, b, c⟩ := fits_parts fun x hx => h x (List.mem_cons_of_mem _ hx)
    refine ⟨by simp only [PyData.showableAll, h1.s, a, Bool.and_self], ?_, by rw [limNs, h1.l, c]; rfl⟩
    simp only [PyData.depthAll]
    exact Nat.max_le.mpr ⟨h1.dp, b⟩
theorem Fit.tup {n w w' k : Nat} {ds : List PyData} (h : ∀ d ∈ ds, Fit n w k d) (hl : ds.length ≤ n) (hw : 3 + wts ds ≤ w') : Fit n w' (k + 1) (.tuple ds) := by
  obtain ⟨a, b, c⟩ := fits_parts h
  exact ⟨by simp only [PyData.showable, a], by rw [wt]; exact hw, by simp only [PyData.depth]; omega, by rw [limN, c, decide_eq_true hl]; rfl⟩
theorem Fit.lst {n w w' k : Nat} {ds : List PyData} (h : ∀ d ∈ ds, Fit n w k d) (hl : ds.length ≤ n) (hw : 3 + wts ds ≤ w') : Fit n w' (k + 1) (.list ds) := by
  obtain ⟨a, b, c⟩ := fits_parts h
  exact ⟨by simp only [PyData.showable, a], by rw [wt]; exact hw, by simp only [PyData.depth]; omega, by rw [limN, c, decide_eq_true hl]; rfl⟩
section
variable {P : Program} {w : World} {K : PySem.W.Frag} {mg : Str → Option Value} {base : Heap}
theorem scOdd : FnScope ["source", "value", "odd"] ["source", "value"] (defScope sOdd) := ⟨rfl, rfl, rfl, by decide +kernel, rfl, by decide +kernel, by decide +kernel⟩
theorem dat_off {H : Hp} {p : Addr} {xs : List V} {v : V} {d : PyData} (hp : H p = some (.lst xs)) (k : keyable d = true) (D : Dat H v d) : Dat (del H p) v d := by
  have S : Same (del H p) (del (del H p) p) := fun b u e => by
    by_cases z : b = p
    · subst z
      unfold del at e
      simp at e
    · rw [del_ne z]
      exact e
  exact dat_del hp S k D
end
/- The reading of _law_odd, checked as far as the goal behind it (F.ok scOdd, GP := ok_pick Pk.F B, hr : Room 1):
  refine ⟨_, pss_cons (ps_set (i := 2) scOdd.nd rfl (.inl rfl) (pe_lst (pa_cons pe_non (pa_cons pe_int (pa_cons pe_int (pa_cons pe_bl (pa_cons pe_bl (pa_cons pe_str (pa_cons pe_str (pa_cons pe_str (pa_cons pe_str (pa_cons pe_str
      (pa_cons (pe_tup pa_nil) (pa_cons (pe_lst pa_nil) (pa_cons (pe_tup (pa_cons (pv 1) pa_nil)) (pa_cons (pe_lst (pa_cons (pv 1) pa_nil)) (pa_cons (pe_tup (pa_cons pe_int pa_nil)) (pa_cons (pe_tup (pa_cons pe_str pa_nil)) (pa_cons pe_dnewK
      (pa_cons (pe_un un_neg pe_int) pa_nil))))))))))))))))))))
    (pss_cons (ps_set (i := 2) scOdd.nd rfl (.inl rfl) (pe_op op_cat (pv 2) (pe_lst (pa_cons (pe_tup (pa_cons (pe_tup (pa_cons pe_str (pa_cons pe_bl pa_nil))) pa_nil)) (pa_cons (pe_tup (pa_cons pe_str (pa_cons pe_int pa_nil))) (pa_cons (pe_tup (pa_cons pe_str (pa_cons pe_non pa_nil)))
      (pa_cons (pe_tup (pa_cons pe_bl (pa_cons pe_str pa_nil))) (pa_cons pe_str (pa_cons (pe_tup (pa_cons (pv 1) (pa_cons (pv 1) pa_nil))) (pa_cons (pe_disp (pps_cons pe_str (pe_lst (pa_cons (pv 1) pa_nil)) pps_nil) (by rfl) (by rfl) (fun z => by cases z) (by decide))
      (pa_cons pe_str pa_nil)))))))))))
    (pss_one (ps_ret (pe_ix ix_list (pv 2) (pe_call GP hr rfl Pk.g Pk.F.kp Pk.b .nil pass0 (pa_cons (pv 0) (pa_cons (pe_callB call_len_seq (by rfl) B.len (by decide +kernel) (pa_cons (pv 2) pa_nil)) pa_nil))) (fun _ _ => rfl))))), ?_⟩
then: refine ⟨z0, fun t1 g1 => ⟨z0, fun t2 g2 => ⟨_, rfl, z1, fun t3 g3 => ⟨_, rfl, z1, fun t4 g4 => ⟨z1, fun t5 g5 => ⟨z1, fun t6 g6 => fun t7 g7 => ⟨_, rfl, (18 ≤ sizeLine), fun l1 gl1 => ?_⟩⟩⟩⟩⟩⟩⟩ ;
refine ⟨_, rfl, z2, fun t8 g8 => ⟨z1, fun t9 g9 => ⟨z2, fun t10 g10 => ⟨z2, fun t11 g11 => ⟨z2, fun t12 g12 => ⟨_, rfl, _, rfl, z2, fun t13 g13 => fun t14 g14 => ⟨_, rfl, z1, fun t15 g15 => ?_⟩⟩⟩⟩⟩⟩⟩ ;
then the pairs of the dict at t14, the second list, op_cat, the pick, ix_list (at_ok). -/
end S1

set_option Elab.async false
set_option linter.all false
set_option maxRecDepth 100000
set_option maxHeartbeats 2000000
/-! an object in the place of another one -/
namespace S1
open PySem PySem.W PySem.Spec PyProof.Rows L2
theorem dictText_le (ts : List Str) : (dictText ts).length ≤ piled ts + 2 := by
  have h := join_le ts
  unfold dictText
  rw [strLen_append, strLen_append]
  have e1 : ((("{" : String) : Str)).length = 1 := rfl
  have e2 : ((("}" : String) : Str)).length = 1 := rfl
  omega
theorem gcons {R : V → Prop} {x : V} {l : List V} (h : R x) (t : ∀ y ∈ l, R y) : ∀ y ∈ x :: l, R y := fun y hy => by
  rcases List.mem_cons.mp hy with rfl | hy
  · exact h
  · exact t y hy
theorem gnil {R : V → Prop} : ∀ y ∈ ([] : List V), R y := fun y hy => nomatch hy
theorem pcons {R : PyData → Prop} {x : PyData} {l : List PyData} (h : R x) (t : ∀ y ∈ l, R y) : ∀ y ∈ x :: l, R y := fun y hy => by
  rcases List.mem_cons.mp hy with rfl | hy
  · exact h
  · exact t y hy
theorem pnil {R : PyData → Prop} : ∀ y ∈ ([] : List PyData), R y := fun y hy => nomatch hy
/-- data off the source, of bounded size -/
def Gd (p : Addr) (n w k : Nat) (H : Hp) (v : V) : Prop := ∃ d, Dat (del H p) v d ∧ Fit n w k d
theorem Gd.same {p : Addr} {n w k : Nat} {H H' : Hp} {v : V} (h : Gd p n w k H v) (S : Same H H') : Gd p n w k H' v := let ⟨d, D, f⟩ := h; ⟨d, D.same (sd_of S), f⟩
theorem Gd.del {p : Addr} {n w k : Nat} {H H' : Hp} {v : V} (h : Gd p n w k H v) (S : Same (del H p) (del H' p)) : Gd p n w k H' v := let ⟨d, D, f⟩ := h; ⟨d, D.same S, f⟩
theorem gd_tup {p t : Addr} {n w w' k : Nat} {H : Hp} {xs : List V} {ds : List PyData} (ht : H t = none) (hp : p ≠ t) (D : DatAll (del H p) xs ds) (f : Fit n w' k (.tuple ds)) : Gd p n w' k (upd H t (.tup xs)) (.ref t) :=
  ⟨.tuple ds, .tup (by rw [del_ne hp.symm]; exact upd_same) (DatAll.same (sd_of (same_new ht)) D), f⟩
theorem gd_lst {p t : Addr} {n w' k : Nat} {H : Hp} {xs : List V} {ds : List PyData} (ht : H t = none) (hp : p ≠ t) (D : DatAll (del H p) xs ds) (f : Fit n w' k (.list ds)) : Gd p n w' k (upd H t (.lst xs)) (.ref t) :=
  ⟨.list ds, .lst (by rw [del_ne hp.symm]; exact upd_same) (DatAll.same (sd_of (same_new ht)) D), f⟩
theorem gd_dct {p t14 t15 : Addr} {n wn k : Nat} {H : Hp} {v : V} {d : PyData} (g14 : H t14 = none) (g15 : upd H t14 (.dK []) t15 = none) (p14 : p ≠ t14) (p15 : p ≠ t15) (D : Dat (del H p) v d) (ft0 : Fit n wn k d) (hn : 9 ≤ n) :
    Gd p n (2 * wn + 110) (k + 2) (upd (upd (upd H t14 (.dK [])) t15 (.lst [v])) t14 (.dK (mergeK [] [(Sum.inr "a", V.ref t15)]))) (.ref t14) := by
  have n1415 : t14 ≠ t15 := fun z => by
    rw [← z, upd_same] at g15
    cases g15
  have S17 : Same H (upd (upd (upd H t14 (.dK [])) t15 (.lst [v])) t14 (.dK (mergeK [] [(Sum.inr "a", V.ref t15)]))) := same_upd ((same_new (o := .dK []) g14).trans (same_new (o := .lst [v]) g15)) g14
  have wz := ft0.z
  have fl : Fit n (wn + 5) (k + 1) (.list [d]) := Fit.lst (k := k) (pcons ft0 pnil) (by show 1 ≤ n; omega) (by rw [wts, wts]; omega)
  refine ⟨.dict [(L2.keyD (.inr "a"), .list [d])], .dct (kvs := mergeK [] [(Sum.inr "a", V.ref t15)]) (by rw [del_ne p14.symm]; exact upd_same) (.cons (.lst (a := t15) (xs := [v]) ?_ (.cons ?_ .nil)) .nil), ?_, ?_, ?_, by simp [limN]⟩
  · rw [del_ne p15.symm, upd_ne n1415.symm]
    exact upd_same
  · exact D.same (sd_of S17)
  · simp only [PyData.showable, PyData.showableKv, L2.keyD]
    have fs : PyData.showableAll [d] = true := by simpa [PyData.showable] using fl.s
    rw [fs]
    rfl
  · have e : PyData.shown (.dict [(L2.keyD (.inr "a"), .list [d])]) = dictText [reprText ("a" : Str) ++ ((": " : String) : Str) ++ (PyData.shown (.list [d]))] := by
      simp only [PyData.shown, PyData.shownKv, L2.keyD]
    rw [wt, e]
    have h1 := dictText_le [reprText ("a" : Str) ++ ((": " : String) : Str) ++ (PyData.shown (.list [d]))]
    have h2 : (reprText ("a" : Str) ++ ((": " : String) : Str) ++ (PyData.shown (.list [d]))).length ≤ 14 + (wn + 5) := by
      rw [strLen_append, strLen_append]
      have y := fl.shown
      have y2 : (reprText ("a" : Str)).length ≤ 10 * ("a" : Str).length + 2 := StrLaws.reprText_len _ (by decide)
      have y4 : ("a" : Str).length = 1 := rfl
      have y3 : (((": " : String) : Str)).length = 2 := rfl
      omega
    have h3 : piled [reprText ("a" : Str) ++ ((": " : String) : Str) ++ (PyData.shown (.list [d]))] ≤ 14 + (wn + 5) + 2 := by
      rw [piled_cons]
      have : piled [] = 0 := rfl
      omega
    omega
  · simp only [PyData.depth, PyData.depthKv, L2.keyD]
    have := fl.dp
    simp only [PyData.depth] at this
    omega
def spOdd : Sp := fun vs H Q _ => ∃ (p : Addr) (v : V) (c n w k : Nat) (d : PyData), vs = [.ref p, v] ∧ Src H p c ∧ c ≤ 80000 ∧ Dat (del H p) v d ∧ Fit n w k d ∧ 9 ≤ n ∧
  ∀ (r : V) (H' : Hp), Gd p n (2 * w + 110) (k + 2) H' r → Src H' p (c + 1) → Same (del H p) (del H' p) → Q r H'
section
variable {P : Program} {w : World} {K : PySem.W.Frag} {mg : Str → Option Value} {base : Heap}
theorem ok_odd {f fP : Addr} {fd fdP : FuncData} (F : Fun K "_law_odd" "_law_odd" sOdd f fd) (Pk : Has K mg "_law_pick" sPick ["source", "top"] fP fdP) (B : Blt mg) : FnOk P w K mg base CX0 2 f fd ["source", "value"] spOdd := by
  have GP : FnOk P w K mg base CX0 1 fP fdP ["source", "top"] spPick := ok_pick Pk.F B
  refine F.ok scOdd (fun vs H Q E h => ?_) (fun cdv A outer s H vs Q E hr h => ?_)
  · obtain ⟨p, v, c, n, w, k, d, rfl, _⟩ := h
    rfl
  obtain ⟨p, v, c, n, wn, k, d, rfl, hp, hc, D, ft, hn, q⟩ := h
  refine ⟨_, pss_cons (ps_set (i := 2) scOdd.nd rfl (.inl rfl) (pe_lst (pa_cons pe_non (pa_cons pe_int (pa_cons pe_int (pa_cons pe_bl (pa_cons pe_bl (pa_cons pe_str (pa_cons pe_str (pa_cons pe_str (pa_cons pe_str (pa_cons pe_str
      (pa_cons (pe_tup pa_nil) (pa_cons (pe_lst pa_nil) (pa_cons (pe_tup (pa_cons (pv 1) pa_nil)) (pa_cons (pe_lst (pa_cons (pv 1) pa_nil)) (pa_cons (pe_tup (pa_cons pe_int pa_nil)) (pa_cons (pe_tup (pa_cons pe_str pa_nil)) (pa_cons pe_dnewK
      (pa_cons (pe_un un_neg pe_int) pa_nil))))))))))))))))))))
    (pss_cons (ps_set (i := 2) scOdd.nd rfl (.inl rfl) (pe_op op_cat (pv 2) (pe_lst (pa_cons (pe_tup (pa_cons (pe_tup (pa_cons pe_str (pa_cons pe_bl pa_nil))) pa_nil)) (pa_cons (pe_tup (pa_cons pe_str (pa_cons pe_int pa_nil))) (pa_cons (pe_tup (pa_cons pe_str (pa_cons pe_non pa_nil)))
      (pa_cons (pe_tup (pa_cons pe_bl (pa_cons pe_str pa_nil))) (pa_cons pe_str (pa_cons (pe_tup (pa_cons (pv 1) (pa_cons (pv 1) pa_nil))) (pa_cons (pe_disp (pps_cons pe_str (pe_lst (pa_cons (pv 1) pa_nil)) pps_nil) (by rfl) (by rfl) (fun z => by cases z) (by decide))
      (pa_cons pe_str pa_nil)))))))))))
    (pss_one (ps_ret (pe_ix ix_list (pv 2) (pe_call GP hr rfl Pk.g Pk.F.kp Pk.b .nil pass0 (pa_cons (pv 0) (pa_cons (pe_callB call_len_seq (by rfl) B.len (by decide +kernel) (pa_cons (pv 2) pa_nil)) pa_nil))) (fun _ _ => rfl))))), ?_⟩
  have z0 : 0 ≤ sizeLine := Nat.zero_le _
  have z1 : 1 ≤ sizeLine := by decide
  have z2 : 2 ≤ sizeLine := by decide
  have fd0 : ∀ d' ∈ [d], Fit n wn k d' := fun d' h => by cases List.mem_singleton.mp h; exact ft
  have fdd : ∀ d' ∈ [d, d], Fit n wn k d' := fun d' h => by
    rcases List.mem_cons.mp h with rfl | h
    · exact ft
    · cases List.mem_singleton.mp h; exact ft
  have wz := ft.z
  obtain ⟨ys0, hy0⟩ := hp.lst
  have pn : ∀ {G : Hp} {t : Addr}, Same H G → G t = none → p ≠ t := fun {G t} S g z => by
    have y := S p _ hy0
    rw [z, g] at y
    cases y
  have ft1 : Fit n wn (k + 1) d := ft.up (fun h => h) (Nat.le_refl _) (Nat.le_succ _)
  have ft0 : Fit n wn k d := ft
  have sA : ∀ {k' : Nat}, Fit n 20 k' (.str "a") := fun {k'} => Fit.str (by show 1 ≤ n; omega) (by decide) (by show 10 * 1 + 2 ≤ 20; decide)
  refine ⟨z0, fun t1 g1 => ⟨z0, fun t2 g2 => ⟨_, rfl, z1, fun t3 g3 => ⟨_, rfl, z1, fun t4 g4 => ⟨z1, fun t5 g5 => ⟨z1, fun t6 g6 => fun t7 g7 => ⟨_, rfl, (by show 18 ≤ sizeLine; decide), fun l1 gl1 => ?_⟩⟩⟩⟩⟩⟩⟩
  have U1 := same_new (o := .tup []) g1
  have A1 : Gd p n (2 * wn + 110) (k + 2) (upd H t1 (.tup [])) (.ref t1) := gd_tup (w := 0) g1 (pn (Same.refl _) g1) .nil (Fit.tup (w := 0) pnil (Nat.zero_le _) (by rw [wts]; omega))
  have U2 := U1.trans (same_new (o := .lst []) g2)
  have A2 : Gd p n (2 * wn + 110) (k + 2) _ (.ref t2) := gd_lst (k := k + 2) g2 (pn U1 g2) .nil (Fit.lst (w := 0) (k := k + 1) pnil (Nat.zero_le _) (by rw [wts]; omega))
  have U3 := U2.trans (same_new (o := .tup [v]) g3)
  have A3 : Gd p n (2 * wn + 110) (k + 2) _ (.ref t3) := gd_tup (w := 0) g3 (pn U2 g3) (.cons (D.same (sd_of U2)) .nil) (Fit.tup (k := k + 1) (pcons ft1 pnil) (by show 1 ≤ n; omega) (by rw [wts, wts]; omega))
  have U4 := U3.trans (same_new (o := .lst [v]) g4)
  have A4 : Gd p n (2 * wn + 110) (k + 2) _ (.ref t4) := gd_lst g4 (pn U3 g4) (.cons (D.same (sd_of U3)) .nil) (Fit.lst (k := k + 1) (pcons ft1 pnil) (by show 1 ≤ n; omega) (by rw [wts, wts]; omega))
  have U5 := U4.trans (same_new (o := .tup [V.int 1]) g5)
  have n5 : wt (.int 1) ≤ 5 := by rw [wt]; decide
  have nm5 : wt (.int (-1)) ≤ 5 := by rw [wt]; decide
  have A5 : Gd p n (2 * wn + 110) (k + 2) _ (.ref t5) := gd_tup (w := 0) g5 (pn U4 g5) (.cons (.int 1) .nil) (Fit.tup (w := 5) (k := k + 1) (pcons (Fit.num (.inr (.inl rfl)) (by decide)) pnil) (by show 1 ≤ n; omega) (by rw [wts, wts]; omega))
  have U6 := U5.trans (same_new (o := .tup [V.str "a"]) g6)
  have A6 : Gd p n (2 * wn + 110) (k + 2) _ (.ref t6) := gd_tup (w := 0) g6 (pn U5 g6) (.cons (.str "a") .nil) (Fit.tup (w := 20) (k := k + 1) (pcons sA pnil) (by show 1 ≤ n; omega) (by rw [wts, wts, wt]; show 3 + (10 * 1 + 2 + 2 + 0) ≤ _; omega))
  have U7 := U6.trans (same_new (o := .dK []) g7)
  have S7 := same_new (o := .dK []) g7
  have A7 : Gd p n (2 * wn + 110) (k + 2) (upd (upd (upd (upd (upd (upd (upd H t1 (.tup [])) t2 (.lst [])) t3 (.tup [v])) t4 (.lst [v])) t5 (.tup [V.int 1])) t6 (.tup [V.str "a"])) t7 (.dK [])) (.ref t7) := ⟨.dict [], .dct (by rw [del_ne (pn U6 g7).symm]; exact upd_same) .nil, Fit.dict0 (by omega) (by omega)⟩
  have U8 := U7.trans (same_new (o := .lst [V.non, .int 0, .int 1, .bl true, .bl false, .str "", .str "a", .str "A", .str "b1", .str "abcdefghi", .ref t1, .ref t2, .ref t3, .ref t4, .ref t5, .ref t6, .ref t7, .int (-1)]) gl1)
  refine ⟨_, rfl, z2, fun t8 g8 => ⟨z1, fun t9 g9 => ⟨z2, fun t10 g10 => ⟨z2, fun t11 g11 => ⟨z2, fun t12 g12 => ⟨_, rfl, _, rfl, z2, fun t13 g13 => fun t14 g14 => ⟨_, rfl, z1, fun t15 g15 => ⟨?_, [(.inr "a", .ref t15)], rfl, (by show 1 ≤ 15; decide), ?_⟩⟩⟩⟩⟩⟩⟩⟩
  · have S15 := same_new (o := .lst [v]) g15
    exact S15 _ _ upd_same
  refine ⟨(by show 8 ≤ sizeLine; decide), fun l2 gl2 => ?_⟩
  have P9 := pn U8 g8
  have U9 := U8.trans (same_new (o := .tup [V.str "a", .bl true]) g8)
  have U10 := U9.trans (same_new (o := .tup [V.ref t8]) g9)
  have bt : ∀ {k' : Nat}, Fit n 20 k' (.bool true) := fun {k'} => Fit.bl true (by decide)
  have A9 : Gd p n (2 * wn + 110) (k + 2) _ (.ref t9) := gd_tup (w := 0) g9 (pn U9 g9) (.cons (.tup (by rw [del_ne P9.symm]; exact upd_same) (.cons (.str "a") (.cons (.bl true) .nil))) .nil)
    (Fit.tup (w := 30) (k := k + 1) (pcons (Fit.tup (w := 20) (k := k) (pcons sA (pcons bt pnil)) (by show 2 ≤ n; omega) (by decide)) pnil) (by show 1 ≤ n; omega) (by have : 3 + wts [PyData.tuple [.str "a", .bool true]] ≤ 110 := by decide
                                                                                                                                                                       omega))
  have U11 := U10.trans (same_new (o := .tup [V.str "a", .int 1]) g10)
  have U12 := U11.trans (same_new (o := .tup [V.str "a", .non]) g11)
  have U13 := U12.trans (same_new (o := .tup [V.bl true, .str "a"]) g12)
  have U14 := U13.trans (same_new (o := .tup [v, v]) g13)
  have V17 := same_upd (o := .dK (mergeK [] [(Sum.inr "a", V.ref t15)])) ((same_new (o := .dK []) g14).trans (same_new (o := .lst [v]) g15)) g14
  have U17 := U14.trans V17
  have U18 := U17.trans (same_new (o := .lst [V.ref t9, .ref t10, .ref t11, .ref t12, .str "q q", .ref t13, .ref t14, .str "zz"]) gl2)
  have d10 : 3 + wts [PyData.str "a", .int 1] ≤ 110 := by decide
  have d11 : 3 + wts [PyData.str "a", .none] ≤ 110 := by decide
  have d12 : 3 + wts [PyData.bool true, .str "a"] ≤ 110 := by decide
  have A10 : Gd p n (2 * wn + 110) (k + 2) _ (.ref t10) := gd_tup (w := 0) g10 (pn U10 g10) (.cons (.str "a") (.cons (.int 1) .nil)) (Fit.tup (w := 20) (k := k + 1) (pcons sA (pcons (Fit.num (.inr (.inl rfl)) (by decide)) pnil)) (by show 2 ≤ n; omega) (by omega))
  have A11 : Gd p n (2 * wn + 110) (k + 2) _ (.ref t11) := gd_tup (w := 0) g11 (pn U11 g11) (.cons (.str "a") (.cons .non .nil)) (Fit.tup (w := 20) (k := k + 1) (pcons sA (pcons (Fit.non (by decide)) pnil)) (by show 2 ≤ n; omega) (by omega))
  have A12 : Gd p n (2 * wn + 110) (k + 2) _ (.ref t12) := gd_tup (w := 0) g12 (pn U12 g12) (.cons (.bl true) (.cons (.str "a") .nil)) (Fit.tup (w := 20) (k := k + 1) (pcons bt (pcons sA pnil)) (by show 2 ≤ n; omega) (by omega))
  have A13 : Gd p n (2 * wn + 110) (k + 2) _ (.ref t13) := gd_tup (w := 0) g13 (pn U13 g13) (.cons (D.same (sd_of U13)) (.cons (D.same (sd_of U13)) .nil)) (Fit.tup (w := wn) (k := k + 1) (pcons ft1 (pcons ft1 pnil)) (by show 2 ≤ n; omega) (by rw [wts, wts, wts]; omega))
  have A14 := gd_dct g14 g15 (pn U14 g14) (pn (U14.trans (same_new (o := .dK []) g14)) g15) (D.same (sd_of U14)) ft0 hn
  have SL1 := same_new (o := .lst [V.non, .int 0, .int 1, .bl true, .bl false, .str "", .str "a", .str "A", .str "b1", .str "abcdefghi", .ref t1, .ref t2, .ref t3, .ref t4, .ref t5, .ref t6, .ref t7, .int (-1)]) gl1
  have W18 := same_new (o := .lst [V.ref t9, .ref t10, .ref t11, .ref t12, .str "q q", .ref t13, .ref t14, .str "zz"]) gl2
  have e2 : ∀ {G : Hp}, G = G → True := fun _ => trivial
  have X8 := (same_new (o := .tup [V.str "a", .bl true]) g8).trans ((same_new (o := .tup [V.ref t8]) g9).trans ((same_new (o := .tup [V.str "a", .int 1]) g10).trans ((same_new (o := .tup [V.str "a", .non]) g11).trans ((same_new (o := .tup [V.bl true, .str "a"]) g12).trans ((same_new (o := .tup [v, v]) g13).trans (V17.trans W18))))))
  refine ⟨_, _, _, _, rfl, rfl, X8 _ _ upd_same, upd_same, (by show 18 + 8 ≤ sizeLine; decide), fun l3 gl3 => ?_⟩
  have W19 := same_new (o := .lst ([V.non, .int 0, .int 1, .bl true, .bl false, .str "", .str "a", .str "A", .str "b1", .str "abcdefghi", .ref t1, .ref t2, .ref t3, .ref t4, .ref t5, .ref t6, .ref t7, .int (-1)] ++ [V.ref t9, .ref t10, .ref t11, .ref t12, .str "q q", .ref t13, .ref t14, .str "zz"])) gl3
  have Y18 := W18.trans W19
  have Y17 := V17.trans Y18
  have Y13 := (same_new (o := .tup [v, v]) g13).trans Y17
  have Y12 := (same_new (o := .tup [V.bl true, .str "a"]) g12).trans Y13
  have Y11 := (same_new (o := .tup [V.str "a", .non]) g11).trans Y12
  have Y10 := (same_new (o := .tup [V.str "a", .int 1]) g10).trans Y11
  have Y9 := (same_new (o := .tup [V.ref t8]) g9).trans Y10
  have Y8 := (same_new (o := .tup [V.str "a", .bl true]) g8).trans Y9
  have Y7 := SL1.trans Y8
  have Y6 := S7.trans Y7
  have Y5 := (same_new (o := .tup [V.str "a"]) g6).trans Y6
  have Y4 := (same_new (o := .tup [V.int 1]) g5).trans Y5
  have Y3 := (same_new (o := .lst [v]) g4).trans Y4
  have Y2 := (same_new (o := .tup [v]) g3).trans Y3
  have Y1 := (same_new (o := .lst []) g2).trans Y2
  have U19 := U18.trans W19
  have lf : ∀ (x : Str) (G : Hp), x.length ≤ 9 → (x.cps.toList.all fun c => decide (c < 200)) = true → Gd p n (2 * wn + 110) (k + 2) G (.str x) := fun x G h1 h2 => ⟨.str x, .str x, Fit.str (by omega) h2 (by omega)⟩
  have nf : ∀ (i : Int) (G : Hp), (i = 0 ∨ i = 1 ∨ i = -1) → Gd p n (2 * wn + 110) (k + 2) G (.int i) := fun i G h => ⟨.int i, .int i, Fit.num h (by omega)⟩
  have bf : ∀ (b : Bool) (G : Hp), Gd p n (2 * wn + 110) (k + 2) G (.bl b) := fun b G => ⟨.bool b, .bl b, Fit.bl b (by omega)⟩
  have nn : ∀ (G : Hp), Gd p n (2 * wn + 110) (k + 2) G .non := fun G => ⟨.none, .non, Fit.non (by omega)⟩
  have all : ∀ x ∈ ([V.non, .int 0, .int 1, .bl true, .bl false, .str "", .str "a", .str "A", .str "b1", .str "abcdefghi", .ref t1, .ref t2, .ref t3, .ref t4, .ref t5, .ref t6, .ref t7, .int (-1)] ++ [V.ref t9, .ref t10, .ref t11, .ref t12, .str "q q", .ref t13, .ref t14, .str "zz"]), Gd p n (2 * wn + 110) (k + 2) _ x :=
    gcons (nn _) (gcons (nf 0 _ (.inl rfl)) (gcons (nf 1 _ (.inr (.inl rfl))) (gcons (bf true _) (gcons (bf false _) (gcons (lf "" _ (by decide) (by decide)) (gcons (lf "a" _ (by decide) (by decide)) (gcons (lf "A" _ (by decide) (by decide)) (gcons (lf "b1" _ (by decide) (by decide)) (gcons (lf "abcdefghi" _ (by decide) (by decide))
      (gcons (A1.same Y1) (gcons (A2.same Y2) (gcons (A3.same Y3) (gcons (A4.same Y4) (gcons (A5.same Y5) (gcons (A6.same Y6) (gcons (A7.same Y7) (gcons (nf (-1) _ (.inr (.inr rfl)))
      (gcons (A9.same Y10) (gcons (A10.same Y11) (gcons (A11.same Y12) (gcons (A12.same Y13) (gcons (lf "q q" _ (by decide) (by decide)) (gcons (A13.same Y17) (gcons (A14.same Y18) (gcons (lf "zz" _ (by decide) (by decide)) gnil)))))))))))))))))))))))))
  have pl3 := pn U18 gl3
  refine ⟨_, rfl, _, rfl, _, rfl, l3, _, rfl, .inl (SqL.of upd_same), p, _, _, rfl, hp.mono (U19 _ _ hy0 |>.trans hy0.symm) (Nat.le_refl _), by omega, (by simp only [List.length_append, List.length_cons, List.length_nil]; omega), (by simp only [List.length_append, List.length_cons, List.length_nil]; omega), fun r o r0 r1 hp6 => ?_⟩
  obtain ⟨y, hy, my, _⟩ := at_ok r0 r1
  have e3 : ∀ {G : Hp} {xs : List V}, G l3 = some (.lst xs) → upd G p o l3 = some (.lst xs) := fun {G xs} e => by rw [upd_ne pl3.symm]; exact e
  refine ⟨l3, _, r, y, rfl, rfl, SqL.of (e3 upd_same), hy, ?_⟩
  exact q y _ ((all y my).del (sd_at (Same.refl _))) hp6 (sd_at (sd_of U19))
end
end S1

set_option Elab.async false
set_option linter.all false
set_option maxRecDepth 100000
set_option maxHeartbeats 4000000
/-! list(text); list.count of a list of truths -/
namespace L2
open PySem PySem.W PySem.Spec PyProof.Rows
section
variable {X : Cx}
def signV (x : Str) : List V := x.cps.toList.map fun c => V.str ⟨#[c]⟩
theorem vals_signs {x : Str} {acc : Array Value} (h : ItemsOf (SignAt x) acc x.cps.size) : Vals (signV x) acc.toList := by
  refine vals_of_idx _ _ (by rw [Array.length_toList, h.1, signV, List.length_map, Array.length_toList]) fun j u hj => ?_
  obtain ⟨c, t, hc, rfl⟩ := h.2 j u (by rw [← Array.getElem?_toList]; exact hj)
  refine ⟨V.str ⟨#[c]⟩, ?_, ⟨t, rfl⟩⟩
  rw [signV, List.getElem?_map, Array.getElem?_toList, hc]
  rfl
/-- list(x), x a text: a new list of its signV -/
def rListStr : List V → Hp → VK → Prop := fun xs H Q => ∃ x : Str, xs = [.str x] ∧ x.cps.size ≤ sizeLine ∧ ∀ l, H l = none → Q (.ref l) (upd H l (.lst (signV x)))
theorem call_listStr (hc : X.calm = true) : CallR X (.type "list") rListStr := by
  intro pins s σ H xs us Q I r h
  obtain ⟨x, rfl, hn, q⟩ := h
  obtain ⟨u, rfl, rx⟩ := vals1 r
  obtain ⟨t, rfl⟩ := rx
  refine call_list_str (I.ok.hd hc) x t (fun h' tk acc c' kp e ia => ?_) hn
  have rv := vals_signs ia
  exact ⟨.ref s.heap.objs.size, _, I.laid (t' := tk) kp (Nat.le_refl _) (show ObjOk X.prog X.w _ h' _ (.lst (signV x)) from ⟨by rw [signV, List.length_map, Array.length_toList]; exact hn, acc.toList, c', rv, by simpa using e⟩), rfl, q _ (I.hok.fresh (Nat.le_refl _))⟩
theorem bls_vals : ∀ {bs : List Bool} {us : List Value}, Vals (bs.map V.bl) us → us = bs.map Value.bool
  | [], _, .nil => rfl
  | b :: bs, _, .cons r t => by
    cases (show _ = Value.bool b from r)
    rw [bls_vals t, List.map_cons]
/-- xs.count(b), xs a list of truths -/
def rCntB (K : PySem.W.Frag) : V → List V → Hp → VK → Prop := fun x xs H Q => ∃ (p : Addr) (bs : List Bool) (k : Bool), x = .ref p ∧ xs = [.bl k] ∧ SqL K H p (bs.map V.bl) ∧ Q (.int (bs.count k : Nat)) H
theorem mt_lcountB : MtR X "list.count" (rCntB X.K) := by
  intro pins s σ H x xs v us Q I rx rxs h
  obtain ⟨p, bs, k, rfl, rfl, hs, q⟩ := h
  cases rx
  obtain ⟨u, rfl, ru⟩ := rxs.one
  cases (show u = Value.bool k from ru)
  obtain ⟨its, rv, ⟨⟨cls, dd, data, sl⟩, n, ho, hc, hdn, hd⟩, hlen⟩ := I.list hs
  simp only at hc hd
  subst hc hd
  have e := bls_vals rv
  subst e
  refine call_meets PySem.F.slot_list_count ⟨_, ho, rfl⟩ PySem.F.entry_list_count (PySem.F.args_list_count_2 _ _)
    (SeqAt.list_countAt p (bs.map Value.bool).toArray n dd sl (.bool k) (isBoolOf k)) ⟨ho, fun y hy => ?_, ?_⟩
  · obtain ⟨b, _, rfl⟩ := List.mem_map.mp (show y ∈ bs.map Value.bool by simpa using hy)
    exact SeqAt.EqAt.bool_bool b k
  · have ec : (bs.map Value.bool).toArray.toList.countP (isBoolOf k) = bs.count k := by
      rw [List.toList_toArray, List.countP_map, List.count]
      rfl
    refine ⟨.int (bs.count k : Nat), H, I.tok _, ⟨s.toks, ?_⟩, q⟩
    show Value.int (((bs.map Value.bool).toArray.toList.countP (isBoolOf k) : Nat) : Int) s.toks = Value.int ((bs.count k : Nat) : Int) s.toks
    rw [ec]
end
end L2

set_option Elab.async false
set_option linter.all false
set_option maxRecDepth 100000
set_option maxHeartbeats 4000000
/-! x[::-1], x a tuple or a text -/
namespace HT
open PySem PyProof.Rows
open PySem.SeqAt
section
variable {prog : Program} {w : World} {A : Around} {E : Value → Shared → Prop} {s : Shared}
theorem places_rev (n : Nat) : Builtin.Slice.slicePlaces ((n : Int) - 1) (-1) (-1) = n := by
  unfold Builtin.Slice.slicePlaces
  have h1 : ¬ ((-1 : Int) > 0) := by decide
  simp only [h1, if_false]
  by_cases h : (n : Int) - 1 > -1
  · rw [if_pos h]
    have e : ((n : Int) - 1 - -1 - 1) / (- -1) + 1 = (n : Int) := by
      rw [show (- -1 : Int) = 1 by decide, Int.ediv_one]
      omega
    rw [e, Int.toNat_natCast]
  · rw [if_neg h]
    omega
theorem sliceApplied_rev {sl : Addr} {vl vu vs : Value} {n : Nat} {Q : Int × Int × Nat → Shared → Prop} (hs : s.heap.IsSliceOf sl vl vu vs) (pl : IsPart vl none) (pu : IsPart vu none) (ps : IsPart vs (some (-1)))
    (h : Q ((n : Int) - 1, -1, n) s) : wpAny (model prog w) A (Builtin.Slice.sliceApplied (.ref sl) (pure (n : Int))) Q E s := by
  obtain ⟨os, hos, hcs, hds⟩ := id hs
  unfold Builtin.Slice.sliceApplied Builtin.Slice.sliceFields
  refine wpAny_bind (wpAny_bind (wpAny_field hos hds (x := vl) rfl (wpAny_bind (wpAny_field hos hds (x := vu) rfl (wpAny_bind (wpAny_field hos hds (x := vs) rfl (wpAny_pure ?_)))))))
  refine wpAny_bind (slicePart_ ps ?_)
  show wpAny _ _ (if ((-1 : Int) == 0) = true then _ else _) _ _ s
  rw [if_neg (by decide)]
  refine wpAny_bind (slicePart_ pl (wpAny_bind (slicePart_ pu (wpAny_bind (wpAny_pure ?_)))))
  show wpAny _ _ (pure ((n : Int) - 1, (-1 : Int), Builtin.Slice.slicePlaces ((n : Int) - 1) (-1) (-1))) _ _ s
  rw [places_rev]
  exact wpAny_pure h
theorem pick_rev (xs : Array Value) : ((List.range xs.size).filterMap fun (m : Nat) => xs[((xs.size : Int) - 1 + (m : Int) * (-1)).toNat]?).toArray = xs.toList.reverse.toArray := by
  have e : (fun (m : Nat) => xs[((xs.size : Int) - 1 + (m : Int) * (-1)).toNat]?) = (xs[·]?) ∘ fun m => xs.size - 1 - m := by
    funext m
    have : ((xs.size : Int) - 1 + (m : Int) * (-1)).toNat = xs.size - 1 - m := by omega
    simp only [Function.comp, this]
  rw [e, ← List.filterMap_map, PySem.W.krv_range, List.filterMap_reverse, PySem.W.krv_all]
theorem getItem_tuple_rev {t sl : Addr} {items : Array Value} {vl vu vs : Value} {Q : Value → Shared → Prop} (ht : IsTup s.heap t items) (hs : s.heap.IsSliceOf sl vl vu vs) (pl : IsPart vl none) (pu : IsPart vu none) (ps : IsPart vs (some (-1)))
    (h : Q (.ref s.heap.objs.size) { s with heap := s.heap.push { cls := .type "tuple", data := .seq items.toList.reverse.toArray } })
    (hsz : items.size ≤ sizeLine) : wpAny (model prog w) A (getItem (.ref t) (.ref sl)) Q E s := by
  have htake : sizeOk (.seq items.toList.reverse.toArray) := by
    show items.toList.reverse.toArray.size ≤ sizeLine
    rw [List.size_toArray, List.length_reverse, Array.length_toList]
    exact hsz
  obtain ⟨os, hos, hcs, hds⟩ := id hs
  have hTs : s.TypeIs (.ref sl) "slice" := ⟨os, hos, hcs⟩
  unfold getItem
  try with_reducible refine wpAny_holding ?_
  first | refine wpAny_bind (wpAny_pure ?_) | skip
  refine wpAny_bind (wpAny_sequenceKey ht.typeIs (by decide) ?_)
  refine wpAny_bind (wpAny_callSpecial?_slot (name := Str.ofString "__getitem__") ht.typeIs PyProof.Rows.slot_tuple_getitem
    (wpAny_call_entry PyProof.Rows.slot_tuple_getitem ht.typeIs entry_tuple_getitem ?_ (args_tuple_getitem _ _)))
  show wpAny _ _ (Builtin.Tuple.tupleItemsOf (.ref t) >>= _) _ _ s
  refine wpAny_bind (tupleItemsOf_ ht ?_)
  refine wpAny_bind (wpAny_typeOf hTs ?_)
  rw [if_pos (by decide)]
  refine wpAny_bind (sliceApplied_rev hs pl pu ps ?_)
  have hno : ¬ ((((items.size : Int) - 1) == 0 && (-1 : Int) == 1 && items.size == items.size) = true) := by
    intro q
    rw [Bool.and_eq_true, Bool.and_eq_true] at q
    exact absurd q.1.2 (by decide)
  show wpAny _ _ (if (((items.size : Int) - 1) == 0 && (-1 : Int) == 1 && items.size == items.size) = true then _ else _) _ _ s
  rw [if_neg hno, pick_rev]
  first
    | exact wpAny_bind (m := Builtin.Tuple.tupleExact _) (wpAny_newObj_type (wpAny_pure ⟨_, rfl, wpAny_pure h⟩) htake)
end
end HT
namespace L2
open PySem PySem.W PySem.Spec PyProof.Rows
section
variable {X : Cx}
def revS (z : Str) : Str := ⟨z.cps.toList.reverse.toArray⟩
theorem pickS_rev (z : Str) : ((Builtin.Str.strSliceIndices none none (-1) z.length).filterMap (z.cps[·]?)).toArray = z.cps.toList.reverse.toArray := by
  have e : Builtin.Str.strSliceIndices none none (-1) z.length = (List.range z.cps.size).map fun k => z.cps.size - 1 - k := by
    show sliceRange ((z.cps.size : Int) - 1) (-1) (-1) = _
    exact PySem.W.krv_sliceRange _
  rw [e, PySem.W.krv_range, List.filterMap_reverse, PySem.W.krv_all]
def tRevA (K : PySem.W.Frag) (te : TE) : TE := fun σ H Q => te σ H fun x H1 => (∃ a xs, x = .ref a ∧ SqT K H1 a xs ∧ ∀ p, H1 p = none → Q (.ref p) (upd H1 p (.tup xs.reverse))) ∨ (∃ z, x = .str z ∧ z.length ≤ sizeLine ∧ Q (.str (revS z)) H1)
theorem pe_revA {e : Expr} {te : TE} {k : Nat} {p1 p2 p3 pos : Pos} (he : PE X e te) : PE X (.Subscript e (.Slice none none (some (.UnaryOp .USub (.Constant (.int 1) k p1) p2)) p3) pos) (tRevA X.K te) := by
  refine ⟨fun pins s σ H Q I h => ?_⟩
  refine Subscript_ (thn (he.run pins s σ H _ I h) fun v s1 ⟨x, H1, I1, r1, q1⟩ => ?_)
  have hst : PO X (some (.UnaryOp .USub (.Constant (.int 1) k p1) p2)) (tPart (tUn (rU fun i => .int (-i)) (tC (.int 1)))) := po_some (pe_un un_neg pe_int)
  refine wpAny_Slice (thn (po_none.run pins s1 σ H1 (fun o H2 => o = none ∧ H2 = H1) I1 ⟨rfl, rfl⟩) fun vl s2 ⟨l, H2, I2, pl, el, e2⟩ => ?_)
  subst el e2
  refine thn (po_none.run pins s2 σ H2 (fun o H3 => o = none ∧ H3 = H2) I2 ⟨rfl, rfl⟩) fun vu s3 ⟨u, H3, I3, pu, eu, e3⟩ => ?_
  subst eu e3
  refine thn (hst.run pins s3 σ H3 (fun o H4 => o = some (-1) ∧ H4 = H3) I3 ⟨1, rfl, -1, rfl, rfl, rfl⟩) fun vs s4 ⟨o, H4, I4, ps, eo, e4⟩ => ?_
  subst eo e4
  have I5 : Inv X pins σ H4 { s4 with heap := s4.heap.push { cls := .type "slice", data := .fields #[vl, vu, vs] } } := I4.kept (t' := s4.toks) fun b ob q => Heap.get?_push_of_some _ q
  rcases q1 with ⟨a, xs, ex, hx, q⟩ | ⟨z, ex, hz, q⟩
  · subst ex
    cases r1
    obtain ⟨its, r, ht, hz⟩ := I5.tuple hx
    have hlen := r.length
    show wpAny (model X.prog X.w) X.A (subscriptTail e (.Slice none none (some (.UnaryOp .USub (.Constant (.int 1) k p1) p2)) p3) (.ref a) (.ref s4.heap.objs.size)) (EP X pins σ Q) X.xe { s4 with heap := s4.heap.push { cls := .type "slice", data := .fields #[vl, vu, vs] } }
    refine tail_any (ops := [.ref a, .ref s4.heap.objs.size]) ht.typeIs (PyProof.Rows.slot_tuple_getitem.lookup) ?_ (by with_unfolding_all rfl)
    refine HT.getItem_tuple_rev ht (Heap.IsSliceOf.new _ vl vu vs) pl pu ps ?_ (by rw [List.size_toArray]; omega)
    refine ⟨.ref _, _, I5.laid (t' := s4.toks) (o := .tup xs.reverse) (fun b ob q => Heap.get?_push_of_some _ q) (Nat.le_refl _) ?_, rfl, q _ (I5.hok.fresh (Nat.le_refl _))⟩
    exact ⟨by rw [List.length_reverse]; exact hz, _, r.reverse, IsTup.new _ _⟩
  · subst ex
    obtain ⟨t, rfl⟩ := r1
    obtain ⟨l, rfl, el⟩ := IsPart.raw pl
    obtain ⟨u, rfl, eu⟩ := IsPart.raw pu
    obtain ⟨sp, rfl, es⟩ := IsPart.raw ps
    show wpAny (model X.prog X.w) X.A (subscriptTail e (.Slice none none (some (.UnaryOp .USub (.Constant (.int 1) k p1) p2)) p3) (.str z t) (.ref s4.heap.objs.size)) (EP X pins σ Q) X.xe { s4 with heap := s4.heap.push { cls := .type "slice", data := .fields #[_, _, _] } }
    refine tail_any (ops := [.str z t, .ref s4.heap.objs.size]) (typeIs_str _ _ _) (F.slot_str_getitem.lookup) ?_ (by with_unfolding_all rfl)
    have h1 : (sp.map (·.1)).getD 1 = -1 := by rw [es]; rfl
    refine wpAny_getItem_str_slice (l := l) (u := u) (st := sp) ⟨_, Heap.get?_push_size _ rfl, rfl, rfl⟩ (by rw [h1]; rfl) ?_
    have hm : sliceMade z t l u sp = .str (revS z) := by
      unfold sliceMade slicePicked
      rw [h1, el, eu, pickS_rev, if_neg (by rw [show ((-1 : Int) == 1) = false from by decide, Bool.false_and]; decide)]
      rfl
    rw [hm]
    have hl : (revS z).length ≤ sizeLine := by
      show (z.cps.toList.reverse.toArray).size ≤ _
      rw [List.size_toArray, List.length_reverse, Array.length_toList]
      exact hz
    exact ⟨hl, .str _, H4, I5.tok _, ⟨_, rfl⟩, q⟩
end
end L2

set_option Elab.async false
set_option linter.all false
set_option maxRecDepth 100000
set_option maxHeartbeats 2000000
/-! tuples and texts cut and joined, what comes told no more than is needed -/
namespace S1
open PySem PySem.W PySem.Spec PyProof.Rows L2
section
variable {X : Cx}
def rCatW : R2 := fun x y H Q => ∃ a b xs ys, x = .ref a ∧ y = .ref b ∧ H a = some (.tup xs) ∧ H b = some (.tup ys) ∧ xs.length + ys.length ≤ sizeLine ∧ ∀ (t : Addr) (H' : Hp), Same H H' → H' t = some (.tup (xs ++ ys)) → Q (.ref t) H'
theorem op_catW : OpR X (binaryOp .Add) rCatW := by
  intro pins s σ H x y v u Q I rx ry h
  obtain ⟨a, b, xs, ys, rfl, rfl, ha, hb, hz, q⟩ := h
  refine op_catA pins s σ H _ _ v u Q I rx ry ⟨a, b, xs, ys, rfl, rfl, SqT.of ha, SqT.of hb, hz, fun e => q b H (Same.refl _) (by rw [e]; exact hb), fun _ e => q a H (Same.refl _) (by rw [e, List.append_nil]; exact ha), fun _ _ p hp => q p _ (same_new hp) upd_same⟩
abbrev rCatS : R2 := fun x y H Q => ∃ i j, x = .str i ∧ y = .str j ∧ i.length + j.length ≤ sizeLine ∧ Q (.str (i ++ j)) H
abbrev rCatX : R2 := fun x y H Q => rCatW x y H Q ∨ rCatS x y H Q
theorem op_catX : OpR X (binaryOp .Add) rCatX := op_catW.or op_add_str
def rSlW : V → Option Int → Option Int → Hp → VK → Prop := fun x lo hi H Q => ∃ a xs, x = .ref a ∧ H a = some (.tup xs) ∧ ∀ (t : Addr) (H' : Hp), Same H H' → H' t = some (.tup (cutV xs lo hi)) → Q (.ref t) H'
theorem sl_tupW : SlR X rSlW := by
  intro pins s σ H x v vl vu lo hi sl Q I rx hs pl pu h
  obtain ⟨a, xs, rfl, hx, q⟩ := h
  refine sl_tupA pins s σ H _ v vl vu lo hi sl Q I rx hs pl pu ⟨a, xs, rfl, SqT.of hx, fun ⟨e1, e2⟩ => q a H (Same.refl _) ?_, fun _ p hp => q p _ (same_new hp) upd_same⟩
  have e : cutV xs lo hi = xs := by
    unfold cutV
    rw [e1, e2, List.drop_zero, Nat.sub_zero, List.take_length]
  rw [e]
  exact hx
abbrev rSlX : V → Option Int → Option Int → Hp → VK → Prop := fun x lo hi H Q => rSlW x lo hi H Q ∨ rSlS x lo hi H Q
theorem sl_X : SlR X rSlX := sl_tupW.or sl_str
abbrev rListX (K : PySem.W.Frag) : List V → Hp → VK → Prop := fun xs H Q => (∃ p ys, xs = [.ref p] ∧ (SqL K H p ys ∨ SqT K H p ys) ∧ ∀ l, H l = none → Q (.ref l) (upd H l (.lst ys))) ∨ rListStr xs H Q
theorem call_listX (hc : X.calm = true) : CallR X (.type "list") (rListX X.K) := CallR.or call_list_of (call_listStr hc)
end
/-! ### cuts of rows -/
theorem cutV_take {xs : List V} {r : Nat} : cutV xs none (some (r : Int)) = xs.take r := by
  unfold cutV
  rw [HT.sIx_nat, HT.sIx_none, List.drop_zero, Nat.sub_zero, ← List.take_eq_take_min]
theorem cutV_drop {xs : List V} {r : Nat} : cutV xs (some (r : Int)) none = xs.drop r := by
  unfold cutV
  rw [HT.sIx_nat, HT.sIx_none]
  rcases Nat.le_total r xs.length with h | h
  · rw [Nat.min_eq_left h]
    exact List.take_of_length_le (by rw [List.length_drop]; omega)
  · rw [Nat.min_eq_right h, List.drop_eq_nil_of_le h, List.drop_eq_nil_of_le (Nat.le_refl _)]
    simp
theorem cutV_mid {xs : List V} {a b : Nat} (h : a ≤ b) : cutV xs (some (a : Int)) (some (b : Int)) = (xs.drop a).take (b - a) := by
  unfold cutV
  rw [HT.sIx_nat, HT.sIx_nat]
  rcases Nat.le_total a xs.length with h1 | h1
  · rw [Nat.min_eq_left h1]
    rcases Nat.le_total b xs.length with h2 | h2
    · rw [Nat.min_eq_left h2]
    · rw [Nat.min_eq_right h2, List.take_of_length_le (by rw [List.length_drop]; omega), List.take_of_length_le (by rw [List.length_drop]; omega)]
  · rw [Nat.min_eq_right h1, List.drop_eq_nil_of_le (Nat.le_refl _), List.drop_eq_nil_of_le h1]
    simp
theorem DatAll.app {H : Hp} : ∀ {vs : List V} {ds : List PyData} {us : List V} {es : List PyData}, DatAll H vs ds → DatAll H us es → DatAll H (vs ++ us) (ds ++ es)
  | _, _, _, _, .nil, h => h
  | _, _, _, _, .cons a t, h => .cons a (DatAll.app t h)
theorem DatAll.tk {H : Hp} : ∀ {vs : List V} {ds : List PyData} (k : Nat), DatAll H vs ds → DatAll H (vs.take k) (ds.take k)
  | _, _, 0, _ => by rw [List.take_zero, List.take_zero]; exact .nil
  | _, _, k + 1, .nil => by rw [List.take_nil, List.take_nil]; exact .nil
  | _, _, k + 1, .cons a t => by rw [List.take_succ_cons, List.take_succ_cons]; exact .cons a (DatAll.tk k t)
theorem DatAll.dp {H : Hp} : ∀ {vs : List V} {ds : List PyData} (k : Nat), DatAll H vs ds → DatAll H (vs.drop k) (ds.drop k)
  | _, _, 0, h => by rw [List.drop_zero, List.drop_zero]; exact h
  | _, _, k + 1, .nil => by rw [List.drop_nil, List.drop_nil]; exact .nil
  | _, _, k + 1, .cons a t => by rw [List.drop_succ_cons, List.drop_succ_cons]; exact DatAll.dp k t
theorem DatAll.rv {H : Hp} : ∀ {vs : List V} {ds : List PyData}, DatAll H vs ds → DatAll H vs.reverse ds.reverse
  | _, _, .nil => .nil
  | _, _, .cons a t => by rw [List.reverse_cons, List.reverse_cons]; exact DatAll.app (DatAll.rv t) (.cons a .nil)
/-! ### tuples, texts, truths, one within another -/
mutual
def tsb : PyData → Bool
  | .tuple ds => tsbs ds
  | .str _ => true
  | .bool _ => true
  | _ => false
def tsbs : List PyData → Bool
  | [] => true
  | d :: ds => tsb d && tsbs ds
end
theorem tsbs_mem : ∀ {ds : List PyData}, tsbs ds = true → ∀ d ∈ ds, tsb d = true
  | [], _, d, h => nomatch h
  | x :: ds, t, d, h => by
    rw [tsbs, Bool.and_eq_true] at t
    rcases List.mem_cons.mp h with rfl | h
    · exact t.1
    · exact tsbs_mem t.2 d h
mutual
theorem tsb_plain : ∀ d : PyData, tsb d = true → d.plain = true
  | .tuple ds, h => by rw [tsb] at h; simp only [PyData.plain]; exact tsbs_plain ds h
  | .str _, _ => rfl
  | .bool _, _ => rfl
  | .none, h => by simp [tsb] at h
  | .int _, h => by simp [tsb] at h
  | .list _, h => by simp [tsb] at h
  | .dict _, h => by simp [tsb] at h
theorem tsbs_plain : ∀ ds : List PyData, tsbs ds = true → PyData.plainAll ds = true
  | [], _ => rfl
  | d :: ds, h => by
    rw [tsbs, Bool.and_eq_true] at h
    rw [PyData.plainAll, tsb_plain d h.1, tsbs_plain ds h.2]
    rfl
end
theorem tsbs_map {α : Type} (f : α → PyData) (h : ∀ x, tsb (f x) = true) : ∀ l : List α, tsbs (l.map f) = true
  | [] => rfl
  | x :: l => by rw [List.map_cons, tsbs, h x, tsbs_map f h l]; rfl
theorem showAll_mem : ∀ {ds : List PyData}, PyData.showableAll ds = true → ∀ d ∈ ds, d.showable = true
  | [], _, d, h => nomatch h
  | x :: ds, t, d, h => by
    simp only [PyData.showableAll, Bool.and_eq_true] at t
    rcases List.mem_cons.mp h with rfl | h
    · exact t.1
    · exact showAll_mem t.2 d h
theorem depthAll_mem : ∀ {ds : List PyData} {k : Nat}, PyData.depthAll ds ≤ k → ∀ d ∈ ds, d.depth ≤ k
  | [], _, _, d, h => nomatch h
  | x :: ds, k, t, d, h => by
    simp only [PyData.depthAll] at t
    rcases List.mem_cons.mp h with rfl | h
    · omega
    · exact depthAll_mem (by omega) d h
theorem Fit.part {n w k : Nat} {ds : List PyData} (h : Fit n w (k + 1) (.tuple ds)) {d : PyData} (hd : d ∈ ds) : Fit n w k d := by
  have h1 : PyData.showableAll ds = true := by simpa [PyData.showable] using h.s
  have h2 : PyData.depthAll ds ≤ k := by have := h.dp; simp only [PyData.depth] at this; omega
  have h3 := h.l
  rw [limN, Bool.and_eq_true] at h3
  have h4 := h.z
  rw [wt] at h4
  have h5 := wts_mem hd
  exact ⟨showAll_mem h1 d hd, by omega, depthAll_mem h2 d hd, limNs_mem h3.2 d hd⟩
/-! ### texts -/
def lowS (z : Str) : Prop := ∀ c ∈ z.cps.toList, c < 200
theorem lowS_all {z : Str} (h : lowS z) : (z.cps.toList.all fun c => decide (c < 200)) = true := by
  rw [List.all_eq_true]
  exact fun c hc => decide_eq_true (h c hc)
theorem app_tl (x y : Str) : (x ++ y).cps.toList = x.cps.toList ++ y.cps.toList := by
  show (x.cps ++ y.cps).toList = _
  rw [Array.toList_append]
theorem app_len (x y : Str) : (x ++ y).length = x.length + y.length := by
  show (x.cps ++ y.cps).size = _
  rw [Array.size_append]
  rfl
theorem lowS.app {x y : Str} (hx : lowS x) (hy : lowS y) : lowS (x ++ y) := fun c hc => by
  rw [app_tl] at hc
  rcases List.mem_append.mp hc with z | z
  · exact hx c z
  · exact hy c z
theorem lowS.cut {x : Str} (hx : lowS x) (lo hi : Option Int) : lowS (cutS x lo hi) := fun c hc => by
  unfold cutS at hc
  exact hx c (List.mem_of_mem_drop (List.mem_of_mem_take (by simpa using hc)))
theorem lowS.rev {x : Str} (hx : lowS x) : lowS (revS x) := fun c hc => by
  unfold revS at hc
  exact hx c (by simpa using hc)
theorem rev_len (x : Str) : (revS x).length = x.length := by
  show (x.cps.toList.reverse.toArray).size = x.cps.size
  rw [List.size_toArray, List.length_reverse, Array.length_toList]
theorem cutS_take (x : Str) (r : Nat) : (cutS x none (some (r : Int))).length ≤ r := by
  show (((x.cps.toList.drop (HT.sIx x.length 0 none)).take (HT.sIx x.length x.length (some (r : Int)) - HT.sIx x.length 0 none)).toArray).size ≤ r
  rw [List.size_toArray, List.length_take, HT.sIx_nat, HT.sIx_none]
  omega
theorem cutS_drop (x : Str) (r : Nat) : (cutS x (some (r : Int)) none).length + min r x.length ≤ x.length := by
  show (((x.cps.toList.drop (HT.sIx x.length 0 (some (r : Int)))).take (HT.sIx x.length x.length none - HT.sIx x.length 0 (some (r : Int)))).toArray).size + _ ≤ x.length
  rw [List.size_toArray, List.length_take, HT.sIx_nat, HT.sIx_none]
  omega
end S1

set_option Elab.async false
set_option linter.all false
set_option maxRecDepth 100000
set_option maxHeartbeats 2000000
/-! rows of bounded data -/
namespace S1
open PySem PySem.W PySem.Spec PyProof.Rows L2
/-- rows of data off the source: bounded each, and in all -/
def Gs (p : Addr) (n w k : Nat) (H : Hp) (vs : List V) (b : Nat) : Prop := ∃ ds, DatAll (del H p) vs ds ∧ (∀ d ∈ ds, Fit n w k d) ∧ wts ds ≤ b
section
variable {p : Addr} {n w k : Nat} {H H' : Hp} {vs us : List V} {b c : Nat}
theorem Gs.dl (h : Gs p n w k H vs b) (S : Same (del H p) (del H' p)) : Gs p n w k H' vs b := let ⟨ds, D, f, z⟩ := h; ⟨ds, DatAll.same S D, f, z⟩
theorem Gs.same (h : Gs p n w k H vs b) (S : Same H H') : Gs p n w k H' vs b := h.dl (sd_of S)
theorem Gs.app (h : Gs p n w k H vs b) (h2 : Gs p n w k H us c) : Gs p n w k H (vs ++ us) (b + c) := by
  obtain ⟨ds, D, f, z⟩ := h
  obtain ⟨es, E, f2, z2⟩ := h2
  refine ⟨ds ++ es, S1.DatAll.app D E, fun d hd => ?_, by rw [wts_append]; omega⟩
  rcases List.mem_append.mp hd with m | m
  · exact f d m
  · exact f2 d m
theorem Gs.up {n' w' k' b' : Nat} (h : Gs p n w k H vs b) (hn : n ≤ n') (hw : w ≤ w') (hk : k ≤ k') (hb : b ≤ b') : Gs p n' w' k' H vs b' := by
  obtain ⟨ds, D, f, z⟩ := h
  exact ⟨ds, D, fun d hd => (f d hd).up (limN_mono hn d) hw hk, Nat.le_trans z hb⟩
theorem Gs.tk (h : Gs p n w k H vs b) (i : Nat) : Gs p n w k H (vs.take i) b := by
  obtain ⟨ds, D, f, z⟩ := h
  exact ⟨ds.take i, S1.DatAll.tk i D, fun d hd => f d (List.mem_of_mem_take hd), Nat.le_trans (wts_take ds i) z⟩
theorem Gs.dp (h : Gs p n w k H vs b) (i : Nat) : Gs p n w k H (vs.drop i) b := by
  obtain ⟨ds, D, f, z⟩ := h
  exact ⟨ds.drop i, S1.DatAll.dp i D, fun d hd => f d (List.mem_of_mem_drop hd), Nat.le_trans (wts_drop ds i) z⟩
theorem Gs.rv (h : Gs p n w k H vs b) : Gs p n w k H vs.reverse b := by
  obtain ⟨ds, D, f, z⟩ := h
  exact ⟨ds.reverse, S1.DatAll.rv D, fun d hd => f d (List.mem_reverse.mp hd), by rw [wts_reverse]; exact z⟩
/-- two ends about a place -/
theorem Gs.ends (h : Gs p n w k H vs b) {i j : Nat} (hij : i ≤ j) : ∃ c1 c2, Gs p n w k H (vs.take i) c1 ∧ Gs p n w k H (vs.drop j) c2 ∧ c1 + c2 ≤ b := by
  obtain ⟨ds, D, f, z⟩ := h
  refine ⟨_, _, ⟨ds.take i, S1.DatAll.tk i D, fun d hd => f d (List.mem_of_mem_take hd), Nat.le_refl _⟩, ⟨ds.drop j, S1.DatAll.dp j D, fun d hd => f d (List.mem_of_mem_drop hd), Nat.le_refl _⟩, ?_⟩
  have e : wts (ds.take j) + wts (ds.drop j) = wts ds := by rw [← wts_append, List.take_append_drop]
  have e2 : ds.take i = (ds.take j).take i := by rw [List.take_take, Nat.min_eq_left hij]
  have := wts_take (ds.take j) i
  rw [← e2] at this
  omega
/-- ends, and what stands between -/
theorem Gs.hole {d : PyData} {ds : List PyData} {i : Nat} (D : DatAll (del H p) vs ds) (f : ∀ d ∈ ds, Fit n w k d) (hd : ds[i]? = some d) : ∃ c1 c2, Gs p n w k H (vs.take i) c1 ∧ Gs p n w k H (vs.drop (i + 1)) c2 ∧ c1 + (wt d + 2) + c2 = wts ds := by
  refine ⟨_, _, ⟨ds.take i, S1.DatAll.tk i D, fun d hd => f d (List.mem_of_mem_take hd), Nat.le_refl _⟩, ⟨ds.drop (i + 1), S1.DatAll.dp (i + 1) D, fun d hd => f d (List.mem_of_mem_drop hd), Nat.le_refl _⟩, ?_⟩
  have e : wts (ds.take (i + 1)) + wts (ds.drop (i + 1)) = wts ds := by rw [← wts_append, List.take_append_drop]
  have e2 : ds.take (i + 1) = ds.take i ++ [d] := by rw [List.take_add_one, hd]; rfl
  rw [e2, wts_append, wts, wts] at e
  omega
theorem Gd.one {v : V} (h : Gd p n w k H v) : Gs p n w k H [v] (w + 2) := by
  obtain ⟨d, D, f⟩ := h
  refine ⟨[d], .cons D .nil, fun e he => by cases List.mem_singleton.mp he; exact f, ?_⟩
  have := f.z
  rw [wts, wts]
  omega
theorem gs_tup {t : Addr} {w' : Nat} (e : H t = some (.tup vs)) (hp : t ≠ p) (g : Gs p n w k H vs b) (hl : vs.length ≤ n) (hb : b + 3 ≤ w') : Gd p n w' (k + 1) H (.ref t) := by
  obtain ⟨ds, D, f, z⟩ := g
  exact ⟨.tuple ds, .tup (by rw [del_ne hp]; exact e) D, Fit.tup f (by rw [← D.len]; exact hl) (by omega)⟩
theorem gs_lst {t : Addr} {w' : Nat} (e : H t = some (.lst vs)) (hp : t ≠ p) (g : Gs p n w k H vs b) (hl : vs.length ≤ n) (hb : b + 3 ≤ w') : Gd p n w' (k + 1) H (.ref t) := by
  obtain ⟨ds, D, f, z⟩ := g
  exact ⟨.list ds, .lst (by rw [del_ne hp]; exact e) D, Fit.lst f (by rw [← D.len]; exact hl) (by omega)⟩
theorem cutV_le (xs : List V) (lo hi : Option Int) : (cutV xs lo hi).length ≤ xs.length := by
  unfold cutV
  rw [List.length_take, List.length_drop]
  omega
end
end S1

set_option Elab.async false
set_option linter.all false
set_option maxRecDepth 100000
set_option maxHeartbeats 4000000
/-! an object with one thing other in it -/
namespace S1
open PySem PySem.W PySem.Spec PyProof.Rows L2
/-- G comes of H by draws at p and by new things -/
structure Dr (H : Hp) (p : Addr) (c : Nat) (G : Hp) : Prop where
  s : Src G p c
  m : Same (del H p) (del G p)
section
variable {H G : Hp} {p : Addr} {c c' : Nat}
theorem Dr.start (h : Src H p c) : Dr H p c H := ⟨h, Same.refl _⟩
theorem Dr.up (d : Dr H p c G) (le : c ≤ c') : Dr H p c' G := ⟨d.s.mono rfl le, d.m⟩
theorem Dr.src {o : HO} (d : Dr H p c G) (h : Src (upd G p o) p c') : Dr H p c' (upd G p o) := ⟨h, sd_at d.m⟩
theorem Dr.ne {l : Addr} (d : Dr H p c G) (h : G l = none) : l ≠ p := (d.s.ne h).symm
theorem Dr.free {l : Addr} (d : Dr H p c G) (h : G l = none) : H l = none := sd_free d.m h (d.ne h)
theorem Dr.new {l : Addr} {o : HO} (d : Dr H p c G) (h : G l = none) : Dr H p c (upd G l o) :=
  ⟨d.s.mono (upd_ne (d.ne h).symm) (Nat.le_refl _), sd_new d.m h (d.ne h)⟩
theorem Dr.keep {x : Addr} {o : HO} (d : Dr H p c G) (e : H x = some o) (n : x ≠ p) : G x = some o := by
  have z := d.m x o (by rw [del_ne n]; exact e)
  rwa [del_ne n] at z
theorem Dr.trans {G2 : Hp} (d : Dr H p c G) (d2 : Dr G p c' G2) : Dr H p c' G2 := ⟨d2.s, d.m.trans d2.m⟩
theorem Dr.same {G2 : Hp} (d : Dr H p c G) (S : Same G G2) : Dr H p c G2 := by
  obtain ⟨xs, hx⟩ := d.s.lst
  exact ⟨d.s.mono (by rw [hx, S _ _ hx]) (Nat.le_refl _), d.m.trans (sd_of S)⟩
end
theorem Gd.up {p : Addr} {n w k n' w' k' : Nat} {H : Hp} {v : V} (h : Gd p n w k H v) (hn : n ≤ n') (hw : w ≤ w') (hk : k ≤ k') : Gd p n' w' k' H v := let ⟨d, D, f⟩ := h; ⟨d, D, f.up (limN_mono hn d) hw hk⟩
theorem gd_at {p t : Addr} {n w k : Nat} {H : Hp} {zs : List V} {es : List PyData} (e : H t = some (.tup zs)) (hp : t ≠ p) (D : DatAll (del H p) zs es) (f : Fit n w k (.tuple es)) : Gd p n w k H (.ref t) :=
  ⟨.tuple es, .tup (by rw [del_ne hp]; exact e) D, f⟩
theorem gd_atl {p t : Addr} {n w k : Nat} {H : Hp} {zs : List V} {es : List PyData} (e : H t = some (.lst zs)) (hp : t ≠ p) (D : DatAll (del H p) zs es) (f : Fit n w k (.list es)) : Gd p n w k H (.ref t) :=
  ⟨.list es, .lst (by rw [del_ne hp]; exact e) D, f⟩
theorem gd_str {p : Addr} {n w k : Nat} {H : Hp} {x : Str} (h1 : x.length ≤ n) (h2 : lowS x) (hw : 10 * x.length + 2 ≤ w) : Gd p n w k H (.str x) := ⟨.str x, .str x, Fit.str h1 (lowS_all h2) hw⟩
theorem lowS_of {n w k : Nat} {x : Str} (f : Fit n w k (.str x)) : lowS x := fun c hc => by
  have z := f.l
  rw [limN, Bool.and_eq_true, List.all_eq_true] at z
  exact of_decide_eq_true (z.2 c hc)
theorem len_of {n w k : Nat} {x : Str} (f : Fit n w k (.str x)) : x.length ≤ n ∧ 10 * x.length + 2 ≤ w := by
  have z := f.l
  rw [limN, Bool.and_eq_true, decide_eq_true_eq] at z
  have y := f.z
  rw [wt] at y
  exact ⟨z.1, y⟩
theorem at_ok' {xs : List Nat} {r : Int} (h0 : 0 ≤ r) (h1 : r < xs.length) : ∃ v, atI xs r = some v ∧ v ∈ xs ∧ xs[r.toNat]? = some v := by
  have hl : r.toNat < xs.length := by omega
  refine ⟨xs[r.toNat], ?_, List.getElem_mem _, List.getElem?_eq_getElem hl⟩
  have z := atI_nat (List.getElem?_eq_getElem hl)
  rw [Int.toNat_of_nonneg h0] at z
  exact z
theorem dats_signs {H : Hp} (x : Str) : DatAll H (signV x) (x.cps.toList.map fun c => PyData.str ⟨#[c]⟩) := by
  unfold signV
  induction x.cps.toList with
  | nil => exact .nil
  | cons c l ih => exact .cons (.str _) ih
theorem wts_map_le {α : Type} (f : α → PyData) (b : Nat) (h : ∀ x, wt (f x) ≤ b) : ∀ l : List α, wts (l.map f) ≤ l.length * (b + 2)
  | [] => by rw [List.map_nil, wts]; exact Nat.zero_le _
  | x :: l => by
    have h1 := h x
    have h2 := wts_map_le f b h l
    rw [List.map_cons, wts, List.length_cons, Nat.succ_mul]
    omega
theorem same_off {H : Hp} {p : Addr} : Same (del H p) H := fun b u e => by
  by_cases z : b = p
  · rw [z, del_same] at e; cases e
  · rw [del_ne z] at e; exact e
/-- a tuple's parts, a row of one, and what is made of them -/
structure TB (H : Hp) (p : Addr) (c : Nat) (a tp : Addr) (vs : List V) (ro : V) (n w w2 k : Nat) (xs : List V) (G : Hp) : Prop where
  d : Dr H p c G
  e : G a = some (.tup vs)
  t : G tp = some (.tup [ro])
  o : Gd p n w k G ro
  g : ∀ y ∈ xs, Gd p n w2 (k + 1) G y
theorem tup_np {H G : Hp} {p t : Addr} {c : Nat} {zs : List V} (d : Dr H p c G) (e : G t = some (.tup zs)) : t ≠ p := fun z => by
  obtain ⟨ys, hy⟩ := d.s.lst
  rw [z, hy] at e
  cases e
section
variable {H G G' : Hp} {p a tp : Addr} {c n w w2 k : Nat} {vs xs : List V} {ro : V}
theorem TB.same (b : TB H p c a tp vs ro n w w2 k xs G) (S : Same G G') : TB H p c a tp vs ro n w w2 k xs G' := ⟨b.d.same S, S _ _ b.e, S _ _ b.t, b.o.same S, fun y hy => (b.g y hy).same S⟩
theorem TB.add {y : V} (b : TB H p c a tp vs ro n w w2 k xs G) (h : Gd p n w2 (k + 1) G y) : TB H p c a tp vs ro n w w2 k (xs ++ [y]) G := ⟨b.d, b.e, b.t, b.o, fun z hz => by
  rcases List.mem_append.mp hz with m | m
  · exact b.g z m
  · cases List.mem_singleton.mp m; exact h⟩
end
def spBent (m : Nat) : Sp := fun vs H Q _ => ∃ (p : Addr) (v : V) (c n w k deep : Nat) (d : PyData), vs = [.ref p, v, .int (deep : Nat)] ∧ deep < m ∧ Src H p c ∧ c + 10 * m ≤ 80000 ∧ Dat (del H p) v d ∧ Fit n w k d ∧ tsb d = true ∧ 9 ≤ n ∧ n ≤ 1000 ∧ k ≤ 6 ∧
  ∀ (r : V) (H' : Hp), Gd p (2 * n + 1) (3 * w + 200) (k + 3) H' r → Dr H p (c + 10 * m) H' → Q r H'
abbrev nBe : List Str := ["source", "value", "deep", "at", "part", "signs", "some"]
section
variable {P : Program} {w : World} {K : PySem.W.Frag} {mg : Str → Option Value} {base : Heap}
theorem scBent : FnScope nBe ["source", "value", "deep"] (defScope sBent) := ⟨rfl, rfl, rfl, by decide +kernel, rfl, by decide +kernel, by decide +kernel⟩
theorem kitTS {t : String} {r1 r2 : Bool} (h1 : kitB t "tuple" = some r1) (h2 : kitB t "str" = some r2) : PySem.W.kitAny K (.type t) [.type "tuple", .type "str"] = some (r1 || r2) := by
  refine kitAny_cons (kit_ty h1) (fun e => ?_) (fun e => by rw [e]; rfl)
  rw [e, Bool.false_or]
  exact kitAny_cons (kit_ty h2) (fun e2 => by rw [e2]; exact kitAny_nil) (fun e2 => e2)
theorem wt_one {d : PyData} {w : Nat} (h : wt d ≤ w) : wts [d] ≤ w + 2 := by
  rw [wts, wts]
  omega
set_option maxHeartbeats 8000000 in
theorem ok_bent1 {m : Nat} {f fP fO : Addr} {fd fdP fdO : FuncData} (Be : Has K mg "_law_bent" sBent ["source", "value", "deep"] f fd) (Pk : Has K mg "_law_pick" sPick ["source", "top"] fP fdP) (Od : Has K mg "_law_odd" sOdd ["source", "value"] fO fdO) (B : Blt mg)
    (GB : FnOk P w K mg base CX0 (3 + m) f fd ["source", "value", "deep"] (spBent m)) : FnOk P w K mg base CX0 (4 + m) f fd ["source", "value", "deep"] (spBent (m + 1)) := by
  have GP : FnOk P w K mg base CX0 1 fP fdP ["source", "top"] spPick := ok_pick Pk.F B
  have GO : FnOk P w K mg base CX0 2 fO fdO ["source", "value"] spOdd := ok_odd Od.F Pk B
  have e4 : 4 + m = (3 + m) + 1 := by omega
  rw [e4]
  refine Be.F.ok scBent (fun vs H Q E h => ?_) (fun cdv A outer s H vs Q E hr h => ?_)
  · obtain ⟨p, v, c, n, w, k, deep, d, rfl, _⟩ := h
    rfl
  · obtain ⟨p, v, c, n, wn, k, deep, d, rfl, hdm, hp, hc, D, ft, ht, hn, hn2, hk, q⟩ := h
    have hu : (A.deeper (envOfC "_law_bent" (defScope sBent) s.heap.objs.size f cdv)).units + 64 < cLine := hr.units
    have hr1 := hr.mono (show 1 ≤ 3 + m by omega)
    have hr2 := hr.mono (show 2 ≤ 3 + m by omega)
    refine ⟨_, pss_cons (ps_if (PW.pt (pw_or (pt_cmpR op_eq (pv 2) pe_int (nomark _)) (pw_or1 (pt_cmpR op_eq (pe_call GP hr1 rfl Pk.g Pk.F.kp Pk.b .nil pass0 (pa_cons (pv 0) (pa_cons pe_int pa_nil))) pe_int (nomark _)))))
        (pss_one (ps_ret (pe_call GO hr2 rfl Od.g Od.F.kp Od.b .nil pass0 (pa_cons (pv 0) (pa_cons (pv 1) pa_nil))))) pss_nil)
      (pss_cons (ps_if (PW.pt (pw_and (pt_val (pe_callB call_isi (by rfl) B.isi (by decide +kernel) (pa_cons (pv 1) (pa_cons (pe_bltn (v := V.ty "tuple") (by rfl) B.tuple (by decide +kernel) rfl) pa_nil))))
            (pw_and (pt_cmpR (op_neP (by exact hu)) (pv 1) (pe_tup pa_nil) (nomark _)) (pw_and1 (pt_cmpR op_gt (pe_call GP hr1 rfl Pk.g Pk.F.kp Pk.b .nil pass0 (pa_cons (pv 0) (pa_cons pe_int pa_nil))) pe_int (nomark _))))))
        (pss_cons (ps_set (i := 3) scBent.nd rfl (.inl rfl) (pe_call GP hr1 rfl Pk.g Pk.F.kp Pk.b .nil pass0 (pa_cons (pv 0) (pa_cons (pe_callB call_len (by rfl) B.len (by decide +kernel) (pa_cons (pv 1) pa_nil)) pa_nil))))
        (pss_one (ps_ret (pe_op op_catX (pe_op op_catX (pe_slice sl_X (pv 1) po_none (po_some (pv 3))) (pe_tup (pa_cons (pe_call GB hr rfl Be.g Be.F.kp Be.b .nil pass0 (pa_cons (pv 0) (pa_cons (pe_ix ix_tup (pv 1) (pv 3) (fun _ _ => rfl)) (pa_cons (pe_op op_sub (pv 2) pe_int) pa_nil)))) pa_nil)))
          (pe_slice sl_X (pv 1) (po_some (pe_op op_add (pv 3) pe_int)) po_none))))) pss_nil)
      (pss_cons (ps_if (pt_val (pe_callB call_isi (by rfl) B.isi (by decide +kernel) (pa_cons (pv 1) (pa_cons (pe_bltn (v := V.ty "bool") (by rfl) B.bool (by decide +kernel) rfl) pa_nil))))
        (pss_one (ps_ret (pe_ix ix_list (pe_lst (pa_cons (pe_not (pv 1)) (pa_cons (pe_callTy call_int1 (by rfl) B.int (by decide +kernel) (pa_cons (pv 1) pa_nil)) (pa_cons pe_non (pa_cons (pe_tup (pa_cons (pv 1) pa_nil)) pa_nil)))))
          (pe_call GP hr1 rfl Pk.g Pk.F.kp Pk.b .nil pass0 (pa_cons (pv 0) (pa_cons pe_int pa_nil))) (fun _ _ => rfl)))) pss_nil)
      (pss_cons (ps_if (pt_not (pt_val (pe_callB call_isiT (by rfl) B.isi (by decide +kernel) (pa_cons (pv 1) (pa_cons (pe_tup (pa_cons (pe_bltn (v := V.ty "tuple") (by rfl) B.tuple (by decide +kernel) rfl) (pa_cons (pe_bltn (v := V.ty "str") (by rfl) B.str (by decide +kernel) rfl) pa_nil))) pa_nil)))))
        (pss_one (ps_ret (pe_lst (pa_cons (pv 1) pa_nil)))) pss_nil)
      (pss_cons (ps_set (i := 3) scBent.nd rfl (.inl rfl) (pe_call GP hr1 rfl Pk.g Pk.F.kp Pk.b .nil pass0 (pa_cons (pv 0) (pa_cons (pe_op op_add (pe_callB call_len (by rfl) B.len (by decide +kernel) (pa_cons (pv 1) pa_nil)) pe_int) pa_nil))))
      (pss_cons (ps_set (i := 4) scBent.nd rfl (.inl rfl) (pe_tup (pa_cons (pe_call GO hr2 rfl Od.g Od.F.kp Od.b .nil pass0 (pa_cons (pv 0) (pa_cons (pv 1) pa_nil))) pa_nil)))
      (pss_cons (ps_if (pt_val (pe_callB call_isi (by rfl) B.isi (by decide +kernel) (pa_cons (pv 1) (pa_cons (pe_bltn (v := V.ty "str") (by rfl) B.str (by decide +kernel) rfl) pa_nil))))
        (pss_cons (ps_set (i := 5) scBent.nd rfl (.inl rfl) pe_str)
        (pss_one (ps_set (i := 4) scBent.nd rfl (.inl rfl) (pe_ix ix_str (pv 5) (pe_call GP hr1 rfl Pk.g Pk.F.kp Pk.b .nil pass0 (pa_cons (pv 0) (pa_cons (pe_callB call_len (by rfl) B.len (by decide +kernel) (pa_cons (pv 5) pa_nil)) pa_nil))) (fun _ _ => rfl))))) pss_nil)
      (pss_cons (ps_set (i := 6) scBent.nd rfl (.inl rfl) (pe_lst (pa_cons (pe_op op_catX (pe_slice sl_X (pv 1) po_none (po_some (pv 3))) (pe_slice sl_X (pv 1) (po_some (pe_op op_add (pv 3) pe_int)) po_none))
          (pa_cons (pe_op op_catX (pe_op op_catX (pe_slice sl_X (pv 1) po_none (po_some (pv 3))) (pv 4)) (pe_slice sl_X (pv 1) (po_some (pv 3)) po_none))
          (pa_cons (pe_op op_catX (pe_op op_catX (pe_slice sl_X (pv 1) po_none (po_some (pv 3))) (pe_slice sl_X (pv 1) (po_some (pv 3)) (po_some (pe_op op_add (pv 3) pe_int)))) (pe_slice sl_X (pv 1) (po_some (pv 3)) po_none)) pa_nil)))))
      (pss_cons (ps_set (i := 6) scBent.nd rfl (.inl rfl) (pe_op op_cat (pv 6) (pe_lst (pa_cons (pe_revA (pv 1))
          (pa_cons (pe_op op_catX (pe_op op_catX (pe_slice sl_X (pv 1) po_none (po_some (pv 3))) (pv 4)) (pe_slice sl_X (pv 1) (po_some (pe_op op_add (pv 3) pe_int)) po_none))
          (pa_cons (pe_op op_catX (pv 1) (pv 1))
          (pa_cons (pe_callTy (call_listX rfl) (by rfl) B.list (by decide +kernel) (pa_cons (pv 1) pa_nil))
          (pa_cons (pe_slice sl_X (pv 1) (po_some (pv 3)) po_none) pa_nil))))))))
      (pss_one (ps_ret (pe_ix ix_list (pv 6) (pe_call GP hr1 rfl Pk.g Pk.F.kp Pk.b .nil pass0 (pa_cons (pv 0) (pa_cons pe_int pa_nil))) (fun _ _ => rfl)))))))))))), ?_⟩
    have d0 := Dr.start hp
    refine ⟨_, rfl, rfl, _, rfl, ?_⟩
    refine or_split (R := fun G => Dr H p (c + 1) G) (fun G dG => ?_) (fun _ k' => k' _ (d0.up (by omega))) (fun hne k' => ?_)
    · show if true = true then _ else _
      rw [if_pos rfl]
      exact ⟨_, rfl, _, rfl, p, v, _, n, wn, k, d, rfl, dG.s, by omega, D.same dG.m, ft, hn, fun r H' g s' m' => q r H' (g.up (by omega) (by omega) (by omega)) ⟨s'.mono rfl (by omega), dG.m.trans m'⟩⟩
    · have dne : deep ≠ 0 := fun e => hne (by rw [e]; exact decide_eq_true rfl)
      refine ⟨_, rfl, p, _, 7, rfl, hp, by omega, by decide, by decide, fun r1 o1 _ _ hp1 => ⟨rfl, _, rfl, ?_⟩⟩
      have d1 := d0.src hp1
      by_cases hz : decide (V.int r1 = V.int 0) = true
      · have z := k' _ d1
        show if decide (V.int r1 = V.int 0) = true then _ else _
        rw [hz]
        exact z
      show if decide (V.int r1 = V.int 0) = true then _ else _
      rw [if_neg hz]
      clear k'
      generalize upd H p o1 = G1 at d1 ⊢
      have D1 := D.same d1.m
      have s1 : 1 ≤ sizeLine := by decide
      have s2 : 2 ≤ sizeLine := by decide
      have big : ∀ {j : Nat}, j ≤ 10000 → j ≤ sizeLine := fun h => Nat.le_trans h (by decide)
      cases d with
      | none => simp [tsb] at ht
      | int _ => simp [tsb] at ht
      | list _ => simp [tsb] at ht
      | dict _ => simp [tsb] at ht
      | bool b =>
        cases D1
        refine ⟨_, rfl, _, _, _, _, false, rfl, .ty _, .base (.bl b), kit_ty (by decide +kernel), false, rfl, ?_⟩
        show if false = true then _ else _
        rw [if_neg (by decide)]
        show if false = true then _ else _
        rw [if_neg (by decide)]
        refine ⟨_, rfl, _, _, _, _, true, rfl, .ty _, .base (.bl b), kit_ty (by decide +kernel), true, rfl, ?_⟩
        show if true = true then _ else _
        rw [if_pos rfl]
        refine ⟨_, rfl, b, rfl, _, rfl, .inr ⟨b, rfl, _, rfl, s1, fun t ht => ⟨(by show 4 ≤ sizeLine; decide), fun l hl => ?_⟩⟩⟩
        have d2 := d1.new (o := .tup [.bl b]) ht
        have d3 := d2.new (o := .lst [.bl (!b), .int (if b = true then 1 else 0), .non, .ref t]) hl
        have tp := d1.ne ht
        have lp := d2.ne hl
        refine ⟨_, rfl, p, _, 4, rfl, d3.s, by omega, by decide, by decide, fun r2 o2 r20 r21 hp2 => ?_⟩
        have d4 := d3.src hp2
        obtain ⟨y, hy, my, _⟩ := at_ok (xs := [V.bl (!b), .int (if b = true then 1 else 0), .non, .ref t]) r20 r21
        refine ⟨l, _, r2, y, rfl, rfl, SqL.of (by rw [upd_ne lp]; exact upd_same), hy, q y _ ?_ (d4.up (by omega))⟩
        have S3 := same_new (o := .lst [.bl (!b), .int (if b = true then 1 else 0), .non, .ref t]) hl
        have wz := ft.z
        have g : ∀ z ∈ [V.bl (!b), .int (if b = true then 1 else 0), .non, .ref t], Gd p (2 * n + 1) (3 * wn + 200) (k + 3) (upd (upd G1 t (.tup [.bl b])) l (.lst [.bl (!b), .int (if b = true then 1 else 0), .non, .ref t])) z :=
          gcons ⟨_, .bl _, Fit.bl _ (by omega)⟩ (gcons ⟨_, .int _, Fit.num (by cases b <;> simp) (by omega)⟩ (gcons ⟨_, .non, Fit.non (by omega)⟩ (gcons (gd_at (S3 _ _ upd_same) tp (.cons (.bl b) .nil) ((Fit.tup (w := 5) (k := 0) (w' := 10) (pcons (Fit.bl b (by omega)) pnil) (by show 1 ≤ 2 * n + 1; omega) (by rw [wts, wts, wt]; cases b <;> decide)).up (fun h => h) (by omega) (by omega))) gnil)))
        exact (g y my).del (sd_at (Same.refl _))
      | str x =>
        cases D1
        obtain ⟨lx, wx⟩ := len_of ft
        have low := lowS_of ft
        have lx0 : x.length ≤ sizeLine := big (by omega)
        have cl : ∀ lo hi, (cutS x lo hi).length ≤ x.length := cutS_length x
        refine ⟨_, rfl, _, _, _, _, false, rfl, .ty _, .base (.str x), kit_ty (by decide +kernel), false, rfl, ?_⟩
        show if false = true then _ else _
        rw [if_neg (by decide)]
        show if false = true then _ else _
        rw [if_neg (by decide)]
        refine ⟨_, rfl, _, _, _, _, false, rfl, .ty _, .base (.str x), kit_ty (by decide +kernel), false, rfl, ?_⟩
        show if false = true then _ else _
        rw [if_neg (by decide)]
        refine ⟨_, rfl, s2, fun tp htp => ⟨_, tp, _, _, _, true, rfl, upd_same, .cons (.ty _) (.cons (.ty _) .nil), .base (.str x), kitTS (r1 := false) (r2 := true) (by decide +kernel) (by decide +kernel), true, rfl, ?_⟩⟩
        show if (!true) = true then _ else _
        rw [if_neg (by decide)]
        have d2 := d1.new (o := .tup [V.ty "tuple", V.ty "str"]) htp
        refine ⟨_, rfl, _, rfl, _, _, rfl, ⟨lx0, rfl⟩, _, _, rfl, rfl, p, _, _, rfl, d2.s, by omega, by omega, by omega, fun r2 o2 r20 r21 hp2 => ?_⟩
        have d3 := d2.src hp2
        obtain ⟨i, rfl⟩ : ∃ i : Nat, r2 = (i : Int) := ⟨r2.toNat, by omega⟩
        have il : i ≤ x.length := by omega
        refine ⟨_, rfl, _, rfl, p, .str x, _, n, wn, k, .str x, rfl, d3.s, by omega, .str x, ft, hn, fun ro H2 go so mo => ⟨s1, fun t2 ht2 => ?_⟩⟩
        have d4 : Dr H p (c + 3) H2 := ⟨so.mono rfl (by omega), d3.m.trans mo⟩
        have d5 := d4.new (o := .tup [ro]) ht2
        refine ⟨_, rfl, _, _, _, _, true, rfl, .ty _, .base (.str x), kit_ty (by decide +kernel), true, rfl, ?_⟩
        show if true = true then _ else _
        rw [if_pos rfl]
        refine ⟨_, rfl, _, rfl, _, rfl, _, _, rfl, ⟨by decide +kernel, rfl⟩, p, _, _, rfl, d5.s, by omega, by decide +kernel, by decide +kernel, fun r3 o3 r30 r31 hp3 => ?_⟩
        have d6 := d5.src hp3
        obtain ⟨ch, hch, mch, _⟩ := at_ok' (xs := ("bzjtuv !\"#$&'()*+,-./0123456789:;<=>?@AZ[\\]^_`{|}~" : Str).cps.toList) r30 (by rw [Array.length_toList]; exact r31)
        refine ⟨_, r3, ch, rfl, rfl, by decide +kernel, hch, ?_⟩
        have lowc : lowS ⟨#[ch]⟩ := fun c' hc' => by
          have e : c' = ch := by simpa using hc'
          rw [e]
          have all : ∀ c ∈ ("bzjtuv !\"#$&'()*+,-./0123456789:;<=>?@AZ[\\]^_`{|}~" : Str).cps.toList, c < 200 := by decide +kernel
          exact all ch mch
        have lenc : (⟨#[ch]⟩ : Str).length = 1 := rfl
        generalize (⟨#[ch]⟩ : Str) = sgn at lowc lenc ⊢
        have T1 := cutS_take x i
        have T2 := cutS_drop x i
        have T3 := cutS_drop x (i + 1)
        have m1 := cl none (some (i : Int))
        have m2 := cl (some ((i + 1 : Nat) : Int)) none
        have m3 := cl (some (i : Int)) none
        have m4 := cl (some (i : Int)) (some ((i + 1 : Nat) : Int))
        refine ⟨_, rfl, _, rfl, _, rfl, .inr ⟨x, rfl, lx0, _, rfl, _, rfl, _, _, rfl, rfl, ((i + 1 : Nat) : Int), rfl, .inr ⟨x, rfl, lx0, .inr ⟨_, _, rfl, rfl, big (by omega), ?_⟩⟩⟩⟩
        refine ⟨_, rfl, _, rfl, _, rfl, .inr ⟨x, rfl, lx0, _, rfl, .inr ⟨_, _, rfl, rfl, big (by omega), _, rfl, _, rfl, _, rfl, .inr ⟨x, rfl, lx0, .inr ⟨_, _, rfl, rfl, big (by rw [app_len]; omega), ?_⟩⟩⟩⟩⟩
        refine ⟨_, rfl, _, rfl, _, rfl, .inr ⟨x, rfl, lx0, _, rfl, _, rfl, _, rfl, _, rfl, _, _, rfl, rfl, ((i + 1 : Nat) : Int), rfl, .inr ⟨x, rfl, lx0, .inr ⟨_, _, rfl, rfl, big (by omega), _, rfl, _, rfl, _, rfl, .inr ⟨x, rfl, lx0, .inr ⟨_, _, rfl, rfl, big (by rw [app_len]; omega), ?_⟩⟩⟩⟩⟩⟩
        refine ⟨(by show 3 ≤ sizeLine; decide), fun l1 hl1 => ?_⟩
        generalize hA : V.str (cutS x none (some (i : Int)) ++ cutS x (some ((i + 1 : Nat) : Int)) none) = vA
        generalize hB : V.str (cutS x none (some (i : Int)) ++ sgn ++ cutS x (some (i : Int)) none) = vB
        generalize hC : V.str (cutS x none (some (i : Int)) ++ cutS x (some (i : Int)) (some ((i + 1 : Nat) : Int)) ++ cutS x (some (i : Int)) none) = vC
        have low1 := low.cut none (some (i : Int))
        have low2 := low.cut (some ((i + 1 : Nat) : Int)) none
        have low3 := low.cut (some (i : Int)) none
        have low4 := low.cut (some (i : Int)) (some ((i + 1 : Nat) : Int))
        have gA : ∀ G, Gd p (2 * n + 1) (3 * wn + 200) (k + 3) G vA := fun G => by
          rw [← hA]
          exact gd_str (by rw [app_len]; omega) (low1.app low2) (by rw [app_len]; omega)
        have gB : ∀ G, Gd p (2 * n + 1) (3 * wn + 200) (k + 3) G vB := fun G => by
          rw [← hB]
          exact gd_str (by rw [app_len, app_len]; omega) ((low1.app lowc).app low3) (by rw [app_len, app_len]; omega)
        have gC : ∀ G, Gd p (2 * n + 1) (3 * wn + 200) (k + 3) G vC := fun G => by
          rw [← hC]
          exact gd_str (by rw [app_len, app_len]; omega) ((low1.app low4).app low3) (by rw [app_len, app_len]; omega)
        have d7 := d6.new (o := .lst [vA, vB, vC]) hl1
        have e7 : upd (upd (upd H2 t2 (.tup [ro])) p o3) l1 (.lst [vA, vB, vC]) l1 = some (.lst [vA, vB, vC]) := upd_same
        generalize upd (upd (upd H2 t2 (.tup [ro])) p o3) l1 (.lst [vA, vB, vC]) = H7 at d7 e7 ⊢
        refine ⟨_, rfl, _, rfl, .inr ⟨x, rfl, lx0, ?_⟩⟩
        refine ⟨_, rfl, _, rfl, _, rfl, .inr ⟨x, rfl, lx0, _, rfl, .inr ⟨_, _, rfl, rfl, big (by omega), _, rfl, _, rfl, _, _, rfl, rfl, ((i + 1 : Nat) : Int), rfl, .inr ⟨x, rfl, lx0, .inr ⟨_, _, rfl, rfl, big (by rw [app_len]; omega), ?_⟩⟩⟩⟩⟩
        refine ⟨_, rfl, _, rfl, .inr ⟨_, _, rfl, rfl, big (by omega), ?_⟩⟩
        refine ⟨_, rfl, .inr ⟨x, rfl, lx0, fun lL hlL => ?_⟩⟩
        refine ⟨_, rfl, _, rfl, _, rfl, .inr ⟨x, rfl, lx0, (by show 5 ≤ sizeLine; decide), fun l2 hl2 => ?_⟩⟩
        generalize hD : V.str (revS x) = vD
        generalize hE : V.str (cutS x none (some (i : Int)) ++ sgn ++ cutS x (some ((i + 1 : Nat) : Int)) none) = vE
        generalize hF : V.str (x ++ x) = vF
        generalize hI : V.str (cutS x (some (i : Int)) none) = vI
        have gD : ∀ G, Gd p (2 * n + 1) (3 * wn + 200) (k + 3) G vD := fun G => by
          rw [← hD]
          exact gd_str (by rw [rev_len]; omega) low.rev (by rw [rev_len]; omega)
        have gE : ∀ G, Gd p (2 * n + 1) (3 * wn + 200) (k + 3) G vE := fun G => by
          rw [← hE]
          exact gd_str (by rw [app_len, app_len]; omega) ((low1.app lowc).app low2) (by rw [app_len, app_len]; omega)
        have gF : ∀ G, Gd p (2 * n + 1) (3 * wn + 200) (k + 3) G vF := fun G => by
          rw [← hF]
          exact gd_str (by rw [app_len]; omega) (low.app low) (by rw [app_len]; omega)
        have gI : ∀ G, Gd p (2 * n + 1) (3 * wn + 200) (k + 3) G vI := fun G => by
          rw [← hI]
          exact gd_str (by omega) low3 (by omega)
        have d8 := d7.new (o := .lst (signV x)) hlL
        have pL := d7.ne hlL
        have gL : Gd p (2 * n + 1) (3 * wn + 200) (k + 3) (upd H7 lL (.lst (signV x))) (.ref lL) := gd_atl upd_same pL (dats_signs x) (Fit.lst (w := 20) (k := k + 2) (fun d' hd' => by
          obtain ⟨c', hc', rfl⟩ := List.mem_map.mp hd'
          exact Fit.str (by show 1 ≤ 2 * n + 1; omega) (lowS_all fun c2 h2 => by
            have e : c2 = c' := by simpa using h2
            rw [e]
            exact low c' hc') (by show 10 * 1 + 2 ≤ 20; decide)) (by rw [List.length_map, Array.length_toList]; show x.length ≤ _; omega) (by
            have z := wts_map_le (fun c' : Nat => PyData.str ⟨#[c']⟩) 12 (fun c' => by rw [wt]; exact Nat.le_refl 12) x.cps.toList
            rw [Array.length_toList] at z
            have : x.cps.size = x.length := rfl
            omega))
        have S8 := same_new (o := .lst (signV x)) hlL
        have e8 := S8 _ _ e7
        generalize upd H7 lL (.lst (signV x)) = H8 at d8 gL e8 hl2 ⊢
        have d9 := d8.new (o := .lst [vD, vE, vF, .ref lL, vI]) hl2
        have S9 := same_new (o := .lst [vD, vE, vF, .ref lL, vI]) hl2
        have e9 := S9 _ _ e8
        have e92 : upd H8 l2 (.lst [vD, vE, vF, .ref lL, vI]) l2 = some (.lst [vD, vE, vF, .ref lL, vI]) := upd_same
        have gL9 := gL.same S9
        generalize upd H8 l2 (.lst [vD, vE, vF, .ref lL, vI]) = H9 at d9 e9 e92 gL9 ⊢
        refine ⟨_, _, _, _, rfl, rfl, e9, e92, (by show 3 + 5 ≤ sizeLine; decide), fun l3 hl3 => ?_⟩
        have d10 := d9.new (o := .lst ([vA, vB, vC] ++ [vD, vE, vF, .ref lL, vI])) hl3
        have p3 := d9.ne hl3
        have gL10 := gL9.same (same_new (o := .lst ([vA, vB, vC] ++ [vD, vE, vF, .ref lL, vI])) hl3)
        refine ⟨_, rfl, _, rfl, p, _, 8, rfl, d10.s, by omega, by decide, by decide, fun r9 o9 r90 r91 hp9 => ?_⟩
        have d11 := d10.src hp9
        obtain ⟨y, hy, my, _⟩ := at_ok (xs := [vA, vB, vC] ++ [vD, vE, vF, .ref lL, vI]) r90 r91
        refine ⟨l3, _, r9, y, rfl, rfl, SqL.of (by rw [upd_ne p3]; exact upd_same), hy, q y _ ?_ (d11.up (by omega))⟩
        exact ((gcons (gA _) (gcons (gB _) (gcons (gC _) (gcons (gD _) (gcons (gE _) (gcons (gF _) (gcons gL10 (gcons (gI _) gnil)))))))) y my).del (sd_at (Same.refl _))
      | tuple ds =>
        obtain ⟨a, vs, rfl, ea, Ds⟩ := dat_tup D
        have na : a ≠ p := fun z => by rw [z, del_same] at ea; cases ea
        have eH : H a = some (.tup vs) := by rw [del_ne na] at ea; exact ea
        have lv : vs.length = ds.length := Ds.len
        obtain ⟨k, rfl⟩ : ∃ k', k = k' + 1 := ⟨k - 1, by have y := ft.dp; simp only [PyData.depth] at y; omega⟩
        have fp : ∀ d ∈ ds, Fit n wn k d := fun d hd => ft.part hd
        have wz : 3 + wts ds ≤ wn := by have y := ft.z; rwa [wt] at y
        have ln : ds.length ≤ n := by
          have y := ft.l
          rw [limN, Bool.and_eq_true, decide_eq_true_eq] at y
          exact y.1
        have G0 : Gs p n wn k H vs (wts ds) := ⟨ds, Ds, fp, Nat.le_refl _⟩
        have pl := tsb_plain _ ht
        have dpd : (PyData.tuple ds).depth ≤ 8 := Nat.le_trans ft.dp (by omega)
        have htb : tsbs ds = true := by rwa [tsb] at ht
        refine ⟨_, rfl, _, _, _, _, true, rfl, .ty _, .base (.tup (d1.keep eH na)), kit_ty (by decide +kernel), true, rfl, ?_⟩
        refine and_split (R := fun G => Dr H p (c + 2) G) (fun G dG => ?_) (fun _ k' => ?_) (fun h _ => absurd rfl h)
        · show if false = true then _ else _
          rw [if_neg (by decide)]
          clear d1 D1 hp1
          refine ⟨_, rfl, _, _, _, _, false, rfl, .ty _, .base (.tup (dG.keep eH na)), kit_ty (by decide +kernel), false, rfl, ?_⟩
          show if false = true then _ else _
          rw [if_neg (by decide)]
          refine ⟨_, rfl, s2, fun tp htp => ⟨_, tp, _, _, _, true, rfl, upd_same, .cons (.ty _) (.cons (.ty _) .nil), .base (.tup (same_new htp _ _ (dG.keep eH na))), kitTS (r1 := true) (r2 := false) (by decide +kernel) (by decide +kernel), true, rfl, ?_⟩⟩
          show if (!true) = true then _ else _
          rw [if_neg (by decide)]
          have d2 := dG.new (o := .tup [V.ty "tuple", V.ty "str"]) htp
          have e2 := same_new (o := .tup [V.ty "tuple", V.ty "str"]) htp _ _ (dG.keep eH na)
          generalize upd G tp (.tup [V.ty "tuple", V.ty "str"]) = G2 at d2 e2 ⊢
          refine ⟨_, rfl, _, rfl, _, vs.length, rfl, .inr ⟨vs, SqT.of e2, rfl⟩, _, _, rfl, rfl, p, _, _, rfl, d2.s, by omega, by omega, by omega, fun r2 o2 r20 r21 hp2 => ?_⟩
          have d3 := d2.src hp2
          clear d2 e2
          obtain ⟨i, rfl⟩ : ∃ i : Nat, r2 = (i : Int) := ⟨r2.toNat, by omega⟩
          have il : i ≤ vs.length := by omega
          generalize upd G2 p o2 = G3 at d3 ⊢
          have D3 := D.same d3.m
          refine ⟨_, rfl, _, rfl, p, .ref a, _, n, wn, k + 1, .tuple ds, rfl, d3.s, by omega, D3, ft, hn, fun ro G4 go so mo => ⟨s1, fun t2 ht2 => ?_⟩⟩
          have d4 : Dr H p (c + 4) G4 := ⟨so.mono rfl (by omega), d3.m.trans mo⟩
          have d5 := d4.new (o := .tup [ro]) ht2
          have S5 := same_new (o := .tup [ro]) ht2
          have b0 : TB H p (c + 4) a t2 vs ro (2 * n + 1) (2 * wn + 110) (3 * wn + 200) (k + 3) [] (upd G4 t2 (.tup [ro])) := ⟨d5, d5.keep eH na, upd_same, (go.same S5).up (by omega) (by omega) (by omega), fun y hy => nomatch hy⟩
          clear hp2 d3 D3 go so mo d4 d5 S5
          generalize upd G4 t2 (.tup [ro]) = G5 at b0 ⊢
          refine ⟨_, rfl, _, _, _, _, false, rfl, .ty _, .base (.tup b0.e), kit_ty (by decide +kernel), false, rfl, ?_⟩
          show if false = true then _ else _
          rw [if_neg (by decide)]
          have l1000 : vs.length ≤ n := by omega
          have K1 : ∀ {G : Hp}, Dr H p (c + 4) G → Gs p (2 * n + 1) (2 * wn + 110) (k + 3) G vs (wts ds) := fun {G} d => (G0.dl d.m).up (by omega) (by omega) (by omega) (Nat.le_refl _)
          have E1 : ∀ {G : Hp} {j : Nat}, Dr H p (c + 4) G → i ≤ j → ∃ c1 c2, Gs p (2 * n + 1) (2 * wn + 110) (k + 3) G (vs.take i) c1 ∧ Gs p (2 * n + 1) (2 * wn + 110) (k + 3) G (vs.drop j) c2 ∧ c1 + c2 ≤ wts ds := fun d h => (K1 d).ends h
          have lc : ∀ lo hi, (cutV vs lo hi).length ≤ n := fun lo hi => Nat.le_trans (cutV_le vs lo hi) l1000
          -- value[:at] + value[at + 1:]
          refine ⟨_, rfl, _, rfl, _, rfl, .inl ⟨a, vs, rfl, b0.e, fun x1 H1 S1 e1 => ⟨_, rfl, _, rfl, _, _, rfl, rfl, ((i + 1 : Nat) : Int), rfl, .inl ⟨a, vs, rfl, S1 _ _ b0.e, fun x2 H2 S2 e2 =>
            .inl ⟨x1, x2, _, _, rfl, rfl, S2 _ _ e1, e2, big (by have := lc none (some (i : Int)); have := lc (some ((i + 1 : Nat) : Int)) none; omega), fun x3 H3 S3 e3 => ?_⟩⟩⟩⟩⟩
          have b1 := b0.same (S1.trans (S2.trans S3))
          have gA : Gd p (2 * n + 1) (3 * wn + 200) (k + 4) H3 (.ref x3) := by
            rw [cutV_take, cutV_drop] at e3
            obtain ⟨c1, c2, g1, g2, g3⟩ := E1 b1.d (j := i + 1) (by omega)
            exact gs_tup e3 (tup_np b1.d e3) (g1.app g2) (by rw [List.length_append, List.length_take, List.length_drop]; omega) (by omega)
          have b1' := b1.add gA
          clear b0 b1 gA
          -- value[:at] + part + value[at:]
          refine ⟨_, rfl, _, rfl, _, rfl, .inl ⟨a, vs, rfl, b1'.e, fun y1 J1 T1 f1 => ⟨_, rfl, .inl ⟨y1, t2, _, _, rfl, rfl, f1, T1 _ _ b1'.t, big (by have := lc none (some (i : Int)); show _ + 1 ≤ _; omega), fun y2 J2 T2 f2 =>
            ⟨_, rfl, _, rfl, _, rfl, .inl ⟨a, vs, rfl, T2 _ _ (T1 _ _ b1'.e), fun y3 J3 T3 f3 => .inl ⟨y2, y3, _, _, rfl, rfl, T3 _ _ f2, f3, big (by rw [List.length_append]; have := lc none (some (i : Int)); have := lc (some (i : Int)) none; show _ + 1 + _ ≤ _; omega), fun y4 J4 T4 f4 => ?_⟩⟩⟩⟩⟩⟩⟩
          have b2 := b1'.same (T1.trans (T2.trans (T3.trans T4)))
          have gB : Gd p (2 * n + 1) (3 * wn + 200) (k + 4) J4 (.ref y4) := by
            rw [cutV_take, cutV_drop] at f4
            obtain ⟨c1, c2, g1, g2, g3⟩ := E1 b2.d (j := i) (Nat.le_refl _)
            exact gs_tup f4 (tup_np b2.d f4) ((g1.app b2.o.one).app g2) (by rw [List.length_append, List.length_append, List.length_take, List.length_drop]; show _ + 1 + _ ≤ _; omega) (by omega)
          have b2' := b2.add gB
          clear b1' b2 gB
          -- value[:at] + value[at:at + 1] + value[at:]
          refine ⟨_, rfl, _, rfl, _, rfl, .inl ⟨a, vs, rfl, b2'.e, fun z1 L1 U1 h1 => ⟨_, rfl, _, rfl, _, rfl, _, rfl, _, _, rfl, rfl, ((i + 1 : Nat) : Int), rfl, .inl ⟨a, vs, rfl, U1 _ _ b2'.e, fun z2 L2 U2 h2 =>
            .inl ⟨z1, z2, _, _, rfl, rfl, U2 _ _ h1, h2, big (by have := lc none (some (i : Int)); have := lc (some (i : Int)) (some ((i + 1 : Nat) : Int)); omega), fun z3 L3 U3 h3 => ⟨_, rfl, _, rfl, _, rfl, .inl ⟨a, vs, rfl, U3 _ _ (U2 _ _ (U1 _ _ b2'.e)), fun z4 L4 U4 h4 =>
              .inl ⟨z3, z4, _, _, rfl, rfl, U4 _ _ h3, h4, big (by rw [List.length_append]; have := lc none (some (i : Int)); have := lc (some (i : Int)) (some ((i + 1 : Nat) : Int)); have := lc (some (i : Int)) none; omega), fun z5 L5 U5 h5 => ?_⟩⟩⟩⟩⟩⟩⟩⟩
          have b3 := b2'.same (U1.trans (U2.trans (U3.trans (U4.trans U5))))
          have gC : Gd p (2 * n + 1) (3 * wn + 200) (k + 4) L5 (.ref z5) := by
            rw [cutV_take, cutV_drop, cutV_mid (by omega)] at h5
            obtain ⟨c1, c2, g1, g2, g3⟩ := E1 b3.d (j := i) (Nat.le_refl _)
            exact gs_tup h5 (tup_np b3.d h5) ((g1.app (((K1 b3.d).dp i).tk _)).app g2) (by rw [List.length_append, List.length_append, List.length_take, List.length_drop, List.length_take, List.length_drop]; omega) (by omega)
          have b3' := b3.add gC
          clear b2' b3 gC
          refine ⟨(by show 3 ≤ sizeLine; decide), fun l1 hl1 => ?_⟩
          have S4 := same_new (o := .lst [.ref x3, .ref y4, .ref z5]) hl1
          have b4 := b3'.same S4
          have q1 : upd L5 l1 (.lst [.ref x3, .ref y4, .ref z5]) l1 = some (.lst [.ref x3, .ref y4, .ref z5]) := upd_same
          clear b3' S4
          generalize upd L5 l1 (.lst [.ref x3, .ref y4, .ref z5]) = M0 at b4 q1 ⊢
          refine ⟨_, rfl, _, rfl, .inl ⟨a, vs, rfl, SqT.of b4.e, fun rv hrv => ?_⟩⟩
          have V1 := same_new (o := .tup vs.reverse) hrv
          have b5 := b4.same V1
          have gD : Gd p (2 * n + 1) (3 * wn + 200) (k + 4) (upd M0 rv (.tup vs.reverse)) (.ref rv) :=
            gs_tup upd_same (tup_np b5.d upd_same) (K1 b5.d).rv (by rw [List.length_reverse]; omega) (by omega)
          have b5' := b5.add gD
          have q1 := V1 _ _ q1
          clear b4 b5 gD V1
          generalize upd M0 rv (.tup vs.reverse) = M1 at b5' q1 ⊢
          -- value[:at] + part + value[at + 1:]
          refine ⟨_, rfl, _, rfl, _, rfl, .inl ⟨a, vs, rfl, b5'.e, fun y1 J1 T1 f1 => ⟨_, rfl, .inl ⟨y1, t2, _, _, rfl, rfl, f1, T1 _ _ b5'.t, big (by have := lc none (some (i : Int)); show _ + 1 ≤ _; omega), fun y2 J2 T2 f2 =>
            ⟨_, rfl, _, rfl, _, _, rfl, rfl, ((i + 1 : Nat) : Int), rfl, .inl ⟨a, vs, rfl, T2 _ _ (T1 _ _ b5'.e), fun y3 J3 T3 f3 => .inl ⟨y2, y3, _, _, rfl, rfl, T3 _ _ f2, f3, big (by rw [List.length_append]; have := lc none (some (i : Int)); have := lc (some ((i + 1 : Nat) : Int)) none; show _ + 1 + _ ≤ _; omega), fun y5 J4 T4 f4 => ?_⟩⟩⟩⟩⟩⟩⟩
          have W1 := T1.trans (T2.trans (T3.trans T4))
          have b6 := b5'.same W1
          have gE : Gd p (2 * n + 1) (3 * wn + 200) (k + 4) J4 (.ref y5) := by
            rw [cutV_take, cutV_drop] at f4
            obtain ⟨c1, c2, g1, g2, g3⟩ := E1 b6.d (j := i + 1) (by omega)
            exact gs_tup f4 (tup_np b6.d f4) ((g1.app b6.o.one).app g2) (by rw [List.length_append, List.length_append, List.length_take, List.length_drop]; show _ + 1 + _ ≤ _; omega) (by omega)
          have b6' := b6.add gE
          have q1 := W1 _ _ q1
          clear b5' b6 gE W1
          -- value + value, list(value), value[at:]
          refine ⟨_, rfl, _, rfl, .inl ⟨a, a, _, _, rfl, rfl, b6'.e, b6'.e, big (by omega), fun dd N1 X1 i1 => ?_⟩⟩
          have b7 := b6'.same X1
          have gF : Gd p (2 * n + 1) (3 * wn + 200) (k + 4) N1 (.ref dd) :=
            gs_tup i1 (tup_np b7.d i1) ((K1 b7.d).app (K1 b7.d)) (by rw [List.length_append]; omega) (by omega)
          have b7' := b7.add gF
          have q1 := X1 _ _ q1
          clear b6' b7 gF X1
          refine ⟨_, rfl, .inl ⟨a, vs, rfl, .inr (SqT.of b7'.e), fun lL hlL => ?_⟩⟩
          have V2 := same_new (o := .lst vs) hlL
          have b8 := b7'.same V2
          have gG : Gd p (2 * n + 1) (3 * wn + 200) (k + 4) (upd N1 lL (.lst vs)) (.ref lL) :=
            gs_lst upd_same (b7'.d.ne hlL) (K1 b8.d) (by omega) (by omega)
          have b8' := b8.add gG
          have q1 := V2 _ _ q1
          clear b7' b8 gG V2
          generalize upd N1 lL (.lst vs) = N2 at b8' q1 ⊢
          refine ⟨_, rfl, _, rfl, _, rfl, .inl ⟨a, vs, rfl, b8'.e, fun dr N3 X2 i2 => ?_⟩⟩
          have b9 := b8'.same X2
          have gI : Gd p (2 * n + 1) (3 * wn + 200) (k + 4) N3 (.ref dr) := by
            rw [cutV_drop] at i2
            exact gs_tup i2 (tup_np b9.d i2) ((K1 b9.d).dp i) (by rw [List.length_drop]; omega) (by omega)
          have b9' := b9.add gI
          have q1 := X2 _ _ q1
          clear b8' b9 gI X2
          refine ⟨(by show 5 ≤ sizeLine; decide), fun l2 hl2 => ?_⟩
          have S9 := same_new (o := .lst [.ref rv, .ref y5, .ref dd, .ref lL, .ref dr]) hl2
          have c1 := b9'.same S9
          have e9 := S9 _ _ q1
          have e92 : upd N3 l2 (.lst [.ref rv, .ref y5, .ref dd, .ref lL, .ref dr]) l2 = some (.lst [.ref rv, .ref y5, .ref dd, .ref lL, .ref dr]) := upd_same
          generalize upd N3 l2 (.lst [.ref rv, .ref y5, .ref dd, .ref lL, .ref dr]) = N4 at c1 e9 e92 ⊢
          clear b9' S9 q1
          refine ⟨_, _, _, _, rfl, rfl, e9, e92, (by show 3 + 5 ≤ sizeLine; decide), fun l3 hl3 => ?_⟩
          have c2 := c1.same (same_new (o := .lst ([.ref x3, .ref y4, .ref z5] ++ [.ref rv, .ref y5, .ref dd, .ref lL, .ref dr])) hl3)
          have p3 := c1.d.ne hl3
          refine ⟨_, rfl, _, rfl, p, _, 8, rfl, c2.d.s, by omega, by decide, by decide, fun r9 o9 r90 r91 hp9 => ?_⟩
          have d11 := c2.d.src hp9
          obtain ⟨y, hy, my, _⟩ := at_ok (xs := [V.ref x3, V.ref y4, V.ref z5] ++ [V.ref rv, V.ref y5, V.ref dd, V.ref lL, V.ref dr]) r90 r91
          refine ⟨l3, _, r9, y, rfl, rfl, SqL.of (by rw [upd_ne p3]; exact upd_same), hy, q y _ ?_ (d11.up (by omega))⟩
          exact (c2.g y my).del (sd_at (Same.refl _))
        · refine ⟨_, rfl, Nat.zero_le _, fun t ht0 => ⟨.tuple ds, .tuple [], (D.same d1.m).same ?_, .tup upd_same .nil, pl, rfl, dpd, ?_⟩⟩
          · exact same_off.trans (same_new ht0)
          refine ⟨_, rfl, ?_⟩
          show if (!PyData.eqv (.tuple ds) (.tuple [])) = true then _ else _
          have d2 := d1.new (o := .tup []) ht0
          by_cases hnil : ds = []
          · rw [if_neg (by rw [hnil]; decide)]
            exact k' _ (d2.up (by omega))
          rw [if_pos (by cases ds with
            | nil => exact absurd rfl hnil
            | cons x y => rfl)]
          refine ⟨_, rfl, p, _, 3, rfl, d2.s, by omega, by decide, by decide, fun r2 o2 r20 r21 hp2 => ?_⟩
          refine ⟨_, _, rfl, rfl, _, rfl, ?_⟩
          have d3 := d2.src hp2
          generalize upd (upd G1 t (.tup [])) p o2 = G3 at d3 ⊢
          generalize decide ((0 : Int) < r2) = bb
          cases bb with
          | false => exact k' _ (d3.up (by omega))
          | true =>
          show if true = true then _ else _
          rw [if_pos rfl]
          have lp : 0 < ds.length := List.length_pos_iff.mpr hnil
          refine ⟨_, rfl, _, rfl, _, vs.length, rfl, .inr ⟨vs, SqT.of (d3.keep eH na), rfl⟩, p, _, _, rfl, d3.s, by omega, by omega, by omega, fun r3 o3 r30 r31 hp3 => ?_⟩
          have d4 := d3.src hp3
          obtain ⟨i, rfl⟩ : ∃ i : Nat, r3 = (i : Int) := ⟨r3.toNat, by omega⟩
          have il : i < ds.length := by omega
          generalize upd G3 p o3 = G4 at d4 ⊢
          clear d3 d2 d1 D1 hp1 hp2 hp3 k'
          obtain ⟨x, hx, mx, hxi⟩ := at_ok (xs := vs) r30 (by omega)
          rw [Int.toNat_natCast] at hxi
          obtain ⟨dx, hdx, Dx⟩ := dats_get' Ds i x hxi
          have md : dx ∈ ds := List.mem_of_getElem? hdx
          have fx := fp dx md
          obtain ⟨deep, rfl⟩ : ∃ e, deep = e + 1 := ⟨deep - 1, by omega⟩
          refine ⟨_, rfl, _, rfl, _, rfl, .inl ⟨a, vs, rfl, d4.keep eH na, fun t1 H1 S1 e1 => ?_⟩⟩
          have d5 := d4.same S1
          refine ⟨_, rfl, _, rfl, _, rfl, a, vs, _, x, rfl, rfl, SqT.of (d5.keep eH na), hx, _, rfl, _, _, rfl, rfl, p, x, _, n, wt dx, k, deep, dx, ?_, by omega, d5.s, by omega, Dx.same d5.m, ⟨fx.s, Nat.le_refl _, fx.dp, fx.l⟩, tsbs_mem htb dx md, hn, hn2, by omega, fun r H2 gr dr => ?_⟩
          · have e : (((deep + 1 : Nat) : Int) - 1) = ((deep : Nat) : Int) := by omega
            show [V.ref p, x, V.int (((deep + 1 : Nat) : Int) - 1)] = _
            rw [e]
          refine ⟨s1, fun t2 ht2 => ?_⟩
          have d6 : Dr H p (c + 10 * (m + 1)) H2 := ⟨dr.s.mono rfl (by omega), d5.m.trans dr.m⟩
          have e6 := dr.keep e1 (tup_np d5 e1)
          have S6 := same_new (o := .tup [r]) ht2
          have d7 := d6.same S6
          have e7 := S6 _ _ e6
          have g7 := gr.same S6
          have f7 : upd H2 t2 (.tup [r]) t2 = some (.tup [r]) := upd_same
          generalize upd H2 t2 (.tup [r]) = H3 at d7 e7 g7 f7 ⊢
          refine .inl ⟨t1, t2, _, _, rfl, rfl, e7, f7, big (by have := cutV_le vs none (some (i : Int)); show _ + 1 ≤ _; omega), fun t3 H4 S4 e4 => ?_⟩
          refine ⟨_, rfl, _, rfl, _, _, rfl, rfl, ((i + 1 : Nat) : Int), rfl, .inl ⟨a, vs, rfl, (d7.same S4).keep eH na, fun t4 H5 S5 e5 => .inl ⟨t3, t4, _, _, rfl, rfl, S5 _ _ e4, e5, big (by rw [List.length_append]; have := cutV_le vs none (some (i : Int)); have := cutV_le vs (some ((i + 1 : Nat) : Int)) none; show _ + 1 + _ ≤ _; omega), fun t5 H6 S6' e8 => ?_⟩⟩⟩
          have SS := S4.trans (S5.trans S6')
          have d8 := d7.same SS
          rw [cutV_take, cutV_drop] at e8
          obtain ⟨c1, c2, g1, g2, g3⟩ := Gs.hole (i := i) Ds fp hdx
          have U : ∀ {us b}, Gs p n wn k H us b → Gs p (2 * n + 1) (3 * wn + 200) (k + 3) H6 us b := fun g => (g.dl d8.m).up (by omega) (by omega) (by omega) (Nat.le_refl _)
          have wx := wts_mem md
          have go : Gs p (2 * n + 1) (3 * wn + 200) (k + 3) H6 [r] (3 * wt dx + 200 + 2) := ((g7.same SS).one).up (Nat.le_refl _) (by omega) (Nat.le_refl _) (Nat.le_refl _)
          exact q _ _ (gs_tup e8 (tup_np d8 e8) (((U g1).app go).app (U g2)) (by rw [List.length_append, List.length_append, List.length_take, List.length_drop]; show _ + 1 + _ ≤ _; omega) (by omega)) d8
end
end S1

set_option Elab.async false
set_option linter.all false
set_option maxRecDepth 100000
set_option maxHeartbeats 4000000
/-! bent objects at any depth; the last part made other -/
namespace S1
open PySem PySem.W PySem.Spec PyProof.Rows L2
theorem cutV_butlast {xs : List V} (h : xs ≠ []) : cutV xs none (some (-1)) = xs.take (xs.length - 1) := by
  have lp := List.length_pos_iff.mpr h
  unfold cutV
  rw [HT.sIx_none, List.drop_zero, Nat.sub_zero]
  have e : HT.sIx xs.length xs.length (some (-1)) = xs.length - 1 := by
    show (if ((-1 : Int)) < 0 then ((-1 : Int) + (xs.length : Int)).toNat else min (-1 : Int).toNat xs.length) = _
    rw [if_pos (by decide)]
    omega
  rw [e]
theorem atI_last {xs : List V} (h : xs ≠ []) : ∃ v, atI xs (-1) = some v ∧ xs[xs.length - 1]? = some v := by
  have lp := List.length_pos_iff.mpr h
  refine ⟨xs[xs.length - 1], ?_, List.getElem?_eq_getElem (by omega)⟩
  unfold atI
  have e : ixN xs.length (-1) = some (xs.length - 1) := by
    unfold ixN
    rw [if_neg (by decide), if_pos (by omega)]
    congr 1
    omega
  rw [e]
  exact List.getElem?_eq_getElem (by omega)
section
variable {P : Program} {w : World} {K : PySem.W.Frag} {mg : Str → Option Value} {base : Heap}
theorem ok_bent0 {f : Addr} {fd : FuncData} (Be : Has K mg "_law_bent" sBent ["source", "value", "deep"] f fd) (j : Nat) : FnOk P w K mg base CX0 (j + 1) f fd ["source", "value", "deep"] (spBent 0) := by
  refine Be.F.ok scBent (fun vs H Q E h => ?_) (fun cdv A outer s H vs Q E hr h => ?_)
  · obtain ⟨p, v, c, n, w, k, deep, d, rfl, hd, _⟩ := h
    omega
  · obtain ⟨p, v, c, n, w, k, deep, d, rfl, hd, _⟩ := h
    omega
theorem ok_bent {f fP fO : Addr} {fd fdP fdO : FuncData} (Be : Has K mg "_law_bent" sBent ["source", "value", "deep"] f fd) (Pk : Has K mg "_law_pick" sPick ["source", "top"] fP fdP) (Od : Has K mg "_law_odd" sOdd ["source", "value"] fO fdO) (B : Blt mg) : ∀ m : Nat, FnOk P w K mg base CX0 (3 + m) f fd ["source", "value", "deep"] (spBent m)
  | 0 => ok_bent0 Be 2
  | m + 1 => by
    have h := ok_bent1 (m := m) Be Pk Od B (ok_bent Be Pk Od B m)
    have e : 3 + (m + 1) = 4 + m := by omega
    rw [e]
    exact h
/-! ### the last part -/
def spLast (m : Nat) : Sp := fun vs H Q _ => ∃ (v : V) (n w k : Nat) (d : PyData), vs = [v] ∧ Dat H v d ∧ Fit n w k d ∧ tsb d = true ∧ k < m ∧ k ≤ 6 ∧ 1 ≤ n ∧ n ≤ 1000 ∧
  ∀ (r : V) (d' : PyData) (H' : Hp), Same H H' → Dat H' r d' → Fit n (w + 10) (k + 1) d' → Q r H'
theorem scLast : FnScope ["value"] ["value"] (defScope sLast) := ⟨rfl, rfl, rfl, by decide +kernel, rfl, by decide +kernel, by decide +kernel⟩
theorem ok_last0 {f : Addr} {fd : FuncData} (La : Has K mg "_law_last" sLast ["value"] f fd) (j : Nat) : FnOk P w K mg base CX0 (j + 1) f fd ["value"] (spLast 0) := by
  refine La.F.ok scLast (fun vs H Q E h => ?_) (fun cdv A outer s H vs Q E hr h => ?_)
  · obtain ⟨v, n, w, k, d, rfl, _, _, _, hd, _⟩ := h
    omega
  · obtain ⟨v, n, w, k, d, rfl, _, _, _, hd, _⟩ := h
    omega
theorem ok_last1 {m : Nat} {f : Addr} {fd : FuncData} (La : Has K mg "_law_last" sLast ["value"] f fd) (B : Blt mg) (GL : FnOk P w K mg base CX0 (1 + m) f fd ["value"] (spLast m)) : FnOk P w K mg base CX0 (1 + m + 1) f fd ["value"] (spLast (m + 1)) := by
  refine La.F.ok scLast (fun vs H Q E h => ?_) (fun cdv A outer s H vs Q E hr h => ?_)
  · obtain ⟨v, n, w, k, d, rfl, _⟩ := h
    rfl
  · obtain ⟨v, n, wn, k, d, rfl, D, ft, ht, hk, hk6, hn, hn2, q⟩ := h
    have hu : (A.deeper (envOfC "_law_last" (defScope sLast) s.heap.objs.size f cdv)).units + 64 < cLine := hr.units
    refine ⟨_, pss_cons (ps_if (PW.pt (pw_and (pt_val (pe_callB call_isi (by rfl) B.isi (by decide +kernel) (pa_cons (pv 0) (pa_cons (pe_bltn (v := V.ty "tuple") (by rfl) B.tuple (by decide +kernel) rfl) pa_nil))))
            (pw_and1 (pt_cmpR (op_neP (by exact hu)) (pv 0) (pe_tup pa_nil) (nomark _)))))
        (pss_one (ps_ret (pe_op op_catW (pe_slice sl_tupW (pv 0) po_none (po_some (pe_un un_neg pe_int))) (pe_tup (pa_cons (pe_call GL hr rfl La.g La.F.kp La.b .nil pass0 (pa_cons (pe_ix ix_tup (pv 0) (pe_un un_neg pe_int) (fun _ _ => rfl)) pa_nil)) pa_nil)))))
        pss_nil)
      (pss_one (ps_ret (pe_ifExp (pt_val (pe_callB call_isi (by rfl) B.isi (by decide +kernel) (pa_cons (pv 0) (pa_cons (pe_bltn (v := V.ty "bool") (by rfl) B.bool (by decide +kernel) rfl) pa_nil))))
        (pe_callTy call_int1 (by rfl) B.int (by decide +kernel) (pa_cons (pv 0) pa_nil)) (pe_tup (pa_cons pe_non pa_nil))))), ?_⟩
    have s1 : 1 ≤ sizeLine := by decide
    have wnon : wt .none = 4 := by rw [wt]; decide
    cases d with
    | none => simp [tsb] at ht
    | int _ => simp [tsb] at ht
    | list _ => simp [tsb] at ht
    | dict _ => simp [tsb] at ht
    | bool b =>
      cases D
      refine ⟨_, rfl, _, _, _, _, false, rfl, .ty _, .base (.bl b), kit_ty (by decide +kernel), false, rfl, ?_⟩
      show if false = true then _ else _
      rw [if_neg (by decide)]
      show if false = true then _ else _
      rw [if_neg (by decide)]
      refine ⟨_, rfl, _, _, _, _, true, rfl, .ty _, .base (.bl b), kit_ty (by decide +kernel), true, rfl, ?_⟩
      show if true = true then _ else _
      rw [if_pos rfl]
      exact ⟨_, rfl, .inr ⟨b, rfl, q _ _ _ (Same.refl _) (.int _) (Fit.num (by cases b <;> simp) (by omega))⟩⟩
    | str x =>
      cases D
      refine ⟨_, rfl, _, _, _, _, false, rfl, .ty _, .base (.str x), kit_ty (by decide +kernel), false, rfl, ?_⟩
      show if false = true then _ else _
      rw [if_neg (by decide)]
      show if false = true then _ else _
      rw [if_neg (by decide)]
      refine ⟨_, rfl, _, _, _, _, false, rfl, .ty _, .base (.str x), kit_ty (by decide +kernel), false, rfl, ?_⟩
      show if false = true then _ else _
      rw [if_neg (by decide)]
      exact ⟨s1, fun t ht => q _ _ _ (same_new ht) (.tup upd_same (.cons .non .nil)) (Fit.tup (w := 4) (k := k) (pcons (Fit.non (Nat.le_refl _)) pnil) hn (by rw [wts, wts, wnon]; omega))⟩
    | tuple ds =>
      obtain ⟨a, vs, rfl, ea, Ds⟩ := dat_tup D
      have lv : vs.length = ds.length := Ds.len
      obtain ⟨k, rfl⟩ : ∃ k', k = k' + 1 := ⟨k - 1, by have y := ft.dp; simp only [PyData.depth] at y; omega⟩
      have fp : ∀ d ∈ ds, Fit n wn k d := fun d hd => ft.part hd
      have wz : 3 + wts ds ≤ wn := by have y := ft.z; rwa [wt] at y
      have ln : ds.length ≤ n := by
        have y := ft.l
        rw [limN, Bool.and_eq_true, decide_eq_true_eq] at y
        exact y.1
      have pl := tsb_plain _ ht
      have dpd : (PyData.tuple ds).depth ≤ 8 := Nat.le_trans ft.dp (by omega)
      have htb : tsbs ds = true := by rwa [tsb] at ht
      refine ⟨_, rfl, _, _, _, _, true, rfl, .ty _, .base (.tup ea), kit_ty (by decide +kernel), true, rfl, ?_⟩
      show if true = true then _ else _
      rw [if_pos rfl]
      refine ⟨_, rfl, Nat.zero_le _, fun t ht0 => ⟨.tuple ds, .tuple [], D.same (same_new ht0), .tup upd_same .nil, pl, rfl, dpd, ?_⟩⟩
      refine ⟨_, rfl, ?_⟩
      show if (!PyData.eqv (.tuple ds) (.tuple [])) = true then _ else _
      have S1 := same_new (o := .tup []) ht0
      have e1 := S1 _ _ ea
      generalize upd H t (.tup []) = H1 at S1 e1 ⊢
      by_cases hnil : ds = []
      · rw [if_neg (by rw [hnil]; decide)]
        refine ⟨_, rfl, _, _, _, _, false, rfl, .ty _, .base (.tup e1), kit_ty (by decide +kernel), false, rfl, ?_⟩
        show if false = true then _ else _
        rw [if_neg (by decide)]
        exact ⟨s1, fun t ht => q _ _ _ (S1.trans (same_new ht)) (.tup upd_same (.cons .non .nil)) (Fit.tup (w := 4) (k := k + 1) (pcons (Fit.non (Nat.le_refl _)) pnil) hn (by rw [wts, wts, wnon]; omega))⟩
      rw [if_pos (by cases ds with
        | nil => exact absurd rfl hnil
        | cons x y => rfl)]
      have lp : 0 < ds.length := List.length_pos_iff.mpr hnil
      have vnil : vs ≠ [] := fun z => by rw [z] at lv; simp at lv; omega
      obtain ⟨x, hx, hxi⟩ := atI_last vnil
      obtain ⟨dx, hdx, Dx⟩ := dats_get' Ds _ x hxi
      have md : dx ∈ ds := List.mem_of_getElem? hdx
      have fx := fp dx md
      have wx := wts_mem md
      refine ⟨_, rfl, _, rfl, _, rfl, a, vs, rfl, e1, fun t1 H2 S2 e2 => ?_⟩
      refine ⟨_, rfl, _, rfl, a, vs, _, x, rfl, rfl, SqT.of (S2 _ _ e1), hx, ?_⟩
      refine ⟨x, n, wt dx, k, dx, rfl, (Dx.same S1).same S2, ⟨fx.s, Nat.le_refl _, fx.dp, fx.l⟩, tsbs_mem htb dx md, by omega, by omega, hn, hn2, fun r d' H3 S3 Dr fr => ?_⟩
      refine ⟨s1, fun t2 ht2 => ?_⟩
      have S4 := same_new (o := .tup [r]) ht2
      refine ⟨t1, t2, _, _, rfl, rfl, S4 _ _ (S3 _ _ e2), upd_same, ?_, fun t3 H5 S5 e5 => ?_⟩
      · have := cutV_le vs none (some (-1))
        refine Nat.le_trans ?_ (show 2000 ≤ sizeLine by decide)
        show _ + 1 ≤ _
        omega
      have SS := S1.trans (S2.trans (S3.trans (S4.trans S5)))
      rw [cutV_butlast vnil] at e5
      have hd2 : ds.take (ds.length - 1 + 1) = ds.take (ds.length - 1) ++ [dx] := by rw [List.take_add_one, show ds[ds.length - 1]? = some dx by rw [← lv]; exact hdx]; rfl
      rw [Nat.sub_add_cancel (by omega), List.take_length] at hd2
      have hw2 : wts ds = wts (ds.take (ds.length - 1)) + (wt dx + 2 + 0) := by conv => lhs; rw [hd2, wts_append, wts, wts]
      have fz := fr.z
      refine q _ (.tuple (ds.take (ds.length - 1) ++ [d'])) _ SS (.tup e5 (_root_.S1.DatAll.app (by rw [lv]; exact _root_.S1.DatAll.tk _ (Ds.same SS)) (.cons ((Dr.same S4).same S5) .nil))) (Fit.tup (w := wn + 10) (fun e he => ?_) ?_ ?_)
      · rcases List.mem_append.mp he with z | z
        · exact (fp e (List.mem_of_mem_take z)).up (fun h => h) (by omega) (by omega)
        · cases List.mem_singleton.mp z
          exact fr.up (fun h => h) (by omega) (Nat.le_refl _)
      · rw [List.length_append, List.length_take]
        show _ + 1 ≤ _
        omega
      · rw [wts_append, wts, wts]
        omega
theorem ok_last {f : Addr} {fd : FuncData} (La : Has K mg "_law_last" sLast ["value"] f fd) (B : Blt mg) : ∀ m : Nat, FnOk P w K mg base CX0 (1 + m) f fd ["value"] (spLast m)
  | 0 => ok_last0 La 0
  | m + 1 => ok_last1 La B (ok_last La B m)
end
end S1

set_option Elab.async false
set_option linter.all false
set_option maxRecDepth 100000
set_option maxHeartbeats 4000000
/-! sorted(tuple of texts); how great sayings are -/
namespace S1
open PySem PySem.W PySem.Spec PyProof.Rows L2
section
variable {X : Cx}
def rSortWT (K : PySem.W.Frag) : List V → Hp → VK → Prop := fun vs H Q => ∃ (l : Addr) (xs : List Str), vs = [V.ref l] ∧ SqT K H l (xs.map V.str) ∧
  ∀ (ys : List Str) (b : Addr), ys.Perm xs → H b = none → Q (.ref b) (upd H b (.lst (ys.map V.str)))
theorem cr_sortWT (hu : X.A.units + 64 < cLine) : CallR X (.builtin "sorted") (rSortWT X.K) := by
  intro pins s σ H vs us Q I r h
  obtain ⟨l, xs, rfl, hl, q⟩ := h
  rw [Vals.ref1 r]
  obtain ⟨its, rv, pl, hz⟩ := I.tuple hl
  have e0 := each_strs rv
  have hzl : its.length ≤ sizeLine := by
    rw [List.length_map] at hz
    rw [e0.length]
    exact hz
  obtain ⟨o, ho, hc, n, hdd⟩ := pl
  refine Calls.call_function_entry PyProof.Rows.kind_sorted PyProof.Rows.plain_sorted PyProof.Rows.entry_sorted (PyProof.Rows.args_sorted1 _) ?_
  unfold Builtin.«sorted»
  refine wpAny_bind (m := checkCount "sorted" 1 1 _) (wpAny_pure ?_)
  refine wpAny_bind (wpAny_collect_seq l (.inr rfl) ho hc hdd (fun h' hk => ?_) (by rw [List.size_toArray]; exact hzl))
  have I1 : Inv X pins σ H { s with heap := h' } := I.kept (t' := s.toks) hk
  refine wpAny_bind (wpAny_newList ?_ (by exact hzl))
  have hoL : (h'.push (seqObj "list" its.toArray 0)).get? h'.objs.size = some (seqObj "list" its.toArray 0) := Heap.get?_push_size _ rfl
  show wpAny _ _ _ _ _ { s with heap := h'.push (seqObj "list" its.toArray 0) }
  have old : ∀ {b : Addr} {u : Obj}, h'.get? b = some u → (h'.push (seqObj "list" its.toArray 0)).get? b = some u := fun e => Heap.get?_push_of_some _ e
  have rd := each_reads (h := sortingHeap (h'.push (seqObj "list" its.toArray 0)) h'.objs.size its) e0
  have al : AllAlike (xs.map PyData.str) := AllAlike.of fun b b' => by simp [alike]
  have un : ∀ d, d ∈ xs.map PyData.str → X.A.in1.in1.units + d.depth < cLine := fun d z => by
    obtain ⟨p, _, rfl⟩ := List.mem_map.mp z
    simp only [Around.in1_units, PyData.depth]
    omega
  have srt := SortsAt.data (prog := X.prog) (w := X.w) (A := X.A.in1.in1) (s := { s with heap := sortingHeap (h'.push (seqObj "list" its.toArray 0)) h'.objs.size its }) (each_map (R := fun v d => ∃ as, Reads _ v d as) PyData.str rd) al
    (Sortable.others fun b => ⟨fun z => (nomatch z), fun _ z => (nomatch z)⟩) un
  have out := strs_each (sortVals_data (R := RS) (enc := PyData.str) false e0 rd al)
  refine wpAny_bind (wpAny_holding (wpAny_call_entry PyProof.Rows.slot_list_sort ⟨_, hoL, rfl⟩ PyProof.Rows.entry_list_sort
    (list_sort_vals (s := { s with heap := h'.push (seqObj "list" its.toArray 0) }) hoL srt hzl ⟨_, rfl, ?_⟩) (PyProof.Rows.args_list_sort _)))
  obtain ⟨e', he'⟩ := PyProof.Rows.sortedHeap_at (vs := its) (out := (sortVals (dataKind (sortingHeap (h'.push (seqObj "list" its.toArray 0)) h'.objs.size its) (xs.map PyData.str)) false its its).toArray) hoL
  have pm : (sortW xs).Perm xs := List.mergeSort_perm _ _
  refine wpAny_pure ⟨_, rfl, .ref h'.objs.size, upd H h'.objs.size (.lst ((sortW xs).map V.str)), I1.laid (t' := s.toks) (fun b u e => ?_) (Nat.le_refl _)
    ⟨by rw [List.length_map, pm.length_eq]; rw [List.length_map] at hz; exact hz, _, e', out, he'⟩, rfl, q (sortW xs) _ pm (I1.hok.fresh (Nat.le_refl _))⟩
  have hb : b < h'.objs.size := Heap.lt_size e
  rw [PyProof.Rows.sortedHeap_old (Nat.ne_of_lt hb) (by rw [size_push']; exact Nat.lt_succ_of_lt hb)]
  exact old e
end
/-! ### how great they are -/
theorem wts_map_mem {α : Type} (f : α → PyData) (b : Nat) : ∀ l : List α, (∀ x ∈ l, wt (f x) ≤ b) → wts (l.map f) ≤ l.length * (b + 2)
  | [], _ => by rw [List.map_nil, wts]; exact Nat.zero_le _
  | x :: l, h => by
    have h1 := h x List.mem_cons_self
    have h2 := wts_map_mem f b l fun y hy => h y (List.mem_cons_of_mem _ hy)
    rw [List.map_cons, wts, List.length_cons, Nat.succ_mul]
    omega
theorem Fit.maps {α : Type} {f : α → PyData} {l : List α} {n b k m w : Nat} (h : ∀ x ∈ l, Fit n b k (f x)) (hl : l.length ≤ m) (hm : m ≤ n) (hw : 3 + m * (b + 2) ≤ w) : Fit n w (k + 1) (.tuple (l.map f)) := by
  refine Fit.tup (w := b) (fun d hd => ?_) (by rw [List.length_map]; omega) ?_
  · obtain ⟨x, hx, rfl⟩ := List.mem_map.mp hd
    exact h x hx
  · have z := wts_map_mem f b l fun x hx => (h x hx).z
    have z2 := Nat.mul_le_mul_right (b + 2) hl
    omega
theorem Fit.to {n w k n' w' k' : Nat} {d : PyData} (h : Fit n w k d) (hn : n ≤ n' := by omega) (hw : w ≤ w' := by omega) (hk : k ≤ k' := by omega) : Fit n' w' k' d := h.up (limN_mono hn d) hw hk
theorem nm_low {x : Str} (h : Nm x) : lowS x := fun c hc => by have := (h.az c hc).2; omega
theorem fit_nm {x : Str} {k : Nat} (h : Nm x) : Fit 100 82 k (.str x) := Fit.str (by have := h.hi; omega) (lowS_all (nm_low h)) (by have := h.hi; omega)
theorem fit_nms {xs : List Str} {m w : Nat} (h : ∀ x ∈ xs, Nm x) (hl : xs.length ≤ m) (hm : m ≤ 100) (hw : 3 + m * 84 ≤ w) : Fit 100 w 1 (nmsD xs) := Fit.maps (fun x hx => fit_nm (h x hx)) hl hm hw
theorem fit_own {o : Own} (h1 : Nm o.1) (h2 : ∀ x ∈ o.2, Nm x) (h3 : o.2.length ≤ 6) : Fit 100 600 2 (ownD o) := by
  have a := fit_nms (w := 507) h2 h3 (by decide) (by decide)
  have b := fit_nm (k := 1) h1
  refine Fit.tup (w := 507) (pcons b.to (pcons a.to pnil)) (by show 2 ≤ 100; decide) ?_
  rw [wts, wts, wts]
  have := a.z
  have := b.z
  omega
theorem fit_lt {l : Ltr} (h : Nm l.1) : Fit 100 100 1 (ltD l) := by
  have b := fit_nm (k := 0) h
  have c : Fit 100 5 0 (.bool l.2) := Fit.bl _ (Nat.le_refl _)
  refine Fit.tup (w := 82) (pcons b.to (pcons c.to pnil)) (by show 2 ≤ 100; decide) ?_
  rw [wts, wts, wts]
  have := b.z
  have := c.z
  omega
theorem fit_cl {cl : List Ltr} (h : ∀ l ∈ cl, Nm l.1) (hl : cl.length ≤ 15) : Fit 100 1600 2 (clD cl) := Fit.maps (fun x hx => fit_lt (h x hx)) hl (by decide) (by decide)
theorem fit_row {bs : List Bool} {m w : Nat} (hl : bs.length ≤ m) (hm : m ≤ 100) (hw : 3 + m * 7 ≤ w) : Fit 100 w 1 (blsD bs) := Fit.maps (fun x hx => Fit.bl (k := 0) x (Nat.le_refl 5)) hl hm hw
theorem fit_ans {an : List Tbl} (hl : an.length ≤ 8) (ht : ∀ t ∈ an, t.length ≤ 100) : Fit 100 6000 2 (ansT an) := Fit.maps (fun x hx => fit_row (m := 100) (w := 703) (ht x hx) (by decide) (by decide)) hl (by decide) (by decide)
theorem fit3 {a b c : PyData} {w1 w2 w3 w : Nat} (h1 : Fit 100 w1 3 a) (h2 : Fit 100 w2 3 b) (h3 : Fit 100 w3 3 c) (hw : 9 + w1 + w2 + w3 ≤ w) : Fit 100 w 4 (.tuple [a, b, c]) := by
  refine Fit.tup (w := w1 + w2 + w3) (pcons h1.to (pcons h2.to (pcons h3.to pnil))) (by show 3 ≤ 100; decide) ?_
  rw [wts, wts, wts, wts]
  have := h1.z
  have := h2.z
  have := h3.z
  omega
theorem fit_say {s : Say} (ok : SayOk 6 8 120 40 s) : Fit 100 600 3 (nmsD s.picks) ∧ Fit 100 6000 3 (.tuple (s.owns.map ownD)) ∧ Fit 100 64200 3 (.tuple (s.cls.map clD)) := by
  have nl := ok.nlen
  refine ⟨(fit_nms (m := 6) (w := 507) ok.pn ok.pl (by decide) (by decide)).to, ?_, ?_⟩
  · exact Fit.maps (fun o ho => fit_own (ok.on o ho).1 (fun x hx => ok.pn x ((ok.on o ho).2.2.2 x hx)) (sight_le ok ho)) ok.ol (by decide) (by decide)
  · exact Fit.maps (fun cl hc => fit_cl (fun l hl => ok.nm _ ((ok.ck cl hc).mem l hl)) (Nat.le_trans (cl_len (ok.ck cl hc)) (by omega))) ok.cl (by decide) (by decide)
theorem tsb_nms (xs : List Str) : tsb (nmsD xs) = true := by rw [nmsD, tsb]; exact tsbs_map _ (fun _ => by rw [tsb]) xs
theorem tsb_own (o : Own) : tsb (ownD o) = true := by rw [ownD, tsb, tsbs, tsbs, tsbs, tsb_nms, tsb]; rfl
theorem tsb_cl (cl : List Ltr) : tsb (clD cl) = true := by
  rw [clD, tsb]
  exact tsbs_map _ (fun l => by rw [ltD, tsb, tsbs, tsbs, tsbs, tsb, tsb]; rfl) cl
theorem tsb_say (s : Say) : tsb s.d = true := by
  rw [Say.d, tsb, tsbs, tsbs, tsbs, tsbs, tsb_nms, tsb, tsb, tsbs_map _ tsb_own, tsbs_map _ tsb_cl]
  rfl
theorem tsb_row (bs : List Bool) : tsb (blsD bs) = true := by rw [blsD, tsb]; exact tsbs_map _ (fun _ => by rw [tsb]) bs
theorem tsb_ans (an : List Tbl) : tsb (ansT an) = true := by rw [ansT, tsb]; exact tsbs_map _ tsb_row an
theorem keyable_cls (cls : List (List Ltr)) : keyable (.tuple (cls.map clD)) = true := keyables_map clD keyable_cl cls
theorem keyable_say (s : Say) : keyable s.d = true := by
  show (keyable (nmsD s.picks) && (keyable (.tuple (s.owns.map ownD)) && (keyable (.tuple (s.cls.map clD)) && true))) = true
  rw [keyable_nms, keyable_cls, show keyable (.tuple (s.owns.map ownD)) = true from keyables_map ownD keyable_own s.owns]
  rfl
mutual
theorem lim_limN {n : Nat} (h : n ≤ 1000) : ∀ d : PyData, limN n d = true → lim d = true
  | .list ds, t => by
    rw [limN, Bool.and_eq_true, decide_eq_true_eq] at t
    rw [lim, lims_limNs h ds t.2, decide_eq_true (Nat.le_trans t.1 h)]
    rfl
  | .tuple ds, t => by
    rw [limN, Bool.and_eq_true, decide_eq_true_eq] at t
    rw [lim, lims_limNs h ds t.2, decide_eq_true (Nat.le_trans t.1 h)]
    rfl
  | .str x, t => by
    rw [limN, Bool.and_eq_true, decide_eq_true_eq] at t
    rw [lim]
    exact decide_eq_true (Nat.le_trans t.1 h)
  | .none, _ => by simp [lim]
  | .bool _, _ => by simp [lim]
  | .int _, _ => by simp [lim]
  | .dict _, _ => by simp [lim]
theorem lims_limNs {n : Nat} (h : n ≤ 1000) : ∀ ds : List PyData, limNs n ds = true → lims ds = true
  | [], _ => rfl
  | d :: ds, t => by
    rw [limNs, Bool.and_eq_true] at t
    rw [lims, lim_limN h d t.1, lims_limNs h ds t.2]
    rfl
end
end S1

set_option Elab.async false
set_option linter.all false
set_option maxRecDepth 100000
set_option maxHeartbeats 4000000
/-! sorted(tuple) of tuples of any lengths -/
namespace L2
open PySem PySem.W PySem.Spec PyProof.Rows
section
variable {X : Cx}
def rSortLT (K : PySem.W.Frag) : List V → Hp → VK → Prop := fun vs H Q => ∃ (l : Addr) (T : List TRow), vs = [V.ref l] ∧ SqT K H l (T.map TRow.v) ∧ (∀ p ∈ T, Dat H p.v p.2) ∧ Sorty T ∧
  ∀ (T' : List TRow) (b : Addr), T'.Perm T → (T'.Pairwise fun p q => dataLt q.2 p.2 = false) → ((T.map Prod.snd).Nodup → T'.Pairwise fun p q => dataLt p.2 q.2 = true) → H b = none → Q (.ref b) (upd H b (.lst (T'.map TRow.v)))
theorem cr_sortLT (hu : X.A.units + 64 < cLine) : CallR X (.builtin "sorted") (rSortLT X.K) := by
  intro pins s σ H vs us Q I r h
  obtain ⟨l, T, rfl, hl, hd, so, q⟩ := h
  rw [Vals.ref1 r]
  obtain ⟨its, rv, pl, hz⟩ := I.tuple hl
  have e1 : its = T.map TRow.r := vals_rows rv
  subst e1
  have hzl : (T.map TRow.r).length ≤ sizeLine := by
    rw [List.length_map] at hz ⊢
    exact hz
  obtain ⟨o, ho, hc, n, hdd⟩ := pl
  refine Calls.call_function_entry PyProof.Rows.kind_sorted PyProof.Rows.plain_sorted PyProof.Rows.entry_sorted (PyProof.Rows.args_sorted1 _) ?_
  unfold Builtin.«sorted»
  refine wpAny_bind (m := checkCount "sorted" 1 1 _) (wpAny_pure ?_)
  refine wpAny_bind (wpAny_collect_seq l (.inr rfl) ho hc hdd (fun h' hk => ?_) (by rw [List.size_toArray]; exact hzl))
  have I1 : Inv X pins σ H { s with heap := h' } := I.kept (t' := s.toks) hk
  refine wpAny_bind (wpAny_newList ?_ (by exact hzl))
  have hoL : (h'.push (seqObj "list" (T.map TRow.r).toArray 0)).get? h'.objs.size = some (seqObj "list" (T.map TRow.r).toArray 0) := Heap.get?_push_size _ rfl
  show wpAny _ _ _ _ _ { s with heap := h'.push (seqObj "list" (T.map TRow.r).toArray 0) }
  have old : ∀ {b : Addr} {u : Obj}, h'.get? b = some u → (h'.push (seqObj "list" (T.map TRow.r).toArray 0)).get? b = some u := fun e => Heap.get?_push_of_some _ e
  have rd : EachIs (fun v p => ∃ as, Reads (sortingHeap (h'.push (seqObj "list" (T.map TRow.r).toArray 0)) h'.objs.size (T.map TRow.r)) v p.2 as) (T.map TRow.r) T :=
    each_rows T fun p hp => by
      obtain ⟨as, z⟩ := I1.reads (hd p hp)
      exact ⟨as, PyProof.Rows.Reads.keeps (fun b u e => sortingHeap_old (Nat.ne_of_lt (Heap.lt_size e)) (old e)) z⟩
  have tp : ∀ d ∈ T.map Prod.snd, ∃ xs, d = PyData.tuple xs := fun d z => by
    obtain ⟨p, hp, rfl⟩ := List.mem_map.mp z
    exact so.tup p hp
  have un : ∀ d, d ∈ T.map Prod.snd → X.A.in1.in1.units + d.depth < cLine := fun d z => by
    obtain ⟨p, hp, rfl⟩ := List.mem_map.mp z
    have z := so.deep p hp
    simp only [Around.in1_units]
    omega
  have srt := sortsAt_tups (prog := X.prog) (w := X.w) (A := X.A.in1.in1) (s := { s with heap := sortingHeap (h'.push (seqObj "list" (T.map TRow.r).toArray 0)) h'.objs.size (T.map TRow.r) }) (each_map (R := fun v d => ∃ as, Reads _ v d as) Prod.snd rd) so.alike tp un
  have out := rows_each (sortVals_data (R := fun v p => v = TRow.r p) (enc := Prod.snd) false (each_rows T fun p _ => rfl) rd so.alike)
  refine wpAny_bind (wpAny_holding (wpAny_call_entry PyProof.Rows.slot_list_sort ⟨_, hoL, rfl⟩ PyProof.Rows.entry_list_sort
    (list_sort_vals (s := { s with heap := h'.push (seqObj "list" (T.map TRow.r).toArray 0) }) hoL srt hzl ⟨_, rfl, ?_⟩) (PyProof.Rows.args_list_sort _)))
  rw [out]
  obtain ⟨e', he'⟩ := PyProof.Rows.sortedHeap_at (vs := T.map TRow.r) (out := ((sortT T).map TRow.r).toArray) hoL
  refine wpAny_pure ⟨_, rfl, .ref h'.objs.size, upd H h'.objs.size (.lst ((sortT T).map TRow.v)), I1.laid (t' := s.toks) (fun b u e => ?_) (Nat.le_refl _)
    ⟨by rw [List.length_map, (sortT_perm T).length_eq]; rw [List.length_map] at hz; exact hz, _, e', rows_vals _, he'⟩, rfl, q (sortT T) _ (sortT_perm T) (sortT_le T) (sortT_up T so.alike) (I1.hok.fresh (Nat.le_refl _))⟩
  have hb : b < h'.objs.size := Heap.lt_size e
  rw [PyProof.Rows.sortedHeap_old (Nat.ne_of_lt hb) (by rw [size_push']; exact Nat.lt_succ_of_lt hb)]
  exact old e
end
end L2

set_option Elab.async false
set_option linter.all false
set_option maxRecDepth 100000
set_option maxHeartbeats 8000000
/-! sayings that are too wide, or just not -/
namespace S1
open PySem PySem.W PySem.Spec PyProof.Rows L2
def spWide : Sp := fun vs H Q _ => ∃ (p : Addr) (v : V) (c : Nat) (s : Say), vs = [.ref p, v] ∧ Src H p c ∧ c ≤ 80000 ∧ DatS H v s ∧ SayOk 6 8 120 40 s ∧
  ∀ (r : V) (H' : Hp), Gd p 100 75000 4 H' r → Dr H p (c + 2) H' → Q r H'
abbrev nWi : List Str := ["source", "saying", "picks", "owns", "clauses", "more", "kind", "size", "six", "sights", "rows", "i", "j", "one", "other", "pick", "word"]
theorem gd3 {p t : Addr} {H : Hp} {v1 v2 v3 : V} {w1 w2 w3 w : Nat} (e : H t = some (.tup [v1, v2, v3])) (hp : t ≠ p) (h1 : Gd p 100 w1 3 H v1) (h2 : Gd p 100 w2 3 H v2) (h3 : Gd p 100 w3 3 H v3) (hw : 9 + w1 + w2 + w3 ≤ w) : Gd p 100 w 4 H (.ref t) := by
  obtain ⟨d1, D1, f1⟩ := h1
  obtain ⟨d2, D2, f2⟩ := h2
  obtain ⟨d3, D3, f3⟩ := h3
  exact ⟨_, .tup (by rw [del_ne hp]; exact e) (.cons D1 (.cons D2 (.cons D3 .nil))), fit3 f1 f2 f3 hw⟩
theorem gd_rows {p t : Addr} {H : Hp} {T : List TRow} {b k m w : Nat} (e : H t = some (.tup (T.map TRow.v))) (hp : t ≠ p) (h : ∀ q ∈ T, Dat (del H p) q.v q.2 ∧ Fit 100 b k q.2) (hl : T.length ≤ m) (hm : m ≤ 100) (hw : 3 + m * (b + 2) ≤ w) : Gd p 100 w (k + 1) H (.ref t) :=
  ⟨_, .tup (by rw [del_ne hp]; exact e) (dats_rows fun q hq => (h q hq).1), Fit.maps (f := Prod.snd) (fun q hq => (h q hq).2) hl hm hw⟩
theorem gd_unit {p t : Addr} {H : Hp} {w k : Nat} (e : H t = some (.tup [])) (hp : t ≠ p) (hw : 3 ≤ w) : Gd p 100 w (k + 1) H (.ref t) := gs_tup (b := 0) (w := 0) e hp ⟨[], .nil, pnil, Nat.le_refl _⟩ (Nat.zero_le _) hw
theorem gd_nms {p t : Addr} {H : Hp} {xs : List Str} {m w : Nat} (e : H t = some (.tup (xs.map V.str))) (hp : t ≠ p) (h : ∀ x ∈ xs, Nm x) (hl : xs.length ≤ m) (hm : m ≤ 100) (hw : 3 + m * 84 ≤ w) : Gd p 100 w 3 H (.ref t) :=
  ⟨nmsD xs, .tup (by rw [del_ne hp]; exact e) (dats_strs xs), (fit_nms h hl hm hw).to⟩
theorem dats_str_eq {H : Hp} : ∀ {us : List V} {xs : List Str}, DatAll H us (xs.map PyData.str) → us = xs.map V.str
  | _, [], h => by cases h; rfl
  | _, x :: xs, h => by
    rw [List.map_cons] at h
    cases h with
    | cons a t =>
      cases a
      rw [dats_str_eq t, List.map_cons]
/-- rows of owns, listed at D -/
def UT (H2 : Hp) (D : Addr) (j : Nat) (H4 : Hp) : Prop := ∃ (T : List TRow), H4 D = some (.lst (T.map TRow.v)) ∧ (∀ q ∈ T, (∃ x, Nm x ∧ q.2 = ownD (x, [])) ∧ Dat H4 q.v q.2) ∧ T.length = j ∧ Same H2 H4
theorem UT.start {H2 : Hp} {D : Addr} (h : H2 D = none) : UT H2 D 0 (upd H2 D (.lst [])) := ⟨[], upd_same, fun q hq => absurd hq (by simp), rfl, same_new h⟩
theorem UT.step {H2 H4 : Hp} {D u t : Addr} {j : Nat} {x : Str} (h : UT H2 D j H4) (hx : Nm x) (hD : H2 D = none) (hj : j < 1000) (hu : H4 u = none) (ht : upd H4 u (.tup []) t = none) :
    ∃ acc, upd (upd H4 u (.tup [])) t (.tup [.str x, .ref u]) D = some (.lst acc) ∧ acc.length < sizeLine ∧ UT H2 D (j + 1) (upd (upd (upd H4 u (.tup [])) t (.tup [.str x, .ref u])) D (.lst (acc ++ [.ref t]))) := by
  obtain ⟨T, e, hT, lT, S⟩ := h
  have S1 := same_new (o := .tup []) hu
  have S2 := same_new (o := .tup [.str x, .ref u]) ht
  have e2 := S2 _ _ (S1 _ _ e)
  have eu := S2 _ _ (show upd H4 u (.tup []) u = some (.tup []) from upd_same)
  have et : upd (upd H4 u (.tup [])) t (.tup [.str x, .ref u]) t = some (.tup [.str x, .ref u]) := upd_same
  have SS := S.trans (S1.trans S2)
  have hT2 : ∀ q ∈ T, (∃ x, Nm x ∧ q.2 = ownD (x, [])) ∧ Dat (upd (upd H4 u (.tup [])) t (.tup [.str x, .ref u])) q.v q.2 := fun q hq => ⟨(hT q hq).1, ((hT q hq).2.same S1).same S2⟩
  generalize upd (upd H4 u (.tup [])) t (.tup [.str x, .ref u]) = G at e2 eu et SS hT2 ⊢
  have Dn : Dat G (.ref t) (ownD (x, [])) := .tup et (.cons (.str x) (.cons (.tup eu .nil) .nil))
  refine ⟨_, e2, by rw [List.length_map, lT]; exact small1000 (by omega), T ++ [(t, ownD (x, []))], by rw [upd_same, List.map_append]; rfl, fun q hq => ?_, by rw [List.length_append, lT]; rfl, same_upd SS hD⟩
  rcases List.mem_append.mp hq with m | m
  · obtain ⟨⟨y, hy, ey⟩, dq⟩ := hT2 q m
    exact ⟨⟨y, hy, ey⟩, dat_upd e2 (by rw [ey]; exact keyable_own _) dq⟩
  · cases List.mem_singleton.mp m
    exact ⟨⟨x, hx, rfl⟩, dat_upd e2 (keyable_own _) Dn⟩
theorem gd_own {p t u : Addr} {H : Hp} {x : Str} {xs : List Str} (e : H t = some (.tup [.str x, .ref u])) (eu : H u = some (.tup (xs.map V.str))) (hp : t ≠ p) (hu : u ≠ p) (hx : Nm x) (hxs : ∀ y ∈ xs, Nm y) (hl : xs.length ≤ 6) : Gd p 100 600 2 H (.ref t) :=
  ⟨ownD (x, xs), .tup (by rw [del_ne hp]; exact e) (.cons (.str x) (.cons (.tup (by rw [del_ne hu]; exact eu) (dats_strs xs)) .nil)), fit_own hx hxs hl⟩
theorem fit_bare {x : Str} (h : Nm x) : Fit 100 600 2 (ownD (x, [])) := fit_own h (fun y hy => nomatch hy) (Nat.zero_le _)
theorem get_strs {xs : List Str} {j : Nat} {x : V} (h : (xs.map V.str)[j]? = some x) : ∃ y, xs[j]? = some y ∧ x = V.str y := by
  rw [List.getElem?_map] at h
  obtain ⟨y, a, b⟩ := Option.map_eq_some_iff.mp h
  exact ⟨y, a, b.symm⟩
/-- clauses of two letters, listed at l -/
def RT (G : Hp) (l n : Nat) (H' : Hp) : Prop := ∃ (T : List TRow), H' l = some (.lst (T.map TRow.v)) ∧ (∀ q ∈ T, (∃ x y b1 b2, Nm x ∧ Nm y ∧ q.2 = clD [(x, b1), (y, b2)]) ∧ Dat H' q.v q.2) ∧ T.length ≤ n ∧ Same G H'
theorem RT.up {G H' : Hp} {l n m : Nat} (h : RT G l n H') (le : n ≤ m) : RT G l m H' := let ⟨T, a, b, c, d⟩ := h; ⟨T, a, b, Nat.le_trans c le, d⟩
theorem RT.same {G H' H'' : Hp} {l n : Nat} (h : RT G l n H') (S : Same H' H'') : RT G l n H'' := let ⟨T, a, b, c, d⟩ := h; ⟨T, S _ _ a, fun q hq => ⟨(b q hq).1, (b q hq).2.same S⟩, c, d.trans S⟩
theorem RT.step {G H4 : Hp} {l t1 t2 t3 n : Nat} {x y : Str} {b1 b2 : Bool} (h : RT G l n H4) (hx : Nm x) (hy : Nm y) (hl : G l = none) (hn : n < 1000) (e1 : H4 t1 = some (.tup [.str x, .bl b1])) (e2 : H4 t2 = some (.tup [.str y, .bl b2])) (e3 : H4 t3 = some (.tup [.ref t1, .ref t2])) :
    ∃ acc, H4 l = some (.lst acc) ∧ acc.length < sizeLine ∧ RT G l (n + 1) (upd H4 l (.lst (acc ++ [.ref t3]))) := by
  obtain ⟨T, e, hT, lT, S⟩ := h
  have Dn : Dat H4 (.ref t3) (clD [(x, b1), (y, b2)]) := .tup e3 (.cons (.tup e1 (.cons (.str x) (.cons (.bl b1) .nil))) (.cons (.tup e2 (.cons (.str y) (.cons (.bl b2) .nil))) .nil))
  refine ⟨_, e, by rw [List.length_map]; exact small1000 (by omega), T ++ [(t3, clD [(x, b1), (y, b2)])], by rw [upd_same, List.map_append]; rfl, fun q hq => ?_, by rw [List.length_append]; show _ + 1 ≤ _; omega, same_upd S hl⟩
  rcases List.mem_append.mp hq with m | m
  · obtain ⟨⟨x', y', c1, c2, hx', hy', ey⟩, dq⟩ := hT q m
    exact ⟨⟨x', y', c1, c2, hx', hy', ey⟩, dat_upd e (by rw [ey]; exact keyable_cl _) dq⟩
  · cases List.mem_singleton.mp m
    exact ⟨⟨x, y, b1, b2, hx, hy, rfl⟩, dat_upd e (keyable_cl _) Dn⟩
theorem more_at {r : Int} (h0 : 0 ≤ r) (h1 : r < 9) : ∃ y, atI ((["ma", "mb", "mc", "md", "me", "mf", "mg", "mh", "mi"] : List Str).map V.str) r = some (.str y) ∧ Nm y := by
  obtain ⟨v, hv, mv, _⟩ := at_ok (xs := (["ma", "mb", "mc", "md", "me", "mf", "mg", "mh", "mi"] : List Str).map V.str) h0 h1
  obtain ⟨y, hy, rfl⟩ := List.mem_map.mp mv
  refine ⟨y, hv, nm_of ?_⟩
  have h : (["ma", "mb", "mc", "md", "me", "mf", "mg", "mh", "mi"] : List Str).all nmB = true := by decide +kernel
  exact List.all_eq_true.mp h y hy
/-- three pairs of truths, listed -/
structure BT (ta tb tc lB : Addr) (H : Hp) : Prop where
  a : H ta = some (.tup [.bl true, .bl true])
  b : H tb = some (.tup [.bl false, .bl false])
  c : H tc = some (.tup [.bl true, .bl false])
  l : H lB = some (.lst [V.ref ta, .ref tb, .ref tc])
theorem BT.same {ta tb tc lB : Addr} {H H' : Hp} (h : BT ta tb tc lB H) (S : Same H H') : BT ta tb tc lB H' := ⟨S _ _ h.a, S _ _ h.b, S _ _ h.c, S _ _ h.l⟩
theorem BT.put {ta tb tc lB l : Addr} {H : Hp} {xs ys : List V} (h : BT ta tb tc lB H) (e : H l = some (.lst xs)) (n : l ≠ lB) : BT ta tb tc lB (upd H l (.lst ys)) := by
  have na : ta ≠ l := fun z => by have y := h.a; rw [z, e] at y; cases y
  have nb : tb ≠ l := fun z => by have y := h.b; rw [z, e] at y; cases y
  have nc : tc ≠ l := fun z => by have y := h.c; rw [z, e] at y; cases y
  exact ⟨by rw [upd_ne na]; exact h.a, by rw [upd_ne nb]; exact h.b, by rw [upd_ne nc]; exact h.c, by rw [upd_ne n.symm]; exact h.l⟩
theorem pcons' {x y : Str} {b1 b2 : Bool} (h1 : Nm x) (h2 : Nm y) : ∀ l ∈ ([(x, b1), (y, b2)] : List Ltr), Nm l.1 := fun l hl => by
  rcases List.mem_cons.mp hl with rfl | hl
  · exact h1
  · cases List.mem_singleton.mp hl
    exact h2
theorem pair3 {H : Hp} {ta tb tc : Addr} {x : V} {m : Nat} (ea : H ta = some (.tup [.bl true, .bl true])) (eb : H tb = some (.tup [.bl false, .bl false])) (ec : H tc = some (.tup [.bl true, .bl false])) (h : ([V.ref ta, V.ref tb, V.ref tc] : List V)[m]? = some x) : m < 3 ∧ ∃ t b1 b2, x = V.ref t ∧ H t = some (.tup [.bl b1, .bl b2]) := by
  match m, h with
  | 0, h => cases h; exact ⟨by omega, _, _, _, rfl, ea⟩
  | 1, h => cases h; exact ⟨by omega, _, _, _, rfl, eb⟩
  | 2, h => cases h; exact ⟨by omega, _, _, _, rfl, ec⟩
  | _ + 3, h => simp at h
abbrev moreW : List Str := ["ma", "mb", "mc", "md", "me", "mf", "mg", "mh", "mi"]
theorem more_nm : ∀ x ∈ moreW, Nm x := fun x hx => nm_of (by
  have h : moreW.all nmB = true := by decide +kernel
  exact List.all_eq_true.mp h x hx)
section
variable {P : Program} {w : World} {K : PySem.W.Frag} {mg : Str → Option Value} {base : Heap}
theorem scWi : FnScope nWi ["source", "saying"] (defScope sWide) := ⟨rfl, rfl, rfl, by decide +kernel, rfl, by decide +kernel, by decide +kernel⟩
theorem ok_wide {f fP : Addr} {fd fdP : FuncData} (F : Fun K "_law_wide" "_law_wide" sWide f fd) (Pk : Has K mg "_law_pick" sPick ["source", "top"] fP fdP) (B : Blt mg) : FnOk P w K mg base CX0 2 f fd ["source", "saying"] spWide := by
  have GP : FnOk P w K mg base CX0 1 fP fdP ["source", "top"] spPick := ok_pick Pk.F B
  refine F.ok scWi (fun vs H Q E h => ?_) (fun cdv A outer s H vs Q E hr h => ?_)
  · obtain ⟨p, v, c, sy, rfl, _⟩ := h
    rfl
  · obtain ⟨p, v, c, sy, rfl, hp, hc, D, ok, q⟩ := h
    have hu : (A.deeper (envOfC "_law_wide" (defScope sWide) s.heap.objs.size f cdv)).units + 64 < cLine := hr.units
    refine ⟨_, pss_cons (ps_asg (pv 1) (pg_tup rfl (pgs_cons (pg_name (i := 2) scWi.nd rfl (.inl rfl)) (pgs_cons (pg_name (i := 3) scWi.nd rfl (.inl rfl)) (pgs_cons (pg_name (i := 4) scWi.nd rfl (.inl rfl)) pgs_nil)))))
      (pss_cons (ps_set (i := 5) scWi.nd rfl (.inl rfl) (pe_lst (pa_cons pe_str (pa_cons pe_str (pa_cons pe_str (pa_cons pe_str (pa_cons pe_str (pa_cons pe_str (pa_cons pe_str (pa_cons pe_str (pa_cons pe_str pa_nil)))))))))))
      (pss_cons (ps_par (i := 6) (j := 7) rfl scWi.nd rfl rfl (by decide) rfl rfl
        (pa_cons (pe_call GP hr rfl Pk.g Pk.F.kp Pk.b .nil pass0 (pa_cons (pv 0) (pa_cons pe_int pa_nil))) (pa_cons (pe_call GP hr rfl Pk.g Pk.F.kp Pk.b .nil pass0 (pa_cons (pv 0) (pa_cons pe_int pa_nil))) pa_nil)) (by with_unfolding_all rfl))
      (pss_cons (ps_if (pt_cmpR op_eq (pv 6) pe_int (nomark _))
        (pss_one (ps_ret (pe_tup (pa_cons (pv 2) (pa_cons (pe_tupleOf rfl B.tuple (pe_lc (own := [("pick", 15)]) (g := gName 15) (tt := tYes) rfl scWi.nd (pi_tup (pe_slice sl_tupW (pv 2) po_none (po_some pe_int))) (blkOk_by (N := nWi) (sc := defScope sWide) (by decide +kernel))
            (fun _ _ _ _ _ => pg_name (i := 15) scWi.nd rfl (Or.inl rfl)) (fun _ _ _ _ _ => pts_nil) (fun _ _ _ _ _ => pe_tup (pa_cons (pv 15) (pa_cons (pe_tup pa_nil) pa_nil))))) (pa_cons (pe_tup pa_nil) pa_nil)))))) pss_nil)
      (pss_cons (ps_if (pt_cmpR op_eq (pv 6) pe_int (nomark _))
        (pss_one (ps_ret (pe_tup (pa_cons (pe_tupleOf rfl B.tuple (pe_callB (cr_sortWT (by exact hu)) (by rfl) B.sorted (by decide +kernel) (pa_cons (pe_op op_catW (pv 2) (pe_tupleOf rfl B.tuple
              (pe_slice sl_list (pv 5) po_none (po_some (pe_op op_sub (pe_op op_add pe_int (pv 7)) (pe_callB call_len_seq (by rfl) B.len (by decide +kernel) (pa_cons (pv 2) pa_nil))))))) pa_nil)))
            (pa_cons (pv 3) (pa_cons (pv 4) pa_nil)))))) pss_nil)
      (pss_cons (ps_if (pt_cmpR op_eq (pv 6) pe_int (nomark _))
        (pss_one (ps_ret (pe_tup (pa_cons (pv 2) (pa_cons (pe_tupleOf rfl B.tuple (pe_callB (cr_sortLT (by exact hu)) (by rfl) B.sorted (by decide +kernel) (pa_cons (pe_op op_catW (pv 3) (pe_tupleOf rfl B.tuple
              (pe_lc (own := [("word", 16)]) (g := gName 16) (tt := tYes) rfl scWi.nd (pi_list (pe_slice sl_list (pv 5) po_none (po_some (pe_op op_sub (pe_op op_add pe_int (pv 7)) (pe_callB call_len_seq (by rfl) B.len (by decide +kernel) (pa_cons (pv 3) pa_nil)))))) (blkOk_by (N := nWi) (sc := defScope sWide) (by decide +kernel))
                (fun _ _ _ _ _ => pg_name (i := 16) scWi.nd rfl (Or.inl rfl)) (fun _ _ _ _ _ => pts_nil) (fun _ _ _ _ _ => pe_tup (pa_cons (pv 16) (pa_cons (pe_tup pa_nil) pa_nil)))))) pa_nil)))
            (pa_cons (pv 4) pa_nil)))))) pss_nil)
      (pss_cons (ps_if (pt_cmpR op_eq (pv 6) pe_int (nomark _))
        (pss_cons (ps_set (i := 8) scWi.nd rfl (.inl rfl) (pe_tup (pa_cons pe_str (pa_cons pe_str (pa_cons pe_str (pa_cons pe_str (pa_cons pe_str (pa_cons pe_str pa_nil))))))))
        (pss_cons (ps_set (i := 9) scWi.nd rfl (.inl rfl) (pe_op op_cat (pe_lst (pa_cons (pe_tup (pa_cons pe_str (pa_cons (pv 8) pa_nil))) (pa_cons (pe_tup (pa_cons pe_str (pa_cons (pe_slice sl_tupW (pv 8) po_none (po_some pe_int)) pa_nil)))
            (pa_cons (pe_tup (pa_cons pe_str (pa_cons (pe_slice sl_tupW (pv 8) po_none (po_some pe_int)) pa_nil))) (pa_cons (pe_tup (pa_cons pe_str (pa_cons (pe_slice sl_tupW (pv 8) po_none (po_some pe_int)) pa_nil))) pa_nil)))))
          (pe_op op_rep (pe_lst (pa_cons (pe_tup (pa_cons pe_str (pa_cons (pe_tup pa_nil) pa_nil))) pa_nil)) (pv 7))))
        (pss_one (ps_ret (pe_tup (pa_cons (pv 8) (pa_cons (pe_tupleOf rfl B.tuple (pv 9)) (pa_cons (pe_tup pa_nil) pa_nil)))))))) pss_nil)
      (pss_cons (ps_set (i := 10) scWi.nd rfl (.inl rfl) (pe_lst pa_nil))
      (pss_cons (ps_for PassesOwn.never rfl (pi_range1 rfl B.range (pa_cons pe_int pa_nil)) (pg_name (i := 11) scWi.nd rfl (.inl rfl))
        (pss_one (ps_for PassesOwn.never rfl (pi_range2 rfl B.range (pa_cons (pe_op op_add (pv 11) pe_int) (pa_cons pe_int pa_nil))) (pg_name (i := 12) scWi.nd rfl (.inl rfl))
          (pss_one (ps_for PassesOwn.never rfl (pi_list (pe_lst (pa_cons (pe_tup (pa_cons pe_bl (pa_cons pe_bl pa_nil))) (pa_cons (pe_tup (pa_cons pe_bl (pa_cons pe_bl pa_nil))) (pa_cons (pe_tup (pa_cons pe_bl (pa_cons pe_bl pa_nil))) pa_nil)))))
              (pg_tup rfl (pgs_cons (pg_name (i := 13) scWi.nd rfl (.inl rfl)) (pgs_cons (pg_name (i := 14) scWi.nd rfl (.inl rfl)) pgs_nil)))
            (pss_one (ps_expr (pe_bm PySem.F.plainAttrs_list PySem.F.slot_list_append PySem.F.type_list_append mt_append (pv 10) (pa_cons (pe_tup (pa_cons (pe_tup (pa_cons (pe_ix ix_list (pv 5) (pv 11) (fun _ _ => rfl)) (pa_cons (pv 13) pa_nil)))
              (pa_cons (pe_tup (pa_cons (pe_ix ix_list (pv 5) (pv 12) (fun _ _ => rfl)) (pa_cons (pv 14) pa_nil))) pa_nil))) pa_nil)))))))))
      (pss_one (ps_ret (pe_tup (pa_cons (pe_tupleOf rfl B.tuple (pe_slice sl_list (pv 5) po_none (po_some pe_int))) (pa_cons (pe_tup pa_nil)
        (pa_cons (pe_tupleOf rfl B.tuple (pe_slice sl_list (pe_callB (cr_sortL (by exact hu)) (by rfl) B.sorted (by decide +kernel) (pa_cons (pv 10) pa_nil)) po_none (po_some (pe_op op_add pe_int (pv 7))))) pa_nil)))))))))))))), ?_⟩
    obtain ⟨a, pk, ow, cc, rfl, ea, Dk, Do, Dc⟩ := say_row D
    obtain ⟨fk, fo, fc⟩ := fit_say ok
    obtain ⟨ys0, hy0⟩ := hp.lst
    have gk : Gd p 100 600 3 H pk := ⟨_, dat_off hy0 (keyable_nms _) Dk, fk⟩
    have go : Gd p 100 6000 3 H ow := ⟨_, dat_off hy0 (show keyable (.tuple (sy.owns.map ownD)) = true from keyables_map ownD keyable_own sy.owns) Do, fo⟩
    have gc : Gd p 100 64200 3 H cc := ⟨_, dat_off hy0 (keyable_cls _) Dc, fc⟩
    obtain ⟨ka, us, rfl, eka, Dks⟩ := dat_tup (ds := sy.picks.map PyData.str) Dk
    obtain ⟨oa, vs, rfl, eoa, Dos⟩ := dat_tup Do
    have lk := ok.pl
    have lo := ok.ol
    have nka : ka ≠ p := fun z => by rw [z, hy0] at eka; cases eka
    have noa : oa ≠ p := fun z => by rw [z, hy0] at eoa; cases eoa
    refine ⟨_, rfl, a, _, rfl, SqT.of ea, rfl, _, _, rfl, _, _, rfl, _, _, rfl, rfl, ?_⟩
    refine ⟨(by show 9 ≤ sizeLine; decide), fun l5 g5 => ?_⟩
    have hM : ([V.str "ma", V.str "mb", V.str "mc", V.str "md", V.str "me", V.str "mf", V.str "mg", V.str "mh", V.str "mi"] : List V) = moreW.map V.str := rfl
    generalize ([V.str "ma", V.str "mb", V.str "mc", V.str "md", V.str "me", V.str "mf", V.str "mg", V.str "mh", V.str "mi"] : List V) = M5 at hM ⊢
    subst hM
    have d0 := Dr.start hp
    have d1 := d0.new (o := .lst (moreW.map V.str)) g5
    have p5 := d0.ne g5
    have e5 : upd H l5 (.lst (moreW.map V.str)) l5 = some (.lst (moreW.map V.str)) := upd_same
    refine ⟨_, rfl, p, _, 5, rfl, d1.s, by omega, by decide, by decide, fun r6 o6 r60 r61 hp6 => ?_⟩
    refine ⟨_, rfl, p, _, 2, rfl, hp6, by omega, by decide, by decide, fun r7 o7 r70 r71 hp7 => ?_⟩
    refine ⟨_, _, rfl, ?_⟩
    have d2 : Dr H p (c + 2) (upd (upd (upd H l5 (.lst (moreW.map V.str))) p o6) p o7) := (d1.src hp6).src hp7
    have e52 : upd (upd (upd H l5 (.lst (moreW.map V.str))) p o6) p o7 l5 = some (.lst (moreW.map V.str)) := by rw [upd_ne p5, upd_ne p5]; exact e5
    clear hp6 hp7 d1 e5
    generalize upd (upd (upd H l5 (.lst (moreW.map V.str))) p o6) p o7 = G at d2 e52 ⊢
    obtain ⟨j, rfl⟩ : ∃ j : Nat, r7 = (j : Int) := ⟨r7.toNat, by omega⟩
    have gk := gk.del d2.m
    have go := go.del d2.m
    have gc := gc.del d2.m
    have ekG := d2.keep eka nka
    have eoG := d2.keep eoa noa
    -- kind 4
    refine ⟨_, rfl, rfl, _, rfl, ?_⟩
    show if decide (V.int r6 = V.int 4) = true then _ else _
    by_cases h4 : decide (V.int r6 = V.int 4) = true
    · rw [if_pos h4]
      refine ⟨_, rfl, _, rfl, _, rfl, ka, _, rfl, ekG, fun t1 G1 S1 e1 => ?_⟩
      have hus : us = sy.picks.map V.str := dats_str_eq Dks
      have ec : cutV us none (some 1) = (sy.picks.take 1).map V.str := by rw [hus]; exact cut_take (r := 1)
      rw [ec] at e1
      refine ⟨t1, rfl, ⟨_, SqT.of e1⟩, fun D0 hD0 => ?_⟩
      refine lc_tup (K := K) (a := t1) (xs := (sy.picks.take 1).map V.str) (fun j H4 => UT G1 D0 j H4) (UT.start hD0) (fun j H4 _ ⟨_, _, _, _, S⟩ => SqT.of (S _ _ e1)) ?_ ?_
      · intro j x H4 hx h4
        obtain ⟨y, hy, rfl⟩ := get_strs hx
        have my := List.mem_of_mem_take (List.mem_of_getElem? hy)
        have jl : j < 1 := by
          have := (List.getElem?_eq_some_iff.mp hy).1
          rw [List.length_take] at this
          omega
        exact ⟨rfl, yes_of ⟨_, rfl, Nat.zero_le _, fun u hu => ⟨(by show 2 ≤ sizeLine; decide), fun t ht => h4.step (ok.pn y my) hD0 (by omega) hu ht⟩⟩⟩
      · rintro H4 ⟨T, e4, hT, lT, S4⟩
        refine .inl ⟨D0, _, rfl, SqL.of e4, fun t2 ht2 => ⟨Nat.zero_le _, fun t3 ht3 => ⟨(by show 3 ≤ sizeLine; decide), fun t4 ht4 => ?_⟩⟩⟩
        have Sa := same_new (o := .tup (T.map TRow.v)) ht2
        have Sb := same_new (o := .tup []) ht3
        have Sc := same_new (o := .tup [V.ref ka, .ref t2, .ref t3]) ht4
        have Sall := S1.trans (S4.trans (Sa.trans (Sb.trans Sc)))
        have ea2 := Sc _ _ (Sb _ _ (show upd H4 t2 (.tup (T.map TRow.v)) t2 = _ from upd_same))
        have eb2 := Sc _ _ (show upd (upd H4 t2 (.tup (T.map TRow.v))) t3 (.tup []) t3 = _ from upd_same)
        have ec2 : upd (upd (upd H4 t2 (.tup (T.map TRow.v))) t3 (.tup [])) t4 (.tup [V.ref ka, .ref t2, .ref t3]) t4 = some (.tup [V.ref ka, .ref t2, .ref t3]) := upd_same
        have hT2 := fun q hq => (((hT q hq).2.same Sa).same Sb).same Sc
        generalize upd (upd (upd H4 t2 (.tup (T.map TRow.v))) t3 (.tup [])) t4 (.tup [V.ref ka, .ref t2, .ref t3]) = G5 at Sall ea2 eb2 ec2 hT2 ⊢
        have d5 := d2.same Sall
        obtain ⟨ys5, hy5⟩ := d5.s.lst
        refine q _ _ (gd3 ec2 (tup_np d5 ec2) (gk.same Sall) (gd_rows (b := 600) (k := 2) (m := 100) (w := 60500) ea2 (tup_np d5 ea2) (fun q' hq' => ?_) ?_ (by decide) (by decide)) (gd_unit (w := 3) (k := 2) eb2 (tup_np d5 eb2) (Nat.le_refl _)) (by decide)) d5
        · obtain ⟨y, hy, ey⟩ := (hT q' hq').1
          exact ⟨dat_off hy5 (by rw [ey]; exact keyable_own _) (hT2 q' hq'), by rw [ey]; exact fit_bare hy⟩
        · rw [lT, List.length_map, List.length_take]
          omega
    rw [if_neg h4]
    show tNext _ _ _
    -- kind 0
    refine ⟨_, rfl, rfl, _, rfl, ?_⟩
    show if decide (V.int r6 = V.int 0) = true then _ else _
    by_cases h0 : decide (V.int r6 = V.int 0) = true
    · rw [if_pos h0]
      have hus : us = sy.picks.map V.str := dats_str_eq Dks
      subst hus
      have er : ((6 : Int) + (j : Int)) - ((sy.picks.map V.str).length : Int) = ((6 + j - sy.picks.length : Nat) : Int) := by
        rw [List.length_map]
        omega
      refine ⟨_, rfl, _, rfl, _, rfl, _, _, rfl, rfl, _, rfl, ka, _, rfl, .inr (SqT.of ekG), _, _, rfl, rfl, ((6 + j - sy.picks.length : Nat) : Int), congrArg V.int er, l5, _, rfl, SqL.of e52, fun t1 ht1 => ?_⟩
      rw [cut_take (ws := moreW) (r := 6 + j - sy.picks.length)]
      have lm : (moreW.take (6 + j - sy.picks.length)).length ≤ 7 - sy.picks.length := by
        rw [List.length_take]
        omega
      have mm : ∀ x ∈ moreW.take (6 + j - sy.picks.length), Nm x := fun x hx => more_nm x (List.mem_of_mem_take hx)
      generalize moreW.take (6 + j - sy.picks.length) = ex at lm mm ⊢
      have S1 := same_new (o := .lst (ex.map V.str)) ht1
      refine .inl ⟨t1, _, rfl, SqL.of upd_same, fun t2 ht2 => ?_⟩
      have S2 := same_new (o := .tup (ex.map V.str)) ht2
      refine ⟨ka, t2, _, _, rfl, rfl, S2 _ _ (S1 _ _ ekG), upd_same, ?_, fun t3 G3 S3 e3 => ?_⟩
      · rw [List.length_map, List.length_map]
        exact Nat.le_trans (show _ ≤ 20 by omega) (by decide)
      refine ⟨t3, sy.picks ++ ex, rfl, SqT.of (by rw [List.map_append]; exact e3), fun ys l4 pm hl4 => ?_⟩
      have S4 := same_new (o := .lst (ys.map V.str)) hl4
      refine .inl ⟨l4, _, rfl, SqL.of upd_same, fun t5 ht5 => ⟨_, rfl, _, rfl, (by show 3 ≤ sizeLine; decide), fun t6 ht6 => ?_⟩⟩
      have S5 := same_new (o := .tup (ys.map V.str)) ht5
      have S6 := same_new (o := .tup [V.ref t5, .ref oa, cc]) ht6
      have SS := S1.trans (S2.trans (S3.trans (S4.trans (S5.trans S6))))
      have ea2 := S6 _ _ (show upd (upd G3 l4 (.lst (ys.map V.str))) t5 (.tup (ys.map V.str)) t5 = _ from upd_same)
      have ec2 : upd (upd (upd G3 l4 (.lst (ys.map V.str))) t5 (.tup (ys.map V.str))) t6 (.tup [V.ref t5, .ref oa, cc]) t6 = some (.tup [V.ref t5, .ref oa, cc]) := upd_same
      generalize upd (upd (upd G3 l4 (.lst (ys.map V.str))) t5 (.tup (ys.map V.str))) t6 (.tup [V.ref t5, .ref oa, cc]) = G5 at SS ea2 ec2 ⊢
      have d5 := d2.same SS
      have ly : ys.length ≤ 7 := by
        rw [pm.length_eq, List.length_append]
        omega
      have my : ∀ x ∈ ys, Nm x := fun x hx => by
        rcases List.mem_append.mp (pm.mem_iff.mp hx) with z | z
        · exact ok.pn x z
        · exact mm x z
      exact q _ _ (gd3 (w1 := 600) ec2 (tup_np d5 ec2) (gd_nms ea2 (tup_np d5 ea2) my ly (by decide) (by decide)) (go.same SS) (gc.same SS) (by decide)) d5
    rw [if_neg h0]
    show tNext _ _ _
    -- kind 1
    refine ⟨_, rfl, rfl, _, rfl, ?_⟩
    show if decide (V.int r6 = V.int 1) = true then _ else _
    by_cases h1 : decide (V.int r6 = V.int 1) = true
    · rw [if_pos h1]
      have lov : vs.length = sy.owns.length := by rw [Dos.len, List.length_map]
      have er : ((8 : Int) + (j : Int)) - (vs.length : Int) = ((8 + j - sy.owns.length : Nat) : Int) := by
        rw [lov]
        omega
      obtain ⟨T0, hT0, hDo, DT0⟩ := rows_of_dat Dos (fun d hd => by obtain ⟨o, _, rfl⟩ := List.mem_map.mp hd; exact ⟨_, rfl⟩)
      refine ⟨_, rfl, _, rfl, _, rfl, _, rfl, _, _, rfl, rfl, _, rfl, oa, _, rfl, .inr (SqT.of eoG), _, _, rfl, rfl, ((8 + j - sy.owns.length : Nat) : Int), congrArg V.int er, l5, _, rfl, SqL.of e52, fun t1 ht1 => ?_⟩
      rw [cut_take (ws := moreW) (r := 8 + j - sy.owns.length)]
      have lm : (moreW.take (8 + j - sy.owns.length)).length ≤ 9 - sy.owns.length := by
        rw [List.length_take]
        omega
      have mm : ∀ x ∈ moreW.take (8 + j - sy.owns.length), Nm x := fun x hx => more_nm x (List.mem_of_mem_take hx)
      generalize moreW.take (8 + j - sy.owns.length) = ex at lm mm ⊢
      have S1 := same_new (o := .lst (ex.map V.str)) ht1
      have e1 : upd G t1 (.lst (ex.map V.str)) t1 = some (.lst (ex.map V.str)) := upd_same
      generalize upd G t1 (.lst (ex.map V.str)) = G1 at S1 e1 ⊢
      refine ⟨t1, rfl, ⟨_, SqL.of e1⟩, fun D0 hD0 => ?_⟩
      refine lc_list (K := K) (a := t1) (xs := ex.map V.str) (fun j H4 => UT G1 D0 j H4) (UT.start hD0) (fun j H4 _ ⟨_, _, _, _, S⟩ => SqL.of (S _ _ e1)) ?_ ?_
      · intro j x H4 hx h4
        obtain ⟨y, hy, rfl⟩ := get_strs hx
        have jl := (List.getElem?_eq_some_iff.mp hy).1
        exact ⟨rfl, yes_of ⟨_, rfl, Nat.zero_le _, fun u hu => ⟨(by show 2 ≤ sizeLine; decide), fun t ht => h4.step (mm y (List.mem_of_getElem? hy)) hD0 (by omega) hu ht⟩⟩⟩
      · rintro H4 ⟨T, e4, hT, lT, S4⟩
        refine .inl ⟨D0, _, rfl, SqL.of e4, fun t2 ht2 => ?_⟩
        have S2 := same_new (o := .tup (T.map TRow.v)) ht2
        have lT2 : T.length ≤ 9 - sy.owns.length := by
          rw [lT, List.length_map]
          exact lm
        have l0 : T0.length = sy.owns.length := by
          have z := congrArg List.length hDo
          rw [List.length_map, List.length_map] at z
          exact z.symm
        refine ⟨oa, t2, _, _, rfl, rfl, S2 _ _ (S4 _ _ (S1 _ _ eoG)), upd_same, ?_, fun t3 G3 S3 e3 => ?_⟩
        · rw [lov, List.length_map]
          exact Nat.le_trans (show _ ≤ 20 by omega) (by decide)
        have SG := S1.trans (S4.trans (S2.trans S3))
        have d3 := d2.same SG
        obtain ⟨ys3, hy3⟩ := d3.s.lst
        have ho : ∀ q' ∈ T0 ++ T, (∃ o, q'.2 = ownD o ∧ Fit 100 600 2 (ownD o)) ∧ Dat (del G3 p) q'.v q'.2 := fun q' hq' => by
          rcases List.mem_append.mp hq' with z | z
          · have m2 : q'.2 ∈ sy.owns.map ownD := hDo ▸ List.mem_map_of_mem z
            obtain ⟨o, hoo, e⟩ := List.mem_map.mp m2
            refine ⟨⟨o, e.symm, fit_own (ok.on o hoo).1 (fun x hx => ok.pn x ((ok.on o hoo).2.2.2 x hx)) (sight_le ok hoo)⟩, ?_⟩
            exact (dat_off hy0 (by rw [← e]; exact keyable_own _) (DT0 q' z)).same d3.m
          · obtain ⟨⟨y, hy, ey⟩, dq⟩ := hT q' z
            exact ⟨⟨_, ey, fit_bare hy⟩, dat_off hy3 (by rw [ey]; exact keyable_own _) ((dq.same S2).same S3)⟩
        have so : Sorty (T0 ++ T) := ⟨fun d hd e he => by
            obtain ⟨p1, hp1, rfl⟩ := List.mem_map.mp hd
            obtain ⟨p2, hp2, rfl⟩ := List.mem_map.mp he
            obtain ⟨⟨o1, e1, _⟩, _⟩ := ho p1 hp1
            obtain ⟨⟨o2, e2, _⟩, _⟩ := ho p2 hp2
            rw [e1, e2]
            exact alike_own _ _, fun p1 hp1 => by
            obtain ⟨⟨o1, e1, _⟩, _⟩ := ho p1 hp1
            exact ⟨_, e1⟩, fun p1 hp1 => by
            obtain ⟨⟨o1, e1, _⟩, _⟩ := ho p1 hp1
            rw [e1]
            exact Nat.le_trans (depth_own _) (by decide)⟩
        refine ⟨t3, T0 ++ T, rfl, SqT.of (by rw [List.map_append, ← hT0]; exact e3), fun q' hq' => (ho q' hq').2.same same_off, so, fun T' l4 pm _ _ hl4 => ?_⟩
        have S5 := same_new (o := .lst (T'.map TRow.v)) hl4
        refine .inl ⟨l4, _, rfl, SqL.of upd_same, fun t5 ht5 => ⟨_, rfl, (by show 3 ≤ sizeLine; decide), fun t6 ht6 => ?_⟩⟩
        have S6 := same_new (o := .tup (T'.map TRow.v)) ht5
        have S7 := same_new (o := .tup [V.ref ka, .ref t5, cc]) ht6
        have SX := S5.trans (S6.trans S7)
        have ea2 := S7 _ _ (show upd (upd G3 l4 (.lst (T'.map TRow.v))) t5 (.tup (T'.map TRow.v)) t5 = _ from upd_same)
        have ec2 : upd (upd (upd G3 l4 (.lst (T'.map TRow.v))) t5 (.tup (T'.map TRow.v))) t6 (.tup [V.ref ka, .ref t5, cc]) t6 = some (.tup [V.ref ka, .ref t5, cc]) := upd_same
        generalize upd (upd (upd G3 l4 (.lst (T'.map TRow.v))) t5 (.tup (T'.map TRow.v))) t6 (.tup [V.ref ka, .ref t5, cc]) = G5 at SX ea2 ec2 ⊢
        have d5 := d3.same SX
        refine q _ _ (gd3 ec2 (tup_np d5 ec2) (gk.same (SG.trans SX)) (gd_rows (b := 600) (k := 2) (m := 9) (w := 6000) ea2 (tup_np d5 ea2) (fun q' hq' => ?_) ?_ (by decide) (by decide)) (gc.same (SG.trans SX)) (by decide)) d5
        · obtain ⟨⟨o, e, f⟩, dq⟩ := ho q' (pm.mem_iff.mp hq')
          exact ⟨dq.same (sd_of SX), by rw [e]; exact f⟩
        · rw [pm.length_eq, List.length_append]
          omega
    rw [if_neg h1]
    show tNext _ _ _
    -- kind 2
    refine ⟨_, rfl, rfl, _, rfl, ?_⟩
    show if decide (V.int r6 = V.int 2) = true then _ else _
    by_cases h2 : decide (V.int r6 = V.int 2) = true
    · rw [if_pos h2]
      refine ⟨(by show 6 ≤ sizeLine; decide), fun t0 ht0 => ?_⟩
      have S0 := same_new (o := .tup ((moreW.take 6).map V.str)) ht0
      have e0 : upd G t0 (.tup ((moreW.take 6).map V.str)) t0 = some (.tup ((moreW.take 6).map V.str)) := upd_same
      generalize hG0 : upd G t0 (.tup ((moreW.take 6).map V.str)) = G0 at S0 e0
      have hG1 : upd G t0 (.tup [V.str "ma", V.str "mb", V.str "mc", V.str "md", V.str "me", V.str "mf"]) = G0 := hG0
      rw [hG1]
      have d3 := d2.same S0
      clear hG0 hG1
      have six : ∀ y ∈ moreW.take 6, Nm y := fun y hy => more_nm y (List.mem_of_mem_take hy)
      have s2 : 2 ≤ sizeLine := by decide
      have nm1 : ∀ x ∈ (["o", "p", "q", "r", "s"] : List Str), Nm x := fun x hx => nm_of (by
        have h : (["o", "p", "q", "r", "s"] : List Str).all nmB = true := by decide +kernel
        exact List.all_eq_true.mp h x hx)
      have cs : ∀ i : Nat, cutV ((moreW.take 6).map V.str) none (some (i : Int)) = ((moreW.take 6).take i).map V.str := fun i => cut_take
      have ct : ∀ (i : Nat), ∀ y ∈ (moreW.take 6).take i, Nm y := fun i y hy => six y (List.mem_of_mem_take hy)
      have cl : ∀ i : Nat, ((moreW.take 6).take i).length ≤ 6 := fun i => by rw [List.length_take]; exact Nat.min_le_right _ _
      refine ⟨_, rfl, s2, fun ta hta => ?_⟩
      have Sa := same_new (o := .tup [V.str "o", .ref t0]) hta
      have da := d3.same Sa
      have ga : Gd p 100 600 2 (upd G0 ta (.tup [V.str "o", .ref t0])) (.ref ta) := gd_own upd_same (Sa _ _ e0) (tup_np da upd_same) (tup_np d3 e0) (nm1 _ (by simp)) six (by decide)
      have e0a := Sa _ _ e0
      generalize upd G0 ta (.tup [V.str "o", .ref t0]) = Ga at da ga e0a ⊢
      refine ⟨_, rfl, _, rfl, t0, _, rfl, e0a, fun b1 Hb Sb eb => ⟨s2, fun tb htb => ?_⟩⟩
      have Sb2 := same_new (o := .tup [V.str "p", .ref b1]) htb
      have db := da.same (Sb.trans Sb2)
      replace eb := eb.trans (congrArg (fun z => some (HO.tup z)) (cs 5))
      have gb : Gd p 100 600 2 (upd Hb tb (.tup [V.str "p", .ref b1])) (.ref tb) := gd_own upd_same (Sb2 _ _ eb) (tup_np db upd_same) (tup_np (da.same Sb) eb) (nm1 _ (by simp)) (ct 5) (cl 5)
      have gab := ga.same (Sb.trans Sb2)
      have e0b := Sb2 _ _ (Sb _ _ e0a)
      generalize upd Hb tb (.tup [V.str "p", .ref b1]) = Gb at db gb gab e0b ⊢
      refine ⟨_, rfl, _, rfl, t0, _, rfl, e0b, fun c1 Hc Sc ec => ⟨s2, fun tc htc => ?_⟩⟩
      have Sc2 := same_new (o := .tup [V.str "q", .ref c1]) htc
      have dc := db.same (Sc.trans Sc2)
      replace ec := ec.trans (congrArg (fun z => some (HO.tup z)) (cs 4))
      have gcc : Gd p 100 600 2 (upd Hc tc (.tup [V.str "q", .ref c1])) (.ref tc) := gd_own upd_same (Sc2 _ _ ec) (tup_np dc upd_same) (tup_np (db.same Sc) ec) (nm1 _ (by simp)) (ct 4) (cl 4)
      have gac := gab.same (Sc.trans Sc2)
      have gbc := gb.same (Sc.trans Sc2)
      have e0c := Sc2 _ _ (Sc _ _ e0b)
      generalize upd Hc tc (.tup [V.str "q", .ref c1]) = Gc at dc gcc gac gbc e0c ⊢
      refine ⟨_, rfl, _, rfl, t0, _, rfl, e0c, fun d1 Hd Sd ed => ⟨s2, fun td htd => ?_⟩⟩
      have Sd2 := same_new (o := .tup [V.str "r", .ref d1]) htd
      have dd := dc.same (Sd.trans Sd2)
      replace ed := ed.trans (congrArg (fun z => some (HO.tup z)) (cs 3))
      have gdd : Gd p 100 600 2 (upd Hd td (.tup [V.str "r", .ref d1])) (.ref td) := gd_own upd_same (Sd2 _ _ ed) (tup_np dd upd_same) (tup_np (dc.same Sd) ed) (nm1 _ (by simp)) (ct 3) (cl 3)
      have gad := gac.same (Sd.trans Sd2)
      have gbd := gbc.same (Sd.trans Sd2)
      have gcd := gcc.same (Sd.trans Sd2)
      have e0d := Sd2 _ _ (Sd _ _ e0c)
      generalize upd Hd td (.tup [V.str "r", .ref d1]) = Gd4 at dd gdd gad gbd gcd e0d ⊢
      refine ⟨(by show 4 ≤ sizeLine; decide), fun l1 hl1 => ⟨Nat.zero_le _, fun t1 ht1 => ⟨s2, fun te hte => ⟨(by show 1 ≤ sizeLine; decide), fun l2 hl2 => ?_⟩⟩⟩⟩
      have X1 := same_new (o := .lst [V.ref ta, .ref tb, .ref tc, .ref td]) hl1
      have X2 := same_new (o := .tup []) ht1
      have X3 := same_new (o := .tup [V.str "s", .ref t1]) hte
      have X4 := same_new (o := .lst [V.ref te]) hl2
      have XX := X1.trans (X2.trans (X3.trans X4))
      have el1 := X4 _ _ (X3 _ _ (X2 _ _ (show upd Gd4 l1 (.lst [V.ref ta, .ref tb, .ref tc, .ref td]) l1 = _ from upd_same)))
      have et1 := X4 _ _ (X3 _ _ (show upd (upd Gd4 l1 (.lst [V.ref ta, .ref tb, .ref tc, .ref td])) t1 (.tup []) t1 = _ from upd_same))
      have ete := X4 _ _ (show upd (upd (upd Gd4 l1 (.lst [V.ref ta, .ref tb, .ref tc, .ref td])) t1 (.tup [])) te (.tup [V.str "s", .ref t1]) te = _ from upd_same)
      have el2 : upd (upd (upd (upd Gd4 l1 (.lst [V.ref ta, .ref tb, .ref tc, .ref td])) t1 (.tup [])) te (.tup [V.str "s", .ref t1])) l2 (.lst [V.ref te]) l2 = some (.lst [V.ref te]) := upd_same
      generalize upd (upd (upd (upd Gd4 l1 (.lst [V.ref ta, .ref tb, .ref tc, .ref td])) t1 (.tup [])) te (.tup [V.str "s", .ref t1])) l2 (.lst [V.ref te]) = G6 at XX el1 et1 ete el2 ⊢
      have d6 := dd.same XX
      have ge : Gd p 100 600 2 G6 (.ref te) := gd_own (xs := []) ete et1 (tup_np d6 ete) (tup_np d6 et1) (nm1 _ (by simp)) (fun y hy => nomatch hy) (Nat.zero_le _)
      have g4 : Gs p 100 600 2 G6 [V.ref ta, .ref tb, .ref tc, .ref td] 2408 := ((gad.same XX).one).app (((gbd.same XX).one).app (((gcd.same XX).one).app ((gdd.same XX).one)))
      refine ⟨_, rfl, l2, j, _, rfl, rfl, el2, by omega, by omega, ?_, fun l3 hl3 => ?_⟩
      · refine Nat.le_trans (show _ ≤ 20 from ?_) (by decide)
        show 1 * (j : Int).toNat ≤ 20
        omega
      have hR : Gs p 100 600 2 G6 (List.replicate (j : Int).toNat [V.ref te]).flatten 602 ∧ (List.replicate (j : Int).toNat [V.ref te]).flatten.length ≤ 1 := by
        have hj : j = 0 ∨ j = 1 := by omega
        rcases hj with rfl | rfl
        · exact ⟨⟨[], .nil, pnil, Nat.zero_le _⟩, Nat.zero_le _⟩
        · exact ⟨ge.one, Nat.le_refl _⟩
      generalize (List.replicate (j : Int).toNat [V.ref te]).flatten = R at hR ⊢
      obtain ⟨gR, lR⟩ := hR
      have Y1 := same_new (o := .lst R) hl3
      refine ⟨_, _, _, _, rfl, rfl, Y1 _ _ el1, upd_same, ?_, fun l4 hl4 => ?_⟩
      · refine Nat.le_trans (show _ ≤ 20 from ?_) (by decide)
        show 4 + _ ≤ 20
        omega
      have Y2 := same_new (o := .lst ([V.ref ta, .ref tb, .ref tc, .ref td] ++ R)) hl4
      refine ⟨_, rfl, _, rfl, .inl ⟨l4, _, rfl, SqL.of upd_same, fun t5 ht5 => ⟨Nat.zero_le _, fun t6 ht6 => ⟨(by show 3 ≤ sizeLine; decide), fun t7 ht7 => ?_⟩⟩⟩⟩
      have Y3 := same_new (o := .tup ([V.ref ta, .ref tb, .ref tc, .ref td] ++ R)) ht5
      have Y4 := same_new (o := .tup []) ht6
      have Y5 := same_new (o := .tup [V.ref t0, .ref t5, .ref t6]) ht7
      have YY := Y1.trans (Y2.trans (Y3.trans (Y4.trans Y5)))
      have u5 := Y5 _ _ (Y4 _ _ (show upd (upd (upd G6 l3 (.lst R)) l4 (.lst ([V.ref ta, .ref tb, .ref tc, .ref td] ++ R))) t5 (.tup ([V.ref ta, .ref tb, .ref tc, .ref td] ++ R)) t5 = _ from upd_same))
      have u6 := Y5 _ _ (show upd (upd (upd (upd G6 l3 (.lst R)) l4 (.lst ([V.ref ta, .ref tb, .ref tc, .ref td] ++ R))) t5 (.tup ([V.ref ta, .ref tb, .ref tc, .ref td] ++ R))) t6 (.tup []) t6 = _ from upd_same)
      have u7 : upd (upd (upd (upd (upd G6 l3 (.lst R)) l4 (.lst ([V.ref ta, .ref tb, .ref tc, .ref td] ++ R))) t5 (.tup ([V.ref ta, .ref tb, .ref tc, .ref td] ++ R))) t6 (.tup [])) t7 (.tup [V.ref t0, .ref t5, .ref t6]) t7 = some (.tup [V.ref t0, .ref t5, .ref t6]) := upd_same
      generalize upd (upd (upd (upd (upd G6 l3 (.lst R)) l4 (.lst ([V.ref ta, .ref tb, .ref tc, .ref td] ++ R))) t5 (.tup ([V.ref ta, .ref tb, .ref tc, .ref td] ++ R))) t6 (.tup [])) t7 (.tup [V.ref t0, .ref t5, .ref t6]) = G8 at YY u5 u6 u7 ⊢
      have d8 := d6.same YY
      refine q _ _ (gd3 (w1 := 600) (w2 := 6000) (w3 := 3) u7 (tup_np d8 u7) (gd_nms (m := 6) (YY _ _ (XX _ _ e0d)) (tup_np d8 (YY _ _ (XX _ _ e0d))) six (by decide) (by decide) (by decide))
        (gs_tup u5 (tup_np d8 u5) ((g4.app gR).same YY) ?_ (by decide)) (gd_unit u6 (tup_np d8 u6) (Nat.le_refl _)) (by decide)) d8
      rw [List.length_append]
      show 4 + _ ≤ 100
      omega
    rw [if_neg h2]
    show tNext _ _ _
    -- kind 3
    refine ⟨Nat.zero_le _, fun l0 hl0 => ?_⟩
    have S0 := same_new (o := .lst []) hl0
    have e05 := S0 _ _ e52
    refine ⟨_, rfl, by decide, by decide, ?_⟩
    refine for_range (lo := 0) (n := 6) (fun i σ H' => ∃ (o11 o12 o13 o14 : Option V), σ = [some (.ref p), some (.ref a), some (.ref ka), some (.ref oa), some cc, some (.ref l5), some (.int r6), some (.int (j : Nat)), none, none, some (.ref l0), o11, o12, o13, o14, none, none] ∧ RT G l0 (15 * i) H') ?_ ?_ ?_
    · exact ⟨none, none, none, none, rfl, [], upd_same, fun q hq => absurd hq (by simp), Nat.zero_le _, S0⟩
    · rintro i σ H4 hi ⟨o11, o12, o13, o14, rfl, h4⟩
      refine ⟨_, rfl, _, _, rfl, rfl, _, _, rfl, ⟨by omega, by omega, by decide, by decide⟩, ?_⟩
      refine for_range (lo := (0 + (i : Int)) + 1) (n := (6 - ((0 + (i : Int)) + 1)).toNat) (fun k σ H' => ∃ (o12 o13 o14 : Option V), σ = [some (.ref p), some (.ref a), some (.ref ka), some (.ref oa), some cc, some (.ref l5), some (.int r6), some (.int (j : Nat)), none, none, some (.ref l0), some (.int (0 + (i : Int))), o12, o13, o14, none, none] ∧ RT G l0 (15 * i + 3 * k) H') ?_ ?_ ?_
      · exact ⟨o12, o13, o14, rfl, h4⟩
      · rintro k σ H5 hk ⟨o12, o13, o14, rfl, h5⟩
        have s2 : 2 ≤ sizeLine := by decide
        refine ⟨s2, fun ta hta => ⟨s2, fun tb htb => ⟨s2, fun tc htc => ⟨(by show 3 ≤ sizeLine; decide), fun lB hlB => ?_⟩⟩⟩⟩
        have Sa := same_new (o := .tup [V.bl true, .bl true]) hta
        have Sb := same_new (o := .tup [V.bl false, .bl false]) htb
        have Sc := same_new (o := .tup [V.bl true, .bl false]) htc
        have Sl := same_new (o := .lst [V.ref ta, .ref tb, .ref tc]) hlB
        have xa := Sl _ _ (Sc _ _ (Sb _ _ (show upd H5 ta (.tup [V.bl true, .bl true]) ta = _ from upd_same)))
        have xb := Sl _ _ (Sc _ _ (show upd (upd H5 ta (.tup [V.bl true, .bl true])) tb (.tup [V.bl false, .bl false]) tb = _ from upd_same))
        have xc := Sl _ _ (show upd (upd (upd H5 ta (.tup [V.bl true, .bl true])) tb (.tup [V.bl false, .bl false])) tc (.tup [V.bl true, .bl false]) tc = _ from upd_same)
        have xl : upd (upd (upd (upd H5 ta (.tup [V.bl true, .bl true])) tb (.tup [V.bl false, .bl false])) tc (.tup [V.bl true, .bl false])) lB (.lst [V.ref ta, .ref tb, .ref tc]) lB = some (.lst [V.ref ta, .ref tb, .ref tc]) := upd_same
        have h6 := h5.same (Sa.trans (Sb.trans (Sc.trans Sl)))
        have nl : l0 ≠ lB := by
          obtain ⟨_, e, _⟩ := h5
          exact ne_of_none (Sc _ _ (Sb _ _ (Sa _ _ e))) hlB
        generalize upd (upd (upd (upd H5 ta (.tup [V.bl true, .bl true])) tb (.tup [V.bl false, .bl false])) tc (.tup [V.bl true, .bl false])) lB (.lst [V.ref ta, .ref tb, .ref tc]) = H6 at xa xb xc xl h6 ⊢
        have nlB : l0 ≠ lB := nl
        have bt : BT ta tb tc lB H6 := ⟨xa, xb, xc, xl⟩
        refine ⟨lB, rfl, ⟨_, SqL.of xl⟩, ?_⟩
        refine for_list (K := K) (a := lB) (xs := [V.ref ta, .ref tb, .ref tc]) (fun m σ H' => ∃ (o13 o14 : Option V), σ = [some (.ref p), some (.ref a), some (.ref ka), some (.ref oa), some cc, some (.ref l5), some (.int r6), some (.int (j : Nat)), none, none, some (.ref l0), some (.int (0 + (i : Int))), some (.int (0 + (i : Int) + 1 + (k : Int))), o13, o14, none, none] ∧ RT G l0 (15 * i + 3 * k + m) H' ∧ BT ta tb tc lB H') ?_ ?_ ?_ ?_
        · exact ⟨o13, o14, rfl, h6, bt⟩
        · rintro m σ H7 _ ⟨_, _, _, _, bt7⟩
          exact SqL.of bt7.l
        · rintro m x σ H7 hx ⟨o13, o14, rfl, h7, bt7⟩
          obtain ⟨hm, t, b1, b2, rfl, et⟩ := pair3 bt7.a bt7.b bt7.c hx
          refine ⟨t, _, rfl, SqT.of et, rfl, _, _, rfl, _, _, rfl, rfl, ?_⟩
          have e57 : H7 l5 = some (.lst (moreW.map V.str)) := by
            obtain ⟨_, _, _, _, S7⟩ := h7
            exact S7 _ _ e52
          have hb : k < 6 := by omega
          obtain ⟨y1, hy1, my1⟩ := more_at (r := 0 + (i : Int)) (by omega) (by omega)
          obtain ⟨y2, hy2, my2⟩ := more_at (r := 0 + (i : Int) + 1 + (k : Int)) (by omega) (by omega)
          obtain ⟨ac, eac⟩ : ∃ ac, H7 l0 = some (.lst ac) := let ⟨_, e, _⟩ := h7; ⟨_, e⟩
          refine ⟨_, rfl, .inl ⟨rfl, _, SqL.of eac⟩, ?_⟩
          refine ⟨_, rfl, _, rfl, l5, _, _, _, rfl, rfl, SqL.of e57, hy1, _, rfl, s2, fun t1 ht1 => ?_⟩
          have Z1 := same_new (o := .tup [V.str y1, .bl b1]) ht1
          refine ⟨_, rfl, _, rfl, l5, _, _, _, rfl, rfl, SqL.of (Z1 _ _ e57), hy2, _, rfl, s2, fun t2 ht2 => ⟨s2, fun t3 ht3 => ?_⟩⟩
          have Z2 := same_new (o := .tup [V.str y2, .bl b2]) ht2
          have Z3 := same_new (o := .tup [V.ref t1, .ref t2]) ht3
          have f1 := Z3 _ _ (Z2 _ _ (show upd H7 t1 (.tup [V.str y1, .bl b1]) t1 = _ from upd_same))
          have f2 := Z3 _ _ (show upd (upd H7 t1 (.tup [V.str y1, .bl b1])) t2 (.tup [V.str y2, .bl b2]) t2 = _ from upd_same)
          have f3 : upd (upd (upd H7 t1 (.tup [V.str y1, .bl b1])) t2 (.tup [V.str y2, .bl b2])) t3 (.tup [V.ref t1, .ref t2]) t3 = some (.tup [V.ref t1, .ref t2]) := upd_same
          have h8 := h7.same (Z1.trans (Z2.trans Z3))
          have bt8 := bt7.same (Z1.trans (Z2.trans Z3))
          generalize upd (upd (upd H7 t1 (.tup [V.str y1, .bl b1])) t2 (.tup [V.str y2, .bl b2])) t3 (.tup [V.ref t1, .ref t2]) = H8 at f1 f2 f3 h8 bt8 ⊢
          obtain ⟨acc, g1, g2, g3⟩ := h8.step my1 my2 hl0 (by omega) f1 f2 f3
          exact ⟨l0, acc, _, rfl, rfl, g1, g2, _, _, rfl, g3, bt8.put g1 nlB⟩
        · rintro σ H7 ⟨o13, o14, rfl, h7, _⟩
          exact ⟨_, o13, o14, rfl, h7⟩
      · rintro σ H5 ⟨o12, o13, o14, rfl, h5⟩
        exact ⟨_, o12, o13, o14, rfl, h5.up (by omega)⟩
    · rintro σ H5 ⟨o11, o12, o13, o14, rfl, h5⟩
      obtain ⟨T, eT, hT, lT, S5⟩ := h5
      have e55 := S5 _ _ e52
      have c6 : cutV (moreW.map V.str) none (some 6) = (moreW.take 6).map V.str := cut_take (r := 6)
      have six : ∀ y ∈ moreW.take 6, Nm y := fun y hy => more_nm y (List.mem_of_mem_take hy)
      refine ⟨_, rfl, _, rfl, l5, _, rfl, SqL.of e55, fun t1 ht1 => ?_⟩
      rw [c6]
      have Z1 := same_new (o := .lst ((moreW.take 6).map V.str)) ht1
      refine .inl ⟨t1, _, rfl, SqL.of upd_same, fun t2 ht2 => ⟨Nat.zero_le _, fun t3 ht3 => ?_⟩⟩
      have Z2 := same_new (o := .tup ((moreW.take 6).map V.str)) ht2
      have Z3 := same_new (o := .tup []) ht3
      have f2 := Z3 _ _ (show upd (upd H5 t1 (.lst ((moreW.take 6).map V.str))) t2 (.tup ((moreW.take 6).map V.str)) t2 = _ from upd_same)
      have f3 : upd (upd (upd H5 t1 (.lst ((moreW.take 6).map V.str))) t2 (.tup ((moreW.take 6).map V.str))) t3 (.tup []) t3 = some (.tup []) := upd_same
      have ZZ := Z1.trans (Z2.trans Z3)
      generalize upd (upd (upd H5 t1 (.lst ((moreW.take 6).map V.str))) t2 (.tup ((moreW.take 6).map V.str))) t3 (.tup []) = H6 at f2 f3 ZZ ⊢
      have so : Sorty T := ⟨fun d hd e he => by
          obtain ⟨p1, hp1, rfl⟩ := List.mem_map.mp hd
          obtain ⟨p2, hp2, rfl⟩ := List.mem_map.mp he
          obtain ⟨⟨x1, y1, c1, c2, _, _, e1⟩, _⟩ := hT p1 hp1
          obtain ⟨⟨x2, y2, c3, c4, _, _, e2⟩, _⟩ := hT p2 hp2
          rw [e1, e2]
          exact alike_cl _ _, fun p1 hp1 => by
          obtain ⟨⟨x1, y1, c1, c2, _, _, e1⟩, _⟩ := hT p1 hp1
          exact ⟨_, e1⟩, fun p1 hp1 => by
          obtain ⟨⟨x1, y1, c1, c2, _, _, e1⟩, _⟩ := hT p1 hp1
          rw [e1]
          exact Nat.le_trans (depth_cl _) (by decide)⟩
      refine ⟨_, rfl, l0, T, rfl, SqL.of (ZZ _ _ eT), fun q' hq' => (hT q' hq').2.same ZZ, so, fun T' b pm _ _ hb => ?_⟩
      have Z4 := same_new (o := .lst (T'.map TRow.v)) hb
      have er : (40 : Int) + (j : Int) = ((40 + j : Nat) : Int) := by omega
      refine ⟨_, rfl, _, _, rfl, rfl, ((40 + j : Nat) : Int), congrArg V.int er, b, _, rfl, SqL.of upd_same, fun t4 ht4 => ?_⟩
      rw [cutV_take, ← List.map_take]
      have Z5 := same_new (o := .lst ((T'.take (40 + j)).map TRow.v)) ht4
      refine .inl ⟨t4, _, rfl, SqL.of upd_same, fun t5 ht5 => ⟨(by show 3 ≤ sizeLine; decide), fun t6 ht6 => ?_⟩⟩
      have Z6 := same_new (o := .tup ((T'.take (40 + j)).map TRow.v)) ht5
      have Z7 := same_new (o := .tup [V.ref t2, .ref t3, .ref t5]) ht6
      have ZA := Z4.trans (Z5.trans (Z6.trans Z7))
      have f5 := Z7 _ _ (show upd (upd (upd H6 b (.lst (T'.map TRow.v))) t4 (.lst ((T'.take (40 + j)).map TRow.v))) t5 (.tup ((T'.take (40 + j)).map TRow.v)) t5 = _ from upd_same)
      have f6 : upd (upd (upd (upd H6 b (.lst (T'.map TRow.v))) t4 (.lst ((T'.take (40 + j)).map TRow.v))) t5 (.tup ((T'.take (40 + j)).map TRow.v))) t6 (.tup [V.ref t2, .ref t3, .ref t5]) t6 = some (.tup [V.ref t2, .ref t3, .ref t5]) := upd_same
      have f2' := ZA _ _ f2
      have f3' := ZA _ _ f3
      generalize upd (upd (upd (upd H6 b (.lst (T'.map TRow.v))) t4 (.lst ((T'.take (40 + j)).map TRow.v))) t5 (.tup ((T'.take (40 + j)).map TRow.v))) t6 (.tup [V.ref t2, .ref t3, .ref t5]) = H8 at ZA f5 f6 f2' f3' ⊢
      have d8 := d2.same (S5.trans (ZZ.trans ZA))
      obtain ⟨ys8, hy8⟩ := d8.s.lst
      refine q _ _ (gd3 (w1 := 600) (w2 := 3) (w3 := 70000) f6 (tup_np d8 f6) (gd_nms (m := 6) f2' (tup_np d8 f2') six (by decide) (by decide) (by decide)) (gd_unit f3' (tup_np d8 f3') (Nat.le_refl _))
        (gd_rows (b := 1600) (k := 2) (m := 41) f5 (tup_np d8 f5) (fun q' hq' => ?_) ?_ (by decide) (by decide)) (by decide)) d8
      · obtain ⟨⟨x1, y1, c1, c2, n1, n2, e1⟩, dq⟩ := hT q' (pm.mem_iff.mp (List.mem_of_mem_take hq'))
        refine ⟨dat_off hy8 (by rw [e1]; exact keyable_cl _) ((dq.same ZZ).same ZA), ?_⟩
        rw [e1]
        exact fit_cl (pcons' n1 n2) (by show 2 ≤ 15; decide)
      · rw [List.length_take]
        omega
end
end S1

set_option Elab.async false
set_option linter.all false
set_option maxRecDepth 100000
set_option maxHeartbeats 4000000
/-! a call of a def by keywords alone -/
namespace S1
open PySem PySem.W PySem.Spec PyProof.Rows L2
/-- how a call by keywords alone binds: g puts their values in the parameters' order -/
structure KB0 (K : PySem.W.Frag) (fd : FuncData) (ps ks : List Str) (g : List Value → List Value) (gV : List V → List V) : Prop where
  to : ∀ (s : Shared) (ws : List Value), K.In s.heap → ws.length = ks.length → BindsTo s fd ⟨[], ks.zip ws⟩ (ps.zip (g ws))
  rel : ∀ {zs : List V} {ws : List Value}, Vals zs ws → Vals (gV zs) (g ws)
def tCallK0 (sp : Sp) (gV : List V → List V) (n : Nat) (E : XK) (tk : TA) : TE := fun σ H Q => tk σ H fun zs H2 => zs.length = n ∧ sp (gV zs) H2 Q E
section
variable {X : Cx} {CX : CXT} {k : Nat} {f : Addr} {fd : FuncData} {ps ks : List Str} {sp : Sp} {E : XK} {x : Str} {p pos : Pos} {kws : List Keyword} {tk : TA} {g : List Value → List Value} {gV : List V → List V}
theorem run_fnk0 {pins : List (Addr × Obj)} {σ : L2.St} {H : Hp} {s : Shared} {Q : VK} {ws : List Value} {zs : List V} (F : FnOk X.prog X.w X.K X.mg X.base CX k f fd ps sp) (hr : Room k X.A) (hb : KB0 X.K fd ps ks g gV) (hx : Passes CX X E)
    (I : Inv X pins σ H s) (rz : Vals zs ws) (hn : zs.length = ks.length) (h : sp (gV zs) H Q E) : wpAny (model X.prog X.w) X.A (call (.ref f) [] (ks.zip ws)) (EP X pins σ Q) X.xe s := by
  have r2 := hb.rel rz
  have hl : ws.length = ks.length := by rw [← rz.length]; exact hn
  refine wpAny_call (codeAny_mono (F.run X.A X.stack s H ⟨[], ks.zip ws⟩ (g ws) (gV zs) Q E hr I.env0 (hb.to s ws I.kIn hl) r2 h) fun r s' hq => ?_)
  cases r with
  | error e => exact hx pins σ H s e s' I hq
  | ok fl =>
    cases fl with
    | ret u => exact I.after hq
    | next => exact False.elim hq
    | brk => exact False.elim hq
    | cont => exact False.elim hq
/-- f(k = v, ..) -/
theorem pe_callK0 (F : FnOk X.prog X.w X.K X.mg X.base CX k f fd ps sp) (hr : Room k X.A) (hg : Gl X x) (hm : X.mg x = some (.ref f)) (hk : PySem.W.keepIn X.K (.ref f) = true) (hb : KB0 X.K fd ps ks g gV) (hx : Passes CX X E)
    (hkw : PK X kws tk) (hall : (backToKw pos (keywordEach kws X.env)).all (·.1.isSome) = true := by rfl) (hks : (backToKw pos (keywordEach kws X.env)).filterMap (·.1) = ks := by rfl)
    (hdb : (x == ("__debug__" : Str)) = false := by decide)
    (hpl : ((backTo pos (starEach [] X.env)).any (·.1) || (backToKw pos (keywordEach kws X.env)).any (·.1.isNone)) = false := by rfl) :
    PE X (.Call (.Name x p) [] kws pos) (tCallK0 sp gV ks.length E tk) := by
  refine ⟨fun pins s σ H Q I h => ?_⟩
  refine wpAny_Call_Name_kw (ld_glob I hg hm ?_ hdb)
  refine PySem.W.callWith_KW0 (h₀ := X.base) I.ok.mod.kin hk hall (thn (hkw.run pos pins s σ H _ I h) fun ws s2 ⟨zs, H2, I2, rz, hn, q2⟩ => ⟨I2.kIn, ?_⟩) hpl
  rw [hks]
  exact run_fnk0 F hr hb hx I2 rz hn q2
end
section
variable {K : PySem.W.Frag}
theorem vals_rev {zs : List V} {ws : List Value} (h : Vals zs ws) : Vals zs.reverse ws.reverse := by
  induction h with
  | nil => exact .nil
  | cons a b ih =>
    rw [List.reverse_cons, List.reverse_cons]
    exact Vals.append ih (.cons a .nil)
/-- the keywords in the parameters' order -/
theorem Fun.kb1 {x qual a : Str} {st : Stmt} {f : Addr} {fd : FuncData} (F : Fun K x qual st f fd)
    (h : ∀ (kV doc pm : Value) (an : Option Addr) (cdv ct u : Value), bindArgs (PySem.W.fnOf x qual (defArgs st) (defBody st) (defScope st) .none kV doc pm an cdv ct) ⟨[], [(a, u)]⟩ = pure [(a, u)]) : KB0 K fd [a] [a] id id := by
  obtain ⟨oc, od, kV, doc, pm, an, cdv, ct, osl, rfl, lk, hcd⟩ := F.ex
  refine ⟨fun s ws X l => ?_, fun r => r⟩
  match ws, l with
  | [u], _ => exact .of_eq (h kV doc pm an cdv ct u)
/-- two keywords, the last first -/
theorem Fun.kb2 {x qual a b : Str} {st : Stmt} {f : Addr} {fd : FuncData} (F : Fun K x qual st f fd)
    (h : ∀ (kV doc pm : Value) (an : Option Addr) (cdv ct u v : Value), bindArgs (PySem.W.fnOf x qual (defArgs st) (defBody st) (defScope st) .none kV doc pm an cdv ct) ⟨[], [(b, u), (a, v)]⟩ = pure [(a, v), (b, u)]) : KB0 K fd [a, b] [b, a] List.reverse List.reverse := by
  obtain ⟨oc, od, kV, doc, pm, an, cdv, ct, osl, rfl, lk, hcd⟩ := F.ex
  refine ⟨fun s ws X l => ?_, fun r => ?_⟩
  · match ws, l with
    | [u, v], _ => exact .of_eq (h kV doc pm an cdv ct u v)
  · exact vals_rev r
/-- three keywords, the last first -/
theorem Fun.kb3 {x qual a b c : Str} {st : Stmt} {f : Addr} {fd : FuncData} (F : Fun K x qual st f fd)
    (h : ∀ (kV doc pm : Value) (an : Option Addr) (cdv ct u v z : Value), bindArgs (PySem.W.fnOf x qual (defArgs st) (defBody st) (defScope st) .none kV doc pm an cdv ct) ⟨[], [(c, u), (b, v), (a, z)]⟩ = pure [(a, z), (b, v), (c, u)]) : KB0 K fd [a, b, c] [c, b, a] List.reverse List.reverse := by
  obtain ⟨oc, od, kV, doc, pm, an, cdv, ct, osl, rfl, lk, hcd⟩ := F.ex
  refine ⟨fun s ws X l => ?_, fun r => ?_⟩
  · match ws, l with
    | [u, v, z], _ => exact .of_eq (h kV doc pm an cdv ct u v z)
  · exact vals_rev r
end
end S1

set_option Elab.async false
set_option linter.all false
set_option maxRecDepth 100000
set_option maxHeartbeats 8000000
/-! one object, judged twice -/
namespace S1
open PySem PySem.W PySem.Spec PyProof.Rows L2
theorem seq_cut {a b : TS} {D : Ends} {σ : L2.St} {H : Hp} (R : L2.St → Hp → Prop) (k : ∀ σ' H', R σ' H' → b D σ' H') (h : ∀ N : L2.St → Hp → Prop, (∀ σ' H', R σ' H' → N σ' H') → a { D with nx := N } σ H) : tSeq a b D σ H := h _ k
abbrev nJd : List Str := ["saying", "value", "kind", "words", "known", "told", "due", "kinds", "word", "sight", "at", "one"]
def spJudged : Sp := fun vs H Q _ => ∃ (v u : V) (sy : Say) (d : PyData) (n w k kind : Nat), vs = [v, u, .int (kind : Nat)] ∧ DatS H v sy ∧ SayOk 6 8 120 40 sy ∧ Dat H u d ∧ Fit n w k d ∧ n ≤ 1000 ∧ w ≤ 1000000 ∧ k ≤ 40 ∧
  ∀ H', Same H H' → Q (.bl true) H'
section
variable {P : Program} {w : World} {K : PySem.W.Frag} {mg : Str → Option Value} {base : Heap}
theorem kb_isSaying {f : Addr} {fd : FuncData} (F : Fun K "is_saying" "is_saying" sIsSaying f fd) : KB0 K fd ["value"] ["value"] id id := Fun.kb1 F fun _ _ _ _ _ _ _ => rfl
theorem kb_isClause {f : Addr} {fd : FuncData} (F : Fun K "is_clause" "is_clause" sIsClause f fd) : KB0 K fd ["saying", "value"] ["value", "saying"] List.reverse List.reverse := Fun.kb2 F fun _ _ _ _ _ _ _ _ => rfl
theorem kb_isPlay {f : Addr} {fd : FuncData} (F : Fun K "is_play" "is_play" sIsPlay f fd) : KB0 K fd ["saying", "value"] ["value", "saying"] List.reverse List.reverse := Fun.kb2 F fun _ _ _ _ _ _ _ _ => rfl
theorem kb_isAnswers {f : Addr} {fd : FuncData} (F : Fun K "is_answers" "is_answers" sIsAnswers f fd) : KB0 K fd ["saying", "value"] ["value", "saying"] List.reverse List.reverse := Fun.kb2 F fun _ _ _ _ _ _ _ _ => rfl
theorem scJd : FnScope nJd ["saying", "value", "kind"] (defScope sJudged) := ⟨rfl, rfl, rfl, by decide +kernel, rfl, by decide +kernel, by decide +kernel⟩
theorem ok_judged {f fIs fIc fIp fIa fJs fJc fJr : Addr} {fd fdIs fdIc fdIp fdIa fdJs fdJc fdJr : FuncData} (F : Fun K "_law_judged" "_law_judged" sJudged f fd) (B : Blt mg) (zr : mg "repr" = none)
    (Is : Has K mg "is_saying" sIsSaying ["value"] fIs fdIs) (Ic : Has K mg "is_clause" sIsClause ["saying", "value"] fIc fdIc) (Ip : Has K mg "is_play" sIsPlay ["saying", "value"] fIp fdIp) (Ia : Has K mg "is_answers" sIsAnswers ["saying", "value"] fIa fdIa)
    (Js : Has K mg "_law_is_saying" sJSaying ["value"] fJs fdJs) (Jc : Has K mg "_law_is_clause" sJClause ["words", "value"] fJc fdJc) (Jr : Has K mg "_law_is_row" sJRow ["value", "size"] fJr fdJr)
    (GIs : FnOk P w K mg base CX0 8 fIs fdIs ["value"] (spJ sayB)) (GIc : FnOk P w K mg base CX0 8 fIc fdIc ["saying", "value"] (spJS fun s d => isClO s.names d)) (GIp : FnOk P w K mg base CX0 8 fIp fdIp ["saying", "value"] (spJS fun s d => truthsB s.picks.length d))
    (GIa : FnOk P w K mg base CX0 8 fIa fdIa ["saying", "value"] (spJS fun s d => ansB s.owns d))
    (GJs : FnOk P w K mg base CX0 4 fJs fdJs ["value"] (spJ sayB)) (GJc : FnOk P w K mg base CX0 2 fJc fdJc ["words", "value"] spClW) (GJr : FnOk P w K mg base CX0 1 fJr fdJr ["value", "size"] spTruthsN) :
    FnOkG P w K mg base 9 f fd ["saying", "value", "kind"] spJudged := by
  refine F.okG scJd (fun vs H Q E h => ?_) (fun cdv A outer s H vs Q E hG0 hr h => ?_)
  · obtain ⟨v, u, sy, d, n, w, k, kind, rfl, _⟩ := h
    rfl
  · obtain ⟨v, u, sy, d, n, wn, k, kind, rfl, D, ok, Du, ft, hn, hw, hk, q⟩ := h
    have hr1 := hr.mono (show 1 ≤ 8 by decide)
    have hr2 := hr.mono (show 2 ≤ 8 by decide)
    have hr4 := hr.mono (show 4 ≤ 8 by decide)
    have hG : (A.deeper (envOfC "_law_judged" (defScope sJudged) s.heap.objs.size f cdv)).guards = some [] := hG0
    have hu : (A.deeper (envOfC "_law_judged" (defScope sJudged) s.heap.objs.size f cdv)).units + 64 < cLine := hr1.units
    refine ⟨_, pss_cons (ps_par (i := 3) (j := 4) rfl scJd.nd rfl rfl (by decide) rfl rfl
        (pa_cons (pe_op op_cat (pe_callTy call_list_of (by rfl) B.list (by decide +kernel) (pa_cons (pe_ix ix_tup (pv 0) pe_int (fun _ _ => rfl)) pa_nil))
            (pe_lc (own := [("word", 8), ("sight", 9)]) (g := gTup K 2 (gCons (gName 8) (gCons (gName 9) gNil))) (tt := tYes) (te := tVar 8) rfl scJd.nd (pi_tup (pe_ix ix_tup (pv 0) pe_int (fun _ _ => rfl))) (blkOk_by (N := nJd) (sc := defScope sJudged) (by decide +kernel))
              (fun _ _ _ _ _ => by exact pg_tup rfl (pgs_cons (pg_name (i := 8) scJd.nd rfl (.inl rfl)) (pgs_cons (pg_name (i := 9) scJd.nd rfl (.inl rfl)) pgs_nil))) (fun _ _ _ _ _ => pts_nil) (fun _ _ _ _ _ => by exact pv 8)))
          (pa_cons (pe_callB (call_reprD hG (by exact hu)) (by rfl) zr (by decide +kernel) (pa_cons (pv 1) pa_nil)) pa_nil)) (by with_unfolding_all rfl))
      (pss_cons (ps_if (pt_cmpR op_eq (pv 2) pe_int (nomark _))
        (pss_one (ps_par (i := 5) (j := 6) rfl scJd.nd rfl rfl (by decide) rfl rfl
          (pa_cons (pe_lst (pa_cons (pe_call GIs hr rfl Is.g Is.F.kp Is.b .nil pass0 (pa_cons (pv 1) pa_nil)) (pa_cons (pe_callK0 GIs hr rfl Is.g Is.F.kp (kb_isSaying Is.F) pass0 (pk_cons (pv 1) pk_nil)) pa_nil)))
            (pa_cons (pe_call GJs hr4 rfl Js.g Js.F.kp Js.b .nil pass0 (pa_cons (pv 1) pa_nil)) pa_nil)) (by with_unfolding_all rfl)))
        (pss_one (ps_if (pt_cmpR op_eq (pv 2) pe_int (nomark _))
          (pss_cons (ps_set (i := 5) scJd.nd rfl (.inl rfl) (pe_lst (pa_cons (pe_call GIc hr rfl Ic.g Ic.F.kp Ic.b .nil pass0 (pa_cons (pv 0) (pa_cons (pv 1) pa_nil))) (pa_cons (pe_callK0 GIc hr rfl Ic.g Ic.F.kp (kb_isClause Ic.F) pass0 (pk_cons (pv 1) (pk_cons (pv 0) pk_nil))) pa_nil))))
            (pss_one (ps_set (i := 6) scJd.nd rfl (.inl rfl) (pe_call GJc hr2 rfl Jc.g Jc.F.kp Jc.b .nil pass0 (pa_cons (pv 3) (pa_cons (pv 1) pa_nil))))))
          (pss_one (ps_if (pt_cmpR op_eq (pv 2) pe_int (nomark _))
            (pss_one (ps_par (i := 5) (j := 6) rfl scJd.nd rfl rfl (by decide) rfl rfl
              (pa_cons (pe_lst (pa_cons (pe_call GIp hr rfl Ip.g Ip.F.kp Ip.b .nil pass0 (pa_cons (pv 0) (pa_cons (pv 1) pa_nil))) (pa_cons (pe_callK0 GIp hr rfl Ip.g Ip.F.kp (kb_isPlay Ip.F) pass0 (pk_cons (pv 1) (pk_cons (pv 0) pk_nil))) pa_nil)))
                (pa_cons (pe_call GJr hr1 rfl Jr.g Jr.F.kp Jr.b .nil pass0 (pa_cons (pv 1) (pa_cons (pe_callB call_len_seq (by rfl) B.len (by decide +kernel) (pa_cons (pe_ix ix_tup (pv 0) pe_int (fun _ _ => rfl)) pa_nil)) pa_nil))) pa_nil)) (by with_unfolding_all rfl)))
            (pss_cons (ps_set (i := 5) scJd.nd rfl (.inl rfl) (pe_lst (pa_cons (pe_call GIa hr rfl Ia.g Ia.F.kp Ia.b .nil pass0 (pa_cons (pv 0) (pa_cons (pv 1) pa_nil))) (pa_cons (pe_callK0 GIa hr rfl Ia.g Ia.F.kp (kb_isAnswers Ia.F) pass0 (pk_cons (pv 1) (pk_cons (pv 0) pk_nil))) pa_nil))))
            (pss_cons (ps_set (i := 6) scJd.nd rfl (.inl rfl) (pe_and (pe_callB call_isi (by rfl) B.isi (by decide +kernel) (pa_cons (pv 1) (pa_cons (pe_bltn (v := V.ty "tuple") (by rfl) B.tuple (by decide +kernel) rfl) pa_nil)))
                (pe_one (pe_cmpR op_eq (pe_callB call_len_seq (by rfl) B.len (by decide +kernel) (pa_cons (pv 1) pa_nil)) (pe_callB call_len_seq (by rfl) B.len (by decide +kernel) (pa_cons (pe_ix ix_tup (pv 0) pe_int (fun _ _ => rfl)) pa_nil)) (nomark _)))))
            (pss_one (ps_if (pt_val (pv 6))
              (pss_one (ps_set (i := 6) scJd.nd rfl (.inl rfl) (pe_callB (cr_all rfl) (by rfl) B.all (by decide +kernel) (pa_cons (pe_lc (own := [("at", 10)]) (g := gName 10) (tt := tYes)
                  (te := tCall spTruthsN [] E0 (tCons (tOp (rIxT K) (tVar 1) (tVar 10)) (tCons (tOp (rI CPow fun i j => V.int (i * 2 ^ j.toNat)) (tC (V.int 1)) (tCB (fun xs H Q => ∃ p ys, xs = [V.ref p] ∧ (SqL K H p ys ∨ SqT K H p ys) ∧ Q (V.int ys.length) H) (tCons (tOp (rIxT K) (tOp (rIxT K) (tOp (rIxT K) (tVar 0) (tC (V.int 1))) (tVar 10)) (tC (V.int 1))) tNil))) tNil))) rfl scJd.nd
                  (pi_range1 rfl B.range (pa_cons (pe_callB call_len_seq (by rfl) B.len (by decide +kernel) (pa_cons (pv 1) pa_nil)) pa_nil)) (blkOk_by (N := nJd) (sc := defScope sJudged) (by decide +kernel))
                  (fun _ _ _ _ _ => pg_name (i := 10) scJd.nd rfl (Or.inl rfl)) (fun _ _ _ _ _ => pts_nil)
                  (fun _ _ _ _ _ => by exact pe_call GJr (by exact hr1) (by rfl) Jr.g Jr.F.kp Jr.b .nil pass0 (pa_cons (pe_ix ix_tup (pv 1) (pv 10) (fun _ _ => rfl))
                    (pa_cons (pe_op op_shl pe_int (pe_callB call_len_seq (by rfl) B.len (by decide +kernel) (pa_cons (pe_ix ix_tup (pe_ix ix_tup (pe_ix ix_tup (pv 0) pe_int (fun _ _ => rfl)) (pv 10) (fun _ _ => rfl)) pe_int (fun _ _ => rfl)) pa_nil))) pa_nil)))) pa_nil))))
              pss_nil)))))))))
      (pss_cons (ps_setLc (i := 7) (own := [("one", 11)]) (g := gName 11) (tt := tYes) (te := tCB (rIsi K) (tCons (tVar 11) (tCons (tC (V.ty "bool")) tNil))) rfl scJd.nd rfl rfl (sw_true rfl rfl rfl (by decide +kernel)) (pi_list (pv 5)) (blkOk_by (N := nJd) (sc := defScope sJudged) (by decide +kernel))
          (fun _ _ _ _ _ => pg_name (i := 11) scJd.nd rfl (Or.inl rfl)) (fun _ _ _ _ _ => pts_nil) (fun _ _ _ _ _ => by exact pe_callB call_isi (by rfl) B.isi (by decide +kernel) (pa_cons (pv 11) (pa_cons (pe_bltn (v := V.ty "bool") (by rfl) B.bool (by decide +kernel) rfl) pa_nil))))
      (pss_one (ps_ret (pe_and (pe_cmpR (op_eqP (by exact hu)) (pv 7) (pe_lst (pa_cons pe_bl (pa_cons pe_bl pa_nil))) (nomark _)) (pe_and (pe_cmpR (op_eqP (by exact hu)) (pv 5) (pe_lst (pa_cons (pv 6) (pa_cons (pv 6) pa_nil))) (nomark _))
        (pe_one (pe_cmpR op_eq (pe_callB (call_reprD hG (by exact hu)) (by rfl) zr (by decide +kernel) (pa_cons (pv 1) pa_nil)) (pv 4) (nomark _))))))))), ?_⟩
    have lm : lim d = true := lim_limN hn d ft.l
    have sh := ft.shown
    have dp := ft.dp
    have big : ∀ {j : Nat}, j ≤ 1000000 → j ≤ sizeLine := fun h => Nat.le_trans h (by decide)
    have s2 : 2 ≤ sizeLine := by decide
    obtain ⟨a, pk, ow, cc, rfl, ea, Dk, Do, Dc⟩ := say_row D
    obtain ⟨ka, us, rfl, eka, Dks⟩ := dat_tup (ds := sy.picks.map PyData.str) Dk
    obtain ⟨oa, vs, rfl, eoa, Dos⟩ := dat_tup Do
    cases dats_str_eq Dks
    have lk := ok.pl
    have lo := ok.ol
    have lov : vs.length = sy.owns.length := by rw [Dos.len, List.length_map]
    refine ⟨_, rfl, a, _, 0, _, rfl, rfl, SqT.of ea, rfl, ka, _, rfl, .inr (SqT.of eka), fun l1 hl1 => ?_⟩
    have S1 := same_new (o := .lst (sy.picks.map V.str)) hl1
    have e1 : upd H l1 (.lst (sy.picks.map V.str)) l1 = some (.lst (sy.picks.map V.str)) := upd_same
    generalize upd H l1 (.lst (sy.picks.map V.str)) = H1 at S1 e1 ⊢
    refine ⟨_, rfl, a, _, 1, _, rfl, rfl, SqT.of (S1 _ _ ea), rfl, oa, rfl, ⟨_, SqT.of (S1 _ _ eoa)⟩, fun D0 hD0 => ?_⟩
    refine lc_tup (K := K) (a := oa) (xs := vs) (fun j H4 => H4 D0 = some (.lst (((sy.owns.take j).map Prod.fst).map V.str)) ∧ Same H1 H4) ⟨upd_same, same_new hD0⟩ (fun j H4 _ h => SqT.of (h.2 _ _ (S1 _ _ eoa))) ?_ ?_
    · rintro j x H4 hx ⟨e4, S4⟩
      obtain ⟨dx, hd, Dx⟩ := dats_get' Dos j x hx
      obtain ⟨o, ho, rfl⟩ := get_map hd
      obtain ⟨to, rfl⟩ := tuple_ref (ds := [.str o.1, nmsD o.2]) Dx
      obtain ⟨t', g1, g2⟩ := own_row (q := (to, ownD o)) rfl Dx
      have jl : j < sy.owns.length := (List.getElem?_eq_some_iff.mp ho).1
      refine ⟨to, _, rfl, SqT.of (S4 _ _ (S1 _ _ g1)), rfl, _, _, rfl, _, _, rfl, rfl, rfl, yes_of ?_⟩
      refine ⟨_, rfl, _, e4, by rw [List.length_map, List.length_map, List.length_take]; exact small1000 (by omega), ?_, same_upd S4 hD0⟩
      rw [upd_same, take_next ho, List.map_append, List.map_append]
      rfl
    rintro H4 ⟨e4, S4⟩
    rw [lov, List.take_length] at e4
    refine ⟨l1, D0, _, _, rfl, rfl, S4 _ _ e1, e4, big (by rw [List.length_map, List.length_map, List.length_map]; omega), fun l2 hl2 => ?_⟩
    rw [← List.map_append]
    have S5 := same_new (o := .lst ((sy.picks ++ sy.owns.map Prod.fst).map V.str)) hl2
    have e5 : upd H4 l2 (.lst ((sy.picks ++ sy.owns.map Prod.fst).map V.str)) l2 = some (.lst (sy.names.map V.str)) := upd_same
    have S := S1.trans (S4.trans S5)
    clear hD0 hl1 hl2 e1 e4 S1 S4 S5
    generalize upd H4 l2 (.lst ((sy.picks ++ sy.owns.map Prod.fst).map V.str)) = G at S e5 ⊢
    refine ⟨_, rfl, u, d, rfl, Du.same S, ft.s, by omega, big (by omega), ?_⟩
    refine ⟨_, _, rfl, ?_⟩
    dsimp only []
    refine seq_cut (R := fun σ' H' => ∃ (b : Bool) (t : Addr), σ' = [some (.ref a), some u, some (.int (kind : Nat)), some (.ref l2), some (.str d.shown), some (.ref t), some (.bl b), none, none, none, none, none] ∧ Same H H' ∧ H' t = some (.lst [.bl b, .bl b])) ?_ ?_
    · rintro σ' H5 ⟨b, t, rfl, S5, et⟩
      refine ⟨_, rfl, t, rfl, ⟨_, SqL.of et⟩, fun D0 hD0 => ?_⟩
      refine lc_list (K := K) (a := t) (xs := [V.bl b, .bl b]) (fun j H6 => H6 D0 = some (.lst (List.replicate j (V.bl true))) ∧ Same H5 H6) ⟨upd_same, same_new hD0⟩ (fun j H6 _ h => SqL.of (h.2 _ _ et)) ?_ ?_
      · rintro j x H6 hx ⟨e6, S6⟩
        have hx2 : x = V.bl b ∧ j < 2 := by
          match j, hx with
          | 0, h => cases h; exact ⟨rfl, by omega⟩
          | 1, h => cases h; exact ⟨rfl, by omega⟩
          | _ + 2, h => simp at h
        obtain ⟨rfl, j2⟩ := hx2
        refine ⟨rfl, yes_of ⟨_, rfl, _, _, _, _, true, rfl, .ty _, .base (.bl b), kit_ty (show kitB "bool" "bool" = some true by decide +kernel), _, e6, by rw [List.length_replicate]; exact small1000 (by omega), ?_, same_upd S6 hD0⟩⟩
        rw [upd_same, List.replicate_succ']
      rintro H6 ⟨e6, S6⟩
      have SS := S5.trans S6
      have et6 := S6 _ _ et
      refine ⟨_, rfl, s2, fun t2 ht2 => ?_⟩
      have S7 := same_new (o := .lst [V.bl true, .bl true]) ht2
      refine ⟨.list [.bool true, .bool true], .list [.bool true, .bool true], .lst (S7 _ _ e6) (.cons (.bl _) (.cons (.bl _) .nil)), .lst upd_same (.cons (.bl _) (.cons (.bl _) .nil)), rfl, rfl, by decide, _, rfl, ?_⟩
      show if PyData.eqv (.list [.bool true, .bool true]) (.list [.bool true, .bool true]) = true then _ else _
      rw [if_pos (by decide)]
      refine ⟨_, rfl, _, rfl, _, rfl, s2, fun t3 ht3 => ?_⟩
      have S8 := same_new (o := .lst [V.bl b, .bl b]) ht3
      refine ⟨.list [.bool b, .bool b], .list [.bool b, .bool b], .lst (S8 _ _ (S7 _ _ et6)) (.cons (.bl _) (.cons (.bl _) .nil)), .lst upd_same (.cons (.bl _) (.cons (.bl _) .nil)), rfl, rfl, by cases b <;> decide, _, rfl, ?_⟩
      show if PyData.eqv (.list [.bool b, .bool b]) (.list [.bool b, .bool b]) = true then _ else _
      rw [if_pos (by cases b <;> decide)]
      have SA := SS.trans (S7.trans S8)
      refine ⟨_, rfl, u, d, rfl, Du.same SA, ft.s, by omega, big (by omega), _, rfl, rfl, ?_⟩
      rw [decide_eq_true rfl]
      exact q _ SA
    · intro N kN
      have DG := D.same S
      have DuG := Du.same S
      refine ⟨_, rfl, rfl, _, rfl, ?_⟩
      show if decide (V.int (kind : Nat) = V.int 0) = true then _ else _
      by_cases k0 : decide (V.int (kind : Nat) = V.int 0) = true
      · rw [if_pos k0]
        refine ⟨_, rfl, u, d, rfl, DuG, lm, fun H1 S1 => ⟨_, rfl, rfl, u, d, rfl, DuG.same S1, lm, fun H2 S2 => ⟨s2, fun t ht => ⟨_, rfl, u, d, rfl, ((DuG.same S1).same S2).same (same_new ht), lm, fun H3 S3 => ⟨_, _, rfl, kN _ _ ?_⟩⟩⟩⟩⟩
        exact ⟨_, t, rfl, S.trans (S1.trans (S2.trans ((same_new ht).trans S3))), S3 _ _ upd_same⟩
      rw [if_neg k0]
      refine ⟨_, rfl, rfl, _, rfl, ?_⟩
      show if decide (V.int (kind : Nat) = V.int 1) = true then _ else _
      by_cases k1 : decide (V.int (kind : Nat) = V.int 1) = true
      · rw [if_pos k1]
        refine ⟨_, rfl, _, rfl, .ref a, u, sy, d, rfl, DG, ok, DuG, lm, fun H1 S1 => ⟨_, rfl, _, rfl, rfl, .ref a, u, sy, d, rfl, DG.same S1, ok, DuG.same S1, lm, fun H2 S2 => ⟨s2, fun t ht => ?_⟩⟩⟩
        have S3 := same_new (o := .lst [V.bl (isClO sy.names d), V.bl (isClO sy.names d)]) ht
        refine ⟨_, rfl, _, rfl, u, l2, d, sy.names, rfl, ((DuG.same S1).same S2).same S3, lm, S3 _ _ (S2 _ _ (S1 _ _ e5)), fun H3 S4 => kN _ _ ?_⟩
        exact ⟨_, t, rfl, S.trans (S1.trans (S2.trans (S3.trans S4))), S4 _ _ upd_same⟩
      rw [if_neg k1]
      refine ⟨_, rfl, rfl, _, rfl, ?_⟩
      show if decide (V.int (kind : Nat) = V.int 2) = true then _ else _
      by_cases k2 : decide (V.int (kind : Nat) = V.int 2) = true
      · rw [if_pos k2]
        refine ⟨_, rfl, _, rfl, .ref a, u, sy, d, rfl, DG, ok, DuG, lm, fun H1 S1 => ⟨_, rfl, _, rfl, rfl, .ref a, u, sy, d, rfl, DG.same S1, ok, DuG.same S1, lm, fun H2 S2 => ⟨s2, fun t ht => ?_⟩⟩⟩
        have S3 := same_new (o := .lst [V.bl (truthsB sy.picks.length d), V.bl (truthsB sy.picks.length d)]) ht
        have SX := S.trans (S1.trans (S2.trans S3))
        refine ⟨_, rfl, _, rfl, a, _, 0, _, rfl, rfl, SqT.of (SX _ _ ea), rfl, ka, _, rfl, .inr (SqT.of (SX _ _ eka)), u, d, sy.picks.length, by rw [List.length_map]; rfl, Du.same SX, lm, fun H3 S4 => ⟨_, _, rfl, kN _ _ ?_⟩⟩
        exact ⟨_, t, rfl, SX.trans S4, S4 _ _ upd_same⟩
      rw [if_neg k2]
      refine ⟨_, rfl, _, rfl, .ref a, u, sy, d, rfl, DG, ok, DuG, lm, fun H1 S1 => ⟨_, rfl, _, rfl, rfl, .ref a, u, sy, d, rfl, DG.same S1, ok, DuG.same S1, lm, fun H2 S2 => ⟨s2, fun t ht => ?_⟩⟩⟩
      have S3 := same_new (o := .lst [V.bl (ansB sy.owns d), V.bl (ansB sy.owns d)]) ht
      have SX := S.trans (S1.trans (S2.trans S3))
      have e3 : upd H2 t (.lst [V.bl (ansB sy.owns d), V.bl (ansB sy.owns d)]) t = some (.lst [V.bl (ansB sy.owns d), V.bl (ansB sy.owns d)]) := upd_same
      generalize upd H2 t (.lst [V.bl (ansB sy.owns d), V.bl (ansB sy.owns d)]) = H3 at SX e3 ⊢
      refine ⟨_, rfl, _, _, _, _, isTup d, rfl, .ty _, ty_dat (Du.same SX), kit_ty (kit_tup d), isTup d, rfl, ?_⟩
      cases h : isTup d with
      | false =>
        have ez : ansB sy.owns d = false := by rw [ansB, h, Bool.false_and]
        rw [ez] at e3
        show if false = true then _ else _
        rw [if_neg (by decide)]
        refine ⟨_, rfl, false, rfl, ?_⟩
        show if false = true then _ else _
        rw [if_neg (by decide)]
        exact kN _ _ ⟨false, t, rfl, SX, e3⟩
      | true =>
        obtain ⟨ds, rfl⟩ := tup_of h
        obtain ⟨tt, ts, rfl, et, Dt⟩ := dat_tup Du
        obtain ⟨_, lmm⟩ := lim_tup lm
        have lt : ts.length = ds.length := Dt.len
        have ez : ansB sy.owns (.tuple ds) = (decide (ds.length = sy.owns.length) && (sy.owns.zip ds).all fun q => truthsB (2 ^ q.1.2.length) q.2) := by rw [ansB, h, Bool.true_and]; rfl
        rw [ez] at e3
        show if true = true then _ else _
        rw [if_pos rfl]
        refine ⟨_, rfl, _, _, rfl, .inr (SqT.of (SX _ _ et)), _, rfl, a, _, 1, _, rfl, rfl, SqT.of (SX _ _ ea), rfl, oa, _, rfl, .inr (SqT.of (SX _ _ eoa)), rfl, ?_⟩
        rw [lt, lov]
        by_cases hn : ds.length = sy.owns.length
        · rw [decide_eq_true hn, Bool.true_and] at e3
          rw [show decide (V.int ((ds.length : Nat) : Int) = V.int ((sy.owns.length : Nat) : Int)) = true from decide_eq_true (by rw [hn])]
          refine ⟨_, rfl, true, rfl, ?_⟩
          show if true = true then _ else _
          rw [if_pos rfl]
          refine ⟨_, rfl, tt, ts, rfl, .inr (SqT.of (SX _ _ et)), _, rfl, by omega, by omega, fun D0 hD0 => ?_⟩
          rw [Int.toNat_natCast, lt]
          refine lc_range (lo := 0) (n := ds.length) (fun i H4 => H4 D0 = some (.lst ((((sy.owns.zip ds).take i).map fun q => truthsB (2 ^ q.1.2.length) q.2).map V.bl)) ∧ Same H3 H4) ⟨upd_same, same_new hD0⟩ ?_ ?_
          · rintro i H4 hi ⟨e4, S4⟩
            have S34 := SX.trans S4
            obtain ⟨y, hy⟩ : ∃ y, ts[i]? = some y := ⟨_, List.getElem?_eq_getElem (by omega)⟩
            obtain ⟨x, hx⟩ : ∃ x, vs[i]? = some x := ⟨_, List.getElem?_eq_getElem (by omega)⟩
            obtain ⟨dd, hd, Dx⟩ := dats_get' Dos i x hx
            obtain ⟨o, ho, rfl⟩ := get_map hd
            obtain ⟨to, rfl⟩ := tuple_ref (ds := [.str o.1, nmsD o.2]) Dx
            obtain ⟨t', g1, g2⟩ := own_row (q := (to, ownD o)) rfl Dx
            obtain ⟨d2, hd2, Dy⟩ := dats_get' Dt i y hy
            have og := sight_le ok (List.mem_of_getElem? ho)
            have hz : (sy.owns.zip ds)[i]? = some (o, d2) := by rw [List.getElem?_zip_eq_some]; exact ⟨ho, hd2⟩
            have ep : (1 : Int) * 2 ^ ((o.2.map V.str).length : Int).toNat = ((2 ^ o.2.length : Nat) : Int) := by
              rw [List.length_map, Int.toNat_natCast, Int.one_mul]
              push_cast
              rfl
            refine ⟨rfl, yes_of ?_⟩
            refine ⟨_, rfl, _, rfl, tt, ts, _, y, rfl, rfl, SqT.of (S34 _ _ et), by rw [Int.zero_add]; exact atI_nat hy, _, rfl, a, _, 1, _, rfl, rfl, SqT.of (S34 _ _ ea), rfl, _, rfl, oa, vs, _, .ref to, rfl, rfl, SqT.of (S34 _ _ eoa), by rw [Int.zero_add]; exact atI_nat hx,
              to, _, 1, _, rfl, rfl, SqT.of (S34 _ _ g1), rfl, t', _, rfl, .inr (SqT.of (S34 _ _ g2)), _, _, rfl, rfl, ⟨by omega, by rw [List.length_map]; omega, by decide⟩, ?_⟩
            refine ⟨y, d2, 2 ^ o.2.length, by show [y, V.int (1 * 2 ^ ((o.2.map V.str).length : Int).toNat)] = _; rw [ep], Dy.same S34, lmm d2 (List.mem_of_getElem? hd2), fun H6 S6 => ?_⟩
            have e6 := S6 _ _ e4
            refine ⟨_, e6, ?_, ?_, same_upd (S4.trans S6) hD0⟩
            · rw [List.length_map, List.length_map, List.length_take]
              exact small1000 (by omega)
            · rw [upd_same, take_next hz, List.map_append, List.map_append]
              rfl
          · rintro H4 ⟨e4, S4⟩
            have tk : (sy.owns.zip ds).take ds.length = sy.owns.zip ds := List.take_of_length_le (by rw [List.length_zip]; omega)
            rw [tk] at e4
            refine ⟨D0, _, rfl, SqL.of e4, ?_⟩
            rw [all_id]
            exact kN _ _ ⟨_, t, rfl, SX.trans S4, S4 _ _ e3⟩
        · rw [decide_eq_false hn, Bool.false_and] at e3
          rw [show decide (V.int ((ds.length : Nat) : Int) = V.int ((sy.owns.length : Nat) : Int)) = false from decide_eq_false fun y => hn (by injection y with y; omega)]
          refine ⟨_, rfl, false, rfl, ?_⟩
          show if false = true then _ else _
          rw [if_neg (by decide)]
          exact kN _ _ ⟨false, t, rfl, SX, e3⟩
end
end S1

set_option Elab.async false
set_option linter.all false
set_option maxRecDepth 100000
set_option maxHeartbeats 4000000
/-! a clause drawn from words that may come twice -/
namespace S1
open PySem PySem.W PySem.Spec PyProof.Rows L2
def spClauseW : Sp := fun vs H Q _ => ∃ (p lw : Addr) (c : Nat) (ws : List Str), vs = [.ref p, .ref lw] ∧ Src H p c ∧ c ≤ 90000 ∧ H lw = some (.lst (ws.map V.str)) ∧ ws.length ≤ 100 ∧ p ≠ lw ∧
  ∀ (v : V) (cl : List Ltr) (H' : Hp), Dat H' v (clD cl) → (∀ l ∈ cl, l.1 ∈ ws) → cl.length ≤ ws.length → Src H' p (c + 202) → Same (del H p) (del H' p) → Q v H'
section
variable {P : Program} {w : World} {K : PySem.W.Frag} {mg : Str → Option Value} {base : Heap}
theorem ok_clauseW {f fP : Addr} {fd fdP : FuncData} (F : Fun K "_law_clause" "_law_clause" sClause f fd) (Pk : Has K mg "_law_pick" sPick ["source", "top"] fP fdP) (B : Blt mg) : FnOk P w K mg base CX0 2 f fd ["source", "words"] spClauseW := by
  have GP : FnOk P w K mg base CX0 1 fP fdP ["source", "top"] spPick := ok_pick Pk.F B
  refine F.ok scClause (fun vs H Q E h => ?_) (fun cdv A outer s H vs Q E hr h => ?_)
  · obtain ⟨p, lw, c, ws, rfl, _⟩ := h
    rfl
  · obtain ⟨p, lw, c, ws, rfl, hp, hc, hW, hlen, npw, q⟩ := h
    have hu : (A.deeper (envOfC "_law_clause" (defScope sClause) s.heap.objs.size f cdv)).units + 64 < cLine := hr.units
    refine ⟨_, pss_cons (ps_par3 (i := 2) (j := 3) (l := 4) rfl scClause.nd rfl rfl rfl (by decide) (by decide) (by decide) rfl rfl rfl
        (pa_cons (pe_ix ix_list (pe_lst (pa_cons pe_int (pa_cons pe_int (pa_cons pe_int (pa_cons pe_int (pa_cons pe_int (pa_cons pe_int (pa_cons pe_int (pa_cons pe_int (pa_cons pe_int (pa_cons pe_int (pa_cons pe_int (pa_cons pe_int pa_nil)))))))))))))
            (pe_call GP hr rfl Pk.g Pk.F.kp Pk.b .nil pass0 (pa_cons (pv 0) (pa_cons pe_int pa_nil))) (fun _ _ => rfl))
          (pa_cons (pe_callTy call_list_of (by rfl) B.list (by decide +kernel) (pa_cons (pv 1) pa_nil)) (pa_cons (pe_lst pa_nil) pa_nil))) (by with_unfolding_all rfl))
      (pss_cons (ps_for PassesOwn.never rfl (pi_range1 rfl B.range (pa_cons (pe_ifExp (pt_cmpR op_gt (pe_call GP hr rfl Pk.g Pk.F.kp Pk.b .nil pass0 (pa_cons (pv 0) (pa_cons pe_int pa_nil))) pe_int (nomark _))
            (pe_callB (call_min2 rfl) (by rfl) B.min (by decide +kernel) (pa_cons (pv 2) (pa_cons (pe_callB call_len_seq (by rfl) B.len (by decide +kernel) (pa_cons (pv 3) pa_nil)) pa_nil))) pe_int) pa_nil)) (pg_name (i := 5) scClause.nd rfl (.inl rfl))
        (pss_one (ps_expr (pe_bm PySem.F.plainAttrs_list PySem.F.slot_list_append PySem.F.type_list_append mt_append (pv 4) (pa_cons (pe_tup (pa_cons
          (pe_bm PySem.F.plainAttrs_list PySem.F.slot_list_pop PySem.F.type_list_pop mt_popAt (pv 3) (pa_cons (pe_call GP hr rfl Pk.g Pk.F.kp Pk.b .nil pass0 (pa_cons (pv 0) (pa_cons (pe_callB call_len_seq (by rfl) B.len (by decide +kernel) (pa_cons (pv 3) pa_nil)) pa_nil))) pa_nil))
          (pa_cons (pe_cmpR op_eq (pe_call GP hr rfl Pk.g Pk.F.kp Pk.b .nil pass0 (pa_cons (pv 0) (pa_cons pe_int pa_nil))) pe_int (nomark _)) pa_nil))) pa_nil)))))
      (pss_one (ps_ret (pe_tupleOf rfl B.tuple (pe_callB (cr_sortL (by exact hu)) (by rfl) B.sorted (by decide +kernel) (pa_cons (pv 4) pa_nil)))))), ?_⟩
    refine ⟨(by show 12 ≤ sizeLine; decide), fun l hl => ⟨_, rfl, p, _, 12, rfl, hp.mono (upd_ne (hp.ne hl)) (Nat.le_refl _), by omega, by decide, by decide, fun r o r0 r1 hp1 => ?_⟩⟩
    obtain ⟨v, hv, hm, _⟩ := at_ok (xs := [.int 1, .int 2, .int 2, .int 2, .int 3, .int 3, .int 3, .int 3, .int 4, .int 4, .int 5, .int 14]) r0 r1
    obtain ⟨z, rfl, z0⟩ : ∃ z : Int, v = .int z ∧ 0 ≤ z := by
      simp only [List.mem_cons, List.not_mem_nil, or_false] at hm
      rcases hm with h | h | h | h | h | h | h | h | h | h | h | h <;> exact ⟨_, h, by decide⟩
    have npl := hp.ne hl
    have nlw : lw ≠ l := ne_of_none hW hl
    have eW1 : upd (upd H l (.lst [.int 1, .int 2, .int 2, .int 2, .int 3, .int 3, .int 3, .int 3, .int 4, .int 4, .int 5, .int 14])) p o lw = some (.lst (ws.map V.str)) := by rw [upd_ne npw.symm, upd_ne nlw]; exact hW
    refine ⟨l, _, r, _, rfl, rfl, SqL.of (by rw [upd_ne npl.symm, upd_same]), hv, _, rfl, lw, _, rfl, .inl (SqL.of eW1), fun aL hL => ⟨(by show 0 ≤ sizeLine; decide), fun aT hT => ⟨_, _, _, rfl, ?_⟩⟩⟩
    have nLT : aL ≠ aT := ne_of_none upd_same hT
    have hT1 : upd (upd H l (.lst [.int 1, .int 2, .int 2, .int 2, .int 3, .int 3, .int 3, .int 3, .int 4, .int 4, .int 5, .int 14])) p o aT = none := by
      rw [upd_ne nLT.symm] at hT
      exact hT
    have npL := hp1.ne hL
    have npT := hp1.ne hT1
    have smA : Same (del H p) (del (upd (upd H l (.lst [.int 1, .int 2, .int 2, .int 2, .int 3, .int 3, .int 3, .int 3, .int 4, .int 4, .int 5, .int 14])) p o) p) := sd_at (sd_put (Same.refl _) hl)
    have hL0 := sd_free smA hL npL.symm
    have hT0 := sd_free smA hT1 npT.symm
    refine gen_heap (F := fun G => Same (del H p) (del G p) ∧ G aL = some (.lst (ws.map V.str)) ∧ G aT = some (.lst []) ∧ Src G p (c + 1)) ⟨sd_put (sd_put smA hL0) hT0, by rw [upd_ne nLT, upd_same], upd_same, hp1.mono (by rw [upd_ne npT, upd_ne npL]) (Nat.le_refl _)⟩ (fun G ⟨smG, gL, gT, hs⟩ => ?_)
    refine ⟨_, rfl, p, _, 60, rfl, hs, by omega, by decide, by decide, fun r6 o6 _ _ hp6 => ⟨_, _, rfl, rfl, _, rfl, ?_⟩⟩
    have eL6 : upd G p o6 aL = some (.lst (ws.map V.str)) := by rw [upd_ne npL.symm]; exact gL
    refine ite_intP (fun j => 0 ≤ j ∧ j ≤ (ws.length : Int)) (fun j hj => ?_) (fun _ k => ?_) (fun _ k => ?_)
    · refine ⟨j, rfl, by omega, by omega, ?_⟩
      refine for_range (lo := 0) (n := j.toNat) (fun i σ H' => ∃ (L : List Str) (T : List TRow) (cl : List Ltr) (o5 : Option V), σ = [some (.ref p), some (.ref lw), some (.int z), some (.ref aL), some (.ref aT), o5] ∧
        H' aL = some (.lst (L.map V.str)) ∧ H' aT = some (.lst (T.map TRow.v)) ∧ T.map Prod.snd = cl.map ltD ∧ (∀ q ∈ T, Dat H' q.v q.2) ∧ (∀ x ∈ cl.map Prod.fst ++ L, x ∈ ws) ∧ L.length + i = ws.length ∧ cl.length = i ∧
        Src H' p (c + 2 + 2 * i) ∧ Same (del H p) (del H' p)) ?_ ?_ ?_
      · exact ⟨ws, [], [], _, rfl, eL6, by rw [upd_ne npT.symm]; exact gT, rfl, fun q hq => absurd hq (by simp), fun x hx => by simpa using hx, rfl, rfl, hp6, sd_at smG⟩
      · rintro i σ H' hi ⟨L, T, cl, o5, rfl, eL, eT, eD, hD, sub, len, lcl, hs7, sm7⟩
        have lp : 0 < L.length := by omega
        refine ⟨_, rfl, .inl ⟨rfl, _, SqL.of eT⟩, _, rfl, .inl ⟨rfl, _, SqL.of eL⟩, _, rfl, _, rfl, _, _, rfl, .inl (SqL.of eL), p, _, _, rfl, hs7, by omega, by rw [List.length_map]; omega, by rw [List.length_map]; omega, fun k o k0 k1 hp1 => ?_⟩
        rw [List.length_map] at k1
        have kl : k.toNat < L.length := by omega
        have pp := pop_perm L k.toNat kl
        have lenE : (L.eraseIdx k.toNat).length + 1 = L.length := by rw [pp.length_eq, List.length_cons]
        refine ⟨aL, _, k, k.toNat, .str L[k.toNat], rfl, rfl, by rw [upd_ne npL.symm]; exact eL, by omega, by omega, by rw [List.length_map]; exact seq_nat k0 k1, by rw [List.getElem?_map, List.getElem?_eq_getElem kl]; rfl, ?_⟩
        rw [map_erase]
        generalize L[k.toNat] = u at pp ⊢
        generalize L.eraseIdx k.toNat = L1 at pp lenE ⊢
        have sm8 := sd_put (l := aL) (o := .lst (L1.map V.str)) (sd_at (o := o) sm7) hL0
        have hs8 : Src (upd (upd H' p o) aL (.lst (L1.map V.str))) p (c + 2 + 2 * i + 1) := hp1.mono (upd_ne npL) (Nat.le_refl _)
        have eT8 : upd (upd H' p o) aL (.lst (L1.map V.str)) aT = some (.lst (T.map TRow.v)) := by rw [upd_ne nLT.symm, upd_ne npT.symm]; exact eT
        have eL8 : upd (upd H' p o) aL (.lst (L1.map V.str)) aL = some (.lst (L1.map V.str)) := upd_same
        have hD8 : ∀ q ∈ T, Dat (upd (upd H' p o) aL (.lst (L1.map V.str))) q.v q.2 := fun q hq => by
          have kq : keyable q.2 = true := by
            have m : q.2 ∈ cl.map ltD := eD ▸ List.mem_map_of_mem hq
            obtain ⟨x, _, hx⟩ := List.mem_map.mp m
            rw [← hx]
            rfl
          obtain ⟨xs, hx⟩ := hs7.lst
          exact dat_upd (xs := L.map V.str) (by rw [upd_ne npL.symm]; exact eL) kq (dat_upd hx kq (hD q hq))
        generalize upd (upd H' p o) aL (.lst (L1.map V.str)) = H8 at sm8 hs8 eT8 eL8 hD8 ⊢
        refine ⟨_, rfl, p, _, 2, rfl, hs8, by omega, by decide, by decide, fun k2 o2 _ _ hp9 => ⟨rfl, (by show 2 ≤ sizeLine; decide), fun t ht => ?_⟩⟩
        have sm9 := sd_at (o := o2) sm8
        have eT9 : upd H8 p o2 aT = some (.lst (T.map TRow.v)) := by rw [upd_ne npT.symm]; exact eT8
        have eL9 : upd H8 p o2 aL = some (.lst (L1.map V.str)) := by rw [upd_ne npL.symm]; exact eL8
        have npt := hp9.ne ht
        have nTt : aT ≠ t := ne_of_none eT9 ht
        have nLt : aL ≠ t := ne_of_none eL9 ht
        have ht0 := sd_free sm9 ht npt.symm
        have eT10 : upd (upd H8 p o2) t (.tup [.str u, .bl (decide (V.int k2 = V.int 0))]) aT = some (.lst (T.map TRow.v)) := by rw [upd_ne nTt]; exact eT9
        refine ⟨aT, _, _, rfl, rfl, eT10, by rw [List.length_map, ← List.length_map (f := Prod.snd), eD, List.length_map]; exact small1000 (by omega), ?_⟩
        refine ⟨L1, T ++ [(t, ltD (u, decide (V.int k2 = V.int 0)))], cl ++ [(u, decide (V.int k2 = V.int 0))], _, rfl, by rw [upd_ne nLT, upd_ne nLt]; exact eL9, by rw [upd_same, List.map_append]; rfl, by rw [List.map_append, List.map_append, eD]; rfl, fun q hq => ?_, ?_, by omega, by rw [List.length_append, lcl]; rfl,
          hp9.mono (by rw [upd_ne npT, upd_ne npt]) (by omega), sd_put (sd_put sm9 ht0) hT0⟩
        · have kq : keyable q.2 = true := by
            rcases List.mem_append.mp hq with m | m
            · have m : q.2 ∈ cl.map ltD := eD ▸ List.mem_map_of_mem m
              obtain ⟨x, _, hx⟩ := List.mem_map.mp m
              rw [← hx]
              rfl
            · cases List.mem_singleton.mp m
              rfl
          refine dat_upd eT10 kq ?_
          rcases List.mem_append.mp hq with m | m
          · obtain ⟨xs, hx⟩ := hs8.lst
            exact dat_new ht (dat_upd hx kq (hD8 q m))
          · cases List.mem_singleton.mp m
            exact .tup (xs := [.str u, .bl (decide (V.int k2 = V.int 0))]) upd_same (.cons (.str _) (.cons (.bl _) .nil))
        · intro x hx
          have e : ((cl ++ [(u, decide (V.int k2 = V.int 0))]).map Prod.fst ++ L1).Perm (cl.map Prod.fst ++ L) := by
            rw [List.map_append, List.append_assoc]
            exact (List.Perm.refl _).append pp.symm
          exact sub x (e.mem_iff.mp hx)
      · rintro σ H' ⟨L, T, cl, o5, rfl, eL, eT, eD, hD, sub, len, lcl, hs7, sm7⟩
        refine ⟨_, rfl, aT, T, rfl, SqL.of eT, hD, sorty_of eD alike_lt (fun x => ⟨_, rfl⟩) (fun x => by have := depth_lt x; omega), fun T' b pm _ up hb => .inl ⟨b, _, rfl, SqL.of upd_same, fun t ht => ?_⟩⟩
        obtain ⟨cl', p2, e2⟩ := perm_back (f := ltD) ((pm.map Prod.snd).trans (.of_eq eD)) cl rfl
        have npb := hs7.ne hb
        have hs8 : Src (upd H' b (.lst (T'.map TRow.v))) p (c + 2 + 2 * j.toNat) := hs7.mono (upd_ne npb) (Nat.le_refl _)
        have npt := hs8.ne ht
        have sm8 := sd_put (o := .lst (T'.map TRow.v)) sm7 (sd_free sm7 hb npb.symm)
        refine q _ cl' _ (.tup upd_same ?_) (fun l hl => sub _ (List.mem_append_left _ (List.mem_map_of_mem (p2.mem_iff.mp hl)))) (by rw [p2.length_eq]; omega) (hs8.mono (upd_ne npt) (by omega)) (sd_put sm8 (sd_free sm8 ht npt.symm))
        rw [← e2]
        exact dats_rows fun r hr => dat_new ht (dat_new hb (hD r (pm.mem_iff.mp hr)))
    · exact ⟨_, rfl, _, rfl, _, _, rfl, .inl (SqL.of eL6), _, _, rfl, k _ (by rw [List.length_map]; split <;> omega)⟩
    · exact k _ ⟨by omega, by omega⟩
end
end S1

set_option Elab.async false
set_option linter.all false
set_option maxRecDepth 100000
set_option maxHeartbeats 8000000
/-! all that one source is asked -/
namespace S1
open PySem PySem.W PySem.Spec PyProof.Rows L2
theorem lst_src {H H' : Hp} {p a : Addr} {xs : List V} (na : a ≠ p) (S : Same (del H p) (del H' p)) (e : H a = some (.lst xs)) : H' a = some (.lst xs) := by
  have z := S a _ (by rw [del_ne na]; exact e)
  rwa [del_ne na] at z
abbrev szT (a b m d : Nat) : HO := .tup [.int a, .int b, .int m, .int d]
theorem sz3_at {G : Hp} {t1 t2 t3 : Addr} {j : Nat} {x : V} (hx : [V.ref t1, V.ref t2, V.ref t3][j]? = some x) (g1 : G t1 = some (szT 6 8 120 40)) (g2 : G t2 = some (szT 3 3 20 6)) (g3 : G t3 = some (szT 2 2 8 4)) :
    ∃ (t : Addr) (sa sb sm sd : Nat), x = .ref t ∧ G t = some (szT sa sb sm sd) ∧ sa ≤ 6 ∧ sb ≤ 8 ∧ sm ≤ 120 ∧ sd ≤ 40 := by
  match j, hx with
  | 0, h => exact ⟨t1, 6, 8, 120, 40, (Option.some.inj h).symm, g1, by decide, by decide, by decide, by decide⟩
  | 1, h => exact ⟨t2, 3, 3, 20, 6, (Option.some.inj h).symm, g2, by decide, by decide, by decide, by decide⟩
  | 2, h => exact ⟨t3, 2, 2, 8, 4, (Option.some.inj h).symm, g3, by decide, by decide, by decide, by decide⟩
  | j + 3, h => simp at h
theorem SayOk.mono {a b c d a' b' c' d' : Nat} {s : Say} (h : SayOk a b c d s) (ha : a ≤ a') (hb : b ≤ b') (hc : c ≤ c') (hd : d ≤ d') : SayOk a' b' c' d' s :=
  ⟨h.pu, h.pn, Nat.le_trans h.pl ha, h.ou, h.on, Nat.le_trans h.ol hb, Nat.le_trans h.oc hc, h.cu, h.ck, Nat.le_trans h.cl hd⟩
theorem Dr.put {H G : Hp} {p l : Addr} {c : Nat} {o : HO} (d : Dr H p c G) (h : H l = none) (n : l ≠ p) : Dr H p c (upd G l o) := ⟨d.s.mono (upd_ne n.symm) (Nat.le_refl _), sd_put d.m h⟩
/-- an object that is asked about -/
def Vd (G : Hp) (p : Addr) (u : V) : Prop := ∃ d, Dat (del G p) u d ∧ Fit 100 75000 4 d ∧ tsb d = true
theorem Vd.del {G G' : Hp} {p : Addr} {u : V} (h : Vd G p u) (S : Same (L2.del G p) (L2.del G' p)) : Vd G' p u := let ⟨d, a, b, c⟩ := h; ⟨d, a.same S, b, c⟩
theorem vd4_at {G : Hp} {p t1 t2 t3 t4 : Addr} {v u2 u3 u4 : V} {j : Nat} {x : V} (hx : [V.ref t1, V.ref t2, V.ref t3, V.ref t4][j]? = some x) (g1 : G t1 = some (.tup [.int 0, v])) (g2 : G t2 = some (.tup [.int 1, u2])) (g3 : G t3 = some (.tup [.int 2, u3])) (g4 : G t4 = some (.tup [.int 3, u4]))
    (h1 : Vd G p v) (h2 : Vd G p u2) (h3 : Vd G p u3) (h4 : Vd G p u4) : j < 4 ∧ ∃ (t : Addr) (k : Nat) (u : V), x = .ref t ∧ G t = some (.tup [.int (k : Nat), u]) ∧ Vd G p u ∧ (k = 0 → u = v) := by
  match j, hx with
  | 0, h => exact ⟨by omega, t1, 0, v, (Option.some.inj h).symm, g1, h1, fun _ => rfl⟩
  | 1, h => exact ⟨by omega, t2, 1, u2, (Option.some.inj h).symm, g2, h2, fun z => by omega⟩
  | 2, h => exact ⟨by omega, t3, 2, u3, (Option.some.inj h).symm, g3, h3, fun z => by omega⟩
  | 3, h => exact ⟨by omega, t4, 3, u4, (Option.some.inj h).symm, g4, h4, fun z => by omega⟩
  | j + 4, h => simp at h
def spRight : Sp := fun vs H Q _ => ∃ (p : Addr), vs = [.ref p] ∧ Src H p 0 ∧ ∀ H', Same (del H p) (del H' p) → Q (.bl true) H'
abbrev nRi : List Str := ["source", "saying", "words", "play", "kind", "value", "turn", "word", "sight", "pick"]
section
variable {P : Program} {w : World} {K : PySem.W.Frag} {mg : Str → Option Value} {base : Heap}
theorem scRi : FnScope nRi ["source"] (defScope sRight) := ⟨rfl, rfl, rfl, by decide +kernel, rfl, by decide +kernel, by decide +kernel⟩
theorem ok_right {f fP fY fC fD fW fL fB fJ : Addr} {fd fdP fdY fdC fdD fdW fdL fdB fdJ : FuncData} (F : Fun K "_law_right" "_law_right" sRight f fd) (B : Blt mg)
    (Pk : Has K mg "_law_pick" sPick ["source", "top"] fP fdP) (Sy : Has K mg "_law_saying" sSaying ["source", "sizes"] fY fdY) (Cl : Has K mg "_law_clause" sClause ["source", "words"] fC fdC) (Dn : Has K mg "_law_drawn" sLDrawn ["source", "saying"] fD fdD)
    (Wi : Has K mg "_law_wide" sWide ["source", "saying"] fW fdW) (La : Has K mg "_law_last" sLast ["value"] fL fdL) (Be : Has K mg "_law_bent" sBent ["source", "value", "deep"] fB fdB) (Ju : Has K mg "_law_judged" sJudged ["saying", "value", "kind"] fJ fdJ)
    (GY : FnOk P w K mg base CX0 3 fY fdY ["source", "sizes"] spSaying) (GC : FnOk P w K mg base CX0 2 fC fdC ["source", "words"] spClauseW) (GD : FnOk P w K mg base CX0 2 fD fdD ["source", "saying"] spDrawn) (GW : FnOk P w K mg base CX0 2 fW fdW ["source", "saying"] spWide)
    (GL : FnOk P w K mg base CX0 7 fL fdL ["value"] (spLast 6)) (GB : FnOk P w K mg base CX0 9 fB fdB ["source", "value", "deep"] (spBent 6)) (GJ : FnOkG P w K mg base 9 fJ fdJ ["saying", "value", "kind"] spJudged) :
    FnOkG P w K mg base 10 f fd ["source"] spRight := by
  have GP : FnOk P w K mg base CX0 1 fP fdP ["source", "top"] spPick := ok_pick Pk.F B
  refine F.okG scRi (fun vs H Q E h => ?_) (fun cdv A outer s H vs Q E hG0 hr h => ?_)
  · obtain ⟨p, rfl, _⟩ := h
    rfl
  · obtain ⟨p, rfl, hp, q⟩ := h
    have hr1 := hr.mono (show 1 ≤ 9 by decide)
    have hr2 := hr.mono (show 2 ≤ 9 by decide)
    have hr3 := hr.mono (show 3 ≤ 9 by decide)
    have hr7 := hr.mono (show 7 ≤ 9 by decide)
    have hG : (A.deeper (envOfC "_law_right" (defScope sRight) s.heap.objs.size f cdv)).guards = some [] := hG0
    refine ⟨_, pss_cons (ps_set (i := 1) scRi.nd rfl (.inl rfl) (pe_call GY hr3 rfl Sy.g Sy.F.kp Sy.b .nil pass0 (pa_cons (pv 0) (pa_cons (pe_ix ix_list (pe_lst (pa_cons (pe_tup (pa_cons pe_int (pa_cons pe_int (pa_cons pe_int (pa_cons pe_int pa_nil)))))
          (pa_cons (pe_tup (pa_cons pe_int (pa_cons pe_int (pa_cons pe_int (pa_cons pe_int pa_nil))))) (pa_cons (pe_tup (pa_cons pe_int (pa_cons pe_int (pa_cons pe_int (pa_cons pe_int pa_nil))))) pa_nil))))
          (pe_call GP hr1 rfl Pk.g Pk.F.kp Pk.b .nil pass0 (pa_cons (pv 0) (pa_cons pe_int pa_nil))) (fun _ _ => rfl)) pa_nil))))
      (pss_cons (ps_set (i := 2) scRi.nd rfl (.inl rfl) (pe_op op_cat (pe_callTy call_list_of (by rfl) B.list (by decide +kernel) (pa_cons (pe_ix ix_tup (pv 1) pe_int (fun _ _ => rfl)) pa_nil))
          (pe_lc (own := [("word", 7), ("sight", 8)]) (g := gTup K 2 (gCons (gName 7) (gCons (gName 8) gNil))) (tt := tYes) (te := tVar 7) rfl scRi.nd (pi_tup (pe_ix ix_tup (pv 1) pe_int (fun _ _ => rfl))) (blkOk_by (N := nRi) (sc := defScope sRight) (by decide +kernel))
            (fun _ _ _ _ _ => by exact pg_tup rfl (pgs_cons (pg_name (i := 7) scRi.nd rfl (.inl rfl)) (pgs_cons (pg_name (i := 8) scRi.nd rfl (.inl rfl)) pgs_nil))) (fun _ _ _ _ _ => pts_nil) (fun _ _ _ _ _ => by exact pv 7))))
      (pss_cons (ps_set (i := 3) scRi.nd rfl (.inl rfl) (pe_tupleOf rfl B.tuple (pe_lc (own := [("pick", 9)]) (g := gName 9) (tt := tYes) (te := tOp rEq (tCall spPick [] E0 (tCons (tVar 0) (tCons (tC (V.int 2)) tNil))) (tC (V.int 0))) rfl scRi.nd (pi_tup (pe_ix ix_tup (pv 1) pe_int (fun _ _ => rfl))) (blkOk_by (N := nRi) (sc := defScope sRight) (by decide +kernel))
          (fun _ _ _ _ _ => pg_name (i := 9) scRi.nd rfl (.inl rfl)) (fun _ _ _ _ _ => pts_nil) (fun _ _ _ _ _ => by exact pe_cmpR op_eq (pe_call GP (by exact hr1) (by rfl) Pk.g Pk.F.kp Pk.b .nil pass0 (pa_cons (pv 0) (pa_cons pe_int pa_nil))) pe_int (nomark _)))))
      (pss_cons (ps_for PassesOwn.never rfl (pi_list (pe_lst (pa_cons (pe_tup (pa_cons pe_int (pa_cons (pv 1) pa_nil)))
            (pa_cons (pe_tup (pa_cons pe_int (pa_cons (pe_call GC hr2 rfl Cl.g Cl.F.kp Cl.b .nil pass0 (pa_cons (pv 0) (pa_cons (pe_op op_cat (pv 2) (pe_lst (pa_cons pe_str pa_nil))) pa_nil))) pa_nil)))
            (pa_cons (pe_tup (pa_cons pe_int (pa_cons (pv 3) pa_nil)))
            (pa_cons (pe_tup (pa_cons pe_int (pa_cons (pe_call GD hr2 rfl Dn.g Dn.F.kp Dn.b .nil pass0 (pa_cons (pv 0) (pa_cons (pv 1) pa_nil))) pa_nil))) pa_nil))))))
          (pg_tup rfl (pgs_cons (pg_name (i := 4) scRi.nd rfl (.inl rfl)) (pgs_cons (pg_name (i := 5) scRi.nd rfl (.inl rfl)) pgs_nil)))
        (pss_cons (ps_if (PW.pt (pw_or (pt_not (pt_val (pe_callG hG GJ hr rfl Ju.g Ju.F.kp Ju.b (pa_cons (pv 1) (pa_cons (pv 5) (pa_cons (pv 4) pa_nil))))))
              (pw_or1 (PW.pt (pw_and (pt_cmpR op_eq (pv 4) pe_int (nomark _)) (pw_and1 (pt_not (pt_val (pe_callG hG GJ hr rfl Ju.g Ju.F.kp Ju.b (pa_cons (pv 1)
                (pa_cons (pe_call GW hr2 rfl Wi.g Wi.F.kp Wi.b .nil pass0 (pa_cons (pv 0) (pa_cons (pv 5) pa_nil))) (pa_cons pe_int pa_nil)))))))))))) (pss_one (ps_ret pe_bl)) pss_nil)
        (pss_cons (ps_if (pt_not (pt_val (pe_callG hG GJ hr rfl Ju.g Ju.F.kp Ju.b (pa_cons (pv 1) (pa_cons (pe_call GL hr7 rfl La.g La.F.kp La.b .nil pass0 (pa_cons (pv 5) pa_nil)) (pa_cons (pv 4) pa_nil)))))) (pss_one (ps_ret pe_bl)) pss_nil)
        (pss_one (ps_for PassesOwn.never rfl (pi_range1 rfl B.range (pa_cons pe_int pa_nil)) (pg_name (i := 6) scRi.nd rfl (.inl rfl))
          (pss_one (ps_if (pt_not (pt_val (pe_callG hG GJ hr rfl Ju.g Ju.F.kp Ju.b (pa_cons (pv 1) (pa_cons (pe_call GB hr rfl Be.g Be.F.kp Be.b .nil pass0 (pa_cons (pv 0) (pa_cons (pv 5)
            (pa_cons (pe_op op_add pe_int (pe_call GP hr1 rfl Pk.g Pk.F.kp Pk.b .nil pass0 (pa_cons (pv 0) (pa_cons pe_int pa_nil)))) pa_nil)))) (pa_cons (pv 4) pa_nil)))))) (pss_one (ps_ret pe_bl)) pss_nil)))))))
      (pss_one (ps_ret pe_bl))))), ?_⟩
    have s4 : 4 ≤ sizeLine := by decide
    have s2 : 2 ≤ sizeLine := by decide
    have d0 := Dr.start hp
    refine ⟨_, rfl, s4, fun t1 ht1 => ⟨s4, fun t2 ht2 => ⟨s4, fun t3 ht3 => ⟨(by show 3 ≤ sizeLine; decide), fun l hl => ?_⟩⟩⟩⟩
    have X1 := same_new (o := szT 6 8 120 40) ht1
    have X2 := same_new (o := szT 3 3 20 6) ht2
    have X3 := same_new (o := szT 2 2 8 4) ht3
    have X4 := same_new (o := .lst [V.ref t1, .ref t2, .ref t3]) hl
    have g1 := X4 _ _ (X3 _ _ (X2 _ _ (upd_same (H := H) (a := t1) (o := szT 6 8 120 40))))
    have g2 := X4 _ _ (X3 _ _ (upd_same (a := t2) (o := szT 3 3 20 6)))
    have g3 := X4 _ _ (upd_same (a := t3) (o := szT 2 2 8 4))
    have gl : upd (upd (upd (upd H t1 (szT 6 8 120 40)) t2 (szT 3 3 20 6)) t3 (szT 2 2 8 4)) l (.lst [V.ref t1, .ref t2, .ref t3]) l = some (.lst [V.ref t1, .ref t2, .ref t3]) := upd_same
    have dl0 := d0.same (X1.trans (X2.trans X3))
    have d1 := dl0.same X4
    have pl := dl0.ne hl
    refine ⟨_, rfl, p, _, 3, rfl, d1.s, by omega, by decide, by decide, fun r o r0 r1 hp1 => ?_⟩
    have d2 := d1.src hp1
    obtain ⟨x, hx, mx, hxi⟩ := at_ok (xs := [V.ref t1, V.ref t2, V.ref t3]) r0 r1
    obtain ⟨t, sa, sb, sm, sd, rfl, et, b1, b2, b3, b4⟩ := sz3_at hxi g1 g2 g3
    have tp := tup_np d1 et
    refine ⟨l, _, r, _, rfl, rfl, SqL.of (by rw [upd_ne pl]; exact gl), hx, p, t, _, sa, sb, sm, sd, rfl, d2.s, by omega, by rw [upd_ne tp]; exact et, by omega, by omega, by omega, fun v sy H1 D0 ok0 P1 S1 => ?_⟩
    have ok : SayOk 6 8 120 40 sy := ok0.mono b1 b2 b3 b4
    have d3 : Dr H p 9700 H1 := ⟨P1.mono rfl (by omega), d2.m.trans S1⟩
    clear ok0 P1 S1 hx et hxi d2 hp1 gl g1 g2 g3 d1 dl0 X1 X2 X3 X4
    obtain ⟨a, pk, ow, cc, rfl, ea, Dk, Do, Dc⟩ := say_row D0
    obtain ⟨ka, us, rfl, eka, Dks⟩ := dat_tup (ds := sy.picks.map PyData.str) Dk
    obtain ⟨oa, vs, rfl, eoa, Dos⟩ := dat_tup Do
    cases dats_str_eq Dks
    have lk := ok.pl
    have lo := ok.ol
    have nl := ok.nlen
    have big : ∀ {j : Nat}, j ≤ 1000000 → j ≤ sizeLine := fun h => Nat.le_trans h (by decide)
    have lov : vs.length = sy.owns.length := by rw [Dos.len, List.length_map]
    have na := tup_np d3 ea
    have nka := tup_np d3 eka
    have noa := tup_np d3 eoa
    have dd := Dr.start d3.s
    -- words
    refine ⟨_, rfl, a, _, 0, _, rfl, rfl, SqT.of ea, rfl, ka, _, rfl, .inr (SqT.of eka), fun l1 hl1 => ?_⟩
    have Y1 := same_new (o := .lst (sy.picks.map V.str)) hl1
    have e1 : upd H1 l1 (.lst (sy.picks.map V.str)) l1 = some (.lst (sy.picks.map V.str)) := upd_same
    generalize upd H1 l1 (.lst (sy.picks.map V.str)) = H2 at Y1 e1 ⊢
    refine ⟨_, rfl, a, _, 1, _, rfl, rfl, SqT.of (Y1 _ _ ea), rfl, oa, rfl, ⟨_, SqT.of (Y1 _ _ eoa)⟩, fun W0 hW0 => ?_⟩
    refine lc_tup (K := K) (a := oa) (xs := vs) (fun j H4 => H4 W0 = some (.lst (((sy.owns.take j).map Prod.fst).map V.str)) ∧ Same H2 H4) ⟨upd_same, same_new hW0⟩ (fun j H4 _ h => SqT.of (h.2 _ _ (Y1 _ _ eoa))) ?_ ?_
    · rintro j x H4 hx ⟨e4, S4⟩
      obtain ⟨dx, hd, Dx⟩ := dats_get' Dos j x hx
      obtain ⟨o, ho, rfl⟩ := get_map hd
      obtain ⟨to, rfl⟩ := tuple_ref (ds := [.str o.1, nmsD o.2]) Dx
      obtain ⟨t', g1, g2⟩ := own_row (q := (to, ownD o)) rfl Dx
      have jl : j < sy.owns.length := (List.getElem?_eq_some_iff.mp ho).1
      refine ⟨to, _, rfl, SqT.of (S4 _ _ (Y1 _ _ g1)), rfl, _, _, rfl, _, _, rfl, rfl, rfl, yes_of ?_⟩
      refine ⟨_, rfl, _, e4, by rw [List.length_map, List.length_map, List.length_take]; exact small1000 (by omega), ?_, same_upd S4 hW0⟩
      rw [upd_same, take_next ho, List.map_append, List.map_append]
      rfl
    rintro H4 ⟨e4, S4⟩
    rw [lov, List.take_length] at e4
    refine ⟨l1, W0, _, _, rfl, rfl, S4 _ _ e1, e4, big (by rw [List.length_map, List.length_map, List.length_map]; omega), fun lw hlw => ?_⟩
    rw [← List.map_append]
    have S5 := same_new (o := .lst ((sy.picks ++ sy.owns.map Prod.fst).map V.str)) hlw
    have ew : upd H4 lw (.lst ((sy.picks ++ sy.owns.map Prod.fst).map V.str)) lw = some (.lst (sy.names.map V.str)) := upd_same
    have nlw : lw ≠ p := (dd.same (Y1.trans S4)).ne hlw
    have S := Y1.trans (S4.trans S5)
    have d4 := dd.same S
    clear hW0 hl1 hlw e1 e4 Y1 S4 S5
    generalize upd H4 lw (.lst ((sy.picks ++ sy.owns.map Prod.fst).map V.str)) = G at S ew d4 ⊢
    -- play
    refine ⟨_, rfl, a, _, 0, _, rfl, rfl, SqT.of (S _ _ ea), rfl, ka, rfl, ⟨_, SqT.of (S _ _ eka)⟩, fun D1 hD1 => ?_⟩
    have pD1 := d4.ne hD1
    have hD1' := d4.free hD1
    refine lc_tup (K := K) (a := ka) (xs := sy.picks.map V.str) (fun j H4 => ∃ bs : List Bool, H4 D1 = some (.lst (bs.map V.bl)) ∧ bs.length = j ∧ Dr G p (9700 + j) H4) ⟨[], upd_same, rfl, (Dr.start d4.s).new hD1⟩ (fun j H4 _ ⟨_, _, _, d⟩ => SqT.of (d.keep (S _ _ eka) nka)) ?_ ?_
    · rintro j x H4 hx ⟨bs, e4, lb, d⟩
      obtain ⟨y, hy, rfl⟩ := get_strs hx
      have jl : j < sy.picks.length := (List.getElem?_eq_some_iff.mp hy).1
      refine ⟨rfl, yes_of ⟨_, rfl, p, _, 2, rfl, d.s, by omega, by decide, by decide, fun r' o' _ _ hp5 => ⟨rfl, _, by rw [upd_ne pD1]; exact e4, by rw [List.length_map, lb]; exact small1000 (by omega), bs ++ [decide (V.int r' = V.int 0)], by rw [upd_same, List.map_append]; rfl, by rw [List.length_append, lb]; rfl, ?_⟩⟩⟩
      exact (d.src hp5).put hD1 pD1
    rintro H5 ⟨bs, e5, lb, d5⟩
    rw [List.length_map] at lb d5
    refine .inl ⟨D1, _, rfl, SqL.of e5, fun tp5 ht5 => ?_⟩
    have d6 := d5.new (o := .tup (bs.map V.bl)) ht5
    have e6 : upd H5 tp5 (.tup (bs.map V.bl)) tp5 = some (.tup (bs.map V.bl)) := upd_same
    have ew6 : upd H5 tp5 (.tup (bs.map V.bl)) lw = some (.lst (sy.names.map V.str)) := d6.keep ew nlw
    have n5 := tup_np d6 e6
    have dA := d4.up (show 9700 ≤ 9700 + sy.picks.length by omega) |>.trans d6
    clear d5 d6 e5 ht5 hD1 hD1' pD1
    generalize upd H5 tp5 (.tup (bs.map V.bl)) = G6 at e6 ew6 dA ⊢
    obtain ⟨ys1, hy1⟩ := d3.s.lst
    have DR : Dat (del H1 p) (.ref a) sy.d := dat_off hy1 (keyable_say sy) D0
    -- (0, saying)
    refine ⟨_, rfl, s2, fun q1 hq1 => ?_⟩
    have Z1 := same_new (o := .tup [V.int 0, .ref a]) hq1
    have z1 : upd G6 q1 (.tup [V.int 0, .ref a]) q1 = some (.tup [V.int 0, .ref a]) := upd_same
    have e61 := Z1 _ _ e6
    have ew61 := Z1 _ _ ew6
    have dB := dA.same Z1
    clear hq1
    generalize upd G6 q1 (.tup [V.int 0, .ref a]) = K1 at z1 e61 ew61 dB ⊢
    refine ⟨_, rfl, _, rfl, (by show 1 ≤ sizeLine; decide), fun lq hlq => ?_⟩
    have Z2 := same_new (o := .lst [V.str "qq"]) hlq
    refine ⟨lw, lq, _, _, rfl, rfl, Z2 _ _ ew61, upd_same, big (by rw [List.length_map]; show _ + 1 ≤ _; omega), fun lx hlx => ?_⟩
    have Z3 := same_new (o := .lst (sy.names.map V.str ++ [V.str "qq"])) hlx
    have Z23 := Z2.trans Z3
    have dC := dB.same Z23
    have plx : p ≠ lx := ((dB.same Z2).ne hlx).symm
    have ex : upd (upd K1 lq (.lst [V.str "qq"])) lx (.lst (sy.names.map V.str ++ [V.str "qq"])) lx = some (.lst ((sy.names ++ (["qq"] : List Str)).map V.str)) := by rw [upd_same, List.map_append]; rfl
    have z12 := Z23 _ _ z1
    have e62 := Z23 _ _ e61
    clear hlq hlx Z2 Z3
    generalize upd (upd K1 lq (.lst [V.str "qq"])) lx (.lst (sy.names.map V.str ++ [V.str "qq"])) = K2 at z12 e62 dC ex ⊢
    refine ⟨p, lx, _, sy.names ++ (["qq"] : List Str), rfl, dC.s, by omega, ex, by rw [List.length_append]; show _ + 1 ≤ _; omega, plx, fun u2 cl K3 Dcl mem lcl P3 S3 => ⟨s2, fun q2 hq2 => ?_⟩⟩
    have dK : Dr K2 p (9700 + sy.picks.length + 202) K3 := ⟨P3, S3⟩
    have dD := (dC.up (Nat.le_add_right _ 202)).trans dK
    obtain ⟨ys3, hy3⟩ := dD.s.lst
    have Dcl' : Dat (del K3 p) u2 (clD cl) := dat_off hy3 (keyable_cl cl) Dcl
    have z13 := dK.keep z12 (tup_np dC z12)
    have e63 := dK.keep e62 (tup_np dC e62)
    have Z4 := same_new (o := .tup [V.int 1, u2]) hq2
    have z2 : upd K3 q2 (.tup [V.int 1, u2]) q2 = some (.tup [V.int 1, u2]) := upd_same
    have z14 := Z4 _ _ z13
    have e64 := Z4 _ _ e63
    have dE := dD.same Z4
    have Dcl4 := Dcl'.same (sd_of Z4)
    clear hq2
    generalize upd K3 q2 (.tup [V.int 1, u2]) = K4 at z2 z14 e64 dE Dcl4 ⊢
    -- (2, play)
    refine ⟨_, rfl, s2, fun q3 hq3 => ?_⟩
    have Z5 := same_new (o := .tup [V.int 2, .ref tp5]) hq3
    have z3 : upd K4 q3 (.tup [V.int 2, .ref tp5]) q3 = some (.tup [V.int 2, .ref tp5]) := upd_same
    have z15 := Z5 _ _ z14
    have z25 := Z5 _ _ z2
    have e65 := Z5 _ _ e64
    have dF := dE.same Z5
    have Dcl5 := Dcl4.same (sd_of Z5)
    clear hq3
    generalize upd K4 q3 (.tup [V.int 2, .ref tp5]) = K5 at z3 z15 z25 e65 dF Dcl5 ⊢
    refine ⟨_, rfl, _, rfl, p, .ref a, _, sy, rfl, dF.s, by omega, (DR.same dF.m).same same_off, ok, fun u4 an K6 Da ao P6 S6 => ⟨s2, fun q4 hq4 => ⟨s4, fun lF hlF => ?_⟩⟩⟩
    have dL : Dr K5 p (9700 + sy.picks.length + 202 + 120) K6 := ⟨P6, S6⟩
    have dH := (dF.up (Nat.le_add_right _ 120)).trans dL
    obtain ⟨ys6, hy6⟩ := dH.s.lst
    have Da' : Dat (del K6 p) u4 (ansT an) := dat_off hy6 ((show keyable (ansT an) = true from keyables_map blsD keyable_bls an)) Da
    have Z6 := same_new (o := .tup [V.int 3, u4]) hq4
    have Z7 := same_new (o := .lst [V.ref q1, .ref q2, .ref q3, .ref q4]) hlF
    have Z67 := Z6.trans Z7
    have f1 := Z67 _ _ (dL.keep z15 (tup_np dF z15))
    have f2 := Z67 _ _ (dL.keep z25 (tup_np dF z25))
    have f3 := Z67 _ _ (dL.keep z3 (tup_np dF z3))
    have f4 := Z7 _ _ (show upd K6 q4 (.tup [V.int 3, u4]) q4 = _ from upd_same)
    have fF : upd (upd K6 q4 (.tup [V.int 3, u4])) lF (.lst [V.ref q1, .ref q2, .ref q3, .ref q4]) lF = some (.lst [V.ref q1, .ref q2, .ref q3, .ref q4]) := upd_same
    have f6 := Z67 _ _ (dL.keep e65 (tup_np dF e65))
    have dM := dH.same Z67
    have nF : lF ≠ p := (dH.same Z6).ne hlF
    have Da8 := Da'.same (sd_of Z67)
    have Dcl8 := (Dcl5.same dL.m).same (sd_of Z67)
    clear hq4 hlF
    generalize upd (upd K6 q4 (.tup [V.int 3, u4])) lF (.lst [V.ref q1, .ref q2, .ref q3, .ref q4]) = K8 at f1 f2 f3 f4 fF f6 dM Da8 Dcl8 ⊢
    have fN : ∀ l ∈ cl, Nm l.1 := fun l hl => by
      rcases List.mem_append.mp (mem l hl) with z | z
      · exact ok.nm _ z
      · rw [List.mem_singleton.mp z]
        exact nm_of (by decide +kernel)
    have fT : ∀ t ∈ an, t.length ≤ 100 := fun t ht => by
      obtain ⟨i, hi⟩ := List.getElem?_of_mem ht
      have il : i < sy.owns.length := by rw [← ao.len]; exact (List.getElem?_eq_some_iff.mp hi).1
      rw [ao.tbl i _ t (List.getElem?_eq_getElem il) hi]
      have z := sight_le ok (List.getElem_mem il)
      exact Nat.le_trans (Nat.pow_le_pow_right (by decide) z) (by decide)
    obtain ⟨fa, fb, fc⟩ := fit_say ok
    have V1 : Vd K8 p (.ref a) := ⟨sy.d, DR.same dM.m, fit3 fa fb fc (by decide), tsb_say sy⟩
    have V2 : Vd K8 p u2 := ⟨clD cl, Dcl8, (fit_cl fN (Nat.le_trans lcl (by rw [List.length_append]; show _ + 1 ≤ _; omega))).to, tsb_cl cl⟩
    have V3 : Vd K8 p (.ref tp5) := ⟨blsD bs, .tup (by rw [del_ne n5]; exact f6) (dats_bls bs), (fit_row (m := 6) (w := 100) (by omega) (by decide) (by decide)).to, tsb_row bs⟩
    have V4 : Vd K8 p u4 := ⟨ansT an, Da8, (fit_ans (by rw [ao.len]; omega) fT).to, tsb_ans an⟩
    · refine ⟨lF, rfl, ⟨_, SqL.of fF⟩, ?_⟩
      have cB : 9700 + sy.picks.length + 202 + 120 ≤ 10100 := by omega
      have dN := dM.up cB
      have dS := Dr.start dN.s
      generalize 9700 + sy.picks.length + 202 + 120 = c0 at cB
      refine for_list (K := K) (a := lF) (xs := [V.ref q1, .ref q2, .ref q3, .ref q4]) (fun j σ G => ∃ (o4 o5 o6 : Option V), σ = [some (.ref p), some (.ref a), some (.ref lw), some (.ref tp5), o4, o5, o6, none, none, none] ∧ Dr K8 p (10100 + 400 * j) G) ?_ (fun j σ G _ ⟨_, _, _, _, d⟩ => SqL.of (d.keep fF nF)) ?_ ?_
      · exact ⟨_, _, _, rfl, dS⟩
      · rintro j x σ G hx ⟨o4, o5, o6, rfl, dG⟩
        obtain ⟨hj, t, k, u, rfl, et, vd, hk⟩ := vd4_at hx f1 f2 f3 f4 V1 V2 V3 V4
        have et' := dG.keep et (tup_np dN et)
        refine ⟨t, _, rfl, SqT.of et', rfl, _, _, rfl, _, _, rfl, rfl, ?_⟩
        obtain ⟨d, Du, fu, tu⟩ := vd
        have DS : ∀ {G' : Hp} {c : Nat}, Dr K8 p c G' → DatS G' (.ref a) sy := fun {G'} {c} d => ((DR.same dM.m).same d.m).same same_off
        have DU : ∀ {G' : Hp} {c : Nat}, Dr K8 p c G' → Dat (del G' p) u d := fun {G'} {c} d => Du.same d.m
        refine ⟨_, rfl, _, rfl, _, rfl, .ref a, u, sy, d, 100, 75000, 4, k, rfl, DS dG, ok, (DU dG).same same_off, fu, by decide, by decide, by decide, fun G2 S2 => ⟨true, rfl, ?_⟩⟩
        have d2 := dG.same S2
        show if (!true) = true then _ else _
        rw [if_neg (by decide)]
        refine ⟨_, rfl, rfl, _, rfl, ?_⟩
        refine and_split (R := fun G' => Dr K8 p (10100 + 400 * j + 2) G') (fun G3 d3 => ?_) (fun h k' => ?_) (fun h k' => k' _ (d2.up (by omega)))
        · show if false = true then _ else _
          rw [if_neg (by decide)]
          refine ⟨_, rfl, _, rfl, u, 100, 75000, 4, d, rfl, (DU d3).same same_off, fu, tu, by decide, by decide, by decide, by decide, fun r d' G4 S4 D' f' => ⟨_, rfl, .ref a, r, sy, d', 100, 75010, 5, k, rfl, DS (d3.same S4), ok, D', f', by decide, by decide, by decide, fun G5 S5 => ⟨true, rfl, ?_⟩⟩⟩
          have d5 := (d3.same S4).same S5
          show if (!true) = true then _ else _
          rw [if_neg (by decide)]
          refine ⟨6, rfl, by decide, by decide, ?_⟩
          refine for_range (lo := 0) (n := 6) (fun m σ G' => ∃ o6 : Option V, σ = [some (.ref p), some (.ref a), some (.ref lw), some (.ref tp5), some (.int (k : Nat)), some u, o6, none, none, none] ∧ Dr K8 p (10100 + 400 * j + 2 + 61 * m) G') ?_ ?_ ?_
          · exact ⟨_, rfl, d5⟩
          · rintro m σ G6 hm ⟨o6', rfl, d6⟩
            refine ⟨_, rfl, _, rfl, _, rfl, _, rfl, p, _, 5, rfl, d6.s, by omega, by decide, by decide, fun r o r0 r1 hp7 => ⟨_, _, rfl, rfl, ?_⟩⟩
            have d7 := d6.src hp7
            obtain ⟨i, rfl⟩ : ∃ i : Nat, r = (i : Int) := ⟨r.toNat, by omega⟩
            have ei : (1 : Int) + (i : Int) = ((1 + i : Nat) : Int) := by omega
            refine ⟨p, u, _, 100, 75000, 4, 1 + i, d, by show [V.ref p, u, V.int (1 + (i : Int))] = _; rw [ei], by omega, d7.s, by omega, DU d7, fu, tu, by decide, by decide, by decide, fun r' G8 gr dr => ?_⟩
            obtain ⟨d', D', f'⟩ := gr
            have d8 := (d7.up (show _ ≤ 10100 + 400 * j + 2 + 61 * m + 1 by omega)).trans dr
            refine ⟨_, rfl, .ref a, r', sy, d', 201, 225200, 7, k, rfl, DS d8, ok, D'.same same_off, f', by decide, by decide, by decide, fun G9 S9 => ⟨true, rfl, ?_⟩⟩
            show if (!true) = true then _ else _
            rw [if_neg (by decide)]
            exact ⟨_, rfl, (d8.same S9).up (by omega)⟩
          · rintro σ G6 ⟨o6', rfl, d6⟩
            exact ⟨_, _, _, rfl, d6.up (by omega)⟩
        · have k0 : k = 0 := by
            have z := of_decide_eq_true h
            injection z with z
            omega
          obtain rfl := hk k0
          refine ⟨_, rfl, _, rfl, _, rfl, p, .ref a, _, sy, rfl, d2.s, by omega, DS d2, ok, fun r G3 gr dr => ?_⟩
          obtain ⟨d', D', f'⟩ := gr
          have d3 := (d2.up (show _ ≤ 10100 + 400 * j + 2 by omega)).trans dr
          exact ⟨.ref a, r, sy, d', 100, 75000, 4, 0, rfl, DS d3, ok, D'.same same_off, f', by decide, by decide, by decide, fun G4 S4 => ⟨true, rfl, k' _ (d3.same S4)⟩⟩
      · rintro σ G ⟨o4, o5, o6, rfl, dG⟩
        exact q _ ((dM.m.trans dG.m) |> fun z => d3.m.trans z)
end
end S1

set_option Elab.async false
set_option linter.all false
set_option maxRecDepth 100000
set_option maxHeartbeats 2000000
/-! the law -/
namespace S1
open PySem PySem.W PySem.Spec PyProof.Rows L2
def spLaw (K : PySem.W.Frag) : Sp := fun vs H Q _ => ∃ (a : Addr) (ns : List Int), vs = [.ref a] ∧ SqL K H a (ns.map V.int) ∧ ns.length ≤ 63 ∧ ∀ H', Q (.bl true) H'
theorem same_of_del {H G G' : Hp} {p : Addr} (hn : H p = none) (S : Same H G) (S2 : Same (del G p) (del G' p)) : Same H G' := fun b u e => by
  have bp : b ≠ p := ne_of_none e hn
  have z := S2 b u (by rw [del_ne bp]; exact S _ _ e)
  rwa [del_ne bp] at z
section
variable {P : Program} {w : World} {K : PySem.W.Frag} {mg : Str → Option Value} {base : Heap}
theorem scLaw : FnScope ["script", "k"] ["script"] (defScope sLaw) := ⟨rfl, rfl, rfl, by decide +kernel, rfl, by decide +kernel, by decide +kernel⟩
theorem ok_law {f fS fR : Addr} {fd fdS fdR : FuncData} (F : Fun K "law" "law" sLaw f fd) (B : Blt mg) (So : Has K mg "_law_source" sSource ["script", "k"] fS fdS) (Ri : Has K mg "_law_right" sRight ["source"] fR fdR)
    (GR : FnOkG P w K mg base 10 fR fdR ["source"] spRight) : FnOkG P w K mg base 11 f fd ["script"] (spLaw K) := by
  have GS : FnOk P w K mg base CX0 1 fS fdS ["script", "k"] (spSource K) := ok_source So.F B
  refine F.okG scLaw (fun vs H Q E h => ?_) (fun cdv A outer s H vs Q E hG0 hr h => ?_)
  · obtain ⟨a, ns, rfl, _⟩ := h
    rfl
  · obtain ⟨a, ns, rfl, hS, hlen, q⟩ := h
    have hr1 := hr.mono (show 1 ≤ 10 by decide)
    have hG : (A.deeper (envOfC "law" (defScope sLaw) s.heap.objs.size f cdv)).guards = some [] := hG0
    refine ⟨_, pss_cons (ps_for PassesOwn.never rfl (pi_range1 rfl B.range (pa_cons (pe_callB (call_max2 rfl) (by rfl) B.max (by decide +kernel) (pa_cons pe_int (pa_cons (pe_callB (call_min2 rfl) (by rfl) B.min (by decide +kernel) (pa_cons pe_int (pa_cons (pe_callB call_len_seq (by rfl) B.len (by decide +kernel) (pa_cons (pv 0) pa_nil)) pa_nil))) pa_nil))) pa_nil)) (pg_name (i := 1) scLaw.nd rfl (Or.inl rfl))
        (pss_one (ps_if (pt_not (pt_val (pe_callG hG GR hr rfl Ri.g Ri.F.kp Ri.b (pa_cons (pe_call GS hr1 rfl So.g So.F.kp So.b .nil pass0 (pa_cons (pv 0) (pa_cons (pv 1) pa_nil))) pa_nil)))) (pss_one (ps_ret pe_bl)) pss_nil)))
      (pss_one (ps_ret pe_bl)), ?_⟩
    refine ⟨_, rfl, a, _, rfl, .inl hS, _, _, rfl, _, _, rfl, _, rfl, ?_, ?_, ?_⟩
    · repeat' split <;> omega
    · repeat' split <;> omega
    refine for_range (lo := 0) (fun i σ H' => ∃ v1 : Option V, σ = [some (.ref a), v1] ∧ Same H H') ⟨_, rfl, Same.refl _⟩ ?_ ?_
    · rintro i σ H1 hi ⟨v1, rfl, s1⟩
      have hi2 : (i : Int) < 1000 := by
        have : (i : Nat) < 1000 := Nat.lt_of_lt_of_le hi (by repeat' split <;> omega)
        omega
      refine ⟨_, rfl, _, rfl, a, ns, _, rfl, s1.seq hS, hlen, by omega, by omega, fun p H2 hp s2 P2 => ?_⟩
      have hp0 : H p = none := s1.free hp
      refine ⟨p, rfl, P2, fun H3 S3 => ⟨true, rfl, ?_⟩⟩
      show if (!true) = true then _ else _
      rw [if_neg (by decide)]
      exact ⟨_, rfl, same_of_del hp0 (s1.trans s2) S3⟩
    · rintro σ H1 ⟨v1, rfl, s1⟩
      exact q H1
end
end S1

set_option Elab.async false
set_option linter.all false
set_option maxRecDepth 100000
set_option maxHeartbeats 4000000
/-! all that the text has written -/
namespace S1
open PySem PySem.Spec PyProof.Rows L2
/-- a def of the text stands under its name at f -/
def HasE (K : PySem.W.Frag) (x : Str) (st : Stmt) (f : Addr) : Prop :=
  PySem.W.nsIn K mainGlobals x = some (some (.ref f)) ∧ (∃ (oc : Value) (od : Option Addr) (kV doc pm : Value) (an : Option Addr) (cdv ct : Value) (osl : Array (Option Value)), K.lookup f = some ⟨oc, od, .func (PySem.W.fnOf x x (defArgs st) (defBody st) (defScope st) .none kV doc pm an cdv ct), osl⟩ ∧ PySem.W.codeIn K cdv x = true) ∧ PySem.W.keepIn K (.ref f) = true
theorem has_of {K : PySem.W.Frag} {h : Heap} {mg : Str → Option Value} {x : Str} {st : Stmt} {f : Addr} {ps : List Str} (X : K.In h) (G : h.Ns mainGlobals mg) (e : HasE K x st f)
    (hb : ∀ (kV doc pm : Value) (an : Option Addr) (cdv ct : Value) (us : List Value), us.length = ps.length → bindArgs (PySem.W.fnOf x x (defArgs st) (defBody st) (defScope st) .none kV doc pm an cdv ct) ⟨us, []⟩ = pure (ps.zip us)) : ∃ fd, Has K mg x st ps f fd := by
  obtain ⟨e1, ⟨oc, od, kV, doc, pm, an, cdv, ct, osl, e2, e3⟩, e4⟩ := e
  have F := fun_mk (st := st) e2 e3 e4
  exact ⟨_, F, PySem.W.mg_of X G e1, F.binds hb⟩
theorem all_mk {l : PySem.W.OpenLaw} {w : World} {K : PySem.W.Frag} {h : Heap} {mg : Str → Option Value} {fa fL f_Tr f_Tu f_Pr f_Rs f_Nn f_Le f_Ac f_An f_Si f_Ow f_Ao f_Ov f_Cs f_No f_Fs f_Fc f_At f_Fp f_Fa f_Ws f_Is f_Ic f_Ip f_Ia f_So f_Pk f_Wd f_Cl f_Sm f_Sy f_Dn f_Jw f_Jz f_Jr f_Jc f_Jo f_Js f_Od f_Be f_La f_Wi f_Ju f_Ri : Addr} {t0 t1 t2 t3 t4 t5 : Tok} (X : K.In h) (G : h.Ns mainGlobals mg) (hfa : mg "law" = some (.ref fa))
    (h_Tr : HasE K "is_truth" sIsTruth f_Tr)
    (h_Tu : HasE K "is_tuple" sIsTuple f_Tu)
    (h_Pr : HasE K "is_pair" sIsPair f_Pr)
    (h_Rs : HasE K "is_rising" sIsRising f_Rs)
    (h_Nn : HasE K "is_name" sIsName f_Nn)
    (h_Le : HasE K "is_letter" sIsLetter f_Le)
    (h_Ac : HasE K "is_any_clause" sIsAnyClause f_Ac)
    (h_An : HasE K "are_names" sAreNames f_An)
    (h_Si : HasE K "is_sight" sIsSight f_Si)
    (h_Ow : HasE K "is_own" sIsOwn f_Ow)
    (h_Ao : HasE K "are_owns" sAreOwns f_Ao)
    (h_Ov : HasE K "is_clause_over" sIsClauseOver f_Ov)
    (h_Cs : HasE K "are_clauses" sAreClauses f_Cs)
    (h_No : HasE K "names_of" sNamesOf f_No)
    (h_Fs : HasE K "fits_saying" sFitsSaying f_Fs)
    (h_Fc : HasE K "fits_clause" sFitsClause f_Fc)
    (h_At : HasE K "are_truths" sAreTruths f_At)
    (h_Fp : HasE K "fits_play" sFitsPlay f_Fp)
    (h_Fa : HasE K "fits_answers" sFitsAnswers f_Fa)
    (h_Ws : HasE K "want_saying" sWantSaying f_Ws)
    (h_Is : HasE K "is_saying" sIsSaying f_Is)
    (h_Ic : HasE K "is_clause" sIsClause f_Ic)
    (h_Ip : HasE K "is_play" sIsPlay f_Ip)
    (h_Ia : HasE K "is_answers" sIsAnswers f_Ia)
    (h_So : HasE K "_law_source" sSource f_So)
    (h_Pk : HasE K "_law_pick" sPick f_Pk)
    (h_Wd : HasE K "_law_words" sWords f_Wd)
    (h_Cl : HasE K "_law_clause" sClause f_Cl)
    (h_Sm : HasE K "_law_some" sSome f_Sm)
    (h_Sy : HasE K "_law_saying" sSaying f_Sy)
    (h_Dn : HasE K "_law_drawn" sLDrawn f_Dn)
    (h_Jw : HasE K "_law_is_word" sJWord f_Jw)
    (h_Jz : HasE K "_law_are_words" sJWords f_Jz)
    (h_Jr : HasE K "_law_is_row" sJRow f_Jr)
    (h_Jc : HasE K "_law_is_clause" sJClause f_Jc)
    (h_Jo : HasE K "_law_is_own" sJOwn f_Jo)
    (h_Js : HasE K "_law_is_saying" sJSaying f_Js)
    (h_Od : HasE K "_law_odd" sOdd f_Od)
    (h_Be : HasE K "_law_bent" sBent f_Be)
    (h_La : HasE K "_law_last" sLast f_La)
    (h_Wi : HasE K "_law_wide" sWide f_Wi)
    (h_Ju : HasE K "_law_judged" sJudged f_Ju)
    (h_Ri : HasE K "_law_right" sRight f_Ri)
    (hL : HasE K "law" sLaw fL)
    (c0 : PySem.W.nsIn K mainGlobals "SMALL" = some (some (.str "abcdefghijklmnopqrstuvwxyz" t0)))
    (c1 : PySem.W.nsIn K mainGlobals "MOST_SIGNS" = some (some (.int 8 t1)))
    (c2 : PySem.W.nsIn K mainGlobals "MOST_PICKS" = some (some (.int 6 t2)))
    (c3 : PySem.W.nsIn K mainGlobals "MOST_OWNS" = some (some (.int 8 t3)))
    (c4 : PySem.W.nsIn K mainGlobals "MOST_CLAUSES" = some (some (.int 40 t4)))
    (c5 : PySem.W.nsIn K mainGlobals "MOST_COPIES" = some (some (.int 120 t5)))
    (zlen : PySem.W.nsIn K mainGlobals "len" = some none)
    (zsum : PySem.W.nsIn K mainGlobals "sum" = some none)
    (zint : PySem.W.nsIn K mainGlobals "int" = some none)
    (zmax : PySem.W.nsIn K mainGlobals "max" = some none)
    (zmin : PySem.W.nsIn K mainGlobals "min" = some none)
    (zabs : PySem.W.nsIn K mainGlobals "abs" = some none)
    (zstr : PySem.W.nsIn K mainGlobals "str" = some none)
    (zbool : PySem.W.nsIn K mainGlobals "bool" = some none)
    (zdict : PySem.W.nsIn K mainGlobals "dict" = some none)
    (zlist : PySem.W.nsIn K mainGlobals "list" = some none)
    (zset : PySem.W.nsIn K mainGlobals "set" = some none)
    (ztuple : PySem.W.nsIn K mainGlobals "tuple" = some none)
    (zsorted : PySem.W.nsIn K mainGlobals "sorted" = some none)
    (zzip : PySem.W.nsIn K mainGlobals "zip" = some none)
    (zall : PySem.W.nsIn K mainGlobals "all" = some none)
    (zrange : PySem.W.nsIn K mainGlobals "range" = some none)
    (zisinstance : PySem.W.nsIn K mainGlobals "isinstance" = some none)
    (zrepr : PySem.W.nsIn K mainGlobals "repr" = some none)
    : ∃ fd : FuncData, (∀ (s : Shared) (u : Value), BindsTo s fd ⟨[u], []⟩ [("script", u)]) ∧ ∀ base : Heap, K.In base → base.Ns mainGlobals mg → FnOkG l.prog w K mg base 11 fa fd ["script"] (spLaw K) := by
  obtain ⟨e1, ⟨oc, od, kV, doc, pm, an, cdv, ct, osl, e2, e3⟩, e4⟩ := hL
  have e := hfa.symm.trans (PySem.W.mg_of X G e1)
  cases e
  have FL := fun_mk (st := sLaw) e2 e3 e4
  obtain ⟨fd_Tr, Tr⟩ := has_of (ps := ["value"]) X G h_Tr fun _ _ _ _ _ _ us hl => match us, hl with | [_], _ => rfl
  obtain ⟨fd_Tu, Tu⟩ := has_of (ps := ["value", "most"]) X G h_Tu fun _ _ _ _ _ _ us hl => match us, hl with | [_, _], _ => rfl
  obtain ⟨fd_Pr, Pr⟩ := has_of (ps := ["value"]) X G h_Pr fun _ _ _ _ _ _ us hl => match us, hl with | [_], _ => rfl
  obtain ⟨fd_Rs, Rs⟩ := has_of (ps := ["parts"]) X G h_Rs fun _ _ _ _ _ _ us hl => match us, hl with | [_], _ => rfl
  obtain ⟨fd_Nn, Nn⟩ := has_of (ps := ["value"]) X G h_Nn fun _ _ _ _ _ _ us hl => match us, hl with | [_], _ => rfl
  obtain ⟨fd_Le, Le⟩ := has_of (ps := ["value"]) X G h_Le fun _ _ _ _ _ _ us hl => match us, hl with | [_], _ => rfl
  obtain ⟨fd_Ac, Ac⟩ := has_of (ps := ["value"]) X G h_Ac fun _ _ _ _ _ _ us hl => match us, hl with | [_], _ => rfl
  obtain ⟨fd_An, An⟩ := has_of (ps := ["value", "most"]) X G h_An fun _ _ _ _ _ _ us hl => match us, hl with | [_, _], _ => rfl
  obtain ⟨fd_Si, Si⟩ := has_of (ps := ["value", "picks"]) X G h_Si fun _ _ _ _ _ _ us hl => match us, hl with | [_, _], _ => rfl
  obtain ⟨fd_Ow, Ow⟩ := has_of (ps := ["value", "picks"]) X G h_Ow fun _ _ _ _ _ _ us hl => match us, hl with | [_, _], _ => rfl
  obtain ⟨fd_Ao, Ao⟩ := has_of (ps := ["value", "picks"]) X G h_Ao fun _ _ _ _ _ _ us hl => match us, hl with | [_, _], _ => rfl
  obtain ⟨fd_Ov, Ov⟩ := has_of (ps := ["value", "names"]) X G h_Ov fun _ _ _ _ _ _ us hl => match us, hl with | [_, _], _ => rfl
  obtain ⟨fd_Cs, Cs⟩ := has_of (ps := ["value", "names"]) X G h_Cs fun _ _ _ _ _ _ us hl => match us, hl with | [_, _], _ => rfl
  obtain ⟨fd_No, No⟩ := has_of (ps := ["picks", "owns"]) X G h_No fun _ _ _ _ _ _ us hl => match us, hl with | [_, _], _ => rfl
  obtain ⟨fd_Fs, Fs⟩ := has_of (ps := ["value"]) X G h_Fs fun _ _ _ _ _ _ us hl => match us, hl with | [_], _ => rfl
  obtain ⟨fd_Fc, Fc⟩ := has_of (ps := ["saying", "value"]) X G h_Fc fun _ _ _ _ _ _ us hl => match us, hl with | [_, _], _ => rfl
  obtain ⟨fd_At, At⟩ := has_of (ps := ["value", "many"]) X G h_At fun _ _ _ _ _ _ us hl => match us, hl with | [_, _], _ => rfl
  obtain ⟨fd_Fp, Fp⟩ := has_of (ps := ["saying", "value"]) X G h_Fp fun _ _ _ _ _ _ us hl => match us, hl with | [_, _], _ => rfl
  obtain ⟨fd_Fa, Fa⟩ := has_of (ps := ["saying", "value"]) X G h_Fa fun _ _ _ _ _ _ us hl => match us, hl with | [_, _], _ => rfl
  obtain ⟨fd_Ws, Ws⟩ := has_of (ps := ["saying"]) X G h_Ws fun _ _ _ _ _ _ us hl => match us, hl with | [_], _ => rfl
  obtain ⟨fd_Is, Is⟩ := has_of (ps := ["value"]) X G h_Is fun _ _ _ _ _ _ us hl => match us, hl with | [_], _ => rfl
  obtain ⟨fd_Ic, Ic⟩ := has_of (ps := ["saying", "value"]) X G h_Ic fun _ _ _ _ _ _ us hl => match us, hl with | [_, _], _ => rfl
  obtain ⟨fd_Ip, Ip⟩ := has_of (ps := ["saying", "value"]) X G h_Ip fun _ _ _ _ _ _ us hl => match us, hl with | [_, _], _ => rfl
  obtain ⟨fd_Ia, Ia⟩ := has_of (ps := ["saying", "value"]) X G h_Ia fun _ _ _ _ _ _ us hl => match us, hl with | [_, _], _ => rfl
  obtain ⟨fd_So, So⟩ := has_of (ps := ["script", "k"]) X G h_So fun _ _ _ _ _ _ us hl => match us, hl with | [_, _], _ => rfl
  obtain ⟨fd_Pk, Pk⟩ := has_of (ps := ["source", "top"]) X G h_Pk fun _ _ _ _ _ _ us hl => match us, hl with | [_, _], _ => rfl
  obtain ⟨fd_Wd, Wd⟩ := has_of (ps := ["source", "size"]) X G h_Wd fun _ _ _ _ _ _ us hl => match us, hl with | [_, _], _ => rfl
  obtain ⟨fd_Cl, Cl⟩ := has_of (ps := ["source", "words"]) X G h_Cl fun _ _ _ _ _ _ us hl => match us, hl with | [_, _], _ => rfl
  obtain ⟨fd_Sm, Sm⟩ := has_of (ps := ["source", "size"]) X G h_Sm fun _ _ _ _ _ _ us hl => match us, hl with | [_, _], _ => rfl
  obtain ⟨fd_Sy, Sy⟩ := has_of (ps := ["source", "sizes"]) X G h_Sy fun _ _ _ _ _ _ us hl => match us, hl with | [_, _], _ => rfl
  obtain ⟨fd_Dn, Dn⟩ := has_of (ps := ["source", "saying"]) X G h_Dn fun _ _ _ _ _ _ us hl => match us, hl with | [_, _], _ => rfl
  obtain ⟨fd_Jw, Jw⟩ := has_of (ps := ["value"]) X G h_Jw fun _ _ _ _ _ _ us hl => match us, hl with | [_], _ => rfl
  obtain ⟨fd_Jz, Jz⟩ := has_of (ps := ["value"]) X G h_Jz fun _ _ _ _ _ _ us hl => match us, hl with | [_], _ => rfl
  obtain ⟨fd_Jr, Jr⟩ := has_of (ps := ["value", "size"]) X G h_Jr fun _ _ _ _ _ _ us hl => match us, hl with | [_, _], _ => rfl
  obtain ⟨fd_Jc, Jc⟩ := has_of (ps := ["words", "value"]) X G h_Jc fun _ _ _ _ _ _ us hl => match us, hl with | [_, _], _ => rfl
  obtain ⟨fd_Jo, Jo⟩ := has_of (ps := ["picks", "value"]) X G h_Jo fun _ _ _ _ _ _ us hl => match us, hl with | [_, _], _ => rfl
  obtain ⟨fd_Js, Js⟩ := has_of (ps := ["value"]) X G h_Js fun _ _ _ _ _ _ us hl => match us, hl with | [_], _ => rfl
  obtain ⟨fd_Od, Od⟩ := has_of (ps := ["source", "value"]) X G h_Od fun _ _ _ _ _ _ us hl => match us, hl with | [_, _], _ => rfl
  obtain ⟨fd_Be, Be⟩ := has_of (ps := ["source", "value", "deep"]) X G h_Be fun _ _ _ _ _ _ us hl => match us, hl with | [_, _, _], _ => rfl
  obtain ⟨fd_La, La⟩ := has_of (ps := ["value"]) X G h_La fun _ _ _ _ _ _ us hl => match us, hl with | [_], _ => rfl
  obtain ⟨fd_Wi, Wi⟩ := has_of (ps := ["source", "saying"]) X G h_Wi fun _ _ _ _ _ _ us hl => match us, hl with | [_, _], _ => rfl
  obtain ⟨fd_Ju, Ju⟩ := has_of (ps := ["saying", "value", "kind"]) X G h_Ju fun _ _ _ _ _ _ us hl => match us, hl with | [_, _, _], _ => rfl
  obtain ⟨fd_Ri, Ri⟩ := has_of (ps := ["source"]) X G h_Ri fun _ _ _ _ _ _ us hl => match us, hl with | [_], _ => rfl
  have B : Blt mg := {len := PySem.W.mg_none_of X G zlen, sum := PySem.W.mg_none_of X G zsum, int := PySem.W.mg_none_of X G zint, max := PySem.W.mg_none_of X G zmax, min := PySem.W.mg_none_of X G zmin, abs := PySem.W.mg_none_of X G zabs, str := PySem.W.mg_none_of X G zstr, bool := PySem.W.mg_none_of X G zbool, dict := PySem.W.mg_none_of X G zdict, list := PySem.W.mg_none_of X G zlist, set := PySem.W.mg_none_of X G zset, tuple := PySem.W.mg_none_of X G ztuple, sorted := PySem.W.mg_none_of X G zsorted, zip := PySem.W.mg_none_of X G zzip, all := PySem.W.mg_none_of X G zall, range := PySem.W.mg_none_of X G zrange, isi := PySem.W.mg_none_of X G zisinstance}
  have nrepr := PySem.W.mg_none_of X G zrepr
  have C : Cst mg := {small := ⟨_, PySem.W.mg_of X G c0⟩, signs := ⟨_, PySem.W.mg_of X G c1⟩, picks := ⟨_, PySem.W.mg_of X G c2⟩, owns := ⟨_, PySem.W.mg_of X G c3⟩, clauses := ⟨_, PySem.W.mg_of X G c4⟩, copies := ⟨_, PySem.W.mg_of X G c5⟩}
  refine ⟨PySem.W.fnOf "law" "law" (defArgs sLaw) (defBody sLaw) (defScope sLaw) .none kV doc pm an cdv ct, fun s v => .of_eq rfl, fun base _ _ => ?_⟩
  have GLe : FnOk l.prog w K mg base CX0 2 _ _ ["value"] (spJ isLt) := ok_isLetter Le.F Pr Nn Tr B C
  have GAc : FnOk l.prog w K mg base CX0 3 _ _ ["value"] (spJ isCl) := ok_isAnyClause Ac.F Le GLe Rs B
  have GAn : FnOk l.prog w K mg base CX0 2 _ _ ["value", "most"] spNames := ok_areNames An.F Tu Nn Rs B C
  have GSi : FnOk l.prog w K mg base CX0 3 _ _ ["value", "picks"] spSightB := ok_isSight Si.F An GAn B
  have GOw : FnOk l.prog w K mg base CX0 4 _ _ ["value", "picks"] spOwnB := ok_isOwn Ow.F Pr Nn Si GSi B C
  have GAo : FnOk l.prog w K mg base CX0 5 _ _ ["value", "picks"] spOwnsB := ok_areOwns Ao.F Tu Ow Rs GOw B C
  have GOv : FnOk l.prog w K mg base CX0 4 _ _ ["value", "names"] spClO := ok_isClauseOver Ov.F Ac GAc B
  have GCs : FnOk l.prog w K mg base CX0 5 _ _ ["value", "names"] spClsB := ok_areClauses Cs.F Tu Ov Rs GOv B C
  have GFs : FnOk l.prog w K mg base CX0 6 _ _ ["value"] (spJ sayB) := ok_fitsSaying Fs.F An Ao Cs No GAn GAo GCs B C
  have GWs : FnOk l.prog w K mg base CX0 7 _ _ ["saying"] spWantSay := ok_wantSaying Ws.F Fs GFs
  have GFc : FnOk l.prog w K mg base CX0 5 _ _ ["saying", "value"] (spJS fun s d => isClO s.names d) := ok_fitsClause Fc.F Ov No GOv B
  have GAt : FnOk l.prog w K mg base CX0 2 _ _ ["value", "many"] spTruthsN := ok_areTruths At.F Tr B
  have GFp : FnOk l.prog w K mg base CX0 3 _ _ ["saying", "value"] (spJS fun s d => truthsB s.picks.length d) := ok_fitsPlay Fp.F At GAt B
  have GFa : FnOk l.prog w K mg base CX0 3 _ _ ["saying", "value"] (spJS fun s d => ansB s.owns d) := ok_fitsAnswers Fa.F At GAt B
  have GIs : FnOk l.prog w K mg base CX0 8 _ _ ["value"] (spJ sayB) := ok_isSaying Is.F Fs GFs
  have GIc : FnOk l.prog w K mg base CX0 8 _ _ ["saying", "value"] (spJS fun s d => isClO s.names d) := ok_isClause Ic.F Ws Fc GWs GFc
  have GIp : FnOk l.prog w K mg base CX0 8 _ _ ["saying", "value"] (spJS fun s d => truthsB s.picks.length d) := ok_isPlay Ip.F Ws Fp GWs GFp
  have GIa : FnOk l.prog w K mg base CX0 8 _ _ ["saying", "value"] (spJS fun s d => ansB s.owns d) := ok_isAnswers Ia.F Ws Fa GWs GFa
  have GJz : FnOk l.prog w K mg base CX0 2 _ _ ["value"] (spJ wordsB) := ok_jWords Jz.F Jw B
  have GJc : FnOk l.prog w K mg base CX0 2 _ _ ["words", "value"] spClW := ok_jClause Jc.F Jw B
  have GJo : FnOk l.prog w K mg base CX0 3 _ _ ["picks", "value"] spOwnW := ok_jOwn Jo.F Jw Jz B
  have GJs : FnOk l.prog w K mg base CX0 4 _ _ ["value"] (spJ sayB) := ok_jSaying Js.F Jz Jo Jc GJz GJo GJc B
  have GJr : FnOk l.prog w K mg base CX0 1 _ _ ["value", "size"] spTruthsN := ok_jRow Jr.F B
  have GJu : FnOkG l.prog w K mg base 9 _ _ ["saying", "value", "kind"] spJudged := ok_judged Ju.F B nrepr Is Ic Ip Ia Js Jc Jr GIs GIc GIp GIa GJs GJc GJr
  have GY : FnOk l.prog w K mg base CX0 3 _ _ ["source", "sizes"] spSaying := ok_saying Sy.F Pk Wd Cl Sm B
  have GC : FnOk l.prog w K mg base CX0 2 _ _ ["source", "words"] spClauseW := ok_clauseW Cl.F Pk B
  have GD : FnOk l.prog w K mg base CX0 2 _ _ ["source", "saying"] spDrawn := ok_lDrawn Dn.F Pk B
  have GW : FnOk l.prog w K mg base CX0 2 _ _ ["source", "saying"] spWide := ok_wide Wi.F Pk B
  have GL : FnOk l.prog w K mg base CX0 7 _ _ ["value"] (spLast 6) := ok_last La B 6
  have GB : FnOk l.prog w K mg base CX0 9 _ _ ["source", "value", "deep"] (spBent 6) := ok_bent Be Pk Od B 6
  have GR : FnOkG l.prog w K mg base 10 _ _ ["source"] spRight := ok_right Ri.F B Pk Sy Cl Dn Wi La Be Ju GY GC GD GW GL GB GJu
  exact ok_law FL B So Ri GR
theorem walk {l : PySem.W.OpenLaw} {q : Program} {loose : List Str} {XP : (Str → Option Value) → Heap → Prop} {YP : World → Heap → Prop} {d : DefRec} {K : Params → PySem.W.Frag} (hn : l.most = some 63) (hdf : d.params.defaults = []) (hY : ∀ (w : World) (h : Heap), YP w h → (K w.params).In h)
    (F : ∀ (w : World) (mg : Str → Option Value) (fa : Addr) (h : Heap), (K w.params).In h → h.Ns mainGlobals mg → mg d.name = some (.ref fa) →
      ∃ fd : FuncData, (∀ (s : Shared) (u : Value), BindsTo s fd ⟨[u], []⟩ [("script", u)]) ∧ ∀ base : Heap, (K w.params).In base → base.Ns mainGlobals mg → FnOkG l.prog w (K w.params) mg base 11 fa fd ["script"] (spLaw (K w.params))) :
    PySem.W.WalkO q loose XP YP l.row.toRowW d [] (fun f vs => PySem.call f vs) :=
  walk_ofG (n := 63) (k := 11) (sp := spLaw) hn (by decide) hdf ⟨rfl, by decide, by decide⟩ hY F fun _ _ a ns hl _ hS => ⟨a, ns, rfl, hS, hl, fun _ => rfl⟩
end S1

open PySem PySem.W PyProof.Rows
set_option maxRecDepth 100000 in
set_option maxHeartbeats 0 in
theorem PySem.Challenge.cw_onlyseen_k01_sayings_clauses_plays_and_a_holds : PySem.Challenge.rw_onlyseen_k01_sayings_clauses_plays_and_a.Holds := by
  w_on; o_law; k_head; (case hw => w_witness2)
  k_fill
  refine S1.walk (l := PySem.Challenge.rw_onlyseen_k01_sayings_clauses_plays_and_a) rfl rfl (fun w h Y => PySem.W.kIn_of Y) ?F
  case F =>
    intro w mg fa h KX G hmg
    refine' S1.all_mk KX G hmg ?h_Tr ?h_Tu ?h_Pr ?h_Rs ?h_Nn ?h_Le ?h_Ac ?h_An ?h_Si ?h_Ow ?h_Ao ?h_Ov ?h_Cs ?h_No ?h_Fs ?h_Fc ?h_At ?h_Fp ?h_Fa ?h_Ws ?h_Is ?h_Ic ?h_Ip ?h_Ia ?h_So ?h_Pk ?h_Wd ?h_Cl ?h_Sm ?h_Sy ?h_Dn ?h_Jw ?h_Jz ?h_Jr ?h_Jc ?h_Jo ?h_Js ?h_Od ?h_Be ?h_La ?h_Wi ?h_Ju ?h_Ri ?hL ?c0 ?c1 ?c2 ?c3 ?c4 ?c5 ?zlen ?zsum ?zint ?zmax ?zmin ?zabs ?zstr ?zbool ?zdict ?zlist ?zset ?ztuple ?zsorted ?zzip ?zall ?zrange ?zisinstance ?zrepr
    (case h_Tr => exact ⟨by k_is, ⟨_, _, _, _, _, _, _, _, _, by k_is, by k_is⟩, by k_is⟩)
    (case h_Tu => exact ⟨by k_is, ⟨_, _, _, _, _, _, _, _, _, by k_is, by k_is⟩, by k_is⟩)
    (case h_Pr => exact ⟨by k_is, ⟨_, _, _, _, _, _, _, _, _, by k_is, by k_is⟩, by k_is⟩)
    (case h_Rs => exact ⟨by k_is, ⟨_, _, _, _, _, _, _, _, _, by k_is, by k_is⟩, by k_is⟩)
    (case h_Nn => exact ⟨by k_is, ⟨_, _, _, _, _, _, _, _, _, by k_is, by k_is⟩, by k_is⟩)
    (case h_Le => exact ⟨by k_is, ⟨_, _, _, _, _, _, _, _, _, by k_is, by k_is⟩, by k_is⟩)
    (case h_Ac => exact ⟨by k_is, ⟨_, _, _, _, _, _, _, _, _, by k_is, by k_is⟩, by k_is⟩)
    (case h_An => exact ⟨by k_is, ⟨_, _, _, _, _, _, _, _, _, by k_is, by k_is⟩, by k_is⟩)
    (case h_Si => exact ⟨by k_is, ⟨_, _, _, _, _, _, _, _, _, by k_is, by k_is⟩, by k_is⟩)
    (case h_Ow => exact ⟨by k_is, ⟨_, _, _, _, _, _, _, _, _, by k_is, by k_is⟩, by k_is⟩)
    (case h_Ao => exact ⟨by k_is, ⟨_, _, _, _, _, _, _, _, _, by k_is, by k_is⟩, by k_is⟩)
    (case h_Ov => exact ⟨by k_is, ⟨_, _, _, _, _, _, _, _, _, by k_is, by k_is⟩, by k_is⟩)
    (case h_Cs => exact ⟨by k_is, ⟨_, _, _, _, _, _, _, _, _, by k_is, by k_is⟩, by k_is⟩)
    (case h_No => exact ⟨by k_is, ⟨_, _, _, _, _, _, _, _, _, by k_is, by k_is⟩, by k_is⟩)
    (case h_Fs => exact ⟨by k_is, ⟨_, _, _, _, _, _, _, _, _, by k_is, by k_is⟩, by k_is⟩)
    (case h_Fc => exact ⟨by k_is, ⟨_, _, _, _, _, _, _, _, _, by k_is, by k_is⟩, by k_is⟩)
    (case h_At => exact ⟨by k_is, ⟨_, _, _, _, _, _, _, _, _, by k_is, by k_is⟩, by k_is⟩)
    (case h_Fp => exact ⟨by k_is, ⟨_, _, _, _, _, _, _, _, _, by k_is, by k_is⟩, by k_is⟩)
    (case h_Fa => exact ⟨by k_is, ⟨_, _, _, _, _, _, _, _, _, by k_is, by k_is⟩, by k_is⟩)
    (case h_Ws => exact ⟨by k_is, ⟨_, _, _, _, _, _, _, _, _, by k_is, by k_is⟩, by k_is⟩)
    (case h_Is => exact ⟨by k_is, ⟨_, _, _, _, _, _, _, _, _, by k_is, by k_is⟩, by k_is⟩)
    (case h_Ic => exact ⟨by k_is, ⟨_, _, _, _, _, _, _, _, _, by k_is, by k_is⟩, by k_is⟩)
    (case h_Ip => exact ⟨by k_is, ⟨_, _, _, _, _, _, _, _, _, by k_is, by k_is⟩, by k_is⟩)
    (case h_Ia => exact ⟨by k_is, ⟨_, _, _, _, _, _, _, _, _, by k_is, by k_is⟩, by k_is⟩)
    (case h_So => exact ⟨by k_is, ⟨_, _, _, _, _, _, _, _, _, by k_is, by k_is⟩, by k_is⟩)
    (case h_Pk => exact ⟨by k_is, ⟨_, _, _, _, _, _, _, _, _, by k_is, by k_is⟩, by k_is⟩)
    (case h_Wd => exact ⟨by k_is, ⟨_, _, _, _, _, _, _, _, _, by k_is, by k_is⟩, by k_is⟩)
    (case h_Cl => exact ⟨by k_is, ⟨_, _, _, _, _, _, _, _, _, by k_is, by k_is⟩, by k_is⟩)
    (case h_Sm => exact ⟨by k_is, ⟨_, _, _, _, _, _, _, _, _, by k_is, by k_is⟩, by k_is⟩)
    (case h_Sy => exact ⟨by k_is, ⟨_, _, _, _, _, _, _, _, _, by k_is, by k_is⟩, by k_is⟩)
    (case h_Dn => exact ⟨by k_is, ⟨_, _, _, _, _, _, _, _, _, by k_is, by k_is⟩, by k_is⟩)
    (case h_Jw => exact ⟨by k_is, ⟨_, _, _, _, _, _, _, _, _, by k_is, by k_is⟩, by k_is⟩)
    (case h_Jz => exact ⟨by k_is, ⟨_, _, _, _, _, _, _, _, _, by k_is, by k_is⟩, by k_is⟩)
    (case h_Jr => exact ⟨by k_is, ⟨_, _, _, _, _, _, _, _, _, by k_is, by k_is⟩, by k_is⟩)
    (case h_Jc => exact ⟨by k_is, ⟨_, _, _, _, _, _, _, _, _, by k_is, by k_is⟩, by k_is⟩)
    (case h_Jo => exact ⟨by k_is, ⟨_, _, _, _, _, _, _, _, _, by k_is, by k_is⟩, by k_is⟩)
    (case h_Js => exact ⟨by k_is, ⟨_, _, _, _, _, _, _, _, _, by k_is, by k_is⟩, by k_is⟩)
    (case h_Od => exact ⟨by k_is, ⟨_, _, _, _, _, _, _, _, _, by k_is, by k_is⟩, by k_is⟩)
    (case h_Be => exact ⟨by k_is, ⟨_, _, _, _, _, _, _, _, _, by k_is, by k_is⟩, by k_is⟩)
    (case h_La => exact ⟨by k_is, ⟨_, _, _, _, _, _, _, _, _, by k_is, by k_is⟩, by k_is⟩)
    (case h_Wi => exact ⟨by k_is, ⟨_, _, _, _, _, _, _, _, _, by k_is, by k_is⟩, by k_is⟩)
    (case h_Ju => exact ⟨by k_is, ⟨_, _, _, _, _, _, _, _, _, by k_is, by k_is⟩, by k_is⟩)
    (case h_Ri => exact ⟨by k_is, ⟨_, _, _, _, _, _, _, _, _, by k_is, by k_is⟩, by k_is⟩)
    (case hL => exact ⟨by k_is, ⟨_, _, _, _, _, _, _, _, _, by k_is, by k_is⟩, by k_is⟩)
    (case c0 => k_is)
    (case c1 => k_is)
    (case c2 => k_is)
    (case c3 => k_is)
    (case c4 => k_is)
    (case c5 => k_is)
    (case zlen => k_is)
    (case zsum => k_is)
    (case zint => k_is)
    (case zmax => k_is)
    (case zmin => k_is)
    (case zabs => k_is)
    (case zstr => k_is)
    (case zbool => k_is)
    (case zdict => k_is)
    (case zlist => k_is)
    (case zset => k_is)
    (case ztuple => k_is)
    (case zsorted => k_is)
    (case zzip => k_is)
    (case zall => k_is)
    (case zrange => k_is)
    (case zisinstance => k_is)
    (case zrepr => k_is)
