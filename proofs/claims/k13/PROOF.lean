import PyProof.Rows.All
import Wide.All
import OpenK.AllK
import Wide.FinOn
import HandS.ForMost
import HandS.ExcInit
import PyProof.ReprReads
import PyProof.ReprRoads
import HandS.Conv
import KE.KExcIs
import HandS.Defaults
import HandS.Wide
import KE.SortData
import KE.KeyNested
import HandS.TupSets
import HandS.Words
import KE.IntBitsLaws
import HandS.Iter
import HandS.Style
import HandS.IsInst
import HandS.TupLe
import HandS.Dict
import HandS.TupLen
import PyProof.Rows.TupTab
import KE.DataEq
import KE.KDictSum
import KE.KDictCopyH
import HandS.Zip
import HandS.Walk
import PyProof.ListStr
import PyProof.Rows.CountFlat
import KE.KDictKeyed
import HandS.TupAny
import KE.KRevSl
import PyProof.TupleOfSeq
import PySem.Challenge.RW_onlyseen_k13_papers_of_idle_sights
set_option Elab.async false
set_option linter.all false
set_option maxRecDepth 100000
set_option maxHeartbeats 4000000
namespace PySem
namespace KwX
open Builtin Builtin.ObjectAttr PySem.HandSPX
section
variable {M : Model} {A : Around} {E : Value → Shared → Prop} {h : Heap} {g : Array GenState} {d : Drawn} {t : Nat} {os : OsState}
variable {nm q : Str} {C N : Addr} {bs bm bmB : List Value} {hdct : Bool} {sn : List Str} {sub : List Value} {ab : Bool} {col : Option Bool} {dd : Option Addr} {k0 k1 k2 k3 k5 : Option Value} {B newId initId : String}
theorem check_new_kw (F : ExcBaseFacts B newId initId bmB) (hT : ∀ X : String, bm.contains (.type X) = bmB.contains (.type X)) {kx : Str} {kv : Value} {Q : Unit → Shared → Prop}
    (hC : h.get? C = some (excClassObj nm q C N bs bm hdct sn sub ab col dd k0 k1 k2 k3 k5 newId)) (hq : Q () ⟨h, g, d, t, os⟩) : wpAny M A (checkBuiltinCall newId ⟨[.ref C], [(kx, kv)]⟩) Q E ⟨h, g, d, t, os⟩ := by
  have hcont : (Value.ref C :: bm).contains (.type B) = true := by rw [List.contains_cons, hT, F.hasB, Bool.or_true]
  have hstar := F.noStar
  simp only [checkBuiltinCall, F.newKind, F.newSplit, F.newRow]
  repeat (first | refine wpAny_loadPart_at hC ?_ | (refine wpAny_isSubtype_exc hC ?_; rw [hcont]) | refine wpAny_staticBase_exc hC ?_ | refine wpAny_madeBy_exc hC ?_ | simp only [bne_self_eq_false, Bool.false_eq_true, if_false] | wp_step)
  exact hq
end
section
variable {prog : Program} {w : World} {A : Around} {E : Value → Shared → Prop} {R : Result → Shared → Prop} {h : Heap} {g : Array GenState} {d : Drawn} {t : Nat} {os : OsState}
variable {nm q : Str} {C N : Addr} {bs bm bmB : List Value} {hdct : Bool} {sn : List Str} {sub : List Value} {ab : Bool} {col : Option Bool} {dd : Option Addr} {k0 k1 k2 k3 k5 : Option Value} {B newId initId : String}
theorem new_kw (F : ExcBaseFacts B newId initId bmB) (hT : ∀ X : String, bm.contains (.type X) = bmB.contains (.type X)) {kx : Str} {kv : Value}
    (hC : h.get? C = some (excClassObj nm q C N bs bm hdct sn sub ab col dd k0 k1 k2 k3 k5 newId))
    (hq : R (.ok (.ret (.ref (h.objs.size + 1)))) ⟨(h.push { cls := .type "tuple", data := .seq #[] }).push
      { cls := .ref C, data := .fields #[.ref h.objs.size, .none, .none, .none, .bool false, .none] }, g, d, t, os⟩) :
    codeAny (model prog w) A (.builtin newId ⟨[.ref C], [(kx, kv)]⟩) R ⟨h, g, d, t, os⟩ := by
  have hends := F.ends
  have hrest : ([] : List Value).length ≤ sizeLine := Nat.zero_le _
  have hcB : (Value.ref C :: bm).contains (.type B) = true := by rw [List.contains_cons, hT, F.hasB, Bool.or_true]
  have hcA : (Value.ref C :: bm).contains (.type "AttributeError") = false := by rw [List.contains_cons, hT, F.noAttr]; rfl
  have hcN : (Value.ref C :: bm).contains (.type "NameError") = false := by rw [List.contains_cons, hT, F.noName]; rfl
  refine codeAny_builtinAt F.entry ?_
  unfold Builtin.«BaseException.__new__»
  refine wpAt_bind ?_
  show wpAt _ _ _ (stack >>= _) _ _ _
  refine wpAt_bind (wpAt_stack fun p below => wpAt_of_wpAny ?_)
  wp_walk
  refine wpAt_of_wpAny ?_
  rw [F.owner]
  repeat (first | with_reducible refine wpAny_madeHere_exc F.canon hC ?_ | with_reducible refine wpAny_loadPart_at hC ?_ | (with_reducible refine wpAny_isSubtype_exc hC ?_; first | rw [hcB] | rw [hcA] | rw [hcN]) | wp_step)
  show R _ _
  rw [Heap.size_push]
  exact hq
theorem type_call_kw (F : ExcBaseFacts B newId initId bmB) (hT : ∀ X : String, bm.contains (.type X) = bmB.contains (.type X)) {kx : Str} {kv : Value} {fI : Addr} {Q : Fin → Shared → Prop}
    (hC : h.get? C = some (excClassObj nm q C N bs bm hdct sn sub ab col dd k0 k1 k2 k3 k5 newId))
    (hi : W.Looks (model prog w) h (typeLookup (.ref C) "__init__") (some (.ref fI))) (hb : ∀ self, W.Looks (model prog w) h (bindSpecial (.ref fI) self) (.ref fI, [self]))
    (hq : codeAny (model prog w) A (.call (.ref fI) ⟨[.ref (h.objs.size + 1)], [(kx, kv)]⟩)
      (fun r s' => match r with | .ok (.ret v) => v = .none ∧ Q (.done (.ret (.ref (h.objs.size + 1)))) s' | .ok _ => False | .error e => E e s')
      ⟨(h.push (W.kdv_tup [])).push (excO C h.objs.size), g, d, t, os⟩) :
    wpAny (model prog w) A (Builtin.«type.__call__» ⟨[.ref C], [(kx, kv)]⟩) Q E ⟨h, g, d, t, os⟩ := by
  repeat (first | with_reducible refine wpAny_loadPart_at hC ?_ | with_reducible refine wpAny_madeBy_exc hC ?_ | wp_step)
  refine codeAny_call_builtin_code (Code.quiet_builtin _ F.quiet) (check_new_kw F hT hC ?_)
  refine new_kw F hT hC ?_
  show wpAny _ _ _ _ _ _
  have k : ∀ b o, h.get? b = some o → ((h.push (W.kdv_tup [])).push (excO C h.objs.size)).get? b = some o := fun b o e => Heap.get?_push_of_some _ (Heap.get?_push_of_some _ e)
  have hC₁ := k _ _ hC
  have hget : ((h.push (W.kdv_tup [])).push (excO C h.objs.size)).get? (h.objs.size + 1) = some (excO C h.objs.size) := by heap_get
  have hcC : (Value.ref C :: bm).contains (.ref C) = true := by simp
  have i1 := hi.keeps k
  have b1 := (hb (.ref (h.objs.size + 1))).keeps k
  unfold isInstance
  repeat (first | with_reducible refine wpAny_loadPart_at hget ?_ | (with_reducible refine wpAny_isSubtype_exc hC₁ ?_; rw [hcC]) | wp_step)
  show wpAny _ _ (typeLookup (.ref C) _) _ _ _
  refine i1.at ?_
  refine wpAny_holding (wpAny_bind (b1.at ?_))
  refine wpAny_bind (wpAny_call (codeAny_mono hq fun r s' z => ?_))
  rcases r with e | (v | _ | _ | _) <;> first | exact z | exact z.elim | skip
  obtain ⟨rfl, z⟩ := z
  first
    | exact wpAny_pure (wpAny_pure z)
    | (wp_walk; exact z)
theorem call_kw (F : ExcBaseFacts B newId initId bmB) (hT : ∀ X : String, bm.contains (.type X) = bmB.contains (.type X)) {kx : Str} {kv : Value} {fI : Addr}
    (hC : h.get? C = some (excClassObj nm q C N bs bm hdct sn sub ab col dd k0 k1 k2 k3 k5 newId))
    (hi : W.Looks (model prog w) h (typeLookup (.ref C) "__init__") (some (.ref fI))) (hb : ∀ self, W.Looks (model prog w) h (bindSpecial (.ref fI) self) (.ref fI, [self]))
    (hq : codeAny (model prog w) (A.under (.builtin "type.__call__" ⟨[.ref C], [(kx, kv)]⟩)) (.call (.ref fI) ⟨[.ref (h.objs.size + 1)], [(kx, kv)]⟩) (W.InitBack (h.objs.size + 1) R)
      ⟨(h.push (W.kdv_tup [])).push (excO C h.objs.size), g, d, t, os⟩) :
    codeAny (model prog w) A (.call (.ref C) ⟨[], [(kx, kv)]⟩) R ⟨h, g, d, t, os⟩ := by
  have f1 := tc_lookup
  have f2 := tc_bind (.ref C)
  have hTy : (⟨h, g, d, t, os⟩ : Shared).TypeIs (.ref C) "type" := ⟨_, hC, rfl⟩
  refine codeAny_of_tree ?_
  show wpAny _ _ (callAny (.ref C) _) _ _ _
  repeat (any_goals (first | assumption | with_reducible refine wpAny_loadPart_at hC ?_ | wp_step))
  refine ⟨rfl, ?_⟩
  refine codeAny_call_builtin_at (Code.quiet_builtin _ (by decide +kernel)) entry_typeCall (wpAny_check_type_call_sub hC (type_call_kw F hT hC hi hb ?_))
  refine codeAny_mono hq fun r s' z => ?_
  rcases r with e | (v | _ | _ | _) <;> exact z
end
end KwX
end PySem

set_option Elab.async false
set_option linter.all false
set_option maxRecDepth 100000
set_option maxHeartbeats 4000000
namespace L2
open PySem PySem.Spec PyProof.Rows
def keyD : Key → PyData
  | .inl i => .int i
  | .inr x => .str x
mutual
inductive Dat (H : Hp) : V → PyData → Prop
  | non : Dat H .non .none
  | bl (b : Bool) : Dat H (.bl b) (.bool b)
  | int (i : Int) : Dat H (.int i) (.int i)
  | str (x : Str) : Dat H (.str x) (.str x)
  | lst {a : Addr} {xs : List V} {ds : List PyData} : H a = some (.lst xs) → DatAll H xs ds → Dat H (.ref a) (.list ds)
  | tup {a : Addr} {xs : List V} {ds : List PyData} : H a = some (.tup xs) → DatAll H xs ds → Dat H (.ref a) (.tuple ds)
  | dct {a : Addr} {kvs : List (Key × V)} {ds : List (PyData × PyData)} : H a = some (.dK kvs) → DatKv H kvs ds → Dat H (.ref a) (.dict ds)
inductive DatAll (H : Hp) : List V → List PyData → Prop
  | nil : DatAll H [] []
  | cons {v : V} {d : PyData} {vs : List V} {ds : List PyData} : Dat H v d → DatAll H vs ds → DatAll H (v :: vs) (d :: ds)
inductive DatKv (H : Hp) : List (Key × V) → List (PyData × PyData) → Prop
  | nil : DatKv H [] []
  | cons {k : Key} {v : V} {d : PyData} {kvs : List (Key × V)} {ds : List (PyData × PyData)} : Dat H v d → DatKv H kvs ds → DatKv H ((k, v) :: kvs) ((keyD k, d) :: ds)
end
mutual
theorem Dat.same {H H' : Hp} (S : Same H H') : ∀ {v : V} {d : PyData}, Dat H v d → Dat H' v d
  | _, _, .non => .non
  | _, _, .bl b => .bl b
  | _, _, .int i => .int i
  | _, _, .str x => .str x
  | _, _, .lst e h => .lst (S _ _ e) (DatAll.same S h)
  | _, _, .tup e h => .tup (S _ _ e) (DatAll.same S h)
  | _, _, .dct e h => .dct (S _ _ e) (DatKv.same S h)
theorem DatAll.same {H H' : Hp} (S : Same H H') : ∀ {vs : List V} {ds : List PyData}, DatAll H vs ds → DatAll H' vs ds
  | _, _, .nil => .nil
  | _, _, .cons h t => .cons (Dat.same S h) (DatAll.same S t)
theorem DatKv.same {H H' : Hp} (S : Same H H') : ∀ {kvs : List (Key × V)} {ds : List (PyData × PyData)}, DatKv H kvs ds → DatKv H' kvs ds
  | _, _, .nil => .nil
  | _, _, .cons h t => .cons (Dat.same S h) (DatKv.same S t)
end
theorem DatAll.snoc {H : Hp} : ∀ {vs : List V} {ds : List PyData} {v : V} {d : PyData}, DatAll H vs ds → Dat H v d → DatAll H (vs ++ [v]) (ds ++ [d])
  | _, _, _, _, .nil, h => .cons h .nil
  | _, _, _, _, .cons a t, h => .cons a (DatAll.snoc t h)
theorem DatAll.len {H : Hp} : ∀ {vs : List V} {ds : List PyData}, DatAll H vs ds → vs.length = ds.length
  | _, _, .nil => rfl
  | _, _, .cons _ t => by rw [List.length_cons, List.length_cons, DatAll.len t]
section
variable {P : Program} {w : World} {H : Hp} {h : Heap}
mutual
theorem reads_of_dat (ok : HOk P w H h) : ∀ {v : V} {d : PyData} {u : Value}, Dat H v d → RelV v u → ∃ as, Reads h u d as
  | _, _, _, .non, r => by cases (show _ = Value.none from r); exact ⟨_, .none⟩
  | _, _, _, .bl b, r => by cases (show _ = Value.bool b from r); exact ⟨_, .bool b⟩
  | _, _, _, .int i, r => by obtain ⟨t, rfl⟩ := r; exact ⟨_, .int i t⟩
  | _, _, _, .str x, r => by obtain ⟨t, rfl⟩ := r; exact ⟨_, .str x t⟩
  | _, _, _, .lst (a := a) e hh, r => by
    cases (show _ = Value.ref a from r)
    obtain ⟨_, its, n, rv, e1⟩ := (show ObjOk P w H h a (.lst _) from ok a _ e)
    obtain ⟨as, R⟩ := readsAll_of_dat ok hh rv
    exact ⟨_, .list e1 rfl rfl R⟩
  | _, _, _, .tup (a := a) e hh, r => by
    cases (show _ = Value.ref a from r)
    obtain ⟨_, its, rv, o, e1, e2, n, e3⟩ := (show ObjOk P w H h a (.tup _) from ok a _ e)
    obtain ⟨as, R⟩ := readsAll_of_dat ok hh rv
    exact ⟨_, .tuple e1 e2 e3 R⟩
  | _, _, _, .dct (a := a) e hh, r => by
    cases (show _ = Value.ref a from r)
    obtain ⟨_, _, vs, rv, o, es, ep, e1, e2, e3, e4, e5, e6⟩ := (show ObjOk P w H h a (.dK _) from ok a _ e)
    obtain ⟨⟨as, A⟩, ⟨bs, B⟩⟩ := readsKv_of_dat ok hh rv e5
    exact ⟨_, .dict e1 e2.1 e3 A B⟩
theorem readsAll_of_dat (ok : HOk P w H h) : ∀ {vs : List V} {ds : List PyData} {us : List Value}, DatAll H vs ds → Vals vs us → ∃ as, ReadsAll h us ds as
  | _, _, _, .nil, .nil => ⟨_, .nil⟩
  | _, _, _, .cons a t, .cons r q => by
    obtain ⟨as, A⟩ := reads_of_dat ok a r
    obtain ⟨bs, B⟩ := readsAll_of_dat ok t q
    exact ⟨_, .cons A B⟩
theorem readsKv_of_dat (ok : HOk P w H h) : ∀ {kvs : List (Key × V)} {ds : List (PyData × PyData)} {vs : List (Key × Value)} {es : List DictEntry}, DatKv H kvs ds → KV kvs vs → Pairs (mixKind P w) es vs →
    (∃ as, ReadsAll h (es.map (·.key)) (ds.map (·.1)) as) ∧ ∃ bs, ReadsAll h (es.map (·.val)) (ds.map (·.2)) bs
  | _, _, _, _, .nil, .nil, .nil => ⟨⟨_, .nil⟩, ⟨_, .nil⟩⟩
  | _, _, _, _, .cons (k := k) hd hq, .cons r q, .cons k1 e1 p => by
    obtain ⟨rk, rv⟩ := r
    obtain ⟨⟨as, A⟩, ⟨bs, B⟩⟩ := readsKv_of_dat ok hq q p
    obtain ⟨cs, C⟩ := reads_of_dat ok hd rv
    refine ⟨?_, ⟨_, .cons (by show Reads h (DictEntry.val _) _ _; rw [e1]; exact C) B⟩⟩
    dsimp only at rk
    subst rk
    rcases keyIs_shape k1 with ⟨i, t, ek, e⟩ | ⟨x, t, ek, e⟩
    · rw [ek]; exact ⟨_, .cons (by show Reads h (DictEntry.key _) (PyData.int i) _; rw [e]; exact .int i t) A⟩
    · rw [ek]; exact ⟨_, .cons (by show Reads h (DictEntry.key _) (PyData.str x) _; rw [e]; exact .str x t) A⟩
end
theorem reprKeys_of {as : List Addr} {d : Nat} : ∀ {kvs : List (Key × V)} {ds : List (PyData × PyData)} {vs : List (Key × Value)} {es : List DictEntry}, DatKv H kvs ds → KV kvs vs → Pairs (mixKind P w) es vs → PyData.showableAll (ds.map (·.1)) = true →
    (∀ t ∈ PyData.shownAll (ds.map (·.1)), t.length ≤ sizeLine) → ReprAllK P w as h d (es.map (·.key)) (PyData.shownAll (ds.map (·.1)))
  | _, _, _, _, .nil, .nil, .nil, _, _ => by simp only [List.map_nil, PyData.shownAll]; exact .nil
  | _, _, _, _, .cons (k := k) hd hq, .cons r q, .cons k1 e1 p, hs, hz => by
    obtain ⟨rk, rv⟩ := r
    dsimp only at rk
    subst rk
    simp only [List.map_cons, PyData.showableAll, Bool.and_eq_true] at hs
    simp only [List.map_cons, PyData.shownAll] at hz ⊢
    refine .cons ?_ (reprKeys_of hq q p hs.2 fun t ht => hz t (List.mem_cons_of_mem _ ht))
    rcases keyIs_shape k1 with ⟨i, t, ek, e⟩ | ⟨x, t, ek, e⟩
    · rw [ek] at hs ⊢
      rw [e]
      simp only [keyD, PyData.shown]
      exact .of_is (ReprIs.int t (by simpa [keyD, PyData.showable] using hs.1)) _ _ _
    · rw [ek] at hz ⊢
      rw [e]
      simp only [keyD, PyData.shown]
      exact .of_is (ReprIs.str x t (by have := hz _ (List.mem_cons_self ..); simpa only [keyD, PyData.shown] using this)) _ _ _
mutual
theorem reprK_of_dat (ok : HOk P w H h) : ∀ {v : V} {d : PyData} {u : Value}, Dat H v d → RelV v u → d.showable = true → d.shown.length ≤ sizeLine → ∃ bs, ReadAtMost h d.depth bs ∧ ReprK P w bs h d.depth u d.shown
  | _, _, _, .non, r, _, _ => by cases (show _ = Value.none from r); exact ⟨[], (fun _ h => nomatch h), by simp only [PyData.shown]; exact .of_is ReprIs.none _ _ _⟩
  | _, _, _, .bl b, r, _, _ => by cases (show _ = Value.bool b from r); exact ⟨[], (fun _ h => nomatch h), by simp only [PyData.shown]; exact .of_is (ReprIs.bool b) _ _ _⟩
  | _, _, _, .int i, r, hs, _ => by obtain ⟨t, rfl⟩ := r; exact ⟨[], (fun _ h => nomatch h), by simp only [PyData.shown]; exact .of_is (ReprIs.int t (by simpa [PyData.showable] using hs)) _ _ _⟩
  | _, _, _, .str x, r, _, hz => by obtain ⟨t, rfl⟩ := r; exact ⟨[], (fun _ h => nomatch h), by simp only [PyData.shown]; exact .of_is (ReprIs.str x t (by simpa only [PyData.shown] using hz)) _ _ _⟩
  | _, _, _, .lst (a := a) (xs := xs) (ds := ds) e hh, r, hs, hz => by
    obtain ⟨as, R0⟩ := reads_of_dat ok (Dat.lst e hh) r
    cases (show _ = Value.ref a from r)
    obtain ⟨_, its, n, rv, e1⟩ := (show ObjOk P w H h a (.lst _) from ok a _ e)
    have hz' : (listText (PyData.shownAll ds)).length ≤ sizeLine := by simpa only [PyData.shown] using hz
    obtain ⟨bs, hb, hk⟩ := reprAllK_of_dat ok hh rv (by simpa [PyData.showable] using hs) (fun t ht => Nat.le_trans (listText_mem_le ht) hz')
    have hna : a ∉ bs := not_mem_of_deeper R0 (by simp only [PyData.depth]; omega) hb
    refine ⟨a :: bs, ReadAtMost.cons R0 (by simp only [PyData.depth]; omega) hb, ?_⟩
    simp only [PyData.depth, PyData.shown]
    cases its with
    | nil =>
      cases rv
      cases hh
      simp only [PyData.shownAll, listText_nil]
      exact ReprK.listEmpty e1 rfl rfl
    | cons x l => exact ReprK.list e1 rfl rfl hna (by simpa using hk.length_eq) (fun i y e => hk.item i y (by simpa using e))
  | _, _, _, .tup (a := a) (xs := xs) (ds := ds) e hh, r, hs, hz => by
    obtain ⟨as, R0⟩ := reads_of_dat ok (Dat.tup e hh) r
    cases (show _ = Value.ref a from r)
    obtain ⟨_, its, rv, o, e1, e2, n, e3⟩ := (show ObjOk P w H h a (.tup _) from ok a _ e)
    have hz' : (tupleText (PyData.shownAll ds)).length ≤ sizeLine := by simpa only [PyData.shown] using hz
    obtain ⟨bs, hb, hk⟩ := reprAllK_of_dat ok hh rv (by simpa [PyData.showable] using hs) (fun t ht => Nat.le_trans (tupleText_mem_le ht) hz')
    have hna : a ∉ bs := not_mem_of_deeper R0 (by simp only [PyData.depth]; omega) hb
    refine ⟨a :: bs, ReadAtMost.cons R0 (by simp only [PyData.depth]; omega) hb, ?_⟩
    simp only [PyData.depth, PyData.shown]
    exact ReprK.tuple e1 e2 e3 hna (by simpa using hk)
  | _, _, _, .dct (a := a) (kvs := kvs) (ds := ds) e hh, r, hs, hz => by
    obtain ⟨as, R0⟩ := reads_of_dat ok (Dat.dct e hh) r
    cases (show _ = Value.ref a from r)
    obtain ⟨_, hsys, vs, rv, o, es, ep, e1, e2, e3, e4, e5, e6⟩ := (show ObjOk P w H h a (.dK _) from ok a _ e)
    have hz' : (dictText (PyData.shownKv ds)).length ≤ sizeLine := by simpa only [PyData.shown] using hz
    obtain ⟨hs1, hs2⟩ := PyData.showableKv_split ds (by simpa [PyData.showable] using hs)
    have k1 : ReprAllK P w [] h (PyData.depthKv ds) (es.toList.map (·.key)) (PyData.shownAll (ds.map (·.1))) := reprKeys_of hh rv e5 hs1 (fun t ht => let ⟨p, hp, hl⟩ := PyData.shownKv_key_le ds t ht; Nat.le_trans hl (Nat.le_trans (dictText_mem_le hp) hz'))
    obtain ⟨b2, hb2, k2⟩ := reprVals_of_dat ok hh rv e5 hs2 (fun t ht => let ⟨p, hp, hl⟩ := PyData.shownKv_val_le ds t ht; Nat.le_trans hl (Nat.le_trans (dictText_mem_le hp) hz'))
    have hb : ReadAtMost h (PyData.depthKv ds) b2 := hb2.mono (PyData.depthAll_vals_le ds)
    have hna : a ∉ b2 := not_mem_of_deeper R0 (by simp only [PyData.depth]; omega) hb
    refine ⟨a :: b2, ReadAtMost.cons R0 (by simp only [PyData.depth]; omega) hb, ?_⟩
    simp only [PyData.depth, PyData.shown, PyData.shownKv_eq]
    exact ReprK.dict e1 e2.1 e3 hsys hna (ReprEntriesK.of_two es.toList _ _
      (k1.more_le (fun b hb => absurd hb (by simp)) (Nat.le_refl _)) (k2.more_le (fun b hb => hb) (PyData.depthAll_vals_le ds)))
theorem reprAllK_of_dat (ok : HOk P w H h) : ∀ {vs : List V} {ds : List PyData} {us : List Value}, DatAll H vs ds → Vals vs us → PyData.showableAll ds = true → (∀ t ∈ PyData.shownAll ds, t.length ≤ sizeLine) →
    ∃ bs, ReadAtMost h (PyData.depthAll ds) bs ∧ ReprAllK P w bs h (PyData.depthAll ds) us (PyData.shownAll ds)
  | _, _, _, .nil, .nil, _, _ => ⟨[], (fun _ h => nomatch h), by simp only [PyData.shownAll]; exact .nil⟩
  | _, _, _, .cons (d := d) (ds := ds) a t, .cons r q, hs, hz => by
    have hs' : d.showable = true ∧ PyData.showableAll ds = true := by simpa [PyData.showableAll] using hs
    obtain ⟨b1, hb1, k1⟩ := reprK_of_dat ok a r hs'.1 (hz _ (by simp only [PyData.shownAll]; exact List.mem_cons_self ..))
    obtain ⟨b2, hb2, k2⟩ := reprAllK_of_dat ok t q hs'.2 (fun t ht => hz t (by simp only [PyData.shownAll]; exact List.mem_cons_of_mem _ ht))
    refine ⟨b1 ++ b2, ?_, ?_⟩
    · simp only [PyData.depthAll]
      exact (hb1.mono (Nat.le_max_left _ _)).append (hb2.mono (Nat.le_max_right _ _))
    · simp only [PyData.depthAll, PyData.shownAll]
      exact .cons ((k1.more fun b hb => List.mem_append_left _ hb).level_le (Nat.le_max_left _ _)) (k2.more_le (fun b hb => List.mem_append_right _ hb) (Nat.le_max_right _ _))
theorem reprVals_of_dat (ok : HOk P w H h) : ∀ {kvs : List (Key × V)} {ds : List (PyData × PyData)} {vs : List (Key × Value)} {es : List DictEntry}, DatKv H kvs ds → KV kvs vs → Pairs (mixKind P w) es vs → PyData.showableAll (ds.map (·.2)) = true → (∀ t ∈ PyData.shownAll (ds.map (·.2)), t.length ≤ sizeLine) →
    ∃ bs, ReadAtMost h (PyData.depthAll (ds.map (·.2))) bs ∧ ReprAllK P w bs h (PyData.depthAll (ds.map (·.2))) (es.map (·.val)) (PyData.shownAll (ds.map (·.2)))
  | _, _, _, _, .nil, .nil, .nil, _, _ => ⟨[], (fun _ h => nomatch h), by simp only [List.map_nil, PyData.shownAll]; exact .nil⟩
  | _, _, _, _, .cons (d := d) (ds := ds) a t, .cons r q, .cons k1 e1 p, hs, hz => by
    obtain ⟨rk, rv⟩ := r
    have hs' : d.showable = true ∧ PyData.showableAll (ds.map (·.2)) = true := by simpa [PyData.showableAll] using hs
    obtain ⟨b1, hb1, k1⟩ := reprK_of_dat ok a rv hs'.1 (hz _ (by simp only [List.map_cons, PyData.shownAll]; exact List.mem_cons_self ..))
    obtain ⟨b2, hb2, k2⟩ := reprVals_of_dat ok t q p hs'.2 (fun t ht => hz t (by simp only [List.map_cons, PyData.shownAll]; exact List.mem_cons_of_mem _ ht))
    refine ⟨b1 ++ b2, ?_, ?_⟩
    · simp only [List.map_cons, PyData.depthAll]
      exact (hb1.mono (Nat.le_max_left _ _)).append (hb2.mono (Nat.le_max_right _ _))
    · simp only [List.map_cons, PyData.depthAll, PyData.shownAll]
      rw [e1]
      exact .cons ((k1.more fun b hb => List.mem_append_left _ hb).level_le (Nat.le_max_left _ _)) (k2.more_le (fun b hb => List.mem_append_right _ hb) (Nat.le_max_right _ _))
end
end
section
variable {X : Cx}
def rRepr : List V → Hp → VK → Prop := fun xs H Q => ∃ v d, xs = [v] ∧ Dat H v d ∧ d.showable = true ∧ d.depth ≤ 50 ∧ d.shown.length ≤ sizeLine ∧ Q (.str d.shown) H
theorem call_reprD (hg : X.A.guards = some []) (hu : X.A.units + 64 < cLine) : CallR X (.builtin "repr") rRepr := by
  intro pins s σ H xs us Q I r h
  obtain ⟨v, d, rfl, D, hs, hd, hz, q⟩ := h
  obtain ⟨u, rfl, ru⟩ := vals1 r
  have fin : ∀ (h' : Heap) (tk tk' : Tok), (∀ b o, s.heap.get? b = some o → h'.get? b = some o) → EP X pins σ Q (.str d.shown tk') { s with heap := h', toks := tk } := fun h' tk tk' k => ⟨.str d.shown, H, I.kept (t' := tk) k, ⟨_, rfl⟩, q⟩
  have nl : ∀ {b : Addr}, Clear ([] : List Code) b := fun {b} => Clear.nil b
  cases D with
  | non =>
    cases (show _ = Value.none from ru)
    simp only [PyData.shown] at fin
    exact PySem.P.repr_of_none (fin s.heap _ _ fun _ _ e => e)
  | bl b =>
    cases (show _ = Value.bool b from ru)
    simp only [PyData.shown] at fin
    exact PySem.P.repr_of_bool (fin s.heap _ _ fun _ _ e => e)
  | int i =>
    obtain ⟨t, rfl⟩ := ru
    simp only [PyData.shown] at fin
    exact PySem.P.repr_of_int (by simpa [PyData.showable] using hs) (fin s.heap _ _ fun _ _ e => e)
  | str x =>
    obtain ⟨t, rfl⟩ := ru
    simp only [PyData.shown] at fin
    exact PySem.P.repr_of_str (fin s.heap _ _ fun _ _ e => e) (by simpa only [PyData.shown] using hz)
  | @lst a xs ds e hh =>
    obtain ⟨as, R0⟩ := reads_of_dat I.hok (Dat.lst e hh) ru
    cases (show _ = Value.ref a from ru)
    obtain ⟨_, its, n, rv, e1⟩ := (show ObjOk X.prog X.w H s.heap a (.lst _) from I.hok a _ e)
    have hz' : (listText (PyData.shownAll ds)).length ≤ sizeLine := by simpa only [PyData.shown] using hz
    obtain ⟨bs, hb, hk⟩ := reprAllK_of_dat I.hok hh rv (by simpa [PyData.showable] using hs) (fun t ht => Nat.le_trans (listText_mem_le ht) hz')
    have hna : a ∉ bs := not_mem_of_deeper R0 (by simp only [PyData.depth]; omega) hb
    simp only [PyData.shown] at fin
    simp only [PyData.depth] at hd
    refine call_repr_slot (by omega) ⟨_, e1, rfl⟩ F.slot_list_repr.toG ?_
    cases its with
    | nil =>
      cases rv
      cases hh
      simp only [PyData.shownAll, listText_nil] at fin
      exact call_list_repr_empty ⟨_, e1, rfl⟩ e1 rfl ⟨_, _, rfl, fin s.heap _ _ fun _ _ e => e⟩
    | cons x l =>
      exact call_list_reprK (h₀ := s.heap) e1 rfl rfl hna (by simpa using hk.length_eq) (fun i y e => hk.item i y (by simpa using e)) hg (fun b _ => Clear.nil b) (by show X.A.units + 1 + _ < cLine; omega) (fun _ _ e => e) (fun h' u tk k => ⟨_, _, rfl, fin h' tk u k⟩) hz'
  | @tup a xs ds e hh =>
    obtain ⟨as, R0⟩ := reads_of_dat I.hok (Dat.tup e hh) ru
    cases (show _ = Value.ref a from ru)
    obtain ⟨_, its, rv, o, e1, e2, n, e3⟩ := (show ObjOk X.prog X.w H s.heap a (.tup _) from I.hok a _ e)
    have hz' : (tupleText (PyData.shownAll ds)).length ≤ sizeLine := by simpa only [PyData.shown] using hz
    obtain ⟨bs, hb, hk⟩ := reprAllK_of_dat I.hok hh rv (by simpa [PyData.showable] using hs) (fun t ht => Nat.le_trans (tupleText_mem_le ht) hz')
    have hna : a ∉ bs := not_mem_of_deeper R0 (by simp only [PyData.depth]; omega) hb
    simp only [PyData.shown] at fin
    simp only [PyData.depth] at hd
    refine call_repr_slot (by omega) ⟨_, e1, e2⟩ F.slot_tuple_repr ?_
    exact call_tuple_reprK (h₀ := s.heap) e1 e2 e3 hna (by simpa using hk) hg (fun b _ => Clear.nil b) (by show X.A.units + 1 + _ < cLine; omega) (fun _ _ e => e) (fun h' u tk k => ⟨_, _, rfl, fin h' tk u k⟩) hz'
  | @dct a kvs ds e hh =>
    obtain ⟨as, R0⟩ := reads_of_dat I.hok (Dat.dct e hh) ru
    cases (show _ = Value.ref a from ru)
    obtain ⟨_, hsys, vs, rv, o, es, ep, e1, e2, e3, e4, e5, e6⟩ := (show ObjOk X.prog X.w H s.heap a (.dK _) from I.hok a _ e)
    have hz' : (dictText (PyData.shownKv ds)).length ≤ sizeLine := by simpa only [PyData.shown] using hz
    obtain ⟨hs1, hs2⟩ := PyData.showableKv_split ds (by simpa [PyData.showable] using hs)
    have k1 : ReprAllK X.prog X.w [] s.heap (PyData.depthKv ds) (es.toList.map (·.key)) (PyData.shownAll (ds.map (·.1))) := reprKeys_of hh rv e5 hs1 (fun t ht => let ⟨p, hp, hl⟩ := PyData.shownKv_key_le ds t ht; Nat.le_trans hl (Nat.le_trans (dictText_mem_le hp) hz'))
    obtain ⟨b2, hb2, k2⟩ := reprVals_of_dat I.hok hh rv e5 hs2 (fun t ht => let ⟨p, hp, hl⟩ := PyData.shownKv_val_le ds t ht; Nat.le_trans hl (Nat.le_trans (dictText_mem_le hp) hz'))
    have hb : ReadAtMost s.heap (PyData.depthKv ds) b2 := hb2.mono (PyData.depthAll_vals_le ds)
    have hna : a ∉ b2 := not_mem_of_deeper R0 (by simp only [PyData.depth]; omega) hb
    simp only [PyData.shown, PyData.shownKv_eq] at fin
    simp only [PyData.depth] at hd
    refine call_repr_slot (by omega) ⟨_, e1, e2.1⟩ F.slot_dict_repr ?_
    exact call_dict_reprK (h₀ := s.heap) e1 e2.1 e3 hsys hna (ReprEntriesK.of_two es.toList _ _ (k1.more_le (fun b hb => absurd hb (by simp)) (Nat.le_refl _)) (k2.more_le (fun b hb => hb) (PyData.depthAll_vals_le ds)))
      hg (fun b _ => Clear.nil b) (by show X.A.units + 1 + _ < cLine; omega) (fun _ _ e => e) (fun h' u tk k => ⟨_, _, rfl, fin h' tk u k⟩) (by rw [← PyData.shownKv_eq]; exact hz')
end
end L2

set_option Elab.async false
set_option linter.all false
set_option maxRecDepth 100000
set_option maxHeartbeats 4000000
namespace L2
open PySem PySem.Spec PyProof.Rows
/-- what isinstance and the field's reading ask of an error class -/
def errB (K : PySem.W.Frag) (fI C : Addr) : Bool :=
  decide (PySem.W.findIn K (.ref C) "__setattr__" = some (some (.builtin "object.__setattr__"))) && (decide (PySem.W.findIn K (.ref C) "__getattribute__" = some (some (.builtin "BaseException.__getattribute__"))) &&
  (decide (PySem.W.findIn K (.ref C) "__getattr__" = some none) && (decide (PySem.W.findIn K (.ref C) "value" = some none) && (decide (PySem.W.findIn K (.ref C) "__init__" = some (some (.ref fI))) &&
  (decide (PySem.W.subIn K (.ref C) (.type "BaseException") = some true) && (decide (PySem.W.typeIn K (.ref C) = some (.type "type")) && (PySem.W.keepIn K (.ref C) && (PySem.W.hasDictIn K C &&
  (decide (PySem.W.findIn K (.ref C) "__class__" = some (some (.builtin "object.__class__"))) && decide (PySem.W.mroIn K C (.type "object") = some true))))))))))
structure ErrC (K : PySem.W.Frag) (fI C : Addr) : Prop where
  o : OexC K C
  ga : PySem.W.findIn K (.ref C) "__getattribute__" = some (some (.builtin "BaseException.__getattribute__"))
  gg : PySem.W.findIn K (.ref C) "__getattr__" = some none
  no : PySem.W.findIn K (.ref C) "value" = some none
  iC : PySem.W.findIn K (.ref C) "__init__" = some (some (.ref fI))
  hd : PySem.W.hasDictIn K C = true
  cl : PySem.W.findIn K (.ref C) "__class__" = some (some (.builtin "object.__class__"))
  mo : PySem.W.mroIn K C (.type "object") = some true
theorem errB_ok {K : PySem.W.Frag} {fI C : Addr} (h : errB K fI C = true) (cls : ∃ nm q N bs bm sn sub ab col dd k0 k1 k2 k3 k5, K.lookup C = some (excClassObj nm q C N bs bm true sn sub ab col dd k0 k1 k2 k3 k5 "ValueError.__new__") ∧ PySem.HandSPX.refsVE bm = true) : ErrC K fI C := by
  obtain ⟨h1, h⟩ := Bool.and_eq_true_iff.mp h
  obtain ⟨h2, h⟩ := Bool.and_eq_true_iff.mp h
  obtain ⟨h3, h⟩ := Bool.and_eq_true_iff.mp h
  obtain ⟨h4, h⟩ := Bool.and_eq_true_iff.mp h
  obtain ⟨h5, h⟩ := Bool.and_eq_true_iff.mp h
  obtain ⟨h6, h⟩ := Bool.and_eq_true_iff.mp h
  obtain ⟨h7, h⟩ := Bool.and_eq_true_iff.mp h
  obtain ⟨h8, h⟩ := Bool.and_eq_true_iff.mp h
  obtain ⟨h9, h⟩ := Bool.and_eq_true_iff.mp h
  obtain ⟨h10, h11⟩ := Bool.and_eq_true_iff.mp h
  exact ⟨⟨cls, of_decide_eq_true h1, of_decide_eq_true h6, of_decide_eq_true h7, h8⟩, of_decide_eq_true h2, of_decide_eq_true h3, of_decide_eq_true h4, of_decide_eq_true h5, h9, of_decide_eq_true h10, of_decide_eq_true h11⟩
/-- an error of the class at C that keeps v stands at e, its own dict at d -/
def Err (H : Hp) (e d C : Addr) (v : V) : Prop := H e = some (exo e C (some d)) ∧ H d = some (exd d [(("value" : Str), v)])
theorem Err.same {H H' : Hp} {e d C : Addr} {v : V} (h : Err H e d C v) (S : Same H H') : Err H' e d C v := ⟨S _ _ h.1, S _ _ h.2⟩
/-- the promise of SightError.__init__ -/
def spInit (K : PySem.W.Frag) : Sp := fun vs H Q _ => ∃ (a C : Addr) (v : V), vs = [.ref a, v] ∧ OexC K C ∧ PySem.W.findIn K (.ref C) "value" = some none ∧ H a = some (exo a C none) ∧
  ∀ d, H d = none → d ≠ a → Q .non (upd (upd H d (exd d [(("value" : Str), v)])) a (exo a C (some d)))
/-- C(e), C(value=e): a new error -/
def tMkE (C : Addr) (te : TE) : TE := fun σ H Q => te σ H fun v H1 => ∀ (a d : Addr) (H2 : Hp), H1 a = none → H1 d = none → d ≠ a → Err H2 a d C v → Same H1 H2 → Q (.ref a) H2
theorem err_made {H1 : Hp} {a d C : Addr} {v : V} (na : H1 a = none) (hd : upd H1 a (exo a C none) d = none) (ne : d ≠ a) : H1 d = none ∧ Err (upd (upd (upd H1 a (exo a C none)) d (exd d [(("value" : Str), v)])) a (exo a C (some d))) a d C v ∧ Same H1 (upd (upd (upd H1 a (exo a C none)) d (exd d [(("value" : Str), v)])) a (exo a C (some d))) := by
  rw [upd_ne ne] at hd
  refine ⟨hd, ⟨upd_same, by rw [upd_ne ne, upd_same]⟩, fun b o e => ?_⟩
  rw [upd_ne (ne_of_none e na), upd_ne (ne_of_none e hd), upd_ne (ne_of_none e na)]
  exact e
section
variable {X : Cx} {fI C : Addr} {k : Nat} {fd : FuncData} {x : Str} {e : Expr} {te : TE} {p pos kp : Pos}
theorem run_err {pins : List (Addr × Obj)} {σ : St} {H1 : Hp} {Q : VK} {hp : Heap} {g : Array GenState} {d : Drawn} {t : Nat} {os : OsState} {v : V} {u : Value} {args : Args} {us : List Value} {kw : List (Str × Value)} (T : ErrC X.K fI C)
    (F1 : FnOk X.prog X.w X.K X.mg X.base CX0 k fI fd ["self", "value"] (spInit X.K)) (hr : Room (k + 1) X.A) (I1 : Inv X pins σ H1 ⟨hp, g, d, t, os⟩) (rv : RelV v u) {tp : Obj}
    (hb : ∀ s : Shared, BindsTo s fd ⟨.ref (hp.objs.size + 1) :: us, kw⟩ ((["self", "value"] : List Str).zip [Value.ref (hp.objs.size + 1), u]))
    (q : ∀ (a d : Addr) (H2 : Hp), H1 a = none → H1 d = none → d ≠ a → Err H2 a d C v → Same H1 H2 → Q (.ref a) H2) :
    codeAny (model X.prog X.w) (X.A.under (.builtin "type.__call__" ⟨.ref C :: us, kw⟩)) (.call (.ref fI) ⟨.ref (hp.objs.size + 1) :: us, kw⟩) (PySem.W.InitBack (hp.objs.size + 1) fun r s' => ∃ u, r = .ok (.ret u) ∧ EP X pins σ Q u s')
      ⟨(hp.push tp).push (PySem.HandSPX.excO C hp.objs.size), g, d, t, os⟩ := by
  have hsz : hp.objs.size ≤ hp.objs.size + 1 := Nat.le_succ _
  have hn : H1 (hp.objs.size + 1) = none := I1.hok.fresh hsz
  have kk : ∀ b o, hp.get? b = some o → ((hp.push tp).push (PySem.HandSPX.excO C hp.objs.size)).get? b = some o := fun b o e => Heap.get?_push_of_some _ (Heap.get?_push_of_some _ e)
  have hget : ((hp.push tp).push (PySem.HandSPX.excO C hp.objs.size)).get? (hp.objs.size + 1) = some (PySem.HandSPX.excO C hp.objs.size) := by heap_get
  have I2 : Inv X pins σ (upd H1 (hp.objs.size + 1) (exo (hp.objs.size + 1) C none)) ⟨(hp.push tp).push (PySem.HandSPX.excO C hp.objs.size), g, d, t, os⟩ :=
    I1.laid (t' := t) (a := hp.objs.size + 1) (o := exo (hp.objs.size + 1) C none) (h' := (hp.push tp).push (PySem.HandSPX.excO C hp.objs.size)) kk hsz (exo_ok hget)
  have r2 : Vals [V.ref (hp.objs.size + 1), v] [Value.ref (hp.objs.size + 1), u] := .cons rfl (.cons rv .nil)
  have hq : spInit X.K [V.ref (hp.objs.size + 1), v] (upd H1 (hp.objs.size + 1) (exo (hp.objs.size + 1) C none)) (fun y H2 => y = .non ∧ Q (.ref (hp.objs.size + 1)) H2) E0 :=
    ⟨_, C, v, rfl, T.o, T.no, upd_same, fun d hd ne => ⟨rfl, let ⟨z1, z2, z3⟩ := err_made hn hd ne; q _ d _ hn z1 ne z2 z3⟩⟩
  refine codeAny_mono (F1.run _ X.stack _ _ _ [Value.ref (hp.objs.size + 1), u] _ _ E0 (hr.make C us kw) (I2.env0.make C us kw) (hb _) r2 hq) fun r s' hq' => ?_
  cases r with
  | error er => exact False.elim hq'
  | ok fl =>
    cases fl with
    | ret y =>
      obtain ⟨w, H', I3, rw', ew, q3⟩ := I2.after hq'
      subst ew
      exact ⟨rw', _, rfl, V.ref (hp.objs.size + 1), H', I3, rfl, q3⟩
    | next => exact False.elim hq'
    | brk => exact False.elim hq'
    | cont => exact False.elim hq'
theorem pe_err (T : ErrC X.K fI C) (tI : PySem.W.typeIn X.K (.ref fI) = some (.type "function")) (F1 : FnOk X.prog X.w X.K X.mg X.base CX0 k fI fd ["self", "value"] (spInit X.K)) (hr : Room (k + 1) X.A)
    (hb : ∀ (s : Shared) (a u : Value), BindsTo s fd ⟨[a, u], []⟩ ((["self", "value"] : List Str).zip [a, u])) (hg : Gl X x) (hm : X.mg x = some (.ref C)) (he : PE X e te)
    (hdb : (x == ("__debug__" : Str)) = false := by decide) (hs : starEach [e] X.env = (false, eval e X.env) :: starEach [] X.env := by rfl) : PE X (.Call (.Name x p) [e] [] pos) (tMkE C te) := by
  refine ⟨fun pins s σ H Q I h => ?_⟩
  obtain ⟨nm, q, N, bs, bm, sn, sub, ab, col, dd, k0, k1, k2, k3, k5, hC, hbm⟩ := T.o.cls
  refine wpAny_Call_Name_kw (ld_glob I hg hm ?_ hdb)
  refine PySem.W.callWith_K (h₀ := X.base) I.ok.mod.kin T.o.kC ?_ hs (by rfl)
  rw [hs]
  show wpAny _ _ (spliced ((false, eval e X.env) :: backTo pos (starEach [] X.env))) _ _ s
  refine Calls.spliced_cons (thn (he.run pins s σ H _ I h) fun u s1 ⟨v, H1, I1, r1, q1⟩ => ?_)
  refine Calls.spliced_nil ⟨I1.kIn, ?_⟩
  show wpAny _ _ (call (.ref C) [u]) _ _ _
  obtain ⟨hp, g, dr, tk, os⟩ := s1
  refine wpAny_call (codeAny_mono (PySem.HandSPX.call_own F.excBase_ValueError (fun Y => PySem.HandSPX.refsVE_contains Y bm hbm) (I1.kIn _ _ hC) (PySem.W.looks_findIn I1.kIn T.iC) (fun self => PySem.W.bind_fn I1.kIn self tI) (by show 1 ≤ sizeLine; rw [sizeLine_eq]; omega)
    (run_err (kw := []) (us := [u]) (args := ⟨[], []⟩) T F1 hr I1 r1 (fun s => hb s _ u) q1)) fun r s' hq => ?_)
  obtain ⟨y, rfl, ep⟩ := hq
  exact ep
theorem pe_errK (T : ErrC X.K fI C) (tI : PySem.W.typeIn X.K (.ref fI) = some (.type "function")) (F1 : FnOk X.prog X.w X.K X.mg X.base CX0 k fI fd ["self", "value"] (spInit X.K)) (hr : Room (k + 1) X.A)
    (hb : ∀ (s : Shared) (a u : Value), BindsTo s fd ⟨[a], [("value", u)]⟩ ((["self", "value"] : List Str).zip [a, u])) (hg : Gl X x) (hm : X.mg x = some (.ref C)) (he : PE X e te)
    (hdb : (x == ("__debug__" : Str)) = false := by decide) (hall : (backToKw pos (keywordEach [⟨some "value", e, kp⟩] X.env)).all (·.1.isSome) = true := by rfl) (hks : (backToKw pos (keywordEach [⟨some "value", e, kp⟩] X.env)).filterMap (·.1) = [("value" : Str)] := by rfl)
    (hpl : ((backTo pos (starEach [] X.env)).any (·.1) || (backToKw pos (keywordEach [⟨some "value", e, kp⟩] X.env)).any (·.1.isNone)) = false := by rfl) : PE X (.Call (.Name x p) [] [⟨some "value", e, kp⟩] pos) (tMkE C te) := by
  refine ⟨fun pins s σ H Q I h => ?_⟩
  obtain ⟨nm, q, N, bs, bm, sn, sub, ab, col, dd, k0, k1, k2, k3, k5, hC, hbm⟩ := T.o.cls
  refine wpAny_Call_Name_kw (ld_glob I hg hm ?_ hdb)
  refine PySem.W.callWith_KW0 (h₀ := X.base) I.ok.mod.kin T.o.kC hall ?_ hpl
  refine thn ((pk_cons he pk_nil).run pos pins s σ H (fun vs H1 => ∃ v, vs = [v] ∧ ∀ (a d : Addr) (H2 : Hp), H1 a = none → H1 d = none → d ≠ a → Err H2 a d C v → Same H1 H2 → Q (.ref a) H2) I ?_) fun ws s2 ⟨zs, H2, I2, rz, q2⟩ => ?_
  · refine (?_ : te σ H _)
    have h' : te σ H (fun v H1 => ∀ (a d : Addr) (H2 : Hp), H1 a = none → H1 d = none → d ≠ a → Err H2 a d C v → Same H1 H2 → Q (.ref a) H2) := h
    have e : (fun (v : V) (H1 : Hp) => ∀ (a d : Addr) (H2 : Hp), H1 a = none → H1 d = none → d ≠ a → Err H2 a d C v → Same H1 H2 → Q (.ref a) H2) = (fun x H1 => tNil σ H1 fun xs H2 => ∃ v, x :: xs = [v] ∧ ∀ (a d : Addr) (H3 : Hp), H2 a = none → H2 d = none → d ≠ a → Err H3 a d C v → Same H2 H3 → Q (.ref a) H3) := by
      funext v H1
      refine propext ⟨fun z => ⟨v, rfl, z⟩, fun ⟨w, e, z⟩ => ?_⟩
      cases e
      exact z
    rw [e] at h'
    exact h'
  · obtain ⟨v, rfl, q1⟩ := q2
    obtain ⟨u, rfl, r1⟩ := vals1 rz
    refine ⟨I2.kIn, ?_⟩
    rw [hks]
    show wpAny _ _ (call (.ref C) [] [(("value" : Str), u)]) _ _ _
    obtain ⟨hp, g, dr, tk, os⟩ := s2
    refine wpAny_call (codeAny_mono (PySem.KwX.call_kw F.excBase_ValueError (fun Y => PySem.HandSPX.refsVE_contains Y bm hbm) (I2.kIn _ _ hC) (PySem.W.looks_findIn I2.kIn T.iC) (fun self => PySem.W.bind_fn I2.kIn self tI)
      (run_err (kw := [(("value" : Str), u)]) (us := []) (args := ⟨[], []⟩) T F1 hr I2 r1 (fun s => hb s _ u) q1)) fun r s' hq => ?_)
    obtain ⟨y, rfl, ep⟩ := hq
    exact ep
/-- e.value -/
def tErrV (K : PySem.W.Frag) (fI : Addr) (te : TE) : TE := fun σ H Q => te σ H fun x H1 => ∃ (a d C : Addr) (v : V), x = .ref a ∧ ErrC K fI C ∧ Err H1 a d C v ∧ Q v H1
theorem pe_errV (he : PE X e te) (hb : attributeBase e "value" X.env (eval e X.env) = eval e X.env := by rfl) : PE X (.Attribute e "value" pos) (tErrV X.K fI te) := by
  refine ⟨fun pins s σ H Q I h => ?_⟩
  refine attr_of hb (thn (he.run pins s σ H _ I h) fun u s1 hh => ?_)
  obtain ⟨x, H1, I1, rx, a, d, C, v, rfl, T, ⟨e1, e2⟩, q⟩ := hh
  obtain rfl : u = Value.ref a := rx
  obtain ⟨t1, ho⟩ := exo_at I1.hok e1
  obtain ⟨mA, hns, hr⟩ := exd_at I1.hok e2
  obtain ⟨od, hod, hl⟩ := lookIn_ns hns
  obtain ⟨w, hu, ru⟩ := RelO.some_of (v := v) (o := mA "value") (by have z := hr "value"; rw [lookup_put, if_pos rfl] at z; exact z)
  have J : PySem.W.InstAt s1.heap a { cls := .ref C, dict := some d, data := .fields #[.ref t1, .none, .none, .none, .bool false, .none] } C (some od) := ⟨ho, rfl, rfl, hod⟩
  exact HandSPX.exc_get I1.kIn J T.ga T.gg T.o.exC (PySem.W.findObj_own T.hd T.no rfl (by rw [hl, hu])) (handed_of ru) ⟨v, H1, I1.tok _, ru, q⟩
/-- isinstance(e, c) -/
def rIsErr (K : PySem.W.Frag) (fI : Addr) : List V → Hp → VK → Prop := fun xs H Q => ∃ (a d C : Addr) (v c : V) (cv : Value) (b : Bool), xs = [.ref a, c] ∧ ErrC K fI C ∧ Err H a d C v ∧ (∀ u, RelV c u → u = cv) ∧ PySem.W.kitOne K (.ref C) cv = some b ∧ Q (.bl b) H
theorem call_isErr (hn : PySem.W.specialIn X.K (.builtin "object.__class__") "__get__" = some (some (.builtin "getset_descriptor.__get__"))) (htk : PySem.W.takesIn X.K (.builtin "object.__class__") = some true) : CallR X (.builtin "isinstance") (rIsErr X.K fI) := by
  intro pins s σ H xs us Q I r h
  obtain ⟨a, d, C, v, c, cv, b, rfl, T, ⟨e1, e2⟩, hcv, e, q⟩ := h
  obtain ⟨u1, u2, rfl, r1, r2⟩ := vals2 r
  have ec := hcv _ r2
  subst ec
  cases (show u1 = Value.ref a from r1)
  obtain ⟨t1, ho⟩ := exo_at I.hok e1
  obtain ⟨mA, hns, hr⟩ := exd_at I.hok e2
  obtain ⟨od, hod, hl⟩ := lookIn_ns hns
  have J : PySem.W.InstAt s.heap a { cls := .ref C, dict := some d, data := .fields #[.ref t1, .none, .none, .none, .bool false, .none] } C (some od) := ⟨ho, rfl, rfl, hod⟩
  exact PySem.W.kia_one (PySem.W.kitx_exc (by obtain ⟨cd, hc, _⟩ := PySem.W.any_some T.hd; rw [hc]; rfl) T.ga T.gg T.o.exC T.cl hn htk T.mo) I.kIn J e (fun z => nomatch z) fun tk => ⟨.bl b, H, I.kept (t' := tk) fun _ _ z => z, rfl, q⟩
end
/-! ### defs that need to know the guards around (repr) -/
structure FnOkG (P : Program) (w : World) (K : PySem.W.Frag) (mg : Str → Option Value) (base : Heap) (k : Nat) (f : Addr) (fd : FuncData) (ps : List Str) (sp : Sp) : Prop where
  len : ∀ vs H Q E, sp vs H Q E → vs.length = ps.length
  run : ∀ (A : Around) (outer : List Env) (s : Shared) (H : Hp) (args : Args) (us : List Value) (vs : List V) (Q : VK) (E : XK), A.guards = some [] → Room k A → Env0 P w K mg base A outer s H → BindsTo s fd args (ps.zip us) → Vals vs us → sp vs H Q E →
    codeAny (model P w) A (.call (.ref f) args) (CR CX0 outer P w H s Q E) s
section
variable {P : Program} {w : World} {K : PySem.W.Frag} {mg : Str → Option Value} {base : Heap}
/-- one call of a def of the text, at one place: from its body's reading there -/
theorem run_once {x qual : Str} {st : Stmt} {f : Addr} {fd : FuncData} {N ps : List Str} (F : Fun K x qual st f fd) (S : FnScope N ps (defScope st)) {A : Around} {outer : List Env} {s : Shared} {H : Hp} {args : Args} {us : List Value} {vs : List V} {Q : VK} {E : XK}
    (hd : A.handled = none) (dp : A.depth < recursionLimit) (e0 : Env0 P w K mg base A outer s H) (hb : BindsTo s fd args (ps.zip us)) (r : Vals vs us) (hl : vs.length = ps.length)
    (body : ∀ cdv : Value, ∃ t, PSs (cxOf CX0 P w K mg base N qual (defScope st) f cdv A outer s H E).nox (defBody st) t ∧ t { nx := fun _ H' => Q .non H', rt := Q } (start N vs) H) :
    codeAny (model P w) A (.call (.ref f) args) (CR CX0 outer P w H s Q E) s := by
  obtain ⟨oc, od, kV, doc, pm, an, cdv, ct, osl, rfl, lk, hcd⟩ := F.ex
  have keep : ∀ b o, base.get? b = some o → s.heap.get? b = some o := fun b o e => (e0.bs b o e).1
  have KX : K.In s.heap := e0.mod.kin.keeps keep
  refine codeAny_call_function dp (KX _ _ lk) rfl S.co S.gen rfl (PySem.W.codeRec_of KX hcd) (hb _ _ _ _ ?_)
  refine wpAny_newFunctionEnv_cells S.kind (fun y hy => ?_) fun env he s1 z => ?_
  · rcases S.par y.1 (List.of_mem_zip hy).1 with q | q
    · exact .inl q
    · exact .inr ⟨q, PySem.W.cellsFrom_some _ _ _ (.inl q)⟩
  · subst he
    refine ⟨(e0.mod.nolimit.keeps keep).keeps z.toInCall.keep, codeAny_func ?_⟩
    obtain ⟨t, ht, hq⟩ := body cdv
    have I : Inv (cxOf CX0 P w K mg base N qual (defScope st) f cdv A outer s H E) [] (start N vs) H s1 := inv_start S hd e0 hl r z
    refine wpAny_mono (ht.nox.run [] s1 (start N vs) H _ I hq) (fun fl s' hs => ?_) fun e s' hs => hs
    cases fl with
    | ret u =>
      obtain ⟨v, _, H', J, rv, q⟩ := hs
      exact ⟨v, H', J.os, J.bare, J.base, J.hok, rv, q⟩
    | next =>
      obtain ⟨_, H', J, q⟩ := hs
      exact ⟨V.non, H', J.os, J.bare, J.base, J.hok, rfl, q⟩
    | brk => exact (hs.choose_spec.choose_spec.2 : False).elim
    | cont => exact (hs.choose_spec.choose_spec.2 : False).elim
theorem Fun.okG {x qual : Str} {st : Stmt} {f : Addr} {fd : FuncData} {N ps : List Str} {k : Nat} {sp : Sp} (F : Fun K x qual st f fd) (S : FnScope N ps (defScope st)) (len : ∀ vs H Q E, sp vs H Q E → vs.length = ps.length)
    (hbody : ∀ (cdv : Value) (A : Around) (outer : List Env) (s : Shared) (H : Hp) (vs : List V) (Q : VK) (E : XK), A.guards = some [] → Room k (A.deeper (envOfC qual (defScope st) s.heap.objs.size f cdv)) → sp vs H Q E →
      ∃ t, PSs (cxOf CX0 P w K mg base N qual (defScope st) f cdv A outer s H E).nox (defBody st) t ∧ t { nx := fun _ H' => Q .non H', rt := Q } (start N vs) H) : FnOkG P w K mg base (k + 1) f fd ps sp :=
  ⟨len, fun A outer s H args us vs Q E hg hr e0 hb r hsp => run_once F S hr.hd hr.depth e0 hb r (len _ _ _ _ hsp) fun cdv => hbody cdv A outer s H vs Q E hg (hr.deeper _) hsp⟩
end
section
variable {X : Cx} {k : Nat} {f : Addr} {fd : FuncData} {ps : List Str} {sp : Sp} {x : Str} {p pos : Pos} {e : Expr} {es : List Expr} {t : TA}
/-- f(e, ..), f a def that wants the guards known -/
theorem pe_callG (hG : X.A.guards = some []) (F : FnOkG X.prog X.w X.K X.mg X.base k f fd ps sp) (hr : Room k X.A) (hg : Gl X x) (hm : X.mg x = some (.ref f)) (hk : PySem.W.keepIn X.K (.ref f) = true) (hb : Binds X.K fd ps [])
    (ha : PA X (e :: es) t) (hdb : (x == ("__debug__" : Str)) = false := by decide) (he : starEach (e :: es) X.env = (false, eval e X.env) :: starEach es X.env := by rfl) (hpl : (backTo pos (starEach es X.env)).any (·.1) = false := by rfl) :
    PE X (.Call (.Name x p) (e :: es) [] pos) (tCall sp [] E0 t) := by
  refine ⟨fun pins s σ H Q I h => ?_⟩
  refine wpAny_Call_Name_kw (ld_glob I hg hm ?_ hdb)
  refine PySem.W.callWith_K (h₀ := X.base) I.ok.mod.kin hk (thn (ha.run pos pins s σ H _ I h) fun us s1 ⟨vs, H1, I1, r, q⟩ => ⟨I1.kIn, ?_⟩) he hpl
  have hl : (us ++ []).length = ps.length := by rw [List.append_nil, ← r.length, ← F.len _ _ _ _ q, List.append_nil]
  show wpAny _ _ (call (.ref f) us) _ _ _
  refine wpAny_call (codeAny_mono (F.run X.A X.stack s1 H1 ⟨us, []⟩ (us ++ []) (vs ++ []) Q E0 hG hr I1.env0 (hb s1 us I1.kIn hl) (r.append .nil) q) fun res s' hq => ?_)
  cases res with
  | error er => exact False.elim hq
  | ok fl =>
    cases fl with
    | ret u => exact I1.after hq
    | next => exact False.elim hq
    | brk => exact False.elim hq
    | cont => exact False.elim hq
end
/-! ### the end of a law row for such a def -/
theorem enter_law {P : Program} {w : World} {K : PySem.W.Frag} {mg mb : Str → Option Value} {k : Nat} {fa a : Addr} {fd : FuncData} {x : Str} {sp : Sp} {s1 : Shared} {us : List Value} {H : Hp}
    (F : ∀ base : Heap, K.In base → base.Ns mainGlobals mg → FnOkG P w K mg base k fa fd [x] sp) (hr : Room k callerA) (hbind : ∀ (s : Shared) (u : Value), BindsTo s fd ⟨[u], []⟩ [(x, u)])
    (KX : K.In s1.heap) (hns : s1.heap.Ns mainGlobals mg) (hb : s1.heap.Ns builtinsNs mb) (hbb : ∀ x : Str, x ≠ "__name__" → mb x = bootBuiltins x) (hlim : s1.heap.NoLimit) (hg : s1.gens = #[])
    (ha : s1.heap.get? a = some { cls := .type "list", data := .seq us.toArray }) (ok : HOk P w H s1.heap) (only : ∀ b o, H b = some o → b = a ∧ K.lookup a = none ∧ ∃ xs, o = .frz { cls := .type "list", data := .seq us.toArray } (.lst xs))
    (hsp : sp [.ref a] H (fun v _ => v = .bl true) E0) :
    codeAny (model P w) callerA (.call (.ref fa) ⟨[.ref a], []⟩) (fun r s' => r = .ok (.ret (.bool true)) ∧ OldK s1.heap s'.heap ∧ s'.os = s1.os ∧ AllBare s'.gens) s1 := by
  have free : ∀ {b : Addr} {o : Obj}, s1.heap.get? b = some o → (∀ z : Array Value, ∀ n, o.data ≠ .seq z n) → H b = none := fun {b o} e d => by
    cases q : H b with
    | none => rfl
    | some u =>
      obtain ⟨rfl, _⟩ := only b u q
      rw [ha] at e
      cases e
      exact (d _ _ rfl).elim
  have ns2 : ∀ {b : Addr} {m : Str → Option Value}, s1.heap.Ns b m → (hidT s1.heap H).Ns b m := fun {b m} n => by
    obtain ⟨o, es, ep, e, d, r⟩ := n
    exact ⟨o, es, ep, hidT_get e (free e (fun z n y => by rw [d] at y; cases y)), d, r⟩
  have kin : K.In (hidT s1.heap H) := fun b o e => hidT_get (KX b o e) (by
    cases q : H b with
    | none => rfl
    | some u =>
      obtain ⟨rfl, z, _⟩ := only b u q
      rw [z] at e
      cases e)
  have M : Mod K mg (hidT s1.heap H) := ⟨kin, ns2 hns, ⟨mb, ns2 hb, hbb⟩, by obtain ⟨mc, z1, z2⟩ := hlim; exact ⟨mc, ns2 z1, z2⟩⟩
  have e0 : Env0 P w K mg (hidT s1.heap H) callerA [] s1 H := ⟨rfl, M, fun b o e => of_hidT e, Nat.le_of_eq (hidT_size _ _), trivial, (fun b z => absurd (show b ∈ ([] : List Addr) from z) (by simp)), ok, .of_eq hg⟩
  refine codeAny_mono ((F _ kin (ns2 hns)).run callerA [] s1 H _ [.ref a] [.ref a] _ _ rfl hr e0 (hbind s1 (.ref a)) (.cons rfl .nil) hsp) fun r s' h => ?_
  cases r with
  | error e => exact False.elim h
  | ok fl =>
    cases fl with
    | next => exact False.elim h
    | brk => exact False.elim h
    | cont => exact False.elim h
    | ret u =>
      obtain ⟨v, H', os, bare, un, ok', rv, q⟩ := h
      subst q
      obtain rfl : u = Value.bool true := rv
      refine ⟨rfl, OldK.of_keep fun b o e => ?_, os, bare⟩
      cases q : H b with
      | none => exact un.keep b o e q (fun z => absurd (show b ∈ ([] : List Addr) from z) (by simp)) (by simp)
      | some y =>
        obtain ⟨rfl, _, xs, rfl⟩ := only b y q
        obtain ⟨e1, _⟩ := ok' b _ (un.frzs b _ _ q)
        rw [ha] at e
        cases e
        exact e1
theorem walk_ofG {l : PySem.W.OpenLaw} {n k : Nat} {q : Program} {loose : List Str} {XP : (Str → Option Value) → Heap → Prop} {YP : World → Heap → Prop} {d : DefRec} {K : Params → PySem.W.Frag} {sp : PySem.W.Frag → Sp} {x : Str}
    (hn : l.most = some n) (hn2 : n ≤ sizeLine) (hdf : d.params.defaults = []) (hr : Room k callerA) (hY : ∀ (w : World) (h : Heap), YP w h → (K w.params).In h)
    (F : ∀ (w : World) (mg : Str → Option Value) (fa : Addr) (h : Heap), (K w.params).In h → h.Ns mainGlobals mg → mg d.name = some (.ref fa) →
      ∃ fd : FuncData, (∀ (s : Shared) (u : Value), BindsTo s fd ⟨[u], []⟩ [(x, u)]) ∧ ∀ base : Heap, (K w.params).In base → base.Ns mainGlobals mg → FnOkG l.prog w (K w.params) mg base k fa fd [x] (sp (K w.params)))
    (hsp : ∀ (K : PySem.W.Frag) (H : Hp) (a : Addr) (ns : List Int), ns.length ≤ n → Only H → SqL K H a (ns.map V.int) → sp K [.ref a] H (fun v _ => v = .bl true) E0) :
    PySem.W.WalkO q loose XP YP l.row.toRowW d [] (fun f vs => PySem.call f vs) := by
  refine Att.attach_call hn hdf fun w s0 s1 mg mb fa o pm cd doc a us ns G Y ho hd hcd hmg hobj hints hlen hg => ?_
  have KX := hY w _ Y
  obtain ⟨fd, hb, hF⟩ := F w mg fa _ KX G.T.g hmg
  have rv := vals_ints hints
  have hz : (ns.map V.int).length ≤ sizeLine := by rw [List.length_map]; omega
  cases hk : (K w.params).lookup a with
  | some ob =>
    have e := KX a ob hk
    rw [hobj] at e
    cases e
    have S : SqL (K w.params) (fun _ => none) a (ns.map V.int) := .inr ⟨_, us.toArray, _, hk, rfl, rfl, rfl, by rw [List.size_toArray, ← rv.length]; exact hz, by simpa using rv⟩
    exact enter_law (H := fun _ => none) hF hr hb KX G.T.g G.T.b G.T.builtins G.T.nolimit hg hobj (fun b u z => by cases (show (none : Option HO) = some u from z)) (fun b u z => by cases (show (none : Option HO) = some u from z))
      (hsp _ _ a ns hlen (fun b => .inl rfl) S)
  | none =>
    refine enter_law (H := upd (fun _ => none) a (.frz { cls := .type "list", data := .seq us.toArray } (.lst (ns.map V.int)))) hF hr hb KX G.T.g G.T.b G.T.builtins G.T.nolimit hg hobj (fun b u z => ?_) (fun b u z => ?_)
      (hsp _ _ a ns hlen (fun b => ?_) (.inl (.inr ⟨_, upd_same⟩)))
    · by_cases e : b = a
      · subst e
        rw [upd_same] at z
        cases z
        exact ⟨hobj, hz, us, _, rv, hobj⟩
      · rw [upd_ne e] at z
        cases z
    · by_cases e : b = a
      · subst e
        rw [upd_same] at z
        cases z
        exact ⟨rfl, hk, _, rfl⟩
      · rw [upd_ne e] at z
        cases z
    · by_cases e : b = a
      · subst e
        exact .inr ⟨_, _, upd_same⟩
      · exact .inl (upd_ne e)
end L2

set_option Elab.async false
set_option linter.all false
set_option maxRecDepth 100000
set_option maxHeartbeats 4000000
/-! sorting tuples of any lengths, the empty one too -/
namespace L2
open PySem PySem.W PySem.SeqAt PySem.Spec PyProof.Rows
section
variable {prog : Program} {w : World} {A : Around} {E : Value → Shared → Prop} {s : Shared}
theorem tupLt_call {Q : Value → Shared → Prop} {x y : Addr} {us vs : Array Value} {eqs lts : Nat → Bool} (hx : s.heap.IsTuple x us) (hy : s.heap.IsTuple y vs)
    (h1 : ∀ j (a : j < us.size) (b : j < vs.size), EqAt A.in1 s us[j] vs[j] (eqs j))
    (h2 : ∀ j (a : j < us.size) (b : j < vs.size), eqs j = false → RcLt A.in1 s us[j] vs[j] (lts j))
    (hq : Q (.bool (firstLt eqs lts (decide (us.size < vs.size)) (List.range (min us.size vs.size)))) s) :
    wpAny (model prog w) A (call (.builtin "tuple.__lt__") [.ref x, .ref y]) Q E s := by
  obtain ⟨⟨kx, dx, tx, sx⟩, gx, rfl, nx, rfl⟩ := hx
  obtain ⟨⟨ky, dy, ty, sy⟩, gy, rfl, ny, rfl⟩ := hy
  exact call_meets F.slot_tuple_lt ⟨_, gx, rfl⟩ F.entry_tuple_lt (F.args_tuple_lt_2 _ _) (tuple_ltAt x y us vs nx ny dx dy sx sy eqs lts) ⟨gx, gy, h1, h2, hq⟩
theorem oneLt_tups {f : Bool} {xs ys : List PyData} {u v : Value} {as bs : List Addr} {Q : Bool → Shared → Prop} (ra : Reads s.heap u (.tuple xs) as) (rb : Reads s.heap v (.tuple ys) bs) (hal : alikeAll xs ys = true)
    (hu : A.units + min (PyData.tuple xs).depth (PyData.tuple ys).depth < cLine) (hq : Q (dataLt (.tuple xs) (.tuple ys)) s) : wpAny (model prog w) A (oneLt' f u v) Q E s := by
  cases f with
  | false => exact oneLt_alike (fun z => nomatch z) ra rb (by simpa [alike] using hal) (fun z => nomatch z) hu hq
  | true =>
    cases ra with
    | @tuple x ox us nx _ cs g1 g2 g3 g4 =>
      cases rb with
      | @tuple y oy vs ny _ ds k1 k2 k3 k4 =>
        have l1 : us.size = xs.length := by simpa using SeqAt.ReadsAll.length _ _ _ g4
        have l2 : vs.size = ys.length := by simpa using SeqAt.ReadsAll.length _ _ _ k4
        rw [dataLt_tuple, ← firstLt_toks xs ys hal, ← l1, ← l2] at hq
        rw [oneLt'_eq, if_pos rfl]
        have hroom := room_in hu
        refine wpAny_bind (wpAny_cRoomFor (room_here hu) ?_)
        refine wpAny_bind (wpAny_callSpecialIfBound?_slot (T := "tuple") ⟨_, g1, g2⟩ F.slot_tuple_lt ?_)
        refine tupLt_call (eqs := pairEq xs ys) (lts := fun j => dataLt (xs.getD j .none) (ys.getD j .none)) ⟨_, g1, g2, _, g3⟩ ⟨_, k1, k2, _, k3⟩ (fun j a b => ?_) (fun j a b hj => ?_) ?_
        · have z := eqAt_alikeAll xs ys A.in1 s us.toList vs.toList _ _ g4 k4 hal hroom j (by simpa using a) (by simpa using b)
          rwa [Array.getElem_toList, Array.getElem_toList] at z
        · have z := rcLt_alikeAll xs ys A.in1 s us.toList vs.toList _ _ g4 k4 hal hroom j (by simpa using a) (by simpa using b) hj
          rwa [Array.getElem_toList, Array.getElem_toList] at z
        · exact wpAny_truthy_bool hq
end
/-- the first item of a tuple of the heap -/
def headAt (h : Heap) : Value → Option Value
  | .ref a => match h.get? a with
    | some o => match o.data with
      | .seq us _ => us[0]?
      | _ => none
    | none => none
  | _ => none
def IsTup (h : Heap) (v : Value) : Prop := ∃ a us, v = .ref a ∧ h.IsTuple a us
section
variable {M : Model} {A : Around} {E : Value → Shared → Prop} {s : Shared}
theorem heads_run : ∀ (vs : List Value) {Q : List (Option Value) → Shared → Prop}, (∀ v ∈ vs, IsTup s.heap v) → Q (vs.map (headAt s.heap)) s → wpAny M A (vs.mapM firstOfTuple') Q E s
  | [], _, _, q => by rw [List.mapM_nil]; exact wpAny_pure q
  | v :: vs, Q, hv, q => by
    obtain ⟨a, us, rfl, o, g1, g2, n, g3⟩ := hv v List.mem_cons_self
    rw [List.mapM_cons, kas_first_eq]
    refine wpAny_bind (wpAny_bind (Looks.here ((Looks.ld g1).andThen .now) ?_))
    rw [g2, if_neg (by decide)]
    refine wpAny_bind (listItems_at g1 g3 (wpAny_pure ?_))
    have e : headAt s.heap (.ref a) = us[0]? := by
      show (match s.heap.get? a with | some o => _ | none => none) = _
      rw [g1]
      show (match o.data with | .seq us _ => us[0]? | _ => none) = _
      rw [g3]
    rw [← e]
    exact wpAny_bind (heads_run vs (fun u hu => hv u (List.mem_cons_of_mem _ hu)) (wpAny_pure q))
theorem kind_mixed {vs : List Value} (h2 : 2 ≤ vs.length) (hv : ∀ v ∈ vs, IsTup s.heap v) (hm : ∃ v ∈ vs, headAt s.heap v = none) :
    ∃ f : Bool, ∀ (E : Value → Shared → Prop) {Q : SortKind → Shared → Prop}, Q (if f = true then oneType' else general') s → wpAny M A (keyKind' vs.toArray) Q E s := by
  obtain ⟨v, l, rfl⟩ : ∃ v l, vs = v :: l := by
    cases vs with
    | nil => exact absurd h2 (by simp)
    | cons v l => exact ⟨v, l, rfl⟩
  refine ⟨(headAt s.heap v).isNone, fun E Q q => ?_⟩
  rw [keyKind'_eq, List.mapM_toArray, map_eq_pure_bind]
  refine wpAny_bind (wpAny_bind (heads_run _ hv (wpAny_pure ?_)))
  have no : ¬ (((v :: l).map (headAt s.heap)).toArray.all fun z => z.isSome) = true := by
    obtain ⟨u, hu, e⟩ := hm
    intro z
    simp only [List.all_toArray, List.all_map, List.all_eq_true] at z
    have := z u hu
    simp [e] at this
  rw [if_neg no]
  have e0 : ((v :: l).map (headAt s.heap)).toArray[0]? = some (headAt s.heap v) := by simp
  rw [e0]
  cases hh : headAt s.heap v with
  | some f =>
    rw [hh] at q
    exact wpAny_pure q
  | none =>
    rw [hh] at q
    show wpAny M A (oneTypeOnly' _ >>= fun z => pure (if z.isSome = true then oneType' else general')) Q E s
    rw [oneTypeOnly'_eq, List.mapM_toArray, map_eq_pure_bind]
    refine wpAny_bind (wpAny_bind (wpAny_bind (kas_mapM (r := Value.type "tuple") _ (fun u hu Q' hq => ?_) (wpAny_pure ?_))))
    · obtain ⟨a, us, rfl, o, g1, g2, _⟩ := hv u hu
      exact Looks.here (show Looks M s.heap (typeOf (.ref a)) (.type "tuple") from g2 ▸ (Looks.ld g1).andThen .now) hq
    · have e1 : (List.map (fun _ => Value.type "tuple") (v :: l)).toArray[0]? = some (Value.type "tuple") := by simp
      rw [e1]
      have e2 : ((List.map (fun _ => Value.type "tuple") (v :: l)).toArray.all fun z => z == Value.type "tuple") = true := by
        simp only [List.all_toArray, List.all_map, List.all_eq_true]
        exact fun _ _ => beq_self_eq_true _
      simp only [e2, if_true]
      exact wpAny_pure (wpAny_pure q)
end
section
variable {prog : Program} {w : World} {A : Around} {s : Shared}
theorem each_isTup {h : Heap} {vs : List Value} {ds : List PyData} (e : EachIs (fun v d => ∃ as, Reads h v d as) vs ds) (ht : ∀ d ∈ ds, ∃ xs, d = .tuple xs) : ∀ v ∈ vs, IsTup h v := fun v hv => by
  obtain ⟨d, hd, as, r⟩ := e.left v hv
  obtain ⟨xs, rfl⟩ := ht d hd
  cases r with
  | tuple g1 g2 g3 _ => exact ⟨_, _, rfl, _, g1, g2, _, g3⟩
theorem each_back {R : Value → PyData → Prop} : ∀ {vs : List Value} {ds : List PyData}, EachIs R vs ds → ∀ d ∈ ds, ∃ v ∈ vs, R v d
  | _, _, .nil, d, hd => absurd hd (by simp)
  | _, _, .cons (a := a) r t, d, hd => by
    rcases List.mem_cons.mp hd with rfl | hd
    · exact ⟨a, List.mem_cons_self, r⟩
    · obtain ⟨v, hv, q⟩ := each_back t d hd
      exact ⟨v, List.mem_cons_of_mem _ hv, q⟩
/-- tuples of any lengths can be sorted -/
theorem sortsAt_tups {vs : List Value} {ds : List PyData} (e : EachIs (fun v d => ∃ as, Reads s.heap v d as) vs ds) (hal : AllAlike ds) (ht : ∀ d ∈ ds, ∃ xs, d = .tuple xs) (hu : ∀ d, d ∈ ds → A.units + d.depth < cLine) :
    SortsAt prog w A s (dataKind s.heap ds) vs := by
  rcases Classical.em (∀ d ∈ ds, ∃ x r, d = PyData.tuple (x :: r)) with c | c
  · exact SortsAt.data e hal (.inl c) hu
  · have key : ∀ v ∈ vs, ∃ a, (dataKind s.heap ds).keyOf v = some a := fun v hv => by
      obtain ⟨d, hd, as, r⟩ := e.left v hv
      exact ⟨_, dataKind_some hal hd r⟩
    refine ⟨key, ?_⟩
    rcases Nat.lt_or_ge vs.length 2 with z | z
    · refine ⟨general', ?_, fun h2 => absurd h2 (by omega)⟩
      intro E u v a b Q ha hb hq
      obtain ⟨d, as, hd, ra, rfl⟩ := dataKind_inv ha
      obtain ⟨d', bs, hd', rb, rfl⟩ := dataKind_inv hb
      obtain ⟨xs, rfl⟩ := ht d hd
      obtain ⟨ys, rfl⟩ := ht d' hd'
      exact oneLt_tups (f := false) ra rb (by simpa [alike] using hal _ hd _ hd') (Nat.lt_of_le_of_lt (Nat.add_le_add_left (Nat.min_le_left _ _) _) (hu _ hd)) hq
    · have hm : ∃ v ∈ vs, headAt s.heap v = none := by
        obtain ⟨d, c⟩ := Classical.not_forall.mp c
        obtain ⟨hd, c⟩ := Classical.not_imp.mp c
        obtain ⟨xs, rfl⟩ := ht d hd
        cases xs with
        | cons x r => exact absurd ⟨x, r, rfl⟩ c
        | nil =>
          obtain ⟨v, hv, as, r⟩ := each_back e _ hd
          refine ⟨v, hv, ?_⟩
          cases r with
          | @tuple a o us n _ _ g1 g2 g3 g4 =>
            have l : us.size = 0 := by simpa using SeqAt.ReadsAll.length _ _ _ g4
            have e0 : us[0]? = none := by simp [l]
            show (match s.heap.get? a with | some o => _ | none => none) = _
            rw [g1]
            show (match o.data with | .seq us _ => us[0]? | _ => none) = _
            rw [g3]
            exact e0
      obtain ⟨f, hf⟩ := kind_mixed (M := model prog w) (A := A) z (each_isTup e ht) hm
      refine ⟨if f = true then oneType' else general', ?_, fun _ E Q q => hf E q⟩
      intro E u v a b Q ha hb hq
      obtain ⟨d, as, hd, ra, rfl⟩ := dataKind_inv ha
      obtain ⟨d', bs, hd', rb, rfl⟩ := dataKind_inv hb
      obtain ⟨xs, rfl⟩ := ht d hd
      obtain ⟨ys, rfl⟩ := ht d' hd'
      have g := fun f => oneLt_tups (prog := prog) (w := w) (E := E) (f := f) ra rb (by simpa [alike] using hal _ hd _ hd') (Nat.lt_of_le_of_lt (Nat.add_le_add_left (Nat.min_le_left _ _) _) (hu _ hd)) hq
      cases f with
      | true => exact g true
      | false => exact g false
end
end L2

set_option Elab.async false
set_option linter.all false
set_option maxRecDepth 100000
set_option maxHeartbeats 4000000
/-! sets of nested tuples: the small questions -/
namespace L2
open PySem PySem.SeqAt PySem.Spec PyProof.Rows
section
variable {P : Program} {w : World}
/-- no class statement of the program made anything of it -/
def NoClass (P : Program) (w : World) (n : Nat) (s : Shared) (v : Value) : Prop := ∀ (A : Around) (E : Value → Shared → Prop) (Q : Bool → Shared → Prop), Q false s → wpAny (model P w) A (ofAClassStatement n v) Q E s
theorem NoClass.leaf {n : Nat} {s : Shared} {v : Value} (h : ofAClassStatement n v = pure false) : NoClass P w n s v := fun A E Q q => by
  rw [h]
  exact wpAny_pure q
theorem NoClass.tup {n : Nat} {s : Shared} {a : Addr} {o : Obj} {us : Array Value} {m : Nat} (g1 : s.heap.get? a = some o) (g2 : o.cls = .type "tuple") (g3 : o.data = .seq us m) (hu : ∀ u ∈ us.toList, NoClass P w n s u) : NoClass P w (n + 1) s (.ref a) := fun A E Q q => by
  unfold ofAClassStatement
  refine wpAny_bind (wpAny_typeOf ⟨o, g1, g2⟩ ?_)
  dsimp only
  have e : (("tuple" : String) == "tuple") = true := by decide
  rw [if_pos e]
  refine wpAny_bind (wpAny_pure ?_)
  rw [if_neg (by decide)]
  refine wpAny_bind (wpAny_seqItems g1 g3 ?_)
  dsimp only
  refine wpAny_bind ?_
  rw [← Array.forIn_toList]
  refine wpAny_forIn_list _ (fun left acc s' => acc.1 = none ∧ s' = s ∧ ∀ u ∈ left, NoClass P w n s u) _ ?_ ?_ _ _ ⟨rfl, rfl, hu⟩
  · rintro u left acc s' ⟨ha, rfl, hl⟩
    refine wpAny_bind (hl u List.mem_cons_self _ _ _ ?_)
    rw [if_neg (by decide)]
    exact wpAny_pure ⟨rfl, rfl, fun x hx => hl x (List.mem_cons_of_mem _ hx)⟩
  · rintro ⟨acc1, acc2⟩ s' ⟨ha, rfl, _⟩
    cases (show acc1 = none from ha)
    exact wpAny_pure q
mutual
theorem noClass_key : ∀ (k : NestedKey) (v : Value) (n : Nat) (s : Shared), NestedIs s.heap k v → k.depth ≤ n → NoClass P w n s v
  | .none, _, n, s, x, _ => by cases x; exact .leaf (by cases n <;> rfl)
  | .num i, _, n, s, x, _ => by cases x <;> exact .leaf (by cases n <;> rfl)
  | .text y, _, n, s, x, _ => by cases x; exact .leaf (by cases n <;> rfl)
  | .tup ks, _, n, s, x, hn => by
    cases x with
    | tup g1 g2 g3 g4 =>
      simp only [NestedKey.depth] at hn
      cases n with
      | zero => omega
      | succ n => exact .tup g1 g2 g3 (noClass_keys ks _ n s g4 (by omega))
theorem noClass_keys : ∀ (ks : List NestedKey) (vs : List Value) (n : Nat) (s : Shared), NestedAll s.heap ks vs → NestedKey.depthAll ks ≤ n → ∀ v ∈ vs, NoClass P w n s v
  | [], _, n, s, x, _, v, hv => by cases x; cases hv
  | k :: ks, _, n, s, x, hn, v, hv => by
    cases x with
    | cons x1 x2 =>
      simp only [NestedKey.depthAll] at hn
      rcases List.mem_cons.mp hv with rfl | hv
      · exact noClass_key k _ n s x1 (by omega)
      · exact noClass_keys ks _ n s x2 (by omega) v hv
end
/-- whether its hash is by value: some answer, and nothing else -/
def SomeHash (P : Program) (w : World) (n : Nat) (s : Shared) (v : Value) : Prop := ∀ (A : Around) (E : Value → Shared → Prop) (Q : Bool → Shared → Prop), (∀ b, Q b s) → wpAny (model P w) A (hashByValue n v) Q E s
theorem SomeHash.leaf {n : Nat} {s : Shared} {v : Value} (b : Bool) (h : hashByValue n v = pure b) : SomeHash P w n s v := fun A E Q q => by
  rw [h]
  exact wpAny_pure (q b)
theorem SomeHash.tup {n : Nat} {s : Shared} {a : Addr} {o : Obj} {us : Array Value} {m : Nat} (g1 : s.heap.get? a = some o) (g2 : o.cls = .type "tuple") (g3 : o.data = .seq us m) (hu : ∀ u ∈ us.toList, SomeHash P w n s u) : SomeHash P w (n + 1) s (.ref a) := fun A E Q q => by
  unfold hashByValue
  refine wpAny_bind (wpAny_specialOf ⟨o, g1, g2⟩ F.slot_tuple_hash.lookup ?_)
  show wpAny _ _ (seqItems? (.ref a) >>= _) _ _ s
  refine wpAny_bind (wpAny_seqItems g1 g3 ?_)
  refine wpAny_bind ?_
  show wpAny _ _ (forIn us _ _) _ _ s
  rw [← Array.forIn_toList]
  refine wpAny_forIn_list _ (fun left acc s' => acc.1 = none ∧ s' = s ∧ ∀ u ∈ left, SomeHash P w n s u) _ ?_ ?_ _ _ ⟨rfl, rfl, hu⟩
  · rintro u left acc s' ⟨ha, rfl, hl⟩
    refine wpAny_bind (hl u List.mem_cons_self _ _ _ fun b => ?_)
    cases b with
    | true =>
      rw [if_neg (by decide)]
      exact wpAny_pure ⟨rfl, rfl, fun x hx => hl x (List.mem_cons_of_mem _ hx)⟩
    | false =>
      rw [if_pos (by decide)]
      exact wpAny_pure (wpAny_pure (q _))
  · rintro ⟨acc1, acc2⟩ s' ⟨ha, rfl, _⟩
    cases (show acc1 = none from ha)
    exact wpAny_pure (q _)
mutual
theorem someHash_key : ∀ (k : NestedKey) (v : Value) (n : Nat) (s : Shared), NestedIs s.heap k v → k.depth ≤ n → SomeHash P w n s v
  | .none, _, n, s, x, _ => by cases x; exact .leaf true (by cases n <;> rfl)
  | .num i, _, n, s, x, _ => by cases x <;> exact .leaf true (by cases n <;> rfl)
  | .text y, _, n, s, x, _ => by cases x; exact .leaf false (by cases n <;> rfl)
  | .tup ks, _, n, s, x, hn => by
    cases x with
    | tup g1 g2 g3 g4 =>
      simp only [NestedKey.depth] at hn
      cases n with
      | zero => omega
      | succ n => exact .tup g1 g2 g3 (someHash_keys ks _ n s g4 (by omega))
theorem someHash_keys : ∀ (ks : List NestedKey) (vs : List Value) (n : Nat) (s : Shared), NestedAll s.heap ks vs → NestedKey.depthAll ks ≤ n → ∀ v ∈ vs, SomeHash P w n s v
  | [], _, n, s, x, _, v, hv => by cases x; cases hv
  | k :: ks, _, n, s, x, hn, v, hv => by
    cases x with
    | cons x1 x2 =>
      simp only [NestedKey.depthAll] at hn
      rcases List.mem_cons.mp hv with rfl | hv
      · exact someHash_key k _ n s x1 (by omega)
      · exact someHash_keys ks _ n s x2 (by omega) v hv
end
/-- a key of the heap that sets take: a nested tuple, not too deep -/
structure TupKey (h : Heap) (k : NestedKey) (a : Addr) : Prop where
  is : NestedIs h k (.ref a)
  deep : k.depth ≤ 8
theorem TupKey.cls {h : Heap} {k : NestedKey} {a : Addr} (x : TupKey h k a) : ∃ o us n, h.get? a = some o ∧ o.cls = .type "tuple" ∧ o.data = .seq us n := by
  cases x.is with
  | tup g1 g2 g3 _ => exact ⟨_, _, _, g1, g2, g3⟩
theorem TupKey.keep {h h' : Heap} {k : NestedKey} {a : Addr} (x : TupKey h k a) (ext : ∀ b o, h.get? b = some o → h'.get? b = some o) : TupKey h' k a := ⟨x.is.at (fun b o _ _ g _ => ext b o g) _ _, x.deep⟩
/-- no set's own object is read of a key -/
theorem TupKey.but {h h' : Heap} {k : NestedKey} {a b : Addr} {o : Obj} {es : Array (Int × Value)} {ep : Nat} {t : SetTable} (x : TupKey h k a) (g : h.get? b = some o) (d : o.data = .set es ep t) (sb : Heap.SameBut b h h') : TupKey h' k a :=
  ⟨NestedIs.at (fun c p us n gc dc => by
    refine (sb.2 c fun e => ?_).trans gc
    subst e
    cases (g.symm.trans gc)
    exact nomatch d.symm.trans dc) _ _ x.is, x.deep⟩
theorem TupKey.unseen {A : Around} {E : Value → Shared → Prop} {s : Shared} {Q : Bool → Shared → Prop} {k : NestedKey} {a : Addr} (x : TupKey s.heap k a) {ys : List Value} (hy : ∀ y ∈ ys, ∃ j b, y = Value.ref b ∧ TupKey s.heap j b) (q : Q false s) :
    wpAny (model P w) A (searchCouldBeSeen (.ref a) ys) Q E s := by
  unfold searchCouldBeSeen
  refine wpAny_bind ?_
  refine wpAny_forIn_list _ (fun left acc s' => acc.1 = none ∧ s' = s ∧ ∀ y ∈ left, ∃ j b, y = Value.ref b ∧ TupKey s.heap j b) _ ?_ ?_ _ _ ⟨rfl, rfl, hy⟩
  · rintro y left acc s' ⟨ha, rfl, hl⟩
    obtain ⟨j, b, rfl, xb⟩ := hl y List.mem_cons_self
    have more : ∀ y ∈ left, ∃ j b, y = Value.ref b ∧ TupKey s'.heap j b := fun u hu => hl u (List.mem_cons_of_mem _ hu)
    dsimp only
    split
    · exact wpAny_pure ⟨rfl, rfl, more⟩
    · refine wpAny_bind (quiet_key _ _ 8 _ x.is x.deep _ _ _ ?_)
      rw [if_neg (by decide)]
      refine wpAny_bind (quiet_key _ _ 8 _ xb.is xb.deep _ _ _ ?_)
      rw [if_neg (by decide)]
      refine wpAny_bind (noClass_key _ _ 8 _ x.is x.deep _ _ _ ?_)
      rw [if_neg (by decide)]
      refine wpAny_bind (noClass_key _ _ 8 _ xb.is xb.deep _ _ _ ?_)
      rw [if_neg (by decide)]
      exact wpAny_pure ⟨rfl, rfl, more⟩
  · rintro ⟨acc1, acc2⟩ s' ⟨ha, rfl, _⟩
    cases (show acc1 = none from ha)
    exact wpAny_pure q
end
end L2

set_option Elab.async false
set_option linter.all false
set_option maxRecDepth 100000
set_option maxHeartbeats 4000000
/-! sets of nested tuples: the search -/
namespace L2
open PySem PySem.SeqAt PySem.Spec PyProof.Rows
abbrev NRow := Addr × NestedKey
def hashesN (w : World) (L : List NRow) : List Int := L.map fun r => r.2.hash w
def nrows (w : World) (L : List NRow) : List (Int × Value) := L.map fun r => (r.2.hash w, Value.ref r.1)
/-- the set at a has these keys, in the sequence of its table -/
structure NSet (w : World) (h : Heap) (a : Addr) (L : List NRow) (es : Array (Int × Value)) (ep : Nat) (t : SetTable) : Prop where
  obj : ∃ o, h.get? a = some o ∧ o.ExactSet ∧ o.data = .set es ep t
  eqs : es.toList = nrows w L
  tok : TabOk t (hashesN w L)
  dif : (L.map Prod.snd).Nodup
  key : ∀ r ∈ L, TupKey h r.2 r.1
  led : w.params.followText "set-order" = true ∨ t.led = true
  gap : L.length * 5 < t.mask * 3
  small : L.length < 64
section
variable {P : Program} {w : World} {A : Around} {E : Value → Shared → Prop} {s : Shared} {a : Addr} {L : List NRow} {es : Array (Int × Value)} {ep : Nat} {t : SetTable}
theorem nrows_len (h : es.toList = nrows w L) : es.size = L.length := by
  have z := congrArg List.length h
  unfold nrows at z
  simpa using z
theorem NSet.size (N : NSet w s.heap a L es ep t) : es.size = L.length := nrows_len N.eqs
theorem NSet.place (N : NSet w s.heap a L es ep t) : t.place.size = L.length := by
  have z := N.tok.sz
  unfold hashesN at z
  simpa using z
theorem fits_of (h1 : t.place.size = es.size) (h2 : t.dummies = #[]) (h3 : es.size ≤ t.mask) : t.fits es.size = true := by
  unfold SetTable.fits SetTable.fill
  rw [h2, h1, Bool.and_eq_true]
  exact ⟨beq_self_eq_true _, decide_eq_true (by show es.size + 0 ≤ t.mask; omega)⟩
theorem NSet.fits (N : NSet w s.heap a L es ep t) : t.fits es.size = true := fits_of (by rw [N.place, N.size]) N.tok.dm (by have := N.gap; have := N.size; omega)
theorem row_at (h : es.toList = nrows w L) {i : Nat} {r : NRow} (e : L[i]? = some r) : es[i]? = some (r.2.hash w, Value.ref r.1) := by
  rw [← Array.getElem?_toList, h]
  unfold nrows
  rw [List.getElem?_map, e]
  first | rfl | done
theorem NSet.odd (N : NSet w s.heap a L es ep t) : ¬ t.gaveWay = true := by
  unfold SetTable.gaveWay
  rw [mask_odd N.tok.mok]
  decide
/-- the c-th step of the way of a hash -/
abbrev step (m : Nat) (h : Int) (c : Nat) : SetTable.Probe := nth m (runAt m (SetTable.bits h % (m + 1)) (SetTable.bits h)) c
theorem step_add (m : Nat) (h : Int) (c q : Nat) : nth m (step m h c) q = step m h (c + q) := (nth_add m c _ q).symm
theorem step_way (m : Nat) (h : Int) (c q : Nat) : (nth m (step m h c) q).j = way m h (c + q) := congrArg SetTable.Probe.j (step_add m h c q)
theorem step_dummy (m : Nat) : ∀ (c : Nat) (p : SetTable.Probe), p.dummy = none → (nth m p c).dummy = none
  | 0, _, e => e
  | c + 1, p, e => step_dummy m c (adv m p) (by unfold adv; split <;> exact e)
/-- from the c-th step of the way on: the key is there, or the first empty slot is found -/
theorem nsearch_from (N : NSet w s.heap a L es ep t) {x : Addr} {k : NestedKey} (kx : TupKey s.heap k x) (hu : A.units + 8 < cLine) {K : Nat} (hf : K < 10 * SetTable.turns t.mask)
    (hK : way t.mask (k.hash w) K ∉ t.place.toList) (hb : ∀ c, c < K → way t.mask (k.hash w) c ∈ t.place.toList) {Q : SetFound → Shared → Prop}
    (yes : k ∈ L.map Prod.snd → Q (.there none) s) (no : k ∉ L.map Prod.snd → Q (.free (way t.mask (k.hash w) K) false) s) :
    ∀ (f c : Nat) (from_ : Option SetTable.Probe), from_.getD (t.probeStart (k.hash w)) = step t.mask (k.hash w) c → c ≤ K → K - c < f →
      (∀ (i : Nat) r, L[i]? = some r → r.2 = k → ∃ d, c ≤ d ∧ d < K ∧ t.place.toList[i]? = some (way t.mask (k.hash w) d)) →
      wpAny (model P w) A (setSearchFrom a (.ref x) (k.hash w) true f from_) Q E s
  | 0, _, _, _, _, z, _ => absurd z (Nat.not_lt_zero _)
  | f + 1, c, from_, hst, hc, hz, hre => by
    obtain ⟨o, g, hex, hd⟩ := N.obj
    have places : t.place.toList.length = L.length := by rw [Array.length_toList]; exact N.place
    rw [setSearchFrom_succ]
    refine wpAny_bind (wpAny_setState_of g hd N.fits ?_)
    dsimp only
    rw [if_neg N.odd]
    try refine wpAny_bind (wpAny_pure ?_)
    generalize hhv : k.hash w = hv at *
    have hashOf : ∀ (i : Nat) r, L[i]? = some r → ((es[i]?.map (·.1)).getD 0) = r.2.hash w := fun i r e => by
      rw [row_at N.eqs e]
      first | rfl | done
    have cases2 := go_spec t N.tok.ris N.tok.dm (fun i => (es[i]?.map (·.1)).getD 0) hv (10 * SetTable.turns t.mask) (K - c) (step t.mask hv c) (step_dummy _ _ _ rfl) (by omega)
      (fun q hq => by rw [step_way]; exact hb (c + q) (by omega)) (by rw [step_way, show c + (K - c) = K by omega]; exact hK)
    rcases cases2 with ⟨q, i, hq, hi, hh, before, hp⟩ | ⟨before, hp⟩
    · rw [step_way] at hi hp
      rw [step_add] at hp
      have hp' : t.probe (fun i => (es[i]?.map (·.1)).getD 0) hv (from_.getD (t.probeStart hv)) = some (.candidate (way t.mask hv (c + q)) i (step t.mask hv (c + (q + 1)))) := by
        rw [hst]
        exact hp
      rw [hp']
      dsimp only
      obtain ⟨r, hr⟩ : ∃ r, L[i]? = some r := ⟨_, List.getElem?_eq_getElem (by have := (List.getElem?_eq_some_iff.mp hi).1; omega)⟩
      have mem : r ∈ L := List.mem_of_getElem? hr
      have kr := N.key r mem
      have after : wpAny (model P w) A (searchRest a (.ref x) hv true f es t (way t.mask hv (c + q)) i (step t.mask hv (c + (q + 1)))) Q E s := by
        unfold searchRest
        rw [row_at N.eqs hr]
        dsimp only
        refine wpAny_bind (wpAny_holding (eqAt_key _ _ A s _ _ kr.is kx.is (by have := kr.deep; omega) _ _ _ _ ?_))
        refine wpAny_bind (wpAny_setState_of g hd N.fits ?_)
        dsimp only
        by_cases same : r.2 = k
        · rw [if_pos (by rw [same, NestedKey.beq_self]; decide)]
          exact wpAny_pure (yes (List.mem_map.mpr ⟨r, mem, same⟩))
        · have nb : NestedKey.beq r.2 k = false := by
            rw [← NestedKey.decide_eq]
            exact decide_eq_false same
          rw [if_neg (by rw [nb]; decide)]
          try refine wpAny_bind (wpAny_pure ?_)
          rw [sameMem]
          dsimp only
          have sl : t.slot (way t.mask hv (c + q)) = .live i := slot_live N.tok.ris hi
          simp only [if_true, sl, row_at N.eqs hr]
          refine wpAny_bind (wpAny_isSame_ref_self (wpAny_bind (wpAny_pure ?_)))
          rw [if_pos rfl]
          dsimp only
          rw [nb, if_neg (by decide)]
          subst hhv
          refine nsearch_from N kx hu hf hK hb yes no f (c + (q + 1)) _ rfl (by omega) (by omega) fun j r' hj hk => ?_
          obtain ⟨d, d1, d2, d3⟩ := hre j r' hj hk
          refine ⟨d, ?_, d2, d3⟩
          rcases Nat.lt_trichotomy d (c + q) with z | z | z
          · exact absurd ((hashOf j r' hj).trans (by rw [hk])) (before (d - c) j (by omega) (by rw [step_way, show c + (d - c) = d by omega]; exact d3))
          · exfalso
            rw [z] at d3
            have sj := slot_live N.tok.ris d3
            rw [sl] at sj
            injection sj with sj
            rw [← sj, hr] at hj
            exact same ((congrArg Prod.snd (Option.some.inj hj)).trans hk)
          · omega
      cases hl : t.led with
      | true =>
        rw [if_neg (by decide)]
        try refine wpAny_bind (wpAny_pure ?_)
        exact after
      | false =>
        rw [if_pos (by decide)]
        refine wpAny_bind (kx.unseen (fun y hy => ?_) ?_)
        · obtain ⟨e, he, rfl⟩ := List.mem_map.mp hy
          have he : e ∈ es.toList := by
            have z : e ∈ es ∧ e.1 = hv := by simpa using he
            simpa using z.1
          rw [N.eqs] at he
          obtain ⟨r2, m2, rfl⟩ := List.mem_map.mp he
          exact ⟨_, _, rfl, N.key r2 m2⟩
        · rw [if_neg (by decide)]
          try refine wpAny_bind (wpAny_pure ?_)
          exact after
    · have hp' : t.probe (fun i => (es[i]?.map (·.1)).getD 0) hv (from_.getD (t.probeStart hv)) = some (.empty (way t.mask hv K) none) := by
        rw [hst]
        rw [step_way, show c + (K - c) = K by omega] at hp
        exact hp
      rw [hp']
      dsimp only
      refine wpAny_pure (no fun m => ?_)
      obtain ⟨r, mr, hk⟩ := List.mem_map.mp m
      obtain ⟨i, hi, e⟩ := List.getElem_of_mem mr
      have hr : L[i]? = some r := by rw [List.getElem?_eq_getElem hi, e]
      obtain ⟨d, d1, d2, d3⟩ := hre i r hr hk
      exact before (d - c) i (by omega) (by rw [step_way, show c + (d - c) = d by omega]; exact d3) ((hashOf i r hr).trans (by rw [hk, hhv]))
end
end L2

set_option Elab.async false
set_option linter.all false
set_option maxRecDepth 100000
set_option maxHeartbeats 4000000
/-! sets of nested tuples: adding -/
namespace L2
open PySem PySem.SeqAt PySem.Spec PyProof.Rows
section
variable {P : Program} {w : World} {A : Around} {E : Value → Shared → Prop} {s : Shared} {a : Addr} {L : List NRow} {es : Array (Int × Value)} {ep : Nat} {t : SetTable}
theorem nsearch (N : NSet w s.heap a L es ep t) {x : Addr} {k : NestedKey} (kx : TupKey s.heap k x) (hu : A.units + 8 < cLine) {Q : SetFound → Shared → Prop}
    (yes : k ∈ L.map Prod.snd → Q (.there none) s)
    (no : ∀ K, k ∉ L.map Prod.snd → way t.mask (k.hash w) K ∉ t.place.toList → (∀ c, c < K → way t.mask (k.hash w) c ∈ t.place.toList) → Q (.free (way t.mask (k.hash w) K) false) s) :
    wpAny (model P w) A (setSearch a (.ref x) (k.hash w) true) Q E s := by
  have hgap := N.gap
  obtain ⟨K, f1, f2, f3⟩ := N.tok.first (by unfold hashesN; rw [List.length_map]; omega) (k.hash w)
  have lim : K < 100000 := by
    have z : SetTable.turns t.mask ≤ 142 := by
      unfold SetTable.turns
      rcases N.tok.mok with e | e | e <;> omega
    omega
  unfold setSearch
  refine nsearch_from N kx hu f1 f2 f3 yes (fun m => no K m f2 f3) 100000 0 none rfl (Nat.zero_le _) (by omega) fun i r hr hk => ?_
  have h1 : (hashesN w L)[i]? = some (k.hash w) := by
    unfold hashesN
    rw [List.getElem?_map, hr, ← hk]
    first | rfl | done
  have h2 : i < t.place.toList.length := by
    rw [Array.length_toList, N.place]
    exact (List.getElem?_eq_some_iff.mp hr).1
  have h3 := List.getElem?_eq_getElem h2
  obtain ⟨d, d1, d2⟩ := N.tok.before f2 h1 h3
  exact ⟨d, Nat.zero_le _, d1, by rw [h3, d2]⟩
theorem nrows_put (L : List NRow) (p : Nat) (r : NRow) : nrows w (L.take p ++ r :: L.drop p) = (nrows w L).take p ++ (r.2.hash w, Value.ref r.1) :: (nrows w L).drop p := by
  unfold nrows
  rw [List.map_append, List.map_take, List.map_cons, List.map_drop]
theorem hashesN_put (L : List NRow) (p : Nat) (r : NRow) : hashesN w (L.take p ++ r :: L.drop p) = (hashesN w L).take p ++ r.2.hash w :: (hashesN w L).drop p := by
  unfold hashesN
  rw [List.map_append, List.map_take, List.map_cons, List.map_drop]
/-- rows taken by their numbers -/
theorem rows_taken (L : List NRow) (eqs : es.toList = nrows w L) : ∀ l : List Nat, (∀ i ∈ l, i < L.length) →
    l.filterMap (fun i => es[i]?) = nrows w (l.filterMap fun i => L[i]?) ∧ hashesN w (l.filterMap fun i => L[i]?) = l.map fun i => (es.map (·.1)).getD i 0
  | [], _ => ⟨rfl, rfl⟩
  | i :: l, hl => by
    obtain ⟨r, hi⟩ : ∃ r, L[i]? = some r := ⟨_, List.getElem?_eq_getElem (hl i List.mem_cons_self)⟩
    obtain ⟨h1, h2⟩ := rows_taken L eqs l fun j hj => hl j (List.mem_cons_of_mem _ hj)
    have he := row_at eqs hi
    have hg : (es.map (·.1)).getD i 0 = r.2.hash w := by
      have z : (es.map (·.1))[i]? = some (r.2.hash w) := by
        rw [Array.getElem?_map, he]
        first | rfl | done
      simp [Array.getD_eq_getD_getElem?, z]
    rw [List.filterMap_cons_some he, List.filterMap_cons_some hi, h1, List.map_cons, hg]
    refine ⟨rfl, ?_⟩
    rw [← h2]
    first | rfl | done
theorem all_taken (L : List NRow) : (List.range L.length).filterMap (fun i => L[i]?) = L := by
  have key : ∀ n, n ≤ L.length → (List.range n).filterMap (fun i => L[i]?) = L.take n := by
    intro n
    induction n with
    | zero => exact fun _ => rfl
    | succ n ih =>
      intro hn
      rw [List.range_succ, List.filterMap_append, ih (by omega), List.take_succ, List.getElem?_eq_getElem hn]
      refine congrArg _ ?_
      rw [List.filterMap_cons_some (List.getElem?_eq_getElem hn)]
      first | rfl | done
  rw [key _ (Nat.le_refl _), List.take_length]
/-- laid anew in a larger table -/
theorem nrelay {o : Obj} (g : s.heap.get? a = some o) (hex : o.ExactSet) (hd : o.data = .set es ep t) (eqs : es.toList = nrows w L) (hpl : t.place.size = es.size) (hdm : t.dummies = #[]) (hmk : es.size ≤ t.mask)
    (dif : (L.map Prod.snd).Nodup) (key : ∀ r ∈ L, TupKey s.heap r.2 r.1) (led : w.params.followText "set-order" = true ∨ t.led = true) (small : L.length < 64) {want M : Nat}
    (hw : SetTable.sizeAbove want - 1 = M) (hM : MaskOk M) (hw2 : SetTable.sizeAbove want ≤ 128) (gap : L.length * 5 < M * 3) {Q : Unit → Shared → Prop}
    (q : ∀ h' L' es' ep' t', Heap.SameBut a s.heap h' → NSet w h' a L' es' ep' t' → L'.Perm L → Q () { s with heap := h' }) : wpAny (model P w) A (setRelay a want) Q E s := by
  have hn := nrows_len eqs
  obtain ⟨t', order, e1, e2, e3, e4, e5, _, e7⟩ := relaid_ok t (hs := es.map (·.1)) hw hM (by rw [Array.size_map]; omega)
  rw [Array.size_map, hn] at e2
  obtain ⟨r1, r2⟩ := rows_taken L eqs order.toList fun i hi => List.mem_range.mp (e2.mem_iff.mp hi)
  rw [← r2] at e3
  have pm : (order.toList.filterMap fun i => L[i]?).Perm L := by
    have z := e2.filterMap fun i => L[i]?
    rw [all_taken] at z
    exact z
  have r3 : (order.filterMap (es[·]?)).toList = nrows w (order.toList.filterMap fun i => L[i]?) := by
    rw [← r1]
    first
      | exact Array.toList_filterMap
      | simp
  generalize hL2 : (order.toList.filterMap fun i => L[i]?) = L2 at *
  generalize hes2 : order.filterMap (es[·]?) = es2 at *
  have hn2 : es2.size = es.size := by rw [nrows_len r3, pm.length_eq, hn]
  rw [setRelay_eq]
  refine wpAny_bind (wpAny_setState_of g hd (fits_of hpl hdm hmk) ?_)
  dsimp only
  rw [if_neg (by rw [sizeLine_eq]; omega)]
  try refine wpAny_bind (wpAny_pure ?_)
  rw [e1]
  dsimp only
  refine wpAny_bind ?_
  rw [hes2, if_neg (by rw [hn2]; simp)]
  try refine wpAny_bind (wpAny_pure ?_)
  refine wpAny_pure ?_
  dsimp only
  refine wpAny_storeSet_of g hd ?_ (by rw [hn2, hn, sizeLine_eq]; omega)
  have sb : Heap.SameBut a s.heap (s.heap.update a (Obj.putSet es2 t')) := Heap.SameBut.update ..
  refine q _ L2 es2 (ep + 1) t' sb ⟨⟨_, store_at g hd, ⟨hex.1, hex.2.1, hex.2.2⟩, rfl⟩, r3, e3, (pm.map Prod.snd).nodup_iff.mpr dif, fun r m => (key r (pm.mem_iff.mp m)).but g hd sb, by rw [e5]; exact led, ?_, by rw [pm.length_eq]; exact small⟩ pm
  rw [pm.length_eq, e4]
  exact gap
theorem tab_plain {hs : List Int} (T : TabOk t hs) (b : Bool) : TabOk (if b = true then t else { t with plain := false }) hs ∧ (if b = true then t else { t with plain := false }).mask = t.mask ∧ (if b = true then t else { t with plain := false }).led = t.led ∧
    (if b = true then t else { t with plain := false }).fill = t.fill := by
  cases b with
  | true => exact ⟨T, rfl, rfl, rfl⟩
  | false => exact ⟨⟨T.ris, T.dm, T.sz, T.mok, T.bd, T.reach⟩, rfl, rfl, rfl⟩
/-- one key is added -/
theorem nadd (N : NSet w s.heap a L es ep t) {x : Addr} {k : NestedKey} (kx : TupKey s.heap k x) (hu : A.units + 8 < cLine) (few : L.length + 1 < 64) {Q : Bool → Shared → Prop}
    (q : ∀ b h' L' es' ep' t', Heap.SameBut a s.heap h' → NSet w h' a L' es' ep' t' → (k ∈ L.map Prod.snd → L' = L) → (k ∉ L.map Prod.snd → L'.Perm ((x, k) :: L)) → Q b { s with heap := h' }) :
    wpAny (model P w) A (setAddHashed a (.ref x) (k.hash w)) Q E s := by
  obtain ⟨o, g, hex, hd⟩ := N.obj
  have hn := N.size
  have hgap := N.gap
  unfold setAddHashed
  refine wpAny_holding ?_
  rw [show (100000 : Nat) = Nat.succ 99999 from rfl, setAddHashedIn_succ]
  refine wpAny_bind (wpAny_setState_of g hd N.fits ?_)
  dsimp only
  rw [if_neg (by simp [byScan, Value.scannable])]
  try refine wpAny_bind (wpAny_pure ?_)
  refine wpAny_bind (nsearch N kx hu (fun m => ?_) fun K m hK hb => ?_)
  · dsimp only
    exact wpAny_pure (q false s.heap L es ep t (Heap.SameBut.refl a s.heap) N (fun _ => rfl) fun z => absurd m z)
  · dsimp only
    refine wpAny_bind (wpAny_setState_of g hd N.fits ?_)
    dsimp only
    obtain ⟨q1, q2, q3, q4, q5, q6, q7, q8, q9⟩ := N.tok.put hK hb
    generalize hpt : t.put (way t.mask (k.hash w) K) = pt at *
    obtain ⟨t1, p⟩ := pt
    dsimp only at q1 q3 q4 q5 q9 ⊢
    subst q1
    have some_ : ∀ (f : Bool → Sem Bool), (∀ b, wpAny (model P w) A (f b) Q E s) → wpAny (model P w) A (if t1.plain = true then hashByValue 8 (.ref x) >>= f else pure true >>= f) Q E s := fun f hr => by
      by_cases hp : t1.plain = true
      · rw [if_pos hp]
        exact wpAny_bind (someHash_key _ _ 8 _ kx.is kx.deep _ _ _ hr)
      · rw [if_neg hp]
        exact wpAny_bind (wpAny_pure (hr true))
    refine some_ _ fun b => ?_
    obtain ⟨T2, m2, l2, f2⟩ := tab_plain q3 b
    generalize (if b = true then t1 else { t1 with plain := false }) = t2 at T2 m2 l2 f2 ⊢
    rw [← hashesN_put L _ (x, k)] at T2
    have he : (SetTable.insertAt es (SetTable.below t.place (way t.mask (k.hash w) K)) (k.hash w, Value.ref x)).toList = nrows w (L.take (SetTable.below t.place (way t.mask (k.hash w) K)) ++ (x, k) :: L.drop (SetTable.below t.place (way t.mask (k.hash w) K))) := by
      rw [SetTable.toList_insertAt, nrows_put, N.eqs]
    have pm := put_perm L (SetTable.below t.place (way t.mask (k.hash w) K)) (x, k)
    generalize SetTable.insertAt es (SetTable.below t.place (way t.mask (k.hash w) K)) (k.hash w, Value.ref x) = es1 at he ⊢
    generalize L.take (SetTable.below t.place (way t.mask (k.hash w) K)) ++ (x, k) :: L.drop (SetTable.below t.place (way t.mask (k.hash w) K)) = L1 at pm he T2
    have n1 : L1.length = L.length + 1 := pm.length_eq
    have n2 : es1.size = L.length + 1 := by rw [nrows_len he, n1]
    have nd : (L1.map Prod.snd).Nodup := by
      rw [(pm.map Prod.snd).nodup_iff, List.map_cons, List.nodup_cons]
      exact ⟨m, N.dif⟩
    have pl2 : t2.place.size = es1.size := by
      have z := T2.sz
      unfold hashesN at z
      rw [z, List.length_map, n1, n2]
    rw [hn]
    refine wpAny_bind (wpAny_storeSet_of g hd ?_ (by rw [n2, sizeLine_eq]; omega))
    have sb : Heap.SameBut a s.heap (s.heap.update a (Obj.putSet es1 t2)) := Heap.SameBut.update ..
    have g1 := store_at (es' := es1) (t' := t2) g hd
    generalize s.heap.update a (Obj.putSet es1 t2) = h1 at sb g1 ⊢
    have key1 : ∀ r ∈ L1, TupKey h1 r.2 r.1 := fun r hr => by
      rcases List.mem_cons.mp (pm.mem_iff.mp hr) with rfl | hr
      · exact kx.but g hd sb
      · exact (N.key r hr).but g hd sb
    have led1 : w.params.followText "set-order" = true ∨ t2.led = true := by
      rw [l2, q5]
      exact N.led
    have full : t2.tooFull = decide ((L.length + 1) * 5 ≥ t.mask * 3) := by
      unfold SetTable.tooFull
      rw [f2, q9, m2, q4]
      unfold hashesN
      rw [List.length_map]
    by_cases hf : (L.length + 1) * 5 ≥ t.mask * 3
    · rw [full, decide_eq_true hf]
      have two : (t.mask = 7 ∧ L.length = 4) ∨ (t.mask = 31 ∧ L.length = 18) := by
        rcases N.tok.mok with e | e | e
        · exact .inl ⟨e, by omega⟩
        · exact .inr ⟨e, by omega⟩
        · omega
      have grow : ∀ M, SetTable.sizeAbove (SetTable.grown (L.length + 1)) - 1 = M → MaskOk M → SetTable.sizeAbove (SetTable.grown (L.length + 1)) ≤ 128 → (L.length + 1) * 5 < M * 3 →
          wpAny (model P w) A (setRelay a (SetTable.grown (L.length + 1))) (fun _ s' => wpAny (model P w) A (pure true) Q E s') E { s with heap := h1 } := fun M h1' h2' h3' h4' => by
        refine nrelay (s := { s with heap := h1 }) g1 ⟨hex.1, hex.2.1, hex.2.2⟩ rfl he pl2 T2.dm (by rw [n2, m2, q4]; omega) nd key1 led1 (by rw [n1]; exact few) h1' h2' h3' (by rw [n1]; exact h4') ?_
        exact fun h2 L2 es2 ep2 t3 sb2 N2 pm2 => wpAny_pure (q true h2 L2 es2 ep2 t3 (sb.trans sb2) N2 (fun z => absurd z m) fun _ => pm2.trans pm)
      have go : wpAny (model P w) A (setRelay a (SetTable.grown (L.length + 1))) (fun _ s' => wpAny (model P w) A (pure true) Q E s') E { s with heap := h1 } := by
        rcases two with ⟨_, e⟩ | ⟨_, e⟩
        · exact grow 31 (by rw [e, size_20]) (.inr (.inl rfl)) (by rw [e, size_20]; decide) (by omega)
        · exact grow 127 (by rw [e, size_76]) (.inr (.inr rfl)) (by rw [e, size_76]; decide) (by omega)
      first
        | (refine wpAny_bind ?_; rw [if_pos (by decide)]; exact go)
        | (rw [if_pos (by decide)]; exact wpAny_bind go)
    · rw [full, decide_eq_false hf]
      have N1 : NSet w h1 a L1 es1 (ep + 1) t2 := ⟨⟨_, g1, ⟨hex.1, hex.2.1, hex.2.2⟩, rfl⟩, he, T2, nd, key1, led1, by rw [n1, m2, q4]; omega, by rw [n1]; exact few⟩
      have fin : wpAny (model P w) A (pure true) Q E { s with heap := h1 } := wpAny_pure (q true h1 L1 es1 (ep + 1) t2 sb N1 (fun z => absurd z m) fun _ => pm)
      first
        | (refine wpAny_bind ?_; rw [if_neg (by decide)]; exact wpAny_pure fin)
        | (rw [if_neg (by decide)]; exact fin)
end
end L2

set_option Elab.async false
set_option linter.all false
set_option maxRecDepth 100000
set_option maxHeartbeats 4000000
/-! sets of nested tuples: set(list) -/
namespace L2
open PySem PySem.SeqAt PySem.Spec PyProof.Rows
/-- what a set has got of the first i of these rows -/
structure NGot (ks : List NRow) (i : Nat) (L : List NRow) : Prop where
  only : ∀ r ∈ L, r ∈ ks.take i
  every : ∀ r ∈ ks.take i, r.2 ∈ L.map Prod.snd
  most : L.length ≤ i
theorem NGot.none_ (ks : List NRow) : NGot ks 0 [] := ⟨fun r h => absurd h (by simp), fun r h => absurd h (by simp), Nat.le_refl _⟩
theorem NGot.next {ks L L' : List NRow} {i : Nat} {x : NRow} (g : NGot ks i L) (e : ks[i]? = some x) (h1 : x.2 ∈ L.map Prod.snd → L' = L) (h2 : x.2 ∉ L.map Prod.snd → L'.Perm (x :: L)) : NGot ks (i + 1) L' := by
  have tk := take_next e
  rcases Classical.em (x.2 ∈ L.map Prod.snd) with c | c
  · cases h1 c
    refine ⟨fun r hr => ?_, fun r hr => ?_, Nat.le_succ_of_le g.most⟩
    · rw [tk]
      exact List.mem_append_left _ (g.only r hr)
    · rw [tk] at hr
      rcases List.mem_append.mp hr with z | z
      · exact g.every r z
      · cases List.mem_singleton.mp z
        exact c
  · have pm := h2 c
    refine ⟨fun r hr => ?_, fun r hr => ?_, by rw [pm.length_eq, List.length_cons]; exact Nat.succ_le_succ g.most⟩
    · rw [tk]
      rcases List.mem_cons.mp (pm.mem_iff.mp hr) with rfl | z
      · exact List.mem_append_right _ List.mem_cons_self
      · exact List.mem_append_left _ (g.only r z)
    · rw [(pm.map Prod.snd).mem_iff, List.map_cons]
      rw [tk] at hr
      rcases List.mem_append.mp hr with z | z
      · exact List.mem_cons_of_mem _ (g.every r z)
      · cases List.mem_singleton.mp z
        exact List.mem_cons_self
section
variable {P : Program} {w : World} {A : Around} {E : Value → Shared → Prop} {s : Shared}
/-- a set that was just made -/
abbrev newSetObj (w : World) : Obj := { cls := .type "set", dict := none, data := .set #[] 0 (.fresh 0 0 (!w.params.followText "set-order")) }
theorem nset_new {h : Heap} {a : Addr} (g : h.get? a = some (newSetObj w)) : NSet w h a [] #[] 0 (.fresh 0 0 (!w.params.followText "set-order")) where
  obj := ⟨_, g, ⟨rfl, rfl, rfl⟩, rfl⟩
  eqs := rfl
  tok := ⟨List.Pairwise.nil, rfl, rfl, .inl rfl, fun x hx => absurd hx (by first | exact List.not_mem_nil | simp), fun i h j hi => absurd hi (by simp [hashesN])⟩
  dif := List.nodup_nil
  key := fun r hr => absurd hr (by simp)
  led := by
    cases z : w.params.followText "set-order"
    · exact .inr rfl
    · exact .inl rfl
  gap := by show 0 < 7 * 3; decide
  small := by decide
theorem NSet.keep {h h' : Heap} {a : Addr} {L : List NRow} {es : Array (Int × Value)} {ep : Nat} {t : SetTable} (N : NSet w h a L es ep t) (ha : ∀ o, h.get? a = some o → h'.get? a = some o) (hk : ∀ r ∈ L, TupKey h' r.2 r.1) : NSet w h' a L es ep t := by
  obtain ⟨o, g, z⟩ := N.obj
  exact ⟨⟨o, ha o g, z⟩, N.eqs, N.tok, N.dif, hk, N.led, N.gap, N.small⟩
/-- the loop of set.update -/
theorem nupdate {I : Addr} {fp wr : List Addr} {G : Array GenState → Array GenState → Prop} {n : Nat} {Pv : Nat → Value → Prop} {St : Nat → Shared → Prop} {R : Result → Shared → Prop}
    (W : WalksS P w A.in1 I fp wr G n Pv St) (S : Addr) (hS : S ∉ fp) (ks : List NRow) (hn : n = ks.length) (few : ks.length < 64) (val : ∀ i v, Pv i v → ∃ r, ks[i]? = some r ∧ v = .ref r.1)
    (h0 : Heap) (hk : ∀ r ∈ ks, TupKey h0 r.2 r.1) (hS0 : h0.get? S = none) (hw0 : ∀ b ∈ wr, h0.get? b = none) (hu : A.in1.units + 8 < cLine) :
    ∀ (d i : Nat) (s : Shared), n - i = d → i ≤ n → St i s → (∀ b o, h0.get? b = some o → s.heap.get? b = some o) → (∃ L es ep t, NSet w s.heap S L es ep t ∧ NGot ks i L) →
      (∀ s' L es ep t, Moved (S :: wr) G s s' → NSet w s'.heap S L es ep t → NGot ks n L → (∀ b o, h0.get? b = some o → s'.heap.get? b = some o) → R (.ok (.ret .none)) s') →
      codeAny (model P w) A (.builtin "set.update.loop" ⟨[.ref S, .ref I], []⟩) R s := by
  have out : S ∉ wr := fun z => hS (W.sub _ z)
  have up : ∀ b ∈ wr, b ∈ S :: wr := fun b z => List.mem_cons_of_mem _ z
  have moved : ∀ {s s' : Shared}, Moved wr G s s' → (∀ b o, h0.get? b = some o → s.heap.get? b = some o) → ∀ b o, h0.get? b = some o → s'.heap.get? b = some o := fun m ext b o e =>
    m.heap b o (fun z => nomatch (hw0 b z).symm.trans e) (ext b o e)
  intro d
  induction d with
  | zero =>
    intro i s hd hi st ext ⟨L, es, ep, t, N, g⟩ hR
    obtain rfl : i = n := by omega
    refine codeAny_builtin F.entry_set_update_loop ?_
    rw [Around.under_plainId F.plain_set_update_loop _]
    show wpAny _ A.in1 (pyNext (.ref I) >>= _) _ _ s
    refine wpAny_bind (W.done s _ _ st fun s' m => ?_)
    show wpAny _ A.in1 (ret Value.none) _ _ s'
    have ext' := moved m ext
    exact wpAny_pure (hR s' L es ep t (m.mono up) (N.keep (fun o e => m.heap S o out e) fun r hr => (hk r (List.mem_of_mem_take (g.only r hr))).keep ext') g ext')
  | succ d ih =>
    intro i s hd hi st ext ⟨L, es, ep, t, N, g⟩ hR
    have lt : i < n := by omega
    refine codeAny_builtin F.entry_set_update_loop ?_
    rw [Around.under_plainId F.plain_set_update_loop _]
    show wpAny _ A.in1 (pyNext (.ref I) >>= _) _ _ s
    refine wpAny_bind (W.item i s _ _ lt st fun v s' hv st' m => ?_)
    obtain ⟨r, hr, rfl⟩ := val i v hv
    have ext' := moved m ext
    have N' : NSet w s'.heap S L es ep t := N.keep (fun o e => m.heap S o out e) fun q hq => (hk q (List.mem_of_mem_take (g.only q hq))).keep ext'
    have kr : TupKey s'.heap r.2 r.1 := (hk r (List.mem_of_getElem? hr)).keep ext'
    show wpAny _ A.in1 (holding [Value.ref r.1] (setAdd S (.ref r.1)) >>= _) _ _ s'
    refine wpAny_bind (wpAny_holding ?_)
    unfold setAdd
    refine wpAny_holding ?_
    refine wpAny_bind (pyHash_key _ _ _ _ _ kr.is (by have := kr.deep; omega) ?_)
    refine nadd (s := { s' with toks := s'.toks + r.2.draws }) N' kr hu (by have := g.most; omega) fun b h' L' es' ep' t' sb N2 c1 c2 => ?_
    have g' : NGot ks (i + 1) L' := g.next hr c1 c2
    have ext2 : ∀ b o, h0.get? b = some o → h'.get? b = some o := fun b o e => (sb.2 b (fun z => by rw [z, hS0] at e; exact nomatch e)).trans (ext' b o e)
    refine wpAny_pure ⟨plainId_quiet F.plain_set_update_loop _, ih (i + 1) _ (by omega) lt (W.frame _ s' _ _ st' (Nat.le_add_right _ _) fun b hb o e => ?_) ext2 ⟨L', es', ep', t', N2, g'⟩ fun s2 L2 es2 ep2 t2 m2 N3 g3 ext3 => ?_⟩
    · rw [sb.2 b (fun z => hS (z ▸ hb))]
      exact e
    · refine hR s2 L2 es2 ep2 t2 (Moved.trans W.gtrans ((m.mono up).then_heap (Nat.le_add_right _ _) fun b o hb e => ?_) m2) N3 g3 ext3
      rw [sb.2 b (fun z => hb (z ▸ List.mem_cons_self))]
      exact e
end
end L2

set_option Elab.async false
set_option linter.all false
set_option maxRecDepth 100000
set_option maxHeartbeats 4000000
/-! sets of nested tuples: the call set(list) -/
namespace L2
open PySem PySem.SeqAt PySem.Spec PyProof.Rows
section
variable {P : Program} {w : World} {A : Around} {E : Value → Shared → Prop} {s : Shared}
theorem absent_of {h : Heap} {b : Addr} (z : h.objs.size ≤ b) : h.get? b = none := by
  cases q : h.get? b with
  | none => rfl
  | some o => exact absurd (Nat.lt_of_lt_of_le (Heap.lt_size q) z) (Nat.lt_irrefl _)
/-- what a call of set leaves behind -/
def NMade (w : World) (s : Shared) (ks : List NRow) (s' : Shared) : Prop := ∃ h' tk L es ep t, s' = { s with heap := h', toks := tk } ∧ NSet w h' s.heap.objs.size L es ep t ∧ NGot ks ks.length L ∧ ∀ b o, s.heap.get? b = some o → h'.get? b = some o
theorem nset_call {l : Addr} {us : Array Value} (ks : List NRow) {Q : Value → Shared → Prop} (hh : A.handled = none) (hl : s.heap.IsList l us) (hit : us.toList = ks.map fun r => Value.ref r.1)
    (hk : ∀ r ∈ ks, TupKey s.heap r.2 r.1) (few : ks.length < 64) (hu : A.units + 16 < cLine) (q : ∀ s', NMade w s ks s' → Q (.ref s.heap.objs.size) s') :
    wpAny (model P w) A (call (.type "set") [.ref l]) Q E s := by
  have n0 : us.size = ks.length := by
    have z := congrArg List.length hit
    simpa using z
  obtain ⟨c, tl, mro⟩ := F.called_set.mro
  have made_ := F.called_set.made
  have sub_ := F.called_set.sub
  refine wpAny_call (codeAny_of_tree ?_)
  show wpAny _ _ (callAny (.type "set") _) _ _ _
  refine wpAny_pure ⟨Code.quiet_builtin _ (by decide +kernel), codeAny_builtin F.entry_type_call ?_⟩
  rw [Around.under_plain (weight_type_call_type "set" [.ref l] []) rfl]
  have isn := F.called_set.notType
  have can := F.called_set.canCreate
  have fit := F.typeCall_set_1 (.ref l)
  repeat (any_goals (first | assumption | wp_step))
  refine codeAny_mono (code_set_led1 (.ref l) (E := E) (Q₁ := fun obj s₁ => obj = .ref s.heap.objs.size ∧ s₁ = { s with heap := s.heap.push (newSetObj w) }) ⟨rfl, rfl⟩) fun r s₁ hr => ?_
  cases r with
  | error e => exact hr
  | ok fl =>
    cases fl with
    | ret obj =>
      obtain ⟨rfl, rfl⟩ := hr
      have gS : (s.heap.push (newSetObj w)).get? s.heap.objs.size = some (newSetObj w) := Heap.get?_push_size _ rfl
      have tS : Shared.TypeIs { s with heap := s.heap.push (newSetObj w) } (.ref s.heap.objs.size) "set" := ⟨_, gS, rfl⟩
      have look := F.called_set.init.lookup
      have bind_ := F.called_set.init.bind (.ref s.heap.objs.size)
      repeat (any_goals (first | assumption | wp_step))
      refine codeAny_mono (codeAny_call_builtin (R := wants (fun r s₂ => r = .none ∧ NMade w s ks s₂) E) F.called_set.init.plain F.entry_set_init (check_set_init_1 tS ?_)) fun r₂ s₂ hr₂ => ?_
      · obtain ⟨⟨kl, dl, tl', sl⟩, gl, rfl, nl, rfl⟩ := hl
        have gl' : (s.heap.push (newSetObj w)).get? l = some { cls := .type "list", dict := dl, data := .seq us nl, slots := sl } := Heap.get?_push_of_some _ gl
        have sub1 := F.sub_list_set
        have sub2 := F.sub_list_frozenset
        have nd : (Value.type "list" == Value.type "dict") = false := by decide
        have L1 : (s.heap.push (newSetObj w)).IsList l us := ⟨_, gl', rfl, nl, rfl⟩
        unfold Builtin.«set.__init__» noKeywords Builtin.Frozenset.updateFrom
        generalize hit_ : pyIter = IT
        wp_walk
        subst hit_
        refine wpAny_pyIter_list L1 ?_
        refine wpAny_bind (wpAny_runValue ?_)
        have ll : l < s.heap.objs.size := Heap.lt_size gl
        have sz1 : (s.heap.push (newSetObj w)).objs.size = s.heap.objs.size + 1 := Heap.size_push ..
        have ne1 : l ≠ (s.heap.push (newSetObj w)).objs.size := by
          rw [sz1]
          exact Nat.ne_of_lt (Nat.lt_succ_of_lt ll)
        have out : s.heap.objs.size ∉ [(s.heap.push (newSetObj w)).objs.size, l] := by
          rw [sz1]
          intro z
          rcases List.mem_cons.mp z with z | z
          · exact absurd z (Nat.ne_of_lt (Nat.lt_succ_self _))
          · exact absurd (List.mem_singleton.mp z) (Nat.ne_of_gt ll)
        have val : ∀ (i : Nat) (v : Value), us[i]? = some v → ∃ r, ks[i]? = some r ∧ v = .ref r.1 := fun i v hv => by
          rw [← Array.getElem?_toList, hit, List.getElem?_map] at hv
          obtain ⟨r, hr, e⟩ := Option.map_eq_some_iff.mp hv
          exact ⟨r, hr, e.symm⟩
        have W0 := (Walks.list (prog := P) (w := w) (A := A.in1.in1.in1) (show A.in1.in1.in1.handled = none by simp [hh]) (s.heap.push (newSetObj w)).objs.size l ne1 us).toS
        refine nupdate W0 s.heap.objs.size out ks n0 few val s.heap hk (absent_of (Nat.le_refl _)) (fun b hb => absent_of (by
            rw [List.mem_singleton.mp hb, sz1]
            exact Nat.le_succ _)) (by simp only [Around.in1_units]; omega) (us.size - 0) 0 _ (by omega) (Nat.zero_le _)
          ⟨⟨_, Heap.get?_push_size _ rfl, rfl, rfl⟩, L1.push _⟩ (fun b o e => Heap.get?_push_of_some _ (Heap.get?_push_of_some _ e)) ?first ?last
        case first => exact ⟨[], #[], 0, _, nset_new (Heap.get?_push_of_some _ gS), NGot.none_ ks⟩
        case last =>
          intro s' L es ep t m N g ext
          obtain ⟨h', gn, dr, tk', os'⟩ := s'
          cases (show gn = s.gens from m.gens)
          cases (show dr = s.drawn from m.drawn)
          cases (show os' = s.os from m.os)
          show wpAny _ _ _ _ _ _
          refine wpAny_pure ?_
          show wpAny _ _ (ret Value.none) _ _ _
          rw [n0] at g
          exact wpAny_pure ⟨rfl, h', tk', L, es, ep, t, rfl, N, g, ext⟩
      · cases r₂ with
        | error e => exact hr₂
        | ok fl₂ =>
          cases fl₂ with
          | ret r =>
            obtain ⟨rfl, hm⟩ := hr₂
            have hm' := hm
            obtain ⟨h', tk, L, es, ep, t, rfl, N, g, ext⟩ := hm
            repeat (any_goals (first | assumption | wp_step))
            exact q _ hm'
          | _ => exact hr₂.elim
    | _ => exact hr.elim
end
end L2

set_option Elab.async false
set_option linter.all false
set_option maxRecDepth 100000
set_option maxHeartbeats 4000000
/-! data that sets take, and their order -/
namespace L2
open PySem PySem.W PySem.SeqAt PySem.Spec PyProof.Rows
mutual
def nkey : PyData → NestedKey
  | .none => .none
  | .bool b => .num (if b = true then 1 else 0)
  | .int i => .num i
  | .str x => .text x
  | .tuple ds => .tup (nkeys ds)
  | .list _ => .none
  | .dict _ => .none
def nkeys : List PyData → List NestedKey
  | [] => []
  | d :: ds => nkey d :: nkeys ds
end
mutual
/-- neither a list nor a dict, nor one within -/
def keyable : PyData → Bool
  | .list _ => false
  | .dict _ => false
  | .tuple ds => keyables ds
  | _ => true
def keyables : List PyData → Bool
  | [] => true
  | d :: ds => keyable d && keyables ds
end
mutual
theorem nkey_depth : ∀ d : PyData, keyable d = true → (nkey d).depth = d.depth
  | .none, _ => rfl
  | .bool _, _ => rfl
  | .int _, _ => rfl
  | .str _, _ => rfl
  | .tuple ds, k => by
    have z := nkeys_depth ds (by simpa [keyable] using k)
    simp only [nkey, NestedKey.depth, PyData.depth, z]
  | .list _, k => by simp [keyable] at k
  | .dict _, k => by simp [keyable] at k
theorem nkeys_depth : ∀ ds : List PyData, keyables ds = true → NestedKey.depthAll (nkeys ds) = PyData.depthAll ds
  | [], _ => rfl
  | d :: ds, k => by
    rw [keyables, Bool.and_eq_true] at k
    simp only [nkeys, NestedKey.depthAll, PyData.depthAll, nkey_depth d k.1, nkeys_depth ds k.2]
end
mutual
theorem nkey_is {h : Heap} : ∀ (d : PyData) (v : Value) (as : List Addr), keyable d = true → Reads h v d as → NestedIs h (nkey d) v
  | .none, _, _, _, r => by cases r; exact .none
  | .bool b, _, _, _, r => by cases r; exact .bool rfl
  | .int i, _, _, _, r => by cases r; exact .int _ _
  | .str x, _, _, _, r => by cases r; exact .text _ _
  | .tuple ds, _, _, k, r => by
    cases r with
    | tuple g1 g2 g3 g4 => exact .tup g1 g2 g3 (nkeys_is ds _ _ (by simpa [keyable] using k) g4)
  | .list _, _, _, k, _ => by simp [keyable] at k
  | .dict _, _, _, k, _ => by simp [keyable] at k
theorem nkeys_is {h : Heap} : ∀ (ds : List PyData) (vs : List Value) (as : List Addr), keyables ds = true → ReadsAll h vs ds as → NestedAll h (nkeys ds) vs
  | [], _, _, _, r => by cases r; exact .nil
  | d :: ds, _, _, k, r => by
    rw [keyables, Bool.and_eq_true] at k
    cases r with
    | cons r1 r2 => exact .cons (nkey_is d _ _ k.1 r1) (nkeys_is ds _ _ k.2 r2)
end
mutual
theorem nkey_inj : ∀ d e : PyData, keyable d = true → keyable e = true → alike d e = true → nkey d = nkey e → d = e
  | .none, e, _, _, a, _ => by cases e <;> first | rfl | simp [alike] at a
  | .bool b, e, _, _, a, q => by
    cases e with
    | bool c =>
      simp only [nkey] at q
      injection q with q
      cases b <;> cases c <;> first | rfl | exact absurd q (by decide)
    | _ => simp [alike] at a
  | .int i, e, _, _, a, q => by
    cases e with
    | int j =>
      simp only [nkey] at q
      injection q with q
      rw [q]
    | _ => simp [alike] at a
  | .str x, e, _, _, a, q => by
    cases e with
    | str y =>
      simp only [nkey] at q
      injection q with q
      rw [q]
    | _ => simp [alike] at a
  | .tuple ds, e, k, k', a, q => by
    cases e with
    | tuple es =>
      simp only [nkey] at q
      injection q with q
      rw [nkeys_inj ds es (by simpa [keyable] using k) (by simpa [keyable] using k') (by simpa [alike] using a) q]
    | _ => simp [alike] at a
  | .list _, _, k, _, _, _ => by simp [keyable] at k
  | .dict _, _, k, _, _, _ => by simp [keyable] at k
theorem nkeys_inj : ∀ ds es : List PyData, keyables ds = true → keyables es = true → alikeAll ds es = true → nkeys ds = nkeys es → ds = es
  | [], [], _, _, _, _ => rfl
  | [], _ :: _, _, _, _, q => by simp [nkeys] at q
  | _ :: _, [], _, _, _, q => by simp [nkeys] at q
  | d :: ds, e :: es, k, k', a, q => by
    rw [keyables, Bool.and_eq_true] at k k'
    obtain ⟨a1, a2⟩ := alike_all_cons a
    simp only [nkeys] at q
    injection q with q1 q2
    rw [nkey_inj d e k.1 k'.1 a1 q1, nkeys_inj ds es k.2 k'.2 a2 q2]
end
mutual
theorem eqv_same : ∀ d e : PyData, alike d e = true → PyData.eqv d e = true → d = e
  | .none, e, a, _ => by cases e <;> first | rfl | simp [alike] at a
  | .bool b, e, a, q => by
    cases e with
    | bool c => cases b <;> cases c <;> first | rfl | (simp [PyData.eqv] at q)
    | _ => simp [alike] at a
  | .int i, e, a, q => by
    cases e with
    | int j =>
      have z : i = j := by simpa [PyData.eqv] using q
      rw [z]
    | _ => simp [alike] at a
  | .str x, e, a, q => by
    cases e with
    | str y =>
      have z : x = y := by simpa [PyData.eqv] using q
      rw [z]
    | _ => simp [alike] at a
  | .tuple ds, e, a, q => by
    cases e with
    | tuple es => rw [eqvs_same ds es (by simpa [alike] using a) (by simpa [PyData.eqv] using q)]
    | _ => simp [alike] at a
  | .list ds, e, a, q => by
    cases e with
    | list es => rw [eqvs_same ds es (by simpa [alike] using a) (by simpa [PyData.eqv] using q)]
    | _ => simp [alike] at a
  | .dict _, e, a, _ => by cases e <;> simp [alike] at a
theorem eqvs_same : ∀ ds es : List PyData, alikeAll ds es = true → PyData.eqvAll ds es = true → ds = es
  | [], [], _, _ => rfl
  | [], _ :: _, _, q => by simp [PyData.eqvAll] at q
  | _ :: _, [], _, q => by simp [PyData.eqvAll] at q
  | d :: ds, e :: es, a, q => by
    obtain ⟨a1, a2⟩ := alike_all_cons a
    rw [eqv_all_cons, Bool.and_eq_true] at q
    rw [eqv_same d e a1 q.1, eqvs_same ds es a2 q.2]
end
/-- of two unlike data of one kind one is below the other -/
theorem dataLt_or {d e : PyData} (a : alike d e = true) (ne : d ≠ e) : dataLt d e = true ∨ dataLt e d = true := by
  cases h1 : dataLt d e with
  | true => exact .inl rfl
  | false =>
    cases h2 : dataLt e d with
    | true => exact .inr rfl
    | false =>
      exfalso
      have tk : keyToks d = keyToks e := (listOrd itemOrd).total _ _ h1 h2
      cases q : PyData.eqv d e with
      | true => exact ne (eqv_same d e a q)
      | false =>
        have z := (toks_eqv d e a).2 q [] [.inl 0]
        rw [tk, lex_pre] at z
        have z2 := (toks_eqv d e a).2 q [] []
        rw [tk, lex_pre] at z2
        rw [← z2] at z
        exact absurd z (by decide)
theorem dataLt_irrefl (d : PyData) : dataLt d d = false := (listOrd itemOrd).irrefl _
theorem dataLt_trans {d e f : PyData} (h1 : dataLt d e = true) (h2 : dataLt e f = true) : dataLt d f = true := (listOrd itemOrd).trans _ _ _ h1 h2
end L2

set_option Elab.async false
set_option linter.all false
set_option maxRecDepth 100000
set_option maxHeartbeats 4000000
/-! sorted(set) of nested tuples -/
namespace L2
open PySem PySem.W PySem.SeqAt PySem.Spec PyProof.Rows PySem.Calls
theorem perm_back {α β : Type} {f : α → β} {l k : List β} (p : l.Perm k) : ∀ m : List α, k = m.map f → ∃ m' : List α, m'.Perm m ∧ l = m'.map f := by
  induction p with
  | nil =>
    intro m e
    exact ⟨[], by cases m with | nil => exact .nil | cons _ _ => simp at e, rfl⟩
  | cons x _ ih =>
    intro m e
    cases m with
    | nil => simp at e
    | cons y m =>
      rw [List.map_cons] at e
      injection e with e1 e2
      obtain ⟨m', h1, h2⟩ := ih m e2
      exact ⟨y :: m', h1.cons y, by rw [h2, e1, List.map_cons]⟩
  | swap x y l =>
    intro m e
    match m, e with
    | [], e => simp at e
    | [_], e => simp at e
    | u :: v :: m, e =>
      simp only [List.map_cons] at e
      injection e with e1 e2
      injection e2 with e2 e3
      exact ⟨v :: u :: m, .swap _ _ _, by simp only [List.map_cons]; rw [e1, e2, e3]⟩
  | trans _ _ ih1 ih2 =>
    intro m e
    obtain ⟨m2, h1, h2⟩ := ih2 m e
    obtain ⟨m3, h3, h4⟩ := ih1 m2 h2
    exact ⟨m3, h3.trans h1, h4⟩
theorem sub_back {α β : Type} {f : α → β} {m : List α} : ∀ l : List β, (∀ x ∈ l, x ∈ m.map f) → ∃ m' : List α, l = m'.map f ∧ ∀ y ∈ m', y ∈ m
  | [], _ => ⟨[], rfl, fun y h => absurd h (by simp)⟩
  | x :: l, h => by
    obtain ⟨y, hy, e⟩ := List.mem_map.mp (h x List.mem_cons_self)
    obtain ⟨m', e', h'⟩ := sub_back l fun z hz => h z (List.mem_cons_of_mem _ hz)
    refine ⟨y :: m', by rw [List.map_cons, e, e'], fun z hz => ?_⟩
    rcases List.mem_cons.mp hz with rfl | hz
    · exact hy
    · exact h' z hz
/-- a tuple of the heap and what it reads as -/
abbrev TRow := Addr × PyData
abbrev TRow.n (p : TRow) : NRow := (p.1, nkey p.2)
abbrev TRow.r (p : TRow) : Value := .ref p.1
theorem each_rows {R : Value → TRow → Prop} : ∀ T : List TRow, (∀ p ∈ T, R p.r p) → EachIs R (T.map TRow.r) T
  | [], _ => .nil
  | p :: T, h => .cons (h p List.mem_cons_self) (each_rows T fun q hq => h q (List.mem_cons_of_mem _ hq))
theorem rows_each : ∀ {vs : List Value} {T : List TRow}, EachIs (fun v p => v = TRow.r p) vs T → vs = T.map TRow.r
  | _, _, .nil => rfl
  | _, _, .cons h t => by rw [h, rows_each t, List.map_cons]
section
variable {P : Program} {w : World} {A : Around} {E : Value → Shared → Prop} {s : Shared}
/-- the rows, sorted -/
def sortT (T : List TRow) : List TRow := T.mergeSort (dataLe false Prod.snd)
theorem sortT_perm (T : List TRow) : (sortT T).Perm T := List.mergeSort_perm _ _
theorem sortT_up (T : List TRow) (hal : AllAlike (T.map Prod.snd)) (nd : (T.map Prod.snd).Nodup) : (sortT T).Pairwise fun p q => dataLt p.2 q.2 = true := by
  have srt : (sortT T).Pairwise fun p q => dataLe false Prod.snd p q = true := sort_pairwise (sortLe_total (listOrd itemOrd) false fun p : TRow => keyToks p.2) T
  have nd' : ((sortT T).map Prod.snd).Nodup := ((sortT_perm T).map Prod.snd).nodup_iff.mpr nd
  have ne : (sortT T).Pairwise fun p q => p.2 ≠ q.2 := List.pairwise_map.mp nd'
  refine List.Pairwise.imp_of_mem (fun {p q} hp hq z => ?_) (srt.and ne)
  obtain ⟨z1, z2⟩ := z
  have mp := (sortT_perm T).mem_iff.mp hp
  have mq := (sortT_perm T).mem_iff.mp hq
  rcases dataLt_or (hal _ (List.mem_map_of_mem mp) _ (List.mem_map_of_mem mq)) z2 with c | c
  · exact c
  · exfalso
    have z3 : (!dataLt q.2 p.2) = true := z1
    rw [c] at z3
    exact absurd z3 (by decide)
/-- sorted of a set of tuples -/
theorem nsorted {a : Addr} {T : List TRow} {es : Array (Int × Value)} {ep : Nat} {t : SetTable} {Q : Value → Shared → Prop} (N : NSet w s.heap a (T.map TRow.n) es ep t) (hh : A.handled = none)
    (hr : ∀ p ∈ T, ∃ as, Reads s.heap p.r p.2 as) (hal : AllAlike (T.map Prod.snd)) (ht : ∀ p ∈ T, ∃ xs, p.2 = .tuple xs) (hu : ∀ p ∈ T, A.units + 4 + p.2.depth < cLine)
    (q : ∀ s' b c T', (∀ b o, s.heap.get? b = some o → s'.heap.get? b = some o) → s'.gens = s.gens → s'.os = s.os → s.heap.objs.size ≤ b → T'.Perm T → s'.heap.get? b = some (seqObj "list" ((sortT T').map TRow.r).toArray c) → Q (.ref b) s') :
    wpAny (model P w) A (call (.builtin "sorted") [.ref a]) Q E s := by
  obtain ⟨o, g, hex, hd⟩ := N.obj
  have few := N.small
  rw [List.length_map] at few
  refine Calls.call_function_entry kind_sorted plain_sorted entry_sorted (args_sorted1 _) ?_
  unfold Builtin.«sorted»
  refine wpAny_bind (m := checkCount "sorted" 1 1 _) (wpAny_pure ?_)
  refine wpAny_bind (collect_set (A := A.in1) hh ⟨o, g, hex.1, hd⟩ N.fits (by rw [N.size, List.length_map]; unfold scanBound; omega) N.tok.ris N.led fun s1 vs k1 hz g1 o1 pm => ?_)
  have e1 : es.toList.map (·.2) = T.map TRow.r := by
    rw [N.eqs]
    unfold nrows
    rw [List.map_map, List.map_map]
    first | rfl | done
  obtain ⟨T2, p2, rfl⟩ := perm_back pm T e1
  have len2 : (T2.map TRow.r).length < 64 := by rw [List.length_map, p2.length_eq]; exact few
  refine wpAny_bind (wpAny_newList ?_ (by rw [sizeLine_eq]; omega))
  have gL : (s1.heap.push (seqObj "list" (T2.map TRow.r).toArray 0)).get? s1.heap.objs.size = some (seqObj "list" (T2.map TRow.r).toArray 0) := Heap.get?_push_size _ rfl
  have rd : EachIs (fun v p => ∃ as, Reads (sortingHeap (s1.heap.push (seqObj "list" (T2.map TRow.r).toArray 0)) s1.heap.objs.size (T2.map TRow.r)) v p.2 as) (T2.map TRow.r) T2 :=
    each_rows T2 fun p hp => by
      obtain ⟨as, r⟩ := hr p (p2.mem_iff.mp hp)
      exact ⟨as, PyProof.Rows.Reads.keeps (fun b u e => by
        have z := k1 b u e
        exact sortingHeap_old (Nat.ne_of_lt (Heap.lt_size z)) (Heap.get?_push_of_some _ z)) r⟩
  have al2 : AllAlike (T2.map Prod.snd) := fun d hd e he => hal d ((p2.map Prod.snd).mem_iff.mp hd) e ((p2.map Prod.snd).mem_iff.mp he)
  have tp2 : ∀ d ∈ T2.map Prod.snd, ∃ xs, d = PyData.tuple xs := fun d hd => by
    obtain ⟨p, hp, rfl⟩ := List.mem_map.mp hd
    exact ht p (p2.mem_iff.mp hp)
  have u2 : ∀ d, d ∈ T2.map Prod.snd → A.in1.in1.units + d.depth < cLine := fun d hd => by
    obtain ⟨p, hp, rfl⟩ := List.mem_map.mp hd
    have z := hu p (p2.mem_iff.mp hp)
    simp only [Around.in1_units]
    omega
  have srt := sortsAt_tups (prog := P) (w := w) (A := A.in1.in1) (s := { s1 with heap := sortingHeap (s1.heap.push (seqObj "list" (T2.map TRow.r).toArray 0)) s1.heap.objs.size (T2.map TRow.r) }) (each_map (R := fun v d => ∃ as, Reads _ v d as) Prod.snd rd) al2 tp2 u2
  have out := rows_each (sortVals_data (R := fun v p => v = TRow.r p) (enc := Prod.snd) false (each_rows T2 fun p _ => rfl) rd al2)
  refine wpAny_bind (wpAny_holding (wpAny_call_entry slot_list_sort ⟨_, gL, rfl⟩ entry_list_sort (list_sort_vals (s := { s1 with heap := s1.heap.push (seqObj "list" (T2.map TRow.r).toArray 0) }) gL srt (by rw [sizeLine_eq]; omega) ⟨_, rfl, ?_⟩) (args_list_sort _)))
  rw [out]
  obtain ⟨c, hc⟩ := sortedHeap_at (vs := T2.map TRow.r) (out := ((T2.mergeSort (dataLe false Prod.snd)).map TRow.r).toArray) gL
  refine wpAny_pure ⟨_, rfl, q _ s1.heap.objs.size c T2 (fun b u e => ?_) g1 o1 hz p2 hc⟩
  have z := k1 b u e
  have lt := Heap.lt_size z
  show (sortedHeap (s1.heap.push (seqObj "list" (T2.map TRow.r).toArray 0)) s1.heap.objs.size (T2.map TRow.r) _).get? b = some u
  rw [sortedHeap_old (Nat.ne_of_lt lt) (by rw [size_push']; exact Nat.lt_succ_of_lt lt)]
  exact Heap.get?_push_of_some _ z
end
end L2

set_option Elab.async false
set_option linter.all false
set_option maxRecDepth 100000
set_option maxHeartbeats 4000000
/-! sets of nested tuples, and sorted lists of tuples: rules of the layer -/
namespace L2
open PySem PySem.W PySem.Spec PyProof.Rows
abbrev TRow.v (p : TRow) : V := .ref p.1
theorem tuple_ref {H : Hp} {v : V} {ds : List PyData} (h : Dat H v (.tuple ds)) : ∃ a, v = .ref a := by
  cases h with
  | tup _ _ => exact ⟨_, rfl⟩
theorem rows_of_dat {H : Hp} : ∀ {vs : List V} {ds : List PyData}, DatAll H vs ds → (∀ d ∈ ds, ∃ xs, d = .tuple xs) → ∃ T : List TRow, vs = T.map TRow.v ∧ ds = T.map Prod.snd ∧ ∀ p ∈ T, Dat H p.v p.2
  | _, _, .nil, _ => ⟨[], rfl, rfl, fun p hp => absurd hp (by simp)⟩
  | _, _, .cons (v := v) (d := d) h t, ht => by
    obtain ⟨T, rfl, rfl, h3⟩ := rows_of_dat t fun e he => ht e (List.mem_cons_of_mem _ he)
    obtain ⟨xs, rfl⟩ := ht d List.mem_cons_self
    obtain ⟨a, rfl⟩ := tuple_ref h
    refine ⟨(a, .tuple xs) :: T, rfl, rfl, fun p hp => ?_⟩
    rcases List.mem_cons.mp hp with rfl | hp
    · exact h
    · exact h3 p hp
theorem rows_vals : ∀ T : List TRow, Vals (T.map TRow.v) (T.map TRow.r)
  | [] => .nil
  | _ :: T => .cons rfl (rows_vals T)
theorem vals_rows : ∀ {T : List TRow} {us : List Value}, Vals (T.map TRow.v) us → us = T.map TRow.r
  | [], _, .nil => rfl
  | _ :: T, _, .cons r t => by
    cases (show _ = Value.ref _ from r)
    rw [vals_rows t, List.map_cons]
/-- what is asked of the data of tuples that are sorted -/
structure Sorty (T : List TRow) : Prop where
  alike : AllAlike (T.map Prod.snd)
  tup : ∀ p ∈ T, ∃ xs, p.2 = .tuple xs
  deep : ∀ p ∈ T, p.2.depth ≤ 8
theorem Sorty.sub {T T' : List TRow} (h : Sorty T) (s : ∀ p ∈ T', p ∈ T) : Sorty T' where
  alike := fun d hd e he => by
    obtain ⟨p, hp, rfl⟩ := List.mem_map.mp hd
    obtain ⟨q, hq, rfl⟩ := List.mem_map.mp he
    exact h.alike _ (List.mem_map_of_mem (s p hp)) _ (List.mem_map_of_mem (s q hq))
  tup := fun p hp => h.tup p (s p hp)
  deep := fun p hp => h.deep p (s p hp)
/-- the set at a, without its members -/
structure NSet0 (w : World) (h : Heap) (a : Addr) (L : List NRow) : Prop where
  ex : ∃ (es : Array (Int × Value)) (ep : Nat) (t : SetTable), (∃ o, h.get? a = some o ∧ o.ExactSet ∧ o.data = .set es ep t) ∧ es.toList = nrows w L ∧ TabOk t (hashesN w L) ∧ (L.map Prod.snd).Nodup ∧
    (w.params.followText "set-order" = true ∨ t.led = true) ∧ L.length * 5 < t.mask * 3 ∧ L.length < 64
def SetNO (w : World) (a : Addr) (L : List NRow) : HO := .ext fun h => NSet0 w h a L
theorem NSet.less {w : World} {h : Heap} {a : Addr} {L : List NRow} {es : Array (Int × Value)} {ep : Nat} {t : SetTable} (N : NSet w h a L es ep t) : NSet0 w h a L := ⟨es, ep, t, N.obj, N.eqs, N.tok, N.dif, N.led, N.gap, N.small⟩
theorem NSet0.full {w : World} {h : Heap} {a : Addr} {L : List NRow} (N : NSet0 w h a L) (hk : ∀ r ∈ L, TupKey h r.2 r.1) : ∃ es ep t, NSet w h a L es ep t := by
  obtain ⟨es, ep, t, h1, h2, h3, h4, h5, h6, h7⟩ := N.ex
  exact ⟨es, ep, t, h1, h2, h3, h4, hk, h5, h6, h7⟩
theorem setNO_ok {P : Program} {w : World} {H : Hp} {h : Heap} {a : Addr} {L : List NRow} (N : NSet0 w h a L) : ObjOk P w H h a (SetNO w a L) := by
  obtain ⟨es, ep, t, ⟨o, g, r⟩, z⟩ := N.ex
  refine ⟨N, ⟨o, g⟩, fun h1 h2 p k => ?_⟩
  obtain ⟨es', ep', t', ⟨o', g', r'⟩, z'⟩ := NSet0.ex p
  exact ⟨es', ep', t', ⟨o', k o' g', r'⟩, z'⟩
section
variable {X : Cx}
theorem Inv.reads {pins : List (Addr × Obj)} {σ : St} {H : Hp} {s : Shared} (I : Inv X pins σ H s) {p : TRow} (d : Dat H p.v p.2) : ∃ as, Reads s.heap p.r p.2 as := reads_of_dat I.hok d rfl
theorem tupKey_of {h : Heap} {p : TRow} (r : ∃ as, Reads h p.r p.2 as) (k : keyable p.2 = true) (z : p.2.depth ≤ 8) : TupKey h (nkey p.2) p.1 := by
  obtain ⟨as, r⟩ := r
  exact ⟨nkey_is _ _ as k r, by rw [nkey_depth _ k]; exact z⟩
/-- set(xs), xs a list of nested tuples -/
def rSetN (K : PySem.W.Frag) (w : World) : List V → Hp → VK → Prop := fun xs H Q => ∃ (l : Addr) (T : List TRow), xs = [V.ref l] ∧ SqL K H l (T.map TRow.v) ∧ (∀ p ∈ T, Dat H p.v p.2) ∧ Sorty T ∧ (∀ p ∈ T, keyable p.2 = true) ∧ T.length < 64 ∧
  ∀ (a : Addr) (T' : List TRow), H a = none → (∀ p ∈ T', p ∈ T) → (∀ p ∈ T, p.2 ∈ T'.map Prod.snd) → (T'.map Prod.snd).Nodup → Q (.ref a) (upd H a (SetNO w a (T'.map TRow.n)))
theorem cr_setN (hc : X.calm = true) (hu : X.A.units + 64 < cLine) : CallR X (.type "set") (rSetN X.K X.w) := by
  intro pins s σ H xs us Q I r h
  obtain ⟨l, T, rfl, hl, hd, so, hk, few, q⟩ := h
  rw [Vals.ref1 r]
  obtain ⟨its, rv, pl, hz⟩ := I.list hl
  have e1 : its = T.map TRow.r := vals_rows rv
  have fresh : H s.heap.objs.size = none := I.hok.fresh (Nat.le_refl _)
  have keys : ∀ r ∈ T.map TRow.n, TupKey s.heap r.2 r.1 := fun r hr => by
    obtain ⟨p, hp, rfl⟩ := List.mem_map.mp hr
    exact tupKey_of (I.reads (hd p hp)) (hk p hp) (so.deep p hp)
  refine nset_call (P := X.prog) (w := X.w) (T.map TRow.n) (I.ok.hd hc) pl.isList (by rw [e1, List.map_map]; first | rfl | done) keys (by rw [List.length_map]; exact few) (by omega) fun s' hm => ?_
  obtain ⟨h', tk, L, es, ep, t, rfl, N, g, ext⟩ := hm
  have sub : ∀ r ∈ L, r ∈ T.map TRow.n := fun r hr => List.mem_of_mem_take (g.only r hr)
  obtain ⟨T', rfl, sub'⟩ := sub_back L sub
  refine ⟨.ref s.heap.objs.size, upd H s.heap.objs.size (SetNO X.w s.heap.objs.size (T'.map TRow.n)), I.laid (t' := tk) ext (Nat.le_refl _) (setNO_ok N.less), rfl, q _ T' fresh sub' (fun p hp => ?_) ?_⟩
  · have z := g.every p.n (by rw [List.take_length]; exact List.mem_map_of_mem hp)
    rw [List.map_map] at z
    obtain ⟨p', hp', e⟩ := List.mem_map.mp z
    have e2 : nkey p'.2 = nkey p.2 := e
    have mp' := sub' p' hp'
    rw [← nkey_inj _ _ (hk p' mp') (hk p hp) (so.alike _ (List.mem_map_of_mem mp') _ (List.mem_map_of_mem hp)) e2]
    exact List.mem_map_of_mem hp'
  · have z := N.dif
    rw [List.map_map] at z
    have z2 : ((T'.map Prod.snd).map nkey).Nodup := by
      rw [List.map_map]
      exact z
    exact nodup_of_map z2
/-- sorted(set), the members nested tuples -/
def rSortN (w : World) : List V → Hp → VK → Prop := fun vs H Q => ∃ (a : Addr) (T : List TRow), vs = [V.ref a] ∧ H a = some (SetNO w a (T.map TRow.n)) ∧ (∀ p ∈ T, Dat H p.v p.2) ∧ Sorty T ∧ (∀ p ∈ T, keyable p.2 = true) ∧
  ∀ (T' : List TRow) (b : Addr), T'.Perm T → (T'.Pairwise fun p q => dataLt p.2 q.2 = true) → H b = none → Q (.ref b) (upd H b (.lst (T'.map TRow.v)))
theorem cr_sortN (hc : X.calm = true) (hu : X.A.units + 64 < cLine) : CallR X (.builtin "sorted") (rSortN X.w) := by
  intro pins s σ H vs us Q I r h
  obtain ⟨a, T, rfl, ha, hd, so, hk, q⟩ := h
  have N0 : NSet0 X.w s.heap a (T.map TRow.n) := (I.hok a _ ha).1
  obtain ⟨es, ep, t, N⟩ := N0.full fun r hr => by
    obtain ⟨p, hp, rfl⟩ := List.mem_map.mp hr
    exact tupKey_of (I.reads (hd p hp)) (hk p hp) (so.deep p hp)
  rw [Vals.ref1 r]
  have nd : (T.map Prod.snd).Nodup := by
    have z := N.dif
    rw [List.map_map] at z
    have z2 : ((T.map Prod.snd).map nkey).Nodup := by
      rw [List.map_map]
      exact z
    exact nodup_of_map z2
  have few := N.small
  rw [List.length_map] at few
  refine nsorted N (I.ok.hd hc) (fun p hp => I.reads (hd p hp)) so.alike so.tup (fun p hp => by have := so.deep p hp; omega) fun s' b c T' k g o hb pm hc' => ?_
  have pm2 : (sortT T').Perm T := (sortT_perm T').trans pm
  have so' : Sorty T' := so.sub fun p hp => pm.mem_iff.mp hp
  have fresh : H b = none := I.hok.fresh hb
  have J : Inv X pins σ (upd H b (.lst ((sortT T').map TRow.v))) { s with heap := s'.heap, gens := s'.gens, drawn := s'.drawn, toks := s'.toks } :=
    I.call (ch := []) (Un.laid k hb fresh) (I.hok.laid k hb ⟨by rw [List.length_map, pm2.length_eq, sizeLine_eq]; omega, _, c, rows_vals _, hc'⟩) (by rw [g]; exact I.bare) (fun _ z => nomatch z)
  have e : s' = { s with heap := s'.heap, gens := s'.gens, drawn := s'.drawn, toks := s'.toks } := by
    cases s'
    cases s
    cases o
    rfl
  rw [e]
  exact ⟨.ref b, _, J, rfl, q (sortT T') b pm2 (sortT_up T' so'.alike ((pm.map Prod.snd).nodup_iff.mpr nd)) fresh⟩
end
end L2

set_option Elab.async false
set_option linter.all false
set_option maxRecDepth 100000
set_option maxHeartbeats 4000000
/-! sorted(list) of tuples of any lengths -/
namespace L2
open PySem PySem.W PySem.Spec PyProof.Rows
theorem sortT_le (T : List TRow) : (sortT T).Pairwise fun p q => dataLt q.2 p.2 = false := by
  have srt : (sortT T).Pairwise fun p q => dataLe false Prod.snd p q = true := sort_pairwise (sortLe_total (listOrd itemOrd) false fun p : TRow => keyToks p.2) T
  refine srt.imp fun {p q} z => ?_
  have z3 : (!dataLt q.2 p.2) = true := z
  cases c : dataLt q.2 p.2 with
  | false => rfl
  | true =>
    rw [c] at z3
    exact absurd z3 (by decide)
section
variable {X : Cx}
/-- sorted(xs), xs a list of tuples -/
def rSortL (K : PySem.W.Frag) : List V → Hp → VK → Prop := fun vs H Q => ∃ (l : Addr) (T : List TRow), vs = [V.ref l] ∧ SqL K H l (T.map TRow.v) ∧ (∀ p ∈ T, Dat H p.v p.2) ∧ Sorty T ∧
  ∀ (T' : List TRow) (b : Addr), T'.Perm T → (T'.Pairwise fun p q => dataLt q.2 p.2 = false) → ((T.map Prod.snd).Nodup → T'.Pairwise fun p q => dataLt p.2 q.2 = true) → H b = none → Q (.ref b) (upd H b (.lst (T'.map TRow.v)))
theorem cr_sortL (hu : X.A.units + 64 < cLine) : CallR X (.builtin "sorted") (rSortL X.K) := by
  intro pins s σ H vs us Q I r h
  obtain ⟨l, T, rfl, hl, hd, so, q⟩ := h
  rw [Vals.ref1 r]
  obtain ⟨its, rv, pl, hz⟩ := I.list hl
  have e1 : its = T.map TRow.r := vals_rows rv
  subst e1
  rw [List.length_map] at hz
  have rd : EachIs (fun v p => ∃ as, Reads (sortingHeap (copyHeap s.heap (T.map TRow.r)) (s.heap.objs.size + 1) (T.map TRow.r)) v p.2 as) (T.map TRow.r) T :=
    each_rows T fun p hp => by
      obtain ⟨as, z⟩ := I.reads (hd p hp)
      exact ⟨as, PyProof.Rows.Reads.keeps (fun _ _ => sorting_copy_old) z⟩
  have tp : ∀ d ∈ T.map Prod.snd, ∃ xs, d = PyData.tuple xs := fun d z => by
    obtain ⟨p, hp, rfl⟩ := List.mem_map.mp z
    exact so.tup p hp
  have un : ∀ d, d ∈ T.map Prod.snd → X.A.in1.in1.units + d.depth < cLine := fun d z => by
    obtain ⟨p, hp, rfl⟩ := List.mem_map.mp z
    have z := so.deep p hp
    simp only [Around.in1_units]
    omega
  have srt := sortsAt_tups (prog := X.prog) (w := X.w) (A := X.A.in1.in1) (s := { s with heap := sortingHeap (copyHeap s.heap (T.map TRow.r)) (s.heap.objs.size + 1) (T.map TRow.r) }) (each_map (R := fun v d => ∃ as, Reads _ v d as) Prod.snd rd) so.alike tp un
  have out := rows_each (sortVals_data (R := fun v p => v = TRow.r p) (enc := Prod.snd) false (each_rows T fun p _ => rfl) rd so.alike)
  refine sorted_vals pl.isList srt (by rw [List.length_map]; exact hz) ?_
  rw [out]
  obtain ⟨c, hc⟩ := PyProof.Rows.sortedAll_at s.heap (T.map TRow.r) ((sortT T).map TRow.r).toArray
  have fresh : H (s.heap.objs.size + 1) = none := I.hok.fresh (Nat.le_succ _)
  exact ⟨.ref _, upd H (s.heap.objs.size + 1) (.lst ((sortT T).map TRow.v)), I.laid (t' := s.toks) (fun _ _ => PyProof.Rows.sortedAll_old) (Nat.le_succ _) ⟨by rw [List.length_map, (sortT_perm T).length_eq]; exact hz, _, c, rows_vals _, hc⟩, rfl,
    q (sortT T) _ (sortT_perm T) (sortT_le T) (sortT_up T so.alike) fresh⟩
end
end L2

set_option Elab.async false
set_option linter.all false
set_option maxRecDepth 100000
set_option maxHeartbeats 4000000
namespace S1
open PySem PySem.Spec PyProof.Rows L2
def topS (i : Nat) : Stmt := PySem.Challenge.pw_onlyseen_k13_papers_of_idle_sights.main.body.getD i (.Pass ⟨0, 0, 0, 0⟩)
abbrev sIsTruth : Stmt := topS 11
abbrev sIsTuple : Stmt := topS 12
abbrev sIsPair : Stmt := topS 13
abbrev sIsRising : Stmt := topS 14
abbrev sIsName : Stmt := topS 15
abbrev sIsLetter : Stmt := topS 16
abbrev sIsAnyClause : Stmt := topS 17
abbrev sAreNames : Stmt := topS 18
abbrev sIsSight : Stmt := topS 19
abbrev sIsOwn : Stmt := topS 20
abbrev sAreOwns : Stmt := topS 21
abbrev sIsClauseOver : Stmt := topS 22
abbrev sAreClauses : Stmt := topS 23
abbrev sNamesOf : Stmt := topS 24
abbrev sFitsSaying : Stmt := topS 25
abbrev sRenewed : Stmt := topS 27
abbrev sWantSaying : Stmt := topS 28
abbrev sWantOwn : Stmt := topS 29
abbrev sWantPick : Stmt := topS 30
abbrev sViewersOf : Stmt := topS 32
abbrev sBeside : Stmt := topS 33
abbrev sAllReached : Stmt := topS 34
abbrev sPaperOf : Stmt := topS 35
abbrev sHangsBy : Stmt := topS 36
abbrev sAreLetters : Stmt := topS 37
abbrev sIsClosed : Stmt := topS 38
abbrev sIdleHolds : Stmt := topS 39
abbrev sIdlePaper : Stmt := topS 40
abbrev sPot : Stmt := topS 42
abbrev sDraw : Stmt := topS 43
abbrev sLNames : Stmt := topS 44
abbrev sLPart : Stmt := topS 45
abbrev sLOwns : Stmt := topS 46
abbrev sLClause : Stmt := topS 47
abbrev sLSaying : Stmt := topS 48
abbrev sLChained : Stmt := topS 49
abbrev sLViewers : Stmt := topS 50
abbrev sLReached : Stmt := topS 51
abbrev sLHangs : Stmt := topS 52
abbrev sLBrought : Stmt := topS 53
abbrev sLIsPaper : Stmt := topS 54
abbrev sLWider : Stmt := topS 55
abbrev sLSame : Stmt := topS 56
abbrev sLNear : Stmt := topS 57
abbrev sLValues : Stmt := topS 58
abbrev sLRight : Stmt := topS 59
abbrev sLaw : Stmt := topS 60
end S1

set_option Elab.async false
set_option linter.all false
set_option maxRecDepth 100000
set_option maxHeartbeats 4000000
namespace S1
open PySem PySem.Spec PyProof.Rows L2
/-- the built-in names that the text leaves as they are -/
structure Blt (mg : Str → Option Value) : Prop where
  len : mg "len" = none
  sum : mg "sum" = none
  int : mg "int" = none
  max : mg "max" = none
  min : mg "min" = none
  abs : mg "abs" = none
  str : mg "str" = none
  bool : mg "bool" = none
  dict : mg "dict" = none
  list : mg "list" = none
  set : mg "set" = none
  tuple : mg "tuple" = none
  sorted : mg "sorted" = none
  zip : mg "zip" = none
  all : mg "all" = none
  range : mg "range" = none
  isi : mg "isinstance" = none
/-- a def as the text leaves it: at f, under its name -/
structure Has (K : PySem.W.Frag) (mg : Str → Option Value) (x : Str) (st : Stmt) (ps : List Str) (f : Addr) (fd : FuncData) : Prop where
  F : Fun K x x st f fd
  g : mg x = some (.ref f)
  b : Binds K fd ps []
/-- the draws of one cell at p: the digits left, the mixed number, how many have been mixed -/
structure Src (H : Hp) (p : Addr) (c : Nat) : Prop where
  at_ : ∃ a b d : Int, H p = some (.lst [.int a, .int b, .int d]) ∧ 0 ≤ b ∧ b < 2 ^ 120 ∧ 0 ≤ d ∧ d ≤ c
theorem Src.mono {H H' : Hp} {p : Addr} {c c' : Nat} (h : Src H p c) (e : H' p = H p) (hc : c ≤ c') : Src H' p c' := by
  obtain ⟨a, b, d, h1, h2, h3, h4, h5⟩ := h
  exact ⟨a, b, d, e.trans h1, h2, h3, h4, by omega⟩
theorem Src.ne {H : Hp} {p l : Addr} {c : Nat} (h : Src H p c) (e : H l = none) : p ≠ l := by
  obtain ⟨a, b, d, h1, _⟩ := h
  exact ne_of_none h1 e
theorem same_new {H : Hp} {p : Addr} {o : HO} (h : H p = none) : Same H (upd H p o) := fun b u e => by
  rw [upd_ne (ne_of_none e h)]
  exact e
theorem same_upd {H H' : Hp} {p : Addr} {o : HO} (s : Same H H') (h : H p = none) : Same H (upd H' p o) := fun b u e => by
  rw [upd_ne (ne_of_none e h)]
  exact s _ _ e
theorem yes_of {σ : L2.St} {H : Hp} {A B : Hp → Prop} (h : A H) : tYes σ H (fun b H3 => if b = true then A H3 else B H3) := by
  show if true = true then A H else B H
  rw [if_pos rfl]
  exact h
theorem at_ok {xs : List V} {r : Int} (h0 : 0 ≤ r) (h1 : r < xs.length) : ∃ v, atI xs r = some v ∧ v ∈ xs ∧ xs[r.toNat]? = some v := by
  have hl : r.toNat < xs.length := by omega
  refine ⟨xs[r.toNat], ?_, List.getElem_mem _, List.getElem?_eq_getElem hl⟩
  have z := atI_nat (List.getElem?_eq_getElem hl)
  rw [Int.toNat_of_nonneg h0] at z
  exact z
def spPot (K : PySem.W.Frag) : Sp := fun vs H Q _ => ∃ (a : Addr) (ns : List Int) (k : Int), vs = [.ref a, .int k] ∧ SqL K H a (ns.map V.int) ∧ ns.length ≤ 63 ∧ 0 ≤ k ∧ k < 1000 ∧
  ∀ (p : Addr) (H' : Hp), H p = none → Same H H' → Src H' p 0 → Q (.ref p) H'
def spPick : Sp := fun vs H Q _ => ∃ (p : Addr) (c : Nat) (m : Int), vs = [.ref p, .int m] ∧ Src H p c ∧ c ≤ 100000 ∧ 0 < m ∧ m < 2 ^ 100 ∧
  ∀ (r : Int) (o : HO), 0 ≤ r → r < m → Src (upd H p o) p (c + 1) → Q (.int r) (upd H p o)
theorem len_ints {ns : List Int} : (ns.map V.int).length = ns.length := List.length_map ..
theorem get_ints {ns : List Int} {i : Nat} {x : V} (h : (ns.map V.int)[i]? = some x) : ∃ z, ns[i]? = some z ∧ x = V.int z := by
  rw [List.getElem?_map] at h
  cases e : ns[i]? with
  | none => rw [e] at h; cases h
  | some z => rw [e] at h; exact ⟨z, rfl, (Option.some.inj h).symm⟩
theorem ite_int {c : Prop} [Decidable c] {ta tb : TE} {σ : L2.St} {H : Hp} {Q : VK} (R : ∀ i : Int, Q (.int i) H) (h1 : c → (∀ i : Int, Q (.int i) H) → ta σ H Q) (h2 : ¬ c → (∀ i : Int, Q (.int i) H) → tb σ H Q) : if c then ta σ H Q else tb σ H Q := by
  by_cases h : c
  · rw [if_pos h]; exact h1 h R
  · rw [if_neg h]; exact h2 h R
/-- powers of wide numbers -/
def CPowW (i j : Int) : Prop := 0 ≤ j ∧ (Builtin.Int.intBits i : Int) * j ≤ 2 ^ 27
theorem op_powW {X : Cx} : OpR X (binaryOp .Pow) (rI CPowW fun i j => .int (i ^ j.toNat)) := opI fun _ _ _ _ _ _ _ hc q => pow_int hc.1 hc.2 q
abbrev mx (b d : Int) : Int := ((b + 86028121 * d) ^ (3 : Int).toNat + 17 * d) % (10 ^ (38 : Int).toNat + 133)
abbrev my (x d : Int) : Int := (x * x + 49979687 * d) % (10 ^ (37 : Int).toNat + 43)
theorem mx_lt (b d : Int) : 0 ≤ mx b d ∧ (mx b d).natAbs < 2 ^ 127 := by
  have m : (0 : Int) < 10 ^ (38 : Int).toNat + 133 := by decide +kernel
  have n : (10 : Int) ^ (38 : Int).toNat + 133 ≤ 2 ^ 127 := by decide +kernel
  have h0 : 0 ≤ mx b d := Int.emod_nonneg _ (by omega)
  have h1 : mx b d < 2 ^ 127 := Int.lt_of_lt_of_le (Int.emod_lt_of_pos _ m) n
  exact ⟨h0, by omega⟩
section
variable {P : Program} {w : World} {K : PySem.W.Frag} {mg : Str → Option Value} {base : Heap}
theorem scPot : FnScope ["script", "k", "cell", "total", "at", "other"] ["script", "k"] (defScope sPot) := ⟨rfl, rfl, rfl, by decide +kernel, rfl, by decide +kernel, by decide +kernel⟩
theorem scDraw : FnScope ["pot", "top", "found", "mixed"] ["pot", "top"] (defScope sDraw) := ⟨rfl, rfl, rfl, by decide +kernel, rfl, by decide +kernel, by decide +kernel⟩
theorem ok_pick {f : Addr} {fd : FuncData} (F : Fun K "_law_draw" "_law_draw" sDraw f fd) (B : Blt mg) : FnOk P w K mg base CX0 1 f fd ["pot", "top"] spPick := by
  refine F.ok scDraw (fun vs H Q E h => ?_) (fun cdv A outer s H vs Q E hr h => ?_)
  · obtain ⟨p, c, m, rfl, _⟩ := h
    rfl
  · obtain ⟨p, c, m, rfl, ⟨a, b, d, hp, hb0, hb1, hd0, hd1⟩, hc, hm0, hm1, q⟩ := h
    refine ⟨_, pss_cons (ps_if (pt_cmpR op_gt (pe_ix ix_list (pv 0) pe_int (fun _ _ => rfl)) pe_int (nomark _))
        (pss_cons (ps_set (i := 2) scDraw.nd rfl (.inl rfl) (pe_op op_mod (pe_callTy call_int1 (by rfl) B.int (by decide +kernel) (pa_cons (pe_ix ix_list (pv 0) pe_int (fun _ _ => rfl)) pa_nil)) (pv 1)))
        (pss_cons (ps_asg (pe_op op_fdivW (pe_ix ix_list (pv 0) pe_int (fun _ _ => rfl)) (pv 1)) (pg_sub (pv 0) pe_int set_list))
        (pss_one (ps_ret (pv 2))))) pss_nil)
      (pss_cons (ps_asg (pe_op op_add (pe_ix ix_list (pv 0) pe_int (fun _ _ => rfl)) pe_int) (pg_sub (pv 0) pe_int set_list))
      (pss_cons (ps_set (i := 3) scDraw.nd rfl (.inl rfl) (pe_op op_mod (pe_callTy call_int1 (by rfl) B.int (by decide +kernel)
          (pa_cons (pe_op op_add (pe_op op_powW (pe_op op_add (pe_ix ix_list (pv 0) pe_int (fun _ _ => rfl)) (pe_op op_mulW pe_int (pe_ix ix_list (pv 0) pe_int (fun _ _ => rfl)))) pe_int) (pe_op op_mulW pe_int (pe_ix ix_list (pv 0) pe_int (fun _ _ => rfl)))) pa_nil))
          (pe_op op_add (pe_op op_pow pe_int pe_int) pe_int)))
      (pss_cons (ps_set (i := 3) scDraw.nd rfl (.inl rfl) (pe_op op_mod (pe_callTy call_int1 (by rfl) B.int (by decide +kernel)
          (pa_cons (pe_op op_add (pe_op op_mulW (pv 3) (pv 3)) (pe_op op_mulW pe_int (pe_ix ix_list (pv 0) pe_int (fun _ _ => rfl)))) pa_nil)) (pe_op op_add (pe_op op_pow pe_int pe_int) pe_int)))
      (pss_one (ps_ret (pe_op op_mod (pe_callTy call_int1 (by rfl) B.int (by decide +kernel) (pa_cons (pe_op op_fdiv (pv 3) pe_int) pa_nil)) (pv 1))))))), ?_⟩
    have hh := SqL.of (K := K) hp
    refine ⟨_, rfl, p, _, 0, _, rfl, rfl, hh, rfl, _, _, rfl, rfl, _, rfl, ?_⟩
    refine ite2 (fun ha => ?_) (fun _ => ?_)
    · have ha0 : 0 < a := of_decide_eq_true ha
      refine ⟨_, rfl, p, _, 0, _, rfl, rfl, hh, rfl, .inl ⟨_, rfl, _, rfl, _, _, rfl, rfl, hm0, ?_⟩⟩
      refine ⟨_, rfl, p, _, 0, _, rfl, rfl, hh, rfl, _, rfl, _, _, rfl, rfl, wide_div (b := 100) hm0 (by omega) (by decide) (by decide), _, rfl, p, _, 0, 0, rfl, rfl, hp, rfl, _, rfl, ?_⟩
      exact q _ _ (Int.emod_nonneg _ (by omega)) (Int.emod_lt_of_pos _ hm0) ⟨_, _, _, upd_same, hb0, hb1, hd0, by omega⟩
    · refine ⟨_, rfl, p, _, 2, _, rfl, rfl, hh, rfl, _, _, rfl, rfl, _, rfl, p, _, 2, 2, rfl, rfl, hp, rfl, ?_⟩
      have hp' : (upd H p (HO.lst ([V.int a, V.int b, V.int d].set 2 (V.int (d + 1))))) p = some (.lst [V.int a, V.int b, V.int (d + 1)]) := upd_same
      have hh' := SqL.of (K := K) hp'
      have m38 : (0 : Int) < 10 ^ (38 : Int).toNat + 133 := by decide +kernel
      have m37 : (0 : Int) < 10 ^ (37 : Int).toNat + 43 := by decide +kernel
      have e2 : (d + 1).natAbs < 2 ^ 20 := by omega
      have g1 : (b + 86028121 * (d + 1)).natAbs < 2 ^ 121 := by omega
      have g2 : (Builtin.Int.intBits (b + 86028121 * (d + 1)) : Int) * 3 ≤ 2 ^ 27 := by
        have := intBits_le_iff.mpr g1
        omega
      refine ⟨_, rfl, p, _, 1, _, rfl, rfl, hh', rfl, _, rfl, p, _, 2, _, rfl, rfl, hh', rfl, _, _, rfl, rfl, wide_mul (a := 30) (b := 20) (by decide) e2 (by decide) (by decide) (by decide), _, _, rfl, rfl, _, _, rfl, rfl, ⟨by decide, g2⟩,
        _, rfl, p, _, 2, _, rfl, rfl, hh', rfl, _, _, rfl, rfl, wide_mul (a := 30) (b := 20) (by decide) e2 (by decide) (by decide) (by decide), _, _, rfl, rfl, .inl ⟨_, rfl, ?_⟩⟩
      refine ⟨_, _, rfl, rfl, ⟨by decide, by decide, by decide⟩, _, _, rfl, rfl, _, _, rfl, rfl, m38, ?_⟩
      obtain ⟨_, f1⟩ := mx_lt b (d + 1)
      refine ⟨_, rfl, _, rfl, _, _, rfl, rfl, wide_mul (a := 127) (b := 127) f1 f1 (by decide) (by decide) (by decide), _, rfl, p, _, 2, _, rfl, rfl, hh', rfl, _, _, rfl, rfl, wide_mul (a := 30) (b := 20) (by decide) e2 (by decide) (by decide) (by decide), _, _, rfl, rfl, .inl ⟨_, rfl, ?_⟩⟩
      refine ⟨_, _, rfl, rfl, ⟨by decide, by decide, by decide⟩, _, _, rfl, rfl, _, _, rfl, rfl, m37, ?_⟩
      refine ⟨_, rfl, _, _, rfl, rfl, ⟨by decide, by decide⟩, .inl ⟨_, rfl, _, rfl, _, _, rfl, rfl, hm0, ?_⟩⟩
      exact q _ _ (Int.emod_nonneg _ (by omega)) (Int.emod_lt_of_pos _ hm0) ⟨_, _, _, upd_same, hb0, hb1, by omega, by omega⟩
theorem for_enum {K : PySem.W.Frag} {a : Addr} {xs : List V} {g : TG} {tb : TS} {D : Ends} {σ : L2.St} {H : Hp} (Pv : Nat → L2.St → Hp → Prop) (h0 : Pv 0 σ H) (hl : ∀ i σ H, i ≤ xs.length → Pv i σ H → SqL K H a xs)
    (hs : ∀ i x σ H T, xs[i]? = some x → H T = none → Pv i σ H → g (.ref T) σ (upd H T (.tup [.int (i : Nat), x])) fun σ2 H2 => tb { D with nx := Pv (i + 1), ct := Pv (i + 1), bk := D.nx } σ2 H2) (hd : ∀ σ H, Pv xs.length σ H → D.nx σ H) :
    ∃ W : Nat → Nat → L2.St → Hp → Prop, (∃ m, W 0 m σ H) ∧ ∀ i m σ H, W i m σ H →
      ((Ite K a).stop i H ∧ D.nx σ H) ∨ ((Ite K a).go i H ∧ ∃ N : L2.St → Hp → Prop, (∀ σ' H', N σ' H' → ∃ m', m' < m ∧ W (i + 1) m' σ' H') ∧ ∀ x H', (Ite K a).yld i H x H' → g x σ H' fun σ2 H2 => tb { D with nx := N, ct := N, bk := D.nx } σ2 H2) := by
  refine ⟨fun i m σ H => m = xs.length - i ∧ i ≤ xs.length ∧ Pv i σ H, ⟨xs.length, by simp, Nat.zero_le _, h0⟩, ?_⟩
  rintro i m σ H ⟨rfl, hi, p⟩
  have q := hl i σ H hi p
  by_cases hlt : i < xs.length
  · refine .inr ⟨⟨xs, xs[i], q, by simp [hlt]⟩, Pv (i + 1), fun σ' H' p' => ⟨xs.length - (i + 1), by omega, rfl, hlt, p'⟩, fun x H' y => ?_⟩
    obtain ⟨T, z, rfl, hT, rfl, y⟩ := y
    exact hs i z σ _ T (y xs q) hT p
  · have e : i = xs.length := by omega
    subst e
    exact .inl ⟨⟨xs, q, Nat.le_refl _⟩, hd _ _ p⟩
theorem ok_pot {f : Addr} {fd : FuncData} (F : Fun K "_law_pot" "_law_pot" sPot f fd) (B : Blt mg) (en : mg "enumerate" = none) : FnOk P w K mg base CX0 1 f fd ["script", "k"] (spPot K) := by
  refine F.ok scPot (fun vs H Q E h => ?_) (fun cdv A outer s H vs Q E hr h => ?_)
  · obtain ⟨a, ns, k, rfl, _⟩ := h
    rfl
  · obtain ⟨a, ns, k, rfl, hS, hlen, hk, hk1, q⟩ := h
    refine ⟨_, pss_cons (ps_set (i := 2) scPot.nd rfl (.inl rfl) (pe_ifExp (pt_cmpR op_lt (pv 1) (pe_callB call_len_seq (by rfl) B.len (by decide +kernel) (pa_cons (pv 0) pa_nil)) (nomark _))
        (pe_ix ix_list (pv 0) (pv 1) (fun _ _ => rfl)) (pe_op op_add (pe_op op_mul pe_int (pv 1)) pe_int)))
      (pss_cons (ps_set (i := 3) scPot.nd rfl (.inl rfl) (pe_callB call_len_seq (by rfl) B.len (by decide +kernel) (pa_cons (pv 0) pa_nil)))
      (pss_cons (ps_for PassesOwn.never rfl (pi_enum (by rfl) en (pa_cons (pv 0) pa_nil)) (pg_tup rfl (pgs_cons (pg_name (i := 4) scPot.nd rfl (.inl rfl)) (pgs_cons (pg_name (i := 5) scPot.nd rfl (.inl rfl)) pgs_nil)))
        (pss_one (ps_set (i := 3) scPot.nd rfl (.inl rfl) (pe_op op_mod (pe_callTy call_int1 (by rfl) B.int (by decide +kernel) (pa_cons (pe_op op_add (pe_op op_mul (pv 3) pe_int) (pe_op op_mul (pv 5) (pe_op op_add (pe_op op_mul pe_int (pv 4)) pe_int))) pa_nil))
          (pe_op op_add (pe_op op_pow pe_int pe_int) pe_int)))))
      (pss_one (ps_ret (pe_lst (pa_cons (pe_callB (call_max2 rfl) (by rfl) B.max (by decide +kernel) (pa_cons pe_int (pa_cons (pe_op op_sub (pv 2) (pe_op op_pow pe_int pe_int)) pa_nil)))
        (pa_cons (pe_op op_mod (pe_callTy call_int1 (by rfl) B.int (by decide +kernel) (pa_cons (pe_op op_add (pe_op op_add (pe_op op_add (pe_op op_mul (pv 2) pe_int) (pe_op op_mul (pv 3) pe_int)) (pe_op op_mul pe_int (pv 1))) pe_int) pa_nil))
            (pe_op op_add (pe_op op_pow pe_int pe_int) pe_int))
        (pa_cons pe_int pa_nil)))))))), ?_⟩
    have p33 : (0 : Int) < 10 ^ (33 : Int).toNat + 61 := by decide +kernel
    have p36 : (0 : Int) < 10 ^ (36 : Int).toNat + 67 := by decide +kernel
    have q36 : (10 : Int) ^ (36 : Int).toNat + 67 ≤ 2 ^ 120 := by decide +kernel
    refine ⟨_, rfl, _, rfl, _, _, rfl, .inl hS, _, _, rfl, rfl, _, rfl, ?_⟩
    refine ite_int (fun cell => ?_) (fun hlt R => ?_) (fun _ R => ?_)
    · refine ⟨_, rfl, a, _, rfl, .inl hS, ?_⟩
      refine ⟨_, rfl, a, _, rfl, hS, ?_⟩
      refine for_enum (K := K) (a := a) (xs := ns.map V.int) (fun i σ H' => ∃ (total : Int) (o4 o5 : Option V), σ = [some (.ref a), some (.int k), some (.int cell), some (.int total), o4, o5] ∧ Same H H') ⟨_, _, _, rfl, Same.refl _⟩ (fun i σ H' _ ⟨_, _, _, _, s⟩ => s.seq hS) ?_ ?_
      · rintro i x σ H' T0 hx hT0 ⟨total, o4, o5, rfl, s⟩
        obtain ⟨z, hz, rfl⟩ := get_ints hx
        have hi : i < ns.length := (List.getElem?_eq_some_iff.mp hz).1
        have s2 := s.trans (same_new (o := .tup [.int (i : Nat), .int z]) hT0)
        refine ⟨T0, _, rfl, SqT.of upd_same, rfl, _, _, rfl, _, _, rfl, rfl, ?_⟩
        exact ⟨_, rfl, _, _, rfl, rfl, .inr ⟨by decide, by decide⟩, _, rfl, _, rfl, _, _, rfl, rfl, .inl ⟨by decide, by decide⟩, _, _, rfl, rfl, _, _, rfl, rfl, .inr ⟨by omega, by omega⟩, _, _, rfl, rfl, .inl ⟨_, rfl, _, _, rfl, rfl, ⟨by decide, by decide, by decide⟩, _, _, rfl, rfl, _, _, rfl, rfl, p33, _, _, _, rfl, s2⟩⟩
      · rintro σ H' ⟨total, o4, o5, rfl, s⟩
        refine ⟨_, rfl, _, _, rfl, rfl, ⟨by decide, by decide, by decide⟩, _, _, rfl, rfl, _, _, rfl, _, rfl, _, _, rfl, rfl, .inr ⟨by decide, by decide⟩, _, rfl, _, _, rfl, rfl, .inr ⟨by decide, by decide⟩, _, _, rfl, rfl,
          _, rfl, _, _, rfl, rfl, .inl ⟨by decide, by decide⟩, _, _, rfl, rfl, _, _, rfl, rfl, .inl ⟨_, rfl, _, _, rfl, rfl, ⟨by decide, by decide, by decide⟩, _, _, rfl, rfl, _, _, rfl, rfl, p36, (by show 3 ≤ sizeLine; decide), fun p hp => ?_⟩⟩
        exact q p _ (s.free hp) (s.trans (same_new hp)) ⟨_, _, _, upd_same, Int.emod_nonneg _ (by omega), Int.lt_of_lt_of_le (Int.emod_lt_of_pos _ p36) q36, by decide, by decide⟩
    · have hlt' : k < ((ns.map V.int).length : Int) := of_decide_eq_true hlt
      rw [len_ints] at hlt'
      have hget : (ns.map V.int)[k.toNat]? = some (.int ns[k.toNat]) := by rw [List.getElem?_map, List.getElem?_eq_getElem (by omega)]; rfl
      have hat := atI_nat hget
      rw [Int.toNat_of_nonneg hk] at hat
      exact ⟨_, rfl, _, rfl, a, _, k, _, rfl, rfl, hS, hat, R _⟩
    · exact ⟨_, rfl, _, _, rfl, rfl, .inl ⟨by decide, by decide⟩, _, _, rfl, rfl, R _⟩
end
end S1

set_option Elab.async false
set_option linter.all false
set_option maxRecDepth 100000
set_option maxHeartbeats 4000000
/-! unlike names, drawn: the counting -/
namespace S1
open PySem PySem.Spec PyProof.Rows L2
/-- a name -/
structure Nm (x : Str) : Prop where
  lo : 1 ≤ x.length
  hi : x.length ≤ 8
  az : ∀ c ∈ x.cps.toList, 97 ≤ c ∧ c ≤ 122
def nmB (x : Str) : Bool := decide (1 ≤ x.length) && decide (x.length ≤ 8) && x.cps.toList.all fun c => decide (97 ≤ c ∧ c ≤ 122)
theorem nm_of {x : Str} (h : nmB x = true) : Nm x := by
  unfold nmB at h
  rw [Bool.and_eq_true, Bool.and_eq_true, decide_eq_true_eq, decide_eq_true_eq, List.all_eq_true] at h
  exact ⟨h.1.1, h.1.2, fun c hc => of_decide_eq_true (h.2 c hc)⟩
def resv : List Str := ["mine", "newone", "nobody", "notthere"]
def left0 : List Str := ["a", "b", "c", "x", "y", "z", "ab", "ba", "aa", "xy", "yx", "zz", "abc", "acb", "xyz", "zyx", "own", "owns"]
def left1 : List Str := ["pick", "picks", "zebra", "alpha", "omega", "abcdefg", "abcdefgh", "hgfedcba", "aaaaaaaa", "zzzzzzzz"]
def cnt (L F : List Str) : Nat := L.countP fun w => decide (w ∈ F)
theorem pop_perm {α : Type} (L : List α) (k : Nat) (h : k < L.length) : L.Perm (L[k] :: L.eraseIdx k) := by
  have e : L = L.take k ++ L[k] :: L.drop (k + 1) := by
    rw [← List.drop_eq_getElem_cons h, List.take_append_drop]
  have z : (L.take k ++ L[k] :: L.drop (k + 1)).Perm (L[k] :: (L.take k ++ L.drop (k + 1))) := List.perm_middle
  rw [← e, ← List.eraseIdx_eq_take_drop_succ] at z
  exact z
theorem cnt_cons (w : Str) (L F : List Str) : cnt (w :: L) F = cnt L F + if w ∈ F then 1 else 0 := by
  unfold cnt
  rw [List.countP_cons]
  by_cases h : w ∈ F <;> simp [h]
theorem cnt_pop (L F : List Str) (k : Nat) (h : k < L.length) : cnt L F = cnt (L.eraseIdx k) F + if L[k] ∈ F then 1 else 0 := by
  rw [← cnt_cons]
  exact (pop_perm L k h).countP_eq _
theorem cnt_snoc_out {L F : List Str} {w : Str} (h : w ∉ L) : cnt L (F ++ [w]) = cnt L F := by
  unfold cnt
  refine List.countP_congr fun x hx => ?_
  have ne : x ≠ w := fun e => h (e ▸ hx)
  simp [ne]
theorem cnt_snoc_le : ∀ {L F : List Str} {w : Str}, L.Nodup → cnt L (F ++ [w]) ≤ cnt L F + 1
  | [], F, w, _ => by simp [cnt]
  | x :: L, F, w, nd => by
    obtain ⟨n1, n2⟩ := List.nodup_cons.mp nd
    rw [cnt_cons, cnt_cons]
    by_cases e : x = w
    · subst e
      rw [cnt_snoc_out n1]
      by_cases h : x ∈ F <;> simp [h]
    · have ih := cnt_snoc_le (F := F) (w := w) n2
      have z : (x ∈ F ++ [w]) ↔ x ∈ F := by simp [e]
      by_cases h : x ∈ F <;> simp [z, h] <;> omega
/-- what is left to draw from, what was found, and how many turns are ahead -/
structure Pool (L F : List Str) (r : Nat) : Prop where
  nl : L.Nodup
  nf : F.Nodup
  vl : ∀ w ∈ L, Nm w ∧ w ∉ resv
  vf : ∀ w ∈ F, Nm w ∧ w ∉ resv
  room : 2 * r + cnt L F ≤ L.length
/-- the same within a turn, with a word in hand -/
structure Mid (L F : List Str) (w : Str) (r : Nat) : Prop where
  nl : L.Nodup
  nf : F.Nodup
  vl : ∀ w ∈ L, Nm w ∧ w ∉ resv
  vf : ∀ w ∈ F, Nm w ∧ w ∉ resv
  nw : Nm w
  b : 2 * r + cnt L F ≤ L.length + 2
  c : w ∈ F ∨ w ∈ resv → 2 * r + cnt L F ≤ L.length + 1
  d : w ∉ L ∨ 2 * r + cnt L F ≤ L.length + 1
theorem erase_of {L : List Str} (nl : L.Nodup) (k : Nat) (h : k < L.length) : (L.eraseIdx k).Nodup ∧ L[k] ∉ L.eraseIdx k ∧ (L.eraseIdx k).length + 1 = L.length ∧ ∀ w ∈ L.eraseIdx k, w ∈ L := by
  have p := pop_perm L k h
  obtain ⟨n1, n2⟩ := List.nodup_cons.mp (p.nodup_iff.mp nl)
  refine ⟨n2, n1, by rw [p.length_eq, List.length_cons], fun w hw => p.mem_iff.mpr (List.mem_cons_of_mem _ hw)⟩
theorem Pool.pop {L F : List Str} {r : Nat} (P : Pool L F (r + 1)) (k : Nat) (h : k < L.length) : Mid (L.eraseIdx k) F L[k] (r + 1) ∧ 2 * (r + 1) + cnt (L.eraseIdx k) F ≤ (L.eraseIdx k).length + 1 := by
  obtain ⟨e1, e2, e3, e4⟩ := erase_of P.nl k h
  have c := cnt_pop L F k h
  have room := P.room
  have z : 2 * (r + 1) + cnt (L.eraseIdx k) F ≤ (L.eraseIdx k).length + 1 := by
    by_cases hF : L[k] ∈ F
    · rw [if_pos hF] at c; omega
    · rw [if_neg hF] at c; omega
  exact ⟨⟨e1, P.nf, fun w hw => P.vl w (e4 w hw), P.vf, (P.vl _ (List.getElem_mem h)).1, by omega, fun _ => z, .inr z⟩, z⟩
theorem Mid.rand {L F : List Str} {w u : Str} {r : Nat} (M : Mid L F w r) (z : 2 * r + cnt L F ≤ L.length + 1) (hu : Nm u) : Mid L F u r := ⟨M.nl, M.nf, M.vl, M.vf, hu, by omega, fun _ => z, .inr z⟩
theorem Mid.more {L F : List Str} {w : Str} {r : Nat} (M : Mid L F w (r + 1)) (hw : w ∈ F ∨ w ∈ resv) : 0 < L.length ∧ ∀ (k : Nat) (h : k < L.length), Mid (L.eraseIdx k) F L[k] (r + 1) := by
  have c := M.c hw
  refine ⟨by omega, fun k h => ?_⟩
  obtain ⟨e1, e2, e3, e4⟩ := erase_of M.nl k h
  have cp := cnt_pop L F k h
  refine ⟨e1, M.nf, fun w hw => M.vl w (e4 w hw), M.vf, (M.vl _ (List.getElem_mem h)).1, ?_, fun hk => ?_, .inl e2⟩
  · split at cp <;> omega
  · rcases hk with hk | hk
    · rw [if_pos hk] at cp; omega
    · exact absurd hk (M.vl _ (List.getElem_mem h)).2
theorem Mid.done {L F : List Str} {w : Str} {r : Nat} (M : Mid L F w (r + 1)) (h1 : w ∉ F) (h2 : w ∉ resv) : Pool L (F ++ [w]) r := by
  refine ⟨M.nl, ?_, M.vl, fun x hx => ?_, ?_⟩
  · rw [List.nodup_append]
    refine ⟨M.nf, by simp, fun a ha b hb => ?_⟩
    cases List.mem_singleton.mp hb
    exact fun e => h1 (e ▸ ha)
  · rcases List.mem_append.mp hx with z | z
    · exact M.vf x z
    · cases List.mem_singleton.mp z
      exact ⟨M.nw, h2⟩
  · rcases M.d with z | z
    · rw [cnt_snoc_out z]
      have := M.b
      omega
    · have := cnt_snoc_le (F := F) (w := w) M.nl
      omega
theorem pool0 {r : Nat} (h : r ≤ 14) : Pool (left0 ++ left1) [] r := by
  refine ⟨by decide +kernel, List.nodup_nil, fun w hw => ?_, fun w hw => absurd hw (by simp), ?_⟩
  · have z : ((left0 ++ left1).all fun w => nmB w && !resv.contains w) = true := by decide +kernel
    have z2 := List.all_eq_true.mp z w hw
    rw [Bool.and_eq_true] at z2
    refine ⟨nm_of z2.1, fun m => ?_⟩
    have z3 := z2.2
    simp [m] at z3
  · have z : cnt (left0 ++ left1) [] = 0 := by decide +kernel
    have z2 : (left0 ++ left1).length = 28 := by decide +kernel
    rw [z, z2]
    omega
end S1

set_option Elab.async false
set_option linter.all false
set_option maxRecDepth 100000
set_option maxHeartbeats 4000000
/-! unlike names, drawn -/
namespace S1
open PySem PySem.Spec PyProof.Rows L2
def spWords : Sp := fun vs H Q _ => ∃ (p : Addr) (c n : Nat), vs = [.ref p, .int n] ∧ Src H p c ∧ c ≤ 90000 ∧ n ≤ 14 ∧
  ∀ (l : Addr) (ws : List Str) (H' : Hp), H l = none → H' l = some (.lst (ws.map V.str)) → ws.length = n → ws.Nodup → (∀ x ∈ ws, Nm x ∧ x ∉ resv) → Src H' p (c + 200) → Same (del H p) (del H' p) → Q (.ref l) H'
theorem branch {c : Prop} [Decidable c] {t u : TS} {D : Ends} {σ : L2.St} {H : Hp} (I : L2.St → Hp → Prop) (R : ∀ σ' H', I σ' H' → D.nx σ' H') (h1 : c → (∀ σ' H', I σ' H' → D.nx σ' H') → t D σ H)
    (h2 : ¬ c → (∀ σ' H', I σ' H' → D.nx σ' H') → u D σ H) : if c then t D σ H else u D σ H := by
  by_cases h : c
  · rw [if_pos h]; exact h1 h R
  · rw [if_neg h]; exact h2 h R
theorem seq_nat {r : Int} {n : Nat} (h0 : 0 ≤ r) (h1 : r < n) : seqIndex? r n = some r.toNat := by
  unfold seqIndex?
  simp
  omega
theorem map_erase {α β : Type} (f : α → β) : ∀ (l : List α) (k : Nat), (l.map f).eraseIdx k = (l.eraseIdx k).map f
  | [], _ => rfl
  | _ :: _, 0 => rfl
  | x :: l, k + 1 => by rw [List.map_cons, List.eraseIdx_cons_succ, List.eraseIdx_cons_succ, List.map_cons, map_erase f l k]
theorem sd_of {H H' : Hp} {p : Addr} (s : Same H H') : Same (del H p) (del H' p) := fun b u e => by
  by_cases z : b = p
  · rw [z, del_same] at e; cases e
  · rw [del_ne z] at e ⊢; exact s b u e
theorem sd_put {H H' : Hp} {p l : Addr} {o : HO} (s : Same (del H p) (del H' p)) (h : H l = none) : Same (del H p) (del (upd H' l o) p) := fun b u e => by
  by_cases z : b = p
  · rw [z, del_same] at e; cases e
  · have z2 := s b u e
    rw [del_ne z] at e z2 ⊢
    rw [upd_ne (ne_of_none e h)]
    exact z2
theorem sd_at {H H' : Hp} {p : Addr} {o : HO} (s : Same (del H p) (del H' p)) : Same (del H p) (del (upd H' p o) p) := fun b u e => by
  by_cases z : b = p
  · rw [z, del_same] at e; cases e
  · have z2 := s b u e
    rw [del_ne z] at z2 ⊢
    rw [upd_ne z]
    exact z2
abbrev sg (c : Nat) : Str := ⟨#[c]⟩
theorem joinL_one : ∀ cs : List Nat, TL.joinL [] ((cs.map sg).map TL.tl) = cs
  | [] => rfl
  | [c] => rfl
  | c :: d :: cs => by
    show TL.tl (sg c) ++ ([] ++ TL.joinL [] (((d :: cs).map sg).map TL.tl)) = c :: d :: cs
    rw [joinL_one (d :: cs)]
    rfl
theorem join_one (cs : List Nat) : Txt.join "" (cs.map sg) = ⟨cs.toArray⟩ := by
  refine TL.ext_tl ((congrArg TL.tl (TL.join_eq _ _)).trans ((TL.tl_join _ _).trans ?_))
  have e : TL.tl ("" : Str) = [] := by decide +kernel
  rw [e, joinL_one]
theorem nm_join {cs : List Nat} (h1 : 1 ≤ cs.length) (h2 : cs.length ≤ 8) (h3 : ∀ c ∈ cs, 97 ≤ c ∧ c ≤ 122) : Nm (Txt.join "" (cs.map sg)) := by
  rw [join_one]
  exact ⟨by simpa [Str.length] using h1, by simpa [Str.length] using h2, by simpa using h3⟩
theorem join_len (cs : List Nat) : ((cs.map sg).map (·.length)).sum = cs.length := by
  induction cs with
  | nil => rfl
  | cons c cs ih =>
    rw [List.map_cons, List.map_cons, List.sum_cons, ih, List.length_cons]
    show 1 + cs.length = cs.length + 1
    omega
theorem abc_at {r : Int} (h0 : 0 ≤ r) (h1 : r < 26) : atI ("abcdefghijklmnopqrstuvwxyz" : Str).cps.toList r = some (97 + r.toNat) := by
  have z : ∀ k, k < 26 → ("abcdefghijklmnopqrstuvwxyz" : Str).cps.toList[k]? = some (97 + k) := by decide +kernel
  have z2 := atI_nat (z r.toNat (by omega))
  rwa [Int.toNat_of_nonneg h0] at z2
theorem gen_heap {D : L2.St → Hp → Prop} {σ : L2.St} {G : Hp} (F : Hp → Prop) (h : F G) (k : ∀ G', F G' → D σ G') : D σ G := k G h
theorem or_split {c : Prop} [Decidable c] {u : TT} {σ : L2.St} {H : Hp} {Q : Bool → Hp → Prop} (R : Hp → Prop) (k : ∀ H', R H' → Q true H') (h1 : c → (∀ H', R H' → Q true H') → Q true H) (h2 : ¬ c → (∀ H', R H' → Q true H') → u σ H Q) : if c then Q true H else u σ H Q := by
  by_cases h : c
  · rw [if_pos h]; exact h1 h k
  · rw [if_neg h]; exact h2 h k
theorem inV_str {x : Str} {xs : List Str} : inV (.str x) (xs.map V.str) = decide (x ∈ xs) := by
  unfold inV
  rw [List.any_map]
  by_cases h : x ∈ xs
  · rw [decide_eq_true h, List.any_eq_true]
    exact ⟨x, h, by simp [eqV]⟩
  · rw [decide_eq_false h, List.any_eq_false]
    intro y hy
    simp only [Function.comp, eqV]
    intro z
    have z2 : y = x := by simpa using z
    exact h (z2 ▸ hy)
theorem flat_strs (xs : List Str) : (xs.map V.str).all flatV = true := by
  rw [List.all_map, List.all_eq_true]
  exact fun _ _ => rfl
end S1

set_option Elab.async false
set_option linter.all false
set_option maxRecDepth 100000
set_option maxHeartbeats 4000000
/-! clauses, drawn -/
namespace S1
open PySem PySem.W PySem.Spec PyProof.Rows L2
theorem lst_ne_tup {xs ys : List V} : HO.lst xs ≠ HO.tup ys := fun z => by cases z
mutual
/-- tuples stay what they are while a list changes -/
theorem dat_del {H H' : Hp} {p : Addr} {xs : List V} (hp : H p = some (.lst xs)) (s : Same (del H p) (del H' p)) : ∀ {v : V} {d : PyData}, keyable d = true → Dat H v d → Dat H' v d
  | _, _, _, .non => .non
  | _, _, _, .bl b => .bl b
  | _, _, _, .int i => .int i
  | _, _, _, .str x => .str x
  | _, _, k, .lst e h => by simp [keyable] at k
  | _, _, k, .tup (a := a) e h => by
    have ne : a ≠ p := fun z => by rw [z, hp] at e; cases e
    have z := s a _ (by rw [del_ne ne]; exact e)
    rw [del_ne ne] at z
    exact .tup z (dats_del hp s (by simpa [keyable] using k) h)
  | _, _, k, .dct e h => by simp [keyable] at k
theorem dats_del {H H' : Hp} {p : Addr} {xs : List V} (hp : H p = some (.lst xs)) (s : Same (del H p) (del H' p)) : ∀ {vs : List V} {ds : List PyData}, keyables ds = true → DatAll H vs ds → DatAll H' vs ds
  | _, _, _, .nil => .nil
  | _, _, k, .cons h t => by
    rw [keyables, Bool.and_eq_true] at k
    exact .cons (dat_del hp s k.1 h) (dats_del hp s k.2 t)
end
theorem Src.lst {H : Hp} {p : Addr} {c : Nat} (h : Src H p c) : ∃ xs, H p = some (.lst xs) := by
  obtain ⟨_, _, _, z, _⟩ := h.at_
  exact ⟨_, z⟩
theorem dat_src {H H' : Hp} {p : Addr} {c : Nat} (h : Src H p c) (s : Same (del H p) (del H' p)) {v : V} {d : PyData} (k : keyable d = true) (D : Dat H v d) : Dat H' v d := by
  obtain ⟨xs, z⟩ := h.lst
  exact dat_del z s k D
theorem dat_upd {H : Hp} {p : Addr} {o : HO} {xs : List V} (hp : H p = some (.lst xs)) {v : V} {d : PyData} (k : keyable d = true) (D : Dat H v d) : Dat (upd H p o) v d := dat_del hp (sd_at (Same.refl _)) k D
theorem dat_new {H : Hp} {p : Addr} {o : HO} (hp : H p = none) {v : V} {d : PyData} (D : Dat H v d) : Dat (upd H p o) v d := D.same (same_new hp)
/-! ### letters and clauses, as data -/
abbrev Ltr := Str × Bool
def ltD (l : Ltr) : PyData := .tuple [.str l.1, .bool l.2]
def clD (cl : List Ltr) : PyData := .tuple (cl.map ltD)
theorem keyable_lt (l : Ltr) : keyable (ltD l) = true := rfl
theorem keyables_map {α : Type} (f : α → PyData) (h : ∀ x, keyable (f x) = true) : ∀ l : List α, keyables (l.map f) = true
  | [] => rfl
  | x :: l => by rw [List.map_cons, keyables, h x, keyables_map f h l]; rfl
theorem keyable_cl (cl : List Ltr) : keyable (clD cl) = true := by
  show keyables (cl.map ltD) = true
  exact keyables_map ltD keyable_lt cl
theorem alike_lt (a b : Ltr) : alike (ltD a) (ltD b) = true := by simp [ltD, alike, alikeAll]
theorem alikes_map {α : Type} (f : α → PyData) (h : ∀ x y, alike (f x) (f y) = true) : ∀ l m : List α, alikeAll (l.map f) (m.map f) = true
  | [], _ => by simp [alikeAll]
  | _ :: _, [] => by simp [alikeAll]
  | x :: l, y :: m => by simp only [List.map_cons, alikeAll, h x y, alikes_map f h l m, Bool.and_self]
theorem alike_cl (a b : List Ltr) : alike (clD a) (clD b) = true := by
  show alikeAll (a.map ltD) (b.map ltD) = true
  exact alikes_map ltD alike_lt a b
/-- one text below another -/
def tlt (x y : Str) : Prop := x.cps.toList < y.cps.toList
theorem lt_letters {a b : Ltr} (ne : a.1 ≠ b.1) (h : dataLt (ltD a) (ltD b) = true) : tlt a.1 b.1 := by
  unfold ltD at h
  rw [dataLt_pair (by simp [alike]) (by simp [alike])] at h
  have e : PyData.eqv (.str a.1) (.str b.1) = false := by
    simp only [PyData.eqv]
    exact beq_false_of_ne ne
  rw [e, if_neg (by decide), dataLt_str] at h
  rw [decide_eq_true_eq] at h
  exact h
/-- what a drawn clause is -/
structure ClOk (ws : List Str) (cl : List Ltr) : Prop where
  up : cl.Pairwise fun a b => tlt a.1 b.1
  mem : ∀ l ∈ cl, l.1 ∈ ws
theorem depth_lt (l : Ltr) : (ltD l).depth ≤ 1 := by simp [ltD, PyData.depth, PyData.depthAll]
theorem depths_map {α : Type} (f : α → PyData) (n : Nat) (h : ∀ x, (f x).depth ≤ n) : ∀ l : List α, PyData.depthAll (l.map f) ≤ n
  | [] => by simp [PyData.depthAll]
  | x :: l => by
    have := h x
    have := depths_map f n h l
    simp only [List.map_cons, PyData.depthAll]
    omega
theorem depth_cl (cl : List Ltr) : (clD cl).depth ≤ 2 := by
  have := depths_map ltD 1 depth_lt cl
  simp only [clD, PyData.depth]
  omega
def spClause : Sp := fun vs H Q _ => ∃ (p lw : Addr) (c : Nat) (ws : List Str), vs = [.ref p, .ref lw] ∧ Src H p c ∧ c ≤ 90000 ∧ H lw = some (.lst (ws.map V.str)) ∧ ws.Nodup ∧ ws.length ≤ 100 ∧ p ≠ lw ∧
  ∀ (v : V) (cl : List Ltr) (H' : Hp), Dat H' v (clD cl) → ClOk ws cl → Src H' p (c + 202) → Same (del H p) (del H' p) → Q v H'
theorem ite_intP {c : Prop} [Decidable c] {ta tb : TE} {σ : L2.St} {H : Hp} {Q : VK} (I : Int → Prop) (R : ∀ i : Int, I i → Q (.int i) H) (h1 : c → (∀ i : Int, I i → Q (.int i) H) → ta σ H Q) (h2 : ¬ c → (∀ i : Int, I i → Q (.int i) H) → tb σ H Q) : if c then ta σ H Q else tb σ H Q := by
  by_cases h : c
  · rw [if_pos h]; exact h1 h R
  · rw [if_neg h]; exact h2 h R
theorem sd_new {H H' : Hp} {p l : Addr} {o : HO} (s : Same (del H p) (del H' p)) (hl : H' l = none) (n : l ≠ p) : Same (del H p) (del (upd H' l o) p) := by
  refine sd_put s ?_
  cases z : H l with
  | none => rfl
  | some u =>
    have z2 := s l u (by rw [del_ne n]; exact z)
    rw [del_ne n, hl] at z2
    cases z2
theorem sd_free {H H' : Hp} {p l : Addr} (s : Same (del H p) (del H' p)) (hl : H' l = none) (n : l ≠ p) : H l = none := by
  cases z : H l with
  | none => rfl
  | some u =>
    have z2 := s l u (by rw [del_ne n]; exact z)
    rw [del_ne n, hl] at z2
    cases z2
theorem dats_rows {H : Hp} : ∀ {T : List TRow}, (∀ q ∈ T, Dat H q.v q.2) → DatAll H (T.map TRow.v) (T.map Prod.snd)
  | [], _ => .nil
  | q :: T, h => .cons (h q List.mem_cons_self) (dats_rows fun r hr => h r (List.mem_cons_of_mem _ hr))
theorem sorty_of {α : Type} {f : α → PyData} {T : List TRow} {l : List α} (e : T.map Prod.snd = l.map f) (al : ∀ x y, alike (f x) (f y) = true) (tp : ∀ x, ∃ xs, f x = .tuple xs) (dp : ∀ x, (f x).depth ≤ 8) : Sorty T := by
  have z : ∀ p ∈ T, ∃ x, p.2 = f x := fun p hp => by
    have m : p.2 ∈ l.map f := e ▸ List.mem_map_of_mem hp
    obtain ⟨x, _, hx⟩ := List.mem_map.mp m
    exact ⟨x, hx.symm⟩
  refine ⟨fun d hd d' hd' => ?_, fun p hp => ?_, fun p hp => ?_⟩
  · rw [e] at hd hd'
    obtain ⟨x, _, rfl⟩ := List.mem_map.mp hd
    obtain ⟨y, _, rfl⟩ := List.mem_map.mp hd'
    exact al x y
  · obtain ⟨x, hx⟩ := z p hp
    rw [hx]; exact tp x
  · obtain ⟨x, hx⟩ := z p hp
    rw [hx]; exact dp x
/-- the letters of sorted rows -/
theorem letters_back {T T' : List TRow} {cl : List Ltr} (pm : T'.Perm T) (e : T.map Prod.snd = cl.map ltD) (nd : (cl.map Prod.fst).Nodup) (up : (T.map Prod.snd).Nodup → T'.Pairwise fun p q => dataLt p.2 q.2 = true) :
    ∃ cl' : List Ltr, cl'.Perm cl ∧ T'.map Prod.snd = cl'.map ltD ∧ cl'.Pairwise fun a b => tlt a.1 b.1 := by
  obtain ⟨cl', p2, e2⟩ := perm_back (f := ltD) ((pm.map Prod.snd).trans (.of_eq e)) cl rfl
  have nl : cl.Nodup := nodup_of_map nd
  have nT : (T.map Prod.snd).Nodup := by
    rw [e]
    refine List.pairwise_map.mpr (nl.imp fun {a b} ne z => ne ?_)
    unfold ltD at z
    injection z with z
    injection z with z1 z2
    injection z1 with z1
    injection z2 with z2
    injection z2 with z2
    exact Prod.ext z1 z2
  have u1 : (T'.map Prod.snd).Pairwise fun d e => dataLt d e = true := List.pairwise_map.mpr (up nT)
  rw [e2] at u1
  have nd' : (cl'.map Prod.fst).Nodup := ((p2.map Prod.fst).nodup_iff).mpr nd
  exact ⟨cl', p2, e2, ((List.pairwise_map.mp u1).and (List.pairwise_map.mp nd')).imp fun {a b} z => lt_letters z.2 z.1⟩
end S1

set_option Elab.async false
set_option linter.all false
set_option maxRecDepth 100000
set_option maxHeartbeats 4000000
/-! sorted(list) of texts, and the data of sayings -/
namespace S1
open PySem PySem.W PySem.Spec PyProof.Rows L2
abbrev RS (v : Value) (x : Str) : Prop := RelV (.str x) v
theorem each_strs : ∀ {xs : List Str} {us : List Value}, Vals (xs.map V.str) us → EachIs RS us xs
  | [], _, .nil => .nil
  | _ :: _, _, .cons r t => .cons r (each_strs t)
theorem strs_each : ∀ {us : List Value} {xs : List Str}, EachIs RS us xs → Vals (xs.map V.str) us
  | _, _, .nil => .nil
  | _, _, .cons r t => .cons r (strs_each t)
theorem each_reads {h : Heap} : ∀ {us : List Value} {xs : List Str}, EachIs RS us xs → EachIs (fun v x => ∃ as, Reads h v (.str x) as) us xs
  | _, _, .nil => .nil
  | _, _, .cons r t => .cons (by obtain ⟨k, rfl⟩ := r; exact ⟨_, .str _ k⟩) (each_reads t)
def sortW (xs : List Str) : List Str := xs.mergeSort (dataLe false PyData.str)
theorem sortW_up {xs : List Str} (nd : xs.Nodup) : (sortW xs).Pairwise tlt := by
  have srt : (sortW xs).Pairwise fun p q => dataLe false PyData.str p q = true := sort_pairwise (sortLe_total (listOrd itemOrd) false fun p : Str => keyToks (.str p)) xs
  have nd' : (sortW xs).Nodup := (List.mergeSort_perm _ _).nodup_iff.mpr nd
  refine (srt.and nd').imp fun {p q} z => ?_
  have al : alike (.str p) (.str q) = true := by simp [alike]
  have ne : PyData.str p ≠ PyData.str q := fun e => z.2 (by injection e)
  rcases dataLt_or al ne with c | c
  · rw [dataLt_str, decide_eq_true_eq] at c
    exact c
  · have z3 : (!dataLt (.str q) (.str p)) = true := z.1
    rw [c] at z3
    exact absurd z3 (by decide)
section
variable {X : Cx}
/-- sorted(xs), xs a list of texts -/
def rSortW (K : PySem.W.Frag) : List V → Hp → VK → Prop := fun vs H Q => ∃ (l : Addr) (xs : List Str), vs = [V.ref l] ∧ SqL K H l (xs.map V.str) ∧
  ∀ (ys : List Str) (b : Addr), ys.Perm xs → (xs.Nodup → ys.Pairwise tlt) → H b = none → Q (.ref b) (upd H b (.lst (ys.map V.str)))
theorem cr_sortW (hu : X.A.units + 64 < cLine) : CallR X (.builtin "sorted") (rSortW X.K) := by
  intro pins s σ H vs us Q I r h
  obtain ⟨l, xs, rfl, hl, q⟩ := h
  rw [Vals.ref1 r]
  obtain ⟨its, rv, pl, hz⟩ := I.list hl
  have e0 := each_strs rv
  have rd := each_reads (h := sortingHeap (copyHeap s.heap its) (s.heap.objs.size + 1) its) e0
  have al : AllAlike (xs.map PyData.str) := AllAlike.of fun b b' => by simp [alike]
  have un : ∀ d, d ∈ xs.map PyData.str → X.A.in1.in1.units + d.depth < cLine := fun d z => by
    obtain ⟨p, _, rfl⟩ := List.mem_map.mp z
    simp only [Around.in1_units, PyData.depth]
    omega
  have srt := SortsAt.data (prog := X.prog) (w := X.w) (A := X.A.in1.in1) (s := { s with heap := sortingHeap (copyHeap s.heap its) (s.heap.objs.size + 1) its }) (each_map (R := fun v d => ∃ as, Reads _ v d as) PyData.str rd) al
    (Sortable.others fun b => ⟨fun z => (nomatch z), fun _ z => (nomatch z)⟩) un
  have out := strs_each (sortVals_data (R := RS) (enc := PyData.str) false e0 rd al)
  rw [List.length_map] at hz
  have len : its.length = xs.length := by rw [e0.length]
  refine sorted_vals pl.isList srt (by rw [len]; exact hz) ?_
  obtain ⟨c, hc⟩ := PyProof.Rows.sortedAll_at s.heap its (sortVals (dataKind (sortingHeap (copyHeap s.heap its) (s.heap.objs.size + 1) its) (xs.map PyData.str)) false its its).toArray
  have fresh : H (s.heap.objs.size + 1) = none := I.hok.fresh (Nat.le_succ _)
  have pm : (sortW xs).Perm xs := List.mergeSort_perm _ _
  exact ⟨.ref _, upd H (s.heap.objs.size + 1) (.lst ((sortW xs).map V.str)), I.laid (t' := s.toks) (fun _ _ => PyProof.Rows.sortedAll_old) (Nat.le_succ _) ⟨by rw [List.length_map, pm.length_eq]; exact hz, _, c, out, hc⟩, rfl,
    q (sortW xs) _ pm sortW_up fresh⟩
end
/-! ### the data of sayings -/
abbrev Own := Str × List Str
def nmsD (xs : List Str) : PyData := .tuple (xs.map .str)
def ownD (o : Own) : PyData := .tuple [.str o.1, nmsD o.2]
structure Say where
  picks : List Str
  owns : List Own
  cls : List (List Ltr)
def Say.d (s : Say) : PyData := .tuple [nmsD s.picks, .tuple (s.owns.map ownD), .tuple (s.cls.map clD)]
def Say.names (s : Say) : List Str := s.picks ++ s.owns.map Prod.fst
def copies (os : List Own) : Nat := (os.map fun o => 2 ^ o.2.length).sum
/-- a saying of at most so many picks, owns, copies, clauses -/
structure SayOk (a b c d : Nat) (s : Say) : Prop where
  pu : s.picks.Pairwise tlt
  pn : ∀ x ∈ s.picks, Nm x
  pl : s.picks.length ≤ a
  ou : s.owns.Pairwise fun x y => tlt x.1 y.1
  on : ∀ o ∈ s.owns, Nm o.1 ∧ o.1 ∉ s.picks ∧ o.2.Pairwise tlt ∧ ∀ x ∈ o.2, x ∈ s.picks
  ol : s.owns.length ≤ b
  oc : copies s.owns ≤ c
  cu : s.cls.Pairwise fun x y => dataLt (clD x) (clD y) = true
  ck : ∀ cl ∈ s.cls, ClOk s.names cl
  cl : s.cls.length ≤ d
theorem alike_nms (a b : List Str) : alike (nmsD a) (nmsD b) = true := by
  show alikeAll (a.map .str) (b.map .str) = true
  exact alikes_map PyData.str (fun _ _ => by simp [alike]) a b
theorem alike_own (a b : Own) : alike (ownD a) (ownD b) = true := by
  simp only [ownD, alike, alikeAll, alike_nms, Bool.and_self, Bool.and_true]
theorem depth_nms (a : List Str) : (nmsD a).depth ≤ 1 := by
  have := depths_map PyData.str 0 (fun _ => Nat.le_refl _) a
  simp only [nmsD, PyData.depth]
  omega
theorem depth_own (a : Own) : (ownD a).depth ≤ 2 := by
  have := depth_nms a.2
  simp only [ownD, PyData.depth, PyData.depthAll]
  omega
theorem keyable_nms (a : List Str) : keyable (nmsD a) = true := by
  show keyables (a.map .str) = true
  exact keyables_map PyData.str (fun _ => rfl) a
theorem keyable_own (a : Own) : keyable (ownD a) = true := by
  simp only [ownD, keyable, keyables, keyable_nms, Bool.and_self]
theorem lt_owns {a b : Own} (ne : a.1 ≠ b.1) (h : dataLt (ownD a) (ownD b) = true) : tlt a.1 b.1 := by
  unfold ownD at h
  rw [dataLt_pair (by simp [alike]) (alike_nms _ _)] at h
  have e : PyData.eqv (.str a.1) (.str b.1) = false := by
    simp only [PyData.eqv]
    exact beq_false_of_ne ne
  rw [e, if_neg (by decide), dataLt_str, decide_eq_true_eq] at h
  exact h
/-- a tuple that stands -/
def FT (H : Hp) (a : Addr) (xs : List V) : Prop := H a = some (.tup xs)
theorem FT.rd {H : Hp} {a : Addr} {xs : List V} (h : FT H a xs) : Rd H a (.tup xs) := .inl h
theorem FT.sq {K : PySem.W.Frag} {H : Hp} {a : Addr} {xs : List V} (h : FT H a xs) : SqT K H a xs := .inl h.rd
theorem FT.same {H H' : Hp} {a : Addr} {xs : List V} (h : FT H a xs) (S : Same H H') : FT H' a xs := S _ _ h
/-- the owns of a saying, as they stand -/
def DatO (H : Hp) (v : V) (os : List Own) : Prop := ∃ b us, v = .ref b ∧ FT H b us ∧ DatAll H us (os.map ownD)
theorem DatO.same {H H' : Hp} {v : V} {os : List Own} (h : DatO H v os) (S : Same H H') : DatO H' v os := let ⟨b, us, e, f, d⟩ := h; ⟨b, us, e, f.same S, DatAll.same S d⟩
/-- a saying, as it stands -/
def DatS (H : Hp) (v : V) (s : Say) : Prop := ∃ a p o c, v = .ref a ∧ H a = some (.tup [p, o, c]) ∧ Dat H p (nmsD s.picks) ∧ DatO H o s.owns ∧ Dat H c (.tuple (s.cls.map clD))
theorem DatS.same {H H' : Hp} {v : V} {s : Say} (h : DatS H v s) (S : Same H H') : DatS H' v s := let ⟨a, p, o, c, e, g, d1, d2, d3⟩ := h; ⟨a, p, o, c, e, S _ _ g, d1.same S, d2.same S, d3.same S⟩
end S1

set_option Elab.async false
set_option linter.all false
set_option maxRecDepth 100000
set_option maxHeartbeats 4000000
/-! sayings, drawn -/
namespace S1
open PySem PySem.W PySem.Spec PyProof.Rows L2
theorem cut_take {ws : List Str} {r : Nat} : cutV (ws.map V.str) none (some (r : Int)) = (ws.take r).map V.str := by
  unfold cutV
  rw [HT.sIx_nat, HT.sIx_none, List.drop_zero, List.map_take, Nat.sub_zero, ← List.take_eq_take_min]
theorem cut_mid {ws : List Str} {a r : Nat} (h : a + r ≤ ws.length) : cutV (ws.map V.str) (some (a : Int)) (some ((a + r : Nat) : Int)) = ((ws.drop a).take r).map V.str := by
  unfold cutV
  rw [HT.sIx_nat, HT.sIx_nat, List.length_map, Nat.min_eq_left (show a ≤ ws.length by omega), Nat.min_eq_left h, ← List.map_drop, ← List.map_take]
  congr 1
  congr 1
  omega
theorem dats_strs {H : Hp} : ∀ xs : List Str, DatAll H (xs.map V.str) (xs.map PyData.str)
  | [] => .nil
  | x :: xs => .cons (.str x) (dats_strs xs)
theorem copies_snoc (os : List Own) (o : Own) : copies (os ++ [o]) = copies os + 2 ^ o.2.length := by
  unfold copies
  rw [List.map_append, List.sum_append, List.map_cons, List.map_nil, List.sum_cons, List.sum_nil, Nat.add_zero]
theorem own_row {H : Hp} {q : TRow} {o : Own} (e : q.2 = ownD o) (D : Dat H q.v q.2) : ∃ t, H q.1 = some (.tup [.str o.1, .ref t]) ∧ H t = some (.tup (o.2.map V.str)) := by
  rw [e] at D
  have D2 : Dat H (.ref q.1) (.tuple [.str o.1, nmsD o.2]) := D
  cases D2 with
  | tup g h =>
    cases h with
    | cons h1 h2 =>
      cases h2 with
      | cons h3 h4 =>
        cases h4
        cases h1
        have h5 : Dat H _ (.tuple (o.2.map .str)) := h3
        cases h5 with
        | tup g2 h6 =>
          have key : ∀ {xs : List V} {l : List Str}, DatAll H xs (l.map PyData.str) → xs = l.map V.str := by
            intro xs l
            induction l generalizing xs with
            | nil => intro h; cases h; rfl
            | cons x l ih =>
              intro h
              cases h with
              | cons a b =>
                cases a
                rw [ih b, List.map_cons]
          rw [key h6] at g2
          exact ⟨_, g, g2⟩
theorem rows_back {α : Type} {f : α → PyData} {g : α → Str} (hg : ∀ a b, f a = f b → g a = g b) (hlt : ∀ a b, g a ≠ g b → dataLt (f a) (f b) = true → tlt (g a) (g b)) {T T' : List TRow} {l : List α} (pm : T'.Perm T) (e : T.map Prod.snd = l.map f)
    (nd : (l.map g).Nodup) (up : (T.map Prod.snd).Nodup → T'.Pairwise fun p q => dataLt p.2 q.2 = true) : ∃ l' : List α, l'.Perm l ∧ T'.map Prod.snd = l'.map f ∧ l'.Pairwise fun a b => tlt (g a) (g b) := by
  obtain ⟨l', p2, e2⟩ := perm_back (f := f) ((pm.map Prod.snd).trans (.of_eq e)) l rfl
  have nT : (T.map Prod.snd).Nodup := by
    rw [e]
    exact List.pairwise_map.mpr ((List.pairwise_map.mp nd).imp fun {a b} ne z => ne (hg a b z))
  have u1 : (T'.map Prod.snd).Pairwise fun d e => dataLt d e = true := List.pairwise_map.mpr (up nT)
  rw [e2] at u1
  have nd' : (l'.map g).Nodup := ((p2.map g).nodup_iff).mpr nd
  exact ⟨l', p2, e2, ((List.pairwise_map.mp u1).and (List.pairwise_map.mp nd')).imp fun {a b} z => hlt a b z.2 z.1⟩
theorem own_name (a b : Own) (h : ownD a = ownD b) : a.1 = b.1 := by
  unfold ownD at h
  injection h with h
  injection h with h _
  injection h
theorem nodup_le {α : Type} : ∀ {l m : List α}, l.Nodup → (∀ x ∈ l, x ∈ m) → l.length ≤ m.length
  | [], _, _, _ => Nat.zero_le _
  | x :: l, m, nd, h => by
    obtain ⟨s, t, e⟩ := List.append_of_mem (h x List.mem_cons_self)
    obtain ⟨n1, n2⟩ := List.nodup_cons.mp nd
    have ih := nodup_le (m := s ++ t) n2 fun y hy => by
      have z := h y (List.mem_cons_of_mem _ hy)
      rw [e] at z
      rcases List.mem_append.mp z with z | z
      · exact List.mem_append_left _ z
      · rcases List.mem_cons.mp z with z | z
        · exact absurd (z ▸ hy) n1
        · exact List.mem_append_right _ z
    rw [e, List.length_append, List.length_cons, List.length_cons]
    rw [List.length_append] at ih
    omega
theorem copies_perm {l m : List Own} (p : l.Perm m) : copies l = copies m := (p.map fun o : Own => 2 ^ o.2.length).sum_nat
theorem and_split {c : Prop} [Decidable c] {u : TT} {σ : L2.St} {H : Hp} {Q : Bool → Hp → Prop} (R : Hp → Prop) (k : ∀ H', R H' → Q false H') (h1 : c → (∀ H', R H' → Q false H') → u σ H Q) (h2 : ¬ c → (∀ H', R H' → Q false H') → Q false H) : if c then u σ H Q else Q false H := by
  by_cases h : c
  · rw [if_pos h]; exact h1 h k
  · rw [if_neg h]; exact h2 h k
end S1

set_option Elab.async false
set_option linter.all false
set_option maxRecDepth 100000
set_option maxHeartbeats 4000000
/-! < and == of data; what is_truth, is_tuple, is_pair, is_rising tell of good ones -/
namespace S1
open PySem PySem.W PySem.Spec PyProof.Rows L2
section
variable {X : Cx}
def rLtD : R2 := fun x y H Q => ∃ d e, Dat H x d ∧ Dat H y e ∧ alike d e = true ∧ d ≠ .none ∧ d.depth ≤ 8 ∧ Q (.bl (dataLt d e)) H
theorem op_ltD (hu : X.A.units + 64 < cLine) : OpR X (compareOp .Lt) rLtD := by
  intro pins s σ H x y v u Q I rx ry h
  obtain ⟨d, e, D1, D2, al, ne, dp, q⟩ := h
  obtain ⟨as, R1⟩ := reads_of_dat I.hok D1 rx
  obtain ⟨bs, R2⟩ := reads_of_dat I.hok D2 ry
  exact rcLt_alike d e X.A s v u as bs R1 R2 al ne (by have := Nat.min_le_left d.depth e.depth; omega) X.prog X.w X.xe _ ⟨.bl (dataLt d e), H, I, rfl, q⟩
def rEqD : R2 := fun x y H Q => ∃ d e, Dat H x d ∧ Dat H y e ∧ alike d e = true ∧ d.depth ≤ 8 ∧ Q (.bl (PyData.eqv d e)) H
end
/-! ### the small questions -/
def spIsTruth : Sp := fun vs H Q _ => ∃ b : Bool, vs = [.bl b] ∧ Q (.bl true) H
def spIsTuple : Sp := fun vs H Q _ => ∃ (a : Addr) (xs : List V) (n : Int), vs = [.ref a, .int n] ∧ Rd H a (.tup xs) ∧ (xs.length : Int) ≤ n ∧ Q (.bl true) H
def spIsPair : Sp := fun vs H Q _ => ∃ (a : Addr) (x y : V), vs = [.ref a] ∧ H a = some (.tup [x, y]) ∧ Q (.bl true) H
/-- each one below the next -/
def Rise : List PyData → Prop
  | [] => True
  | [_] => True
  | x :: y :: r => (alike x y = true ∧ x ≠ .none ∧ x.depth ≤ 8 ∧ dataLt x y = true) ∧ Rise (y :: r)
theorem Rise.at_ : ∀ {ds : List PyData}, Rise ds → ∀ (k : Nat) (x y : PyData), ds[k]? = some x → ds[k + 1]? = some y → alike x y = true ∧ x ≠ .none ∧ x.depth ≤ 8 ∧ dataLt x y = true
  | [], _, _, _, _, h, _ => by simp at h
  | [_], _, k, _, _, _, h => by simp at h
  | a :: b :: r, R, 0, x, y, h1, h2 => by
    cases (show some a = some x from h1)
    cases (show some b = some y from h2)
    exact R.1
  | a :: b :: r, R, k + 1, x, y, h1, h2 => Rise.at_ R.2 k x y h1 h2
theorem rise_of {α : Type} {f : α → PyData} (al : ∀ x y, alike (f x) (f y) = true) (nn : ∀ x, f x ≠ .none) (dp : ∀ x, (f x).depth ≤ 8) : ∀ {l : List α}, (l.Pairwise fun x y => dataLt (f x) (f y) = true) → Rise (l.map f)
  | [], _ => True.intro
  | [_], _ => True.intro
  | x :: y :: l, h => by
    obtain ⟨h1, h2⟩ := List.pairwise_cons.mp h
    exact ⟨⟨al x y, nn x, dp x, h1 y List.mem_cons_self⟩, rise_of al nn dp h2⟩
theorem rise_strs {l : List Str} (h : l.Pairwise tlt) : Rise (l.map PyData.str) := rise_of (f := PyData.str) (fun _ _ => by simp [alike]) (fun _ z => nomatch z) (fun _ => Nat.zero_le _) (h.imp fun {x y} z => by
  rw [dataLt_str]
  exact decide_eq_true z)
theorem same_tup {K : PySem.W.Frag} {H H' : Hp} {a : Addr} {xs : List V} (S : Same H H') (h : SqT K H a xs) : SqT K H' a xs := by
  rcases h with h | h
  · refine .inl ?_
    rcases h with h | ⟨o, h⟩
    · exact .inl (S _ _ h)
    · exact .inr ⟨o, S _ _ h⟩
  · exact .inr h
theorem same_sq {K : PySem.W.Frag} {H H' : Hp} {a : Addr} {xs : List V} (S : Same H H') (h : SqL K H a xs ∨ SqT K H a xs) : SqL K H' a xs ∨ SqT K H' a xs := h.elim (fun h => .inl (S.seq h)) fun h => .inr (same_tup S h)
theorem ix_any {K : PySem.W.Frag} {H : Hp} {a : Addr} {xs : List V} {i : Int} {v : V} {Q : VK} (h : SqL K H a xs ∨ SqT K H a xs) (e : atI xs i = some v) (q : Q v H) : rIx K (.ref a) (.int i) H Q :=
  h.elim (fun h => .inl ⟨a, xs, i, v, rfl, rfl, h, e, q⟩) fun h => .inr (.inl ⟨a, xs, i, v, rfl, rfl, h, e, q⟩)
def spIsRising (K : PySem.W.Frag) : Sp := fun vs H Q _ => ∃ (a : Addr) (xs : List V) (ds : List PyData), vs = [.ref a] ∧ (SqL K H a xs ∨ SqT K H a xs) ∧ DatAll H xs ds ∧ Rise ds ∧ ds.length ≤ 1000 ∧ ∀ H', Same H H' → Q (.bl true) H'
theorem dats_get {H : Hp} : ∀ {xs : List V} {ds : List PyData}, DatAll H xs ds → ∀ (k : Nat) (d : PyData), ds[k]? = some d → ∃ x, xs[k]? = some x ∧ Dat H x d
  | _, _, .nil, _, _, h => by simp at h
  | _, _, .cons (v := v) h t, 0, d, e => by
    cases (show some _ = some d from e)
    exact ⟨v, rfl, h⟩
  | _, _, .cons h t, k + 1, d, e => dats_get t k d e
section
variable {P : Program} {w : World} {K : PySem.W.Frag} {mg : Str → Option Value} {base : Heap}
theorem scIsTruth : FnScope ["value"] ["value"] (defScope sIsTruth) := ⟨rfl, rfl, rfl, by decide +kernel, rfl, by decide +kernel, by decide +kernel⟩
theorem scIsTuple : FnScope ["value", "most"] ["value", "most"] (defScope sIsTuple) := ⟨rfl, rfl, rfl, by decide +kernel, rfl, by decide +kernel, by decide +kernel⟩
theorem scIsPair : FnScope ["value"] ["value"] (defScope sIsPair) := ⟨rfl, rfl, rfl, by decide +kernel, rfl, by decide +kernel, by decide +kernel⟩
theorem scIsRising : FnScope ["parts", "k"] ["parts"] (defScope sIsRising) := ⟨rfl, rfl, rfl, by decide +kernel, rfl, by decide +kernel, by decide +kernel⟩
theorem ok_isTruth {f : Addr} {fd : FuncData} (F : Fun K "is_truth" "is_truth" sIsTruth f fd) : FnOk P w K mg base CX0 1 f fd ["value"] spIsTruth := by
  refine F.ok scIsTruth (fun vs H Q E h => ?_) (fun cdv A outer s H vs Q E hr h => ?_)
  · obtain ⟨b, rfl, _⟩ := h
    rfl
  · obtain ⟨b, rfl, q⟩ := h
    refine ⟨_, pss_one (ps_ret (pe_or (pe_cmpR op_is_bl (pv 0) pe_bl (nomark _)) (pe_one (pe_cmpR op_is_bl (pv 0) pe_bl (nomark _))))), ?_⟩
    refine ⟨_, rfl, b, true, rfl, rfl, _, rfl, ?_⟩
    cases b with
    | true => exact q
    | false => exact ⟨_, rfl, false, false, rfl, rfl, q⟩
theorem ty_rd {H : Hp} {a : Addr} {xs : List V} (h : Rd H a (.tup xs)) : TyX K H (.ref a) (.type "tuple") := h.elim (fun e => .base (.tup e)) fun ⟨_, e⟩ => .fTuple e
theorem ok_isTuple {f : Addr} {fd : FuncData} (F : Fun K "is_tuple" "is_tuple" sIsTuple f fd) (B : Blt mg) : FnOk P w K mg base CX0 1 f fd ["value", "most"] spIsTuple := by
  refine F.ok scIsTuple (fun vs H Q E h => ?_) (fun cdv A outer s H vs Q E hr h => ?_)
  · obtain ⟨a, xs, n, rfl, _⟩ := h
    rfl
  · obtain ⟨a, xs, n, rfl, e, le, q⟩ := h
    refine ⟨_, pss_one (ps_ret (pe_and (pe_callB call_isi (by rfl) B.isi (by decide +kernel) (pa_cons (pv 0) (pa_cons (pe_bltn (v := V.ty "tuple") (by rfl) B.tuple (by decide +kernel) rfl) pa_nil)))
      (pe_one (pe_cmpR op_le (pe_callB call_len_seq (by rfl) B.len (by decide +kernel) (pa_cons (pv 0) pa_nil)) (pv 1) (nomark _))))), ?_⟩
    refine ⟨_, rfl, _, _, _, _, true, rfl, .ty _, ty_rd e, kit_ty (by decide +kernel), true, rfl, ?_⟩
    show if true = true then _ else _
    rw [if_pos rfl]
    refine ⟨_, rfl, _, _, rfl, .inr (.inl e), _, rfl, _, _, rfl, rfl, ?_⟩
    show Q (.bl (decide ((xs.length : Int) ≤ n))) H
    rw [decide_eq_true le]
    exact q
theorem ok_isPair {f : Addr} {fd : FuncData} (F : Fun K "is_pair" "is_pair" sIsPair f fd) (B : Blt mg) : FnOk P w K mg base CX0 1 f fd ["value"] spIsPair := by
  refine F.ok scIsPair (fun vs H Q E h => ?_) (fun cdv A outer s H vs Q E hr h => ?_)
  · obtain ⟨a, x, y, rfl, _⟩ := h
    rfl
  · obtain ⟨a, x, y, rfl, e, q⟩ := h
    refine ⟨_, pss_one (ps_ret (pe_and (pe_callB call_isi (by rfl) B.isi (by decide +kernel) (pa_cons (pv 0) (pa_cons (pe_bltn (v := V.ty "tuple") (by rfl) B.tuple (by decide +kernel) rfl) pa_nil)))
      (pe_one (pe_cmpR op_eq (pe_callB call_len_seq (by rfl) B.len (by decide +kernel) (pa_cons (pv 0) pa_nil)) pe_int (nomark _))))), ?_⟩
    refine ⟨_, rfl, _, _, _, _, true, rfl, .ty _, .base (.tup e), kit_ty (by decide +kernel), true, rfl, ?_⟩
    show if true = true then _ else _
    rw [if_pos rfl]
    exact ⟨_, rfl, _, _, rfl, .inr (SqT.of e), rfl, q⟩
theorem ok_isRising {f : Addr} {fd : FuncData} (F : Fun K "is_rising" "is_rising" sIsRising f fd) (B : Blt mg) : FnOk P w K mg base CX0 1 f fd ["parts"] (spIsRising K) := by
  refine F.ok scIsRising (fun vs H Q E h => ?_) (fun cdv A outer s H vs Q E hr h => ?_)
  · obtain ⟨a, xs, ds, rfl, _⟩ := h
    rfl
  · obtain ⟨a, xs, ds, rfl, sq, D, R, len, q⟩ := h
    have hu : (A.deeper (envOfC "is_rising" (defScope sIsRising) s.heap.objs.size f cdv)).units + 64 < cLine := hr.units
    refine ⟨_, pss_one (ps_ret (pe_callB (cr_all rfl) (by rfl) B.all (by decide +kernel) (pa_cons (pe_lc (own := [("k", 1)]) (g := gName 1) (tt := tYes) (te := tOp rLtD (tOp (rIx K) (tVar 0) (tVar 1)) (tOp (rIx K) (tVar 0) (tOp (rI0 fun i j => V.int (i + j)) (tVar 1) (tC (V.int 1))))) rfl scIsRising.nd (pi_range1 rfl B.range (pa_cons (pe_op op_sub (pe_callB call_len_seq (by rfl) B.len (by decide +kernel) (pa_cons (pv 0) pa_nil)) pe_int) pa_nil))
      (blkOk_by (N := ["parts", "k"]) (sc := defScope sIsRising) (by decide +kernel)) (fun _ _ _ _ _ => pg_name (i := 1) scIsRising.nd rfl (Or.inl rfl)) (fun _ _ _ _ _ => pts_nil)
      (fun _ _ _ _ _ => by exact pe_cmpR (op_ltD (by exact hu)) (pe_ix ix_seq (pv 0) (pv 1) (fun _ _ => rfl)) (pe_ix ix_seq (pv 0) (pe_op op_add (pv 1) pe_int) (fun _ _ => rfl)) (nomark _))) pa_nil))), ?_⟩
    have lx : xs.length = ds.length := D.len
    refine ⟨_, rfl, _, _, rfl, sq, _, _, rfl, rfl, _, rfl, by omega, by omega, fun D0 hD0 => ?_⟩
    refine lc_range (lo := 0) (n := ((xs.length : Int) - 1).toNat) (fun j H4 => H4 D0 = some (.lst ((List.replicate j true).map V.bl)) ∧ Same H H4) ⟨upd_same, same_new hD0⟩ ?_ ?_
    · rintro j H4 hj ⟨eD, S⟩
      obtain ⟨x, hx⟩ : ∃ x, ds[j]? = some x := ⟨_, List.getElem?_eq_getElem (by omega)⟩
      obtain ⟨y, hy⟩ : ∃ y, ds[j + 1]? = some y := ⟨_, List.getElem?_eq_getElem (by omega)⟩
      obtain ⟨u, hu1, Du⟩ := dats_get D j x hx
      obtain ⟨v, hv1, Dv⟩ := dats_get D (j + 1) y hy
      obtain ⟨al, nn, dp, lt⟩ := R.at_ j x y hx hy
      refine ⟨rfl, yes_of ?_⟩
      refine ⟨_, rfl, _, rfl, ix_any (same_sq S sq) (by rw [Int.zero_add]; exact atI_nat hu1) ⟨_, rfl, _, rfl, _, _, rfl, rfl, ix_any (same_sq S sq) (by rw [Int.zero_add]; exact atI_nat hv1) ?_⟩⟩
      refine ⟨x, y, Du.same S, Dv.same S, al, nn, dp, _, eD, ?_, ?_, ?_⟩
      · rw [List.length_map, List.length_replicate]
        exact small1000 (by omega)
      · rw [upd_same, lt, List.replicate_succ', List.map_append]
        rfl
      · exact same_upd S hD0
    · rintro H4 ⟨eD, S⟩
      refine ⟨D0, _, rfl, SqL.of eD, ?_⟩
      have e : (List.replicate ((xs.length : Int) - 1).toNat true).all id = true := by
        rw [List.all_eq_true]
        exact fun b hb => (List.mem_replicate.mp hb).2
      show Q (.bl _) H4
      rw [e]
      exact q H4 S
end
end S1

set_option Elab.async false
set_option linter.all false
set_option maxRecDepth 100000
set_option maxHeartbeats 4000000
/-! what any data is told to be: the questions, as data -/
namespace S2
open PySem PySem.W PySem.Spec PyProof.Rows L2 S1
def tyN : PyData → String
  | .none => "NoneType"
  | .bool _ => "bool"
  | .int _ => "int"
  | .str _ => "str"
  | .list _ => "list"
  | .tuple _ => "tuple"
  | .dict _ => "dict"
theorem ty_dat {K : PySem.W.Frag} {H : Hp} {v : V} {d : PyData} (D : Dat H v d) : TyX K H v (.type (tyN d)) := by
  cases D with
  | non => exact .base .non
  | bl b => exact .base (.bl b)
  | int i => exact .base (.int i)
  | str x => exact .base (.str x)
  | lst e _ => exact .base (.lst e)
  | tup e _ => exact .base (.tup e)
  | dct e _ => exact .base (.dK e)
def isTup : PyData → Bool
  | .tuple _ => true
  | _ => false
def isStr : PyData → Bool
  | .str _ => true
  | _ => false
def isTr : PyData → Bool
  | .bool _ => true
  | _ => false
theorem kit_tup : ∀ d : PyData, kitB (tyN d) "tuple" = some (isTup d)
  | .none => show kitB "NoneType" "tuple" = some false by decide +kernel
  | .bool _ => show kitB "bool" "tuple" = some false by decide +kernel
  | .int _ => show kitB "int" "tuple" = some false by decide +kernel
  | .str _ => show kitB "str" "tuple" = some false by decide +kernel
  | .list _ => show kitB "list" "tuple" = some false by decide +kernel
  | .tuple _ => show kitB "tuple" "tuple" = some true by decide +kernel
  | .dict _ => show kitB "dict" "tuple" = some false by decide +kernel
theorem kit_str : ∀ d : PyData, kitB (tyN d) "str" = some (isStr d)
  | .none => show kitB "NoneType" "str" = some false by decide +kernel
  | .bool _ => show kitB "bool" "str" = some false by decide +kernel
  | .int _ => show kitB "int" "str" = some false by decide +kernel
  | .str _ => show kitB "str" "str" = some true by decide +kernel
  | .list _ => show kitB "list" "str" = some false by decide +kernel
  | .tuple _ => show kitB "tuple" "str" = some false by decide +kernel
  | .dict _ => show kitB "dict" "str" = some false by decide +kernel
theorem kit_bool : ∀ d : PyData, kitB (tyN d) "bool" = some (isTr d)
  | .none => show kitB "NoneType" "bool" = some false by decide +kernel
  | .bool _ => show kitB "bool" "bool" = some true by decide +kernel
  | .int _ => show kitB "int" "bool" = some false by decide +kernel
  | .str _ => show kitB "str" "bool" = some false by decide +kernel
  | .list _ => show kitB "list" "bool" = some false by decide +kernel
  | .tuple _ => show kitB "tuple" "bool" = some false by decide +kernel
  | .dict _ => show kitB "dict" "bool" = some false by decide +kernel
def parts : PyData → List PyData
  | .tuple ds => ds
  | _ => []
def strOf : PyData → Str
  | .str x => x
  | _ => ""
def fstS (d : PyData) : Str := strOf ((parts d).headD .none)
mutual
/-- rows of at most a thousand parts -/
def lim : PyData → Bool
  | .list ds => decide (ds.length ≤ 1000) && lims ds
  | .tuple ds => decide (ds.length ≤ 1000) && lims ds
  | .str x => decide (x.length ≤ 1000)
  | _ => true
def lims : List PyData → Bool
  | [] => true
  | d :: ds => lim d && lims ds
end
theorem lims_mem : ∀ {ds : List PyData}, lims ds = true → ∀ d ∈ ds, lim d = true
  | [], _, d, h => nomatch h
  | x :: ds, t, d, h => by
    rw [lims, Bool.and_eq_true] at t
    rcases List.mem_cons.mp h with rfl | h
    · exact t.1
    · exact lims_mem t.2 d h
theorem lim_tup {ds : List PyData} (h : lim (.tuple ds) = true) : ds.length ≤ 1000 ∧ ∀ d ∈ ds, lim d = true := by
  rw [lim, Bool.and_eq_true, decide_eq_true_eq] at h
  exact ⟨h.1, lims_mem h.2⟩
/-- each below the next -/
def riseB : List PyData → Bool
  | x :: y :: r => dataLt x y && riseB (y :: r)
  | _ => true
def isNm : PyData → Bool
  | .str x => nmB x
  | _ => false
def isLt : PyData → Bool
  | .tuple [a, b] => isNm a && isTr b
  | _ => false
def isCl (d : PyData) : Bool := isTup d && ((parts d).all isLt && riseB ((parts d).map fun x => .str (fstS x)))
def isNames (m : Nat) (d : PyData) : Bool := isTup d && (decide ((parts d).length ≤ m) && ((parts d).all isNm && riseB (parts d)))
def isSightB (ps : List Str) (d : PyData) : Bool := isNames ps.length d && (parts d).all fun x => decide (strOf x ∈ ps)
def isOwnB (ps : List Str) : PyData → Bool
  | .tuple [a, b] => isNm a && (!decide (strOf a ∈ ps) && isSightB ps b)
  | _ => false
def sndLen : PyData → Nat
  | .tuple [_, b] => (parts b).length
  | _ => 0
def areOwnsB (ps : List Str) (d : PyData) : Bool :=
  isTup d && (decide ((parts d).length ≤ 8) && ((parts d).all (isOwnB ps) && (riseB ((parts d).map fun x => .str (fstS x)) && decide (((parts d).map fun x => 2 ^ sndLen x).sum ≤ 120))))
def isClO (ns : List Str) (d : PyData) : Bool := isCl d && (parts d).all fun x => decide (fstS x ∈ ns)
def areClsB (ns : List Str) (d : PyData) : Bool := isTup d && (decide ((parts d).length ≤ 40) && ((parts d).all (isClO ns) && riseB (parts d)))
def strsOf (d : PyData) : List Str := (parts d).map strOf
def namesD (p o : PyData) : List Str := strsOf p ++ (parts o).map fstS
def sayB : PyData → Bool
  | .tuple [p, o, c] => isNames 6 p && (areOwnsB (strsOf p) o && areClsB (namesD p o) c)
  | _ => false
def truthsB (n : Nat) (d : PyData) : Bool := isTup d && (decide ((parts d).length = n) && (parts d).all isTr)
section
variable {X : Cx}
/-- is True, is False -/
def rIsAny : R2 := fun x y H Q => ∃ (d : PyData) (b : Bool), Dat H x d ∧ y = .bl b ∧ Q (.bl (decide (x = .bl b))) H
theorem op_isAny : OpR X (compareOp .Is) rIsAny := by
  intro pins s σ H x y v u Q I rx ry h
  obtain ⟨d, b, D, rfl, q⟩ := h
  cases (show u = Value.bool b from ry)
  cases D with
  | non =>
    cases (show v = Value.none from rx)
    exact wpAny_is_other rfl (fun z => nomatch z) ⟨.bl false, H, I, rfl, q⟩
  | bl a =>
    cases (show v = Value.bool a from rx)
    by_cases e : a = b
    · subst e
      exact wpAny_is_self rfl ⟨.bl true, H, I, rfl, by simpa using q⟩
    · exact wpAny_is_other rfl (fun z => e (Value.bool.inj z)) ⟨.bl false, H, I, rfl, by simpa [e] using q⟩
  | int i =>
    obtain ⟨t, rfl⟩ := rx
    exact wpAny_is_other rfl (fun z => nomatch z) ⟨.bl false, H, I, rfl, q⟩
  | str i =>
    obtain ⟨t, rfl⟩ := rx
    exact wpAny_is_other rfl (fun z => nomatch z) ⟨.bl false, H, I, rfl, q⟩
  | @lst a _ _ _ _ =>
    cases (show v = Value.ref a from rx)
    exact wpAny_is_other rfl (fun z => nomatch z) ⟨.bl false, H, I, rfl, q⟩
  | @tup a _ _ _ _ =>
    cases (show v = Value.ref a from rx)
    exact wpAny_is_other rfl (fun z => nomatch z) ⟨.bl false, H, I, rfl, q⟩
  | @dct a _ _ _ _ =>
    cases (show v = Value.ref a from rx)
    exact wpAny_is_other rfl (fun z => nomatch z) ⟨.bl false, H, I, rfl, q⟩
end
end S2

set_option Elab.async false
set_option linter.all false
set_option maxRecDepth 100000
set_option maxHeartbeats 2000000
/-! the small questions of the program, of any data -/
namespace S2
open PySem PySem.W PySem.Spec PyProof.Rows L2 S1
theorem dats_get {H : Hp} : ∀ {xs : List V} {ds : List PyData}, DatAll H xs ds → ∀ (k : Nat) (d : PyData), ds[k]? = some d → ∃ x, xs[k]? = some x ∧ Dat H x d
  | _, _, .nil, _, _, h => by simp at h
  | _, _, .cons (v := v) h t, 0, d, e => by
    cases (show some _ = some d from e)
    exact ⟨v, rfl, h⟩
  | _, _, .cons h t, k + 1, d, e => dats_get t k d e
theorem dats_get' {H : Hp} : ∀ {xs : List V} {ds : List PyData}, DatAll H xs ds → ∀ (k : Nat) (x : V), xs[k]? = some x → ∃ d, ds[k]? = some d ∧ Dat H x d
  | _, _, .nil, _, _, h => by simp at h
  | _, _, .cons (d := d) h t, 0, x, e => by
    cases (show some _ = some x from e)
    exact ⟨d, rfl, h⟩
  | _, _, .cons h t, k + 1, x, e => dats_get' t k x e
theorem dat_tup {H : Hp} {v : V} {ds : List PyData} (D : Dat H v (.tuple ds)) : ∃ a xs, v = .ref a ∧ H a = some (.tup xs) ∧ DatAll H xs ds := by
  cases D with
  | tup e h => exact ⟨_, _, rfl, e, h⟩
theorem dat_str {H : Hp} {v : V} {x : Str} (D : Dat H v (.str x)) : v = .str x := by
  cases D
  rfl
theorem tup_of {d : PyData} (h : isTup d = true) : ∃ ds, d = .tuple ds := by
  cases d with
  | tuple ds => exact ⟨ds, rfl⟩
  | _ => cases h
theorem str_of {d : PyData} (h : isStr d = true) : ∃ x, d = .str x := by
  cases d with
  | str x => exact ⟨x, rfl⟩
  | _ => cases h
theorem nm_of' {d : PyData} (h : isNm d = true) : ∃ x, d = .str x ∧ nmB x = true := by
  cases d with
  | str x => exact ⟨x, rfl, h⟩
  | _ => cases h
theorem same_tup {K : PySem.W.Frag} {H H' : Hp} {a : Addr} {xs : List V} (S : Same H H') (h : SqT K H a xs) : SqT K H' a xs := by
  rcases h with h | h
  · refine .inl ?_
    rcases h with h | ⟨o, h⟩
    · exact .inl (S _ _ h)
    · exact .inr ⟨o, S _ _ h⟩
  · exact .inr h
theorem same_sq {K : PySem.W.Frag} {H H' : Hp} {a : Addr} {xs : List V} (S : Same H H') (h : SqL K H a xs ∨ SqT K H a xs) : SqL K H' a xs ∨ SqT K H' a xs := h.elim (fun h => .inl (S.seq h)) fun h => .inr (same_tup S h)
theorem ix_any {K : PySem.W.Frag} {H : Hp} {a : Addr} {xs : List V} {i : Int} {v : V} {Q : VK} (h : SqL K H a xs ∨ SqT K H a xs) (e : atI xs i = some v) (q : Q v H) : rIx K (.ref a) (.int i) H Q :=
  h.elim (fun h => .inl ⟨a, xs, i, v, rfl, rfl, h, e, q⟩) fun h => .inr (.inl ⟨a, xs, i, v, rfl, rfl, h, e, q⟩)
section
variable {X : Cx}
def rLtD : R2 := fun x y H Q => ∃ d e, Dat H x d ∧ Dat H y e ∧ alike d e = true ∧ d ≠ .none ∧ d.depth ≤ 8 ∧ Q (.bl (dataLt d e)) H
theorem op_ltD (hu : X.A.units + 64 < cLine) : OpR X (compareOp .Lt) rLtD := by
  intro pins s σ H x y v u Q I rx ry h
  obtain ⟨d, e, D1, D2, al, ne, dp, q⟩ := h
  obtain ⟨as, R1⟩ := reads_of_dat I.hok D1 rx
  obtain ⟨bs, R2⟩ := reads_of_dat I.hok D2 ry
  exact rcLt_alike d e X.A s v u as bs R1 R2 al ne (by have := Nat.min_le_left d.depth e.depth; omega) X.prog X.w X.xe _ ⟨.bl (dataLt d e), H, I, rfl, q⟩
end
section
variable {K : PySem.W.Frag} {g : TG} {te : TE} {vs : List Nat} {σ : L2.St} {H : Hp} {D : Addr} {Qd : Hp → Prop}
/-- [f(x) for x in a tuple], what it gives known one by one -/
theorem lc_mapT {a : Addr} {xs ys : List V} (sq : SqT K H a xs) (hD : H D = none) (ly : ys.length = xs.length) (len : xs.length ≤ 1000)
    (step : ∀ (i : Nat) (x y : V) (H4 : Hp) (Qe : VK), xs[i]? = some x → ys[i]? = some y → Same H H4 → (∀ H5, Same H4 H5 → Qe y H5) → g x (wipe σ vs) H4 fun σ2 H2 => wipe σ2 vs = wipe σ vs ∧ te σ2 H2 Qe)
    (gm : ∀ x σ1 H1 (A B : L2.St → Hp → Prop), (∀ σ2 H2, A σ2 H2 → B σ2 H2) → g x σ1 H1 A → g x σ1 H1 B)
    (hd : ∀ H5, H5 D = some (.lst ys) → Same H H5 → Qd H5) :
    ∃ W : Nat → Nat → Hp → Prop, (∃ m, W 0 m (upd H D (.lst []))) ∧ ∀ i m H, W i m H →
      ((Itt K a).stop i H ∧ Qd H) ∨ ((Itt K a).go i H ∧ ∃ Nx : Hp → Prop, (∀ H', Nx H' → ∃ m', m' < m ∧ W (i + 1) m' H') ∧ ∀ x H', (Itt K a).yld i H x H' → g x (wipe σ vs) H' fun σ2 H2 => wipe σ2 vs = wipe σ vs ∧ tYes σ2 H2 fun b H3 =>
        if b = true then te σ2 H3 fun y H4 => ∃ acc, H4 D = some (.lst acc) ∧ acc.length < sizeLine ∧ Nx (upd H4 D (.lst (acc ++ [y]))) else Nx H3) := by
  refine lc_tup (K := K) (a := a) (xs := xs) (fun j H4 => H4 D = some (.lst (ys.take j)) ∧ Same H H4) ⟨by rw [upd_same, List.take_zero], same_new hD⟩ (fun i H4 _ h => same_tup h.2 sq) (fun i x H4 hx h => ?_) (fun H5 h => hd H5 (by rw [h.1, ← ly, List.take_length]) h.2)
  have il : i < xs.length := (List.getElem?_eq_some_iff.mp hx).1
  obtain ⟨y, hy⟩ : ∃ y, ys[i]? = some y := ⟨_, List.getElem?_eq_getElem (by omega)⟩
  refine gm x _ _ _ _ (fun σ2 H2 z => ⟨z.1, yes_of z.2⟩) (step i x y H4 _ hx hy h.2 fun H5 S5 => ?_)
  have e5 := S5 _ _ h.1
  exact ⟨_, e5, by rw [List.length_take]; exact small1000 (by omega), by rw [upd_same, take_next hy], same_upd (h.2.trans S5) hD⟩
/-- [p(x) for x in a tuple of data] -/
theorem lc_allD {a : Addr} {xs : List V} {ds : List PyData} {p : PyData → Bool} (e : H a = some (.tup xs)) (Da : DatAll H xs ds) (hD : H D = none) (len : ds.length ≤ 1000)
    (step : ∀ (i : Nat) (x : V) (d : PyData) (H4 : Hp) (Qe : VK), ds[i]? = some d → Same H H4 → Dat H4 x d → (∀ H5, Same H4 H5 → Qe (.bl (p d)) H5) → g x (wipe σ vs) H4 fun σ2 H2 => wipe σ2 vs = wipe σ vs ∧ te σ2 H2 Qe)
    (gm : ∀ x σ1 H1 (A B : L2.St → Hp → Prop), (∀ σ2 H2, A σ2 H2 → B σ2 H2) → g x σ1 H1 A → g x σ1 H1 B)
    (hd : ∀ H5, H5 D = some (.lst ((ds.map p).map V.bl)) → Same H H5 → Qd H5) :
    ∃ W : Nat → Nat → Hp → Prop, (∃ m, W 0 m (upd H D (.lst []))) ∧ ∀ i m H, W i m H →
      ((Itt K a).stop i H ∧ Qd H) ∨ ((Itt K a).go i H ∧ ∃ Nx : Hp → Prop, (∀ H', Nx H' → ∃ m', m' < m ∧ W (i + 1) m' H') ∧ ∀ x H', (Itt K a).yld i H x H' → g x (wipe σ vs) H' fun σ2 H2 => wipe σ2 vs = wipe σ vs ∧ tYes σ2 H2 fun b H3 =>
        if b = true then te σ2 H3 fun y H4 => ∃ acc, H4 D = some (.lst acc) ∧ acc.length < sizeLine ∧ Nx (upd H4 D (.lst (acc ++ [y]))) else Nx H3) := by
  have lx : xs.length = ds.length := Da.len
  refine lc_mapT (K := K) (ys := (ds.map p).map V.bl) (SqT.of e) hD (by rw [List.length_map, List.length_map, lx]) (by omega) (fun i x y H4 Qe hx hy S4 k => ?_) gm hd
  obtain ⟨d, hd', Dx⟩ := dats_get' Da i x hx
  have ey : y = V.bl (p d) := by
    rw [List.getElem?_map, List.getElem?_map, hd'] at hy
    exact (Option.some.inj hy).symm
  rw [ey] at k
  exact step i x d H4 Qe hd' S4 (Dx.same S4) k
/-- [f(x) for x in a tuple of data], f giving values without an address -/
theorem lc_mapD {a : Addr} {xs : List V} {ds : List PyData} {f : PyData → V} (e : H a = some (.tup xs)) (Da : DatAll H xs ds) (hD : H D = none) (len : ds.length ≤ 1000)
    (step : ∀ (i : Nat) (x : V) (d : PyData) (H4 : Hp) (Qe : VK), ds[i]? = some d → Same H H4 → Dat H4 x d → (∀ H5, Same H4 H5 → Qe (f d) H5) → g x (wipe σ vs) H4 fun σ2 H2 => wipe σ2 vs = wipe σ vs ∧ te σ2 H2 Qe)
    (gm : ∀ x σ1 H1 (A B : L2.St → Hp → Prop), (∀ σ2 H2, A σ2 H2 → B σ2 H2) → g x σ1 H1 A → g x σ1 H1 B)
    (hd : ∀ H5, H5 D = some (.lst (ds.map f)) → Same H H5 → Qd H5) :
    ∃ W : Nat → Nat → Hp → Prop, (∃ m, W 0 m (upd H D (.lst []))) ∧ ∀ i m H, W i m H →
      ((Itt K a).stop i H ∧ Qd H) ∨ ((Itt K a).go i H ∧ ∃ Nx : Hp → Prop, (∀ H', Nx H' → ∃ m', m' < m ∧ W (i + 1) m' H') ∧ ∀ x H', (Itt K a).yld i H x H' → g x (wipe σ vs) H' fun σ2 H2 => wipe σ2 vs = wipe σ vs ∧ tYes σ2 H2 fun b H3 =>
        if b = true then te σ2 H3 fun y H4 => ∃ acc, H4 D = some (.lst acc) ∧ acc.length < sizeLine ∧ Nx (upd H4 D (.lst (acc ++ [y]))) else Nx H3) := by
  have lx : xs.length = ds.length := Da.len
  refine lc_mapT (K := K) (ys := ds.map f) (SqT.of e) hD (by rw [List.length_map, lx]) (by omega) (fun i x y H4 Qe hx hy S4 k => ?_) gm hd
  obtain ⟨d, hd', Dx⟩ := dats_get' Da i x hx
  have ey : y = f d := by
    rw [List.getElem?_map, hd'] at hy
    exact (Option.some.inj hy).symm
  rw [ey] at k
  exact step i x d H4 Qe hd' S4 (Dx.same S4) k
end
theorem gName_mono {i : Nat} : ∀ (x : V) (σ1 : L2.St) (H1 : Hp) (A B : L2.St → Hp → Prop), (∀ σ2 H2, A σ2 H2 → B σ2 H2) → gName i x σ1 H1 A → gName i x σ1 H1 B := fun x σ1 H1 A B h z => h _ _ z
theorem all_id {α : Type} (p : α → Bool) (l : List α) : (l.map p).all id = l.all p := by
  rw [List.all_map]
  rfl
/-- a question about any data -/
def spJ (p : PyData → Bool) : Sp := fun vs H Q _ => ∃ (v : V) (d : PyData), vs = [v] ∧ Dat H v d ∧ lim d = true ∧ ∀ H', Same H H' → Q (.bl (p d)) H'
def spTupN : Sp := fun vs H Q _ => ∃ (v : V) (d : PyData) (n : Nat), vs = [v, .int (n : Nat)] ∧ Dat H v d ∧ lim d = true ∧ ∀ H', Same H H' → Q (.bl (isTup d && decide ((parts d).length ≤ n))) H'
def pairB (d : PyData) : Bool := isTup d && decide ((parts d).length = 2)
/-- all that may be compared with one another -/
def Likes (ds : List PyData) : Prop := (∀ x ∈ ds, x ≠ .none ∧ x.depth ≤ 8) ∧ ∀ x ∈ ds, ∀ y ∈ ds, alike x y = true
def spRise (K : PySem.W.Frag) : Sp := fun vs H Q _ => ∃ (a : Addr) (xs : List V) (ds : List PyData), vs = [.ref a] ∧ (SqL K H a xs ∨ SqT K H a xs) ∧ DatAll H xs ds ∧ Likes ds ∧ ds.length ≤ 1000 ∧ ∀ H', Same H H' → Q (.bl (riseB ds)) H'
def ltAt (ds : List PyData) (k : Nat) : Bool := dataLt (ds.getD k .none) (ds.getD (k + 1) .none)
theorem rise_range : ∀ ds : List PyData, ((List.range (ds.length - 1)).map (ltAt ds)).all id = riseB ds
  | [] => rfl
  | [_] => rfl
  | x :: y :: r => by
    have h := rise_range (y :: r)
    have e : (List.range ((x :: y :: r).length - 1)).map (ltAt (x :: y :: r)) = dataLt x y :: (List.range ((y :: r).length - 1)).map (ltAt (y :: r)) := by
      show (List.range (r.length + 1)).map _ = _ :: (List.range r.length).map _
      rw [List.range_succ_eq_map, List.map_cons, List.map_map]
      rfl
    rw [e, List.all_cons, h]
    rfl
section
variable {P : Program} {w : World} {K : PySem.W.Frag} {mg : Str → Option Value} {base : Heap}
theorem scIsTruth : FnScope ["value"] ["value"] (defScope sIsTruth) := ⟨rfl, rfl, rfl, by decide +kernel, rfl, by decide +kernel, by decide +kernel⟩
theorem scIsTuple : FnScope ["value", "most"] ["value", "most"] (defScope sIsTuple) := ⟨rfl, rfl, rfl, by decide +kernel, rfl, by decide +kernel, by decide +kernel⟩
theorem scIsPair : FnScope ["value"] ["value"] (defScope sIsPair) := ⟨rfl, rfl, rfl, by decide +kernel, rfl, by decide +kernel, by decide +kernel⟩
theorem scIsRising : FnScope ["parts", "k"] ["parts"] (defScope sIsRising) := ⟨rfl, rfl, rfl, by decide +kernel, rfl, by decide +kernel, by decide +kernel⟩
theorem ok_isTruth {f : Addr} {fd : FuncData} (F : Fun K "is_truth" "is_truth" sIsTruth f fd) : FnOk P w K mg base CX0 1 f fd ["value"] (spJ isTr) := by
  refine F.ok scIsTruth (fun vs H Q E h => ?_) (fun cdv A outer s H vs Q E hr h => ?_)
  · obtain ⟨v, d, rfl, _⟩ := h
    rfl
  · obtain ⟨v, d, rfl, D, li, q⟩ := h
    refine ⟨_, pss_one (ps_ret (pe_or (pe_cmpR op_isAny (pv 0) pe_bl (nomark _)) (pe_one (pe_cmpR op_isAny (pv 0) pe_bl (nomark _))))), ?_⟩
    refine ⟨_, rfl, d, true, D, rfl, _, rfl, ?_⟩
    have q' := q H (Same.refl _)
    cases D with
    | bl b =>
      cases b with
      | true => exact q'
      | false => exact ⟨_, rfl, _, false, .bl false, rfl, q'⟩
    | non => exact ⟨_, rfl, _, false, .non, rfl, q'⟩
    | int i => exact ⟨_, rfl, _, false, .int i, rfl, q'⟩
    | str i => exact ⟨_, rfl, _, false, .str i, rfl, q'⟩
    | lst e h => exact ⟨_, rfl, _, false, .lst e h, rfl, q'⟩
    | tup e h => exact ⟨_, rfl, _, false, .tup e h, rfl, q'⟩
    | dct e h => exact ⟨_, rfl, _, false, .dct e h, rfl, q'⟩
theorem ok_isTuple {f : Addr} {fd : FuncData} (F : Fun K "is_tuple" "is_tuple" sIsTuple f fd) (B : Blt mg) : FnOk P w K mg base CX0 1 f fd ["value", "most"] spTupN := by
  refine F.ok scIsTuple (fun vs H Q E h => ?_) (fun cdv A outer s H vs Q E hr h => ?_)
  · obtain ⟨v, d, n, rfl, _⟩ := h
    rfl
  · obtain ⟨v, d, n, rfl, D, li, q⟩ := h
    refine ⟨_, pss_one (ps_ret (pe_and (pe_callB call_isi (by rfl) B.isi (by decide +kernel) (pa_cons (pv 0) (pa_cons (pe_bltn (v := V.ty "tuple") (by rfl) B.tuple (by decide +kernel) rfl) pa_nil)))
      (pe_one (pe_cmpR op_le (pe_callB call_len_seq (by rfl) B.len (by decide +kernel) (pa_cons (pv 0) pa_nil)) (pv 1) (nomark _))))), ?_⟩
    refine ⟨_, rfl, _, _, _, _, isTup d, rfl, .ty _, ty_dat D, kit_ty (kit_tup d), isTup d, rfl, ?_⟩
    have q' := q H (Same.refl _)
    cases h : isTup d with
    | false =>
      rw [h] at q'
      show if false = true then _ else _
      rw [if_neg (by decide)]
      exact q'
    | true =>
      rw [h] at q'
      show if true = true then _ else _
      rw [if_pos rfl]
      obtain ⟨ds, rfl⟩ := tup_of h
      obtain ⟨a, xs, rfl, e, Da⟩ := dat_tup D
      refine ⟨_, rfl, _, _, rfl, .inr (SqT.of e), _, rfl, _, _, rfl, rfl, ?_⟩
      rw [Da.len]
      have en : decide (((ds.length : Nat) : Int) ≤ ((n : Nat) : Int)) = decide (ds.length ≤ n) := by simp
      show Q (.bl (decide (((ds.length : Nat) : Int) ≤ ((n : Nat) : Int)))) H
      rw [en]
      exact q'
theorem ok_isPair {f : Addr} {fd : FuncData} (F : Fun K "is_pair" "is_pair" sIsPair f fd) (B : Blt mg) : FnOk P w K mg base CX0 1 f fd ["value"] (spJ pairB) := by
  refine F.ok scIsPair (fun vs H Q E h => ?_) (fun cdv A outer s H vs Q E hr h => ?_)
  · obtain ⟨v, d, rfl, _⟩ := h
    rfl
  · obtain ⟨v, d, rfl, D, li, q⟩ := h
    refine ⟨_, pss_one (ps_ret (pe_and (pe_callB call_isi (by rfl) B.isi (by decide +kernel) (pa_cons (pv 0) (pa_cons (pe_bltn (v := V.ty "tuple") (by rfl) B.tuple (by decide +kernel) rfl) pa_nil)))
      (pe_one (pe_cmpR op_eq (pe_callB call_len_seq (by rfl) B.len (by decide +kernel) (pa_cons (pv 0) pa_nil)) pe_int (nomark _))))), ?_⟩
    refine ⟨_, rfl, _, _, _, _, isTup d, rfl, .ty _, ty_dat D, kit_ty (kit_tup d), isTup d, rfl, ?_⟩
    have q' := q H (Same.refl _)
    cases h : isTup d with
    | false =>
      rw [pairB, h] at q'
      show if false = true then _ else _
      rw [if_neg (by decide)]
      exact q'
    | true =>
      rw [pairB, h] at q'
      show if true = true then _ else _
      rw [if_pos rfl]
      obtain ⟨ds, rfl⟩ := tup_of h
      obtain ⟨a, xs, rfl, e, Da⟩ := dat_tup D
      refine ⟨_, rfl, _, _, rfl, .inr (SqT.of e), rfl, ?_⟩
      rw [Da.len]
      have en : decide (V.int ((ds.length : Nat) : Int) = V.int 2) = decide (ds.length = 2) := by
        by_cases z : ds.length = 2
        · rw [z]; rfl
        · rw [decide_eq_false z, decide_eq_false (fun y => z (by injection y with y; omega))]
      show Q (.bl (decide (V.int ((ds.length : Nat) : Int) = V.int 2))) H
      rw [en]
      exact q'
theorem ok_isRising {f : Addr} {fd : FuncData} (F : Fun K "is_rising" "is_rising" sIsRising f fd) (B : Blt mg) : FnOk P w K mg base CX0 1 f fd ["parts"] (spRise K) := by
  refine F.ok scIsRising (fun vs H Q E h => ?_) (fun cdv A outer s H vs Q E hr h => ?_)
  · obtain ⟨a, xs, ds, rfl, _⟩ := h
    rfl
  · obtain ⟨a, xs, ds, rfl, sq, D, L, len, q⟩ := h
    have hu : (A.deeper (envOfC "is_rising" (defScope sIsRising) s.heap.objs.size f cdv)).units + 64 < cLine := hr.units
    refine ⟨_, pss_one (ps_ret (pe_callB (cr_all rfl) (by rfl) B.all (by decide +kernel) (pa_cons (pe_lc (own := [("k", 1)]) (g := gName 1) (tt := tYes) (te := tOp rLtD (tOp (rIx K) (tVar 0) (tVar 1)) (tOp (rIx K) (tVar 0) (tOp (rI0 fun i j => V.int (i + j)) (tVar 1) (tC (V.int 1))))) rfl scIsRising.nd (pi_range1 rfl B.range (pa_cons (pe_op op_sub (pe_callB call_len_seq (by rfl) B.len (by decide +kernel) (pa_cons (pv 0) pa_nil)) pe_int) pa_nil))
      (blkOk_by (N := ["parts", "k"]) (sc := defScope sIsRising) (by decide +kernel)) (fun _ _ _ _ _ => pg_name (i := 1) scIsRising.nd rfl (Or.inl rfl)) (fun _ _ _ _ _ => pts_nil)
      (fun _ _ _ _ _ => by exact pe_cmpR (op_ltD (by exact hu)) (pe_ix ix_seq (pv 0) (pv 1) (fun _ _ => rfl)) (pe_ix ix_seq (pv 0) (pe_op op_add (pv 1) pe_int) (fun _ _ => rfl)) (nomark _))) pa_nil))), ?_⟩
    have lx : xs.length = ds.length := D.len
    refine ⟨_, rfl, _, _, rfl, sq, _, _, rfl, rfl, _, rfl, by omega, by omega, fun D0 hD0 => ?_⟩
    refine lc_range (lo := 0) (n := ((xs.length : Int) - 1).toNat) (fun j H4 => H4 D0 = some (.lst (((List.range j).map (ltAt ds)).map V.bl)) ∧ Same H H4) ⟨upd_same, same_new hD0⟩ ?_ ?_
    · rintro j H4 hj ⟨eD, S⟩
      have j1 : j + 1 < ds.length := by omega
      obtain ⟨x, hx, Dx⟩ := dats_get D j _ (List.getElem?_eq_getElem (show j < ds.length by omega))
      obtain ⟨y, hy, Dy⟩ := dats_get D (j + 1) _ (List.getElem?_eq_getElem j1)
      have m1 := List.getElem_mem (show j < ds.length by omega)
      have m2 := List.getElem_mem j1
      have at1 : atI xs (0 + (j : Int)) = some x := by rw [Int.zero_add]; exact atI_nat hx
      have at2 : atI xs (0 + (j : Int) + 1) = some y := by
        have e : (0 : Int) + (j : Int) + 1 = ((j + 1 : Nat) : Int) := by omega
        rw [e]
        exact atI_nat hy
      refine ⟨rfl, yes_of ?_⟩
      refine ⟨_, rfl, _, rfl, ix_any (same_sq S sq) at1 ⟨_, rfl, _, rfl, _, _, rfl, rfl, ix_any (same_sq S sq) at2 ?_⟩⟩
      refine ⟨_, _, Dx.same S, Dy.same S, L.2 _ m1 _ m2, (L.1 _ m1).1, (L.1 _ m1).2, _, eD, by rw [List.length_map, List.length_map, List.length_range]; exact small1000 (by omega), ?_, same_upd S hD0⟩
      rw [upd_same, List.range_succ, List.map_append, List.map_append]
      have e1 : ltAt ds j = dataLt ds[j] ds[j + 1] := by
        unfold ltAt
        rw [List.getD_eq_getElem?_getD, List.getD_eq_getElem?_getD, List.getElem?_eq_getElem (show j < ds.length by omega), List.getElem?_eq_getElem j1]
        rfl
      rw [List.map_singleton, e1]
      rfl
    · rintro H4 ⟨eD, S⟩
      have en : ((xs.length : Int) - 1).toNat = ds.length - 1 := by omega
      rw [en] at eD
      refine ⟨D0, _, rfl, SqL.of eD, ?_⟩
      rw [rise_range]
      exact q H4 S
end
end S2

set_option Elab.async false
set_option linter.all false
set_option maxRecDepth 100000
set_option maxHeartbeats 2000000
/-! names, letters, clauses, rows: any data asked -/
namespace S2
open PySem PySem.W PySem.Spec PyProof.Rows L2 S1
/-- the numbers at the head of the program -/
structure Cst (mg : Str → Option Value) : Prop where
  small : ∃ t, mg "SMALL" = some (.str "abcdefghijklmnopqrstuvwxyz" t)
  signs : ∃ t, mg "MOST_SIGNS" = some (.int 8 t)
  picks : ∃ t, mg "MOST_PICKS" = some (.int 6 t)
  owns : ∃ t, mg "MOST_OWNS" = some (.int 8 t)
  clauses : ∃ t, mg "MOST_CLAUSES" = some (.int 40 t)
  copies : ∃ t, mg "MOST_COPIES" = some (.int 120 t)
def azB (c : Nat) : Bool := decide (97 ≤ c ∧ c ≤ 122)
theorem abc_iff (c : Nat) : decide (c ∈ ("abcdefghijklmnopqrstuvwxyz" : Str).cps.toList) = azB c := by
  have z : ∀ k, k < 123 → decide (k ∈ ("abcdefghijklmnopqrstuvwxyz" : Str).cps.toList) = azB k := by decide +kernel
  by_cases h : c < 123
  · exact z c h
  · have hm : c ∉ ("abcdefghijklmnopqrstuvwxyz" : Str).cps.toList := fun m => by
      have y : ∀ k ∈ ("abcdefghijklmnopqrstuvwxyz" : Str).cps.toList, k < 123 := by decide +kernel
      exact h (y c m)
    rw [decide_eq_false hm, azB, decide_eq_false (by omega)]
theorem nmB_eq (x : Str) : nmB x = (decide (1 ≤ x.length) && decide (x.length ≤ 8) && (x.cps.toList.map azB).all id) := by
  rw [all_id]
  rfl
section
variable {K : PySem.W.Frag} {g : TG} {te : TE} {vs : List Nat} {σ : L2.St} {H : Hp} {D : Addr} {Qd : Hp → Prop}
theorem lc_boolS {x : Str} {p : Nat → Bool} (hD : H D = none) (len : x.cps.size ≤ 1000)
    (step : ∀ (c : Nat) (H4 : Hp) (Qe : VK), c ∈ x.cps.toList → Same H H4 → (∀ H5, Same H4 H5 → Qe (.bl (p c)) H5) → g (.str ⟨#[c]⟩) (wipe σ vs) H4 fun σ2 H2 => wipe σ2 vs = wipe σ vs ∧ te σ2 H2 Qe)
    (gm : ∀ x σ1 H1 (A B : L2.St → Hp → Prop), (∀ σ2 H2, A σ2 H2 → B σ2 H2) → g x σ1 H1 A → g x σ1 H1 B)
    (hd : ∀ H5, H5 D = some (.lst ((x.cps.toList.map p).map V.bl)) → Same H H5 → Qd H5) :
    ∃ W : Nat → Nat → Hp → Prop, (∃ m, W 0 m (upd H D (.lst []))) ∧ ∀ i m H, W i m H →
      ((Its x).stop i H ∧ Qd H) ∨ ((Its x).go i H ∧ ∃ Nx : Hp → Prop, (∀ H', Nx H' → ∃ m', m' < m ∧ W (i + 1) m' H') ∧ ∀ y H', (Its x).yld i H y H' → g y (wipe σ vs) H' fun σ2 H2 => wipe σ2 vs = wipe σ vs ∧ tYes σ2 H2 fun b H3 =>
        if b = true then te σ2 H3 fun y H4 => ∃ acc, H4 D = some (.lst acc) ∧ acc.length < sizeLine ∧ Nx (upd H4 D (.lst (acc ++ [y]))) else Nx H3) := by
  refine ⟨fun i m H4 => m = x.cps.size - i ∧ i ≤ x.cps.size ∧ H4 D = some (.lst (((x.cps.toList.take i).map p).map V.bl)) ∧ Same H H4, ⟨_, rfl, Nat.zero_le _, upd_same, same_new hD⟩, ?_⟩
  rintro i m H4 ⟨rfl, hi, e4, S4⟩
  by_cases il : i < x.cps.size
  · refine .inr ⟨il, fun H5 => i + 1 ≤ x.cps.size ∧ H5 D = some (.lst (((x.cps.toList.take (i + 1)).map p).map V.bl)) ∧ Same H H5, fun H5 z => ⟨x.cps.size - (i + 1), by omega, rfl, z.1, z.2⟩, ?_⟩
    rintro y H' ⟨rfl, c, hc, rfl⟩
    have hc' : x.cps.toList[i]? = some c := by rw [Array.getElem?_toList]; exact hc
    have mc : c ∈ x.cps.toList := List.mem_of_getElem? hc'
    refine gm _ _ _ _ _ (fun σ2 H2 z => ⟨z.1, yes_of z.2⟩) (step c _ _ mc S4 fun H5 S5 => ?_)
    have e5 := S5 _ _ e4
    refine ⟨_, e5, ?_, il, ?_, same_upd (S4.trans S5) hD⟩
    · rw [List.length_map, List.length_map, List.length_take, Array.length_toList]
      exact small1000 (by omega)
    · rw [upd_same, take_next hc', List.map_append, List.map_append]
      rfl
  · have e : i = x.cps.size := by omega
    subst e
    rw [← Array.length_toList, List.take_length] at e4
    exact .inl ⟨Nat.le_refl _, hd H4 e4 S4⟩
end
theorem ite_yes {c A B : Prop} [Decidable c] (h : c) (k : A) : if c then A else B := by rw [if_pos h]; exact k
theorem let_eq (d : PyData) : isLt d = (pairB d && (isNm ((parts d).getD 0 .none) && isTr ((parts d).getD 1 .none))) := by
  cases d with
  | tuple ds =>
    match ds with
    | [] => rfl
    | [a] => rfl
    | [a, b] => rfl
    | a :: b :: c :: r =>
      have h : decide ((parts (.tuple (a :: b :: c :: r))).length = 2) = false := decide_eq_false (fun z => by simp [parts] at z)
      rw [pairB, h, Bool.and_false]
      rfl
  | _ => rfl
theorem pair_of {d : PyData} (h : pairB d = true) : ∃ a b, d = .tuple [a, b] := by
  unfold pairB at h
  rw [Bool.and_eq_true, decide_eq_true_eq] at h
  obtain ⟨ds, rfl⟩ := tup_of h.1
  match ds, h.2 with
  | [a, b], _ => exact ⟨a, b, rfl⟩
theorem dats_two {H : Hp} {xs : List V} {d e : PyData} (D : DatAll H xs [d, e]) : ∃ x y, xs = [x, y] ∧ Dat H x d ∧ Dat H y e := by
  cases D with
  | cons h1 D =>
    cases D with
    | cons h2 D =>
      cases D
      exact ⟨_, _, rfl, h1, h2⟩
theorem lim_two {d e : PyData} (h : lim (.tuple [d, e]) = true) : lim d = true ∧ lim e = true := by
  obtain ⟨_, h⟩ := lim_tup h
  exact ⟨h d List.mem_cons_self, h e (List.mem_cons_of_mem _ List.mem_cons_self)⟩
section
variable {P : Program} {w : World} {K : PySem.W.Frag} {mg : Str → Option Value} {base : Heap}
theorem scIsName : FnScope ["value", "sign"] ["value"] (defScope sIsName) := ⟨rfl, rfl, rfl, by decide +kernel, rfl, by decide +kernel, by decide +kernel⟩
theorem scIsLetter : FnScope ["value"] ["value"] (defScope sIsLetter) := ⟨rfl, rfl, rfl, by decide +kernel, rfl, by decide +kernel, by decide +kernel⟩
theorem scIsAnyClause : FnScope ["value", "part", "letter"] ["value"] (defScope sIsAnyClause) := ⟨rfl, rfl, rfl, by decide +kernel, rfl, by decide +kernel, by decide +kernel⟩
theorem scAreNames : FnScope ["value", "most", "part"] ["value", "most"] (defScope sAreNames) := ⟨rfl, rfl, rfl, by decide +kernel, rfl, by decide +kernel, by decide +kernel⟩
theorem ok_isName {f : Addr} {fd : FuncData} (F : Fun K "is_name" "is_name" sIsName f fd) (B : Blt mg) (C : Cst mg) : FnOk P w K mg base CX0 1 f fd ["value"] (spJ isNm) := by
  obtain ⟨t1, c1⟩ := C.small
  obtain ⟨t2, c2⟩ := C.signs
  refine F.ok scIsName (fun vs H Q E h => ?_) (fun cdv A outer s H vs Q E hr h => ?_)
  · obtain ⟨v, d, rfl, _⟩ := h
    rfl
  · obtain ⟨v, d, rfl, D, li, q⟩ := h
    refine ⟨_, pss_cons (ps_if (PW.pt (pw_or (pt_not (pt_val (pe_callB call_isi (by rfl) B.isi (by decide +kernel) (pa_cons (pv 0) (pa_cons (pe_bltn (v := V.ty "str") (by rfl) B.str (by decide +kernel) rfl) pa_nil)))))
        (pw_or1 (pt_not (pt_chain op_le op_le pe_int (pe_callB call_len_str (by rfl) B.len (by decide +kernel) (pa_cons (pv 0) pa_nil)) (pe_glob (v := V.int 8) rfl c2 ⟨_, rfl⟩)))))) (pss_one (ps_ret pe_bl)) pss_nil)
      (pss_one (ps_ret (pe_callB (cr_all rfl) (by rfl) B.all (by decide +kernel) (pa_cons (pe_lc (own := [("sign", 1)]) (g := gName 1) (tt := tYes) rfl scIsName.nd (pi_str (pv 0))
        (blkOk_by (N := ["value", "sign"]) (sc := defScope sIsName) (by decide +kernel)) (fun _ _ _ _ _ => pg_name (i := 1) scIsName.nd rfl (Or.inl rfl)) (fun _ _ _ _ _ => pts_nil)
        (fun _ _ _ _ _ => pe_cmpR op_in_sign (pv 1) (pe_glob (v := V.str "abcdefghijklmnopqrstuvwxyz") rfl c1 ⟨_, rfl⟩) (by with_unfolding_all rfl))) pa_nil)))), ?_⟩
    refine ⟨_, rfl, _, _, _, _, isStr d, rfl, .ty _, ty_dat D, kit_ty (kit_str d), isStr d, rfl, ?_⟩
    cases h : isStr d with
    | false =>
      show if (!false) = true then _ else _
      rw [if_pos (by decide)]
      show if true = true then _ else _
      rw [if_pos rfl]
      have e : isNm d = false := by cases d <;> first | rfl | cases h
      rw [e] at q
      exact q H (Same.refl _)
    | true =>
      obtain ⟨x, rfl⟩ := str_of h
      cases dat_str D
      have len1 : x.length ≤ 1000 := by rw [lim, decide_eq_true_eq] at li; exact li
      have len : x.length ≤ sizeLine := Nat.le_of_lt (small1000 len1)
      have e := nmB_eq x
      show if (!true) = true then _ else _
      rw [if_neg (by decide)]
      refine ⟨_, rfl, x, rfl, len, _, _, rfl, rfl, _, rfl, ?_⟩
      have fin0 : nmB x = false → Q (.bl false) H := fun z => by
        have q' := q H (Same.refl _)
        rw [show isNm (.str x) = nmB x from rfl, z] at q'
        exact q'
      refine ite2 (fun h1 => ?_) (fun h1 => ?_)
      · refine ⟨_, _, rfl, rfl, _, rfl, ?_⟩
        have l1 : (1 : Int) ≤ (x.length : Int) := of_decide_eq_true h1
        cases h2 : decide ((x.length : Int) ≤ 8) with
        | false =>
          show if (!false) = true then _ else _
          rw [if_pos (by decide)]
          have l8 : ¬ (x.length : Int) ≤ 8 := of_decide_eq_false h2
          exact fin0 (by rw [e, decide_eq_false (show ¬ x.length ≤ 8 by omega), Bool.and_false, Bool.false_and])
        | true =>
          show if (!true) = true then _ else _
          rw [if_neg (by decide)]
          have l8 : (x.length : Int) ≤ 8 := of_decide_eq_true h2
          have e' : isNm (.str x) = (x.cps.toList.map azB).all id := by
            show nmB x = _
            rw [e, decide_eq_true (show 1 ≤ x.length by omega), decide_eq_true (show x.length ≤ 8 by omega), Bool.true_and, Bool.true_and]
          refine ⟨_, rfl, x, rfl, fun D0 hD => ?_⟩
          refine lc_boolS (p := azB) hD (by show x.length ≤ 1000; omega) (fun c H4 Qe mc S4 k => ?_) gName_mono (fun H5 e5 S5 => ?_)
          · refine ⟨rfl, _, rfl, c, _, rfl, rfl, ?_⟩
            show Qe (.bl (decide _)) H4
            rw [abc_iff]
            exact k H4 (Same.refl _)
          · refine ⟨D0, _, rfl, SqL.of e5, ?_⟩
            rw [← e']
            exact q H5 S5
      · have l1 : ¬ (1 : Int) ≤ (x.length : Int) := fun z => h1 (decide_eq_true z)
        refine ⟨_, rfl, ?_⟩
        show if (!false) = true then _ else _
        rw [if_pos (by decide)]
        exact fin0 (by rw [e, decide_eq_false (show ¬ 1 ≤ x.length by omega), Bool.false_and, Bool.false_and])
theorem ok_isLetter {f fP fN fT : Addr} {fd fdP fdN fdT : FuncData} (F : Fun K "is_letter" "is_letter" sIsLetter f fd) (Pr : Has K mg "is_pair" sIsPair ["value"] fP fdP) (Nn : Has K mg "is_name" sIsName ["value"] fN fdN) (Tr : Has K mg "is_truth" sIsTruth ["value"] fT fdT)
    (B : Blt mg) (C : Cst mg) : FnOk P w K mg base CX0 2 f fd ["value"] (spJ isLt) := by
  have GP : FnOk P w K mg base CX0 1 fP fdP ["value"] (spJ pairB) := ok_isPair Pr.F B
  have GN : FnOk P w K mg base CX0 1 fN fdN ["value"] (spJ isNm) := ok_isName Nn.F B C
  have GT : FnOk P w K mg base CX0 1 fT fdT ["value"] (spJ isTr) := ok_isTruth Tr.F
  refine F.ok scIsLetter (fun vs H Q E h => ?_) (fun cdv A outer s H vs Q E hr h => ?_)
  · obtain ⟨v, d, rfl, _⟩ := h
    rfl
  · obtain ⟨v, d, rfl, D, li, q⟩ := h
    refine ⟨_, pss_one (ps_ret (pe_and (pe_call GP hr rfl Pr.g Pr.F.kp Pr.b .nil pass0 (pa_cons (pv 0) pa_nil)) (pe_and (pe_call GN hr rfl Nn.g Nn.F.kp Nn.b .nil pass0 (pa_cons (pe_ix ix_tup (pv 0) pe_int (fun _ _ => rfl)) pa_nil))
      (pe_one (pe_call GT hr rfl Tr.g Tr.F.kp Tr.b .nil pass0 (pa_cons (pe_ix ix_tup (pv 0) pe_int (fun _ _ => rfl)) pa_nil)))))), ?_⟩
    have e := let_eq d
    refine ⟨_, rfl, v, d, rfl, D, li, fun H1 S1 => ⟨pairB d, rfl, ?_⟩⟩
    cases h : pairB d with
    | false =>
      rw [h, Bool.false_and] at e
      rw [e] at q
      show if false = true then _ else _
      rw [if_neg (by decide)]
      exact q H1 S1
    | true =>
      obtain ⟨a, b, rfl⟩ := pair_of h
      obtain ⟨t, xs, rfl, et, Da⟩ := dat_tup D
      obtain ⟨x, y, rfl, D1, D2⟩ := dats_two Da
      obtain ⟨l1, l2⟩ := lim_two li
      show if true = true then _ else _
      rw [if_pos rfl]
      refine ⟨_, rfl, t, _, 0, _, rfl, rfl, SqT.of (S1 _ _ et), rfl, x, a, rfl, D1.same S1, l1, fun H2 S2 => ⟨isNm a, rfl, ?_⟩⟩
      have e2 : isLt (.tuple [a, b]) = (isNm a && isTr b) := rfl
      rw [e2] at q
      have S12 := S1.trans S2
      cases h2 : isNm a with
      | false =>
        rw [h2] at q
        show if false = true then _ else _
        rw [if_neg (by decide)]
        exact q H2 S12
      | true =>
        rw [h2] at q
        show if true = true then _ else _
        rw [if_pos rfl]
        exact ⟨_, rfl, t, _, 1, _, rfl, rfl, SqT.of (S12 _ _ et), rfl, y, b, rfl, D2.same S12, l2, fun H3 S3 => q H3 (S12.trans S3)⟩
theorem likes_strs {α : Type} (f : α → Str) (l : List α) : Likes (l.map fun x => PyData.str (f x)) := by
  refine ⟨fun d hd => ?_, fun d hd e he => ?_⟩
  · obtain ⟨x, _, rfl⟩ := List.mem_map.mp hd
    exact ⟨(fun z => nomatch z), Nat.zero_le _⟩
  · obtain ⟨x, _, rfl⟩ := List.mem_map.mp hd
    obtain ⟨y, _, rfl⟩ := List.mem_map.mp he
    simp [alike]
theorem likes_nms {ds : List PyData} (h : ds.all isNm = true) : Likes ds := by
  rw [List.all_eq_true] at h
  refine ⟨fun d hd => ?_, fun d hd e he => ?_⟩
  · obtain ⟨x, rfl, _⟩ := nm_of' (h d hd)
    exact ⟨(fun z => nomatch z), Nat.zero_le _⟩
  · obtain ⟨x, rfl, _⟩ := nm_of' (h d hd)
    obtain ⟨y, rfl, _⟩ := nm_of' (h e he)
    simp [alike]
theorem lt_of {d : PyData} (h : isLt d = true) : ∃ x b, d = .tuple [.str x, .bool b] ∧ nmB x = true := by
  rw [let_eq, Bool.and_eq_true, Bool.and_eq_true] at h
  obtain ⟨a, b, rfl⟩ := pair_of h.1
  obtain ⟨x, ex, hx⟩ := nm_of' h.2.1
  have h3 : isTr b = true := h.2.2
  cases b with
  | bool c =>
    have ex' : a = .str x := ex
    subst ex'
    exact ⟨x, c, rfl, hx⟩
  | _ => cases h3
theorem dats_strs' {H : Hp} {α : Type} (f : α → Str) : ∀ l : List α, DatAll H (l.map fun x => V.str (f x)) (l.map fun x => PyData.str (f x))
  | [] => .nil
  | x :: l => .cons (.str _) (dats_strs' f l)
theorem ok_isAnyClause {f fL fR : Addr} {fd fdL fdR : FuncData} (F : Fun K "is_any_clause" "is_any_clause" sIsAnyClause f fd) (Le : Has K mg "is_letter" sIsLetter ["value"] fL fdL) (GL : FnOk P w K mg base CX0 2 fL fdL ["value"] (spJ isLt))
    (Ri : Has K mg "is_rising" sIsRising ["parts"] fR fdR) (B : Blt mg) : FnOk P w K mg base CX0 3 f fd ["value"] (spJ isCl) := by
  have GR : FnOk P w K mg base CX0 1 fR fdR ["parts"] (spRise K) := ok_isRising Ri.F B
  refine F.ok scIsAnyClause (fun vs H Q E h => ?_) (fun cdv A outer s H vs Q E hr h => ?_)
  · obtain ⟨v, d, rfl, _⟩ := h
    rfl
  · obtain ⟨v, d, rfl, D, li, q⟩ := h
    have hr1 := hr.mono (show 1 ≤ 2 by decide)
    refine ⟨_, pss_cons (ps_if (PW.pt (pw_or (pt_not (pt_val (pe_callB call_isi (by rfl) B.isi (by decide +kernel) (pa_cons (pv 0) (pa_cons (pe_bltn (v := V.ty "tuple") (by rfl) B.tuple (by decide +kernel) rfl) pa_nil)))))
        (pw_or1 (pt_not (pt_val (pe_callB (cr_all rfl) (by rfl) B.all (by decide +kernel) (pa_cons (pe_lc (own := [("part", 1)]) (g := gName 1) (tt := tYes) rfl scIsAnyClause.nd (pi_tup (pv 0))
          (blkOk_by (N := ["value", "part", "letter"]) (sc := defScope sIsAnyClause) (by decide +kernel)) (fun _ _ _ _ _ => pg_name (i := 1) scIsAnyClause.nd rfl (Or.inl rfl)) (fun _ _ _ _ _ => pts_nil)
          (fun _ _ _ _ _ => pe_call GL (by exact hr) (by rfl) Le.g Le.F.kp Le.b .nil pass0 (pa_cons (pv 1) pa_nil))) pa_nil))))))) (pss_one (ps_ret pe_bl)) pss_nil)
      (pss_one (ps_ret (pe_call GR hr1 rfl Ri.g Ri.F.kp Ri.b .nil pass0 (pa_cons (pe_lc (own := [("letter", 2)]) (g := gName 2) (tt := tYes) (te := tOp (rIxT K) (tVar 2) (tC (V.int 0))) rfl scIsAnyClause.nd (pi_tup (pv 0))
          (blkOk_by (N := ["value", "part", "letter"]) (sc := defScope sIsAnyClause) (by decide +kernel)) (fun _ _ _ _ _ => pg_name (i := 2) scIsAnyClause.nd rfl (Or.inl rfl)) (fun _ _ _ _ _ => pts_nil)
          (fun _ _ _ _ _ => by exact pe_ix ix_tup (pv 2) pe_int (fun _ _ => rfl))) pa_nil)))), ?_⟩
    refine ⟨_, rfl, _, _, _, _, isTup d, rfl, .ty _, ty_dat D, kit_ty (kit_tup d), isTup d, rfl, ?_⟩
    cases h : isTup d with
    | false =>
      rw [isCl, h, Bool.false_and] at q
      show if (!false) = true then _ else _
      rw [if_pos (by decide)]
      show if true = true then _ else _
      rw [if_pos rfl]
      exact q H (Same.refl _)
    | true =>
      rw [isCl, h, Bool.true_and] at q
      obtain ⟨ds, rfl⟩ := tup_of h
      obtain ⟨a, xs, rfl, e, Da⟩ := dat_tup D
      obtain ⟨len, lm⟩ := lim_tup li
      show if (!true) = true then _ else _
      rw [if_neg (by decide)]
      refine ⟨_, rfl, a, rfl, ⟨_, SqT.of e⟩, fun D0 hD0 => lc_allD (K := K) (p := isLt) e Da hD0 len (fun i x d H4 Qe hd S4 Dx k => ?_) gName_mono (fun H5 e5 S5 => ?_)⟩
      · exact ⟨rfl, _, rfl, x, d, rfl, Dx, lm d (List.mem_of_getElem? hd), k⟩
      · refine ⟨D0, _, rfl, SqL.of e5, _, rfl, ?_⟩
        rw [all_id]
        have q1 : ∀ H', Same H H' → Q (.bl (ds.all isLt && riseB (ds.map fun x => .str (fstS x)))) H' := q
        cases h2 : ds.all isLt with
        | false =>
          rw [h2] at q1
          show if (!false) = true then _ else _
          rw [if_pos (by decide)]
          exact q1 H5 S5
        | true =>
          rw [h2] at q1
          show if (!true) = true then _ else _
          rw [if_neg (by decide)]
          refine ⟨_, rfl, a, rfl, ⟨_, SqT.of (S5 _ _ e)⟩, fun D1 hD1 => lc_mapD (K := K) (f := fun x => V.str (fstS x)) (S5 _ _ e) (DatAll.same S5 Da) hD1 len (fun i x d H4 Qe hd S4 Dx k => ?_) gName_mono (fun H6 e6 S6 => ?_)⟩
          · obtain ⟨z, b, rfl, _⟩ := lt_of (List.all_eq_true.mp h2 d (List.mem_of_getElem? hd))
            obtain ⟨t, ys, rfl, et, Dt⟩ := dat_tup Dx
            obtain ⟨u1, u2, rfl, D1', D2'⟩ := dats_two Dt
            cases dat_str D1'
            exact ⟨rfl, _, rfl, t, _, 0, _, rfl, rfl, SqT.of et, rfl, k H4 (Same.refl _)⟩
          · exact ⟨D1, _, _, rfl, .inl (SqL.of e6), dats_strs' fstS ds, likes_strs fstS ds, by rw [List.length_map]; exact len, fun H' S => q1 H' ((S5.trans S6).trans S)⟩
def spNames : Sp := fun vs H Q _ => ∃ (v : V) (d : PyData) (n : Nat), vs = [v, .int (n : Nat)] ∧ Dat H v d ∧ lim d = true ∧ ∀ H', Same H H' → Q (.bl (isNames n d)) H'
theorem ok_areNames {f fU fN fR : Addr} {fd fdU fdN fdR : FuncData} (F : Fun K "are_names" "are_names" sAreNames f fd) (Tu : Has K mg "is_tuple" sIsTuple ["value", "most"] fU fdU) (Nn : Has K mg "is_name" sIsName ["value"] fN fdN)
    (Ri : Has K mg "is_rising" sIsRising ["parts"] fR fdR) (B : Blt mg) (C : Cst mg) : FnOk P w K mg base CX0 2 f fd ["value", "most"] spNames := by
  have GU : FnOk P w K mg base CX0 1 fU fdU ["value", "most"] spTupN := ok_isTuple Tu.F B
  have GN : FnOk P w K mg base CX0 1 fN fdN ["value"] (spJ isNm) := ok_isName Nn.F B C
  have GR : FnOk P w K mg base CX0 1 fR fdR ["parts"] (spRise K) := ok_isRising Ri.F B
  refine F.ok scAreNames (fun vs H Q E h => ?_) (fun cdv A outer s H vs Q E hr h => ?_)
  · obtain ⟨v, d, n, rfl, _⟩ := h
    rfl
  · obtain ⟨v, d, n, rfl, D, li, q⟩ := h
    refine ⟨_, pss_cons (ps_if (PW.pt (pw_or (pt_not (pt_val (pe_call GU hr rfl Tu.g Tu.F.kp Tu.b .nil pass0 (pa_cons (pv 0) (pa_cons (pv 1) pa_nil)))))
        (pw_or1 (pt_not (pt_val (pe_callB (cr_all rfl) (by rfl) B.all (by decide +kernel) (pa_cons (pe_lc (own := [("part", 2)]) (g := gName 2) (tt := tYes) rfl scAreNames.nd (pi_tup (pv 0))
          (blkOk_by (N := ["value", "most", "part"]) (sc := defScope sAreNames) (by decide +kernel)) (fun _ _ _ _ _ => pg_name (i := 2) scAreNames.nd rfl (Or.inl rfl)) (fun _ _ _ _ _ => pts_nil)
          (fun _ _ _ _ _ => pe_call GN (by exact hr) (by rfl) Nn.g Nn.F.kp Nn.b .nil pass0 (pa_cons (pv 2) pa_nil))) pa_nil))))))) (pss_one (ps_ret pe_bl)) pss_nil)
      (pss_one (ps_ret (pe_call GR hr rfl Ri.g Ri.F.kp Ri.b .nil pass0 (pa_cons (pv 0) pa_nil)))), ?_⟩
    refine ⟨_, rfl, _, rfl, v, d, n, rfl, D, li, fun H1 S1 => ⟨_, rfl, ?_⟩⟩
    have eN : isNames n d = ((isTup d && decide ((parts d).length ≤ n)) && ((parts d).all isNm && riseB (parts d))) := by rw [isNames, Bool.and_assoc]
    rw [eN] at q
    cases h : (isTup d && decide ((parts d).length ≤ n)) with
    | false =>
      rw [h, Bool.false_and] at q
      show if (!false) = true then _ else _
      rw [if_pos (by decide)]
      show if true = true then _ else _
      rw [if_pos rfl]
      exact q H1 S1
    | true =>
      rw [h, Bool.true_and] at q
      rw [Bool.and_eq_true] at h
      obtain ⟨ds, rfl⟩ := tup_of h.1
      obtain ⟨a, xs, rfl, e, Da⟩ := dat_tup D
      obtain ⟨len, lm⟩ := lim_tup li
      show if (!true) = true then _ else _
      rw [if_neg (by decide)]
      refine ⟨_, rfl, a, rfl, ⟨_, SqT.of (S1 _ _ e)⟩, fun D0 hD0 => lc_allD (K := K) (p := isNm) (S1 _ _ e) (DatAll.same S1 Da) hD0 len (fun i x d H4 Qe hd S4 Dx k => ?_) gName_mono (fun H5 e5 S5 => ?_)⟩
      · exact ⟨rfl, _, rfl, x, d, rfl, Dx, lm d (List.mem_of_getElem? hd), k⟩
      · refine ⟨D0, _, rfl, SqL.of e5, _, rfl, ?_⟩
        rw [all_id]
        have S15 := S1.trans S5
        have q1 : ∀ H', Same H H' → Q (.bl (ds.all isNm && riseB ds)) H' := q
        cases h2 : ds.all isNm with
        | false =>
          rw [h2] at q1
          show if (!false) = true then _ else _
          rw [if_pos (by decide)]
          exact q1 H5 S15
        | true =>
          rw [h2] at q1
          show if (!true) = true then _ else _
          rw [if_neg (by decide)]
          exact ⟨_, rfl, a, _, ds, rfl, .inr (SqT.of (S15 _ _ e)), DatAll.same S15 Da, likes_nms h2, len, fun H' S => q1 H' (S15.trans S)⟩
end
end S2

set_option Elab.async false
set_option linter.all false
set_option maxRecDepth 100000
set_option maxHeartbeats 4000000
/-! all([.. for ..]) where each one is True -/
namespace S1
open PySem PySem.W PySem.Spec PyProof.Rows L2
abbrev trues (n : Nat) : HO := .lst ((List.replicate n true).map V.bl)
theorem trues_next {H : Hp} {D : Addr} {n : Nat} (e : H D = some (trues n)) : upd H D (.lst ((List.replicate n true).map V.bl ++ [V.bl true])) D = some (trues (n + 1)) := by
  rw [upd_same]
  show some _ = some (HO.lst ((List.replicate (n + 1) true).map V.bl))
  rw [List.replicate_succ', List.map_append]
  rfl
theorem trues_all (n : Nat) : (List.replicate n true).all id = true := by
  rw [List.all_eq_true]
  exact fun b hb => (List.mem_replicate.mp hb).2
section
variable {K : PySem.W.Frag} {g : TG} {te : TE} {vs : List Nat} {σ : L2.St} {H : Hp} {D : Addr} {Qd : Hp → Prop}
theorem lc_allT {a : Addr} {xs : List V} (sq : SqT K H a xs) (hD : H D = none) (len : xs.length ≤ 1000)
    (step : ∀ (i : Nat) (x : V) (H4 : Hp) (Qe : VK), xs[i]? = some x → Same H H4 → (∀ H5, Same H4 H5 → Qe (.bl true) H5) → g x (wipe σ vs) H4 fun σ2 H2 => wipe σ2 vs = wipe σ vs ∧ te σ2 H2 Qe)
    (gm : ∀ x σ1 H1 (A B : L2.St → Hp → Prop), (∀ σ2 H2, A σ2 H2 → B σ2 H2) → g x σ1 H1 A → g x σ1 H1 B)
    (hd : ∀ H5, H5 D = some (trues xs.length) → Same H H5 → Qd H5) :
    ∃ W : Nat → Nat → Hp → Prop, (∃ m, W 0 m (upd H D (.lst []))) ∧ ∀ i m H, W i m H →
      ((Itt K a).stop i H ∧ Qd H) ∨ ((Itt K a).go i H ∧ ∃ Nx : Hp → Prop, (∀ H', Nx H' → ∃ m', m' < m ∧ W (i + 1) m' H') ∧ ∀ x H', (Itt K a).yld i H x H' → g x (wipe σ vs) H' fun σ2 H2 => wipe σ2 vs = wipe σ vs ∧ tYes σ2 H2 fun b H3 =>
        if b = true then te σ2 H3 fun y H4 => ∃ acc, H4 D = some (.lst acc) ∧ acc.length < sizeLine ∧ Nx (upd H4 D (.lst (acc ++ [y]))) else Nx H3) := by
  refine lc_tup (K := K) (a := a) (xs := xs) (fun j H4 => H4 D = some (trues j) ∧ Same H H4) ⟨upd_same, same_new hD⟩ (fun i H4 _ h => same_tup h.2 sq) (fun i x H4 hx h => ?_) (fun H5 h => hd H5 h.1 h.2)
  have il : i < xs.length := (List.getElem?_eq_some_iff.mp hx).1
  refine gm x _ _ _ _ (fun σ2 H2 z => ⟨z.1, yes_of z.2⟩) (step i x H4 _ hx h.2 fun H5 S5 => ?_)
  have e5 := S5 _ _ h.1
  exact ⟨_, e5, by rw [List.length_map, List.length_replicate]; exact small1000 (by omega), trues_next e5, same_upd (h.2.trans S5) hD⟩
theorem lc_allL {a : Addr} {xs : List V} (sq : SqL K H a xs) (hD : H D = none) (len : xs.length ≤ 1000)
    (step : ∀ (i : Nat) (x : V) (H4 : Hp) (Qe : VK), xs[i]? = some x → Same H H4 → (∀ H5, Same H4 H5 → Qe (.bl true) H5) → g x (wipe σ vs) H4 fun σ2 H2 => wipe σ2 vs = wipe σ vs ∧ te σ2 H2 Qe)
    (gm : ∀ x σ1 H1 (A B : L2.St → Hp → Prop), (∀ σ2 H2, A σ2 H2 → B σ2 H2) → g x σ1 H1 A → g x σ1 H1 B)
    (hd : ∀ H5, H5 D = some (trues xs.length) → Same H H5 → Qd H5) :
    ∃ W : Nat → Nat → Hp → Prop, (∃ m, W 0 m (upd H D (.lst []))) ∧ ∀ i m H, W i m H →
      ((Itl K a).stop i H ∧ Qd H) ∨ ((Itl K a).go i H ∧ ∃ Nx : Hp → Prop, (∀ H', Nx H' → ∃ m', m' < m ∧ W (i + 1) m' H') ∧ ∀ x H', (Itl K a).yld i H x H' → g x (wipe σ vs) H' fun σ2 H2 => wipe σ2 vs = wipe σ vs ∧ tYes σ2 H2 fun b H3 =>
        if b = true then te σ2 H3 fun y H4 => ∃ acc, H4 D = some (.lst acc) ∧ acc.length < sizeLine ∧ Nx (upd H4 D (.lst (acc ++ [y]))) else Nx H3) := by
  refine lc_list (K := K) (a := a) (xs := xs) (fun j H4 => H4 D = some (trues j) ∧ Same H H4) ⟨upd_same, same_new hD⟩ (fun i H4 _ h => h.2.seq sq) (fun i x H4 hx h => ?_) (fun H5 h => hd H5 h.1 h.2)
  have il : i < xs.length := (List.getElem?_eq_some_iff.mp hx).1
  refine gm x _ _ _ _ (fun σ2 H2 z => ⟨z.1, yes_of z.2⟩) (step i x H4 _ hx h.2 fun H5 S5 => ?_)
  have e5 := S5 _ _ h.1
  exact ⟨_, e5, by rw [List.length_map, List.length_replicate]; exact small1000 (by omega), trues_next e5, same_upd (h.2.trans S5) hD⟩
theorem lc_allS {x : Str} (hD : H D = none) (len : x.cps.size ≤ 1000)
    (step : ∀ (c : Nat) (H4 : Hp) (Qe : VK), c ∈ x.cps.toList → Same H H4 → (∀ H5, Same H4 H5 → Qe (.bl true) H5) → g (.str ⟨#[c]⟩) (wipe σ vs) H4 fun σ2 H2 => wipe σ2 vs = wipe σ vs ∧ te σ2 H2 Qe)
    (gm : ∀ x σ1 H1 (A B : L2.St → Hp → Prop), (∀ σ2 H2, A σ2 H2 → B σ2 H2) → g x σ1 H1 A → g x σ1 H1 B)
    (hd : ∀ H5, H5 D = some (trues x.cps.size) → Same H H5 → Qd H5) :
    ∃ W : Nat → Nat → Hp → Prop, (∃ m, W 0 m (upd H D (.lst []))) ∧ ∀ i m H, W i m H →
      ((Its x).stop i H ∧ Qd H) ∨ ((Its x).go i H ∧ ∃ Nx : Hp → Prop, (∀ H', Nx H' → ∃ m', m' < m ∧ W (i + 1) m' H') ∧ ∀ y H', (Its x).yld i H y H' → g y (wipe σ vs) H' fun σ2 H2 => wipe σ2 vs = wipe σ vs ∧ tYes σ2 H2 fun b H3 =>
        if b = true then te σ2 H3 fun y H4 => ∃ acc, H4 D = some (.lst acc) ∧ acc.length < sizeLine ∧ Nx (upd H4 D (.lst (acc ++ [y]))) else Nx H3) := by
  refine ⟨fun i m H4 => m = x.cps.size - i ∧ i ≤ x.cps.size ∧ H4 D = some (trues i) ∧ Same H H4, ⟨_, rfl, Nat.zero_le _, upd_same, same_new hD⟩, ?_⟩
  rintro i m H4 ⟨rfl, hi, e4, S4⟩
  by_cases il : i < x.cps.size
  · refine .inr ⟨il, fun H5 => i + 1 ≤ x.cps.size ∧ H5 D = some (trues (i + 1)) ∧ Same H H5, fun H5 z => ⟨x.cps.size - (i + 1), by omega, rfl, z.1, z.2⟩, ?_⟩
    rintro y H' ⟨rfl, c, hc, rfl⟩
    have mc : c ∈ x.cps.toList := List.mem_of_getElem? (by rw [Array.getElem?_toList]; exact hc)
    refine gm _ _ _ _ _ (fun σ2 H2 z => ⟨z.1, yes_of z.2⟩) (step c _ _ mc S4 fun H5 S5 => ?_)
    have e5 := S5 _ _ e4
    exact ⟨_, e5, by rw [List.length_map, List.length_replicate]; exact small1000 (by omega), il, trues_next e5, same_upd (S4.trans S5) hD⟩
  · have e : i = x.cps.size := by omega
    subst e
    exact .inl ⟨Nat.le_refl _, hd H4 e4 S4⟩
end
theorem gName_mono {i : Nat} : ∀ (x : V) (σ1 : L2.St) (H1 : Hp) (A B : L2.St → Hp → Prop), (∀ σ2 H2, A σ2 H2 → B σ2 H2) → gName i x σ1 H1 A → gName i x σ1 H1 B := fun x σ1 H1 A B h z => h _ _ z
end S1

set_option Elab.async false
set_option linter.all false
set_option maxRecDepth 100000
set_option maxHeartbeats 4000000
/-! names, letters, clauses: told to be such -/
namespace S1
open PySem PySem.W PySem.Spec PyProof.Rows L2
/-- the numbers at the head of the program -/
structure Cst (mg : Str → Option Value) : Prop where
  small : ∃ t, mg "SMALL" = some (.str "abcdefghijklmnopqrstuvwxyz" t)
  signs : ∃ t, mg "MOST_SIGNS" = some (.int 8 t)
  picks : ∃ t, mg "MOST_PICKS" = some (.int 6 t)
  owns : ∃ t, mg "MOST_OWNS" = some (.int 8 t)
  clauses : ∃ t, mg "MOST_CLAUSES" = some (.int 40 t)
  copies : ∃ t, mg "MOST_COPIES" = some (.int 120 t)
theorem abc_mem {c : Nat} (h : 97 ≤ c ∧ c ≤ 122) : c ∈ ("abcdefghijklmnopqrstuvwxyz" : Str).cps.toList := by
  have z : ∀ k, k < 123 → 97 ≤ k → k ∈ ("abcdefghijklmnopqrstuvwxyz" : Str).cps.toList := by decide +kernel
  exact z c (by omega) h.1
def spIsName : Sp := fun vs H Q _ => ∃ x : Str, vs = [.str x] ∧ Nm x ∧ ∀ H', Same H H' → Q (.bl true) H'
def spIsLetter : Sp := fun vs H Q _ => ∃ (v : V) (l : Ltr), vs = [v] ∧ Dat H v (ltD l) ∧ Nm l.1 ∧ ∀ H', Same H H' → Q (.bl true) H'
section
variable {P : Program} {w : World} {K : PySem.W.Frag} {mg : Str → Option Value} {base : Heap}
theorem scIsName : FnScope ["value", "sign"] ["value"] (defScope sIsName) := ⟨rfl, rfl, rfl, by decide +kernel, rfl, by decide +kernel, by decide +kernel⟩
theorem scIsLetter : FnScope ["value"] ["value"] (defScope sIsLetter) := ⟨rfl, rfl, rfl, by decide +kernel, rfl, by decide +kernel, by decide +kernel⟩
theorem ok_isName {f : Addr} {fd : FuncData} (F : Fun K "is_name" "is_name" sIsName f fd) (B : Blt mg) (C : Cst mg) : FnOk P w K mg base CX0 1 f fd ["value"] spIsName := by
  obtain ⟨t1, c1⟩ := C.small
  obtain ⟨t2, c2⟩ := C.signs
  refine F.ok scIsName (fun vs H Q E h => ?_) (fun cdv A outer s H vs Q E hr h => ?_)
  · obtain ⟨x, rfl, _⟩ := h
    rfl
  · obtain ⟨x, rfl, nx, q⟩ := h
    refine ⟨_, pss_cons (ps_if (PW.pt (pw_or (pt_not (pt_val (pe_callB call_isi (by rfl) B.isi (by decide +kernel) (pa_cons (pv 0) (pa_cons (pe_bltn (v := V.ty "str") (by rfl) B.str (by decide +kernel) rfl) pa_nil)))))
        (pw_or1 (pt_not (pt_chain op_le op_le pe_int (pe_callB call_len_str (by rfl) B.len (by decide +kernel) (pa_cons (pv 0) pa_nil)) (pe_glob (v := V.int 8) rfl c2 ⟨_, rfl⟩)))))) (pss_one (ps_ret pe_bl)) pss_nil)
      (pss_one (ps_ret (pe_callB (cr_all rfl) (by rfl) B.all (by decide +kernel) (pa_cons (pe_lc (own := [("sign", 1)]) (g := gName 1) (tt := tYes) rfl scIsName.nd (pi_str (pv 0))
        (blkOk_by (N := ["value", "sign"]) (sc := defScope sIsName) (by decide +kernel)) (fun _ _ _ _ _ => pg_name (i := 1) scIsName.nd rfl (Or.inl rfl)) (fun _ _ _ _ _ => pts_nil)
        (fun _ _ _ _ _ => pe_cmpR op_in_sign (pv 1) (pe_glob (v := V.str "abcdefghijklmnopqrstuvwxyz") rfl c1 ⟨_, rfl⟩) (by with_unfolding_all rfl))) pa_nil)))), ?_⟩
    have len : x.length ≤ sizeLine := Nat.le_of_lt (small1000 (by have := nx.hi; omega))
    refine ⟨_, rfl, _, _, _, _, true, rfl, .ty _, .base (.str x), kit_ty (by decide +kernel), true, rfl, ?_⟩
    show if (!true) = true then _ else _
    rw [if_neg (by decide)]
    refine ⟨_, rfl, x, rfl, len, _, _, rfl, rfl, _, rfl, ?_⟩
    have l1 : (1 : Int) ≤ (x.length : Int) := by have := nx.lo; omega
    have l8 : (x.length : Int) ≤ 8 := by have := nx.hi; omega
    refine ite2 (fun _ => ?_) (fun h => absurd (decide_eq_true l1) h)
    refine ⟨_, _, rfl, rfl, _, rfl, ?_⟩
    rw [show decide ((x.length : Int) ≤ 8) = true from decide_eq_true l8]
    show if (!true) = true then _ else _
    rw [if_neg (by decide)]
    refine ⟨_, rfl, x, rfl, fun D hD => ?_⟩
    refine lc_allS hD (by have := nx.hi; show x.length ≤ 1000; omega) (fun c H4 Qe mc S4 k => ?_) gName_mono (fun H5 e5 S5 => ?_)
    · refine ⟨rfl, _, rfl, c, _, rfl, rfl, ?_⟩
      show Qe (.bl (decide _)) H4
      rw [decide_eq_true (abc_mem (nx.az c mc))]
      exact k H4 (Same.refl _)
    · refine ⟨D, _, rfl, SqL.of e5, ?_⟩
      show Q (.bl _) H5
      rw [trues_all]
      exact q H5 S5
theorem ok_isLetter {f fP fN fT : Addr} {fd fdP fdN fdT : FuncData} (F : Fun K "is_letter" "is_letter" sIsLetter f fd) (Pr : Has K mg "is_pair" sIsPair ["value"] fP fdP) (Nn : Has K mg "is_name" sIsName ["value"] fN fdN) (Tr : Has K mg "is_truth" sIsTruth ["value"] fT fdT)
    (B : Blt mg) (C : Cst mg) : FnOk P w K mg base CX0 2 f fd ["value"] spIsLetter := by
  have GP : FnOk P w K mg base CX0 1 fP fdP ["value"] spIsPair := ok_isPair Pr.F B
  have GN : FnOk P w K mg base CX0 1 fN fdN ["value"] spIsName := ok_isName Nn.F B C
  have GT : FnOk P w K mg base CX0 1 fT fdT ["value"] spIsTruth := ok_isTruth Tr.F
  refine F.ok scIsLetter (fun vs H Q E h => ?_) (fun cdv A outer s H vs Q E hr h => ?_)
  · obtain ⟨v, l, rfl, _⟩ := h
    rfl
  · obtain ⟨v, l, rfl, D, nl, q⟩ := h
    refine ⟨_, pss_one (ps_ret (pe_and (pe_call GP hr rfl Pr.g Pr.F.kp Pr.b .nil pass0 (pa_cons (pv 0) pa_nil)) (pe_and (pe_call GN hr rfl Nn.g Nn.F.kp Nn.b .nil pass0 (pa_cons (pe_ix ix_tup (pv 0) pe_int (fun _ _ => rfl)) pa_nil))
      (pe_one (pe_call GT hr rfl Tr.g Tr.F.kp Tr.b .nil pass0 (pa_cons (pe_ix ix_tup (pv 0) pe_int (fun _ _ => rfl)) pa_nil)))))), ?_⟩
    have D2 : Dat H v (.tuple [.str l.1, .bool l.2]) := D
    cases D2 with
    | @tup a _ _ e h =>
      cases h with
      | cons h1 h =>
        cases h1
        cases h with
        | cons h2 h =>
          cases h2
          cases h
          refine ⟨_, rfl, a, _, _, rfl, e, true, rfl, ?_⟩
          show if true = true then _ else _
          rw [if_pos rfl]
          refine ⟨_, rfl, a, _, 0, _, rfl, rfl, SqT.of e, rfl, l.1, rfl, nl, fun H' S => ⟨true, rfl, ?_⟩⟩
          show if true = true then _ else _
          rw [if_pos rfl]
          exact ⟨_, rfl, a, _, 1, _, rfl, rfl, SqT.of (S _ _ e), rfl, l.2, rfl, q H' S⟩
end
end S1

set_option Elab.async false
set_option linter.all false
set_option maxRecDepth 100000
set_option maxHeartbeats 4000000
/-! clauses of any names, rows of names, rows of truths: told to be such -/
namespace S1
open PySem PySem.W PySem.Spec PyProof.Rows L2
section
variable {K : PySem.W.Frag} {g : TG} {te : TE} {vs : List Nat} {σ : L2.St} {H : Hp} {D : Addr} {Qd : Hp → Prop}
/-- [f(x) for x in a tuple], what it gives known one by one -/
theorem lc_mapT {a : Addr} {xs ys : List V} (sq : SqT K H a xs) (hD : H D = none) (ly : ys.length = xs.length) (len : xs.length ≤ 1000)
    (step : ∀ (i : Nat) (x y : V) (H4 : Hp) (Qe : VK), xs[i]? = some x → ys[i]? = some y → Same H H4 → (∀ H5, Same H4 H5 → Qe y H5) → g x (wipe σ vs) H4 fun σ2 H2 => wipe σ2 vs = wipe σ vs ∧ te σ2 H2 Qe)
    (gm : ∀ x σ1 H1 (A B : L2.St → Hp → Prop), (∀ σ2 H2, A σ2 H2 → B σ2 H2) → g x σ1 H1 A → g x σ1 H1 B)
    (hd : ∀ H5, H5 D = some (.lst ys) → Same H H5 → Qd H5) :
    ∃ W : Nat → Nat → Hp → Prop, (∃ m, W 0 m (upd H D (.lst []))) ∧ ∀ i m H, W i m H →
      ((Itt K a).stop i H ∧ Qd H) ∨ ((Itt K a).go i H ∧ ∃ Nx : Hp → Prop, (∀ H', Nx H' → ∃ m', m' < m ∧ W (i + 1) m' H') ∧ ∀ x H', (Itt K a).yld i H x H' → g x (wipe σ vs) H' fun σ2 H2 => wipe σ2 vs = wipe σ vs ∧ tYes σ2 H2 fun b H3 =>
        if b = true then te σ2 H3 fun y H4 => ∃ acc, H4 D = some (.lst acc) ∧ acc.length < sizeLine ∧ Nx (upd H4 D (.lst (acc ++ [y]))) else Nx H3) := by
  refine lc_tup (K := K) (a := a) (xs := xs) (fun j H4 => H4 D = some (.lst (ys.take j)) ∧ Same H H4) ⟨by rw [upd_same, List.take_zero], same_new hD⟩ (fun i H4 _ h => same_tup h.2 sq) (fun i x H4 hx h => ?_) (fun H5 h => hd H5 (by rw [h.1, ← ly, List.take_length]) h.2)
  have il : i < xs.length := (List.getElem?_eq_some_iff.mp hx).1
  obtain ⟨y, hy⟩ : ∃ y, ys[i]? = some y := ⟨_, List.getElem?_eq_getElem (by omega)⟩
  refine gm x _ _ _ _ (fun σ2 H2 z => ⟨z.1, yes_of z.2⟩) (step i x y H4 _ hx hy h.2 fun H5 S5 => ?_)
  have e5 := S5 _ _ h.1
  exact ⟨_, e5, by rw [List.length_take]; exact small1000 (by omega), by rw [upd_same, take_next hy], same_upd (h.2.trans S5) hD⟩
end
def blsD (bs : List Bool) : PyData := .tuple (bs.map .bool)
def spIsAnyClause : Sp := fun vs H Q _ => ∃ (v : V) (cl : List Ltr), vs = [v] ∧ Dat H v (clD cl) ∧ (cl.Pairwise fun a b => tlt a.1 b.1) ∧ (∀ l ∈ cl, Nm l.1) ∧ cl.length ≤ 1000 ∧ ∀ H', Same H H' → Q (.bl true) H'
def spAreNames : Sp := fun vs H Q _ => ∃ (v : V) (xs : List Str) (n : Int), vs = [v, .int n] ∧ Dat H v (nmsD xs) ∧ xs.Pairwise tlt ∧ (∀ x ∈ xs, Nm x) ∧ (xs.length : Int) ≤ n ∧ xs.length ≤ 1000 ∧ ∀ H', Same H H' → Q (.bl true) H'
def spAreTruths : Sp := fun vs H Q _ => ∃ (v : V) (bs : List Bool), vs = [v, .int bs.length] ∧ Dat H v (blsD bs) ∧ bs.length ≤ 1000 ∧ ∀ H', Same H H' → Q (.bl true) H'
theorem dat_tup {H : Hp} {v : V} {ds : List PyData} (D : Dat H v (.tuple ds)) : ∃ a xs, v = .ref a ∧ H a = some (.tup xs) ∧ DatAll H xs ds := by
  cases D with
  | tup e h => exact ⟨_, _, rfl, e, h⟩
theorem dats_strs_eq {H : Hp} : ∀ {xs : List V} {l : List Str}, DatAll H xs (l.map PyData.str) → xs = l.map V.str
  | _, [], h => by cases h; rfl
  | _, x :: l, h => by
    cases h with
    | cons a b =>
      cases a
      rw [dats_strs_eq b, List.map_cons]
theorem dats_bls_eq {H : Hp} : ∀ {xs : List V} {l : List Bool}, DatAll H xs (l.map PyData.bool) → xs = l.map V.bl
  | _, [], h => by cases h; rfl
  | _, x :: l, h => by
    cases h with
    | cons a b =>
      cases a
      rw [dats_bls_eq b, List.map_cons]
theorem dats_get' {H : Hp} : ∀ {xs : List V} {ds : List PyData}, DatAll H xs ds → ∀ (k : Nat) (x : V), xs[k]? = some x → ∃ d, ds[k]? = some d ∧ Dat H x d
  | _, _, .nil, _, _, h => by simp at h
  | _, _, .cons (d := d) h t, 0, x, e => by
    cases (show some _ = some x from e)
    exact ⟨d, rfl, h⟩
  | _, _, .cons h t, k + 1, x, e => dats_get' t k x e
theorem ltr_row {H : Hp} {x : V} {l : Ltr} (D : Dat H x (ltD l)) : ∃ b, x = .ref b ∧ H b = some (.tup [.str l.1, .bl l.2]) := by
  obtain ⟨b, xs, rfl, e, h⟩ := dat_tup (ds := [.str l.1, .bool l.2]) D
  cases h with
  | cons h1 h =>
    cases h1
    cases h with
    | cons h2 h =>
      cases h2
      cases h
      exact ⟨b, rfl, e⟩
theorem get_map {α : Type} {f : α → PyData} {l : List α} {i : Nat} {d : PyData} (h : (l.map f)[i]? = some d) : ∃ x, l[i]? = some x ∧ d = f x := by
  rw [List.getElem?_map] at h
  obtain ⟨x, hx, e⟩ := Option.map_eq_some_iff.mp h
  exact ⟨x, hx, e.symm⟩
section
variable {P : Program} {w : World} {K : PySem.W.Frag} {mg : Str → Option Value} {base : Heap}
theorem scIsAnyClause : FnScope ["value", "part", "letter"] ["value"] (defScope sIsAnyClause) := ⟨rfl, rfl, rfl, by decide +kernel, rfl, by decide +kernel, by decide +kernel⟩
theorem scAreNames : FnScope ["value", "most", "part"] ["value", "most"] (defScope sAreNames) := ⟨rfl, rfl, rfl, by decide +kernel, rfl, by decide +kernel, by decide +kernel⟩
theorem ok_isAnyClause {f fL fR : Addr} {fd fdL fdR : FuncData} (F : Fun K "is_any_clause" "is_any_clause" sIsAnyClause f fd) (Le : Has K mg "is_letter" sIsLetter ["value"] fL fdL) (GL : FnOk P w K mg base CX0 2 fL fdL ["value"] spIsLetter)
    (Ri : Has K mg "is_rising" sIsRising ["parts"] fR fdR) (B : Blt mg) : FnOk P w K mg base CX0 3 f fd ["value"] spIsAnyClause := by
  have GR : FnOk P w K mg base CX0 1 fR fdR ["parts"] (spIsRising K) := ok_isRising Ri.F B
  refine F.ok scIsAnyClause (fun vs H Q E h => ?_) (fun cdv A outer s H vs Q E hr h => ?_)
  · obtain ⟨v, cl, rfl, _⟩ := h
    rfl
  · obtain ⟨v, cl, rfl, D, up, nm, len, q⟩ := h
    have hr1 := hr.mono (show 1 ≤ 2 by decide)
    refine ⟨_, pss_cons (ps_if (PW.pt (pw_or (pt_not (pt_val (pe_callB call_isi (by rfl) B.isi (by decide +kernel) (pa_cons (pv 0) (pa_cons (pe_bltn (v := V.ty "tuple") (by rfl) B.tuple (by decide +kernel) rfl) pa_nil)))))
        (pw_or1 (pt_not (pt_val (pe_callB (cr_all rfl) (by rfl) B.all (by decide +kernel) (pa_cons (pe_lc (own := [("part", 1)]) (g := gName 1) (tt := tYes) rfl scIsAnyClause.nd (pi_tup (pv 0))
          (blkOk_by (N := ["value", "part", "letter"]) (sc := defScope sIsAnyClause) (by decide +kernel)) (fun _ _ _ _ _ => pg_name (i := 1) scIsAnyClause.nd rfl (Or.inl rfl)) (fun _ _ _ _ _ => pts_nil)
          (fun _ _ _ _ _ => pe_call GL (by exact hr) (by rfl) Le.g Le.F.kp Le.b .nil pass0 (pa_cons (pv 1) pa_nil))) pa_nil))))))) (pss_one (ps_ret pe_bl)) pss_nil)
      (pss_one (ps_ret (pe_call GR hr1 rfl Ri.g Ri.F.kp Ri.b .nil pass0 (pa_cons (pe_lc (own := [("letter", 2)]) (g := gName 2) (tt := tYes) (te := tOp (rIxT K) (tVar 2) (tC (V.int 0))) rfl scIsAnyClause.nd (pi_tup (pv 0))
          (blkOk_by (N := ["value", "part", "letter"]) (sc := defScope sIsAnyClause) (by decide +kernel)) (fun _ _ _ _ _ => pg_name (i := 2) scIsAnyClause.nd rfl (Or.inl rfl)) (fun _ _ _ _ _ => pts_nil)
          (fun _ _ _ _ _ => by exact pe_ix ix_tup (pv 2) pe_int (fun _ _ => rfl))) pa_nil)))), ?_⟩
    obtain ⟨a, xs, rfl, e, Da⟩ := dat_tup (ds := cl.map ltD) D
    have lx : xs.length = cl.length := by rw [Da.len, List.length_map]
    refine ⟨_, rfl, _, _, _, _, true, rfl, .ty _, .base (.tup e), kit_ty (by decide +kernel), true, rfl, ?_⟩
    show if (!true) = true then _ else _
    rw [if_neg (by decide)]
    refine ⟨_, rfl, a, rfl, ⟨_, SqT.of e⟩, fun D0 hD0 => lc_allT (K := K) (SqT.of e) hD0 (by omega) (fun i x H4 Qe hx S4 k => ?_) gName_mono (fun H5 e5 S5 => ?_)⟩
    · obtain ⟨d, hd, Dx⟩ := dats_get' Da i x hx
      obtain ⟨l, hl, rfl⟩ := get_map hd
      exact ⟨rfl, _, rfl, x, l, rfl, Dx.same S4, nm l (List.mem_of_getElem? hl), k⟩
    · refine ⟨D0, _, rfl, SqL.of e5, _, rfl, ?_⟩
      rw [trues_all]
      show if (!true) = true then _ else _
      rw [if_neg (by decide)]
      refine ⟨_, rfl, a, rfl, ⟨_, SqT.of (S5 _ _ e)⟩, fun D1 hD1 => lc_mapT (K := K) (ys := (cl.map Prod.fst).map V.str) (SqT.of (S5 _ _ e)) hD1 (by rw [List.length_map, List.length_map, lx]) (by omega) (fun i x y H4 Qe hx hy S4 k => ?_) gName_mono (fun H6 e6 S6 => ?_)⟩
      · obtain ⟨d, hd, Dx⟩ := dats_get' Da i x hx
        obtain ⟨l, hl, rfl⟩ := get_map hd
        obtain ⟨b, rfl, eb⟩ := ltr_row Dx
        have ey : y = V.str l.1 := by
          rw [List.getElem?_map, List.getElem?_map, hl] at hy
          exact (Option.some.inj hy).symm
        rw [ey] at k
        exact ⟨rfl, _, rfl, b, _, 0, _, rfl, rfl, SqT.of (S4 _ _ (S5 _ _ eb)), rfl, k H4 (Same.refl _)⟩
      · exact ⟨D1, _, _, rfl, .inl (SqL.of e6), dats_strs (cl.map Prod.fst), rise_strs (List.pairwise_map.mpr up), by rw [List.length_map, List.length_map]; exact len, fun H' S => q H' ((S5.trans S6).trans S)⟩
theorem ok_areNames {f fU fN fR : Addr} {fd fdU fdN fdR : FuncData} (F : Fun K "are_names" "are_names" sAreNames f fd) (Tu : Has K mg "is_tuple" sIsTuple ["value", "most"] fU fdU) (Nn : Has K mg "is_name" sIsName ["value"] fN fdN)
    (Ri : Has K mg "is_rising" sIsRising ["parts"] fR fdR) (B : Blt mg) (C : Cst mg) : FnOk P w K mg base CX0 2 f fd ["value", "most"] spAreNames := by
  have GU : FnOk P w K mg base CX0 1 fU fdU ["value", "most"] spIsTuple := ok_isTuple Tu.F B
  have GN : FnOk P w K mg base CX0 1 fN fdN ["value"] spIsName := ok_isName Nn.F B C
  have GR : FnOk P w K mg base CX0 1 fR fdR ["parts"] (spIsRising K) := ok_isRising Ri.F B
  refine F.ok scAreNames (fun vs H Q E h => ?_) (fun cdv A outer s H vs Q E hr h => ?_)
  · obtain ⟨v, xs, n, rfl, _⟩ := h
    rfl
  · obtain ⟨v, xs, n, rfl, D, up, nm, le, len, q⟩ := h
    refine ⟨_, pss_cons (ps_if (PW.pt (pw_or (pt_not (pt_val (pe_call GU hr rfl Tu.g Tu.F.kp Tu.b .nil pass0 (pa_cons (pv 0) (pa_cons (pv 1) pa_nil)))))
        (pw_or1 (pt_not (pt_val (pe_callB (cr_all rfl) (by rfl) B.all (by decide +kernel) (pa_cons (pe_lc (own := [("part", 2)]) (g := gName 2) (tt := tYes) rfl scAreNames.nd (pi_tup (pv 0))
          (blkOk_by (N := ["value", "most", "part"]) (sc := defScope sAreNames) (by decide +kernel)) (fun _ _ _ _ _ => pg_name (i := 2) scAreNames.nd rfl (Or.inl rfl)) (fun _ _ _ _ _ => pts_nil)
          (fun _ _ _ _ _ => pe_call GN (by exact hr) (by rfl) Nn.g Nn.F.kp Nn.b .nil pass0 (pa_cons (pv 2) pa_nil))) pa_nil))))))) (pss_one (ps_ret pe_bl)) pss_nil)
      (pss_one (ps_ret (pe_call GR hr rfl Ri.g Ri.F.kp Ri.b .nil pass0 (pa_cons (pv 0) pa_nil)))), ?_⟩
    obtain ⟨a, us, rfl, e, Da⟩ := dat_tup (ds := xs.map PyData.str) D
    have eu := dats_strs_eq Da
    subst eu
    refine ⟨_, rfl, _, rfl, a, _, n, rfl, .inl e, by rw [List.length_map]; exact le, true, rfl, ?_⟩
    show if (!true) = true then _ else _
    rw [if_neg (by decide)]
    refine ⟨_, rfl, a, rfl, ⟨_, SqT.of e⟩, fun D0 hD0 => lc_allT (K := K) (SqT.of e) hD0 (by rw [List.length_map]; exact len) (fun i x H4 Qe hx S4 k => ?_) gName_mono (fun H5 e5 S5 => ?_)⟩
    · rw [List.getElem?_map] at hx
      obtain ⟨y, hy, rfl⟩ := Option.map_eq_some_iff.mp hx
      exact ⟨rfl, _, rfl, y, rfl, nm y (List.mem_of_getElem? hy), k⟩
    · refine ⟨D0, _, rfl, SqL.of e5, _, rfl, ?_⟩
      rw [trues_all]
      show if (!true) = true then _ else _
      rw [if_neg (by decide)]
      exact ⟨_, rfl, a, _, _, rfl, .inr (SqT.of (S5 _ _ e)), dats_strs xs, rise_strs up, by rw [List.length_map]; exact len, fun H' S => q H' (S5.trans S)⟩
end
end S1

set_option Elab.async false
set_option linter.all false
set_option maxRecDepth 100000
set_option maxHeartbeats 4000000
/-! sights, owns, clauses of a saying: told to be such -/
namespace S1
open PySem PySem.W PySem.Spec PyProof.Rows L2
/-- a def is there, and is as promised -/
def Good (P : Program) (w : World) (K : PySem.W.Frag) (mg : Str → Option Value) (base : Heap) (k : Nat) (x : Str) (st : Stmt) (ps : List Str) (sp : Sp) : Prop :=
  ∃ (f : Addr) (fd : FuncData), Has K mg x st ps f fd ∧ FnOk P w K mg base CX0 k f fd ps sp
/-- a def is there -/
def There (K : PySem.W.Frag) (mg : Str → Option Value) (x : Str) (st : Stmt) (ps : List Str) : Prop := ∃ (f : Addr) (fd : FuncData), Has K mg x st ps f fd
structure Shp (K : PySem.W.Frag) (mg : Str → Option Value) : Prop where
  isTruth : There K mg "is_truth" sIsTruth ["value"]
  isTuple : There K mg "is_tuple" sIsTuple ["value", "most"]
  isPair : There K mg "is_pair" sIsPair ["value"]
  isRising : There K mg "is_rising" sIsRising ["parts"]
  isName : There K mg "is_name" sIsName ["value"]
  isLetter : There K mg "is_letter" sIsLetter ["value"]
  isAnyClause : There K mg "is_any_clause" sIsAnyClause ["value"]
  areNames : There K mg "are_names" sAreNames ["value", "most"]
  isSight : There K mg "is_sight" sIsSight ["value", "picks"]
  isOwn : There K mg "is_own" sIsOwn ["value", "picks"]
  areOwns : There K mg "are_owns" sAreOwns ["value", "picks"]
  isClauseOver : There K mg "is_clause_over" sIsClauseOver ["value", "names"]
  areClauses : There K mg "are_clauses" sAreClauses ["value", "names"]
  namesOf : There K mg "names_of" sNamesOf ["picks", "owns"]
  fitsSaying : There K mg "fits_saying" sFitsSaying ["value"]
/-- all that the text is made of, as far as these defs go -/
structure Env1 (K : PySem.W.Frag) (mg : Str → Option Value) : Prop where
  B : Blt mg
  C : Cst mg
  Y : Shp K mg
def spIsSight : Sp := fun vs H Q _ => ∃ (v u : V) (s ps : List Str), vs = [v, u] ∧ Dat H v (nmsD s) ∧ Dat H u (nmsD ps) ∧ s.Pairwise tlt ∧ (∀ x ∈ s, Nm x) ∧ (∀ x ∈ s, x ∈ ps) ∧ s.length ≤ ps.length ∧ ps.length ≤ 1000 ∧ ∀ H', Same H H' → Q (.bl true) H'
def spIsOwn : Sp := fun vs H Q _ => ∃ (v u : V) (o : Own) (ps : List Str), vs = [v, u] ∧ Dat H v (ownD o) ∧ Dat H u (nmsD ps) ∧ Nm o.1 ∧ o.1 ∉ ps ∧ o.2.Pairwise tlt ∧ (∀ x ∈ o.2, Nm x) ∧ (∀ x ∈ o.2, x ∈ ps) ∧ o.2.length ≤ ps.length ∧ ps.length ≤ 1000 ∧ ∀ H', Same H H' → Q (.bl true) H'
section
variable {P : Program} {w : World} {K : PySem.W.Frag} {mg : Str → Option Value} {base : Heap}
theorem g_isTruth (e : Env1 K mg) : Good P w K mg base 1 "is_truth" sIsTruth ["value"] spIsTruth := by
  obtain ⟨f, fd, h⟩ := e.Y.isTruth
  exact ⟨f, fd, h, ok_isTruth h.F⟩
theorem g_isTuple (e : Env1 K mg) : Good P w K mg base 1 "is_tuple" sIsTuple ["value", "most"] spIsTuple := by
  obtain ⟨f, fd, h⟩ := e.Y.isTuple
  exact ⟨f, fd, h, ok_isTuple h.F e.B⟩
theorem g_isPair (e : Env1 K mg) : Good P w K mg base 1 "is_pair" sIsPair ["value"] spIsPair := by
  obtain ⟨f, fd, h⟩ := e.Y.isPair
  exact ⟨f, fd, h, ok_isPair h.F e.B⟩
theorem g_isRising (e : Env1 K mg) : Good P w K mg base 1 "is_rising" sIsRising ["parts"] (spIsRising K) := by
  obtain ⟨f, fd, h⟩ := e.Y.isRising
  exact ⟨f, fd, h, ok_isRising h.F e.B⟩
theorem g_isName (e : Env1 K mg) : Good P w K mg base 1 "is_name" sIsName ["value"] spIsName := by
  obtain ⟨f, fd, h⟩ := e.Y.isName
  exact ⟨f, fd, h, ok_isName h.F e.B e.C⟩
theorem g_isLetter (e : Env1 K mg) : Good P w K mg base 2 "is_letter" sIsLetter ["value"] spIsLetter := by
  obtain ⟨f, fd, h⟩ := e.Y.isLetter
  obtain ⟨_, _, h1⟩ := e.Y.isPair
  obtain ⟨_, _, h2⟩ := e.Y.isName
  obtain ⟨_, _, h3⟩ := e.Y.isTruth
  exact ⟨f, fd, h, ok_isLetter h.F h1 h2 h3 e.B e.C⟩
theorem g_isAnyClause (e : Env1 K mg) : Good P w K mg base 3 "is_any_clause" sIsAnyClause ["value"] spIsAnyClause := by
  obtain ⟨f, fd, h⟩ := e.Y.isAnyClause
  obtain ⟨_, _, h1, g1⟩ := g_isLetter (P := P) (w := w) (base := base) e
  obtain ⟨_, _, h2⟩ := e.Y.isRising
  exact ⟨f, fd, h, ok_isAnyClause h.F h1 g1 h2 e.B⟩
theorem g_areNames (e : Env1 K mg) : Good P w K mg base 2 "are_names" sAreNames ["value", "most"] spAreNames := by
  obtain ⟨f, fd, h⟩ := e.Y.areNames
  obtain ⟨_, _, h1⟩ := e.Y.isTuple
  obtain ⟨_, _, h2⟩ := e.Y.isName
  obtain ⟨_, _, h3⟩ := e.Y.isRising
  exact ⟨f, fd, h, ok_areNames h.F h1 h2 h3 e.B e.C⟩
theorem scIsSight : FnScope ["value", "picks", "name"] ["value", "picks"] (defScope sIsSight) := ⟨rfl, rfl, rfl, by decide +kernel, rfl, by decide +kernel, by decide +kernel⟩
theorem scIsOwn : FnScope ["value", "picks"] ["value", "picks"] (defScope sIsOwn) := ⟨rfl, rfl, rfl, by decide +kernel, rfl, by decide +kernel, by decide +kernel⟩
theorem g_isSight (e : Env1 K mg) : Good P w K mg base 3 "is_sight" sIsSight ["value", "picks"] spIsSight := by
  obtain ⟨f, fd, h⟩ := e.Y.isSight
  obtain ⟨fA, fdA, An, GA⟩ := g_areNames (P := P) (w := w) (base := base) e
  refine ⟨f, fd, h, ?_⟩
  refine h.F.ok scIsSight (fun vs H Q E h => ?_) (fun cdv A outer s H vs Q E hr h => ?_)
  · obtain ⟨v, u, s, ps, rfl, _⟩ := h
    rfl
  · obtain ⟨v, u, s, ps, rfl, D, Dp, up, nm, sub, le, len, q⟩ := h
    refine ⟨_, pss_one (ps_ret (pe_and (pe_call GA hr rfl An.g An.F.kp An.b .nil pass0 (pa_cons (pv 0) (pa_cons (pe_callB call_len_seq (by rfl) e.B.len (by decide +kernel) (pa_cons (pv 1) pa_nil)) pa_nil)))
      (pe_one (pe_callB (cr_all rfl) (by rfl) e.B.all (by decide +kernel) (pa_cons (pe_lc (own := [("name", 2)]) (g := gName 2) (tt := tYes) (te := tOp (rIn K false) (tVar 2) (tVar 1)) rfl scIsSight.nd (pi_tup (pv 0))
        (blkOk_by (N := ["value", "picks", "name"]) (sc := defScope sIsSight) (by decide +kernel)) (fun _ _ _ _ _ => pg_name (i := 2) scIsSight.nd rfl (Or.inl rfl)) (fun _ _ _ _ _ => pts_nil)
        (fun _ _ _ _ _ => by exact pe_cmpR op_in_seq (pv 2) (pv 1) (by with_unfolding_all rfl))) pa_nil))))), ?_⟩
    obtain ⟨a, us, rfl, ea, Da⟩ := dat_tup (ds := s.map PyData.str) D
    cases dats_strs_eq Da
    obtain ⟨b, ups, rfl, eb, Db⟩ := dat_tup (ds := ps.map PyData.str) Dp
    cases dats_strs_eq Db
    refine ⟨_, rfl, _, rfl, _, _, rfl, .inr (SqT.of eb), .ref a, s, _, rfl, D, up, nm, by rw [List.length_map]; omega, by omega, fun H' S => ⟨true, rfl, ?_⟩⟩
    show if true = true then _ else _
    rw [if_pos rfl]
    refine ⟨_, rfl, a, rfl, ⟨_, SqT.of (S _ _ ea)⟩, fun D0 hD0 => lc_allT (K := K) (SqT.of (S _ _ ea)) hD0 (by rw [List.length_map]; omega) (fun i x H4 Qe hx S4 k => ?_) gName_mono (fun H5 e5 S5 => ?_)⟩
    · rw [List.getElem?_map] at hx
      obtain ⟨y, hy, rfl⟩ := Option.map_eq_some_iff.mp hx
      refine ⟨rfl, _, rfl, _, rfl, b, _, rfl, .inr (SqT.of (S4 _ _ (S _ _ eb))), rfl, flat_strs ps, ?_⟩
      show Qe (.bl (inV (V.str y) (ps.map V.str))) H4
      rw [inV_str, decide_eq_true (sub y (List.mem_of_getElem? hy))]
      exact k H4 (Same.refl _)
    · refine ⟨D0, _, rfl, SqL.of e5, ?_⟩
      show Q (.bl _) H5
      rw [trues_all]
      exact q H5 (S.trans S5)
theorem g_isOwn (e : Env1 K mg) : Good P w K mg base 4 "is_own" sIsOwn ["value", "picks"] spIsOwn := by
  obtain ⟨f, fd, h⟩ := e.Y.isOwn
  obtain ⟨fP, fdP, Pr, GP⟩ := g_isPair (P := P) (w := w) (base := base) e
  obtain ⟨fN, fdN, Nn, GN⟩ := g_isName (P := P) (w := w) (base := base) e
  obtain ⟨fS, fdS, Si, GS⟩ := g_isSight (P := P) (w := w) (base := base) e
  refine ⟨f, fd, h, ?_⟩
  refine h.F.ok scIsOwn (fun vs H Q E h => ?_) (fun cdv A outer s H vs Q E hr h => ?_)
  · obtain ⟨v, u, o, ps, rfl, _⟩ := h
    rfl
  · obtain ⟨v, u, o, ps, rfl, D, Dp, no, out, up, nm, sub, le, len, q⟩ := h
    have hr1 := hr.mono (show 1 ≤ 3 by decide)
    refine ⟨_, pss_cons (ps_if (PW.pt (pw_or (pt_not (pt_val (pe_call GP hr1 rfl Pr.g Pr.F.kp Pr.b .nil pass0 (pa_cons (pv 0) pa_nil)))) (pw_or (pt_not (pt_val (pe_call GN hr1 rfl Nn.g Nn.F.kp Nn.b .nil pass0 (pa_cons (pe_ix ix_tup (pv 0) pe_int (fun _ _ => rfl)) pa_nil))))
        (pw_or1 (pt_cmpR op_in_seq (pe_ix ix_tup (pv 0) pe_int (fun _ _ => rfl)) (pv 1) (by with_unfolding_all rfl)))))) (pss_one (ps_ret pe_bl)) pss_nil)
      (pss_one (ps_ret (pe_call GS hr rfl Si.g Si.F.kp Si.b .nil pass0 (pa_cons (pe_ix ix_tup (pv 0) pe_int (fun _ _ => rfl)) (pa_cons (pv 1) pa_nil))))), ?_⟩
    obtain ⟨a, us, rfl, ea, Da⟩ := dat_tup (ds := [.str o.1, nmsD o.2]) D
    cases Da with
    | @cons v1 d1 _ _ h1 Da =>
      cases h1
      cases Da with
      | @cons v2 d2 _ _ h2 Da =>
        cases Da
        obtain ⟨b, ups, rfl, eb, Db⟩ := dat_tup (ds := ps.map PyData.str) Dp
        cases dats_strs_eq Db
        refine ⟨_, rfl, a, _, _, rfl, ea, true, rfl, ?_⟩
        show if (!true) = true then _ else _
        rw [if_neg (by decide)]
        refine ⟨_, rfl, a, _, 0, _, rfl, rfl, SqT.of ea, rfl, o.1, rfl, no, fun H' S => ⟨true, rfl, ?_⟩⟩
        show if (!true) = true then _ else _
        rw [if_neg (by decide)]
        refine ⟨_, rfl, a, _, 0, _, rfl, rfl, SqT.of (S _ _ ea), rfl, _, rfl, b, _, rfl, .inr (SqT.of (S _ _ eb)), rfl, flat_strs ps, _, rfl, ?_⟩
        show if inV (V.str o.1) (ps.map V.str) = true then _ else _
        rw [inV_str, decide_eq_false out, if_neg (by decide)]
        exact ⟨_, rfl, a, _, 1, _, rfl, rfl, SqT.of (S _ _ ea), rfl, _, rfl, v2, .ref b, o.2, ps, rfl, h2.same S, Dp.same S, up, nm, sub, le, len, fun H2 S2 => q H2 (S.trans S2)⟩
end
end S1

set_option Elab.async false
set_option linter.all false
set_option maxRecDepth 100000
set_option maxHeartbeats 4000000
/-! sayings told to be such -/
namespace S1
open PySem PySem.W PySem.Spec PyProof.Rows L2
theorem tlt_irrefl (x : Str) : ¬ tlt x x := fun h => by
  have z := dataLt_irrefl (.str x)
  rw [dataLt_str, decide_eq_false_iff_not] at z
  exact z h
theorem nodup_tlt {xs : List Str} (h : xs.Pairwise tlt) : xs.Nodup := List.Pairwise.imp (fun {a b} z => fun e : a = b => tlt_irrefl b (by rw [e] at z; exact z)) h
abbrev sizeI (o : Own) : Int := 1 * 2 ^ ((o.2.map V.str).length : Int).toNat
theorem sizes_sum (os : List Own) : (os.map sizeI).sum = (copies os : Int) := by
  induction os with
  | nil => rfl
  | cons o os ih =>
    rw [List.map_cons, List.sum_cons, ih]
    show (1 : Int) * 2 ^ ((o.2.map V.str).length : Int).toNat + (copies os : Int) = ((2 ^ o.2.length + copies os : Nat) : Int)
    rw [List.length_map, Int.toNat_natCast, Int.one_mul]
    push_cast
    rfl
theorem cl_len {ns : List Str} {cl : List Ltr} (h : ClOk ns cl) : cl.length ≤ ns.length := by
  have nd : (cl.map Prod.fst).Nodup := nodup_tlt (List.pairwise_map.mpr h.up)
  have z := nodup_le nd fun x hx => by
    obtain ⟨l, hl, rfl⟩ := List.mem_map.mp hx
    exact h.mem l hl
  rwa [List.length_map] at z
/-- an own of a saying with these picks -/
structure OwnOk (ps : List Str) (o : Own) : Prop where
  n : Nm o.1
  out : o.1 ∉ ps
  up : o.2.Pairwise tlt
  nm : ∀ x ∈ o.2, Nm x
  sub : ∀ x ∈ o.2, x ∈ ps
  le : o.2.length ≤ ps.length
theorem SayOk.own {a b c d : Nat} {s : Say} (h : SayOk a b c d s) {o : Own} (ho : o ∈ s.owns) : OwnOk s.picks o := by
  obtain ⟨h1, h2, h3, h4⟩ := h.on o ho
  exact ⟨h1, h2, h3, fun x hx => h.pn x (h4 x hx), h4, nodup_le (nodup_tlt h3) h4⟩
def spAreOwns : Sp := fun vs H Q _ => ∃ (v u : V) (os : List Own) (ps : List Str), vs = [v, u] ∧ DatO H v os ∧ Dat H u (nmsD ps) ∧ (∀ o ∈ os, OwnOk ps o) ∧ (os.Pairwise fun x y => tlt x.1 y.1) ∧ os.length ≤ 8 ∧ copies os ≤ 1024 ∧ ps.length ≤ 1000 ∧ ∀ H', Same H H' → Q (.bl (decide (copies os ≤ 120))) H'
def spIsClauseOver : Sp := fun vs H Q _ => ∃ (v : V) (b : Addr) (cl : List Ltr) (ns : List Str), vs = [v, .ref b] ∧ Dat H v (clD cl) ∧ H b = some (.lst (ns.map V.str)) ∧ ClOk ns cl ∧ (∀ x ∈ ns, Nm x) ∧ ns.length ≤ 1000 ∧ ∀ H', Same H H' → Q (.bl true) H'
def spAreClauses : Sp := fun vs H Q _ => ∃ (v : V) (b : Addr) (cls : List (List Ltr)) (ns : List Str), vs = [v, .ref b] ∧ Dat H v (.tuple (cls.map clD)) ∧ H b = some (.lst (ns.map V.str)) ∧ (∀ cl ∈ cls, ClOk ns cl) ∧ (∀ x ∈ ns, Nm x) ∧ ns.length ≤ 1000 ∧
  cls.length ≤ 40 ∧ (cls.Pairwise fun x y => dataLt (clD x) (clD y) = true) ∧ ∀ H', Same H H' → Q (.bl true) H'
def spNamesOf : Sp := fun vs H Q _ => ∃ (u v : V) (ps : List Str) (os : List Own), vs = [u, v] ∧ Dat H u (nmsD ps) ∧ DatO H v os ∧ ps.length ≤ 500 ∧ os.length ≤ 500 ∧ ∀ (l : Addr) (H' : Hp), Same H H' → H l = none → H' l = some (.lst ((ps ++ os.map Prod.fst).map V.str)) → Q (.ref l) H'
section
variable {P : Program} {w : World} {K : PySem.W.Frag} {mg : Str → Option Value} {base : Heap}
theorem scAreOwns : FnScope ["value", "picks", "part", "own"] ["value", "picks"] (defScope sAreOwns) := ⟨rfl, rfl, rfl, by decide +kernel, rfl, by decide +kernel, by decide +kernel⟩
theorem scIsClauseOver : FnScope ["value", "names", "letter"] ["value", "names"] (defScope sIsClauseOver) := ⟨rfl, rfl, rfl, by decide +kernel, rfl, by decide +kernel, by decide +kernel⟩
theorem scAreClauses : FnScope ["value", "names", "part"] ["value", "names"] (defScope sAreClauses) := ⟨rfl, rfl, rfl, by decide +kernel, rfl, by decide +kernel, by decide +kernel⟩
theorem scNamesOf : FnScope ["picks", "owns", "own"] ["picks", "owns"] (defScope sNamesOf) := ⟨rfl, rfl, rfl, by decide +kernel, rfl, by decide +kernel, by decide +kernel⟩
theorem g_areOwns (e : Env1 K mg) : Good P w K mg base 5 "are_owns" sAreOwns ["value", "picks"] spAreOwns := by
  obtain ⟨f, fd, h⟩ := e.Y.areOwns
  obtain ⟨fU, fdU, Tu, GU⟩ := g_isTuple (P := P) (w := w) (base := base) e
  obtain ⟨fO, fdO, Ow, GO⟩ := g_isOwn (P := P) (w := w) (base := base) e
  obtain ⟨fR, fdR, Ri, GR⟩ := g_isRising (P := P) (w := w) (base := base) e
  obtain ⟨t1, c1⟩ := e.C.owns
  obtain ⟨t2, c2⟩ := e.C.copies
  refine ⟨f, fd, h, ?_⟩
  refine h.F.ok scAreOwns (fun vs H Q E h => ?_) (fun cdv A outer s H vs Q E hr h => ?_)
  · obtain ⟨v, u, os, ps, rfl, _⟩ := h
    rfl
  · obtain ⟨v, u, os, ps, rfl, D, Dp, good, up, len, cop, lp, q⟩ := h
    have hr1 := hr.mono (show 1 ≤ 4 by decide)
    refine ⟨_, pss_cons (ps_if (PW.pt (pw_or (pt_not (pt_val (pe_call GU hr1 rfl Tu.g Tu.F.kp Tu.b .nil pass0 (pa_cons (pv 0) (pa_cons (pe_glob (v := V.int 8) rfl c1 ⟨_, rfl⟩) pa_nil)))))
        (pw_or1 (pt_not (pt_val (pe_callB (cr_all rfl) (by rfl) e.B.all (by decide +kernel) (pa_cons (pe_lc (own := [("part", 2)]) (g := gName 2) (tt := tYes) rfl scAreOwns.nd (pi_tup (pv 0))
          (blkOk_by (N := ["value", "picks", "part", "own"]) (sc := defScope sAreOwns) (by decide +kernel)) (fun _ _ _ _ _ => pg_name (i := 2) scAreOwns.nd rfl (Or.inl rfl)) (fun _ _ _ _ _ => pts_nil)
          (fun _ _ _ _ _ => pe_call GO (by exact hr) (by rfl) Ow.g Ow.F.kp Ow.b .nil pass0 (pa_cons (pv 2) (pa_cons (pv 1) pa_nil)))) pa_nil))))))) (pss_one (ps_ret pe_bl)) pss_nil)
      (pss_cons (ps_if (pt_not (pt_val (pe_call GR hr1 rfl Ri.g Ri.F.kp Ri.b .nil pass0 (pa_cons (pe_lc (own := [("own", 3)]) (g := gName 3) (tt := tYes) (te := tOp (rIxT K) (tVar 3) (tC (V.int 0))) rfl scAreOwns.nd (pi_tup (pv 0))
          (blkOk_by (N := ["value", "picks", "part", "own"]) (sc := defScope sAreOwns) (by decide +kernel)) (fun _ _ _ _ _ => pg_name (i := 3) scAreOwns.nd rfl (Or.inl rfl)) (fun _ _ _ _ _ => pts_nil)
          (fun _ _ _ _ _ => by exact pe_ix ix_tup (pv 3) pe_int (fun _ _ => rfl))) pa_nil)))) (pss_one (ps_ret pe_bl)) pss_nil)
      (pss_one (ps_ret (pe_cmpR op_le (pe_callB (cr_sum rfl) (by rfl) e.B.sum (by decide +kernel) (pa_cons (pe_lc (own := [("own", 3)]) (g := gName 3) (tt := tYes)
            (te := tOp (rI CPow fun i j => V.int (i * 2 ^ j.toNat)) (tC (V.int 1)) (tCB (fun xs H Q => ∃ p ys, xs = [V.ref p] ∧ (SqL K H p ys ∨ SqT K H p ys) ∧ Q (V.int ys.length) H) (tCons (tOp (rIxT K) (tVar 3) (tC (V.int 1))) tNil))) rfl scAreOwns.nd (pi_tup (pv 0))
          (blkOk_by (N := ["value", "picks", "part", "own"]) (sc := defScope sAreOwns) (by decide +kernel)) (fun _ _ _ _ _ => pg_name (i := 3) scAreOwns.nd rfl (Or.inl rfl)) (fun _ _ _ _ _ => pts_nil)
          (fun _ _ _ _ _ => by exact pe_op op_shl pe_int (pe_callB call_len_seq (by rfl) e.B.len (by decide +kernel) (pa_cons (pe_ix ix_tup (pv 3) pe_int (fun _ _ => rfl)) pa_nil)))) pa_nil)) (pe_glob (v := V.int 120) rfl c2 ⟨_, rfl⟩) (nomark _))))), ?_⟩
    obtain ⟨a, us, rfl, ea, Da⟩ := D
    have lu : us.length = os.length := by rw [Da.len, List.length_map]
    refine ⟨_, rfl, a, us, 8, rfl, ea.rd, by omega, true, rfl, ?_⟩
    show if (!true) = true then _ else _
    rw [if_neg (by decide)]
    refine ⟨_, rfl, a, rfl, ⟨_, FT.sq ea⟩, fun D0 hD0 => lc_allT (K := K) (FT.sq ea) hD0 (by omega) (fun i x H4 Qe hx S4 k => ?_) gName_mono (fun H5 e5 S5 => ?_)⟩
    · obtain ⟨d, hd, Dx⟩ := dats_get' Da i x hx
      obtain ⟨o, ho, rfl⟩ := get_map hd
      have g := good o (List.mem_of_getElem? ho)
      exact ⟨rfl, _, rfl, _, rfl, x, u, o, ps, rfl, Dx.same S4, Dp.same S4, g.n, g.out, g.up, g.nm, g.sub, g.le, lp, k⟩
    · refine ⟨D0, _, rfl, SqL.of e5, _, rfl, ?_⟩
      rw [trues_all]
      show if (!true) = true then _ else _
      rw [if_neg (by decide)]
      have names : ∀ {H4 : Hp} {x : V} {i : Nat}, Same H H4 → us[i]? = some x → ∃ (o : Own) (t t' : Addr), os[i]? = some o ∧ x = .ref t ∧ H4 t = some (.tup [.str o.1, .ref t']) ∧ H4 t' = some (.tup (o.2.map V.str)) := fun {H4 x i} S hx => by
        obtain ⟨d, hd, Dx⟩ := dats_get' Da i x hx
        obtain ⟨o, ho, rfl⟩ := get_map hd
        obtain ⟨t, rfl⟩ := tuple_ref (ds := [.str o.1, nmsD o.2]) Dx
        obtain ⟨t', g1, g2⟩ := own_row (q := (t, ownD o)) rfl Dx
        exact ⟨o, t, t', ho, rfl, S _ _ g1, S _ _ g2⟩
      refine ⟨_, rfl, a, rfl, ⟨_, FT.sq (FT.same ea S5)⟩, fun D1 hD1 => lc_mapT (K := K) (ys := (os.map Prod.fst).map V.str) (FT.sq (FT.same ea S5)) hD1 (by rw [List.length_map, List.length_map, lu]) (by omega) (fun i x y H4 Qe hx hy S4 k => ?_) gName_mono (fun H6 e6 S6 => ?_)⟩
      · obtain ⟨o, t, t', ho, rfl, g1, _⟩ := names (S5.trans S4) hx
        have ey : y = V.str o.1 := by
          rw [List.getElem?_map, List.getElem?_map, ho] at hy
          exact (Option.some.inj hy).symm
        rw [ey] at k
        exact ⟨rfl, _, rfl, t, _, 0, _, rfl, rfl, SqT.of g1, rfl, k H4 (Same.refl _)⟩
      · refine ⟨D1, _, _, rfl, .inl (SqL.of e6), dats_strs (os.map Prod.fst), rise_strs (List.pairwise_map.mpr up), by rw [List.length_map, List.length_map]; omega, fun H7 S7 => ⟨true, rfl, ?_⟩⟩
        show if (!true) = true then _ else _
        rw [if_neg (by decide)]
        have S8 := (S5.trans S6).trans S7
        refine ⟨_, rfl, a, rfl, ⟨_, FT.sq (FT.same ea S8)⟩, fun D2 hD2 => lc_mapT (K := K) (ys := (os.map sizeI).map V.int) (FT.sq (FT.same ea S8)) hD2 (by rw [List.length_map, List.length_map, lu]) (by omega) (fun i x y H4 Qe hx hy S4 k => ?_) gName_mono (fun H9 e9 S9 => ?_)⟩
        · obtain ⟨o, t, t', ho, rfl, g1, g2⟩ := names (S8.trans S4) hx
          have ey : y = V.int (sizeI o) := by
            rw [List.getElem?_map, List.getElem?_map, ho] at hy
            exact (Option.some.inj hy).symm
          rw [ey] at k
          have g := good o (List.mem_of_getElem? ho)
          have := g.le
          exact ⟨rfl, _, rfl, t, _, 1, _, rfl, rfl, SqT.of g1, rfl, t', _, rfl, .inr (SqT.of g2), _, _, rfl, rfl, ⟨by omega, by rw [List.length_map]; omega, by decide⟩, k H4 (Same.refl _)⟩
        · refine ⟨D2, _, rfl, SqL.of e9, _, _, rfl, rfl, ?_⟩
          rw [sizes_sum]
          show Q (.bl (decide ((copies os : Int) ≤ 120))) H9
          rw [show decide ((copies os : Int) ≤ 120) = decide (copies os ≤ 120) from by
            by_cases z : copies os ≤ 120
            · rw [decide_eq_true z, decide_eq_true (by omega)]
            · rw [decide_eq_false z, decide_eq_false (by omega)]]
          exact q H9 (S8.trans S9)
theorem g_isClauseOver (e : Env1 K mg) : Good P w K mg base 4 "is_clause_over" sIsClauseOver ["value", "names"] spIsClauseOver := by
  obtain ⟨f, fd, h⟩ := e.Y.isClauseOver
  obtain ⟨fA, fdA, An, GA⟩ := g_isAnyClause (P := P) (w := w) (base := base) e
  refine ⟨f, fd, h, ?_⟩
  refine h.F.ok scIsClauseOver (fun vs H Q E h => ?_) (fun cdv A outer s H vs Q E hr h => ?_)
  · obtain ⟨v, b, cl, ns, rfl, _⟩ := h
    rfl
  · obtain ⟨v, b, cl, ns, rfl, D, eb, ck, nm, len, q⟩ := h
    refine ⟨_, pss_one (ps_ret (pe_and (pe_call GA hr rfl An.g An.F.kp An.b .nil pass0 (pa_cons (pv 0) pa_nil))
      (pe_one (pe_callB (cr_all rfl) (by rfl) e.B.all (by decide +kernel) (pa_cons (pe_lc (own := [("letter", 2)]) (g := gName 2) (tt := tYes) (te := tOp (rIn K false) (tOp (rIxT K) (tVar 2) (tC (V.int 0))) (tVar 1)) rfl scIsClauseOver.nd (pi_tup (pv 0))
        (blkOk_by (N := ["value", "names", "letter"]) (sc := defScope sIsClauseOver) (by decide +kernel)) (fun _ _ _ _ _ => pg_name (i := 2) scIsClauseOver.nd rfl (Or.inl rfl)) (fun _ _ _ _ _ => pts_nil)
        (fun _ _ _ _ _ => by exact pe_cmpR op_in_seq (pe_ix ix_tup (pv 2) pe_int (fun _ _ => rfl)) (pv 1) (by with_unfolding_all rfl))) pa_nil))))), ?_⟩
    obtain ⟨a, us, rfl, ea, Da⟩ := dat_tup (ds := cl.map ltD) D
    have lu : us.length = cl.length := by rw [Da.len, List.length_map]
    have lc := cl_len ck
    refine ⟨_, rfl, .ref a, cl, rfl, D, ck.up, fun l hl => nm _ (ck.mem l hl), by omega, fun H' S => ⟨true, rfl, ?_⟩⟩
    show if true = true then _ else _
    rw [if_pos rfl]
    refine ⟨_, rfl, a, rfl, ⟨_, SqT.of (S _ _ ea)⟩, fun D0 hD0 => lc_allT (K := K) (SqT.of (S _ _ ea)) hD0 (by omega) (fun i x H4 Qe hx S4 k => ?_) gName_mono (fun H5 e5 S5 => ?_)⟩
    · obtain ⟨d, hd, Dx⟩ := dats_get' Da i x hx
      obtain ⟨l, hl, rfl⟩ := get_map hd
      obtain ⟨t, rfl, et⟩ := ltr_row Dx
      refine ⟨rfl, _, rfl, t, _, 0, _, rfl, rfl, SqT.of (S4 _ _ (S _ _ et)), rfl, _, rfl, b, _, rfl, .inl (SqL.of (S4 _ _ (S _ _ eb))), rfl, flat_strs ns, ?_⟩
      show Qe (.bl (inV (V.str l.1) (ns.map V.str))) H4
      rw [inV_str, decide_eq_true (ck.mem l (List.mem_of_getElem? hl))]
      exact k H4 (Same.refl _)
    · refine ⟨D0, _, rfl, SqL.of e5, ?_⟩
      show Q (.bl _) H5
      rw [trues_all]
      exact q H5 (S.trans S5)
theorem g_areClauses (e : Env1 K mg) : Good P w K mg base 5 "are_clauses" sAreClauses ["value", "names"] spAreClauses := by
  obtain ⟨f, fd, h⟩ := e.Y.areClauses
  obtain ⟨fU, fdU, Tu, GU⟩ := g_isTuple (P := P) (w := w) (base := base) e
  obtain ⟨fO, fdO, Ov, GO⟩ := g_isClauseOver (P := P) (w := w) (base := base) e
  obtain ⟨fR, fdR, Ri, GR⟩ := g_isRising (P := P) (w := w) (base := base) e
  obtain ⟨t1, c1⟩ := e.C.clauses
  refine ⟨f, fd, h, ?_⟩
  refine h.F.ok scAreClauses (fun vs H Q E h => ?_) (fun cdv A outer s H vs Q E hr h => ?_)
  · obtain ⟨v, b, cls, ns, rfl, _⟩ := h
    rfl
  · obtain ⟨v, b, cls, ns, rfl, D, eb, ck, nm, len, lcs, up, q⟩ := h
    have hr1 := hr.mono (show 1 ≤ 4 by decide)
    refine ⟨_, pss_cons (ps_if (pt_not (pt_val (pe_call GU hr1 rfl Tu.g Tu.F.kp Tu.b .nil pass0 (pa_cons (pv 0) (pa_cons (pe_glob (v := V.int 40) rfl c1 ⟨_, rfl⟩) pa_nil))))) (pss_one (ps_ret pe_bl)) pss_nil)
      (pss_one (ps_ret (pe_and (pe_callB (cr_all rfl) (by rfl) e.B.all (by decide +kernel) (pa_cons (pe_lc (own := [("part", 2)]) (g := gName 2) (tt := tYes) rfl scAreClauses.nd (pi_tup (pv 0))
          (blkOk_by (N := ["value", "names", "part"]) (sc := defScope sAreClauses) (by decide +kernel)) (fun _ _ _ _ _ => pg_name (i := 2) scAreClauses.nd rfl (Or.inl rfl)) (fun _ _ _ _ _ => pts_nil)
          (fun _ _ _ _ _ => pe_call GO (by exact hr) (by rfl) Ov.g Ov.F.kp Ov.b .nil pass0 (pa_cons (pv 2) (pa_cons (pv 1) pa_nil)))) pa_nil))
        (pe_one (pe_call GR hr1 rfl Ri.g Ri.F.kp Ri.b .nil pass0 (pa_cons (pv 0) pa_nil)))))), ?_⟩
    obtain ⟨a, us, rfl, ea, Da⟩ := dat_tup D
    have lu : us.length = cls.length := by rw [Da.len, List.length_map]
    refine ⟨_, rfl, a, us, 40, rfl, .inl ea, by omega, true, rfl, ?_⟩
    show if (!true) = true then _ else _
    rw [if_neg (by decide)]
    refine ⟨_, rfl, a, rfl, ⟨_, SqT.of ea⟩, fun D0 hD0 => lc_allT (K := K) (SqT.of ea) hD0 (by omega) (fun i x H4 Qe hx S4 k => ?_) gName_mono (fun H5 e5 S5 => ?_)⟩
    · obtain ⟨d, hd, Dx⟩ := dats_get' Da i x hx
      obtain ⟨cl, hcl, rfl⟩ := get_map hd
      exact ⟨rfl, _, rfl, _, rfl, x, b, cl, ns, rfl, Dx.same S4, S4 _ _ eb, ck cl (List.mem_of_getElem? hcl), nm, len, k⟩
    · refine ⟨D0, _, rfl, SqL.of e5, ?_⟩
      rw [trues_all]
      refine ⟨true, rfl, ?_⟩
      show if true = true then _ else _
      rw [if_pos rfl]
      exact ⟨_, rfl, a, us, _, rfl, .inr (SqT.of (S5 _ _ ea)), DatAll.same S5 Da, rise_of alike_cl (fun _ z => nomatch z) (fun x => by have := depth_cl x; omega) up, by rw [List.length_map]; omega, fun H' S => q H' (S5.trans S)⟩
theorem g_namesOf (e : Env1 K mg) : Good P w K mg base 1 "names_of" sNamesOf ["picks", "owns"] spNamesOf := by
  obtain ⟨f, fd, h⟩ := e.Y.namesOf
  refine ⟨f, fd, h, ?_⟩
  refine h.F.ok scNamesOf (fun vs H Q E h => ?_) (fun cdv A outer s H vs Q E hr h => ?_)
  · obtain ⟨u, v, ps, os, rfl, _⟩ := h
    rfl
  · obtain ⟨u, v, ps, os, rfl, Dp, D, lp, lo, q⟩ := h
    refine ⟨_, pss_one (ps_ret (pe_op op_cat (pe_callTy call_list_of (by rfl) e.B.list (by decide +kernel) (pa_cons (pv 0) pa_nil)) (pe_lc (own := [("own", 2)]) (g := gName 2) (tt := tYes) (te := tOp (rIxT K) (tVar 2) (tC (V.int 0))) rfl scNamesOf.nd (pi_tup (pv 1))
          (blkOk_by (N := ["picks", "owns", "own"]) (sc := defScope sNamesOf) (by decide +kernel)) (fun _ _ _ _ _ => pg_name (i := 2) scNamesOf.nd rfl (Or.inl rfl)) (fun _ _ _ _ _ => pts_nil)
          (fun _ _ _ _ _ => by exact pe_ix ix_tup (pv 2) pe_int (fun _ _ => rfl))))), ?_⟩
    obtain ⟨b, ups, rfl, eb, Db⟩ := dat_tup (ds := ps.map PyData.str) Dp
    cases dats_strs_eq Db
    obtain ⟨a, us, rfl, ea, Da⟩ := D
    have lu : us.length = os.length := by rw [Da.len, List.length_map]
    refine ⟨_, rfl, b, _, rfl, .inr (SqT.of eb), fun l1 hl1 => ?_⟩
    have S1 : Same H (upd H l1 (.lst (ps.map V.str))) := same_new hl1
    have e1 : upd H l1 (.lst (ps.map V.str)) l1 = some (.lst (ps.map V.str)) := upd_same
    generalize upd H l1 (.lst (ps.map V.str)) = H1 at S1 e1 ⊢
    refine ⟨_, rfl, a, rfl, ⟨_, FT.sq (FT.same ea S1)⟩, fun D1 hD1 => lc_mapT (K := K) (ys := (os.map Prod.fst).map V.str) (FT.sq (FT.same ea S1)) hD1 (by rw [List.length_map, List.length_map, lu]) (by omega) (fun i x y H4 Qe hx hy S4 k => ?_) gName_mono (fun H6 e6 S6 => ?_)⟩
    · obtain ⟨d, hd, Dx⟩ := dats_get' Da i x hx
      obtain ⟨o, ho, rfl⟩ := get_map hd
      obtain ⟨t, rfl⟩ := tuple_ref (ds := [.str o.1, nmsD o.2]) Dx
      obtain ⟨t', g1, _⟩ := own_row (q := (t, ownD o)) rfl Dx
      have ey : y = V.str o.1 := by
        rw [List.getElem?_map, List.getElem?_map, ho] at hy
        exact (Option.some.inj hy).symm
      rw [ey] at k
      exact ⟨rfl, _, rfl, t, _, 0, _, rfl, rfl, SqT.of (S4 _ _ (S1 _ _ g1)), rfl, k H4 (Same.refl _)⟩
    · refine ⟨_, _, _, _, rfl, rfl, S6 _ _ e1, e6, ?_, fun l hl => ?_⟩
      · rw [List.length_map, List.length_map, List.length_map]
        exact Nat.le_of_lt (small1000 (by omega))
      · exact q l _ ((S1.trans S6).trans (same_new hl)) ((S1.trans S6).free hl) (by rw [upd_same, List.map_append])
end
end S1

set_option Elab.async false
set_option linter.all false
set_option maxRecDepth 100000
set_option maxHeartbeats 4000000
/-! good arguments are let by -/
namespace S1
open PySem PySem.W PySem.Spec PyProof.Rows L2
section
variable {X : Cx}
/-- if c: ..., where c is known to be False -/
def tIfNo (tc : TT) (u : TS) : TS := fun D σ H => tc σ H fun b H1 => b = false ∧ u D σ H1
theorem ps_ifNo {c : Expr} {p q : List Stmt} {tc : TT} {u : TS} {pos : Pos} (hc : PT X c tc) (hb : PSs X q u) : PS X (.If c p q pos) (tIfNo tc u) := by
  refine ⟨fun pins s σ H D I h => ?_⟩
  refine wpAny_If (thn (hc.run pins s σ H _ I h) fun k s1 ⟨H1, I1, e, q1⟩ => ?_)
  subst e
  exact hb.run pins s1 σ H1 D I1 q1
end
def spFitsSaying : Sp := fun vs H Q _ => ∃ (v : V) (s : Say), vs = [v] ∧ DatS H v s ∧ SayOk 6 8 1024 40 s ∧ ∀ H', Same H H' → Q (.bl (decide (copies s.owns ≤ 120))) H'
def spFitsClause : Sp := fun vs H Q _ => ∃ (v u : V) (s : Say) (cl : List Ltr), vs = [v, u] ∧ DatS H v s ∧ Dat H u (clD cl) ∧ SayOk 6 8 120 40 s ∧ ClOk s.names cl ∧ ∀ H', Same H H' → Q (.bl true) H'
def spFitsPlay : Sp := fun vs H Q _ => ∃ (v u : V) (s : Say) (bs : List Bool), vs = [v, u] ∧ DatS H v s ∧ Dat H u (blsD bs) ∧ SayOk 6 8 120 40 s ∧ bs.length = s.picks.length ∧ ∀ H', Same H H' → Q (.bl true) H'
theorem say_row {H : Hp} {v : V} {s : Say} (D : DatS H v s) : ∃ a p o c, v = .ref a ∧ H a = some (.tup [p, o, c]) ∧ Dat H p (nmsD s.picks) ∧ DatO H o s.owns ∧ Dat H c (.tuple (s.cls.map clD)) := D
theorem SayOk.nm {a b c d : Nat} {s : Say} (h : SayOk a b c d s) : ∀ x ∈ s.names, Nm x := fun x hx => by
  rcases List.mem_append.mp hx with y | y
  · exact h.pn x y
  · obtain ⟨o, ho, rfl⟩ := List.mem_map.mp y
    exact (h.on o ho).1
theorem SayOk.nlen {c d : Nat} {s : Say} (h : SayOk 6 8 c d s) : s.names.length ≤ 14 := by
  have h1 := h.pl
  have h2 := h.ol
  show (s.picks ++ s.owns.map Prod.fst).length ≤ 14
  rw [List.length_append, List.length_map]
  omega
section
variable {P : Program} {w : World} {K : PySem.W.Frag} {mg : Str → Option Value} {base : Heap}
theorem scFitsSaying : FnScope ["value", "picks", "owns", "clauses"] ["value"] (defScope sFitsSaying) := ⟨rfl, rfl, rfl, by decide +kernel, rfl, by decide +kernel, by decide +kernel⟩
theorem g_fitsSaying (e : Env1 K mg) : Good P w K mg base 6 "fits_saying" sFitsSaying ["value"] spFitsSaying := by
  obtain ⟨f, fd, h⟩ := e.Y.fitsSaying
  obtain ⟨fA, fdA, An, GA⟩ := g_areNames (P := P) (w := w) (base := base) e
  obtain ⟨fO, fdO, Ow, GO⟩ := g_areOwns (P := P) (w := w) (base := base) e
  obtain ⟨fC, fdC, Cl, GC⟩ := g_areClauses (P := P) (w := w) (base := base) e
  obtain ⟨fN, fdN, No, GN⟩ := g_namesOf (P := P) (w := w) (base := base) e
  obtain ⟨t1, c1⟩ := e.C.picks
  refine ⟨f, fd, h, ?_⟩
  refine h.F.ok scFitsSaying (fun vs H Q E h => ?_) (fun cdv A outer s H vs Q E hr h => ?_)
  · obtain ⟨v, sy, rfl, _⟩ := h
    rfl
  · obtain ⟨v, sy, rfl, D, ok, q⟩ := h
    have hr1 := hr.mono (show 1 ≤ 5 by decide)
    have hr2 := hr.mono (show 2 ≤ 5 by decide)
    refine ⟨_, pss_cons (ps_if (PW.pt (pw_or (pt_not (pt_val (pe_callB call_isi (by rfl) e.B.isi (by decide +kernel) (pa_cons (pv 0) (pa_cons (pe_bltn (v := V.ty "tuple") (by rfl) e.B.tuple (by decide +kernel) rfl) pa_nil)))))
        (pw_or1 (pt_cmpR op_ne (pe_callB call_len_seq (by rfl) e.B.len (by decide +kernel) (pa_cons (pv 0) pa_nil)) pe_int (nomark _))))) (pss_one (ps_ret pe_bl)) pss_nil)
      (pss_cons (ps_asg (pv 0) (pg_tup rfl (pgs_cons (pg_name (i := 1) scFitsSaying.nd rfl (.inl rfl)) (pgs_cons (pg_name (i := 2) scFitsSaying.nd rfl (.inl rfl)) (pgs_cons (pg_name (i := 3) scFitsSaying.nd rfl (.inl rfl)) pgs_nil)))))
      (pss_cons (ps_if (PW.pt (pw_or (pt_not (pt_val (pe_call GA hr2 rfl An.g An.F.kp An.b .nil pass0 (pa_cons (pv 1) (pa_cons (pe_glob (v := V.int 6) rfl c1 ⟨_, rfl⟩) pa_nil)))))
        (pw_or1 (pt_not (pt_val (pe_call GO hr rfl Ow.g Ow.F.kp Ow.b .nil pass0 (pa_cons (pv 2) (pa_cons (pv 1) pa_nil)))))))) (pss_one (ps_ret pe_bl)) pss_nil)
      (pss_one (ps_ret (pe_call GC hr rfl Cl.g Cl.F.kp Cl.b .nil pass0 (pa_cons (pv 3) (pa_cons (pe_call GN hr1 rfl No.g No.F.kp No.b .nil pass0 (pa_cons (pv 1) (pa_cons (pv 2) pa_nil))) pa_nil))))))), ?_⟩
    obtain ⟨a, p, o, c, rfl, ea, Dp, Do, Dc⟩ := say_row D
    refine ⟨_, rfl, _, _, _, _, true, rfl, .ty _, .base (.tup ea), kit_ty (by decide +kernel), true, rfl, ?_⟩
    show if (!true) = true then _ else _
    rw [if_neg (by decide)]
    refine ⟨_, rfl, _, _, rfl, .inr (SqT.of ea), rfl, _, rfl, iteNS rfl ?_⟩
    refine ⟨_, rfl, a, _, rfl, SqT.of ea, rfl, _, _, rfl, _, _, rfl, _, _, rfl, rfl, ?_⟩
    have lp := ok.pl
    have lo := ok.ol
    refine ⟨_, rfl, p, sy.picks, 6, rfl, Dp, ok.pu, ok.pn, by omega, by omega, fun H1 S1 => ⟨true, rfl, ?_⟩⟩
    show if (!true) = true then _ else _
    rw [if_neg (by decide)]
    refine ⟨_, rfl, _, rfl, o, p, sy.owns, sy.picks, rfl, Do.same S1, Dp.same S1, fun x hx => ok.own hx, ok.ou, lo, ok.oc, by omega, fun H2 S2 => ⟨_, rfl, ?_⟩⟩
    have S12 := S1.trans S2
    by_cases hcop : copies sy.owns ≤ 120
    · rw [decide_eq_true hcop] at q ⊢
      show if (!true) = true then _ else _
      rw [if_neg (by decide)]
      refine ⟨_, rfl, _, rfl, _, rfl, p, o, sy.picks, sy.owns, rfl, Dp.same S12, Do.same S12, by omega, by omega, fun l H3 S3 _ el => ?_⟩
      have S13 := S12.trans S3
      have nl := ok.nlen
      exact ⟨c, l, sy.cls, sy.names, rfl, Dc.same S13, el, ok.ck, ok.nm, by omega, ok.cl, ok.cu, fun H4 S4 => q H4 (S13.trans S4)⟩
    · rw [decide_eq_false hcop] at q ⊢
      show if (!false) = true then _ else _
      rw [if_pos (by decide)]
      exact q H2 S12
end
end S1

set_option Elab.async false
set_option linter.all false
set_option maxRecDepth 100000
set_option maxHeartbeats 4000000
/-! the checks ahead of each function let good arguments by -/
namespace S1
open PySem PySem.W PySem.Spec PyProof.Rows L2
structure Wnt (K : PySem.W.Frag) (mg : Str → Option Value) : Prop where
  saying : There K mg "want_saying" sWantSaying ["saying"]
def spWantSaying : Sp := fun vs H Q _ => ∃ (v : V) (s : Say), vs = [v] ∧ DatS H v s ∧ SayOk 6 8 120 40 s ∧ ∀ H', Same H H' → Q .non H'
def spWantClause : Sp := fun vs H Q _ => ∃ (v u : V) (s : Say) (cl : List Ltr), vs = [v, u] ∧ DatS H v s ∧ Dat H u (clD cl) ∧ SayOk 6 8 120 40 s ∧ ClOk s.names cl ∧ ∀ H', Same H H' → Q .non H'
def spWantPlay : Sp := fun vs H Q _ => ∃ (v u : V) (s : Say) (bs : List Bool), vs = [v, u] ∧ DatS H v s ∧ Dat H u (blsD bs) ∧ SayOk 6 8 120 40 s ∧ bs.length = s.picks.length ∧ ∀ H', Same H H' → Q .non H'
def spWantOwn : Sp := fun vs H Q _ => ∃ (v : V) (s : Say) (o : Own), vs = [v, .str o.1] ∧ DatS H v s ∧ SayOk 6 8 120 40 s ∧ o ∈ s.owns ∧ ∀ H', Same H H' → Q .non H'
section
variable {P : Program} {w : World} {K : PySem.W.Frag} {mg : Str → Option Value} {base : Heap}
theorem scWantSaying : FnScope ["saying"] ["saying"] (defScope sWantSaying) := ⟨rfl, rfl, rfl, by decide +kernel, rfl, by decide +kernel, by decide +kernel⟩
theorem g_wantSaying (e : Env1 K mg) (Wn : Wnt K mg) : Good P w K mg base 7 "want_saying" sWantSaying ["saying"] spWantSaying := by
  obtain ⟨f, fd, h⟩ := Wn.saying
  obtain ⟨fA, fdA, An, GA⟩ := g_fitsSaying (P := P) (w := w) (base := base) e
  refine ⟨f, fd, h, ?_⟩
  refine h.F.ok scWantSaying (fun vs H Q E h => ?_) (fun cdv A outer s H vs Q E hr h => ?_)
  · obtain ⟨v, sy, rfl, _⟩ := h
    rfl
  · obtain ⟨v, sy, rfl, D, ok, q⟩ := h
    refine ⟨_, pss_one (ps_if (pt_not (pt_val (pe_call GA hr rfl An.g An.F.kp An.b .nil pass0 (pa_cons (pv 0) pa_nil)))) pss_never pss_nil), ?_⟩
    refine ⟨_, rfl, v, sy, rfl, D, ⟨ok.pu, ok.pn, ok.pl, ok.ou, ok.on, ok.ol, Nat.le_trans ok.oc (by decide), ok.cu, ok.ck, ok.cl⟩, fun H' S => ⟨_, rfl, ?_⟩⟩
    rw [decide_eq_true ok.oc]
    show if (!true) = true then _ else _
    rw [if_neg (by decide)]
    exact q H' S
end
end S1

set_option Elab.async false
set_option linter.all false
set_option maxRecDepth 100000
set_option maxHeartbeats 4000000
/-! good names of owns and picks are let by -/
namespace S1
open PySem PySem.W PySem.Spec PyProof.Rows L2
structure Wnt2 (K : PySem.W.Frag) (mg : Str → Option Value) : Prop where
  own : There K mg "want_own" sWantOwn ["saying", "name"]
  pick : There K mg "want_pick" sWantPick ["saying", "pick"]
def spWantPick : Sp := fun vs H Q _ => ∃ (v : V) (s : Say) (x : Str), vs = [v, .str x] ∧ DatS H v s ∧ SayOk 6 8 120 40 s ∧ x ∈ s.picks ∧ ∀ H', Same H H' → Q .non H'
section
variable {P : Program} {w : World} {K : PySem.W.Frag} {mg : Str → Option Value} {base : Heap}
theorem scWantOwn : FnScope ["saying", "name", "own"] ["saying", "name"] (defScope sWantOwn) := ⟨rfl, rfl, rfl, by decide +kernel, rfl, by decide +kernel, by decide +kernel⟩
theorem scWantPick : FnScope ["saying", "pick"] ["saying", "pick"] (defScope sWantPick) := ⟨rfl, rfl, rfl, by decide +kernel, rfl, by decide +kernel, by decide +kernel⟩
theorem g_wantOwn (e : Env1 K mg) (W2 : Wnt2 K mg) : Good P w K mg base 2 "want_own" sWantOwn ["saying", "name"] spWantOwn := by
  obtain ⟨f, fd, h⟩ := W2.own
  obtain ⟨fN, fdN, Nn, GN⟩ := g_isName (P := P) (w := w) (base := base) e
  refine ⟨f, fd, h, ?_⟩
  refine h.F.ok scWantOwn (fun vs H Q E h => ?_) (fun cdv A outer s H vs Q E hr h => ?_)
  · obtain ⟨v, sy, o, rfl, _⟩ := h
    rfl
  · obtain ⟨v, sy, o, rfl, D, ok, ho, q⟩ := h
    refine ⟨_, pss_one (ps_if (PW.pt (pw_or (pt_not (pt_val (pe_call GN hr rfl Nn.g Nn.F.kp Nn.b .nil pass0 (pa_cons (pv 1) pa_nil))))
      (pw_or1 (pt_cmpR op_notIn_seq (pv 1) (pe_lc (own := [("own", 2)]) (g := gName 2) (tt := tYes) (te := tOp (rIxT K) (tVar 2) (tC (V.int 0))) rfl scWantOwn.nd (pi_tup (pe_ix ix_tup (pv 0) pe_int (fun _ _ => rfl)))
          (blkOk_by (N := ["saying", "name", "own"]) (sc := defScope sWantOwn) (by decide +kernel)) (fun _ _ _ _ _ => pg_name (i := 2) scWantOwn.nd rfl (Or.inl rfl)) (fun _ _ _ _ _ => pts_nil)
          (fun _ _ _ _ _ => by exact pe_ix ix_tup (pv 2) pe_int (fun _ _ => rfl))) (by with_unfolding_all rfl))))) pss_never pss_nil), ?_⟩
    obtain ⟨a, p, ov, c, rfl, ea, Dp, Do, Dc⟩ := say_row D
    obtain ⟨b, us, rfl, eb, Db⟩ := Do
    have lu : us.length = sy.owns.length := by rw [Db.len, List.length_map]
    have lo := ok.ol
    refine ⟨_, rfl, o.1, rfl, (ok.own ho).n, fun H1 S1 => ⟨true, rfl, ?_⟩⟩
    show if (!true) = true then _ else _
    rw [if_neg (by decide)]
    refine ⟨_, rfl, _, rfl, a, _, 1, _, rfl, rfl, SqT.of (S1 _ _ ea), rfl, b, rfl, ⟨_, FT.sq (FT.same eb S1)⟩, fun D1 hD1 => lc_mapT (K := K) (ys := (sy.owns.map Prod.fst).map V.str) (FT.sq (FT.same eb S1)) hD1 (by rw [List.length_map, List.length_map, lu]) (by omega) (fun i x y H4 Qe hx hy S4 k => ?_) gName_mono (fun H6 e6 S6 => ?_)⟩
    · obtain ⟨d, hd, Dx⟩ := dats_get' Db i x hx
      obtain ⟨o', ho', rfl⟩ := get_map hd
      obtain ⟨t, rfl⟩ := tuple_ref (ds := [.str o'.1, nmsD o'.2]) Dx
      obtain ⟨t', g1, _⟩ := own_row (q := (t, ownD o')) rfl Dx
      have ey : y = V.str o'.1 := by
        rw [List.getElem?_map, List.getElem?_map, ho'] at hy
        exact (Option.some.inj hy).symm
      rw [ey] at k
      exact ⟨rfl, _, rfl, t, _, 0, _, rfl, rfl, SqT.of (S4 _ _ (S1 _ _ g1)), rfl, k H4 (Same.refl _)⟩
    · refine ⟨D1, _, rfl, .inl (SqL.of e6), rfl, flat_strs _, _, rfl, ?_⟩
      show if (!inV (V.str o.1) ((sy.owns.map Prod.fst).map V.str)) = true then _ else _
      rw [inV_str, decide_eq_true (List.mem_map_of_mem ho), if_neg (by decide)]
      exact q H6 (S1.trans S6)
theorem g_wantPick (e : Env1 K mg) (W2 : Wnt2 K mg) : Good P w K mg base 2 "want_pick" sWantPick ["saying", "pick"] spWantPick := by
  obtain ⟨f, fd, h⟩ := W2.pick
  obtain ⟨fN, fdN, Nn, GN⟩ := g_isName (P := P) (w := w) (base := base) e
  refine ⟨f, fd, h, ?_⟩
  refine h.F.ok scWantPick (fun vs H Q E h => ?_) (fun cdv A outer s H vs Q E hr h => ?_)
  · obtain ⟨v, sy, o, rfl, _⟩ := h
    rfl
  · obtain ⟨v, sy, x, rfl, D, ok, hx, q⟩ := h
    refine ⟨_, pss_one (ps_if (PW.pt (pw_or (pt_not (pt_val (pe_call GN hr rfl Nn.g Nn.F.kp Nn.b .nil pass0 (pa_cons (pv 1) pa_nil))))
      (pw_or1 (pt_cmpR op_notIn_seq (pv 1) (pe_ix ix_tup (pv 0) pe_int (fun _ _ => rfl)) (by with_unfolding_all rfl))))) pss_never pss_nil), ?_⟩
    obtain ⟨a, p, ov, c, rfl, ea, Dp, Do, Dc⟩ := say_row D
    obtain ⟨b, us, rfl, eb, Db⟩ := dat_tup (ds := sy.picks.map PyData.str) Dp
    cases dats_strs_eq Db
    refine ⟨_, rfl, x, rfl, ok.pn x hx, fun H1 S1 => ⟨true, rfl, ?_⟩⟩
    show if (!true) = true then _ else _
    rw [if_neg (by decide)]
    refine ⟨_, rfl, _, rfl, a, _, 0, _, rfl, rfl, SqT.of (S1 _ _ ea), rfl, b, _, rfl, .inr (SqT.of (S1 _ _ eb)), rfl, flat_strs _, _, rfl, ?_⟩
    show if (!inV (V.str x) (sy.picks.map V.str)) = true then _ else _
    rw [inV_str, decide_eq_true hx, if_neg (by decide)]
    exact q H1 S1
end
end S1

set_option Elab.async false
set_option linter.all false
set_option maxRecDepth 100000
set_option maxHeartbeats 2000000
/-! dicts keyed by tuples of texts, numbers, truths and such tuples -/
namespace L2
open PySem PySem.W PySem.Spec PyProof.Rows
abbrev DRow := TRow × V
/-- the rows of the layer, and the entries -/
abbrev KN : List DRow → List (NestedKey × Addr × Value) → Prop := Paired fun p q => q.1 = nkey p.1.2 ∧ q.2.1 = p.1.1 ∧ RelV p.2 q.2.2
def lookN (D : List DRow) (d : PyData) : Option V := (D.find? fun p => decide (nkey p.1.2 = nkey d)).map (·.2)
def putN (D : List DRow) (r : TRow) (v : V) : List DRow := if (lookN D r.2).isSome then D.map fun p => if nkey p.1.2 = nkey r.2 then (p.1, v) else p else D ++ [(r, v)]
theorem putN_new {D : List DRow} {r : TRow} {v : V} (h : lookN D r.2 = none) : putN D r v = D ++ [(r, v)] := by simp [putN, h]
theorem putN_old {D : List DRow} {r : TRow} {v x : V} (h : lookN D r.2 = some x) : putN D r v = D.map fun p => if nkey p.1.2 = nkey r.2 then (p.1, v) else p := by simp [putN, h]
theorem putN_len (D : List DRow) (r : TRow) (v : V) : (putN D r v).length ≤ D.length + 1 := by
  unfold putN
  split
  · rw [List.length_map]; omega
  · rw [List.length_append]; exact Nat.le_refl _
theorem lookN_cons (p : DRow) (D : List DRow) (d : PyData) : lookN (p :: D) d = if nkey p.1.2 = nkey d then some p.2 else lookN D d := by
  unfold lookN
  rw [List.find?_cons]
  by_cases h : nkey p.1.2 = nkey d
  · rw [if_pos h, decide_eq_true h]; rfl
  · rw [if_neg h, decide_eq_false h]
theorem lookN_none {D : List DRow} {d : PyData} : lookN D d = none ↔ ∀ p ∈ D, nkey p.1.2 ≠ nkey d := by
  induction D with
  | nil => exact ⟨fun _ p hp => absurd hp (by simp), fun _ => rfl⟩
  | cons p D ih =>
    rw [lookN_cons]
    by_cases h : nkey p.1.2 = nkey d
    · rw [if_pos h]
      exact ⟨fun z => (nomatch z), fun z => absurd h (z p List.mem_cons_self)⟩
    · rw [if_neg h, ih]
      exact ⟨fun z q hq => by
        rcases List.mem_cons.mp hq with rfl | hq
        · exact h
        · exact z q hq, fun z q hq => z q (List.mem_cons_of_mem _ hq)⟩
theorem KN.val {D : List DRow} {xs : List (NestedKey × Addr × Value)} (r : KN D xs) (d : PyData) : RelO (lookN D d) ((atKey xs (nkey d)).map (·.2)) := by
  induction r with
  | nil => exact trivial
  | @cons p q ps qs h t ih =>
    rw [lookN_cons]
    have e : atKey (q :: qs) (nkey d) = if nkey p.1.2 = nkey d then some q.2 else atKey qs (nkey d) := by
      unfold atKey
      rw [List.find?_cons, h.1]
      by_cases z : nkey p.1.2 = nkey d
      · rw [if_pos z, decide_eq_true z]; rfl
      · rw [if_neg z, decide_eq_false z]
    rw [e]
    by_cases z : nkey p.1.2 = nkey d
    · rw [if_pos z, if_pos z]
      exact h.2.2
    · rw [if_neg z, if_neg z]
      exact ih
theorem KN.repl {D : List DRow} {xs : List (NestedKey × Addr × Value)} (r : KN D xs) (d : PyData) {v : V} {u : Value} (rv : RelV v u) :
    KN (D.map fun p => if nkey p.1.2 = nkey d then (p.1, v) else p) (xs.map (putAt (nkey d) u)) := by
  induction r with
  | nil => exact .nil
  | @cons p q ps qs h t ih =>
    refine .cons ?_ ih
    unfold putAt
    dsimp only
    rw [h.1]
    by_cases z : nkey p.1.2 = nkey d
    · rw [if_pos z, if_pos z]
      exact ⟨rfl, h.2.1, rv⟩
    · rw [if_neg z, if_neg z]
      exact h
theorem KN.app {D E : List DRow} {xs ys : List (NestedKey × Addr × Value)} (r : KN D xs) (t : KN E ys) : KN (D ++ E) (xs ++ ys) := by
  induction r with
  | nil => exact t
  | cons h _ ih => exact .cons h ih
theorem KN.put {D : List DRow} {xs : List (NestedKey × Addr × Value)} (r : KN D xs) (k : TRow) {v : V} {u : Value} (rv : RelV v u) : KN (putN D k v) (storedH xs (nkey k.2) k.1 u) := by
  have z := (r.val k.2).isSome_eq
  rw [Option.isSome_map] at z
  unfold putN storedH
  rw [z]
  by_cases h : (atKey xs (nkey k.2)).isSome = true
  · rw [if_pos h, if_pos h]
    exact r.repl k.2 rv
  · rw [if_neg h, if_neg h]
    exact r.app (.cons ⟨rfl, rfl, rv⟩ .nil)
/-- the dict's object alone -/
def RawN (w : World) (a : Addr) (D : List DRow) (h : Heap) : Prop := ∃ xs o es ep, KN D xs ∧ h.get? a = some o ∧ o.ExactDict ∧ o.data = .dict es ep ∧ es.toList = xs.map (fun x => (⟨x.1.hash w, .ref x.2.1, x.2.2⟩ : DictEntry)) ∧ (xs.map (·.1)).Nodup ∧ D.length ≤ sizeLine ∧ (a == sysModules) = false
def DnO (w : World) (a : Addr) (D : List DRow) : HO := .ext (RawN w a D)
theorem dn_ok {P : Program} {w : World} {H : Hp} {h : Heap} {a : Addr} {D : List DRow} (r : RawN w a D h) : ObjOk P w H h a (DnO w a D) := by
  have ⟨xs, o, es, ep, r1, r2, r3, r4, r5, r6, r7, r8⟩ := r
  exact ⟨r, ⟨o, r2⟩, fun h1 h2 ⟨xs, o, es, ep, q1, q2, q3, q4, q5, q6, q7, q8⟩ k => ⟨xs, o, es, ep, q1, k _ q2, q3, q4, q5, q6, q7, q8⟩⟩
/-- a dict stands at a with the rows D (the empty one may still be of no kind) -/
def DnAt (w : World) (H : Hp) (a : Addr) (D : List DRow) : Prop := H a = some (DnO w a D) ∨ (H a = some (.dK []) ∧ D = [])
def KeysAt (H : Hp) (D : List DRow) : Prop := ∀ p ∈ D, Dat H p.1.v p.1.2 ∧ keyable p.1.2 = true ∧ p.1.2.depth ≤ 8
theorem DnAt.same {w : World} {H H' : Hp} {a : Addr} {D : List DRow} (h : DnAt w H a D) (S : Same H H') : DnAt w H' a D := by
  rcases h with h | ⟨h, e⟩
  · exact .inl (S _ _ h)
  · exact .inr ⟨S _ _ h, e⟩
theorem KeysAt.same {H H' : Hp} {D : List DRow} (h : KeysAt H D) (S : Same H H') : KeysAt H' D := fun p hp => ⟨(h p hp).1.same S, (h p hp).2⟩
section
variable {X : Cx} {pins : List (Addr × Obj)} {σ : L2.St} {H : Hp} {s : Shared} {a : Addr} {D : List DRow}
theorem key_at {r : Addr} {d : PyData} {h : Heap} {P : Program} {w : World} (ok : HOk P w H h) (D : Dat H (.ref r) d) (k : keyable d = true) (dp : d.depth ≤ 8) : (nestedKind P w).is h (nkey d) r := by
  obtain ⟨as, R⟩ := reads_of_dat ok D (show RelV (.ref r) (Value.ref r) from rfl)
  exact ⟨nkey_is d _ as k R, by rw [nkey_depth d k]; exact dp⟩
theorem kn_keys {h : Heap} {P : Program} {w : World} (ok : HOk P w H h) {D : List DRow} {xs : List (NestedKey × Addr × Value)} (r : KN D xs) (kk : KeysAt H D) : ∀ x ∈ xs, (nestedKind P w).is h x.1 x.2.1 := by
  induction r with
  | nil => exact fun x hx => absurd hx (by simp)
  | @cons p q ps qs hq t ih =>
    intro x hx
    rcases List.mem_cons.mp hx with rfl | hx
    · obtain ⟨D1, k1, dp⟩ := kk p List.mem_cons_self
      rw [hq.1, hq.2.1]
      exact key_at ok D1 k1 dp
    · exact ih (fun p hp => kk p (List.mem_cons_of_mem _ hp)) x hx
theorem dn_of {h : Heap} {P : Program} {w : World} (ok : HOk P w H h) (e : DnAt w H a D) (kk : KeysAt H D) : ∃ xs, KN D xs ∧ h.DictOfH (nestedKind P w) a xs ∧ xs.length ≤ sizeLine ∧ (a == sysModules) = false := by
  rcases e with e | ⟨e, rfl⟩
  · obtain ⟨⟨xs, o, es, ep, r1, r2, r3, r4, r5, r6, r7, r8⟩, _⟩ := (show ObjOk P w H h a (DnO w a D) from ok a _ e)
    exact ⟨xs, r1, ⟨o, es, ep, r2, r3, r4, r5, kn_keys ok r1 kk, r6⟩, by rw [← Paired.length r1]; exact r7, r8⟩
  · obtain ⟨z, hd, vs, rel, dd⟩ := dk_of ok e
    have e0 : vs = [] := by
      have := rel.length
      exact List.length_eq_zero_iff.mp this.symm
    subst e0
    obtain ⟨o, es, ep, h1, h2, h3, _, h4, _⟩ := dd
    have e1 : es.toList = [] := by
      cases hh : es.toList with
      | nil => rfl
      | cons x l => rw [hh] at h4; cases h4
    exact ⟨[], .nil, ⟨o, es, ep, h1, h2, h3, e1, fun x hx => absurd hx (by simp), List.nodup_nil⟩, Nat.zero_le _, hd⟩
theorem DnAt.mut {w : World} (e : DnAt w H a D) : Mut (H a) := by
  rcases e with e | ⟨e, _⟩ <;> rw [e] <;> exact True.intro
theorem dn_setItem {A : Around} {E : Value → Shared → Prop} {r : Addr} {d : PyData} {v : V} {u : Value} {Q : Unit → Shared → Prop} (hu : A.units + 16 < cLine) (I : Inv X pins σ H s) (e : DnAt X.w H a D) (kk : KeysAt H D) (Dr : Dat H (.ref r) d) (kd : keyable d = true) (dp : d.depth ≤ 8)
    (rv : RelV v u) (hl : D.length < sizeLine) (h : ∀ s', Inv X pins σ (upd H a (DnO X.w a (putN D (r, d) v))) s' → Q () s') : wpAny (model X.prog X.w) A (setItem (.ref a) (.ref r) u) Q E s := by
  obtain ⟨xs, rel, dd, hz, hd⟩ := dn_of I.hok e kk
  refine wpAny_setItem_heap (hsz := hz) (show A.in1.units + 8 < cLine by rw [Around.in1_units]; omega) (key_at I.hok Dr kd dp) dd fun h' dd' hs => h _ ?_
  obtain ⟨q, es, ep, hq, h2, h3, h4, _, h5⟩ := dd'
  exact d_write I e.mut hs ⟨q, hq⟩ (dn_ok ⟨_, q, es, ep, rel.put (r, d) rv, hq, h2, h3, h4, h5, Nat.le_trans (putN_len _ _ _) hl, hd⟩)
end
section
variable {X : Cx}
def rInN (f : Bool → Bool) (w : World) : R2 := fun x y H Q => ∃ r a D d, x = .ref r ∧ y = .ref a ∧ DnAt w H a D ∧ KeysAt H D ∧ Dat H (.ref r) d ∧ keyable d = true ∧ d.depth ≤ 8 ∧ Q (.bl (f (lookN D d).isSome)) H
theorem op_inN (hu : X.A.units + 16 < cLine) : OpR X (compareOp .In) (rInN id X.w) := by
  intro pins s σ H x y v u Q I rx ry h
  obtain ⟨r, a, D, d, rfl, rfl, e, kk, Dr, kd, dp, q⟩ := h
  cases rx; cases ry
  obtain ⟨xs, rel, dd, hz, hd⟩ := dn_of I.hok e kk
  refine wpAny_in_heap (show X.A.in1.units + 8 < cLine by rw [Around.in1_units]; omega) (key_at I.hok Dr kd dp) hd dd ?_
  have z := (rel.val d).isSome_eq
  rw [Option.isSome_map] at z
  rw [← z]
  exact ⟨.bl _, H, I.tok _, rfl, q⟩
theorem op_notInN (hu : X.A.units + 16 < cLine) : OpR X (compareOp .NotIn) (rInN not X.w) := by
  intro pins s σ H x y v u Q I rx ry h
  obtain ⟨r, a, D, d, rfl, rfl, e, kk, Dr, kd, dp, q⟩ := h
  cases rx; cases ry
  obtain ⟨xs, rel, dd, hz, hd⟩ := dn_of I.hok e kk
  refine wpAny_notIn_heap (show X.A.in1.units + 8 < cLine by rw [Around.in1_units]; omega) (key_at I.hok Dr kd dp) hd dd ?_
  have z := (rel.val d).isSome_eq
  rw [Option.isSome_map] at z
  rw [← z]
  exact ⟨.bl _, H, I.tok _, rfl, q⟩
/-- d[y] = v -/
def sNPut (w : World) (td ty tv : TE) : TS := fun Dn σ H => tv σ H fun v H1 => td σ H1 fun x H2 => ty σ H2 fun y H3 => ∃ a r D d, x = .ref a ∧ y = .ref r ∧ DnAt w H3 a D ∧ KeysAt H3 D ∧ Dat H3 (.ref r) d ∧ keyable d = true ∧ d.depth ≤ 8 ∧ D.length < sizeLine ∧
  Dn.nx σ (upd H3 a (DnO w a (putN D (r, d) v)))
theorem ps_nput {o i value : Expr} {td ty tv : TE} {pos pos' : Pos} (hu : X.A.units + 16 < cLine) (ho : PE X o td) (hi : PE X i ty) (hv : PE X value tv) (hs : swapsWith value (some (.Subscript o i pos')) pos.line X.env = pure false) :
    PS X (.Assign [.Subscript o i pos'] value pos) (sNPut X.w td ty tv) := by
  refine ⟨fun pins s σ H D I h => ?_⟩
  refine wpAny_Assign_Subscript (thn (hv.run pins s σ H _ I h) fun r s1 ⟨v, H1, I1, rv, q1⟩ => thn (ho.run pins s1 σ H1 _ I1 q1) fun u s2 ⟨x, H2, I2, rx, q2⟩ => thn (hi.run pins s2 σ H2 _ I2 q2) fun iv s3 ⟨y, H3, I3, ry, a, r', D', d, ex, ey, e, kk, Dr, kd, dp, hl, q3⟩ => ?_) hs
  subst ex ey
  cases rx; cases ry
  exact dn_setItem hu I3 e kk Dr kd dp rv hl fun s4 I4 => ⟨σ, _, I4, q3⟩
/-- d[y], there -/
def tNGet (w : World) (td ty : TE) : TE := fun σ H Q => td σ H fun x H1 => ty σ H1 fun y H2 => ∃ a r D d v, x = .ref a ∧ y = .ref r ∧ DnAt w H2 a D ∧ KeysAt H2 D ∧ Dat H2 (.ref r) d ∧ keyable d = true ∧ d.depth ≤ 8 ∧ lookN D d = some v ∧ Q v H2
theorem pe_nget {o i : Expr} {td ty : TE} {pos : Pos} (hu : X.A.units + 16 < cLine) (ho : PE X o td) (hi : PE X i ty) (hs : NoSl i) : PE X (.Subscript o i pos) (tNGet X.w td ty) := by
  refine ⟨fun pins s σ H Q I h => ?_⟩
  refine subD_of PySem.F.slot_dict_getitem.lookup hs (thn (ho.run pins s σ H _ I h) fun u s1 ⟨x, H1, I1, rx, q1⟩ => thn (hi.run pins s1 σ H1 _ I1 q1) fun iv s2 ⟨y, H2, I2, ry, a, r, D, d, v, ex, ey, e, kk, Dr, kd, dp, l, q2⟩ => ?_)
  subst ex ey
  cases rx; cases ry
  obtain ⟨xs, rel, dd, hz, hd⟩ := dn_of I2.hok e kk
  refine ⟨dd.typeIs, ?_⟩
  obtain ⟨w', hw, rw'⟩ := RelO.some_of (v := v) (o := (atKey xs (nkey d)).map (·.2)) (by rw [← l]; exact rel.val d)
  obtain ⟨p, hp, hp2⟩ := Option.map_eq_some_iff.mp hw
  refine wpAny_getItem_heap (show X.A.in1.units + 8 < cLine by rw [Around.in1_units]; omega) (key_at I2.hok Dr kd dp) dd hp ?_
  rw [hp2]
  exact ⟨v, H2, I2.tok _, rw', q2⟩
def rLenN (w : World) : List V → Hp → VK → Prop := fun vs H Q => ∃ a D, vs = [.ref a] ∧ DnAt w H a D ∧ KeysAt H D ∧ Q (.int ((D.length : Nat) : Int)) H
theorem call_lenN : CallR X (.builtin "len") (rLenN X.w) := by
  intro pins s σ H xs us Q I r h
  obtain ⟨a, D, rfl, e, kk, q⟩ := h
  rw [Vals.ref1 r]
  obtain ⟨ys, rel, dd, hz, hd⟩ := dn_of I.hok e kk
  have hl : D.length = ys.length := Paired.length rel
  have hs : sizeLine = 16777216 := sizeLine_eq
  refine call_len_dictH hd dd (by omega) ?_
  rw [← hl]
  exact ⟨.int _, H, I.tok _, ⟨_, rfl⟩, q⟩
end
end L2

set_option Elab.async false
set_option linter.all false
set_option maxRecDepth 100000
set_option maxHeartbeats 2000000
/-! t in ts, t a tuple, ts a row of tuples -/
namespace L2
open PySem PySem.W PySem.Spec PyProof.Rows
def inT (d : PyData) (T : List TRow) : Bool := T.any fun p => decide (nkey p.2 = nkey d)
section
variable {X : Cx}
open Classical in
noncomputable def hitT (d : PyData) (T : List TRow) (u : Value) : Bool := decide (∃ p ∈ T, TRow.r p = u ∧ nkey p.2 = nkey d)
theorem hit_any {H : Hp} {h : Heap} {P : Program} {w : World} (ok : HOk P w H h) {d : PyData} {T : List TRow} (kk : ∀ p ∈ T, Dat H p.v p.2 ∧ keyable p.2 = true ∧ p.2.depth ≤ 8) (p : TRow) (hp : p ∈ T) : hitT d T (TRow.r p) = decide (nkey p.2 = nkey d) := by
  unfold hitT
  by_cases z : nkey p.2 = nkey d
  · rw [decide_eq_true z, decide_eq_true_eq]
    exact ⟨p, hp, rfl, z⟩
  · rw [decide_eq_false z, decide_eq_false_iff_not]
    rintro ⟨q, hq, e, f⟩
    have e1 : q.1 = p.1 := by injection e
    obtain ⟨D1, k1, dp1⟩ := kk p hp
    obtain ⟨D2, k2, dp2⟩ := kk q hq
    have z1 := (key_at ok D1 k1 dp1).1
    have z2 := (key_at ok D2 k2 dp2).1
    rw [e1] at z2
    exact z ((NestedIs.inj _ _ _ z1 z2).trans f)
theorem any_hits {H : Hp} {h : Heap} {P : Program} {w : World} (ok : HOk P w H h) {d : PyData} {T : List TRow} (kk : ∀ p ∈ T, Dat H p.v p.2 ∧ keyable p.2 = true ∧ p.2.depth ≤ 8) : (T.map TRow.r).any (hitT d T) = inT d T := by
  unfold inT
  rw [List.any_map]
  rw [Bool.eq_iff_iff, List.any_eq_true, List.any_eq_true]
  constructor
  · rintro ⟨p, hp, e⟩
    rw [Function.comp, hit_any ok kk p hp] at e
    exact ⟨p, hp, e⟩
  · rintro ⟨p, hp, e⟩
    refine ⟨p, hp, ?_⟩
    rw [Function.comp, hit_any ok kk p hp]
    exact e
theorem eqs_T {H : Hp} {s : Shared} {P : Program} {w : World} (ok : HOk P w H s.heap) {r : Addr} {d : PyData} {T : List TRow} (kk : ∀ p ∈ T, Dat H p.v p.2 ∧ keyable p.2 = true ∧ p.2.depth ≤ 8) (Dr : Dat H (.ref r) d) (kd : keyable d = true) (dp : d.depth ≤ 8) :
    ∀ A : Around, A.units + 8 < cLine → ∀ w ∈ (T.map TRow.r), SeqAt.EqAt A s w (.ref r) (hitT d T w) := fun A hA w hw => by
  obtain ⟨p, hp, rfl⟩ := List.mem_map.mp hw
  obtain ⟨D1, k1, dp1⟩ := kk p hp
  have z1 := (key_at ok D1 k1 dp1)
  have z2 := (key_at ok Dr kd dp)
  rw [hit_any ok kk p hp]
  exact SeqAt.EqAt.cast (eqAt_key _ _ A s _ _ z1.1 z2.1 (by have := z1.2; omega)) (NestedKey.decide_eq _ _).symm
def rInT (K : PySem.W.Frag) (neg : Bool) : R2 := fun x y H Q => ∃ r a d T, x = .ref r ∧ y = .ref a ∧ (SqL K H a (T.map TRow.v) ∨ SqT K H a (T.map TRow.v)) ∧ (∀ p ∈ T, Dat H p.v p.2 ∧ keyable p.2 = true ∧ p.2.depth ≤ 8) ∧ Dat H (.ref r) d ∧ keyable d = true ∧ d.depth ≤ 8 ∧ Q (.bl (if neg then !inT d T else inT d T)) H
theorem op_inT (hu : X.A.units + 16 < cLine) : OpR X (compareOp .In) (rInT X.K false) := by
  intro pins s σ H x y v u Q I rx ry h
  obtain ⟨r, a, d, T, rfl, rfl, hq, kk, Dr, kd, dp, q⟩ := h
  cases rx; cases ry
  have eqs := eqs_T I.hok kk Dr kd dp (s := s)
  have h8 : X.A.in1.units + 8 < cLine := by rw [Around.in1_units]; omega
  rcases hq with hq | hq
  · obtain ⟨its, rv, pl, hz⟩ := I.list hq
    have e1 : its = T.map TRow.r := vals_rows rv
    subst e1
    refine SeqAt.in_listAt (hitT d T) pl.isList (fun w hw => eqs X.A.in1 h8 w (by simpa using hw)) ⟨.bl _, H, I, rfl, ?_⟩
    rw [show (T.map TRow.r).toArray.any (hitT d T) = (T.map TRow.r).any (hitT d T) by simp only [List.any_toArray], any_hits I.hok kk]
    exact q
  · obtain ⟨its, rv, pl, hz⟩ := I.tuple hq
    have e1 : its = T.map TRow.r := vals_rows rv
    subst e1
    refine SeqAt.in_tupleAt (hitT d T) pl (fun w hw => eqs X.A.in1 h8 w (by simpa using hw)) ⟨.bl _, H, I, rfl, ?_⟩
    rw [show (T.map TRow.r).toArray.any (hitT d T) = (T.map TRow.r).any (hitT d T) by simp only [List.any_toArray], any_hits I.hok kk]
    exact q
theorem op_notInT (hu : X.A.units + 16 < cLine) : OpR X (compareOp .NotIn) (rInT X.K true) := by
  intro pins s σ H x y v u Q I rx ry h
  obtain ⟨r, a, d, T, rfl, rfl, hq, kk, Dr, kd, dp, q⟩ := h
  cases rx; cases ry
  have eqs := eqs_T I.hok kk Dr kd dp (s := s)
  have h8 : X.A.in1.units + 8 < cLine := by rw [Around.in1_units]; omega
  rcases hq with hq | hq
  · obtain ⟨its, rv, pl, hz⟩ := I.list hq
    have e1 : its = T.map TRow.r := vals_rows rv
    subst e1
    refine SeqAt.notIn_listAt (hitT d T) pl.isList (fun w hw => eqs X.A.in1 h8 w (by simpa using hw)) ⟨.bl _, H, I, rfl, ?_⟩
    rw [show (T.map TRow.r).toArray.any (hitT d T) = (T.map TRow.r).any (hitT d T) by simp only [List.any_toArray], any_hits I.hok kk]
    exact q
  · obtain ⟨its, rv, pl, hz⟩ := I.tuple hq
    have e1 : its = T.map TRow.r := vals_rows rv
    subst e1
    refine SeqAt.notIn_tupleAt (hitT d T) pl (fun w hw => eqs X.A.in1 h8 w (by simpa using hw)) ⟨.bl _, H, I, rfl, ?_⟩
    rw [show (T.map TRow.r).toArray.any (hitT d T) = (T.map TRow.r).any (hitT d T) by simp only [List.any_toArray], any_hits I.hok kk]
    exact q
end
end L2

set_option Elab.async false
set_option linter.all false
set_option maxRecDepth 100000
set_option maxHeartbeats 4000000
/-! owns that see a pick; letters beside a letter -/
namespace S1
open PySem PySem.W PySem.Spec PyProof.Rows L2
section
variable {X : Cx}
def rNeP : R2 := fun x y H Q => ∃ d e, Dat H x d ∧ Dat H y e ∧ d.plain = true ∧ e.plain = true ∧ d.depth ≤ 8 ∧ Q (.bl (!PyData.eqv d e)) H
theorem op_neP (hu : X.A.units + 64 < cLine) : OpR X (compareOp .NotEq) rNeP := by
  intro pins s σ H x y v u Q I rx ry h
  obtain ⟨d, e, D1, D2, p1, p2, dp, q⟩ := h
  obtain ⟨as, R1⟩ := reads_of_dat I.hok D1 rx
  obtain ⟨bs, R2⟩ := reads_of_dat I.hok D2 ry
  exact PySem.SeqAt.ne_plain R1 R2 p1 p2 (by have := Nat.min_le_left d.depth e.depth; omega) ⟨.bl _, H, I, rfl, q⟩
end
section
variable {K : PySem.W.Frag} {a : Addr} {xs : List V} {F : V → Hp → (Hp → Prop) → Prop} {H0 : Hp} {Qd : Hp → Prop}
theorem turns_list (Pv : Nat → Hp → Prop) (h0 : Pv 0 H0) (hl : ∀ i H, i ≤ xs.length → Pv i H → SqL K H a xs) (hs : ∀ i x H, xs[i]? = some x → Pv i H → F x H (Pv (i + 1))) (hd : ∀ H, Pv xs.length H → Qd H) :
    ∃ W : Nat → Nat → Hp → Prop, (∃ m, W 0 m H0) ∧ ∀ i m H, W i m H →
      ((Itl K a).stop i H ∧ Qd H) ∨ ((Itl K a).go i H ∧ ∃ Nx : Hp → Prop, (∀ H', Nx H' → ∃ m', m' < m ∧ W (i + 1) m' H') ∧ ∀ x H', (Itl K a).yld i H x H' → F x H' Nx) := by
  refine ⟨fun i m H => m = xs.length - i ∧ i ≤ xs.length ∧ Pv i H, ⟨_, rfl, Nat.zero_le _, h0⟩, ?_⟩
  rintro i m H ⟨rfl, hi, p⟩
  have q := hl i H hi p
  by_cases lt : i < xs.length
  · refine .inr ⟨⟨xs, xs[i], q, List.getElem?_eq_getElem lt⟩, Pv (i + 1), fun H' p' => ⟨xs.length - (i + 1), by omega, rfl, lt, p'⟩, ?_⟩
    rintro x H' ⟨e, y⟩
    subst e
    exact hs i x _ (y xs q) p
  · have e : i = xs.length := by omega
    subst e
    exact .inl ⟨⟨xs, q, Nat.le_refl _⟩, hd H p⟩
theorem turns_tup (Pv : Nat → Hp → Prop) (h0 : Pv 0 H0) (hl : ∀ i H, i ≤ xs.length → Pv i H → SqT K H a xs) (hs : ∀ i x H, xs[i]? = some x → Pv i H → F x H (Pv (i + 1))) (hd : ∀ H, Pv xs.length H → Qd H) :
    ∃ W : Nat → Nat → Hp → Prop, (∃ m, W 0 m H0) ∧ ∀ i m H, W i m H →
      ((Itt K a).stop i H ∧ Qd H) ∨ ((Itt K a).go i H ∧ ∃ Nx : Hp → Prop, (∀ H', Nx H' → ∃ m', m' < m ∧ W (i + 1) m' H') ∧ ∀ x H', (Itt K a).yld i H x H' → F x H' Nx) := by
  refine ⟨fun i m H => m = xs.length - i ∧ i ≤ xs.length ∧ Pv i H, ⟨_, rfl, Nat.zero_le _, h0⟩, ?_⟩
  rintro i m H ⟨rfl, hi, p⟩
  have q := hl i H hi p
  by_cases lt : i < xs.length
  · refine .inr ⟨⟨xs, xs[i], q, List.getElem?_eq_getElem lt⟩, Pv (i + 1), fun H' p' => ⟨xs.length - (i + 1), by omega, rfl, lt, p'⟩, ?_⟩
    rintro x H' ⟨e, y⟩
    subst e
    exact hs i x _ (y xs q) p
  · have e : i = xs.length := by omega
    subst e
    exact .inl ⟨⟨xs, q, Nat.le_refl _⟩, hd H p⟩
end
def vw (s : Say) (x : Str) : List Str := (s.owns.filter fun o => decide (x ∈ o.2)).map Prod.fst
def besC (ws : List Str) (l : Ltr) (cl : List Ltr) : List Ltr := if l ∈ cl then cl.filter fun o => decide (o ≠ l) && decide (o.1 ∈ ws) else []
def bes (s : Say) (ws : List Str) (l : Ltr) : List Ltr := s.cls.flatMap (besC ws l)
theorem ltD_inj {a b : Ltr} (h : ltD a = ltD b) : a = b := by
  unfold ltD at h
  injection h with h
  injection h with h1 h2
  injection h1 with h1
  injection h2 with h2 _
  injection h2 with h2
  exact Prod.ext h1 h2
theorem nkey_lt {a b : Ltr} : nkey (ltD a) = nkey (ltD b) ↔ a = b :=
  ⟨fun h => ltD_inj (nkey_inj _ _ (keyable_lt a) (keyable_lt b) (alike_lt a b) h), fun h => by rw [h]⟩
theorem eqv_lt (a b : Ltr) : PyData.eqv (ltD a) (ltD b) = decide (a = b) := by
  obtain ⟨x, p⟩ := a
  obtain ⟨y, q⟩ := b
  by_cases h : x = y
  · subst h
    cases p <;> cases q <;> simp [ltD, PyData.eqv, PyData.eqvAll]
  · cases p <;> cases q <;> simp [ltD, PyData.eqv, PyData.eqvAll, h]
/-- letters in a row of letters -/
theorem inT_lt {T : List TRow} {cl : List Ltr} (e : T.map Prod.snd = cl.map ltD) (l : Ltr) : inT (ltD l) T = decide (l ∈ cl) := by
  unfold inT
  have e2 : (T.any fun p => decide (nkey p.2 = nkey (ltD l))) = (T.map Prod.snd).any fun d => decide (nkey d = nkey (ltD l)) := by rw [List.any_map]; rfl
  rw [e2, e, List.any_map]
  rw [Bool.eq_iff_iff, List.any_eq_true, decide_eq_true_eq]
  constructor
  · rintro ⟨o, ho, z⟩
    have z := of_decide_eq_true z
    rw [← nkey_lt.mp z]
    exact ho
  · intro h
    exact ⟨l, h, decide_eq_true rfl⟩
theorem bes_len (ws : List Str) (l : Ltr) (m : Nat) : ∀ cs : List (List Ltr), (∀ cl ∈ cs, cl.length ≤ m) → (cs.flatMap (besC ws l)).length ≤ m * cs.length
  | [], _ => Nat.zero_le _
  | cl :: cs, h => by
    have h1 := bes_len ws l m cs fun c hc => h c (List.mem_cons_of_mem _ hc)
    have h2 := h cl List.mem_cons_self
    have h3 : (besC ws l cl).length ≤ cl.length := by
      unfold besC
      split
      · exact List.length_filter_le _ _
      · exact Nat.zero_le _
    rw [List.flatMap_cons, List.length_append, List.length_cons, Nat.mul_succ]
    omega
def spViewers : Sp := fun vs H Q _ => ∃ (v : V) (s : Say) (x : Str), vs = [v, .str x] ∧ DatS H v s ∧ SayOk 6 8 120 40 s ∧ ∀ (l : Addr) (H' : Hp), Same H H' → H l = none → H' l = some (.lst ((vw s x).map V.str)) → Q (.ref l) H'
def spBeside : Sp := fun vs H Q _ => ∃ (v : V) (lv r : Addr) (s : Say) (ws : List Str) (lt : Ltr), vs = [v, .ref lv, .ref r] ∧ DatS H v s ∧ SayOk 6 8 120 40 s ∧ H lv = some (.lst (ws.map V.str)) ∧ Dat H (.ref r) (ltD lt) ∧
  ∀ (l : Addr) (T : List TRow) (H' : Hp), Same H H' → H l = none → H' l = some (.lst (T.map TRow.v)) → T.map Prod.snd = (bes s ws lt).map ltD → (∀ q ∈ T, Dat H' q.v q.2) → Q (.ref l) H'
section
variable {P : Program} {w : World} {K : PySem.W.Frag} {mg : Str → Option Value} {base : Heap}
abbrev nBs : List Str := ["saying", "viewers", "letter", "clause", "other"]
theorem scVw : FnScope ["saying", "pick", "name", "sight"] ["saying", "pick"] (defScope sViewersOf) := ⟨rfl, rfl, rfl, by decide +kernel, rfl, by decide +kernel, by decide +kernel⟩
theorem scBs : FnScope nBs ["saying", "viewers", "letter"] (defScope sBeside) := ⟨rfl, rfl, rfl, by decide +kernel, rfl, by decide +kernel, by decide +kernel⟩
theorem ok_viewersOf {f : Addr} {fd : FuncData} (F : Fun K "viewers_of" "viewers_of" sViewersOf f fd) : FnOk P w K mg base CX0 1 f fd ["saying", "pick"] spViewers := by
  refine F.ok scVw (fun vs H Q E h => ?_) (fun cdv A outer s H vs Q E hr h => ?_)
  · obtain ⟨v, sy, x, rfl, _⟩ := h
    rfl
  · obtain ⟨v, sy, x, rfl, D, ok, q⟩ := h
    refine ⟨_, pss_one (ps_ret (pe_lc (own := [("name", 2), ("sight", 3)]) (g := gTup K 2 (gCons (gName 2) (gCons (gName 3) gNil))) (tt := tTest (tOp (rIn K false) (tVar 1) (tVar 3))) (te := tVar 2) rfl scVw.nd (pi_tup (pe_ix ix_tup (pv 0) pe_int (fun _ _ => rfl))) (blkOk_by (N := ["saying", "pick", "name", "sight"]) (sc := defScope sViewersOf) (by decide +kernel))
        (fun _ _ _ _ _ => by exact pg_tup rfl (pgs_cons (pg_name (i := 2) scVw.nd rfl (.inl rfl)) (pgs_cons (pg_name (i := 3) scVw.nd rfl (.inl rfl)) pgs_nil))) (fun _ _ _ _ _ => by exact pts_one (pt_cmpR op_in_seq (pv 1) (pv 3) (by with_unfolding_all rfl))) (fun _ _ _ _ _ => by exact pv 2))), ?_⟩
    obtain ⟨a, pk, ow, c, rfl, ea, Dp, Do, Dc⟩ := say_row D
    obtain ⟨b, us, rfl, eb, Db⟩ := Do
    have lu : us.length = sy.owns.length := by rw [Db.len, List.length_map]
    have lo := ok.ol
    refine ⟨_, rfl, a, _, 1, _, rfl, rfl, SqT.of ea, rfl, b, rfl, ⟨_, FT.sq eb⟩, fun D0 hD0 => ?_⟩
    refine lc_tup (K := K) (a := b) (xs := us) (fun j H4 => H4 D0 = some (.lst ((((sy.owns.take j).filter fun o => decide (x ∈ o.2)).map Prod.fst).map V.str)) ∧ Same H H4) ⟨upd_same, same_new hD0⟩ (fun j H4 _ h => FT.sq (FT.same eb h.2)) ?_ ?_
    · rintro j y H4 hy ⟨e4, S4⟩
      obtain ⟨d, hd, Dx⟩ := dats_get' Db j y hy
      obtain ⟨o, ho, rfl⟩ := get_map hd
      obtain ⟨to, rfl⟩ := tuple_ref (ds := [.str o.1, nmsD o.2]) Dx
      obtain ⟨t', g1, g2⟩ := own_row (q := (to, ownD o)) rfl Dx
      have jl : j < sy.owns.length := (List.getElem?_eq_some_iff.mp ho).1
      refine ⟨to, _, rfl, SqT.of (S4 _ _ g1), rfl, _, _, rfl, _, _, rfl, rfl, rfl, ?_⟩
      refine ⟨_, rfl, _, rfl, t', _, rfl, .inr (SqT.of (S4 _ _ g2)), rfl, flat_strs _, _, rfl, ?_⟩
      show if inV (V.str x) (o.2.map V.str) = true then _ else _
      rw [inV_str]
      have len : ((((sy.owns.take j).filter fun o => decide (x ∈ o.2)).map Prod.fst).map V.str).length < sizeLine := by
        rw [List.length_map, List.length_map]
        have z := List.length_filter_le (fun o : Own => decide (x ∈ o.2)) (sy.owns.take j)
        rw [List.length_take] at z
        exact small1000 (by omega)
      by_cases hx : x ∈ o.2
      · rw [if_pos (decide_eq_true hx)]
        refine ⟨_, rfl, _, e4, len, ?_, same_upd S4 hD0⟩
        have eo : [o].filter (fun o : Own => decide (x ∈ o.2)) = [o] := by simp [hx]
        rw [upd_same, take_next ho, List.filter_append, List.map_append, List.map_append, eo]
        rfl
      · rw [if_neg (by rw [decide_eq_false hx]; decide)]
        refine ⟨?_, S4⟩
        have eo : [o].filter (fun o : Own => decide (x ∈ o.2)) = [] := by simp [hx]
        rw [take_next ho, List.filter_append, eo, List.append_nil]
        exact e4
    · rintro H4 ⟨e4, S4⟩
      rw [lu, List.take_length] at e4
      exact q D0 H4 S4 hD0 e4
theorem ok_beside {f : Addr} {fd : FuncData} (F : Fun K "letters_beside" "letters_beside" sBeside f fd) : FnOk P w K mg base CX0 1 f fd ["saying", "viewers", "letter"] spBeside := by
  refine F.ok scBs (fun vs H Q E h => ?_) (fun cdv A outer s H vs Q E hr h => ?_)
  · obtain ⟨v, lv, r, sy, ws, lt, rfl, _⟩ := h
    rfl
  · obtain ⟨v, lv, r, sy, ws, lt, rfl, D, ok, ev, Dr, q⟩ := h
    have hu : (A.deeper (envOfC "letters_beside" (defScope sBeside) s.heap.objs.size f cdv)).units + 64 < cLine := hr.units
    have hu2 : (A.deeper (envOfC "letters_beside" (defScope sBeside) s.heap.objs.size f cdv)).units + 16 < cLine := by omega
    refine ⟨_, pss_one (ps_ret (pe_lc2 (own := [("clause", 3), ("other", 4)]) (vs1 := [4]) (g := gName 3) (g1 := gName 4) (wi1 := iTup K (tVar 3)) (tt := tTest (tOp (rInT K false) (tVar 2) (tVar 3))) (tt1 := tAnd (tTest (tOp rNeP (tVar 4) (tVar 2))) (tTest (tOp (rIn K false) (tOp (rIxT K) (tVar 4) (tC (V.int 0))) (tVar 1)))) (te := tVar 4) rfl scBs.nd (pi_tup (pe_ix ix_tup (pv 0) pe_int (fun _ _ => rfl))) (blkOk_by (N := nBs) (sc := defScope sBeside) (by decide +kernel)) (by decide)
        (fun _ _ _ _ _ => pg_name (i := 3) scBs.nd rfl (Or.inl rfl)) (fun _ _ _ _ _ => by exact pts_one (pt_cmpR (op_inT (by exact hu2)) (pv 2) (pv 3) (by with_unfolding_all rfl))) (fun _ _ _ _ _ => by exact pi_tup (pv 3))
        (fun _ _ _ _ _ => pg_name (i := 4) scBs.nd rfl (Or.inl rfl)) (fun _ _ _ _ _ => by exact pts_one (PW.pt (pw_and (pt_cmpR (op_neP (by exact hu)) (pv 4) (pv 2) (by with_unfolding_all rfl)) (pw_and1 (pt_cmpR op_in_seq (pe_ix ix_tup (pv 4) pe_int (fun _ _ => rfl)) (pv 1) (by with_unfolding_all rfl)))))) (fun _ _ _ _ _ => by exact pv 4))), ?_⟩
    obtain ⟨a, pk, ow, c, rfl, ea, Dp, Do, Dc⟩ := say_row D
    obtain ⟨b, us, rfl, eb, Db⟩ := dat_tup (ds := sy.cls.map clD) Dc
    have lu : us.length = sy.cls.length := by rw [Db.len, List.length_map]
    have lc := ok.cl
    refine ⟨_, rfl, a, _, 2, _, rfl, rfl, SqT.of ea, rfl, b, rfl, ⟨_, SqT.of eb⟩, fun D0 hD0 => ?_⟩
    refine turns_tup (K := K) (a := b) (xs := us) (fun j H4 => ∃ T4 : List TRow, H4 D0 = some (.lst (T4.map TRow.v)) ∧ T4.map Prod.snd = ((sy.cls.take j).flatMap (besC ws lt)).map ltD ∧ (∀ q' ∈ T4, Dat H4 q'.v q'.2) ∧ Same H H4)
      ⟨[], upd_same, rfl, fun q' hq' => absurd hq' (by simp), same_new hD0⟩ (fun j H4 _ ⟨_, _, _, _, S4⟩ => SqT.of (S4 _ _ eb)) ?_ ?_
    · rintro j x4 H4 hx4 ⟨T4, e4, d4, D4, S4⟩
      obtain ⟨d, hd, Dx⟩ := dats_get' Db j x4 hx4
      obtain ⟨cl, hc, rfl⟩ := get_map hd
      have jl : j < sy.cls.length := (List.getElem?_eq_some_iff.mp hc).1
      have mc := List.mem_of_getElem? hc
      obtain ⟨t, ls, rfl, et, Dl⟩ := dat_tup (ds := cl.map ltD) Dx
      have lcl : cl.length ≤ 14 := Nat.le_trans (cl_len (ok.ck cl mc)) ok.nlen
      have ll : ls.length = cl.length := by rw [Dl.len, List.length_map]
      obtain ⟨Tc, eT, dT, DT⟩ := rows_of_dat Dl (fun d hd => by obtain ⟨o, _, rfl⟩ := List.mem_map.mp hd; exact ⟨_, rfl⟩)
      have len4 : T4.length ≤ 14 * j := by
        rw [← List.length_map (f := Prod.snd), d4, List.length_map]
        have z := bes_len ws lt 14 (sy.cls.take j) (fun cl' h' => Nat.le_trans (cl_len (ok.ck cl' (List.mem_of_mem_take h'))) ok.nlen)
        rw [List.length_take, Nat.min_eq_left (Nat.le_of_lt jl)] at z
        exact z
      have KT : ∀ p ∈ Tc, Dat H4 p.v p.2 ∧ keyable p.2 = true ∧ p.2.depth ≤ 8 := fun p hp => by
        have m : p.2 ∈ cl.map ltD := dT ▸ List.mem_map_of_mem hp
        obtain ⟨o, _, ho⟩ := List.mem_map.mp m
        refine ⟨(DT p hp).same S4, by rw [← ho]; exact keyable_lt o, by rw [← ho]; have := depth_lt o; omega⟩
      refine ⟨rfl, _, rfl, _, rfl, r, t, ltD lt, Tc, rfl, rfl, .inr (SqT.of (by rw [← eT]; exact S4 _ _ et)), KT, Dr.same S4, keyable_lt lt, by have := depth_lt lt; omega, _, rfl, ?_⟩
      show if inT (ltD lt) Tc = true then _ else _
      rw [inT_lt dT.symm]
      by_cases hin : lt ∈ cl
      · rw [if_pos (decide_eq_true hin)]
        refine ⟨_, rfl, t, rfl, ⟨_, SqT.of (S4 _ _ et)⟩, ?_⟩
        have eB : besC ws lt cl = cl.filter fun o => decide (o ≠ lt) && decide (o.1 ∈ ws) := if_pos hin
        refine turns_tup (K := K) (a := t) (xs := ls) (fun k H5 => ∃ T5 : List TRow, H5 D0 = some (.lst (T5.map TRow.v)) ∧ T5.map Prod.snd = T4.map Prod.snd ++ ((cl.take k).filter fun o => decide (o ≠ lt) && decide (o.1 ∈ ws)).map ltD ∧ (∀ q' ∈ T5, Dat H5 q'.v q'.2) ∧ Same H H5)
          ⟨T4, e4, by simp, D4, S4⟩ (fun k H5 _ ⟨_, _, _, _, S5⟩ => SqT.of (S5 _ _ et)) ?_ ?_
        · rintro k x5 H5 hx5 ⟨T5, e5, d5, D5, S5⟩
          rw [eT, List.getElem?_map] at hx5
          obtain ⟨p, hp, rfl⟩ := Option.map_eq_some_iff.mp hx5
          have ep : (cl.map ltD)[k]? = some p.2 := by rw [dT, List.getElem?_map, hp]; rfl
          obtain ⟨o, ho, eo⟩ := get_map ep
          have Dp := (DT p (List.mem_of_getElem? hp)).same S5
          rw [eo] at Dp
          obtain ⟨ot, ol, eov, eot, Dol⟩ := dat_tup (ds := [.str o.1, .bool o.2]) Dp
          have kl : k < cl.length := (List.getElem?_eq_some_iff.mp ho).1
          have len5 : T5.length < sizeLine := by
            rw [← List.length_map (f := Prod.snd), d5, List.length_append, List.length_map, List.length_map]
            have z := List.length_filter_le (fun o : Ltr => decide (o ≠ lt) && decide (o.1 ∈ ws)) (cl.take k)
            rw [List.length_take] at z
            exact small1000 (by omega)
          have no : (cl.take (k + 1)).filter (fun o => decide (o ≠ lt) && decide (o.1 ∈ ws)) = (cl.take k).filter (fun o => decide (o ≠ lt) && decide (o.1 ∈ ws)) ++ (if (decide (o ≠ lt) && decide (o.1 ∈ ws)) = true then [o] else []) := by
            rw [take_next ho, List.filter_append]
            congr 1
            by_cases z : (decide (o ≠ lt) && decide (o.1 ∈ ws)) = true
            · rw [if_pos z]; simp only [List.filter_cons, z, if_true, List.filter_nil]
            · rw [if_neg z]; simp only [List.filter_cons, z, if_false, List.filter_nil, Bool.false_eq_true]
          have skip : (decide (o ≠ lt) && decide (o.1 ∈ ws)) ≠ true → ∃ T5 : List TRow, H5 D0 = some (.lst (T5.map TRow.v)) ∧ T5.map Prod.snd = T4.map Prod.snd ++ ((cl.take (k + 1)).filter fun o => decide (o ≠ lt) && decide (o.1 ∈ ws)).map ltD ∧ (∀ q' ∈ T5, Dat H5 q'.v q'.2) ∧ Same H H5 := fun z =>
            ⟨T5, e5, by rw [no, if_neg z, List.append_nil]; exact d5, D5, S5⟩
          refine ⟨rfl, _, rfl, _, rfl, ltD o, ltD lt, Dp, Dr.same S5, rfl, rfl, by have := depth_lt o; omega, _, rfl, ?_⟩
          show if (!PyData.eqv (ltD o) (ltD lt)) = true then _ else _
          rw [eqv_lt]
          by_cases hne : o = lt
          · rw [if_neg (by rw [decide_eq_true hne]; decide)]
            show if false = true then _ else _
            rw [if_neg (by decide)]
            exact skip (by rw [decide_eq_false (fun z => z hne), Bool.false_and]; decide)
          rw [if_pos (by rw [decide_eq_false hne]; rfl)]
          cases Dol with
          | cons h1 t1 =>
          cases t1 with
          | cons h2 t2 =>
          cases t2
          cases h1
          cases h2
          refine ⟨_, rfl, ot, _, 0, _, eov, rfl, SqT.of eot, rfl, _, rfl, lv, _, rfl, .inl (SqL.of (S5 _ _ ev)), rfl, flat_strs _, _, rfl, ?_⟩
          show if inV (V.str o.1) (ws.map V.str) = true then _ else _
          rw [inV_str]
          by_cases hw : o.1 ∈ ws
          · have yes : (decide (o ≠ lt) && decide (o.1 ∈ ws)) = true := by rw [decide_eq_true hne, decide_eq_true hw]; rfl
            rw [if_pos (decide_eq_true hw)]
            refine ⟨_, rfl, _, e5, by rw [List.length_map]; exact len5, T5 ++ [(p.1, ltD o)], by rw [upd_same, List.map_append]; rfl, ?_, fun q' hq' => ?_, same_upd S5 hD0⟩
            · rw [List.map_append, d5, no, if_pos yes, List.map_append, List.append_assoc]
              rfl
            · have kq : keyable q'.2 = true := by
                rcases List.mem_append.mp hq' with m | m
                · have m2 : q'.2 ∈ T5.map Prod.snd := List.mem_map_of_mem m
                  rw [d5, d4, ← List.map_append] at m2
                  obtain ⟨z, _, hz⟩ := List.mem_map.mp m2
                  rw [← hz]
                  exact keyable_lt z
                · cases List.mem_singleton.mp m
                  exact keyable_lt o
              refine dat_upd e5 kq ?_
              rcases List.mem_append.mp hq' with m | m
              · exact D5 q' m
              · cases List.mem_singleton.mp m
                exact Dp
          · rw [if_neg (by rw [decide_eq_false hw]; decide)]
            exact skip (by rw [decide_eq_false hw, Bool.and_false]; decide)
        · rintro H5 ⟨T5, e5, d5, D5, S5⟩
          rw [ll, List.take_length] at d5
          refine ⟨T5, e5, ?_, D5, S5⟩
          rw [d5, d4, take_next hc, List.flatMap_append, List.flatMap_cons, List.flatMap_nil, List.append_nil, List.map_append, eB]
      · rw [if_neg (by rw [decide_eq_false hin]; decide)]
        refine ⟨T4, e4, ?_, D4, S4⟩
        rw [d4, take_next hc, List.flatMap_append, List.flatMap_cons, List.flatMap_nil, List.append_nil]
        have e0 : besC ws lt cl = [] := if_neg hin
        rw [e0, List.append_nil]
    · rintro H4 ⟨T4, e4, d4, D4, S4⟩
      rw [lu, List.take_length] at d4
      exact q D0 T4 H4 S4 hD0 e4 d4 D4
end
end S1

set_option Elab.async false
set_option linter.all false
set_option maxRecDepth 100000
set_option maxHeartbeats 4000000
/-! what is reached -/
namespace S1
open PySem PySem.W PySem.Spec PyProof.Rows L2
def neg (l : Ltr) : Ltr := (l.1, !l.2)
inductive Reach (s : Say) (ws : List Str) (l0 : Ltr) : Ltr → Prop
  | start {m : Ltr} : m ∈ bes s ws l0 → Reach s ws l0 m
  | step {l m : Ltr} : Reach s ws l0 l → m ∈ bes s ws (neg l) → Reach s ws l0 m
/-- all letters of a saying -/
def univ (s : Say) : List Ltr := s.names.flatMap fun n => [(n, true), (n, false)]
theorem univ_len : ∀ ns : List Str, (ns.flatMap fun n => [((n, true) : Ltr), (n, false)]).length = 2 * ns.length
  | [] => rfl
  | n :: ns => by
    rw [List.flatMap_cons, List.length_append, univ_len ns, List.length_cons]
    show 2 + 2 * ns.length = 2 * (ns.length + 1)
    omega
theorem bes_mem {s : Say} {ws : List Str} {l m : Ltr} (h : m ∈ bes s ws l) : ∃ cl ∈ s.cls, l ∈ cl ∧ m ∈ cl ∧ m ≠ l ∧ m.1 ∈ ws := by
  unfold bes at h
  obtain ⟨cl, hc, hm⟩ := List.mem_flatMap.mp h
  unfold besC at hm
  by_cases hl : l ∈ cl
  · rw [if_pos hl] at hm
    obtain ⟨h1, h2⟩ := List.mem_filter.mp hm
    rw [Bool.and_eq_true, decide_eq_true_eq, decide_eq_true_eq] at h2
    exact ⟨cl, hc, hl, h1, h2.1, h2.2⟩
  · rw [if_neg hl] at hm
    exact absurd hm (by simp)
theorem bes_of {s : Say} {ws : List Str} {l m : Ltr} {cl : List Ltr} (hc : cl ∈ s.cls) (hl : l ∈ cl) (hm : m ∈ cl) (ne : m ≠ l) (hw : m.1 ∈ ws) : m ∈ bes s ws l := by
  unfold bes besC
  refine List.mem_flatMap.mpr ⟨cl, hc, ?_⟩
  rw [if_pos hl]
  exact List.mem_filter.mpr ⟨hm, by rw [Bool.and_eq_true, decide_eq_true_eq, decide_eq_true_eq]; exact ⟨ne, hw⟩⟩
theorem bes_univ {s : Say} (ok : SayOk 6 8 120 40 s) {ws : List Str} {l m : Ltr} (h : m ∈ bes s ws l) : m ∈ univ s := by
  obtain ⟨cl, hc, _, hm, _⟩ := bes_mem h
  have z := (ok.ck cl hc).mem m hm
  refine List.mem_flatMap.mpr ⟨m.1, z, ?_⟩
  obtain ⟨n, b⟩ := m
  cases b <;> simp
theorem bes_max {s : Say} (ok : SayOk 6 8 120 40 s) (ws : List Str) (l : Ltr) : (bes s ws l).length ≤ 560 := by
  have z := bes_len ws l 14 s.cls fun cl h => Nat.le_trans (cl_len (ok.ck cl h)) ok.nlen
  have := ok.cl
  show (s.cls.flatMap (besC ws l)).length ≤ 560
  omega
/-- letters waiting, letters found -/
structure WInv (s : Say) (ws : List Str) (l0 : Ltr) (A F : List Ltr) : Prop where
  nd : F.Nodup
  ra : ∀ m ∈ A, Reach s ws l0 m
  rf : ∀ m ∈ F, Reach s ws l0 m
  c0 : ∀ m ∈ bes s ws l0, m ∈ F ∨ m ∈ A
  c1 : ∀ l ∈ F, ∀ m ∈ bes s ws (neg l), m ∈ F ∨ m ∈ A
  len : A.length ≤ 560 * (F.length + 1)
theorem reach_univ {s : Say} (ok : SayOk 6 8 120 40 s) {ws : List Str} {l0 m : Ltr} (h : Reach s ws l0 m) : m ∈ univ s := by
  cases h with
  | start h => exact bes_univ ok h
  | step _ h => exact bes_univ ok h
section
variable {s : Say} {ws : List Str} {l0 : Ltr} {A F : List Ltr}
theorem WInv.start (ok : SayOk 6 8 120 40 s) : WInv s ws l0 (bes s ws l0) [] := ⟨List.nodup_nil, fun m h => .start h, fun m h => absurd h (by simp), fun m h => .inr h, fun l h => absurd h (by simp), by have := bes_max ok ws l0; simpa using this⟩
theorem WInv.few (h : WInv s ws l0 A F) (ok : SayOk 6 8 120 40 s) : F.length ≤ 28 := by
  have z := nodup_le h.nd fun x hx => reach_univ ok (h.rf x hx)
  have y := univ_len s.names
  have x := ok.nlen
  have e : (univ s).length = 2 * s.names.length := y
  omega
theorem WInv.skip {l : Ltr} (h : WInv s ws l0 (A ++ [l]) F) (hl : l ∈ F) : WInv s ws l0 A F := by
  have back : ∀ m, (m ∈ F ∨ m ∈ A ++ [l]) → m ∈ F ∨ m ∈ A := fun m z => by
    rcases z with z | z
    · exact .inl z
    · rcases List.mem_append.mp z with z | z
      · exact .inr z
      · rw [List.mem_singleton.mp z]; exact .inl hl
  exact ⟨h.nd, fun m hm => h.ra m (List.mem_append_left _ hm), h.rf, fun m hm => back m (h.c0 m hm), fun k hk m hm => back m (h.c1 k hk m hm), by have := h.len; rw [List.length_append] at this; omega⟩
theorem WInv.add {l : Ltr} (h : WInv s ws l0 (A ++ [l]) F) (ok : SayOk 6 8 120 40 s) (hl : l ∉ F) : WInv s ws l0 (A ++ bes s ws (neg l)) (F ++ [l]) := by
  have rl : Reach s ws l0 l := h.ra l (List.mem_append_right _ List.mem_cons_self)
  have back : ∀ m, (m ∈ F ∨ m ∈ A ++ [l]) → m ∈ F ++ [l] ∨ m ∈ A ++ bes s ws (neg l) := fun m z => by
    rcases z with z | z
    · exact .inl (List.mem_append_left _ z)
    · rcases List.mem_append.mp z with z | z
      · exact .inr (List.mem_append_left _ z)
      · exact .inl (List.mem_append_right _ z)
  refine ⟨?_, fun m hm => ?_, fun m hm => ?_, fun m hm => back m (h.c0 m hm), fun k hk m hm => ?_, ?_⟩
  · rw [List.nodup_append]
    exact ⟨h.nd, by simp, fun a ha b hb e => by rw [List.mem_singleton.mp hb] at e; rw [e] at ha; exact hl ha⟩
  · rcases List.mem_append.mp hm with z | z
    · exact h.ra m (List.mem_append_left _ z)
    · exact .step rl z
  · rcases List.mem_append.mp hm with z | z
    · exact h.rf m z
    · rw [List.mem_singleton.mp z]; exact rl
  · rcases List.mem_append.mp hk with z | z
    · exact back m (h.c1 k z m hm)
    · rw [List.mem_singleton.mp z] at hm
      exact .inr (List.mem_append_right _ hm)
  · have y := bes_max ok ws (neg l)
    have x := h.len
    rw [List.length_append, List.length_append]
    rw [List.length_append] at x
    show A.length + _ ≤ 560 * (F.length + 1 + 1)
    omega
theorem WInv.done (h : WInv s ws l0 [] F) (m : Ltr) : m ∈ F ↔ Reach s ws l0 m := by
  refine ⟨h.rf m, fun r => ?_⟩
  induction r with
  | start hm => exact (h.c0 _ hm).resolve_right (by simp)
  | step _ hm ih => exact (h.c1 _ ih _ hm).resolve_right (by simp)
end
/-! ### tuples alone -/
mutual
theorem dat_tk {H H' : Hp} (K : ∀ b xs, H b = some (.tup xs) → H' b = some (.tup xs)) : ∀ (d : PyData) (v : V), keyable d = true → Dat H v d → Dat H' v d
  | .none, _, _, D => by cases D; exact .non
  | .bool _, _, _, D => by cases D; exact .bl _
  | .int _, _, _, D => by cases D; exact .int _
  | .str _, _, _, D => by cases D; exact .str _
  | .tuple ds, _, k, D => by
    cases D with
    | tup e h => exact .tup (K _ _ e) (dats_tk K ds _ (by simpa [keyable] using k) h)
  | .list _, _, k, _ => by simp [keyable] at k
  | .dict _, _, k, _ => by simp [keyable] at k
theorem dats_tk {H H' : Hp} (K : ∀ b xs, H b = some (.tup xs) → H' b = some (.tup xs)) : ∀ (ds : List PyData) (vs : List V), keyables ds = true → DatAll H vs ds → DatAll H' vs ds
  | [], _, _, D => by cases D; exact .nil
  | d :: ds, _, k, D => by
    rw [keyables, Bool.and_eq_true] at k
    cases D with
    | cons h t => exact .cons (dat_tk K d _ k.1 h) (dats_tk K ds _ k.2 t)
end
theorem tk_put {H : Hp} {a : Addr} {o : HO} (n : ∀ xs, H a ≠ some (.tup xs)) : ∀ b xs, H b = some (.tup xs) → upd H a o b = some (.tup xs) := fun b xs e => by
  have z : b ≠ a := fun z => n xs (by rw [← z]; exact e)
  rw [upd_ne z]
  exact e
end S1

set_option Elab.async false
set_option linter.all false
set_option maxRecDepth 100000
set_option maxHeartbeats 2000000
/-! list(d), sorted(d), d a dict keyed by tuples -/
namespace L2
open PySem PySem.W PySem.Spec PyProof.Rows
section
variable {X : Cx} {pins : List (Addr × Obj)} {σ : L2.St} {H : Hp} {s : Shared} {a : Addr} {D : List DRow}
theorem kn_get : ∀ {D : List DRow} {xs : List (NestedKey × Addr × Value)} {i : Nat} {p : DRow}, KN D xs → D[i]? = some p → ∃ q, xs[i]? = some q ∧ q.1 = nkey p.1.2 ∧ q.2.1 = p.1.1 ∧ RelV p.2 q.2.2
  | _, _, _, _, .nil, e => by simp at e
  | _, _, 0, _, .cons h _, e => by simp at e; subst e; exact ⟨_, rfl, h⟩
  | _, _, i + 1, _, .cons _ t, e => kn_get (i := i) t e
/-- the dict's own entries -/
theorem dn_raw {h : Heap} {P : Program} {w : World} (ok : HOk P w H h) (e : DnAt w H a D) (kk : KeysAt H D) : ∃ (es : Array DictEntry) (ep : Nat), h.DictRaw a es ep ∧ es.size = D.length ∧ (∀ (i : Nat) (p : DRow), D[i]? = some p → ∃ en : DictEntry, es[i]? = some en ∧ en.key = .ref p.1.1 ∧ RelV p.2 en.val) ∧ D.length ≤ sizeLine ∧ (a == sysModules) = false := by
  obtain ⟨xs, rel, ⟨o, es, ep, h1, h2, h3, h4, _, _⟩, hz, hd⟩ := dn_of ok e kk
  have hl : D.length = xs.length := Paired.length rel
  refine ⟨es, ep, ⟨o, h1, h2, h3⟩, (size_of_entries h4).trans hl.symm, fun i p hp => ?_, by omega, hd⟩
  obtain ⟨q, hq, q1, q2, q3⟩ := kn_get rel hp
  have z := entry_at h4 i
  rw [hq] at z
  exact ⟨_, z, by show Value.ref q.2.1 = _; rw [q2], q3⟩
theorem keys_items {es : Array DictEntry} {acc : Array Value} (hs : es.size = D.length) (he : ∀ (i : Nat) (p : DRow), D[i]? = some p → ∃ en : DictEntry, es[i]? = some en ∧ en.key = .ref p.1.1 ∧ RelV p.2 en.val) (h : ItemsOf (fun i v => ∃ hi : i < es.size, v = es[i].key) acc es.size) : acc.toList = (D.map Prod.fst).map TRow.r := by
  apply List.ext_getElem?
  intro i
  rw [Array.getElem?_toList, List.map_map, List.getElem?_map]
  cases hp : D[i]? with
  | none =>
    have hi : D.length ≤ i := List.getElem?_eq_none_iff.mp hp
    have : acc.size ≤ i := by rw [h.1]; omega
    rw [Array.getElem?_eq_none this]
    rfl
  | some p =>
    have hi : i < D.length := (List.getElem?_eq_some_iff.mp hp).1
    have ha : i < acc.size := by rw [h.1]; omega
    obtain ⟨hi2, e⟩ := h.2 i _ (Array.getElem?_eq_getElem ha)
    obtain ⟨en, h1, h2, _⟩ := he i p hp
    rw [Array.getElem?_eq_getElem ha, e]
    rw [Array.getElem?_eq_getElem hi2] at h1
    cases h1
    rw [h2]
    rfl
end
section
variable {X : Cx}
def rSortDn (w : World) : List V → Hp → VK → Prop := fun vs H Q => ∃ (a : Addr) (D : List DRow), vs = [V.ref a] ∧ DnAt w H a D ∧ KeysAt H D ∧ Sorty (D.map Prod.fst) ∧
  ∀ (T' : List TRow) (b : Addr), T'.Perm (D.map Prod.fst) → (T'.Pairwise fun p q => dataLt q.2 p.2 = false) → (((D.map Prod.fst).map Prod.snd).Nodup → T'.Pairwise fun p q => dataLt p.2 q.2 = true) → H b = none → Q (.ref b) (upd H b (.lst (T'.map TRow.v)))
theorem cr_sortDn (hc : X.calm = true) (hu : X.A.units + 64 < cLine) : CallR X (.builtin "sorted") (rSortDn X.w) := by
  intro pins s σ H vs us Q I r h
  obtain ⟨a, D, rfl, e, kk, so, q⟩ := h
  rw [Vals.ref1 r]
  obtain ⟨es, ep, raw, hs, he, hz, hd⟩ := dn_raw I.hok e kk
  have hsz : es.size ≤ sizeLine := by rw [hs]; exact hz
  refine Calls.call_function_entry PyProof.Rows.kind_sorted PyProof.Rows.plain_sorted PyProof.Rows.entry_sorted (PyProof.Rows.args_sorted1 _) ?_
  unfold Builtin.«sorted»
  refine wpAny_bind (m := checkCount "sorted" 1 1 _) (wpAny_pure ?_)
  refine wpAny_bind (kdu_collect (A := X.A.in1) (KdlSrc.rawDict (es := es) (ep := ep) hd) (I.ok.hd hc) raw hsz fun h' tk acc hk hacc => ?_)
  have ea := keys_items hs he hacc
  rw [ea]
  generalize hT : D.map Prod.fst = T at so q ⊢
  have hdat : ∀ p ∈ T, Dat H p.v p.2 := fun p hp => by
    rw [← hT] at hp
    obtain ⟨p', hp', rfl⟩ := List.mem_map.mp hp
    exact (kk p' hp').1
  have hzl : (T.map TRow.r).length ≤ sizeLine := by
    rw [List.length_map, ← hT, List.length_map]
    exact hz
  have I1 : Inv X pins σ H { s with heap := h', toks := tk } := I.kept (t' := tk) hk
  refine wpAny_bind (wpAny_newList ?_ (by exact hzl))
  have hoL : (h'.push (seqObj "list" (T.map TRow.r).toArray 0)).get? h'.objs.size = some (seqObj "list" (T.map TRow.r).toArray 0) := Heap.get?_push_size _ rfl
  show wpAny _ _ _ _ _ { s with heap := h'.push (seqObj "list" (T.map TRow.r).toArray 0), toks := tk }
  have old : ∀ {b : Addr} {u : Obj}, h'.get? b = some u → (h'.push (seqObj "list" (T.map TRow.r).toArray 0)).get? b = some u := fun e => Heap.get?_push_of_some _ e
  have rd : EachIs (fun v p => ∃ as, Reads (sortingHeap (h'.push (seqObj "list" (T.map TRow.r).toArray 0)) h'.objs.size (T.map TRow.r)) v p.2 as) (T.map TRow.r) T :=
    each_rows T fun p hp => by
      obtain ⟨as, z⟩ := I1.reads (hdat p hp)
      exact ⟨as, PyProof.Rows.Reads.keeps (fun b u e => sortingHeap_old (Nat.ne_of_lt (Heap.lt_size e)) (old e)) z⟩
  have tp : ∀ d ∈ T.map Prod.snd, ∃ xs, d = PyData.tuple xs := fun d z => by
    obtain ⟨p, hp, rfl⟩ := List.mem_map.mp z
    exact so.tup p hp
  have un : ∀ d, d ∈ T.map Prod.snd → X.A.in1.in1.units + d.depth < cLine := fun d z => by
    obtain ⟨p, hp, rfl⟩ := List.mem_map.mp z
    have z := so.deep p hp
    simp only [Around.in1_units]
    omega
  have srt := sortsAt_tups (prog := X.prog) (w := X.w) (A := X.A.in1.in1) (s := { s with heap := sortingHeap (h'.push (seqObj "list" (T.map TRow.r).toArray 0)) h'.objs.size (T.map TRow.r), toks := tk }) (each_map (R := fun v d => ∃ as, Reads _ v d as) Prod.snd rd) so.alike tp un
  have out := rows_each (sortVals_data (R := fun v p => v = TRow.r p) (enc := Prod.snd) false (each_rows T fun p _ => rfl) rd so.alike)
  refine wpAny_bind (wpAny_holding (wpAny_call_entry PyProof.Rows.slot_list_sort ⟨_, hoL, rfl⟩ PyProof.Rows.entry_list_sort
    (list_sort_vals (s := { s with heap := h'.push (seqObj "list" (T.map TRow.r).toArray 0), toks := tk }) hoL srt hzl ⟨_, rfl, ?_⟩) (PyProof.Rows.args_list_sort _)))
  rw [out]
  obtain ⟨e', he'⟩ := PyProof.Rows.sortedHeap_at (vs := T.map TRow.r) (out := ((sortT T).map TRow.r).toArray) hoL
  refine wpAny_pure ⟨_, rfl, .ref h'.objs.size, upd H h'.objs.size (.lst ((sortT T).map TRow.v)), I1.laid (t' := tk) (fun b u e => ?_) (Nat.le_refl _)
    ⟨by rw [List.length_map, (sortT_perm T).length_eq]; rw [List.length_map] at hzl; exact hzl, _, e', rows_vals _, he'⟩, rfl, q (sortT T) _ (sortT_perm T) (sortT_le T) (sortT_up T so.alike) (I1.hok.fresh (Nat.le_refl _))⟩
  have hb : b < h'.objs.size := Heap.lt_size e
  rw [PyProof.Rows.sortedHeap_old (Nat.ne_of_lt hb) (by rw [size_push']; exact Nat.lt_succ_of_lt hb)]
  exact old e
def rListDn (w : World) : List V → Hp → VK → Prop := fun vs H Q => ∃ (a : Addr) (D : List DRow), vs = [V.ref a] ∧ DnAt w H a D ∧ KeysAt H D ∧ ∀ b, H b = none → Q (.ref b) (upd H b (.lst ((D.map Prod.fst).map TRow.v)))
theorem call_listDn (hc : X.calm = true) : CallR X (.type "list") (rListDn X.w) := by
  intro pins s σ H vs us Q I r h
  obtain ⟨a, D, rfl, e, kk, q⟩ := h
  rw [Vals.ref1 r]
  obtain ⟨es, ep, raw, hs, he, hz, hd⟩ := dn_raw I.hok e kk
  have hsz : es.size ≤ sizeLine := by rw [hs]; exact hz
  refine kdl_call (KdlSrc.rawDict (es := es) (ep := ep) hd) (I.ok.hd hc) raw hsz fun h' tk acc c' hk hl hacc => ?_
  have ea := keys_items hs he hacc
  have ea2 : acc = ((D.map Prod.fst).map TRow.r).toArray := by rw [← ea]
  exact ⟨.ref _, upd H s.heap.objs.size (.lst ((D.map Prod.fst).map TRow.v)), I.laid (t' := tk) hk (Nat.le_refl _) ⟨by rw [List.length_map, List.length_map]; exact hz, _, c', rows_vals _, by rw [hl, ea2]⟩, rfl, q _ (I.hok.fresh (Nat.le_refl _))⟩
end
end L2

set_option Elab.async false
set_option linter.all false
set_option maxRecDepth 100000
set_option maxHeartbeats 4000000
/-! all that is reached, as the program finds it -/
namespace S1
open PySem PySem.W PySem.Spec PyProof.Rows L2
def ltLt (a b : Ltr) : Prop := dataLt (ltD a) (ltD b) = true
/-- sorted letters, each that is reached -/
structure RchOk (s : Say) (ws : List Str) (l0 : Ltr) (L : List Ltr) : Prop where
  up : L.Pairwise ltLt
  mem : ∀ m, m ∈ L ↔ Reach s ws l0 m
def spAllReached : Sp := fun vs H Q _ => ∃ (v : V) (s : Say) (x : Str) (t : Bool), vs = [v, .str x, .bl t] ∧ DatS H v s ∧ SayOk 6 8 120 40 s ∧
  ∀ (u : V) (L : List Ltr) (H' : Hp), Same H H' → Dat H' u (clD L) → RchOk s (vw s x) (x, t) L → Q u H'
theorem lookN_lt {D : List DRow} {F : List Ltr} (e : (D.map Prod.fst).map Prod.snd = F.map ltD) (l : Ltr) : (lookN D (ltD l)).isSome = decide (l ∈ F) := by
  have z : lookN D (ltD l) = none ↔ l ∉ F := by
    rw [lookN_none]
    constructor
    · intro h hl
      have m : ltD l ∈ (D.map Prod.fst).map Prod.snd := e ▸ List.mem_map_of_mem hl
      obtain ⟨r, hr, e2⟩ := List.mem_map.mp m
      obtain ⟨p, hp, rfl⟩ := List.mem_map.mp hr
      exact h p hp (by rw [e2])
    · intro h p hp e2
      have m : p.1.2 ∈ F.map ltD := e ▸ List.mem_map_of_mem (List.mem_map_of_mem hp)
      obtain ⟨o, ho, e3⟩ := List.mem_map.mp m
      rw [← e3] at e2
      exact h (nkey_lt.mp e2 ▸ ho)
  by_cases h : l ∈ F
  · rw [decide_eq_true h]
    cases hh : lookN D (ltD l) with
    | none => exact absurd h (z.mp hh)
    | some y => rfl
  · rw [decide_eq_false h, z.mpr h]
    rfl
structure AInv (w : World) (H0 : Hp) (lv fD wL : Addr) (s : Say) (x : Str) (t : Bool) (H' : Hp) (Tw : List TRow) (D : List DRow) (A F : List Ltr) : Prop where
  S : Same H0 H'
  v : H' lv = some (.lst ((vw s x).map V.str))
  wl : H' wL = some (.lst (Tw.map TRow.v))
  wd : Tw.map Prod.snd = A.map ltD
  wD : ∀ q ∈ Tw, Dat H' q.v q.2
  f : DnAt w H' fD D
  fd : (D.map Prod.fst).map Prod.snd = F.map ltD
  fD : ∀ p ∈ D, Dat H' p.1.v p.1.2
  i : WInv s (vw s x) (x, t) A F
section
variable {w : World} {H0 H' : Hp} {lv fD wL : Addr} {s : Say} {x : Str} {t : Bool} {Tw : List TRow} {D : List DRow} {A F : List Ltr}
theorem AInv.keys (a : AInv w H0 lv fD wL s x t H' Tw D A F) : KeysAt H' D := fun p hp => by
  have m : p.1.2 ∈ F.map ltD := a.fd ▸ List.mem_map_of_mem (List.mem_map_of_mem hp)
  obtain ⟨o, _, e⟩ := List.mem_map.mp m
  exact ⟨a.fD p hp, by rw [← e]; exact keyable_lt o, by rw [← e]; have := depth_lt o; omega⟩
theorem dn_not_tup (h : DnAt w H' fD D) : ∀ xs, H' fD ≠ some (.tup xs) := fun xs e => by
  rcases h with h | ⟨h, _⟩ <;> rw [h] at e <;> cases e
theorem dn_not_lst (h : DnAt w H' fD D) : ∀ xs, H' fD ≠ some (.lst xs) := fun xs e => by
  rcases h with h | ⟨h, _⟩ <;> rw [h] at e <;> cases e
theorem dnAt_put {l : Addr} {o : HO} (h : DnAt w H' fD D) (n : fD ≠ l) : DnAt w (upd H' l o) fD D := by
  rcases h with h | ⟨h, e⟩
  · exact .inl (by rw [upd_ne n]; exact h)
  · exact .inr ⟨by rw [upd_ne n]; exact h, e⟩
theorem AInv.pop {p : TRow} {l : Ltr} (a : AInv w H0 lv fD wL s x t H' (Tw ++ [p]) D (A ++ [l]) F) (h0 : H0 wL = none) (nl : lv ≠ wL) : p.2 = ltD l ∧
    Same H0 (upd H' wL (.lst (Tw.map TRow.v))) ∧ (upd H' wL (.lst (Tw.map TRow.v))) lv = some (.lst ((vw s x).map V.str)) ∧ (upd H' wL (.lst (Tw.map TRow.v))) wL = some (.lst (Tw.map TRow.v)) ∧ Tw.map Prod.snd = A.map ltD ∧ (∀ q ∈ Tw ++ [p], Dat (upd H' wL (.lst (Tw.map TRow.v))) q.v q.2) ∧
    DnAt w (upd H' wL (.lst (Tw.map TRow.v))) fD D ∧ (∀ p ∈ D, Dat (upd H' wL (.lst (Tw.map TRow.v))) p.1.v p.1.2) := by
  have e := a.wd
  rw [List.map_append, List.map_append] at e
  have e2 := List.append_inj' e rfl
  have ep : p.2 = ltD l := by
    have z := e2.2
    injection z
  have nf : fD ≠ wL := fun z => dn_not_lst a.f _ (by rw [z]; exact a.wl)
  have K : ∀ b xs, H' b = some (.tup xs) → upd H' wL (.lst (Tw.map TRow.v)) b = some (.tup xs) := tk_put fun xs z => by rw [a.wl] at z; cases z
  refine ⟨ep, same_upd a.S h0, by rw [upd_ne nl]; exact a.v, upd_same, e2.1, fun q hq => ?_, dnAt_put a.f nf, fun p hp => dat_tk K _ _ (a.keys p hp).2.1 (a.fD p hp)⟩
  have m : q.2 ∈ (A ++ [l]).map ltD := a.wd ▸ List.mem_map_of_mem hq
  obtain ⟨o, _, eo⟩ := List.mem_map.mp m
  exact dat_tk K _ _ (by rw [← eo]; exact keyable_lt o) (a.wD q hq)
end
abbrev nAR : List Str := ["saying", "pick", "truth", "viewers", "found", "waiting", "letter"]
section
variable {P : Program} {w : World} {K : PySem.W.Frag} {mg : Str → Option Value} {base : Heap}
theorem scAR : FnScope nAR ["saying", "pick", "truth"] (defScope sAllReached) := ⟨rfl, rfl, rfl, by decide +kernel, rfl, by decide +kernel, by decide +kernel⟩
theorem ok_allReached {f fV fB : Addr} {fd fdV fdB : FuncData} (F : Fun K "all_reached" "all_reached" sAllReached f fd) (B : Blt mg) (Vw : Has K mg "viewers_of" sViewersOf ["saying", "pick"] fV fdV) (Bs : Has K mg "letters_beside" sBeside ["saying", "viewers", "letter"] fB fdB) :
    FnOk P w K mg base CX0 2 f fd ["saying", "pick", "truth"] spAllReached := by
  have GV : FnOk P w K mg base CX0 1 fV fdV ["saying", "pick"] spViewers := ok_viewersOf Vw.F
  have GB : FnOk P w K mg base CX0 1 fB fdB ["saying", "viewers", "letter"] spBeside := ok_beside Bs.F
  refine F.ok scAR (fun vs H Q E h => ?_) (fun cdv A outer s H vs Q E hr h => ?_)
  · obtain ⟨v, sy, x, t, rfl, _⟩ := h
    rfl
  · obtain ⟨v, sy, x, t, rfl, D, ok, q⟩ := h
    have hu : (A.deeper (envOfC "all_reached" (defScope sAllReached) s.heap.objs.size f cdv)).units + 64 < cLine := hr.units
    have hu2 : (A.deeper (envOfC "all_reached" (defScope sAllReached) s.heap.objs.size f cdv)).units + 16 < cLine := by omega
    refine ⟨_, pss_cons (ps_set (i := 3) scAR.nd rfl (.inl rfl) (pe_call GV hr rfl Vw.g Vw.F.kp Vw.b .nil pass0 (pa_cons (pv 0) (pa_cons (pv 1) pa_nil))))
      (pss_cons (ps_set (i := 4) scAR.nd rfl (.inl rfl) pe_dnewK)
      (pss_cons (ps_set (i := 5) scAR.nd rfl (.inl rfl) (pe_call GB hr rfl Bs.g Bs.F.kp Bs.b .nil pass0 (pa_cons (pv 0) (pa_cons (pv 3) (pa_cons (pe_tup (pa_cons (pv 1) (pa_cons (pv 2) pa_nil))) pa_nil)))))
      (pss_cons (ps_while PassesOwn.never (pt_truth (pv 5) (fun _ => rfl))
        (pss_cons (ps_set (i := 6) scAR.nd rfl (.inl rfl) (pe_bm0 PySem.F.plainAttrs_list PySem.F.slot_list_pop PySem.F.type_list_pop mt_pop (pv 5)))
        (pss_one (ps_if (pt_cmpR (op_notInN (by exact hu2)) (pv 6) (pv 4) (by with_unfolding_all rfl))
          (pss_cons (ps_nput (by exact hu2) (pv 4) (pv 6) pe_bl (by rfl))
          (pss_one (ps_expr (pe_bm PySem.F.plainAttrs_list PySem.F.slot_list_extend PySem.F.type_list_extend mt_extend (pv 5) (pa_cons (pe_call GB hr rfl Bs.g Bs.F.kp Bs.b .nil pass0 (pa_cons (pv 0) (pa_cons (pv 3)
            (pa_cons (pe_tup (pa_cons (pe_ix ix_tup (pv 6) pe_int (fun _ _ => rfl)) (pa_cons (pe_not (pe_ix ix_tup (pv 6) pe_int (fun _ _ => rfl))) pa_nil))) pa_nil)))) pa_nil))))) pss_nil))))
      (pss_one (ps_ret (pe_tupleOf rfl B.tuple (pe_callB (cr_sortDn rfl (by exact hu)) (by rfl) B.sorted (by decide +kernel) (pa_cons (pv 4) pa_nil)))))))), ?_⟩
    have s2 : 2 ≤ sizeLine := by decide
    refine ⟨_, rfl, _, rfl, v, sy, x, rfl, D, ok, fun lv H1 S1 hlv ev => fun fD hfD => ?_⟩
    have S2 := S1.trans (same_new (o := .dK []) hfD)
    have nvf : lv ≠ fD := ne_of_none ev hfD
    have ev2 : upd H1 fD (.dK []) lv = some (.lst ((vw sy x).map V.str)) := by rw [upd_ne nvf]; exact ev
    have ef2 : upd H1 fD (.dK []) fD = some (.dK []) := upd_same
    have hfD0 : H fD = none := S1.free hfD
    generalize upd H1 fD (.dK []) = H2 at S2 ev2 ef2 ⊢
    refine ⟨_, rfl, _, rfl, _, rfl, _, rfl, s2, fun tt htt => ?_⟩
    have S3 := same_new (o := .tup [V.str x, .bl t]) htt
    have e3 : upd H2 tt (.tup [V.str x, .bl t]) tt = some (.tup [V.str x, .bl t]) := upd_same
    refine ⟨v, lv, tt, sy, vw sy x, (x, t), rfl, (D.same S2).same S3, ok, S3 _ _ ev2, .tup e3 (.cons (.str x) (.cons (.bl t) .nil)), fun wL Tw H4 S4 hwL eW dW DW => ?_⟩
    have SA := S2.trans (S3.trans S4)
    have nvw : lv ≠ wL := ne_of_none (S3 _ _ ev2) hwL
    have hwL0 : H wL = none := (S2.trans S3).free hwL
    refine ⟨fun m σ H' => ∃ (o6 : Option V) (Tw : List TRow) (D : List DRow) (A F : List Ltr), σ = [some v, some (.str x), some (.bl t), some (.ref lv), some (.ref fD), some (.ref wL), o6] ∧ AInv w H lv fD wL sy x t H' Tw D A F ∧ m = (28 - F.length) * 2000 + A.length,
      ⟨_, none, Tw, [], _, [], rfl, ⟨SA, S4 _ _ (S3 _ _ ev2), eW, dW, DW, .inr ⟨S4 _ _ (S3 _ _ ef2), rfl⟩, rfl, fun p hp => absurd hp (by simp), WInv.start ok⟩, rfl⟩, ?_⟩
    rintro m σ H5 ⟨o6, Tw5, D5, A5, F5, rfl, a, rfl⟩
    refine ⟨_, rfl, _, .inl ⟨_, SqL.of a.wl, rfl⟩, ?_⟩
    have few := a.i.few ok
    rcases List.eq_nil_or_concat Tw5 with rfl | ⟨Tw6, p, rfl⟩
    · have eA : A5 = [] := by
        have z := a.wd
        cases A5 with
        | nil => rfl
        | cons y l => cases z
      subst eA
      show if false = true then _ else _
      rw [if_neg (by decide)]
      refine ⟨_, rfl, fD, D5, rfl, a.f, a.keys, sorty_of a.fd alike_lt (fun o => ⟨_, rfl⟩) (fun o => by have := depth_lt o; omega), fun T' b pm _ up hb => ?_⟩
      have Sb := same_new (o := .lst (T'.map TRow.v)) hb
      refine .inl ⟨b, _, rfl, SqL.of upd_same, fun tt2 htt2 => ?_⟩
      have St := same_new (o := .tup (T'.map TRow.v)) htt2
      obtain ⟨L, pL, eL⟩ := perm_back (f := ltD) ((pm.map Prod.snd).trans (.of_eq a.fd)) F5 rfl
      have nT : ((D5.map Prod.fst).map Prod.snd).Nodup := by
        rw [a.fd]
        exact List.pairwise_map.mpr (a.i.nd.imp fun {x y} ne z => ne (ltD_inj z))
      refine q _ L _ (a.S.trans (Sb.trans St)) (.tup upd_same ?_) ⟨?_, fun m => ?_⟩
      · rw [← eL]
        refine dats_rows fun r hr => ?_
        have m := pm.mem_iff.mp hr
        obtain ⟨p, hp, rfl⟩ := List.mem_map.mp m
        exact ((a.fD p hp).same Sb).same St
      · have u1 : (T'.map Prod.snd).Pairwise fun d e => dataLt d e = true := List.pairwise_map.mpr (up nT)
        rw [eL] at u1
        have u2 : L.Pairwise fun x y => dataLt (ltD x) (ltD y) = true := List.pairwise_map.mp u1
        exact u2
      · rw [pL.mem_iff]
        exact a.i.done m
    · rw [List.concat_eq_append] at a ⊢
      obtain ⟨A6, l, rfl⟩ : ∃ A6 l, A5 = A6 ++ [l] := by
        rcases List.eq_nil_or_concat A5 with rfl | ⟨A6, l, rfl⟩
        · have z := a.wd
          rw [List.map_append] at z
          simp at z
        · exact ⟨A6, l, List.concat_eq_append⟩
      obtain ⟨ep, S6, v6, w6, d6, D6, f6, k6⟩ := a.pop hwL0 nvw
      rw [show (!((Tw6 ++ [p]).map TRow.v).isEmpty) = true by rw [List.map_append]; simp]
      show if true = true then _ else _
      rw [if_pos rfl]
      refine ⟨_, fun σ' H' z => z, ?_⟩
      refine ⟨_, rfl, .inl ⟨rfl, _, SqL.of a.wl⟩, wL, _, p.v, rfl, rfl, a.wl, by simp, ?_⟩
      rw [show ((Tw6 ++ [p]).map TRow.v).dropLast = Tw6.map TRow.v by rw [List.map_append]; simp]
      have mp : p ∈ Tw6 ++ [p] := List.mem_append_right _ List.mem_cons_self
      have Dp := D6 p mp
      rw [ep] at Dp
      have kk6 : KeysAt (upd H5 wL (.lst (Tw6.map TRow.v))) D5 := fun r hr => ⟨k6 r hr, (a.keys r hr).2⟩
      have nfw : fD ≠ wL := fun z => dn_not_lst a.f _ (by rw [z]; exact a.wl)
      generalize upd H5 wL (.lst (Tw6.map TRow.v)) = H6 at S6 v6 w6 D6 f6 k6 Dp kk6 ⊢
      refine ⟨_, rfl, _, rfl, p.1, fD, D5, ltD l, rfl, rfl, f6, kk6, Dp, keyable_lt l, by have := depth_lt l; omega, _, rfl, ?_⟩
      show if (!(lookN D5 (ltD l)).isSome) = true then _ else _
      rw [lookN_lt a.fd]
      have lenA : (A6 ++ [l]).length = A6.length + 1 := by rw [List.length_append]; rfl
      have lT6 : Tw6.length = A6.length := by
        have z := congrArg List.length d6
        rw [List.length_map, List.length_map] at z
        exact z
      by_cases hl : l ∈ F5
      · rw [if_neg (by rw [decide_eq_true hl]; decide)]
        have iv := a.i.skip hl
        exact ⟨_, by rw [lenA]; exact Nat.add_lt_add_left (Nat.lt_succ_self _) _, _, Tw6, D5, A6, F5, rfl, ⟨S6, v6, w6, d6, fun q hq => D6 q (List.mem_append_left _ hq), f6, a.fd, k6, iv⟩, rfl⟩
      · rw [if_pos (by rw [decide_eq_false hl]; rfl)]
        have hnone : lookN D5 (ltD l) = none := by
          have z := lookN_lt a.fd l
          rw [decide_eq_false hl] at z
          cases hh : lookN D5 (ltD l) with
          | none => rfl
          | some y => rw [hh] at z; cases z
        have lD : D5.length = F5.length := by
          have z := congrArg List.length a.fd
          rw [List.length_map, List.length_map, List.length_map] at z
          exact z
        refine ⟨_, rfl, _, rfl, fD, p.1, D5, ltD l, rfl, rfl, f6, kk6, Dp, keyable_lt l, by have := depth_lt l; omega, Nat.lt_of_le_of_lt (show D5.length ≤ 28 by omega) (by decide), ?_⟩
        rw [putN_new (r := (p.1, ltD l)) hnone]
        have hw : (cxOf CX0 P w K mg base nAR "all_reached" (defScope sAllReached) f cdv A outer s H E).nox.w = w := rfl
        rw [hw]
        have K7 := tk_put (o := DnO w fD (D5 ++ [((p.1, ltD l), .bl true)])) (dn_not_tup f6)
        have S7 : Same H (upd H6 fD (DnO w fD (D5 ++ [((p.1, ltD l), .bl true)]))) := same_upd S6 hfD0
        have v7 : upd H6 fD (DnO w fD (D5 ++ [((p.1, ltD l), .bl true)])) lv = some (.lst ((vw sy x).map V.str)) := by rw [upd_ne nvf]; exact v6
        have w7 : upd H6 fD (DnO w fD (D5 ++ [((p.1, ltD l), .bl true)])) wL = some (.lst (Tw6.map TRow.v)) := by rw [upd_ne nfw.symm]; exact w6
        have f7 : DnAt w (upd H6 fD (DnO w fD (D5 ++ [((p.1, ltD l), .bl true)]))) fD (D5 ++ [((p.1, ltD l), .bl true)]) := .inl upd_same
        have D7 : ∀ q ∈ Tw6, Dat (upd H6 fD (DnO w fD (D5 ++ [((p.1, ltD l), .bl true)]))) q.v q.2 := fun q hq => by
          have m : q.2 ∈ A6.map ltD := d6 ▸ List.mem_map_of_mem hq
          obtain ⟨o, _, eo⟩ := List.mem_map.mp m
          exact dat_tk K7 _ _ (by rw [← eo]; exact keyable_lt o) (D6 q (List.mem_append_left _ hq))
        have p7 : Dat (upd H6 fD (DnO w fD (D5 ++ [((p.1, ltD l), .bl true)]))) (.ref p.1) (ltD l) := dat_tk K7 _ _ (keyable_lt l) Dp
        have k7 : ∀ r ∈ D5 ++ [((p.1, ltD l), V.bl true)], Dat (upd H6 fD (DnO w fD (D5 ++ [((p.1, ltD l), .bl true)]))) r.1.v r.1.2 := fun r hr => by
          rcases List.mem_append.mp hr with m | m
          · exact dat_tk K7 _ _ (kk6 r m).2.1 (k6 r m)
          · cases List.mem_singleton.mp m
            exact p7
        generalize upd H6 fD (DnO w fD (D5 ++ [((p.1, ltD l), .bl true)])) = H7 at S7 v7 w7 f7 D7 p7 k7 ⊢
        obtain ⟨pt, pl, ept, ept2, Dpl⟩ := dat_tup (ds := [.str l.1, .bool l.2]) p7
        have ept' : p.1 = pt := by injection ept
        subst ept'
        cases Dpl with
        | cons h1 t1 =>
        cases t1 with
        | cons h2 t2 =>
        cases t2
        cases h1
        cases h2
        refine ⟨_, rfl, .inl ⟨rfl, _, SqL.of w7⟩, _, rfl, _, rfl, _, rfl, p.1, _, 0, _, rfl, rfl, SqT.of ept2, rfl, _, rfl, p.1, _, 1, _, rfl, rfl, SqT.of ept2, rfl, _, rfl, s2, fun t8 ht8 => ?_⟩
        have S8 := same_new (o := .tup [V.str l.1, .bl (!l.2)]) ht8
        have e8 : upd H7 t8 (.tup [V.str l.1, .bl (!l.2)]) t8 = some (.tup [V.str l.1, .bl (!l.2)]) := upd_same
        refine ⟨v, lv, t8, sy, vw sy x, neg l, rfl, (D.same S7).same S8, ok, S8 _ _ v7, .tup e8 (.cons (.str l.1) (.cons (.bl _) .nil)), fun lB TB H9 S9 hB eB dB DB => ?_⟩
        have S79 := S8.trans S9
        have iv := a.i.add ok hl
        have lTB : TB.length ≤ 560 := by
          have z := congrArg List.length dB
          rw [List.length_map, List.length_map] at z
          rw [z]
          exact bes_max ok _ _
        have lAl := a.i.len
        refine ⟨wL, lB, _, _, rfl, rfl, S79 _ _ w7, eB, ?_, ?_⟩
        · rw [List.length_map, List.length_map]
          exact Nat.le_trans (show _ ≤ 100000 by omega) (by decide)
        have K9 : ∀ b xs, H9 b = some (.tup xs) → upd H9 wL (.lst (Tw6.map TRow.v ++ TB.map TRow.v)) b = some (.tup xs) := tk_put fun xs z => by rw [S79 _ _ w7] at z; cases z
        have few2 := iv.few ok
        rw [List.length_append] at few2
        have few3 : F5.length + 1 ≤ 28 := few2
        refine ⟨_, ?_, _, Tw6 ++ TB, D5 ++ [((p.1, ltD l), .bl true)], A6 ++ bes sy (vw sy x) (neg l), F5 ++ [l], rfl, ⟨same_upd (S7.trans S79) hwL0, by rw [upd_ne nvw]; exact S79 _ _ v7, by rw [upd_same, List.map_append], by rw [List.map_append, List.map_append, d6, dB], fun q hq => ?_, dnAt_put (DnAt.same f7 S79) nfw, ?_, fun r hr => ?_, iv⟩, rfl⟩
        · have z := bes_max ok (vw sy x) (neg l)
          rw [lenA, List.length_append, List.length_append]
          show (28 - (F5.length + 1)) * 2000 + (A6.length + _) < (28 - F5.length) * 2000 + (A6.length + 1)
          omega
        · rcases List.mem_append.mp hq with m | m
          · have m2 : q.2 ∈ A6.map ltD := d6 ▸ List.mem_map_of_mem m
            obtain ⟨o, _, eo⟩ := List.mem_map.mp m2
            exact dat_tk K9 _ _ (by rw [← eo]; exact keyable_lt o) ((D7 q m).same S79)
          · have m2 : q.2 ∈ (bes sy (vw sy x) (neg l)).map ltD := dB ▸ List.mem_map_of_mem m
            obtain ⟨o, _, eo⟩ := List.mem_map.mp m2
            exact dat_tk K9 _ _ (by rw [← eo]; exact keyable_lt o) (DB q m)
        · rw [List.map_append, List.map_append, a.fd, List.map_append]
          rfl
        · have kr : keyable r.1.2 = true := by
            rcases List.mem_append.mp hr with m | m
            · exact (kk6 r m).2.1
            · cases List.mem_singleton.mp m
              exact keyable_lt l
          exact dat_tk K9 _ _ kr ((k7 r hr).same S79)
end
end S1

set_option Elab.async false
set_option linter.all false
set_option maxRecDepth 100000
set_option maxHeartbeats 4000000
/-! papers, what hangs by them, idle owns -/
namespace S1
open PySem PySem.W PySem.Spec PyProof.Rows L2
def hangB (L1 L2 : List Ltr) (n : Str) : Bool := (decide ((n, false) ∈ L1) && decide ((n, true) ∈ L2)) || (decide ((n, true) ∈ L1) && decide ((n, false) ∈ L2))
/-- a paper: what a pick's True reaches, and what its False -/
def Pap (H : Hp) (a : Addr) (s : Say) (x : Str) (L1 L2 : List Ltr) : Prop := ∃ u1 u2, H a = some (.tup [u1, u2]) ∧ _root_.L2.Dat H u1 (clD L1) ∧ _root_.L2.Dat H u2 (clD L2) ∧ RchOk s (vw s x) (x, true) L1 ∧ RchOk s (vw s x) (x, false) L2
def spPaper : Sp := fun vs H Q _ => ∃ (v : V) (s : Say) (x : Str), vs = [v, .str x] ∧ DatS H v s ∧ SayOk 6 8 120 40 s ∧ ∀ (a : Addr) (M N : List Ltr) (H' : Hp), Same H H' → Pap H' a s x M N → Q (.ref a) H'
def spHangsBy : Sp := fun vs H Q _ => ∃ (a : Addr) (n : Str) (M N : List Ltr) (u1 u2 : V), vs = [.ref a, .str n] ∧ H a = some (.tup [u1, u2]) ∧ _root_.L2.Dat H u1 (clD M) ∧ _root_.L2.Dat H u2 (clD N) ∧ ∀ H', Same H H' → Q (.bl (hangB M N n)) H'
section
variable {P : Program} {w : World} {K : PySem.W.Frag} {mg : Str → Option Value} {base : Heap}
theorem scPa : FnScope ["saying", "pick"] ["saying", "pick"] (defScope sPaperOf) := ⟨rfl, rfl, rfl, by decide +kernel, rfl, by decide +kernel, by decide +kernel⟩
theorem scHb : FnScope ["paper", "name", "truth"] ["paper", "name"] (defScope sHangsBy) := ⟨rfl, rfl, rfl, by decide +kernel, rfl, by decide +kernel, by decide +kernel⟩
theorem ok_paperOf {f fA : Addr} {fd fdA : FuncData} (F : Fun K "paper_of" "paper_of" sPaperOf f fd) (Ar : Has K mg "all_reached" sAllReached ["saying", "pick", "truth"] fA fdA) (GA : FnOk P w K mg base CX0 2 fA fdA ["saying", "pick", "truth"] spAllReached) : FnOk P w K mg base CX0 3 f fd ["saying", "pick"] spPaper := by
  refine F.ok scPa (fun vs H Q E h => ?_) (fun cdv A outer s H vs Q E hr h => ?_)
  · obtain ⟨v, sy, x, rfl, _⟩ := h
    rfl
  · obtain ⟨v, sy, x, rfl, D, ok, q⟩ := h
    refine ⟨_, pss_one (ps_ret (pe_tup (pa_cons (pe_call GA hr rfl Ar.g Ar.F.kp Ar.b .nil pass0 (pa_cons (pv 0) (pa_cons (pv 1) (pa_cons pe_bl pa_nil)))) (pa_cons (pe_call GA hr rfl Ar.g Ar.F.kp Ar.b .nil pass0 (pa_cons (pv 0) (pa_cons (pv 1) (pa_cons pe_bl pa_nil)))) pa_nil)))), ?_⟩
    refine ⟨_, rfl, _, rfl, v, sy, x, true, rfl, D, ok, fun u1 M H1 S1 D1 r1 => ⟨_, rfl, _, rfl, v, sy, x, false, rfl, D.same S1, ok, fun u2 N H2 S2 D2 r2 => ⟨(by show 2 ≤ sizeLine; decide), fun a ha => ?_⟩⟩⟩
    have S3 := same_new (o := .tup [u1, u2]) ha
    exact q a M N _ (S1.trans (S2.trans S3)) ⟨u1, u2, upd_same, (D1.same S2).same S3, D2.same S3, r1, r2⟩
theorem cl_rows {H : Hp} {u : V} {L : List Ltr} (D : Dat H u (clD L)) : ∃ (a : Addr) (T : List TRow), u = .ref a ∧ H a = some (.tup (T.map TRow.v)) ∧ T.map Prod.snd = L.map ltD ∧ ∀ p ∈ T, Dat H p.v p.2 ∧ keyable p.2 = true ∧ p.2.depth ≤ 8 := by
  obtain ⟨a, xs, rfl, e, Da⟩ := dat_tup (ds := L.map ltD) D
  obtain ⟨T, eT, dT, DT⟩ := rows_of_dat Da (fun d hd => by obtain ⟨o, _, rfl⟩ := List.mem_map.mp hd; exact ⟨_, rfl⟩)
  refine ⟨a, T, rfl, by rw [← eT]; exact e, dT.symm, fun p hp => ?_⟩
  have m : p.2 ∈ L.map ltD := dT ▸ List.mem_map_of_mem hp
  obtain ⟨o, _, ho⟩ := List.mem_map.mp m
  exact ⟨DT p hp, by rw [← ho]; exact keyable_lt o, by rw [← ho]; have := depth_lt o; omega⟩
theorem ok_hangsBy {f : Addr} {fd : FuncData} (F : Fun K "hangs_by" "hangs_by" sHangsBy f fd) (an : mg "any" = none) : FnOk P w K mg base CX0 1 f fd ["paper", "name"] spHangsBy := by
  refine F.ok scHb (fun vs H Q E h => ?_) (fun cdv A outer s H vs Q E hr h => ?_)
  · obtain ⟨a, n, M, N, u1, u2, rfl, _⟩ := h
    rfl
  · obtain ⟨a, n, M, N, u1, u2, rfl, ea, D1, D2, q⟩ := h
    have hu : (A.deeper (envOfC "hangs_by" (defScope sHangsBy) s.heap.objs.size f cdv)).units + 64 < cLine := hr.units
    have hu2 : (A.deeper (envOfC "hangs_by" (defScope sHangsBy) s.heap.objs.size f cdv)).units + 16 < cLine := by omega
    refine ⟨_, pss_one (ps_ret (pe_callB (cr_any rfl) (by rfl) an (by decide +kernel) (pa_cons (pe_lc (own := [("truth", 2)]) (g := gName 2) (tt := tYes)
        (te := tAndV (tOp (rInT K false) (tTup (tCons (tVar 1) (tCons (tVar 2) tNil))) (tOp (rIxT K) (tVar 0) (tC (V.int 0)))) (tOp (rInT K false) (tTup (tCons (tVar 1) (tCons (tNotV (tVar 2)) tNil))) (tOp (rIxT K) (tVar 0) (tC (V.int 1)))))
        rfl scHb.nd (pi_tup (pe_tup (pa_cons pe_bl (pa_cons pe_bl pa_nil)))) (blkOk_by (N := ["paper", "name", "truth"]) (sc := defScope sHangsBy) (by decide +kernel))
        (fun _ _ _ _ _ => pg_name (i := 2) scHb.nd rfl (Or.inl rfl)) (fun _ _ _ _ _ => pts_nil)
        (fun _ _ _ _ _ => by
          refine pe_and ?_ ?_
          · exact pe_cmpR (op_inT (by exact hu2)) (pe_tup (pa_cons (pv 1) (pa_cons (pv 2) pa_nil))) (pe_ix ix_tup (pv 0) pe_int (fun _ _ => rfl)) (by with_unfolding_all rfl)
          · refine pe_one ?_
            exact pe_cmpR (op_inT (by exact hu2)) (pe_tup (pa_cons (pv 1) (pa_cons (pe_not (pv 2)) pa_nil))) (pe_ix ix_tup (pv 0) pe_int (fun _ _ => rfl)) (by with_unfolding_all rfl))) pa_nil))), ?_⟩
    have s2 : 2 ≤ sizeLine := by decide
    obtain ⟨a1, T1, rfl, e1, d1, K1⟩ := cl_rows D1
    obtain ⟨a2, T2, rfl, e2, d2, K2⟩ := cl_rows D2
    refine ⟨s2, fun tt htt => ⟨tt, rfl, ⟨_, SqT.of upd_same⟩, fun D0 hD0 => ?_⟩⟩
    have S1 := same_new (o := .tup [V.bl false, .bl true]) htt
    have et : upd H tt (.tup [V.bl false, .bl true]) tt = some (.tup [V.bl false, .bl true]) := upd_same
    generalize upd H tt (.tup [V.bl false, .bl true]) = H1 at S1 et hD0 ⊢
    refine lc_tup (K := K) (a := tt) (xs := [V.bl false, .bl true]) (fun j H4 => H4 D0 = some (.lst ((([false, true].take j).map fun c => decide ((n, c) ∈ M) && decide ((n, !c) ∈ N)).map V.bl)) ∧ Same H1 H4) ⟨upd_same, same_new hD0⟩ (fun j H4 _ h => SqT.of (h.2 _ _ et)) ?_ ?_
    · rintro j y H4 hy ⟨e4, S4⟩
      obtain ⟨c, rfl, hc, jl⟩ : ∃ c : Bool, y = .bl c ∧ [false, true][j]? = some c ∧ j < 2 := by
        match j, hy with
        | 0, h => exact ⟨false, (Option.some.inj h).symm, rfl, by decide⟩
        | 1, h => exact ⟨true, (Option.some.inj h).symm, rfl, by decide⟩
        | j + 2, h => simp at h
      have S14 := S1.trans S4
      have fin : ∀ (b : Bool) (H5 : Hp), Same H4 H5 → b = (decide ((n, c) ∈ M) && decide ((n, !c) ∈ N)) → ∃ acc, H5 D0 = some (.lst acc) ∧ acc.length < sizeLine ∧ (upd H5 D0 (.lst (acc ++ [V.bl b]))) D0 = some (.lst ((([false, true].take (j + 1)).map fun c => decide ((n, c) ∈ M) && decide ((n, !c) ∈ N)).map V.bl)) ∧ Same H1 (upd H5 D0 (.lst (acc ++ [V.bl b]))) := fun b H5 S5 eb =>
        ⟨_, S5 _ _ e4, by rw [List.length_map, List.length_map, List.length_take]; exact Nat.lt_of_le_of_lt (show _ ≤ 2 by simp; omega) (by decide), by rw [upd_same, take_next hc, List.map_append, List.map_append, eb]; rfl, same_upd (S4.trans S5) hD0⟩
      refine ⟨rfl, yes_of ?_⟩
      refine ⟨_, rfl, _, rfl, s2, fun t1 ht1 => ?_⟩
      have S5 := same_new (o := .tup [V.str n, .bl c]) ht1
      have e5 : upd H4 t1 (.tup [V.str n, .bl c]) t1 = some (.tup [V.str n, .bl c]) := upd_same
      have S15 := S14.trans S5
      generalize upd H4 t1 (.tup [V.str n, .bl c]) = H5 at S5 e5 S15 ⊢
      refine ⟨_, rfl, a, _, 0, _, rfl, rfl, SqT.of (S15 _ _ ea), rfl, t1, a1, ltD (n, c), T1, rfl, rfl, .inr (SqT.of (S15 _ _ e1)), fun p hp => ⟨(K1 p hp).1.same S15, (K1 p hp).2⟩, .tup e5 (.cons (.str n) (.cons (.bl c) .nil)), keyable_lt _, by have := depth_lt (n, c); omega, _, rfl, ?_⟩
      show if inT (ltD (n, c)) T1 = true then _ else _
      rw [inT_lt d1]
      by_cases h1 : (n, c) ∈ M
      · rw [if_pos (decide_eq_true h1)]
        refine ⟨_, rfl, _, rfl, c, rfl, s2, fun t2 ht2 => ?_⟩
        have S6 := same_new (o := .tup [V.str n, .bl (!c)]) ht2
        have e6 : upd H5 t2 (.tup [V.str n, .bl (!c)]) t2 = some (.tup [V.str n, .bl (!c)]) := upd_same
        have S16 := S15.trans S6
        refine ⟨_, rfl, a, _, 1, _, rfl, rfl, SqT.of (S16 _ _ ea), rfl, t2, a2, ltD (n, !c), T2, rfl, rfl, .inr (SqT.of (S16 _ _ e2)), fun p hp => ⟨(K2 p hp).1.same S16, (K2 p hp).2⟩, .tup e6 (.cons (.str n) (.cons (.bl _) .nil)), keyable_lt _, by have := depth_lt (n, !c); omega, ?_⟩
        refine fin _ _ (S5.trans S6) ?_
        show inT (ltD (n, !c)) T2 = _
        rw [inT_lt d2, decide_eq_true h1, Bool.true_and]
      · rw [if_neg (by rw [decide_eq_false h1]; decide)]
        exact fin _ _ S5 (by rw [decide_eq_false h1]; rfl)
    · rintro H4 ⟨e4, S4⟩
      refine ⟨D0, _, rfl, SqL.of e4, ?_⟩
      have eq : ((([false, true].take 2).map fun c => decide ((n, c) ∈ M) && decide ((n, !c) ∈ N)).any id) = hangB M N n := by
        show ((decide ((n, false) ∈ M) && decide ((n, true) ∈ N)) || ((decide ((n, true) ∈ M) && decide ((n, false) ∈ N)) || false)) = _
        rw [Bool.or_false]
        rfl
      show Q (.bl ((([false, true].take 2).map fun c => decide ((n, c) ∈ M) && decide ((n, !c) ∈ N)).any id)) H4
      rw [eq]
      exact q H4 (S1.trans S4)
end
end S1

set_option Elab.async false
set_option linter.all false
set_option maxRecDepth 100000
set_option maxHeartbeats 4000000
/-! idle owns; reached, hangs -/
namespace S1
open PySem PySem.W PySem.Spec PyProof.Rows L2
def hangR (s : Say) (x n : Str) : Prop := (Reach s (vw s x) (x, true) (n, false) ∧ Reach s (vw s x) (x, false) (n, true)) ∨ (Reach s (vw s x) (x, true) (n, true) ∧ Reach s (vw s x) (x, false) (n, false))
theorem hangB_iff {s : Say} {x n : Str} {M N : List Ltr} (h1 : RchOk s (vw s x) (x, true) M) (h2 : RchOk s (vw s x) (x, false) N) : hangB M N n = true ↔ hangR s x n := by
  unfold hangB hangR
  rw [Bool.or_eq_true, Bool.and_eq_true, Bool.and_eq_true, decide_eq_true_eq, decide_eq_true_eq, decide_eq_true_eq, decide_eq_true_eq, h1.mem, h2.mem, h1.mem, h2.mem]
end S1

set_option Elab.async false
set_option linter.all false
set_option maxRecDepth 100000
set_option maxHeartbeats 4000000
/-! rows of letters of viewers, judged whatever they be -/
namespace S2
open PySem PySem.W PySem.Spec PyProof.Rows L2 S1
def alB (ws : List Str) (d : PyData) : Bool := isTup d && ((parts d).all (fun x => isLt x && decide (fstS x ∈ ws)) && riseB (parts d))
/-- a letter among data -/
def lt_at (d : PyData) : Ltr := (fstS d, match (parts d).getD 1 .none with | .bool b => b | _ => false)
def ltrs (d : PyData) : List Ltr := (parts d).map lt_at
theorem isLt_is {d : PyData} (h : isLt d = true) : d = ltD (lt_at d) ∧ nmB (lt_at d).1 = true := by
  obtain ⟨x, b, rfl, h2⟩ := lt_of h
  exact ⟨rfl, h2⟩
theorem alB_is {ws : List Str} {d : PyData} (h : alB ws d = true) : d = clD (ltrs d) ∧ (∀ l ∈ ltrs d, l.1 ∈ ws) ∧ riseB ((ltrs d).map ltD) = true := by
  unfold alB at h
  rw [Bool.and_eq_true, Bool.and_eq_true, List.all_eq_true] at h
  obtain ⟨h1, h2, h3⟩ := h
  obtain ⟨ds, rfl⟩ := tup_of h1
  have e : ds = (ltrs (.tuple ds)).map ltD := by
    show ds = (ds.map lt_at).map ltD
    rw [List.map_map]
    conv => lhs; rw [← List.map_id ds]
    refine List.map_congr_left fun x hx => ?_
    have z := h2 x hx
    rw [Bool.and_eq_true] at z
    exact (isLt_is z.1).1
  refine ⟨congrArg PyData.tuple e, fun l hl => ?_, by rw [← e]; exact h3⟩
  obtain ⟨x, hx, rfl⟩ := List.mem_map.mp (show l ∈ ds.map lt_at from hl)
  have z := h2 x hx
  rw [Bool.and_eq_true] at z
  exact of_decide_eq_true z.2
def spAL : Sp := fun vs H Q _ => ∃ (v : V) (lv : Addr) (d : PyData) (ws : List Str), vs = [v, .ref lv] ∧ Dat H v d ∧ lim d = true ∧ H lv = some (.lst (ws.map V.str)) ∧ ∀ H', Same H H' → Q (.bl (alB ws d)) H'
section
variable {P : Program} {w : World} {K : PySem.W.Frag} {mg : Str → Option Value} {base : Heap}
theorem scAL : FnScope ["value", "viewers", "part"] ["value", "viewers"] (defScope sAreLetters) := ⟨rfl, rfl, rfl, by decide +kernel, rfl, by decide +kernel, by decide +kernel⟩
theorem ok_areLetters {f fL fR : Addr} {fd fdL fdR : FuncData} (F : Fun K "are_letters_of" "are_letters_of" sAreLetters f fd) (Le : Has K mg "is_letter" sIsLetter ["value"] fL fdL) (GL : FnOk P w K mg base CX0 2 fL fdL ["value"] (spJ isLt)) (Ri : Has K mg "is_rising" sIsRising ["parts"] fR fdR) (B : Blt mg) :
    FnOk P w K mg base CX0 3 f fd ["value", "viewers"] spAL := by
  have GR : FnOk P w K mg base CX0 1 fR fdR ["parts"] (S2.spRise K) := S2.ok_isRising Ri.F B
  refine F.ok scAL (fun vs H Q E h => ?_) (fun cdv A outer s H vs Q E hr h => ?_)
  · obtain ⟨v, lv, d, ws, rfl, _⟩ := h
    rfl
  · obtain ⟨v, lv, d, ws, rfl, D, li, ev, q⟩ := h
    have hr1 := hr.mono (show 1 ≤ 2 by decide)
    refine ⟨_, pss_cons (ps_if (PW.pt (pw_or (pt_not (pt_val (pe_callB call_isi (by rfl) B.isi (by decide +kernel) (pa_cons (pv 0) (pa_cons (pe_bltn (v := V.ty "tuple") (by rfl) B.tuple (by decide +kernel) rfl) pa_nil)))))
        (pw_or1 (pt_not (pt_val (pe_callB (cr_all rfl) (by rfl) B.all (by decide +kernel) (pa_cons (pe_lc (own := [("part", 2)]) (g := gName 2) (tt := tYes) (te := tAndV (tCall (spJ isLt) [] E0 (tCons (tVar 2) tNil)) (tOp (rIn K false) (tOp (rIxT K) (tVar 2) (tC (V.int 0))) (tVar 1))) rfl scAL.nd (pi_tup (pv 0))
          (blkOk_by (N := ["value", "viewers", "part"]) (sc := defScope sAreLetters) (by decide +kernel)) (fun _ _ _ _ _ => pg_name (i := 2) scAL.nd rfl (Or.inl rfl)) (fun _ _ _ _ _ => pts_nil)
          (fun _ _ _ _ _ => by
            refine pe_and ?_ ?_
            · exact pe_call GL (by exact hr) (by rfl) Le.g Le.F.kp Le.b .nil pass0 (pa_cons (pv 2) pa_nil)
            · refine pe_one ?_
              exact pe_cmpR op_in_seq (pe_ix ix_tup (pv 2) pe_int (fun _ _ => rfl)) (pv 1) (by with_unfolding_all rfl))) pa_nil))))))) (pss_one (ps_ret pe_bl)) pss_nil)
      (pss_one (ps_ret (pe_call GR hr1 rfl Ri.g Ri.F.kp Ri.b .nil pass0 (pa_cons (pv 0) pa_nil)))), ?_⟩
    unfold alB at q
    refine ⟨_, rfl, _, _, _, _, isTup d, rfl, .ty _, ty_dat D, kit_ty (kit_tup d), _, rfl, ?_⟩
    cases ht : isTup d with
    | false =>
      rw [ht] at q
      show if (!false) = true then _ else _
      rw [if_pos (by decide)]
      show if true = true then _ else _
      rw [if_pos rfl]
      exact q H (Same.refl _)
    | true =>
      rw [ht, Bool.true_and] at q
      obtain ⟨ds, rfl⟩ := tup_of ht
      obtain ⟨a, xs, rfl, e, Da⟩ := dat_tup D
      obtain ⟨len, lm⟩ := lim_tup li
      show if (!true) = true then _ else _
      rw [if_neg (by decide)]
      refine ⟨_, rfl, a, rfl, ⟨_, SqT.of e⟩, fun D0 hD0 => lc_allD (K := K) (p := fun x => isLt x && decide (fstS x ∈ ws)) e Da hD0 len (fun i x d H4 Qe hd S4 Dx k => ?_) gName_mono (fun H5 e5 S5 => ?_)⟩
      · refine ⟨rfl, _, rfl, x, d, rfl, Dx, lm d (List.mem_of_getElem? hd), fun H6 S6 => ⟨isLt d, rfl, ?_⟩⟩
        cases hl : isLt d with
        | false =>
          rw [hl] at k
          show if false = true then _ else _
          rw [if_neg (by decide)]
          exact k H6 S6
        | true =>
          rw [hl, Bool.true_and] at k
          obtain ⟨e1, _⟩ := isLt_is hl
          rw [e1] at Dx
          obtain ⟨b, rfl, eb⟩ := ltr_row Dx
          show if true = true then _ else _
          rw [if_pos rfl]
          refine ⟨_, rfl, b, _, 0, _, rfl, rfl, SqT.of (S6 _ _ eb), rfl, _, rfl, lv, _, rfl, .inl (SqL.of (S6 _ _ (S4 _ _ ev))), rfl, flat_strs _, ?_⟩
          show Qe (.bl (inV (V.str (lt_at d).1) (ws.map V.str))) H6
          rw [inV_str]
          exact k H6 S6
      · refine ⟨D0, _, rfl, SqL.of e5, _, rfl, ?_⟩
        rw [all_id]
        have q1 : ∀ H', Same H H' → Q (.bl (ds.all (fun x => isLt x && decide (fstS x ∈ ws)) && riseB ds)) H' := q
        cases h2 : ds.all (fun x => isLt x && decide (fstS x ∈ ws)) with
        | false =>
          rw [h2] at q1
          show if (!false) = true then _ else _
          rw [if_pos (by decide)]
          exact q1 H5 S5
        | true =>
          rw [h2] at q1
          show if (!true) = true then _ else _
          rw [if_neg (by decide)]
          have al : ∀ x ∈ ds, x = ltD (lt_at x) := fun x hx => by
            have z := List.all_eq_true.mp h2 x hx
            rw [Bool.and_eq_true] at z
            exact (isLt_is z.1).1
          refine ⟨_, rfl, a, _, ds, rfl, .inr (SqT.of (S5 _ _ e)), DatAll.same S5 Da, ⟨fun x hx => ?_, fun x hx y hy => ?_⟩, len, fun H' S => q1 H' (S5.trans S)⟩
          · rw [al x hx]
            exact ⟨(fun z => nomatch z), by have := depth_lt (lt_at x); omega⟩
          · rw [al x hx, al y hy]
            exact alike_lt _ _
end
end S2

set_option Elab.async false
set_option linter.all false
set_option maxRecDepth 100000
set_option maxHeartbeats 4000000
/-! all that is reached, as the law finds it -/
namespace S1
open PySem PySem.W PySem.Spec PyProof.Rows L2
/-- letters to be opened O, letters found F; e: the one that is being opened, its clauses up to some done -/
structure OInv (s : Say) (ws : List Str) (l0 : Ltr) (O F : List Ltr) : Prop where
  nd : F.Nodup
  rf : ∀ m ∈ F, Reach s ws l0 m
  ro : ∀ o ∈ O, o = l0 ∨ ∃ f ∈ F, o = neg f
  c0 : l0 ∈ O ∨ ∀ m ∈ bes s ws l0, m ∈ F
  c1 : ∀ f ∈ F, neg f ∈ O ∨ ∀ m ∈ bes s ws (neg f), m ∈ F
  len : O.length ≤ F.length + 1
/-- .. while e is opened -/
structure EInv (s : Say) (ws : List Str) (l0 e : Ltr) (O F : List Ltr) : Prop where
  nd : F.Nodup
  rf : ∀ m ∈ F, Reach s ws l0 m
  ro : ∀ o ∈ O, o = l0 ∨ ∃ f ∈ F, o = neg f
  re : e = l0 ∨ ∃ f ∈ F, e = neg f
  c0 : l0 = e ∨ l0 ∈ O ∨ ∀ m ∈ bes s ws l0, m ∈ F
  c1 : ∀ f ∈ F, neg f = e ∨ neg f ∈ O ∨ ∀ m ∈ bes s ws (neg f), m ∈ F
  len : O.length ≤ F.length
section
variable {s : Say} {ws : List Str} {l0 e : Ltr} {O F : List Ltr}
theorem OInv.start : OInv s ws l0 [l0] [] := ⟨List.nodup_nil, fun m h => absurd h (by simp), fun o h => .inl (List.mem_singleton.mp h), .inl List.mem_cons_self, fun f h => absurd h (by simp), Nat.le_refl _⟩
theorem OInv.pop (h : OInv s ws l0 (O ++ [e]) F) : EInv s ws l0 e O F := by
  have back : ∀ o, o ∈ O ++ [e] → o = e ∨ o ∈ O := fun o z => by
    rcases List.mem_append.mp z with z | z
    · exact .inr z
    · exact .inl (List.mem_singleton.mp z)
  refine ⟨h.nd, h.rf, fun o ho => h.ro o (List.mem_append_left _ ho), h.ro e (List.mem_append_right _ List.mem_cons_self), ?_, fun f hf => ?_, by have := h.len; rw [List.length_append] at this; simpa using this⟩
  · rcases h.c0 with z | z
    · rcases back _ z with z | z
      · exact .inl z
      · exact .inr (.inl z)
    · exact .inr (.inr z)
  · rcases h.c1 f hf with z | z
    · rcases back _ z with z | z
      · exact .inl z
      · exact .inr (.inl z)
    · exact .inr (.inr z)
theorem EInv.add {m : Ltr} (h : EInv s ws l0 e O F) (hm : m ∈ bes s ws e) (hn : m ∉ F) : EInv s ws l0 e (O ++ [neg m]) (F ++ [m]) := by
  have rm : Reach s ws l0 m := by
    rcases h.re with z | ⟨f, hf, z⟩
    · rw [z] at hm; exact .start hm
    · rw [z] at hm; exact .step (h.rf f hf) hm
  refine ⟨?_, fun k hk => ?_, fun o ho => ?_, ?_, ?_, fun f hf => ?_, by rw [List.length_append, List.length_append]; exact Nat.succ_le_succ h.len⟩
  · rw [List.nodup_append]
    exact ⟨h.nd, by simp, fun a ha b hb e => by rw [List.mem_singleton.mp hb] at e; rw [e] at ha; exact hn ha⟩
  · rcases List.mem_append.mp hk with z | z
    · exact h.rf k z
    · rw [List.mem_singleton.mp z]; exact rm
  · rcases List.mem_append.mp ho with z | z
    · rcases h.ro o z with y | ⟨f, hf, y⟩
      · exact .inl y
      · exact .inr ⟨f, List.mem_append_left _ hf, y⟩
    · exact .inr ⟨m, List.mem_append_right _ List.mem_cons_self, List.mem_singleton.mp z⟩
  · rcases h.re with z | ⟨f, hf, z⟩
    · exact .inl z
    · exact .inr ⟨f, List.mem_append_left _ hf, z⟩
  · rcases h.c0 with z | z | z
    · exact .inl z
    · exact .inr (.inl (List.mem_append_left _ z))
    · exact .inr (.inr fun k hk => List.mem_append_left _ (z k hk))
  · rcases List.mem_append.mp hf with z | z
    · rcases h.c1 f z with y | y | y
      · exact .inl y
      · exact .inr (.inl (List.mem_append_left _ y))
      · exact .inr (.inr fun k hk => List.mem_append_left _ (y k hk))
    · rw [List.mem_singleton.mp z]
      exact .inr (.inl (List.mem_append_right _ List.mem_cons_self))
theorem EInv.close (h : EInv s ws l0 e O F) (all : ∀ m ∈ bes s ws e, m ∈ F) : OInv s ws l0 O F := by
  refine ⟨h.nd, h.rf, h.ro, ?_, fun f hf => ?_, Nat.le_succ_of_le h.len⟩
  · rcases h.c0 with z | z | z
    · exact .inr (by rw [z]; exact all)
    · exact .inl z
    · exact .inr z
  · rcases h.c1 f hf with z | z | z
    · exact .inr (by rw [z]; exact all)
    · exact .inl z
    · exact .inr z
theorem OInv.done (h : OInv s ws l0 [] F) (m : Ltr) : m ∈ F ↔ Reach s ws l0 m := by
  refine ⟨h.rf m, fun r => ?_⟩
  induction r with
  | start hm => exact (h.c0.resolve_left (by simp)) _ hm
  | step _ hm ih => exact ((h.c1 _ ih).resolve_left (by simp)) _ hm
theorem EInv.few (h : EInv s ws l0 e O F) (ok : SayOk 6 8 120 40 s) : F.length ≤ 28 := by
  have z := nodup_le h.nd fun x hx => reach_univ ok (h.rf x hx)
  have y := univ_len s.names
  have x := ok.nlen
  have e : (univ s).length = 2 * s.names.length := y
  omega
end
structure LInv (H0 : Hp) (lv oL fL : Addr) (ws : List Str) (H' : Hp) (To Tf : List TRow) (O F : List Ltr) : Prop where
  S : Same H0 H'
  v : H' lv = some (.lst (ws.map V.str))
  o : H' oL = some (.lst (To.map TRow.v))
  od : To.map Prod.snd = O.map ltD
  oD : ∀ q ∈ To, Dat H' q.v q.2
  f : H' fL = some (.lst (Tf.map TRow.v))
  fd : Tf.map Prod.snd = F.map ltD
  fD : ∀ q ∈ Tf, Dat H' q.v q.2
theorem key_lts {T : List TRow} {F : List Ltr} (e : T.map Prod.snd = F.map ltD) : ∀ q ∈ T, keyable q.2 = true ∧ q.2.depth ≤ 8 := fun q hq => by
  have m : q.2 ∈ F.map ltD := e ▸ List.mem_map_of_mem hq
  obtain ⟨o, _, eo⟩ := List.mem_map.mp m
  exact ⟨by rw [← eo]; exact keyable_lt o, by rw [← eo]; have := depth_lt o; omega⟩
section
variable {H0 H' H'' : Hp} {lv oL fL : Addr} {ws : List Str} {To Tf : List TRow} {O F : List Ltr}
theorem LInv.same (a : LInv H0 lv oL fL ws H' To Tf O F) (S : Same H' H'') : LInv H0 lv oL fL ws H'' To Tf O F := ⟨a.S.trans S, S _ _ a.v, S _ _ a.o, a.od, fun q hq => (a.oD q hq).same S, S _ _ a.f, a.fd, fun q hq => (a.fD q hq).same S⟩
theorem LInv.setO {To2 : List TRow} {O2 : List Ltr} (a : LInv H0 lv oL fL ws H' To Tf O F) (h0 : H0 oL = none) (n1 : lv ≠ oL) (n2 : fL ≠ oL) (e : To2.map Prod.snd = O2.map ltD) (d : ∀ q ∈ To2, Dat H' q.v q.2) : LInv H0 lv oL fL ws (upd H' oL (.lst (To2.map TRow.v))) To2 Tf O2 F := by
  have K : ∀ b xs, H' b = some (.tup xs) → upd H' oL (.lst (To2.map TRow.v)) b = some (.tup xs) := tk_put fun xs z => by rw [a.o] at z; cases z
  exact ⟨same_upd a.S h0, by rw [upd_ne n1]; exact a.v, upd_same, e, fun q hq => dat_tk K _ _ (key_lts e q hq).1 (d q hq), by rw [upd_ne n2]; exact a.f, a.fd, fun q hq => dat_tk K _ _ (key_lts a.fd q hq).1 (a.fD q hq)⟩
theorem LInv.setF {Tf2 : List TRow} {F2 : List Ltr} (a : LInv H0 lv oL fL ws H' To Tf O F) (h0 : H0 fL = none) (n1 : lv ≠ fL) (n2 : oL ≠ fL) (e : Tf2.map Prod.snd = F2.map ltD) (d : ∀ q ∈ Tf2, Dat H' q.v q.2) : LInv H0 lv oL fL ws (upd H' fL (.lst (Tf2.map TRow.v))) To Tf2 O F2 := by
  have K : ∀ b xs, H' b = some (.tup xs) → upd H' fL (.lst (Tf2.map TRow.v)) b = some (.tup xs) := tk_put fun xs z => by rw [a.f] at z; cases z
  exact ⟨same_upd a.S h0, by rw [upd_ne n1]; exact a.v, by rw [upd_ne n2]; exact a.o, a.od, fun q hq => dat_tk K _ _ (key_lts a.od q hq).1 (a.oD q hq), upd_same, e, fun q hq => dat_tk K _ _ (key_lts e q hq).1 (d q hq)⟩
end
def spLReached : Sp := fun vs H Q _ => ∃ (v : V) (s : Say) (x : Str) (t : Bool), vs = [v, .str x, .bl t] ∧ DatS H v s ∧ SayOk 6 8 120 40 s ∧
  ∀ (l : Addr) (T : List TRow) (L : List Ltr) (H' : Hp), Same H H' → H l = none → H' l = some (.lst (T.map TRow.v)) → T.map Prod.snd = L.map ltD → (∀ q ∈ T, Dat H' q.v q.2) → RchOk s (vw s x) (x, t) L → Q (.ref l) H'
abbrev nLR : List Str := ["saying", "pick", "truth", "viewers", "open_letters", "found", "letter", "clause", "other"]
section
variable {P : Program} {w : World} {K : PySem.W.Frag} {mg : Str → Option Value} {base : Heap}
theorem scLV : FnScope ["saying", "pick", "name", "sight"] ["saying", "pick"] (defScope sLViewers) := ⟨rfl, rfl, rfl, by decide +kernel, rfl, by decide +kernel, by decide +kernel⟩
theorem scLR : FnScope nLR ["saying", "pick", "truth"] (defScope sLReached) := ⟨rfl, rfl, rfl, by decide +kernel, rfl, by decide +kernel, by decide +kernel⟩
theorem ok_lViewers {f : Addr} {fd : FuncData} (F : Fun K "_law_viewers" "_law_viewers" sLViewers f fd) : FnOk P w K mg base CX0 1 f fd ["saying", "pick"] spViewers := by
  refine F.ok scLV (fun vs H Q E h => ?_) (fun cdv A outer s H vs Q E hr h => ?_)
  · obtain ⟨v, sy, x, rfl, _⟩ := h
    rfl
  · obtain ⟨v, sy, x, rfl, D, ok, q⟩ := h
    refine ⟨_, pss_one (ps_ret (pe_lc (own := [("name", 2), ("sight", 3)]) (g := gTup K 2 (gCons (gName 2) (gCons (gName 3) gNil))) (tt := tTest (tOp (rIn K false) (tVar 1) (tVar 3))) (te := tVar 2) rfl scLV.nd (pi_tup (pe_ix ix_tup (pv 0) pe_int (fun _ _ => rfl))) (blkOk_by (N := ["saying", "pick", "name", "sight"]) (sc := defScope sLViewers) (by decide +kernel))
        (fun _ _ _ _ _ => by exact pg_tup rfl (pgs_cons (pg_name (i := 2) scLV.nd rfl (.inl rfl)) (pgs_cons (pg_name (i := 3) scLV.nd rfl (.inl rfl)) pgs_nil))) (fun _ _ _ _ _ => by exact pts_one (pt_cmpR op_in_seq (pv 1) (pv 3) (by with_unfolding_all rfl))) (fun _ _ _ _ _ => by exact pv 2))), ?_⟩
    obtain ⟨a, pk, ow, c, rfl, ea, Dp, Do, Dc⟩ := say_row D
    obtain ⟨b, us, rfl, eb, Db⟩ := Do
    have lu : us.length = sy.owns.length := by rw [Db.len, List.length_map]
    have lo := ok.ol
    refine ⟨_, rfl, a, _, 1, _, rfl, rfl, SqT.of ea, rfl, b, rfl, ⟨_, FT.sq eb⟩, fun D0 hD0 => ?_⟩
    refine lc_tup (K := K) (a := b) (xs := us) (fun j H4 => H4 D0 = some (.lst ((((sy.owns.take j).filter fun o => decide (x ∈ o.2)).map Prod.fst).map V.str)) ∧ Same H H4) ⟨upd_same, same_new hD0⟩ (fun j H4 _ h => FT.sq (FT.same eb h.2)) ?_ ?_
    · rintro j y H4 hy ⟨e4, S4⟩
      obtain ⟨d, hd, Dx⟩ := dats_get' Db j y hy
      obtain ⟨o, ho, rfl⟩ := get_map hd
      obtain ⟨to, rfl⟩ := tuple_ref (ds := [.str o.1, nmsD o.2]) Dx
      obtain ⟨t', g1, g2⟩ := own_row (q := (to, ownD o)) rfl Dx
      have jl : j < sy.owns.length := (List.getElem?_eq_some_iff.mp ho).1
      refine ⟨to, _, rfl, SqT.of (S4 _ _ g1), rfl, _, _, rfl, _, _, rfl, rfl, rfl, ?_⟩
      refine ⟨_, rfl, _, rfl, t', _, rfl, .inr (SqT.of (S4 _ _ g2)), rfl, flat_strs _, _, rfl, ?_⟩
      show if inV (V.str x) (o.2.map V.str) = true then _ else _
      rw [inV_str]
      have len : ((((sy.owns.take j).filter fun o => decide (x ∈ o.2)).map Prod.fst).map V.str).length < sizeLine := by
        rw [List.length_map, List.length_map]
        have z := List.length_filter_le (fun o : Own => decide (x ∈ o.2)) (sy.owns.take j)
        rw [List.length_take] at z
        exact small1000 (by omega)
      by_cases hx : x ∈ o.2
      · rw [if_pos (decide_eq_true hx)]
        refine ⟨_, rfl, _, e4, len, ?_, same_upd S4 hD0⟩
        have eo : [o].filter (fun o : Own => decide (x ∈ o.2)) = [o] := by simp [hx]
        rw [upd_same, take_next ho, List.filter_append, List.map_append, List.map_append, eo]
        rfl
      · rw [if_neg (by rw [decide_eq_false hx]; decide)]
        refine ⟨?_, S4⟩
        have eo : [o].filter (fun o : Own => decide (x ∈ o.2)) = [] := by simp [hx]
        rw [take_next ho, List.filter_append, eo, List.append_nil]
        exact e4
    · rintro H4 ⟨e4, S4⟩
      rw [lu, List.take_length] at e4
      exact q D0 H4 S4 hD0 e4
theorem ok_lReached {f fV : Addr} {fd fdV : FuncData} (F : Fun K "_law_reached" "_law_reached" sLReached f fd) (B : Blt mg) (Vw : Has K mg "_law_viewers" sLViewers ["saying", "pick"] fV fdV) : FnOk P w K mg base CX0 2 f fd ["saying", "pick", "truth"] spLReached := by
  have GV : FnOk P w K mg base CX0 1 fV fdV ["saying", "pick"] spViewers := ok_lViewers Vw.F
  refine F.ok scLR (fun vs H Q E h => ?_) (fun cdv A outer s H vs Q E hr h => ?_)
  · obtain ⟨v, sy, x, t, rfl, _⟩ := h
    rfl
  · obtain ⟨v, sy, x, t, rfl, D, ok, q⟩ := h
    have hu : (A.deeper (envOfC "_law_reached" (defScope sLReached) s.heap.objs.size f cdv)).units + 64 < cLine := hr.units
    have hu2 : (A.deeper (envOfC "_law_reached" (defScope sLReached) s.heap.objs.size f cdv)).units + 16 < cLine := by omega
    refine ⟨_, pss_cons (ps_par3 (i := 3) (j := 4) (l := 5) rfl scLR.nd rfl rfl rfl (by decide) (by decide) (by decide) rfl rfl rfl
        (pa_cons (pe_call GV hr rfl Vw.g Vw.F.kp Vw.b .nil pass0 (pa_cons (pv 0) (pa_cons (pv 1) pa_nil))) (pa_cons (pe_lst (pa_cons (pe_tup (pa_cons (pv 1) (pa_cons (pv 2) pa_nil))) pa_nil)) (pa_cons (pe_lst pa_nil) pa_nil))) (by with_unfolding_all rfl))
      (pss_cons (ps_while PassesOwn.never (pt_cmpR (op_neP (by exact hu)) (pv 4) (pe_lst pa_nil) (by with_unfolding_all rfl))
        (pss_cons (ps_set (i := 6) scLR.nd rfl (.inl rfl) (pe_bm0 PySem.F.plainAttrs_list PySem.F.slot_list_pop PySem.F.type_list_pop mt_pop (pv 4)))
        (pss_one (ps_for PassesOwn.never rfl (pi_tup (pe_ix ix_tup (pv 0) pe_int (fun _ _ => rfl))) (pg_name (i := 7) scLR.nd rfl (.inl rfl))
          (pss_one (ps_for PassesOwn.never rfl (pi_tup (pv 7)) (pg_name (i := 8) scLR.nd rfl (.inl rfl))
            (pss_one (ps_if (PW.pt (pw_and (pt_cmpR (op_inT (by exact hu2)) (pv 6) (pv 7) (by with_unfolding_all rfl)) (pw_and (pt_cmpR (op_neP (by exact hu)) (pv 8) (pv 6) (by with_unfolding_all rfl))
                (pw_and (pt_cmpR op_in_seq (pe_ix ix_tup (pv 8) pe_int (fun _ _ => rfl)) (pv 3) (by with_unfolding_all rfl)) (pw_and1 (pt_cmpR (op_notInT (by exact hu2)) (pv 8) (pv 5) (by with_unfolding_all rfl)))))))
              (pss_cons (ps_expr (pe_bm PySem.F.plainAttrs_list PySem.F.slot_list_append PySem.F.type_list_append mt_append (pv 5) (pa_cons (pv 8) pa_nil)))
              (pss_one (ps_expr (pe_bm PySem.F.plainAttrs_list PySem.F.slot_list_append PySem.F.type_list_append mt_append (pv 4) (pa_cons (pe_tup (pa_cons (pe_ix ix_tup (pv 8) pe_int (fun _ _ => rfl)) (pa_cons (pe_not (pe_ix ix_tup (pv 8) pe_int (fun _ _ => rfl))) pa_nil))) pa_nil)))))
              pss_nil))))))))
      (pss_one (ps_ret (pe_callB (cr_sortL (by exact hu)) (by rfl) B.sorted (by decide +kernel) (pa_cons (pv 5) pa_nil))))), ?_⟩
    have s2 : 2 ≤ sizeLine := by decide
    obtain ⟨a, pk, ow, cc, rfl, ea, Dp, Do, Dc⟩ := say_row D
    obtain ⟨b, us, rfl, eb, Db⟩ := dat_tup (ds := sy.cls.map clD) Dc
    have lu : us.length = sy.cls.length := by rw [Db.len, List.length_map]
    have lc := ok.cl
    refine ⟨_, rfl, _, rfl, .ref a, sy, x, rfl, D, ok, fun lv H1 S1 hlv ev => ?_⟩
    refine ⟨_, rfl, _, rfl, s2, fun tt htt => ⟨(by show 1 ≤ sizeLine; decide), fun oL hoL => ⟨Nat.zero_le _, fun fL hfL => ⟨_, _, _, rfl, ?_⟩⟩⟩⟩
    have S2 := same_new (o := .tup [V.str x, .bl t]) htt
    have S3 := same_new (o := .lst [V.ref tt]) hoL
    have S4 := same_new (o := .lst []) hfL
    have nvo : lv ≠ oL := ne_of_none (S2 _ _ ev) hoL
    have nof : oL ≠ fL := ne_of_none upd_same hfL
    have nvf : lv ≠ fL := ne_of_none (S3 _ _ (S2 _ _ ev)) hfL
    have hoL0 : H oL = none := (S1.trans S2).free hoL
    have hfL0 : H fL = none := (S1.trans (S2.trans S3)).free hfL
    have L0 : LInv H lv oL fL (vw sy x) (upd (upd (upd H1 tt (.tup [V.str x, .bl t])) oL (.lst [V.ref tt])) fL (.lst [])) [(tt, ltD (x, t))] [] [(x, t)] [] := by
      have e0 := S4 _ _ (S3 _ _ (show upd H1 tt (.tup [V.str x, .bl t]) tt = _ from upd_same))
      refine ⟨S1.trans (S2.trans (S3.trans S4)), S4 _ _ (S3 _ _ (S2 _ _ ev)), S4 _ _ upd_same, rfl, fun q hq => ?_, upd_same, rfl, fun q hq => absurd hq (by simp)⟩
      cases List.mem_singleton.mp hq
      exact .tup e0 (.cons (.str x) (.cons (.bl t) .nil))
    generalize upd (upd (upd H1 tt (.tup [V.str x, .bl t])) oL (.lst [V.ref tt])) fL (.lst []) = H4 at L0 ⊢
    refine ⟨fun m σ H' => ∃ (o6 o7 o8 : Option V) (To Tf : List TRow) (O F : List Ltr), σ = [some (.ref a), some (.str x), some (.bl t), some (.ref lv), some (.ref oL), some (.ref fL), o6, o7, o8] ∧ LInv H lv oL fL (vw sy x) H' To Tf O F ∧ OInv sy (vw sy x) (x, t) O F ∧ m = (28 - F.length) * 2 + O.length,
      ⟨_, none, none, none, _, _, _, _, rfl, L0, OInv.start, rfl⟩, ?_⟩
    rintro m σ H5 ⟨o6, o7, o8, To, Tf, O, F, rfl, L5, i5, rfl⟩
    have DO : Dat H5 (.ref oL) (.list (O.map ltD)) := by rw [← L5.od]; exact .lst L5.o (dats_rows L5.oD)
    refine ⟨_, rfl, Nat.zero_le _, fun te hte => ⟨.list (O.map ltD), .list [], DO.same (same_new hte), .lst upd_same .nil, ?_, rfl, ?_, _, rfl, ?_⟩⟩
    · simp only [PyData.plain]
      clear DO i5 L5
      induction O with
      | nil => rfl
      | cons o O ih => rw [List.map_cons, PyData.plainAll, ih]; rfl
    · have := depths_map ltD 1 depth_lt O
      simp only [PyData.depth]
      omega
    have L6 := L5.same (same_new (o := .lst []) hte)
    generalize upd H5 te (.lst []) = H6 at L6 ⊢
    rcases List.eq_nil_or_concat O with rfl | ⟨O6, l, rfl⟩
    · show if false = true then _ else _
      rw [if_neg (by decide)]
      refine ⟨_, rfl, fL, Tf, rfl, SqL.of L6.f, L6.fD, sorty_of L6.fd alike_lt (fun o => ⟨_, rfl⟩) (fun o => by have := depth_lt o; omega), fun T' b' pm _ up hb => ?_⟩
      have Sb := same_new (o := .lst (T'.map TRow.v)) hb
      obtain ⟨L, pL, eL⟩ := perm_back (f := ltD) ((pm.map Prod.snd).trans (.of_eq L6.fd)) F rfl
      have nT : (Tf.map Prod.snd).Nodup := by
        rw [L6.fd]
        exact List.pairwise_map.mpr (i5.nd.imp fun {x y} ne z => ne (ltD_inj z))
      refine q b' T' L _ (L6.S.trans Sb) (L6.S.free hb) upd_same eL (fun q' hq' => (L6.fD q' (pm.mem_iff.mp hq')).same Sb) ⟨?_, fun m => ?_⟩
      · have u1 : (T'.map Prod.snd).Pairwise fun d e => dataLt d e = true := List.pairwise_map.mpr (up nT)
        rw [eL] at u1
        have u2 : L.Pairwise fun x y => dataLt (ltD x) (ltD y) = true := List.pairwise_map.mp u1
        exact u2
      · rw [pL.mem_iff]
        exact i5.done m
    · rw [List.concat_eq_append] at L6 i5 ⊢
      obtain ⟨To6, p, rfl⟩ : ∃ To6 p, To = To6 ++ [p] := by
        rcases List.eq_nil_or_concat To with rfl | ⟨A6, l', rfl⟩
        · have z := L6.od
          rw [List.map_append] at z
          simp at z
        · exact ⟨A6, l', List.concat_eq_append⟩
      have eod := L6.od
      rw [List.map_append, List.map_append] at eod
      have e2 := List.append_inj' eod rfl
      have ep : p.2 = ltD l := by
        have z := e2.2
        injection z
      have hne : (PyData.eqv (.list ((O6 ++ [l]).map ltD)) (.list [])) = false := by
        rw [List.map_append]
        cases O6 <;> rfl
      rw [hne]
      show if true = true then _ else _
      rw [if_pos rfl]
      refine ⟨_, fun σ' H' z => z, ?_⟩
      refine ⟨_, rfl, .inl ⟨rfl, _, SqL.of L6.o⟩, oL, _, p.v, rfl, rfl, L6.o, by simp, ?_⟩
      rw [show ((To6 ++ [p]).map TRow.v).dropLast = To6.map TRow.v by rw [List.map_append]; simp]
      have Dp6 := L6.oD p (List.mem_append_right _ List.mem_cons_self)
      have K7 : ∀ b xs, H6 b = some (.tup xs) → upd H6 oL (.lst (To6.map TRow.v)) b = some (.tup xs) := tk_put fun xs z => by rw [L6.o] at z; cases z
      have Dl7 : Dat (upd H6 oL (.lst (To6.map TRow.v))) (.ref p.1) (ltD l) := by
        have z := dat_tk K7 _ _ (by rw [ep]; exact keyable_lt l) Dp6
        rw [ep] at z
        exact z
      have L7 := L6.setO (To2 := To6) (O2 := O6) hoL0 nvo nof.symm e2.1 (fun q hq => L6.oD q (List.mem_append_left _ hq))
      have i7 := i5.pop
      generalize upd H6 oL (.lst (To6.map TRow.v)) = H7 at Dl7 L7 ⊢
      have eb7 := L7.S _ _ eb
      refine ⟨_, rfl, a, _, 2, _, rfl, rfl, SqT.of (L7.S _ _ ea), rfl, b, rfl, ⟨_, SqT.of eb7⟩, ?_⟩
      have lO6 : (O6 ++ [l]).length = O6.length + 1 := by rw [List.length_append]; rfl
      have m0 : (28 - F.length) * 2 + O6.length < (28 - F.length) * 2 + (O6 ++ [l]).length := by rw [lO6]; omega
      generalize (28 - F.length) * 2 + (O6 ++ [l]).length = M0 at m0 ⊢
      refine for_tup (K := K) (a := b) (xs := us) (fun j σ H' => ∃ (o7 o8 : Option V) (To Tf : List TRow) (O F : List Ltr), σ = [some (.ref a), some (.str x), some (.bl t), some (.ref lv), some (.ref oL), some (.ref fL), some p.v, o7, o8] ∧ LInv H lv oL fL (vw sy x) H' To Tf O F ∧ EInv sy (vw sy x) (x, t) l O F ∧ Dat H' (.ref p.1) (ltD l) ∧ (∀ m ∈ (sy.cls.take j).flatMap (besC (vw sy x) l), m ∈ F) ∧ (28 - F.length) * 2 + O.length < M0)
        ⟨_, _, _, _, _, _, rfl, L7, i7, Dl7, fun m hm => absurd hm (by simp), m0⟩ (fun j σ H' _ ⟨_, _, _, _, _, _, _, L, _⟩ => SqT.of (L.S _ _ eb)) ?_ ?_
      · rintro j x4 σ H8 hx4 ⟨o7', o8', To8, Tf8, O8, F8, rfl, L8, i8, Dl8, all8, m8⟩
        obtain ⟨d, hd, Dx⟩ := dats_get' Db j x4 hx4
        obtain ⟨cl, hc, rfl⟩ := get_map hd
        have mc := List.mem_of_getElem? hc
        obtain ⟨tc, ls, rfl, etc, Dls⟩ := dat_tup (ds := cl.map ltD) Dx
        have ll : ls.length = cl.length := by rw [Dls.len, List.length_map]
        obtain ⟨Tc, eT, dT, DT⟩ := rows_of_dat Dls (fun d hd => by obtain ⟨o, _, rfl⟩ := List.mem_map.mp hd; exact ⟨_, rfl⟩)
        refine ⟨_, rfl, tc, rfl, ⟨_, SqT.of (L8.S _ _ etc)⟩, ?_⟩
        refine for_tup (K := K) (a := tc) (xs := ls) (fun k σ H' => ∃ (o8 : Option V) (To Tf : List TRow) (O F : List Ltr), σ = [some (.ref a), some (.str x), some (.bl t), some (.ref lv), some (.ref oL), some (.ref fL), some p.v, some (.ref tc), o8] ∧ LInv H lv oL fL (vw sy x) H' To Tf O F ∧ EInv sy (vw sy x) (x, t) l O F ∧ Dat H' (.ref p.1) (ltD l) ∧ (∀ m ∈ (sy.cls.take j).flatMap (besC (vw sy x) l), m ∈ F) ∧ (l ∈ cl → ∀ m ∈ cl.take k, m ≠ l → m.1 ∈ vw sy x → m ∈ F) ∧ (28 - F.length) * 2 + O.length < M0)
          ⟨_, _, _, _, _, rfl, L8, i8, Dl8, all8, fun _ m hm => absurd hm (by simp), m8⟩ (fun k σ H' _ ⟨_, _, _, _, _, _, L, _⟩ => SqT.of (L.S _ _ etc)) ?_ ?_
        · rintro k y σ H9 hy ⟨o8', To9, Tf9, O9, F9, rfl, L9, i9, Dl9, all9, in9, m9⟩
          rw [eT, List.getElem?_map] at hy
          obtain ⟨r, hr, rfl⟩ := Option.map_eq_some_iff.mp hy
          have er : (cl.map ltD)[k]? = some r.2 := by rw [dT, List.getElem?_map, hr]; rfl
          obtain ⟨o, ho, eo⟩ := get_map er
          have Dr := (DT r (List.mem_of_getElem? hr)).same L9.S
          rw [eo] at Dr
          have mo := List.mem_of_getElem? ho
          have KT : ∀ p ∈ Tc, Dat H9 p.v p.2 ∧ keyable p.2 = true ∧ p.2.depth ≤ 8 := fun p hp => ⟨(DT p hp).same L9.S, key_lts dT.symm p hp⟩
          have few := i9.few ok
          have lT9 : Tf9.length = F9.length := by
            have z := congrArg List.length L9.fd
            rw [List.length_map, List.length_map] at z
            exact z
          have lO9 : To9.length = O9.length := by
            have z := congrArg List.length L9.od
            rw [List.length_map, List.length_map] at z
            exact z
          have lO9' := i9.len
          have skip : (l ∈ cl → o ≠ l → o.1 ∈ vw sy x → o ∈ F9) → ∃ (o8 : Option V) (To Tf : List TRow) (O F : List Ltr), [some (.ref a), some (.str x), some (.bl t), some (.ref lv), some (.ref oL), some (.ref fL), some p.v, some (.ref tc), some r.v] = [some (.ref a), some (.str x), some (.bl t), some (.ref lv), some (.ref oL), some (.ref fL), some p.v, some (.ref tc), o8] ∧ LInv H lv oL fL (vw sy x) H9 To Tf O F ∧ EInv sy (vw sy x) (x, t) l O F ∧ Dat H9 (.ref p.1) (ltD l) ∧ (∀ m ∈ (sy.cls.take j).flatMap (besC (vw sy x) l), m ∈ F) ∧ (l ∈ cl → ∀ m ∈ cl.take (k + 1), m ≠ l → m.1 ∈ vw sy x → m ∈ F) ∧ (28 - F.length) * 2 + O.length < M0 := fun z =>
            ⟨_, To9, Tf9, O9, F9, rfl, L9, i9, Dl9, all9, fun hl m hm n1 n2 => by
              rw [take_next ho] at hm
              rcases List.mem_append.mp hm with y | y
              · exact in9 hl m y n1 n2
              · rw [List.mem_singleton.mp y] at n1 n2 ⊢
                exact z hl n1 n2, m9⟩
          refine ⟨_, rfl, _, rfl, p.1, tc, ltD l, Tc, rfl, rfl, .inr (SqT.of (by rw [← eT]; exact L9.S _ _ etc)), KT, Dl9, keyable_lt l, by have := depth_lt l; omega, _, rfl, ?_⟩
          show if inT (ltD l) Tc = true then _ else _
          rw [inT_lt dT.symm]
          by_cases h1 : ¬ l ∈ cl
          · rw [if_neg (by rw [decide_eq_false h1]; decide)]
            show if false = true then _ else _
            rw [if_neg (by decide)]
            exact skip fun z => absurd z h1
          replace h1 := Classical.not_not.mp h1
          rw [if_pos (decide_eq_true h1)]
          refine ⟨_, rfl, _, rfl, ltD o, ltD l, Dr, Dl9, rfl, rfl, by have := depth_lt o; omega, _, rfl, ?_⟩
          show if (!PyData.eqv (ltD o) (ltD l)) = true then _ else _
          rw [eqv_lt]
          by_cases h2 : o = l
          · rw [if_neg (by rw [decide_eq_true h2]; decide)]
            show if false = true then _ else _
            rw [if_neg (by decide)]
            exact skip fun _ z => absurd h2 z
          rw [if_pos (by rw [decide_eq_false h2]; rfl)]
          obtain ⟨ot, ol, eov, eot, Dol⟩ := dat_tup (ds := [.str o.1, .bool o.2]) Dr
          have eov' : r.1 = ot := by injection eov
          subst eov'
          cases Dol with
          | cons z1 t1 =>
          cases t1 with
          | cons z2 t2 =>
          cases t2
          cases z1
          cases z2
          refine ⟨_, rfl, r.1, _, 0, _, rfl, rfl, SqT.of eot, rfl, _, rfl, lv, _, rfl, .inl (SqL.of L9.v), rfl, flat_strs _, _, rfl, ?_⟩
          show if inV (V.str o.1) ((vw sy x).map V.str) = true then _ else _
          rw [inV_str]
          by_cases h3 : ¬ o.1 ∈ vw sy x
          · rw [if_neg (by rw [decide_eq_false h3]; decide)]
            show if false = true then _ else _
            rw [if_neg (by decide)]
            exact skip fun _ _ z => absurd z h3
          replace h3 := Classical.not_not.mp h3
          rw [if_pos (decide_eq_true h3)]
          refine ⟨_, rfl, _, rfl, r.1, fL, ltD o, Tf9, rfl, rfl, .inl (SqL.of L9.f), fun q' hq' => ⟨L9.fD q' hq', key_lts L9.fd q' hq'⟩, Dr, keyable_lt o, by have := depth_lt o; omega, _, rfl, ?_⟩
          show if (!inT (ltD o) Tf9) = true then _ else _
          rw [inT_lt L9.fd]
          by_cases h4 : o ∈ F9
          · rw [if_neg (by rw [decide_eq_true h4]; decide)]
            exact skip fun _ _ _ => h4
          rw [if_pos (by rw [decide_eq_false h4]; rfl)]
          have mb : o ∈ bes sy (vw sy x) l := bes_of mc h1 mo h2 h3
          have i10 := i9.add mb h4
          refine ⟨_, rfl, .inl ⟨rfl, _, SqL.of L9.f⟩, _, rfl, fL, _, _, rfl, rfl, L9.f, by rw [List.length_map]; exact small1000 (by omega), ?_⟩
          rw [show Tf9.map TRow.v ++ [r.v] = (Tf9 ++ [(r.1, ltD o)]).map TRow.v by rw [List.map_append]; rfl]
          have L10 := L9.setF (Tf2 := Tf9 ++ [(r.1, ltD o)]) (F2 := F9 ++ [o]) hfL0 nvf nof (by rw [List.map_append, List.map_append, L9.fd]; rfl) (fun q' hq' => by
            rcases List.mem_append.mp hq' with y | y
            · exact L9.fD q' y
            · cases List.mem_singleton.mp y; exact Dr)
          have K10 : ∀ b xs, H9 b = some (.tup xs) → upd H9 fL (.lst ((Tf9 ++ [(r.1, ltD o)]).map TRow.v)) b = some (.tup xs) := tk_put fun xs z => by rw [L9.f] at z; cases z
          have eot10 := K10 _ _ eot
          have Dl10 := dat_tk K10 _ _ (keyable_lt l) Dl9
          generalize upd H9 fL (.lst ((Tf9 ++ [(r.1, ltD o)]).map TRow.v)) = H10 at L10 eot10 Dl10 ⊢
          refine ⟨_, rfl, .inl ⟨rfl, _, SqL.of L10.o⟩, _, rfl, r.1, _, 0, _, rfl, rfl, SqT.of eot10, rfl, _, rfl, r.1, _, 1, _, rfl, rfl, SqT.of eot10, rfl, _, rfl, s2, fun t9 ht9 => ?_⟩
          have S11 := same_new (o := .tup [V.str o.1, .bl (!o.2)]) ht9
          have e11 : upd H10 t9 (.tup [V.str o.1, .bl (!o.2)]) t9 = some (.tup [V.str o.1, .bl (!o.2)]) := upd_same
          have L11 := L10.same S11
          have Dl11 := Dl10.same S11
          generalize upd H10 t9 (.tup [V.str o.1, .bl (!o.2)]) = H11 at e11 L11 Dl11 ⊢
          refine ⟨oL, _, _, rfl, rfl, L11.o, by rw [List.length_map]; exact small1000 (by omega), ?_⟩
          rw [show To9.map TRow.v ++ [V.ref t9] = (To9 ++ [(t9, ltD (neg o))]).map TRow.v by rw [List.map_append]; rfl]
          have L12 := L11.setO (To2 := To9 ++ [(t9, ltD (neg o))]) (O2 := O9 ++ [neg o]) hoL0 nvo nof.symm (by rw [List.map_append, List.map_append, L11.od]; rfl) (fun q' hq' => by
            rcases List.mem_append.mp hq' with y | y
            · exact L11.oD q' y
            · cases List.mem_singleton.mp y
              exact .tup e11 (.cons (.str o.1) (.cons (.bl _) .nil)))
          have K12 : ∀ b xs, H11 b = some (.tup xs) → upd H11 oL (.lst ((To9 ++ [(t9, ltD (neg o))]).map TRow.v)) b = some (.tup xs) := tk_put fun xs z => by rw [L11.o] at z; cases z
          have few10 := i10.few ok
          rw [List.length_append] at few10
          have few11 : F9.length + 1 ≤ 28 := few10
          refine ⟨_, _, _, _, _, rfl, L12, i10, dat_tk K12 _ _ (keyable_lt l) Dl11, fun m hm => List.mem_append_left _ (all9 m hm), fun hl m hm n1 n2 => ?_, ?_⟩
          · rw [take_next ho] at hm
            rcases List.mem_append.mp hm with y | y
            · exact List.mem_append_left _ (in9 hl m y n1 n2)
            · rw [List.mem_singleton.mp y]
              exact List.mem_append_right _ List.mem_cons_self
          · rw [List.length_append, List.length_append]
            show (28 - (F9.length + 1)) * 2 + (O9.length + 1) < M0
            omega
        · rintro σ H9 ⟨o8', To9, Tf9, O9, F9, rfl, L9, i9, Dl9, all9, in9, m9⟩
          rw [ll, List.take_length] at in9
          refine ⟨_, _, To9, Tf9, O9, F9, rfl, L9, i9, Dl9, fun m hm => ?_, m9⟩
          rw [take_next hc, List.flatMap_append] at hm
          rcases List.mem_append.mp hm with y | y
          · exact all9 m y
          · rw [List.flatMap_cons, List.flatMap_nil, List.append_nil] at y
            unfold besC at y
            by_cases hl : l ∈ cl
            · rw [if_pos hl] at y
              obtain ⟨y1, y2⟩ := List.mem_filter.mp y
              rw [Bool.and_eq_true, decide_eq_true_eq, decide_eq_true_eq] at y2
              exact in9 hl m y1 y2.1 y2.2
            · rw [if_neg hl] at y
              exact absurd y (by simp)
      · rintro σ H9 ⟨o7', o8', To9, Tf9, O9, F9, rfl, L9, i9, Dl9, all9, m9⟩
        rw [lu, List.take_length] at all9
        exact ⟨_, m9, _, _, _, _, _, _, _, rfl, L9, i9.close all9, rfl⟩
end
end S1

set_option Elab.async false
set_option linter.all false
set_option maxRecDepth 100000
set_option maxHeartbeats 4000000
/-! what hangs, as the law finds it -/
namespace S1
open PySem PySem.W PySem.Spec PyProof.Rows L2
theorem reach_ws {s : Say} {ws : List Str} {l0 m : Ltr} (h : Reach s ws l0 m) : m.1 ∈ ws := by
  cases h with
  | start h => exact (bes_mem h).choose_spec.2.2.2.2
  | step _ h => exact (bes_mem h).choose_spec.2.2.2.2
theorem hangR_vw {s : Say} {x n : Str} (h : hangR s x n) : n ∈ vw s x := by
  rcases h with ⟨h, _⟩ | ⟨h, _⟩
  · exact reach_ws h
  · exact reach_ws h
def metB (M N : List Ltr) (n : Str) : Bool := (decide ((n, true) ∈ M) && decide ((n, false) ∈ N)) || (decide ((n, false) ∈ M) && decide ((n, true) ∈ N))
theorem metB_iff {s : Say} {x n : Str} {M N : List Ltr} (h1 : RchOk s (vw s x) (x, true) M) (h2 : RchOk s (vw s x) (x, false) N) : metB M N n = true ↔ hangR s x n := by
  rw [← hangB_iff h1 h2]
  unfold metB hangB
  rw [Bool.or_comm]
def spLHangs : Sp := fun vs H Q _ => ∃ (v : V) (s : Say) (n x : Str), vs = [v, .str n, .str x] ∧ DatS H v s ∧ SayOk 6 8 120 40 s ∧ ∀ (b : Bool) (H' : Hp), Same H H' → (b = true ↔ hangR s x n) → Q (.bl b) H'
/-- a list of reached letters -/
structure RL (H : Hp) (l : Addr) (T : List TRow) (M : List Ltr) : Prop where
  e : H l = some (.lst (T.map TRow.v))
  d : T.map Prod.snd = M.map ltD
  D : ∀ q ∈ T, Dat H q.v q.2
theorem RL.same {H H' : Hp} {l : Addr} {T : List TRow} {M : List Ltr} (h : RL H l T M) (S : Same H H') : RL H' l T M := ⟨S _ _ h.e, h.d, fun q hq => (h.D q hq).same S⟩
section
variable {P : Program} {w : World} {K : PySem.W.Frag} {mg : Str → Option Value} {base : Heap}
/-- (name, truth) in letters -/
theorem in_lst {H : Hp} {l : Addr} {T : List TRow} {M : List Ltr} {Q : VK} (h : RL H l T M) (n : Str) (b : Bool) (k : ∀ H', Same H H' → Q (.bl (decide ((n, b) ∈ M))) H') : 2 ≤ sizeLine ∧ ∀ t, H t = none → rInT K false (.ref t) (.ref l) (upd H t (.tup [.str n, .bl b])) Q := by
  refine ⟨by decide, fun t ht => ?_⟩
  have S := same_new (o := .tup [V.str n, .bl b]) ht
  have h2 := h.same S
  refine ⟨t, l, ltD (n, b), T, rfl, rfl, .inl (SqL.of h2.e), fun p hp => ⟨h2.D p hp, key_lts h2.d p hp⟩, .tup upd_same (.cons (.str n) (.cons (.bl b) .nil)), keyable_lt _, by have := depth_lt (n, b); omega, ?_⟩
  show Q (.bl (inT (ltD (n, b)) T)) _
  rw [inT_lt h2.d]
  exact k _ S
/-- what a reading evaluates to, whatever has been written beside -/
def SEv (t : TE) (σ : L2.St) (H : Hp) (x : V) : Prop := ∀ H1, Same H H1 → ∀ Q : VK, (∀ H2, Same H1 H2 → Q x H2) → t σ H1 Q
theorem sv_and {ta tb : TE} {σ : L2.St} {H : Hp} {a b : Bool} (h1 : SEv ta σ H (.bl a)) (h2 : SEv tb σ H (.bl b)) : SEv (tAndV ta tb) σ H (.bl (a && b)) := fun H1 e Q q => h1 H1 e _ fun H2 e2 => ⟨a, rfl, by
  cases a with
  | true =>
    show tb σ H2 Q
    exact h2 H2 (e.trans e2) Q fun H3 e3 => q H3 (e2.trans e3)
  | false =>
    show Q (.bl false) H2
    exact q H2 e2⟩
theorem sv_or {ta tb : TE} {σ : L2.St} {H : Hp} {a b : Bool} (h1 : SEv ta σ H (.bl a)) (h2 : SEv tb σ H (.bl b)) : SEv (tOrV ta tb) σ H (.bl (a || b)) := fun H1 e Q q => h1 H1 e _ fun H2 e2 => ⟨a, rfl, by
  cases a with
  | true =>
    show Q (.bl true) H2
    exact q H2 e2
  | false =>
    show tb σ H2 Q
    exact h2 H2 (e.trans e2) Q fun H3 e3 => q H3 (e2.trans e3)⟩
theorem sv_in {H : Hp} {l : Addr} {T : List TRow} {M : List Ltr} {σ : L2.St} {n : Str} {i j : Nat} (h : RL H l T M) (b : Bool) (e1 : σ[j]? = some (some (V.str n))) (ei : σ[i]? = some (some (V.ref l))) : SEv (tOp (rInT K false) (tTup (tCons (tVar j) (tCons (tC (V.bl b)) tNil))) (tVar i)) σ H (.bl (decide ((n, b) ∈ M))) := fun H1 S Q q => by
  obtain ⟨hs, k⟩ := in_lst (K := K) (h.same S) n b q
  exact ⟨_, e1, hs, fun t ht => ⟨_, ei, k t ht⟩⟩
theorem scLH : FnScope ["saying", "name", "pick", "yes", "no", "met"] ["saying", "name", "pick"] (defScope sLHangs) := ⟨rfl, rfl, rfl, by decide +kernel, rfl, by decide +kernel, by decide +kernel⟩
theorem ok_lHangs {f fV fR : Addr} {fd fdV fdR : FuncData} (F : Fun K "_law_hangs" "_law_hangs" sLHangs f fd) (Vw : Has K mg "_law_viewers" sLViewers ["saying", "pick"] fV fdV) (Lr : Has K mg "_law_reached" sLReached ["saying", "pick", "truth"] fR fdR) (GR : FnOk P w K mg base CX0 2 fR fdR ["saying", "pick", "truth"] spLReached) :
    FnOk P w K mg base CX0 3 f fd ["saying", "name", "pick"] spLHangs := by
  have GV : FnOk P w K mg base CX0 1 fV fdV ["saying", "pick"] spViewers := ok_lViewers Vw.F
  refine F.ok scLH (fun vs H Q E h => ?_) (fun cdv A outer s H vs Q E hr h => ?_)
  · obtain ⟨v, sy, n, x, rfl, _⟩ := h
    rfl
  · obtain ⟨v, sy, n, x, rfl, D, ok, q⟩ := h
    have hu : (A.deeper (envOfC "_law_hangs" (defScope sLHangs) s.heap.objs.size f cdv)).units + 64 < cLine := hr.units
    have hu2 : (A.deeper (envOfC "_law_hangs" (defScope sLHangs) s.heap.objs.size f cdv)).units + 16 < cLine := by omega
    refine ⟨_, pss_cons (ps_par (i := 3) (j := 4) rfl scLH.nd rfl rfl (by decide) rfl rfl
        (pa_cons (pe_call GR hr rfl Lr.g Lr.F.kp Lr.b .nil pass0 (pa_cons (pv 0) (pa_cons (pv 2) (pa_cons pe_bl pa_nil)))) (pa_cons (pe_call GR hr rfl Lr.g Lr.F.kp Lr.b .nil pass0 (pa_cons (pv 0) (pa_cons (pv 2) (pa_cons pe_bl pa_nil)))) pa_nil)) (by with_unfolding_all rfl))
      (pss_cons (ps_set (i := 5) scLH.nd rfl (.inl rfl) (pe_or (pe_and (pe_cmpR (op_inT (by exact hu2)) (pe_tup (pa_cons (pv 1) (pa_cons pe_bl pa_nil))) (pv 3) (by with_unfolding_all rfl)) (pe_one (pe_cmpR (op_inT (by exact hu2)) (pe_tup (pa_cons (pv 1) (pa_cons pe_bl pa_nil))) (pv 4) (by with_unfolding_all rfl))))
          (pe_one (pe_and (pe_cmpR (op_inT (by exact hu2)) (pe_tup (pa_cons (pv 1) (pa_cons pe_bl pa_nil))) (pv 3) (by with_unfolding_all rfl)) (pe_one (pe_cmpR (op_inT (by exact hu2)) (pe_tup (pa_cons (pv 1) (pa_cons pe_bl pa_nil))) (pv 4) (by with_unfolding_all rfl)))))))
      (pss_one (ps_ret (pe_and (pe_cmpR op_in_seq (pv 1) (pe_call GV (hr.mono (by decide)) rfl Vw.g Vw.F.kp Vw.b .nil pass0 (pa_cons (pv 0) (pa_cons (pv 2) pa_nil))) (by with_unfolding_all rfl)) (pe_one (pv 5)))))), ?_⟩
    refine ⟨_, rfl, _, rfl, v, sy, x, true, rfl, D, ok, fun ly T1 M H1 S1 hly ey dy Dy ry => ?_⟩
    refine ⟨_, rfl, _, rfl, v, sy, x, false, rfl, D.same S1, ok, fun ln T2 N H2 S2 hln en dn Dn rn => ⟨_, _, rfl, ?_⟩⟩
    have RY : RL H2 ly T1 M := (RL.mk ey dy Dy).same S2
    have RN : RL H2 ln T2 N := ⟨en, dn, Dn⟩
    have em := sv_or (sv_and (sv_in (K := K) (σ := [some v, some (V.str n), some (V.str x), some (V.ref ly), some (V.ref ln), none]) (n := n) (i := 3) (j := 1) RY true rfl rfl) (sv_in (K := K) (n := n) (i := 4) (j := 1) RN false rfl rfl)) (sv_and (sv_in (K := K) (n := n) (i := 3) (j := 1) RY false rfl rfl) (sv_in (K := K) (n := n) (i := 4) (j := 1) RN true rfl rfl))
    refine em H2 (Same.refl _) _ fun H3 S3 => ?_
    have S13 := S1.trans (S2.trans S3)
    show ∃ x, _
    refine ⟨_, rfl, _, rfl, _, rfl, v, sy, x, rfl, D.same S13, ok, fun l H4 S4 _ e4 => ⟨l, _, rfl, .inl (SqL.of e4), rfl, flat_strs _, ?_⟩⟩
    have iff : (decide ((n, true) ∈ M) && decide ((n, false) ∈ N) || decide ((n, false) ∈ M) && decide ((n, true) ∈ N)) = true ↔ hangR sy x n := metB_iff ry rn
    have S14 := S13.trans S4
    refine ⟨_, rfl, ?_⟩
    show if inV (V.str n) ((vw sy x).map V.str) = true then _ else _
    rw [inV_str]
    by_cases hn : n ∈ vw sy x
    · rw [if_pos (decide_eq_true hn)]
      exact ⟨_, rfl, q _ _ S14 iff⟩
    · rw [if_neg (by simp [hn])]
      exact q _ _ S14 ⟨fun h => (nomatch h), fun h => absurd (hangR_vw h) hn⟩
end
end S1

set_option Elab.async false
set_option linter.all false
set_option maxRecDepth 100000
set_option maxHeartbeats 4000000
/-! closed rows of letters -/
namespace S2
open PySem PySem.W PySem.Spec PyProof.Rows L2 S1
/-- all that letters bring along -/
def askL (s : Say) (ws : List Str) (l0 : Ltr) (L : List Ltr) : List Ltr := bes s ws l0 ++ L.flatMap fun l => bes s ws (neg l)
def closB (s : Say) (ws : List Str) (l0 : Ltr) (L : List Ltr) : Bool := (askL s ws l0 L).all fun m => decide (m ∈ L)
def spClosed : Sp := fun vs H Q _ => ∃ (v u : V) (lv r : Addr) (s : Say) (ws : List Str) (l0 : Ltr) (L : List Ltr), vs = [v, .ref lv, .ref r, u] ∧ DatS H v s ∧ SayOk 6 8 120 40 s ∧ H lv = some (.lst (ws.map V.str)) ∧ Dat H (.ref r) (ltD l0) ∧ Dat H u (clD L) ∧ L.length ≤ 1000 ∧ ∀ H', Same H H' → Q (.bl (closB s ws l0 L)) H'
theorem bes_le {s : Say} (ok : SayOk 6 8 120 40 s) (ws : List Str) (l : Ltr) : (bes s ws l).length ≤ 560 := by
  have z := bes_len ws l 14 s.cls fun cl hcl => Nat.le_trans (cl_len (ok.ck cl hcl)) ok.nlen
  have y := ok.cl
  unfold bes
  omega
theorem ask_snoc (s : Say) (ws : List Str) (l0 : Ltr) (L : List Ltr) (l : Ltr) : askL s ws l0 (L ++ [l]) = askL s ws l0 L ++ bes s ws (neg l) := by
  unfold askL
  rw [List.flatMap_append, List.append_assoc]
  simp
theorem ask_len {s : Say} (ok : SayOk 6 8 120 40 s) (ws : List Str) (l0 : Ltr) : ∀ L : List Ltr, (askL s ws l0 L).length ≤ 560 * (L.length + 1) := fun L => by
  have z : ∀ M : List Ltr, (M.flatMap fun l => bes s ws (neg l)).length ≤ 560 * M.length := fun M => by
    induction M with
    | nil => exact Nat.zero_le _
    | cons l M ih =>
      have := bes_le ok ws (neg l)
      rw [List.flatMap_cons, List.length_append, List.length_cons, Nat.mul_succ]
      omega
  have h0 := bes_le ok ws l0
  have h1 := z L
  unfold askL
  rw [List.length_append, Nat.mul_succ]
  omega
section
variable {P : Program} {w : World} {K : PySem.W.Frag} {mg : Str → Option Value} {base : Heap}
abbrev nCl : List Str := ["saying", "viewers", "pick_letter", "letters", "asked", "name", "truth", "letter"]
theorem scIC : FnScope nCl ["saying", "viewers", "pick_letter", "letters"] (defScope sIsClosed) := ⟨rfl, rfl, rfl, by decide +kernel, rfl, by decide +kernel, by decide +kernel⟩
theorem ok_isClosed {f fB : Addr} {fd fdB : FuncData} (F : Fun K "is_closed" "is_closed" sIsClosed f fd) (Bs : Has K mg "letters_beside" sBeside ["saying", "viewers", "letter"] fB fdB) (B : Blt mg) : FnOk P w K mg base CX0 2 f fd ["saying", "viewers", "pick_letter", "letters"] spClosed := by
  have GB : FnOk P w K mg base CX0 1 fB fdB ["saying", "viewers", "letter"] spBeside := ok_beside Bs.F
  refine F.ok scIC (fun vs H Q E h => ?_) (fun cdv A outer s H vs Q E hr h => ?_)
  · obtain ⟨v, u, lv, r, sy, ws, l0, L, rfl, _⟩ := h
    rfl
  · obtain ⟨v, u, lv, r, sy, ws, l0, L, rfl, D, ok, ev, Dr, Du, lL, q⟩ := h
    have hu : (A.deeper (envOfC "is_closed" (defScope sIsClosed) s.heap.objs.size f cdv)).units + 64 < cLine := hr.units
    have hu2 : (A.deeper (envOfC "is_closed" (defScope sIsClosed) s.heap.objs.size f cdv)).units + 16 < cLine := by omega
    refine ⟨_, pss_cons (ps_set (i := 4) scIC.nd rfl (.inl rfl) (pe_call GB hr rfl Bs.g Bs.F.kp Bs.b .nil pass0 (pa_cons (pv 0) (pa_cons (pv 1) (pa_cons (pv 2) pa_nil)))))
      (pss_cons (ps_for PassesOwn.never rfl (pi_tup (pv 3)) (pg_tup rfl (pgs_cons (pg_name (i := 5) scIC.nd rfl (.inl rfl)) (pgs_cons (pg_name (i := 6) scIC.nd rfl (.inl rfl)) pgs_nil)))
        (pss_one (ps_expr (pe_bm PySem.F.plainAttrs_list PySem.F.slot_list_extend PySem.F.type_list_extend mt_extend (pv 4) (pa_cons (pe_call GB hr rfl Bs.g Bs.F.kp Bs.b .nil pass0 (pa_cons (pv 0) (pa_cons (pv 1) (pa_cons (pe_tup (pa_cons (pv 5) (pa_cons (pe_not (pv 6)) pa_nil))) pa_nil)))) pa_nil)))))
      (pss_one (ps_ret (pe_callB (cr_all rfl) (by rfl) B.all (by decide +kernel) (pa_cons (pe_lc (own := [("letter", 7)]) (g := gName 7) (tt := tYes) (te := tOp (rInT K false) (tVar 7) (tVar 3)) rfl scIC.nd (pi_list (pv 4))
          (blkOk_by (N := nCl) (sc := defScope sIsClosed) (by decide +kernel)) (fun _ _ _ _ _ => pg_name (i := 7) scIC.nd rfl (Or.inl rfl)) (fun _ _ _ _ _ => pts_nil)
          (fun _ _ _ _ _ => by exact pe_cmpR (op_inT (by exact hu2)) (pv 7) (pv 3) (by with_unfolding_all rfl))) pa_nil))))), ?_⟩
    have s2 : 2 ≤ sizeLine := by decide
    obtain ⟨a, TL, rfl, ea, dL, KL⟩ := cl_rows Du
    have lTL : TL.length = L.length := by
      have z := congrArg List.length dL
      rw [List.length_map, List.length_map] at z
      exact z
    refine ⟨_, rfl, _, rfl, _, rfl, v, lv, r, sy, ws, l0, rfl, D, ok, ev, Dr, fun l T H1 S1 hl el eT DT => ?_⟩
    have hl0 := hl
    have nvl : lv ≠ l := ne_of_none ev hl
    have nal : a ≠ l := ne_of_none ea hl
    refine ⟨_, rfl, a, rfl, ⟨_, SqT.of (S1 _ _ ea)⟩, ?_⟩
    refine for_tup (K := K) (a := a) (xs := TL.map TRow.v) (fun j σ H4 => ∃ (o5 o6 : Option V) (T4 : List TRow), σ = [some v, some (.ref lv), some (.ref r), some (.ref a), some (.ref l), o5, o6, none] ∧ H4 l = some (.lst (T4.map TRow.v)) ∧ T4.map Prod.snd = (askL sy ws l0 (L.take j)).map ltD ∧ (∀ q' ∈ T4, Dat H4 q'.v q'.2) ∧ Same H H4)
      ⟨_, _, T, rfl, el, by rw [eT]; show _ = (bes sy ws l0 ++ []).map ltD; rw [List.append_nil], DT, S1⟩ (fun j σ H4 _ ⟨_, _, _, _, _, _, _, S4⟩ => SqT.of (S4 _ _ ea)) ?_ ?_
    · rintro j x σ H4 hx ⟨o5, o6, T4, rfl, e4, d4, D4, S4⟩
      rw [List.getElem?_map] at hx
      obtain ⟨pr, hp, rfl⟩ := Option.map_eq_some_iff.mp hx
      have e1 : ∃ m, L[j]? = some m ∧ pr.2 = ltD m := by
        have z : (TL.map Prod.snd)[j]? = some pr.2 := by rw [List.getElem?_map, hp]; rfl
        rw [dL] at z
        obtain ⟨m, hm, e⟩ := get_map z
        exact ⟨m, hm, e⟩
      obtain ⟨m, hm, e1⟩ := e1
      have jl : j < L.length := (List.getElem?_eq_some_iff.mp hm).1
      have Dp := (KL pr (List.mem_of_getElem? hp)).1
      rw [e1] at Dp
      obtain ⟨b, eb, gb⟩ := ltr_row Dp
      rw [eb]
      refine ⟨b, _, rfl, SqT.of (S4 _ _ gb), rfl, _, _, rfl, _, _, rfl, rfl, ?_⟩
      refine ⟨_, rfl, .inl ⟨rfl, _, SqL.of e4⟩, _, rfl, _, rfl, _, rfl, _, rfl, m.2, rfl, s2, fun t ht => ?_⟩
      have S5 := same_new (o := .tup [V.str m.1, .bl (!m.2)]) ht
      refine ⟨v, lv, t, sy, ws, neg m, rfl, (D.same S4).same S5, ok, S5 _ _ (S4 _ _ ev), .tup upd_same (.cons (.str _) (.cons (.bl _) .nil)), fun l2 T2 H6 S6 hl2 el2 eT2 DT2 => ?_⟩
      have S56 := S5.trans S6
      have e6 := S56 _ _ e4
      have len4 := ask_len ok ws l0 (L.take j)
      have lenb := bes_le ok ws (neg m)
      rw [List.length_take] at len4
      have lT4 : T4.length = (askL sy ws l0 (L.take j)).length := by
        have z := congrArg List.length d4
        rw [List.length_map, List.length_map] at z
        exact z
      have lT2 : T2.length = (bes sy ws (neg m)).length := by
        have z := congrArg List.length eT2
        rw [List.length_map, List.length_map] at z
        exact z
      have kq : ∀ q' ∈ T4 ++ T2, keyable q'.2 = true := fun q' hq' => by
        rcases List.mem_append.mp hq' with h | h
        · have m2 : q'.2 ∈ (askL sy ws l0 (L.take j)).map ltD := d4 ▸ List.mem_map_of_mem h
          obtain ⟨z, _, hz⟩ := List.mem_map.mp m2
          rw [← hz]
          exact keyable_lt z
        · have m2 : q'.2 ∈ (bes sy ws (neg m)).map ltD := eT2 ▸ List.mem_map_of_mem h
          obtain ⟨z, _, hz⟩ := List.mem_map.mp m2
          rw [← hz]
          exact keyable_lt z
      refine ⟨l, l2, _, _, rfl, rfl, e6, el2, ?_, ?_⟩
      · rw [List.length_map, List.length_map]
        have : 560 * (min j L.length + 1) ≤ 560 * 1001 := Nat.mul_le_mul (Nat.le_refl _) (by omega)
        exact Nat.le_trans (show T4.length + T2.length ≤ 1000000 by omega) (by decide)
      · refine ⟨_, _, T4 ++ T2, rfl, by rw [upd_same, List.map_append], by rw [List.map_append, d4, eT2, take_next hm, ask_snoc, List.map_append], fun q' hq' => ?_, same_upd (S4.trans S56) hl0⟩
        refine dat_upd e6 (kq q' hq') ?_
        rcases List.mem_append.mp hq' with h | h
        · exact (D4 q' h).same S56
        · exact DT2 q' h
    · rintro σ H4 ⟨o5, o6, T4, rfl, e4, d4, D4, S4⟩
      rw [List.length_map, lTL, List.take_length] at d4
      have lT4 : T4.length = (askL sy ws l0 L).length := by
        have z := congrArg List.length d4
        rw [List.length_map, List.length_map] at z
        exact z
      have len4 := ask_len ok ws l0 L
      have big : T4.length ≤ 1000000 := by
        have : 560 * (L.length + 1) ≤ 560 * 1001 := Nat.mul_le_mul (Nat.le_refl _) (by omega)
        omega
      refine ⟨_, rfl, l, rfl, ⟨_, SqL.of e4⟩, fun D0 hD0 => ?_⟩
      refine lc_list (K := K) (a := l) (xs := T4.map TRow.v) (fun j H6 => H6 D0 = some (.lst ((((askL sy ws l0 L).take j).map fun m => decide (m ∈ L)).map V.bl)) ∧ Same H4 H6) ⟨upd_same, same_new hD0⟩ (fun j H6 _ h => SqL.of (h.2 _ _ e4)) ?_ ?_
      · rintro j x H6 hx ⟨e6, S6⟩
        rw [List.getElem?_map] at hx
        obtain ⟨pr, hp, rfl⟩ := Option.map_eq_some_iff.mp hx
        obtain ⟨m, hm, e1⟩ : ∃ m, (askL sy ws l0 L)[j]? = some m ∧ pr.2 = ltD m := by
          have z : (T4.map Prod.snd)[j]? = some pr.2 := by rw [List.getElem?_map, hp]; rfl
          rw [d4] at z
          exact get_map z
        have jl : j < T4.length := (List.getElem?_eq_some_iff.mp hp).1
        have Dp := (D4 pr (List.mem_of_getElem? hp)).same S6
        rw [e1] at Dp
        have S46 := S4.trans S6
        refine ⟨rfl, yes_of ⟨_, rfl, _, rfl, pr.1, a, ltD m, TL, rfl, rfl, .inr (SqT.of (S46 _ _ ea)), fun p hp => ⟨(KL p hp).1.same S46, (KL p hp).2⟩, Dp, keyable_lt m, by have := depth_lt m; omega, ?_⟩⟩
        refine ⟨_, e6, ?_, ?_, same_upd S6 hD0⟩
        · rw [List.length_map, List.length_map, List.length_take]
          exact Nat.lt_of_le_of_lt (show _ ≤ 1000000 by omega) (by decide)
        · rw [upd_same, take_next hm, List.map_append, List.map_append]
          show some (HO.lst (_ ++ [V.bl (inT (ltD m) TL)])) = _
          rw [inT_lt dL]
          rfl
      · rintro H6 ⟨e6, S6⟩
        rw [List.length_map, lT4, List.take_length] at e6
        refine ⟨D0, _, rfl, SqL.of e6, ?_⟩
        show Q (.bl (((askL sy ws l0 L).map fun m => decide (m ∈ L)).all id)) H6
        rw [all_id]
        exact q H6 (S4.trans S6)
end
end S2

set_option Elab.async false
set_option linter.all false
set_option maxRecDepth 100000
set_option maxHeartbeats 4000000
/-! idle_holds, idle_paper -/
namespace S2
open PySem PySem.W PySem.Spec PyProof.Rows L2 S1
def halvesB (ws : List Str) (d : PyData) : Bool := pairB d && (parts d).all (alB ws)
def lot1 (d : PyData) : List Ltr := ltrs ((parts d).getD 0 .none)
def lot2 (d : PyData) : List Ltr := ltrs ((parts d).getD 1 .none)
def holdsB (s : Say) (n x : Str) (d : PyData) : Bool :=
  decide (n ∈ vw s x) && (halvesB (vw s x) d && (!hangB (lot1 d) (lot2 d) n && (closB s (vw s x) (x, true) (lot1 d) && closB s (vw s x) (x, false) (lot2 d))))
theorem halves_is {ws : List Str} {d : PyData} (h : halvesB ws d = true) : ∃ a b, d = .tuple [a, b] ∧ alB ws a = true ∧ alB ws b = true := by
  unfold halvesB at h
  rw [Bool.and_eq_true] at h
  obtain ⟨a, b, rfl⟩ := pair_of h.1
  have z := List.all_eq_true.mp h.2
  exact ⟨a, b, rfl, z a List.mem_cons_self, z b (List.mem_cons_of_mem _ List.mem_cons_self)⟩
def spHolds : Sp := fun vs H Q _ => ∃ (v u : V) (s : Say) (o : Own) (x : Str) (d : PyData), vs = [v, .str o.1, .str x, u] ∧ DatS H v s ∧ SayOk 6 8 120 40 s ∧ o ∈ s.owns ∧ x ∈ s.picks ∧ Dat H u d ∧ lim d = true ∧ ∀ H', Same H H' → Q (.bl (holdsB s o.1 x d)) H'
def spPaperOf : Sp := fun vs H Q _ => ∃ (v : V) (s : Say) (o : Own) (x : Str), vs = [v, .str o.1, .str x] ∧ DatS H v s ∧ SayOk 6 8 120 40 s ∧ o ∈ s.owns ∧ x ∈ s.picks ∧
  ((o.1 ∉ vw s x ∨ hangR s x o.1) → ∀ H', Same H H' → Q .non H') ∧ (o.1 ∈ vw s x → ¬ hangR s x o.1 → ∀ (a : Addr) (M N : List Ltr) (H' : Hp), Same H H' → Pap H' a s x M N → Q (.ref a) H')
section
variable {P : Program} {w : World} {K : PySem.W.Frag} {mg : Str → Option Value} {base : Heap}
abbrev nIH : List Str := ["saying", "name", "pick", "value", "viewers", "half", "truth"]
theorem scIH : FnScope nIH ["saying", "name", "pick", "value"] (defScope sIdleHolds) := ⟨rfl, rfl, rfl, by decide +kernel, rfl, by decide +kernel, by decide +kernel⟩
theorem scIP : FnScope ["saying", "name", "pick", "paper"] ["saying", "name", "pick"] (defScope sIdlePaper) := ⟨rfl, rfl, rfl, by decide +kernel, rfl, by decide +kernel, by decide +kernel⟩
theorem ok_idlePaper {f fP fV fH : Addr} {fd fdP fdV fdH : FuncData} (F : Fun K "idle_paper" "idle_paper" sIdlePaper f fd) (e : Env1 K mg) (Wn : Wnt K mg) (W2 : Wnt2 K mg) (Pa : Has K mg "paper_of" sPaperOf ["saying", "pick"] fP fdP) (GP : FnOk P w K mg base CX0 3 fP fdP ["saying", "pick"] spPaper)
    (Vw : Has K mg "viewers_of" sViewersOf ["saying", "pick"] fV fdV) (Hb : Has K mg "hangs_by" sHangsBy ["paper", "name"] fH fdH) (an : mg "any" = none) : FnOk P w K mg base CX0 8 f fd ["saying", "name", "pick"] spPaperOf := by
  obtain ⟨fS, fdS, Ws, GS⟩ := g_wantSaying (P := P) (w := w) (base := base) e Wn
  obtain ⟨fO, fdO, Wo, GO⟩ := g_wantOwn (P := P) (w := w) (base := base) e W2
  obtain ⟨fK, fdK, Wk, GK⟩ := g_wantPick (P := P) (w := w) (base := base) e W2
  have GV : FnOk P w K mg base CX0 1 fV fdV ["saying", "pick"] spViewers := ok_viewersOf Vw.F
  have GH : FnOk P w K mg base CX0 1 fH fdH ["paper", "name"] spHangsBy := ok_hangsBy Hb.F an
  refine F.ok scIP (fun vs H Q E h => ?_) (fun cdv A outer s H vs Q E hr h => ?_)
  · obtain ⟨v, sy, o, x, rfl, _⟩ := h
    rfl
  · obtain ⟨v, sy, o, x, rfl, D, ok, ho, hx, q1, q2⟩ := h
    refine ⟨_, pss_cons (ps_expr (pe_call GS hr rfl Ws.g Ws.F.kp Ws.b .nil pass0 (pa_cons (pv 0) pa_nil)))
      (pss_cons (ps_expr (pe_call GO (hr.mono (by decide)) rfl Wo.g Wo.F.kp Wo.b .nil pass0 (pa_cons (pv 0) (pa_cons (pv 1) pa_nil))))
      (pss_cons (ps_expr (pe_call GK (hr.mono (by decide)) rfl Wk.g Wk.F.kp Wk.b .nil pass0 (pa_cons (pv 0) (pa_cons (pv 2) pa_nil))))
      (pss_cons (ps_set (i := 3) scIP.nd rfl (.inl rfl) (pe_call GP (hr.mono (by decide)) rfl Pa.g Pa.F.kp Pa.b .nil pass0 (pa_cons (pv 0) (pa_cons (pv 2) pa_nil))))
      (pss_cons (ps_if (PW.pt (pw_or (pt_cmpR op_notIn_seq (pv 1) (pe_call GV (hr.mono (by decide)) rfl Vw.g Vw.F.kp Vw.b .nil pass0 (pa_cons (pv 0) (pa_cons (pv 2) pa_nil))) (by with_unfolding_all rfl))
          (pw_or1 (pt_val (pe_call GH (hr.mono (by decide)) rfl Hb.g Hb.F.kp Hb.b .nil pass0 (pa_cons (pv 3) (pa_cons (pv 1) pa_nil))))))) (pss_one (ps_ret pe_non)) pss_nil)
      (pss_one (ps_ret (pv 3))))))), ?_⟩
    refine ⟨_, rfl, v, sy, rfl, D, ok, fun H1 S1 => ⟨_, rfl, _, rfl, v, sy, o, rfl, D.same S1, ok, ho, fun H2 S2 => ⟨_, rfl, _, rfl, v, sy, x, rfl, D.same (S1.trans S2), ok, hx, fun H3 S3 => ?_⟩⟩⟩
    have S03 := S1.trans (S2.trans S3)
    refine ⟨_, rfl, _, rfl, v, sy, x, rfl, D.same S03, ok, fun a M N H4 S4 pap => ?_⟩
    have S04 := S03.trans S4
    refine ⟨_, rfl, _, rfl, _, rfl, v, sy, x, rfl, D.same S04, ok, fun lv H5 S5 hlv ev => ?_⟩
    have S05 := S04.trans S5
    refine ⟨lv, _, rfl, .inl (SqL.of ev), rfl, flat_strs _, _, rfl, ?_⟩
    show if (!inV (V.str o.1) ((vw sy x).map V.str)) = true then _ else _
    rw [inV_str]
    obtain ⟨u1, u2, ea, p1, p2, r1, r2⟩ := pap
    by_cases hv : o.1 ∈ vw sy x
    · rw [decide_eq_true hv, if_neg (by decide)]
      refine ⟨_, rfl, _, rfl, a, o.1, M, N, u1, u2, rfl, S5 _ _ ea, p1.same S5, p2.same S5, fun H6 S6 => ⟨_, rfl, ?_⟩⟩
      have S56 := S5.trans S6
      have hi := hangB_iff (n := o.1) r1 r2
      cases hh : hangB M N o.1 with
      | true =>
        show if true = true then _ else _
        rw [if_pos rfl]
        exact q1 (.inr (hi.mp hh)) H6 (S05.trans S6)
      | false =>
        show if false = true then _ else _
        rw [if_neg (by decide)]
        exact ⟨_, rfl, q2 hv (fun z => by rw [hi.mpr z] at hh; cases hh) a M N H6 (S05.trans S6) ⟨u1, u2, S56 _ _ ea, p1.same S56, p2.same S56, r1, r2⟩⟩
    · rw [decide_eq_false hv, if_pos (by decide)]
      show if true = true then _ else _
      rw [if_pos rfl]
      exact q1 (.inl hv) H5 S05
end
end S2

set_option Elab.async false
set_option linter.all false
set_option maxRecDepth 100000
set_option maxHeartbeats 4000000
/-! idle_holds -/
namespace S2
open PySem PySem.W PySem.Spec PyProof.Rows L2 S1 RZ
theorem walk_zipT {K : PySem.W.Frag} {a b : Addr} {xs ys : List V} {n : Nat} (h1 : xs.length = n) (h2 : ys.length = n) : Walk (ItzT K a b) n (fun H => SqT K H a xs ∧ SqT K H b ys) (YPair (fun i => xs[i]?) (fun i => ys[i]?)) := by
  refine ⟨fun i H hi q => ⟨xs, ys, _, _, q.1, q.2, List.getElem?_eq_getElem (by omega), List.getElem?_eq_getElem (by omega)⟩, fun H q => ⟨xs, ys, q.1, q.2, .inl (by omega)⟩, fun i H x H' hi q y => ?_⟩
  obtain ⟨T, x, y, rfl, hT, rfl, f1, f2⟩ := y
  exact ⟨T, x, y, rfl, hT, rfl, f1 xs q.1, f2 ys q.2⟩
theorem lim_cl {L : List Ltr} (h : lim (clD L) = true) : L.length ≤ 1000 := by
  have z := (lim_tup h).1
  rwa [List.length_map] at z
section
variable {P : Program} {w : World} {K : PySem.W.Frag} {mg : Str → Option Value} {base : Heap}
theorem ok_idleHolds {f fV fP fA fH fC : Addr} {fd fdV fdP fdA fdH fdC : FuncData} (F : Fun K "idle_holds" "idle_holds" sIdleHolds f fd) (e : Env1 K mg) (Wn : Wnt K mg) (W2 : Wnt2 K mg) (Vw : Has K mg "viewers_of" sViewersOf ["saying", "pick"] fV fdV) (Pr : Has K mg "is_pair" sIsPair ["value"] fP fdP)
    (Al : Has K mg "are_letters_of" sAreLetters ["value", "viewers"] fA fdA) (GA : FnOk P w K mg base CX0 3 fA fdA ["value", "viewers"] spAL) (Hb : Has K mg "hangs_by" sHangsBy ["paper", "name"] fH fdH) (Cl : Has K mg "is_closed" sIsClosed ["saying", "viewers", "pick_letter", "letters"] fC fdC)
    (GC : FnOk P w K mg base CX0 2 fC fdC ["saying", "viewers", "pick_letter", "letters"] spClosed) (an : mg "any" = none) : FnOk P w K mg base CX0 8 f fd ["saying", "name", "pick", "value"] spHolds := by
  obtain ⟨fS, fdS, Ws, GS⟩ := g_wantSaying (P := P) (w := w) (base := base) e Wn
  obtain ⟨fO, fdO, Wo, GO⟩ := g_wantOwn (P := P) (w := w) (base := base) e W2
  obtain ⟨fK, fdK, Wk, GK⟩ := g_wantPick (P := P) (w := w) (base := base) e W2
  have GV : FnOk P w K mg base CX0 1 fV fdV ["saying", "pick"] spViewers := ok_viewersOf Vw.F
  have GP : FnOk P w K mg base CX0 1 fP fdP ["value"] (spJ pairB) := S2.ok_isPair Pr.F e.B
  have GH : FnOk P w K mg base CX0 1 fH fdH ["paper", "name"] spHangsBy := ok_hangsBy Hb.F an
  refine F.ok scIH (fun vs H Q E h => ?_) (fun cdv A outer s H vs Q E hr h => ?_)
  · obtain ⟨v, u, sy, o, x, d, rfl, _⟩ := h
    rfl
  · obtain ⟨v, u, sy, o, x, d, rfl, D, ok, ho, hx, Du, li, q⟩ := h
    have hr1 := hr.mono (show 1 ≤ 7 by decide)
    have hr2 := hr.mono (show 2 ≤ 7 by decide)
    have hr3 := hr.mono (show 3 ≤ 7 by decide)
    refine ⟨_, pss_cons (ps_expr (pe_call GS hr rfl Ws.g Ws.F.kp Ws.b .nil pass0 (pa_cons (pv 0) pa_nil)))
      (pss_cons (ps_expr (pe_call GO hr2 rfl Wo.g Wo.F.kp Wo.b .nil pass0 (pa_cons (pv 0) (pa_cons (pv 1) pa_nil))))
      (pss_cons (ps_expr (pe_call GK hr2 rfl Wk.g Wk.F.kp Wk.b .nil pass0 (pa_cons (pv 0) (pa_cons (pv 2) pa_nil))))
      (pss_cons (ps_set (i := 4) scIH.nd rfl (.inr rfl) (pe_call GV hr1 rfl Vw.g Vw.F.kp Vw.b .nil pass0 (pa_cons (pv 0) (pa_cons (pv 2) pa_nil))))
      (pss_cons (ps_if (PW.pt (pw_or (pt_cmpR op_notIn_seq (pv 1) (pv 4) (by with_unfolding_all rfl)) (pw_or (pt_not (pt_val (pe_call GP hr1 rfl Pr.g Pr.F.kp Pr.b .nil pass0 (pa_cons (pv 3) pa_nil))))
          (pw_or1 (pt_not (pt_val (pe_callB (cr_all rfl) (by rfl) e.B.all (by decide +kernel) (pa_cons (pe_lc (own := [("half", 5)]) (g := gName 5) (tt := tYes) (te := tCall spAL [] E0 (tCons (tVar 5) (tCons (tVar 4) tNil))) rfl scIH.nd (pi_tup (pv 3))
            (blkOk_by (N := nIH) (sc := defScope sIdleHolds) (by decide +kernel)) (fun _ _ _ _ _ => pg_name (i := 5) scIH.nd rfl (Or.inl rfl)) (fun _ _ _ _ _ => pts_nil)
            (fun _ _ _ _ _ => by exact pe_call GA (by exact hr3) (by rfl) Al.g Al.F.kp Al.b .nil pass0 (pa_cons (pv 5) (pa_cons (pv 4) pa_nil)))) pa_nil)))))))) (pss_one (ps_ret pe_bl)) pss_nil)
      (pss_cons (ps_if (pt_val (pe_call GH hr1 rfl Hb.g Hb.F.kp Hb.b .nil pass0 (pa_cons (pv 3) (pa_cons (pv 1) pa_nil)))) (pss_one (ps_ret pe_bl)) pss_nil)
      (pss_one (ps_ret (pe_callB (cr_all rfl) (by rfl) e.B.all (by decide +kernel) (pa_cons (pe_lc (own := [("truth", 6), ("half", 5)]) (g := gTup K 2 (gCons (gName 6) (gCons (gName 5) gNil))) (tt := tYes) (te := tCall spClosed [] E0 (tCons (tVar 0) (tCons (tVar 4) (tCons (tTup (tCons (tVar 2) (tCons (tVar 6) tNil))) (tCons (tVar 5) tNil))))) rfl scIH.nd
            (pi_zipA rfl e.B.zip (pa_cons (pe_tup (pa_cons pe_bl (pa_cons pe_bl pa_nil))) (pa_cons (pv 3) pa_nil))) (blkOk_by (N := nIH) (sc := defScope sIdleHolds) (by decide +kernel))
            (fun _ _ _ _ _ => by exact pg_tup rfl (pgs_cons (pg_name (i := 6) scIH.nd rfl (.inl rfl)) (pgs_cons (pg_name (i := 5) scIH.nd rfl (.inl rfl)) pgs_nil))) (fun _ _ _ _ _ => pts_nil)
            (fun _ _ _ _ _ => by exact pe_call GC (by exact hr2) (by rfl) Cl.g Cl.F.kp Cl.b .nil pass0 (pa_cons (pv 0) (pa_cons (pv 4) (pa_cons (pe_tup (pa_cons (pv 2) (pa_cons (pv 6) pa_nil))) (pa_cons (pv 5) pa_nil)))))) pa_nil))))))))), ?_⟩
    refine ⟨_, rfl, v, sy, rfl, D, ok, fun H1 S1 => ⟨_, rfl, _, rfl, v, sy, o, rfl, D.same S1, ok, ho, fun H2 S2 => ⟨_, rfl, _, rfl, v, sy, x, rfl, D.same (S1.trans S2), ok, hx, fun H3 S3 => ?_⟩⟩⟩
    have S03 := S1.trans (S2.trans S3)
    refine ⟨_, rfl, _, rfl, v, sy, x, rfl, D.same S03, ok, fun lv H4 S4 hlv ev => ?_⟩
    have S04 := S03.trans S4
    refine ⟨_, rfl, _, rfl, lv, _, rfl, .inl (SqL.of ev), rfl, flat_strs _, _, rfl, ?_⟩
    show if (!inV (V.str o.1) ((vw sy x).map V.str)) = true then _ else _
    rw [inV_str]
    unfold holdsB at q
    by_cases hv : o.1 ∈ vw sy x
    · rw [decide_eq_true hv, if_neg (by decide)]
      rw [decide_eq_true hv, Bool.true_and] at q
      refine ⟨_, rfl, u, d, rfl, Du.same S04, li, fun H5 S5 => ⟨_, rfl, ?_⟩⟩
      have S05 := S04.trans S5
      unfold halvesB at q
      cases hp : pairB d with
      | false =>
        rw [hp] at q
        show if (!false) = true then _ else _
        rw [if_pos (by decide)]
        show if true = true then _ else _
        rw [if_pos rfl]
        exact q H5 S05
      | true =>
        rw [hp, Bool.true_and] at q
        obtain ⟨d1, d2, rfl⟩ := pair_of hp
        obtain ⟨a, us, rfl, ea, Da⟩ := dat_tup (Du.same S05)
        obtain ⟨_, lm⟩ := lim_tup li
        have ev5 := S5 _ _ ev
        show if (!true) = true then _ else _
        rw [if_neg (by decide)]
        refine ⟨_, rfl, a, rfl, ⟨_, SqT.of ea⟩, fun D0 hD0 => lc_allD (K := K) (p := alB (vw sy x)) ea Da hD0 (by simp) (fun i y d H6 Qe hd S6 Dy k => ?_) gName_mono (fun H6 e6 S6 => ?_)⟩
        · exact ⟨rfl, _, rfl, _, rfl, y, lv, d, vw sy x, rfl, Dy, lm d (List.mem_of_getElem? hd), S6 _ _ ev5, k⟩
        · refine ⟨D0, _, rfl, SqL.of e6, _, rfl, ?_⟩
          rw [all_id]
          have S06 := S05.trans S6
          cases hA : [d1, d2].all (alB (vw sy x)) with
          | false =>
            have hA' : (parts (.tuple [d1, d2])).all (alB (vw sy x)) = false := hA
            rw [hA'] at q
            show if (!false) = true then _ else _
            rw [if_pos (by decide)]
            exact q H6 S06
          | true =>
            have hA' : (parts (.tuple [d1, d2])).all (alB (vw sy x)) = true := hA
            rw [hA', Bool.true_and] at q
            show if (!true) = true then _ else _
            rw [if_neg (by decide)]
            have z := List.all_eq_true.mp hA
            have a1 := alB_is (z d1 List.mem_cons_self)
            have a2 := alB_is (z d2 (List.mem_cons_of_mem _ List.mem_cons_self))
            have l1 : (ltrs d1).length ≤ 1000 := lim_cl (by rw [← a1.1]; exact lm d1 List.mem_cons_self)
            have l2 : (ltrs d2).length ≤ 1000 := lim_cl (by rw [← a2.1]; exact lm d2 (List.mem_cons_of_mem _ List.mem_cons_self))
            obtain ⟨y1, y2, rfl, E1, E2⟩ : ∃ y1 y2, us = [y1, y2] ∧ Dat H5 y1 (clD (ltrs d1)) ∧ Dat H5 y2 (clD (ltrs d2)) := by
              cases Da with
              | cons h1 h =>
                cases h with
                | cons h2 h =>
                  cases h
                  exact ⟨_, _, rfl, by rw [← a1.1]; exact h1, by rw [← a2.1]; exact h2⟩
            have q2 : ∀ H', Same H H' → Q (.bl (!hangB (ltrs d1) (ltrs d2) o.1 && (closB sy (vw sy x) (x, true) (ltrs d1) && closB sy (vw sy x) (x, false) (ltrs d2)))) H' := q
            refine ⟨_, rfl, _, rfl, a, o.1, ltrs d1, ltrs d2, y1, y2, rfl, S6 _ _ ea, E1.same S6, E2.same S6, fun H7 S7 => ⟨_, rfl, ?_⟩⟩
            have S07 := S06.trans S7
            have S67 := S6.trans S7
            cases hh : hangB (ltrs d1) (ltrs d2) o.1 with
            | true =>
              rw [hh] at q2
              show if true = true then _ else _
              rw [if_pos rfl]
              exact q2 H7 S07
            | false =>
              rw [hh] at q2
              show if false = true then _ else _
              rw [if_neg (by decide)]
              refine ⟨(by show 2 ≤ sizeLine; decide), fun tt htt => ?_⟩
              have S8 := same_new (o := .tup [V.bl true, .bl false]) htt
              have S68 := S67.trans S8
              refine ⟨_, rfl, tt, a, _, _, rfl, .inr ⟨SqT.of upd_same, SqT.of (S68 _ _ ea), fun D1 hD1 => ?_⟩⟩
              have S08 := S07.trans S8
              have et : upd H7 tt (.tup [V.bl true, .bl false]) tt = some (.tup [V.bl true, .bl false]) := upd_same
              have ea8 := S68 _ _ ea
              have ev8 := S68 _ _ ev5
              have E18 := E1.same S68
              have E28 := E2.same S68
              generalize upd H7 tt (.tup [V.bl true, .bl false]) = H8 at S08 et ea8 ev8 E18 E28 hD1 ⊢
              refine lc_it (walk_zipT (K := K) (a := tt) (b := a) (xs := [V.bl true, .bl false]) (ys := [y1, y2]) (n := 2) rfl rfl) (fun i H9 => H9 D1 = some (.lst (([closB sy (vw sy x) (x, true) (ltrs d1), closB sy (vw sy x) (x, false) (ltrs d2)].take i).map V.bl)) ∧ Same H8 H9) ⟨upd_same, same_new hD1⟩ (fun i H9 _ h => ⟨SqT.of (h.2 _ _ et), SqT.of (h.2 _ _ ea8)⟩) ?_ ?_
              · rintro i y H9 HA hi ⟨e9, S9⟩ ⟨T0, b0, y0, rfl, hT0, rfl, f1, f2⟩
                obtain ⟨b, L, rfl, Dl, lL, hc⟩ : ∃ b L, b0 = V.bl b ∧ Dat H8 y0 (clD L) ∧ L.length ≤ 1000 ∧ [closB sy (vw sy x) (x, true) (ltrs d1), closB sy (vw sy x) (x, false) (ltrs d2)][i]? = some (closB sy (vw sy x) (x, b) L) := by
                  match i, hi, f1, f2 with
                  | 0, _, f1, f2 =>
                    cases (show some _ = some _ from f1)
                    cases (show some _ = some _ from f2)
                    exact ⟨true, ltrs d1, rfl, E18, l1, rfl⟩
                  | 1, _, f1, f2 =>
                    cases (show some _ = some _ from f1)
                    cases (show some _ = some _ from f2)
                    exact ⟨false, ltrs d2, rfl, E28, l2, rfl⟩
                have SA := same_new (o := .tup [V.bl b, y0]) hT0
                refine ⟨T0, _, rfl, SqT.of upd_same, rfl, _, _, rfl, _, _, rfl, rfl, rfl, yes_of ?_⟩
                refine ⟨_, rfl, _, rfl, _, rfl, _, rfl, (by show 2 ≤ sizeLine; decide), fun t ht => ⟨_, rfl, ?_⟩⟩
                have SB := S9.trans (SA.trans (same_new (o := .tup [V.str x, .bl b]) ht))
                refine ⟨v, y0, lv, t, sy, vw sy x, (x, b), L, rfl, D.same (S08.trans SB), ok, SB _ _ ev8, .tup upd_same (.cons (.str _) (.cons (.bl _) .nil)), Dl.same SB, lL, fun HC SC => ?_⟩
                have SD := (SA.trans (same_new (o := .tup [V.str x, .bl b]) ht)).trans SC
                have eC := SD _ _ e9
                refine ⟨_, eC, ?_, ?_, same_upd (S9.trans SD) hD1⟩
                · rw [List.length_map, List.length_take]
                  exact Nat.lt_of_le_of_lt (show _ ≤ 2 by simp; omega) (by decide)
                · rw [upd_same, take_next hc, List.map_append]
                  rfl
              · rintro H9 ⟨e9, S9⟩
                refine ⟨D1, _, rfl, SqL.of e9, ?_⟩
                have eq : (([closB sy (vw sy x) (x, true) (ltrs d1), closB sy (vw sy x) (x, false) (ltrs d2)].take 2).all id) = (closB sy (vw sy x) (x, true) (ltrs d1) && closB sy (vw sy x) (x, false) (ltrs d2)) := by
                  show (_ && (_ && true)) = _
                  rw [Bool.and_true]
                  rfl
                show Q (.bl (([closB sy (vw sy x) (x, true) (ltrs d1), closB sy (vw sy x) (x, false) (ltrs d2)].take 2).all id)) H9
                rw [eq]
                exact q2 H9 (S08.trans S9)
    · rw [decide_eq_false hv, if_pos (by decide)]
      rw [decide_eq_false hv] at q
      show if true = true then _ else _
      rw [if_pos rfl]
      exact q H4 S04
end
end S2

set_option Elab.async false
set_option linter.all false
set_option maxRecDepth 100000
set_option maxHeartbeats 4000000
/-! sets of nested tuples: the call set(tuple) -/
namespace L2
open PySem PySem.SeqAt PySem.Spec PyProof.Rows
section
variable {P : Program} {w : World} {A : Around} {E : Value → Shared → Prop} {s : Shared}
theorem nset_callT {l : Addr} {us : Array Value} (ks : List NRow) {Q : Value → Shared → Prop} (hh : A.handled = none) (hl : s.heap.IsTuple l us) (hit : us.toList = ks.map fun r => Value.ref r.1)
    (hk : ∀ r ∈ ks, TupKey s.heap r.2 r.1) (few : ks.length < 64) (hu : A.units + 16 < cLine) (q : ∀ s', NMade w s ks s' → Q (.ref s.heap.objs.size) s') :
    wpAny (model P w) A (call (.type "set") [.ref l]) Q E s := by
  have n0 : us.size = ks.length := by
    have z := congrArg List.length hit
    simpa using z
  obtain ⟨c, tl, mro⟩ := F.called_set.mro
  have made_ := F.called_set.made
  have sub_ := F.called_set.sub
  refine wpAny_call (codeAny_of_tree ?_)
  show wpAny _ _ (callAny (.type "set") _) _ _ _
  refine wpAny_pure ⟨Code.quiet_builtin _ (by decide +kernel), codeAny_builtin F.entry_type_call ?_⟩
  rw [Around.under_plain (weight_type_call_type "set" [.ref l] []) rfl]
  have isn := F.called_set.notType
  have can := F.called_set.canCreate
  have fit := F.typeCall_set_1 (.ref l)
  repeat (any_goals (first | assumption | wp_step))
  refine codeAny_mono (code_set_led1 (.ref l) (E := E) (Q₁ := fun obj s₁ => obj = .ref s.heap.objs.size ∧ s₁ = { s with heap := s.heap.push (newSetObj w) }) ⟨rfl, rfl⟩) fun r s₁ hr => ?_
  cases r with
  | error e => exact hr
  | ok fl =>
    cases fl with
    | ret obj =>
      obtain ⟨rfl, rfl⟩ := hr
      have gS : (s.heap.push (newSetObj w)).get? s.heap.objs.size = some (newSetObj w) := Heap.get?_push_size _ rfl
      have tS : Shared.TypeIs { s with heap := s.heap.push (newSetObj w) } (.ref s.heap.objs.size) "set" := ⟨_, gS, rfl⟩
      have look := F.called_set.init.lookup
      have bind_ := F.called_set.init.bind (.ref s.heap.objs.size)
      repeat (any_goals (first | assumption | wp_step))
      refine codeAny_mono (codeAny_call_builtin (R := wants (fun r s₂ => r = .none ∧ NMade w s ks s₂) E) F.called_set.init.plain F.entry_set_init (check_set_init_1 tS ?_)) fun r₂ s₂ hr₂ => ?_
      · obtain ⟨⟨kl, dl, tl', sl⟩, gl, rfl, nl, rfl⟩ := hl
        have gl' : (s.heap.push (newSetObj w)).get? l = some { cls := .type "tuple", dict := dl, data := .seq us nl, slots := sl } := Heap.get?_push_of_some _ gl
        have sub1 := F.sub_tuple_set
        have sub2 := F.sub_tuple_frozenset
        have nd : (Value.type "tuple" == Value.type "dict") = false := by decide
        have L1 : (s.heap.push (newSetObj w)).IsTuple l us := ⟨_, gl', rfl, nl, rfl⟩
        unfold Builtin.«set.__init__» noKeywords Builtin.Frozenset.updateFrom
        generalize hit_ : pyIter = IT
        wp_walk
        subst hit_
        refine wpAny_pyIter_tuple L1 ?_
        refine wpAny_bind (wpAny_runValue ?_)
        have ll : l < s.heap.objs.size := Heap.lt_size gl
        have sz1 : (s.heap.push (newSetObj w)).objs.size = s.heap.objs.size + 1 := Heap.size_push ..
        have ne1 : l ≠ (s.heap.push (newSetObj w)).objs.size := by
          rw [sz1]
          exact Nat.ne_of_lt (Nat.lt_succ_of_lt ll)
        have out : s.heap.objs.size ∉ [(s.heap.push (newSetObj w)).objs.size, l] := by
          rw [sz1]
          intro z
          rcases List.mem_cons.mp z with z | z
          · exact absurd z (Nat.ne_of_lt (Nat.lt_succ_self _))
          · exact absurd (List.mem_singleton.mp z) (Nat.ne_of_gt ll)
        have val : ∀ (i : Nat) (v : Value), us[i]? = some v → ∃ r, ks[i]? = some r ∧ v = .ref r.1 := fun i v hv => by
          rw [← Array.getElem?_toList, hit, List.getElem?_map] at hv
          obtain ⟨r, hr, e⟩ := Option.map_eq_some_iff.mp hv
          exact ⟨r, hr, e.symm⟩
        have W0 := (Walks.tuple (prog := P) (w := w) (A := A.in1.in1.in1) (show A.in1.in1.in1.handled = none by simp [hh]) (s.heap.push (newSetObj w)).objs.size l ne1 us).toS
        refine nupdate W0 s.heap.objs.size out ks n0 few val s.heap hk (absent_of (Nat.le_refl _)) (fun b hb => absent_of (by
            rw [List.mem_singleton.mp hb, sz1]
            exact Nat.le_succ _)) (by simp only [Around.in1_units]; omega) (us.size - 0) 0 _ (by omega) (Nat.zero_le _)
          ⟨⟨_, Heap.get?_push_size _ rfl, rfl, rfl⟩, L1.push _⟩ (fun b o e => Heap.get?_push_of_some _ (Heap.get?_push_of_some _ e)) ?first ?last
        case first => exact ⟨[], #[], 0, _, nset_new (Heap.get?_push_of_some _ gS), NGot.none_ ks⟩
        case last =>
          intro s' L es ep t m N g ext
          obtain ⟨h', gn, dr, tk', os'⟩ := s'
          cases (show gn = s.gens from m.gens)
          cases (show dr = s.drawn from m.drawn)
          cases (show os' = s.os from m.os)
          show wpAny _ _ _ _ _ _
          refine wpAny_pure ?_
          show wpAny _ _ (ret Value.none) _ _ _
          rw [n0] at g
          exact wpAny_pure ⟨rfl, h', tk', L, es, ep, t, rfl, N, g, ext⟩
      · cases r₂ with
        | error e => exact hr₂
        | ok fl₂ =>
          cases fl₂ with
          | ret r =>
            obtain ⟨rfl, hm⟩ := hr₂
            have hm' := hm
            obtain ⟨h', tk, L, es, ep, t, rfl, N, g, ext⟩ := hm
            repeat (any_goals (first | assumption | wp_step))
            exact q _ hm'
          | _ => exact hr₂.elim
    | _ => exact hr.elim
end
section
variable {X : Cx}
/-- set(xs), xs a tuple of nested tuples -/
def rSetNT (K : PySem.W.Frag) (w : World) : List V → Hp → VK → Prop := fun xs H Q => ∃ (l : Addr) (T : List TRow), xs = [V.ref l] ∧ SqT K H l (T.map TRow.v) ∧ (∀ p ∈ T, Dat H p.v p.2) ∧ Sorty T ∧ (∀ p ∈ T, keyable p.2 = true) ∧ T.length < 64 ∧
  ∀ (a : Addr) (T' : List TRow), H a = none → (∀ p ∈ T', p ∈ T) → (∀ p ∈ T, p.2 ∈ T'.map Prod.snd) → (T'.map Prod.snd).Nodup → Q (.ref a) (upd H a (SetNO w a (T'.map TRow.n)))
theorem cr_setNT (hc : X.calm = true) (hu : X.A.units + 64 < cLine) : CallR X (.type "set") (rSetNT X.K X.w) := by
  intro pins s σ H xs us Q I r h
  obtain ⟨l, T, rfl, hl, hd, so, hk, few, q⟩ := h
  rw [Vals.ref1 r]
  obtain ⟨its, rv, pl, hz⟩ := I.tuple hl
  have e1 : its = T.map TRow.r := vals_rows rv
  have fresh : H s.heap.objs.size = none := I.hok.fresh (Nat.le_refl _)
  have keys : ∀ r ∈ T.map TRow.n, TupKey s.heap r.2 r.1 := fun r hr => by
    obtain ⟨p, hp, rfl⟩ := List.mem_map.mp hr
    exact tupKey_of (I.reads (hd p hp)) (hk p hp) (so.deep p hp)
  refine nset_callT (P := X.prog) (w := X.w) (T.map TRow.n) (I.ok.hd hc) pl (by rw [e1, List.map_map]; first | rfl | done) keys (by rw [List.length_map]; exact few) (by omega) fun s' hm => ?_
  obtain ⟨h', tk, L, es, ep, t, rfl, N, g, ext⟩ := hm
  have sub : ∀ r ∈ L, r ∈ T.map TRow.n := fun r hr => List.mem_of_mem_take (g.only r hr)
  obtain ⟨T', rfl, sub'⟩ := sub_back L sub
  refine ⟨.ref s.heap.objs.size, upd H s.heap.objs.size (SetNO X.w s.heap.objs.size (T'.map TRow.n)), I.laid (t' := tk) ext (Nat.le_refl _) (setNO_ok N.less), rfl, q _ T' fresh sub' (fun p hp => ?_) ?_⟩
  · have z := g.every p.n (by rw [List.take_length]; exact List.mem_map_of_mem hp)
    rw [List.map_map] at z
    obtain ⟨p', hp', e⟩ := List.mem_map.mp z
    have e2 : nkey p'.2 = nkey p.2 := e
    have mp' := sub' p' hp'
    rw [← nkey_inj _ _ (hk p' mp') (hk p hp) (so.alike _ (List.mem_map_of_mem mp') _ (List.mem_map_of_mem hp)) e2]
    exact List.mem_map_of_mem hp'
  · have z := N.dif
    rw [List.map_map] at z
    have z2 : ((T'.map Prod.snd).map nkey).Nodup := by
      rw [List.map_map]
      exact z
    exact nodup_of_map z2
end
end L2

set_option Elab.async false
set_option linter.all false
set_option maxRecDepth 100000
set_option maxHeartbeats 4000000
/-! what a letter brings along, as the law finds it -/
namespace S2
open PySem PySem.W PySem.Spec PyProof.Rows L2 S1
section
variable {P : Program} {w : World} {K : PySem.W.Frag} {mg : Str → Option Value} {base : Heap}
abbrev nBr : List Str := ["saying", "viewers", "letter", "found", "clause", "other"]
theorem scBr : FnScope nBr ["saying", "viewers", "letter"] (defScope sLBrought) := ⟨rfl, rfl, rfl, by decide +kernel, rfl, by decide +kernel, by decide +kernel⟩
theorem ok_brought {f : Addr} {fd : FuncData} (F : Fun K "_law_brought" "_law_brought" sLBrought f fd) : FnOk P w K mg base CX0 1 f fd ["saying", "viewers", "letter"] spBeside := by
  refine F.ok scBr (fun vs H Q E h => ?_) (fun cdv A outer s H vs Q E hr h => ?_)
  · obtain ⟨v, lv, r, sy, ws, lt, rfl, _⟩ := h
    rfl
  · obtain ⟨v, lv, r, sy, ws, lt, rfl, D, ok, ev, Dr, q⟩ := h
    have hu : (A.deeper (envOfC "_law_brought" (defScope sLBrought) s.heap.objs.size f cdv)).units + 64 < cLine := hr.units
    have hu2 : (A.deeper (envOfC "_law_brought" (defScope sLBrought) s.heap.objs.size f cdv)).units + 16 < cLine := by omega
    refine ⟨_, pss_cons (ps_set (i := 3) scBr.nd rfl (.inl rfl) (pe_lst pa_nil))
      (pss_cons (ps_for PassesOwn.never rfl (pi_tup (pe_ix ix_tup (pv 0) pe_int (fun _ _ => rfl))) (pg_name (i := 4) scBr.nd rfl (.inl rfl))
        (pss_one (ps_if (pt_cmpR (op_inT (by exact hu2)) (pv 2) (pv 4) (by with_unfolding_all rfl))
          (pss_one (ps_set (i := 3) scBr.nd rfl (.inl rfl) (pe_op op_cat (pv 3) (pe_lc (own := [("other", 5)]) (g := gName 5) (tt := tAnd (tTest (tOp rNeP (tVar 5) (tVar 2))) (tTest (tOp (rIn K false) (tOp (rIxT K) (tVar 5) (tC (V.int 0))) (tVar 1)))) (te := tVar 5) rfl scBr.nd (pi_tup (pv 4))
            (blkOk_by (N := nBr) (sc := defScope sLBrought) (by decide +kernel)) (fun _ _ _ _ _ => pg_name (i := 5) scBr.nd rfl (Or.inl rfl))
            (fun _ _ _ _ _ => by exact pts_one (PW.pt (pw_and (pt_cmpR (op_neP (by exact hu)) (pv 5) (pv 2) (by with_unfolding_all rfl)) (pw_and1 (pt_cmpR op_in_seq (pe_ix ix_tup (pv 5) pe_int (fun _ _ => rfl)) (pv 1) (by with_unfolding_all rfl))))))
            (fun _ _ _ _ _ => by exact pv 5))))) pss_nil)))
      (pss_one (ps_ret (pv 3)))), ?_⟩
    obtain ⟨a, pk, ow, c, rfl, ea, Dp, Do, Dc⟩ := say_row D
    obtain ⟨b, us, rfl, eb, Db⟩ := dat_tup (ds := sy.cls.map clD) Dc
    have lu : us.length = sy.cls.length := by rw [Db.len, List.length_map]
    have lc := ok.cl
    refine ⟨Nat.zero_le _, fun l0 hl0 => ?_⟩
    have S0 := same_new (o := .lst ([] : List V)) hl0
    refine ⟨_, rfl, a, _, 2, _, rfl, rfl, SqT.of (S0 _ _ ea), rfl, b, rfl, ⟨_, SqT.of (S0 _ _ eb)⟩, ?_⟩
    refine for_tup (K := K) (a := b) (xs := us) (fun j σ H4 => ∃ (o4 : Option V) (lf : Addr) (T4 : List TRow), σ = [some (.ref a), some (.ref lv), some (.ref r), some (.ref lf), o4, none] ∧ H lf = none ∧ H4 lf = some (.lst (T4.map TRow.v)) ∧ T4.map Prod.snd = ((sy.cls.take j).flatMap (besC ws lt)).map ltD ∧ (∀ q' ∈ T4, Dat H4 q'.v q'.2) ∧ Same H H4)
      ⟨_, l0, [], rfl, hl0, upd_same, rfl, fun q' hq' => absurd hq' (by simp), S0⟩ (fun j σ H4 _ ⟨_, _, _, _, _, _, _, _, S4⟩ => SqT.of (S4 _ _ eb)) ?_ ?_
    · rintro j x4 σ H4 hx4 ⟨o4, lf, T4, rfl, hlf, e4, d4, D4, S4⟩
      obtain ⟨d, hd, Dx⟩ := dats_get' Db j x4 hx4
      obtain ⟨cl, hc, rfl⟩ := get_map hd
      have jl : j < sy.cls.length := (List.getElem?_eq_some_iff.mp hc).1
      have mc := List.mem_of_getElem? hc
      obtain ⟨t, ls, rfl, et, Dl⟩ := dat_tup (ds := cl.map ltD) Dx
      have lcl : cl.length ≤ 14 := Nat.le_trans (cl_len (ok.ck cl mc)) ok.nlen
      have ll : ls.length = cl.length := by rw [Dl.len, List.length_map]
      obtain ⟨Tc, eT, dT, DT⟩ := rows_of_dat Dl (fun d hd => by obtain ⟨o, _, rfl⟩ := List.mem_map.mp hd; exact ⟨_, rfl⟩)
      have len4 : T4.length ≤ 560 := by
        rw [← List.length_map (f := Prod.snd), d4, List.length_map]
        have z := bes_len ws lt 14 (sy.cls.take j) (fun cl' h' => Nat.le_trans (cl_len (ok.ck cl' (List.mem_of_mem_take h'))) ok.nlen)
        rw [List.length_take] at z
        have : 14 * min j sy.cls.length ≤ 14 * 40 := Nat.mul_le_mul (Nat.le_refl _) (by omega)
        omega
      have KT : ∀ p ∈ Tc, Dat H4 p.v p.2 ∧ keyable p.2 = true ∧ p.2.depth ≤ 8 := fun p hp => by
        have m : p.2 ∈ cl.map ltD := dT ▸ List.mem_map_of_mem hp
        obtain ⟨o, _, ho⟩ := List.mem_map.mp m
        refine ⟨(DT p hp).same S4, by rw [← ho]; exact keyable_lt o, by rw [← ho]; have := depth_lt o; omega⟩
      refine ⟨_, rfl, _, rfl, r, t, ltD lt, Tc, rfl, rfl, .inr (SqT.of (by rw [← eT]; exact S4 _ _ et)), KT, Dr.same S4, keyable_lt lt, by have := depth_lt lt; omega, _, rfl, ?_⟩
      show if inT (ltD lt) Tc = true then _ else _
      rw [inT_lt dT.symm]
      by_cases hin : lt ∈ cl
      · rw [if_pos (decide_eq_true hin)]
        have eB : besC ws lt cl = cl.filter fun o => decide (o ≠ lt) && decide (o.1 ∈ ws) := if_pos hin
        refine ⟨_, rfl, _, rfl, t, rfl, ⟨_, SqT.of (S4 _ _ et)⟩, fun D0 hD0 => ?_⟩
        refine lc_tup (K := K) (a := t) (xs := ls) (fun k H5 => ∃ T5 : List TRow, H5 D0 = some (.lst (T5.map TRow.v)) ∧ T5.map Prod.snd = ((cl.take k).filter fun o => decide (o ≠ lt) && decide (o.1 ∈ ws)).map ltD ∧ (∀ q' ∈ T5, Dat H5 q'.v q'.2) ∧ Same H4 H5)
          ⟨[], upd_same, rfl, fun q' hq' => absurd hq' (by simp), same_new hD0⟩ (fun k H5 _ ⟨_, _, _, _, S5⟩ => SqT.of (S5 _ _ (S4 _ _ et))) ?_ ?_
        · rintro k x5 H5 hx5 ⟨T5, e5, d5, D5, S5⟩
          have S45 := S4.trans S5
          rw [eT, List.getElem?_map] at hx5
          obtain ⟨p, hp, rfl⟩ := Option.map_eq_some_iff.mp hx5
          have ep : (cl.map ltD)[k]? = some p.2 := by rw [dT, List.getElem?_map, hp]; rfl
          obtain ⟨o, ho, eo⟩ := get_map ep
          have Dp := (DT p (List.mem_of_getElem? hp)).same S45
          rw [eo] at Dp
          obtain ⟨ot, eov, eot⟩ := ltr_row Dp
          have kl : k < cl.length := (List.getElem?_eq_some_iff.mp ho).1
          have len5 : T5.length < sizeLine := by
            rw [← List.length_map (f := Prod.snd), d5, List.length_map]
            have z := List.length_filter_le (fun o : Ltr => decide (o ≠ lt) && decide (o.1 ∈ ws)) (cl.take k)
            rw [List.length_take] at z
            exact small1000 (by omega)
          have no : (cl.take (k + 1)).filter (fun o => decide (o ≠ lt) && decide (o.1 ∈ ws)) = (cl.take k).filter (fun o => decide (o ≠ lt) && decide (o.1 ∈ ws)) ++ (if (decide (o ≠ lt) && decide (o.1 ∈ ws)) = true then [o] else []) := by
            rw [take_next ho, List.filter_append]
            congr 1
            by_cases z : (decide (o ≠ lt) && decide (o.1 ∈ ws)) = true
            · rw [if_pos z]; simp only [List.filter_cons, z, if_true, List.filter_nil]
            · rw [if_neg z]; simp only [List.filter_cons, z, if_false, List.filter_nil, Bool.false_eq_true]
          have skip : (decide (o ≠ lt) && decide (o.1 ∈ ws)) ≠ true → ∃ T5 : List TRow, H5 D0 = some (.lst (T5.map TRow.v)) ∧ T5.map Prod.snd = ((cl.take (k + 1)).filter fun o => decide (o ≠ lt) && decide (o.1 ∈ ws)).map ltD ∧ (∀ q' ∈ T5, Dat H5 q'.v q'.2) ∧ Same H4 H5 := fun z =>
            ⟨T5, e5, by rw [no, if_neg z, List.append_nil]; exact d5, D5, S5⟩
          refine ⟨rfl, _, rfl, _, rfl, ltD o, ltD lt, Dp, Dr.same S45, rfl, rfl, by have := depth_lt o; omega, _, rfl, ?_⟩
          show if (!PyData.eqv (ltD o) (ltD lt)) = true then _ else _
          rw [eqv_lt]
          by_cases hne : o = lt
          · rw [if_neg (by rw [decide_eq_true hne]; decide)]
            show if false = true then _ else _
            rw [if_neg (by decide)]
            exact skip (by rw [decide_eq_false (fun z => z hne), Bool.false_and]; decide)
          rw [if_pos (by rw [decide_eq_false hne]; rfl)]
          refine ⟨_, rfl, ot, _, 0, _, eov, rfl, SqT.of eot, rfl, _, rfl, lv, _, rfl, .inl (SqL.of (S45 _ _ ev)), rfl, flat_strs _, _, rfl, ?_⟩
          show if inV (V.str o.1) (ws.map V.str) = true then _ else _
          rw [inV_str]
          by_cases hw : o.1 ∈ ws
          · have yes : (decide (o ≠ lt) && decide (o.1 ∈ ws)) = true := by rw [decide_eq_true hne, decide_eq_true hw]; rfl
            rw [if_pos (decide_eq_true hw)]
            refine ⟨_, rfl, _, e5, by rw [List.length_map]; exact len5, T5 ++ [(p.1, ltD o)], by rw [upd_same, List.map_append]; rfl, ?_, fun q' hq' => ?_, same_upd S5 hD0⟩
            · rw [List.map_append, d5, no, if_pos yes, List.map_append]
              rfl
            · have kq : keyable q'.2 = true := by
                rcases List.mem_append.mp hq' with m | m
                · have m2 : q'.2 ∈ T5.map Prod.snd := List.mem_map_of_mem m
                  rw [d5] at m2
                  obtain ⟨z, _, hz⟩ := List.mem_map.mp m2
                  rw [← hz]
                  exact keyable_lt z
                · cases List.mem_singleton.mp m
                  exact keyable_lt o
              refine dat_upd e5 kq ?_
              rcases List.mem_append.mp hq' with m | m
              · exact D5 q' m
              · cases List.mem_singleton.mp m
                exact Dp
          · rw [if_neg (by rw [decide_eq_false hw]; decide)]
            exact skip (by rw [decide_eq_false hw, Bool.and_false]; decide)
        · rintro H5 ⟨T5, e5, d5, D5, S5⟩
          rw [ll, List.take_length] at d5
          have lT5 : T5.length ≤ 14 := by
            rw [← List.length_map (f := Prod.snd), d5, List.length_map]
            exact Nat.le_trans (List.length_filter_le _ _) lcl
          refine ⟨lf, D0, _, _, rfl, rfl, S5 _ _ e4, e5, ?_, fun ln hln => ?_⟩
          · rw [List.length_map, List.length_map]
            exact Nat.le_of_lt (small1000 (by omega))
          have S6 := same_new (o := .lst (T4.map TRow.v ++ T5.map TRow.v)) hln
          refine ⟨_, ln, T4 ++ T5, rfl, (S4.trans S5).free hln, by rw [upd_same, List.map_append], ?_, fun q' hq' => ?_, S4.trans (S5.trans S6)⟩
          · rw [List.map_append, d4, d5, take_next hc, List.flatMap_append, List.flatMap_cons, List.flatMap_nil, List.append_nil, List.map_append, eB]
          · rcases List.mem_append.mp hq' with m | m
            · exact ((D4 q' m).same S5).same S6
            · exact (D5 q' m).same S6
      · rw [if_neg (by rw [decide_eq_false hin]; decide)]
        refine ⟨_, lf, T4, rfl, hlf, e4, ?_, D4, S4⟩
        rw [d4, take_next hc, List.flatMap_append, List.flatMap_cons, List.flatMap_nil, List.append_nil]
        have e0 : besC ws lt cl = [] := if_neg hin
        rw [e0, List.append_nil]
    · rintro σ H4 ⟨o4, lf, T4, rfl, hlf, e4, d4, D4, S4⟩
      rw [lu, List.take_length] at d4
      exact ⟨_, rfl, q lf T4 H4 S4 hlf e4 d4 D4⟩
end
end S2

set_option Elab.async false
set_option linter.all false
set_option maxRecDepth 100000
set_option maxHeartbeats 4000000
/-! list(text); list.count of a list of truths -/
namespace L2
open PySem PySem.W PySem.Spec PyProof.Rows
section
variable {X : Cx}
def signV (x : Str) : List V := x.cps.toList.map fun c => V.str ⟨#[c]⟩
theorem vals_signs {x : Str} {acc : Array Value} (h : ItemsOf (SignAt x) acc x.cps.size) : Vals (signV x) acc.toList := by
  refine vals_of_idx _ _ (by rw [Array.length_toList, h.1, signV, List.length_map, Array.length_toList]) fun j u hj => ?_
  obtain ⟨c, t, hc, rfl⟩ := h.2 j u (by rw [← Array.getElem?_toList]; exact hj)
  refine ⟨V.str ⟨#[c]⟩, ?_, ⟨t, rfl⟩⟩
  rw [signV, List.getElem?_map, Array.getElem?_toList, hc]
  rfl
/-- list(x), x a text: a new list of its signV -/
def rListStr : List V → Hp → VK → Prop := fun xs H Q => ∃ x : Str, xs = [.str x] ∧ x.cps.size ≤ sizeLine ∧ ∀ l, H l = none → Q (.ref l) (upd H l (.lst (signV x)))
theorem call_listStr (hc : X.calm = true) : CallR X (.type "list") rListStr := by
  intro pins s σ H xs us Q I r h
  obtain ⟨x, rfl, hn, q⟩ := h
  obtain ⟨u, rfl, rx⟩ := vals1 r
  obtain ⟨t, rfl⟩ := rx
  refine call_list_str (I.ok.hd hc) x t (fun h' tk acc c' kp e ia => ?_) hn
  have rv := vals_signs ia
  exact ⟨.ref s.heap.objs.size, _, I.laid (t' := tk) kp (Nat.le_refl _) (show ObjOk X.prog X.w _ h' _ (.lst (signV x)) from ⟨by rw [signV, List.length_map, Array.length_toList]; exact hn, acc.toList, c', rv, by simpa using e⟩), rfl, q _ (I.hok.fresh (Nat.le_refl _))⟩
theorem bls_vals : ∀ {bs : List Bool} {us : List Value}, Vals (bs.map V.bl) us → us = bs.map Value.bool
  | [], _, .nil => rfl
  | b :: bs, _, .cons r t => by
    cases (show _ = Value.bool b from r)
    rw [bls_vals t, List.map_cons]
/-- xs.count(b), xs a list of truths -/
def rCntB (K : PySem.W.Frag) : V → List V → Hp → VK → Prop := fun x xs H Q => ∃ (p : Addr) (bs : List Bool) (k : Bool), x = .ref p ∧ xs = [.bl k] ∧ SqL K H p (bs.map V.bl) ∧ Q (.int (bs.count k : Nat)) H
theorem mt_lcountB : MtR X "list.count" (rCntB X.K) := by
  intro pins s σ H x xs v us Q I rx rxs h
  obtain ⟨p, bs, k, rfl, rfl, hs, q⟩ := h
  cases rx
  obtain ⟨u, rfl, ru⟩ := rxs.one
  cases (show u = Value.bool k from ru)
  obtain ⟨its, rv, ⟨⟨cls, dd, data, sl⟩, n, ho, hc, hdn, hd⟩, hlen⟩ := I.list hs
  simp only at hc hd
  subst hc hd
  have e := bls_vals rv
  subst e
  refine call_meets PySem.F.slot_list_count ⟨_, ho, rfl⟩ PySem.F.entry_list_count (PySem.F.args_list_count_2 _ _)
    (SeqAt.list_countAt p (bs.map Value.bool).toArray n dd sl (.bool k) (isBoolOf k)) ⟨ho, fun y hy => ?_, ?_⟩
  · obtain ⟨b, _, rfl⟩ := List.mem_map.mp (show y ∈ bs.map Value.bool by simpa using hy)
    exact SeqAt.EqAt.bool_bool b k
  · have ec : (bs.map Value.bool).toArray.toList.countP (isBoolOf k) = bs.count k := by
      rw [List.toList_toArray, List.countP_map, List.count]
      rfl
    refine ⟨.int (bs.count k : Nat), H, I.tok _, ⟨s.toks, ?_⟩, q⟩
    show Value.int (((bs.map Value.bool).toArray.toList.countP (isBoolOf k) : Nat) : Int) s.toks = Value.int ((bs.count k : Nat) : Int) s.toks
    rw [ec]
end
end L2

set_option Elab.async false
set_option linter.all false
set_option maxRecDepth 100000
set_option maxHeartbeats 4000000
/-! a heap off another one by draws and new things -/
namespace S1
open PySem PySem.W PySem.Spec PyProof.Rows L2
/-- G comes of H by draws at p and by new things -/
structure Dr (H : Hp) (p : Addr) (c : Nat) (G : Hp) : Prop where
  s : Src G p c
  m : Same (del H p) (del G p)
section
variable {H G : Hp} {p : Addr} {c c' : Nat}
theorem Dr.start (h : Src H p c) : Dr H p c H := ⟨h, Same.refl _⟩
theorem Dr.up (d : Dr H p c G) (le : c ≤ c') : Dr H p c' G := ⟨d.s.mono rfl le, d.m⟩
theorem Dr.src {o : HO} (d : Dr H p c G) (h : Src (upd G p o) p c') : Dr H p c' (upd G p o) := ⟨h, sd_at d.m⟩
theorem Dr.ne {l : Addr} (d : Dr H p c G) (h : G l = none) : l ≠ p := (d.s.ne h).symm
theorem Dr.free {l : Addr} (d : Dr H p c G) (h : G l = none) : H l = none := sd_free d.m h (d.ne h)
theorem Dr.new {l : Addr} {o : HO} (d : Dr H p c G) (h : G l = none) : Dr H p c (upd G l o) :=
  ⟨d.s.mono (upd_ne (d.ne h).symm) (Nat.le_refl _), sd_new d.m h (d.ne h)⟩
theorem Dr.put {l : Addr} {o : HO} (d : Dr H p c G) (h : H l = none) (n : l ≠ p) : Dr H p c (upd G l o) :=
  ⟨d.s.mono (upd_ne n.symm) (Nat.le_refl _), sd_put d.m h⟩
theorem Dr.keep {x : Addr} {o : HO} (d : Dr H p c G) (e : H x = some o) (n : x ≠ p) : G x = some o := by
  have z := d.m x o (by rw [del_ne n]; exact e)
  rwa [del_ne n] at z
theorem Dr.dat {c0 : Nat} (d : Dr H p c G) (h : Src H p c0) {v : V} {u : PyData} (k : keyable u = true) (D : Dat H v u) : Dat G v u := dat_src h d.m k D
theorem Dr.trans {G2 : Hp} (d : Dr H p c G) (d2 : Dr G p c' G2) : Dr H p c' G2 := ⟨d2.s, d.m.trans d2.m⟩
theorem Dr.same {G2 : Hp} (d : Dr H p c G) (S : Same G G2) : Dr H p c G2 := by
  obtain ⟨xs, hx⟩ := d.s.lst
  exact ⟨d.s.mono (by rw [hx, S _ _ hx]) (Nat.le_refl _), d.m.trans (sd_of S)⟩
end
theorem Src.nes {H : Hp} {p l : Addr} {c : Nat} {xs : List Str} (h : Src H p c) (e : H l = some (.lst (xs.map V.str))) : l ≠ p := fun z => by
  obtain ⟨a, b, d, hp, _⟩ := h.at_
  rw [z, hp] at e
  injection e with e
  injection e with e
  cases xs with
  | nil => cases e
  | cons x xs =>
    rw [List.map_cons] at e
    injection e with e
    cases e
/-- draws have been made at p; what stands at F and the data R are known -/
structure Wk (H : Hp) (p : Addr) (c : Nat) (F : List (Addr × HO)) (R : List (V × PyData)) (G : Hp) : Prop where
  d : Dr H p c G
  f : ∀ x ∈ F, G x.1 = some x.2
  n : ∀ x ∈ F, x.1 ≠ p
  nd : (F.map Prod.fst).Nodup
  r : ∀ x ∈ R, keyable x.2 = true ∧ Dat G x.1 x.2
section
variable {H G : Hp} {p a : Addr} {c c' : Nat} {F : List (Addr × HO)} {R : List (V × PyData)} {o : HO}
theorem Wk.start (h : Src H p c) : Wk H p c [] [] H := ⟨Dr.start h, fun x z => absurd z (by simp), fun x z => absurd z (by simp), List.nodup_nil, fun x z => absurd z (by simp)⟩
theorem Wk.at (W : Wk H p c F R G) (i : Nat) (e : F[i]? = some (a, o)) : G a = some o := W.f (a, o) (List.mem_of_getElem? e)
theorem Wk.np (W : Wk H p c F R G) (i : Nat) (e : F[i]? = some (a, o)) : a ≠ p := W.n (a, o) (List.mem_of_getElem? e)
theorem Wk.row (W : Wk H p c F R G) (i : Nat) {v : V} {d : PyData} (e : R[i]? = some (v, d)) : Dat G v d := (W.r (v, d) (List.mem_of_getElem? e)).2
theorem Wk.s (W : Wk H p c F R G) : Src G p c := W.d.s
theorem Wk.up (W : Wk H p c F R G) (le : c ≤ c') : Wk H p c' F R G := { W with d := W.d.up le }
theorem Wk.no (W : Wk H p c F R G) (h : G a = none) : ∀ x ∈ F, x.1 ≠ a := fun x hx => ne_of_none (W.f x hx) h
theorem Wk.new (W : Wk H p c F R G) (h : G a = none) : Wk H p c ((a, o) :: F) R (upd G a o) :=
  ⟨W.d.new h, fun x hx => by
    rcases List.mem_cons.mp hx with rfl | hx
    · exact upd_same
    · show upd G a o x.1 = _
      rw [upd_ne (W.no h x hx)]
      exact W.f x hx, fun x hx => by
    rcases List.mem_cons.mp hx with rfl | hx
    · exact W.d.ne h
    · exact W.n x hx, List.nodup_cons.mpr ⟨fun z => by
    obtain ⟨x, hx, e⟩ := List.mem_map.mp z
    exact W.no h x hx e, W.nd⟩, fun x hx => ⟨(W.r x hx).1, dat_new h (W.r x hx).2⟩⟩
/-- a new thing that need not be known -/
theorem Wk.new' (W : Wk H p c F R G) (h : G a = none) : Wk H p c F R (upd G a o) :=
  ⟨W.d.new h, fun x hx => by
    rw [upd_ne (W.no h x hx)]
    exact W.f x hx, W.n, W.nd, fun x hx => ⟨(W.r x hx).1, dat_new h (W.r x hx).2⟩⟩
theorem Wk.trans {G2 : Hp} (W : Wk H p c F R G) (d : Dr G p c' G2) : Wk H p c' F R G2 :=
  ⟨W.d.trans d, fun x hx => d.keep (W.f x hx) (W.n x hx), W.n, W.nd, fun x hx => ⟨(W.r x hx).1, d.dat W.s (W.r x hx).1 (W.r x hx).2⟩⟩
theorem Wk.src (W : Wk H p c F R G) (h : Src (upd G p o) p c') : Wk H p c' F R (upd G p o) := W.trans ⟨h, sd_at (Same.refl _)⟩
theorem Wk.same {G2 : Hp} (W : Wk H p c F R G) (S : Same G G2) : Wk H p c F R G2 := W.trans ((Dr.start W.s).same S)
theorem set_fst {o' : HO} : ∀ {F : List (Addr × HO)} {i : Nat}, F[i]? = some (a, o) → (F.set i (a, o')).map Prod.fst = F.map Prod.fst
  | [], _, e => by simp at e
  | x :: F, 0, e => by simp at e; subst e; rfl
  | x :: F, i + 1, e => by
    rw [List.set_cons_succ, List.map_cons, List.map_cons, set_fst (F := F) (i := i) (by simpa using e)]
theorem mem_set {o' : HO} : ∀ {F : List (Addr × HO)} {i : Nat}, F[i]? = some (a, o) → (F.map Prod.fst).Nodup → ∀ x ∈ F.set i (a, o'), x = (a, o') ∨ (x ∈ F ∧ x.1 ≠ a)
  | [], _, e, _, _, _ => by simp at e
  | y :: F, 0, e, nd, x, hx => by
    simp at e
    subst e
    rw [List.map_cons, List.nodup_cons] at nd
    rw [List.set_cons_zero] at hx
    rcases List.mem_cons.mp hx with z | z
    · exact .inl z
    · exact .inr ⟨List.mem_cons_of_mem _ z, fun w => nd.1 (List.mem_map.mpr ⟨x, z, w⟩)⟩
  | y :: F, i + 1, e, nd, x, hx => by
    rw [List.map_cons, List.nodup_cons] at nd
    rw [List.set_cons_succ] at hx
    rcases List.mem_cons.mp hx with z | z
    · subst z
      refine .inr ⟨List.mem_cons_self, fun w => nd.1 (List.mem_map.mpr ⟨(a, o), List.mem_of_getElem? (i := i) (by simpa using e), w.symm⟩)⟩
    · rcases mem_set (F := F) (i := i) (by simpa using e) nd.2 x z with w | ⟨w, v⟩
      · exact .inl w
      · exact .inr ⟨List.mem_cons_of_mem _ w, v⟩
/-- what stands at a, no tuple, is changed -/
theorem Wk.put {o' : HO} (W : Wk H p c F R G) (i : Nat) (e : F[i]? = some (a, o)) (hH : H a = none) (nt : ∀ xs, o ≠ .tup xs) : Wk H p c (F.set i (a, o')) R (upd G a o') := by
  have hn := W.np i e
  have K := tk_put (H := G) (a := a) (o := o') fun xs z => by
    rw [W.at i e] at z
    exact nt xs (Option.some.inj z)
  refine ⟨W.d.put hH hn, fun x hx => ?_, fun x hx => ?_, by rw [set_fst e]; exact W.nd, fun x hx => ⟨(W.r x hx).1, dat_tk K _ _ (W.r x hx).1 (W.r x hx).2⟩⟩
  · rcases mem_set e W.nd x hx with rfl | ⟨w, v⟩
    · exact upd_same
    · rw [upd_ne v]
      exact W.f x w
  · rcases mem_set e W.nd x hx with rfl | ⟨w, v⟩
    · exact hn
    · exact W.n x w
theorem Wk.sub {F' : List (Addr × HO)} (W : Wk H p c F R G) (s : F'.Sublist F) : Wk H p c F' R G := ⟨W.d, fun x hx => W.f x (s.subset hx), fun x hx => W.n x (s.subset hx), W.nd.sublist (s.map _), W.r⟩
theorem Wk.rows {R' : List (V × PyData)} (W : Wk H p c F R G) (h : ∀ x ∈ R', x ∈ R ∨ (keyable x.2 = true ∧ Dat G x.1 x.2)) : Wk H p c F R' G := ⟨W.d, W.f, W.n, W.nd, fun x hx => (h x hx).elim (W.r x) id⟩
theorem Wk.addR {v : V} {d : PyData} (W : Wk H p c F R G) (k : keyable d = true) (D : Dat G v d) : Wk H p c F ((v, d) :: R) G := W.rows fun x hx => by
  rcases List.mem_cons.mp hx with rfl | z
  · exact .inr ⟨k, D⟩
  · exact .inl z
theorem Wk.know (W : Wk H p c F R G) (e : G a = some o) (n : a ≠ p) (nf : ∀ x ∈ F, x.1 ≠ a) : Wk H p c ((a, o) :: F) R G :=
  ⟨W.d, fun x hx => by
    rcases List.mem_cons.mp hx with rfl | hx
    · exact e
    · exact W.f x hx, fun x hx => by
    rcases List.mem_cons.mp hx with rfl | hx
    · exact n
    · exact W.n x hx, List.nodup_cons.mpr ⟨fun z => by
    obtain ⟨x, hx, e⟩ := List.mem_map.mp z
    exact nf x hx e, W.nd⟩, W.r⟩
theorem Wk.free (W : Wk H p c F R G) (h : G a = none) : H a = none := W.d.free h
end
theorem lst_nt {xs : List V} : ∀ ys, HO.lst xs ≠ .tup ys := fun _ z => by cases z
theorem dK_nt {kvs : List (Key × V)} : ∀ ys, HO.dK kvs ≠ .tup ys := fun _ z => by cases z
theorem frz_nt {od : Obj} {u : HO} : ∀ ys, HO.frz od u ≠ .tup ys := fun _ z => by cases z
theorem dn_nt {w : World} {a : Addr} {D : List DRow} : ∀ ys, DnO w a D ≠ .tup ys := fun _ z => by cases z
end S1

set_option Elab.async false
set_option linter.all false
set_option maxRecDepth 100000
set_option maxHeartbeats 4000000
/-! unlike names, parts of picks, drawn -/
namespace S1
open PySem PySem.W PySem.Spec PyProof.Rows L2
def abcN : List Nat := ("abcdefghijklmnopqrstuvwxyz" : Str).cps.toList
theorem abc_signs : signV "abcdefghijklmnopqrstuvwxyz" = (abcN.map sg).map V.str := by
  rw [List.map_map]
  rfl
def more9 : List Str := ["aa", "ab", "az", "ba", "xx", "xy", "abc", "aaaaaaaa", "azzzzzz"]
def pot35 : List Str := abcN.map sg ++ more9
theorem pot_nd : pot35.Nodup := by decide +kernel
theorem pot_len : pot35.length = 35 := by decide +kernel
theorem pot_nm : ∀ x ∈ pot35, Nm x := fun x hx => by
  have z : (pot35.all nmB) = true := by decide +kernel
  exact nm_of (List.all_eq_true.mp z x hx)
def spNames : Sp := fun vs H Q _ => ∃ (p : Addr) (c n : Nat), vs = [.ref p, .int n] ∧ Src H p c ∧ c ≤ 80000 ∧ n ≤ 35 ∧
  ∀ (b : Addr) (ws : List Str) (H' : Hp), ws.length = n → ws.Nodup → (∀ x ∈ ws, Nm x) → H b = none → H' b = some (.lst (ws.map V.str)) → Dr H p (c + n) H' → Q (.ref b) H'
def spPart : Sp := fun vs H Q _ => ∃ (p : Addr) (c : Nat) (v : V) (xs : List Str) (m : Int), vs = [.ref p, v, .int m] ∧ Src H p c ∧ c ≤ 90000 ∧ Dat H v (nmsD xs) ∧ xs.length ≤ 100 ∧ 0 < m ∧ m < 2 ^ 100 ∧
  ∀ (b : Addr) (ys : List Str) (H' : Hp), ys.Sublist xs → H b = none → H' b = some (.lst (ys.map V.str)) → Dr H p (c + xs.length) H' → Q (.ref b) H'
abbrev tLen (K : PySem.W.Frag) (i : Nat) : TE := tCB (fun xs H Q => ∃ p ys, xs = [V.ref p] ∧ (SqL K H p ys ∨ SqT K H p ys) ∧ Q (V.int ys.length) H) (tCons (tVar i) tNil)
abbrev nNames : List Str := ["pot", "size", "left", "turn"]
section
variable {P : Program} {w : World} {K : PySem.W.Frag} {mg : Str → Option Value} {base : Heap}
theorem scNames : FnScope nNames ["pot", "size"] (defScope sLNames) := ⟨rfl, rfl, rfl, by decide +kernel, rfl, by decide +kernel, by decide +kernel⟩
theorem scPart : FnScope ["pot", "items", "shares", "item"] ["pot", "items", "shares"] (defScope sLPart) := ⟨rfl, rfl, rfl, by decide +kernel, rfl, by decide +kernel, by decide +kernel⟩
theorem ok_names {f fP : Addr} {fd fdP : FuncData} (F : Fun K "_law_names" "_law_names" sLNames f fd) (Pk : Has K mg "_law_draw" sDraw ["pot", "top"] fP fdP) (B : Blt mg) : FnOk P w K mg base CX0 2 f fd ["pot", "size"] spNames := by
  have GP : FnOk P w K mg base CX0 1 fP fdP ["pot", "top"] spPick := ok_pick Pk.F B
  refine F.ok scNames (fun vs H Q E h => ?_) (fun cdv A outer s H vs Q E hr h => ?_)
  · obtain ⟨p, c, n, rfl, _⟩ := h
    rfl
  · obtain ⟨p, c, n, rfl, hs, hc, hn, q⟩ := h
    refine ⟨_, pss_cons (ps_set (i := 2) scNames.nd rfl (.inr rfl) (pe_op op_cat (pe_callTy (call_listStr rfl) (by rfl) B.list (by decide +kernel) (pa_cons pe_str pa_nil))
          (pe_lst (pa_cons pe_str (pa_cons pe_str (pa_cons pe_str (pa_cons pe_str (pa_cons pe_str (pa_cons pe_str (pa_cons pe_str (pa_cons pe_str (pa_cons pe_str pa_nil))))))))))))
      (pss_one (ps_ret (pe_lc (own := [("turn", 3)]) (g := gName 3) (tt := tYes) (te := tBM K "list" rPopAt (tVar 2) (tCons (tCall spPick [] E0 (tCons (tVar 0) (tCons (tLen K 2) tNil))) tNil)) rfl scNames.nd
            (pi_range1 rfl B.range (pa_cons (pv 1) pa_nil)) (blkOk_by (N := nNames) (sc := defScope sLNames) (by decide +kernel)) (fun _ _ _ _ _ => pg_name (i := 3) scNames.nd rfl (.inl rfl)) (fun _ _ _ _ _ => pts_nil)
            (fun _ _ _ _ _ => by exact pe_bm PySem.F.plainAttrs_list PySem.F.slot_list_pop PySem.F.type_list_pop mt_popAt (pv 2) (pa_cons (pe_call GP (by exact hr) (by rfl) Pk.g Pk.F.kp Pk.b .nil pass0 (pa_cons (pv 0) (pa_cons (pe_callB call_len_seq (by rfl) B.len (by decide +kernel) (pa_cons (pv 2) pa_nil)) pa_nil))) pa_nil))))), ?_⟩
    have W0 := Wk.start hs
    refine ⟨_, rfl, by decide +kernel, fun aA hA => ?_⟩
    rw [abc_signs]
    have W1 := W0.new (o := .lst ((abcN.map sg).map V.str)) hA
    refine ⟨(by show 9 ≤ sizeLine; decide), fun l0 hl0 => ?_⟩
    have W2 := W1.new (o := .lst (more9.map V.str)) hl0
    refine ⟨_, _, _, _, rfl, rfl, W2.at 1 rfl, W2.at 0 rfl, ?_, fun l hl => ?_⟩
    · rw [List.length_map, List.length_map]
      exact Nat.le_of_lt (small1000 (by decide +kernel))
    rw [← List.map_append]
    have W3 := (W2.new (o := .lst (pot35.map V.str)) hl).sub (F' := [(l, .lst (pot35.map V.str))]) (by simp)
    have hl1 := W2.free hl
    refine ⟨_, rfl, _, rfl, by omega, by omega, fun D hD => ?_⟩
    have W4 := W3.new (o := .lst ([] : List V)) hD
    have hD0 := W3.free hD
    refine lc_range (lo := 0) (n := ((n : Nat) : Int).toNat) (fun i H4 => ∃ (L1 W : List Str), Wk H p (c + i) [(D, .lst (W.map V.str)), (l, .lst (L1.map V.str))] [] H4 ∧ W.length = i ∧ (W ++ L1).Perm pot35) ?_ ?_ ?_
    · exact ⟨pot35, [], W4, rfl, List.Perm.refl _⟩
    · rintro i H4 hi ⟨L1, W, W5, hW, pm⟩
      have len : W.length + L1.length = 35 := by rw [← List.length_append, pm.length_eq, pot_len]
      refine ⟨rfl, yes_of ?_⟩
      refine ⟨_, rfl, .inl ⟨rfl, _, SqL.of (W5.at 1 rfl)⟩, _, rfl, _, rfl, _, _, rfl, .inl (SqL.of (W5.at 1 rfl)), p, _, _, rfl, W5.s, by omega, by rw [List.length_map]; omega, by rw [List.length_map]; omega, fun k o k0 k1 hp5 => ?_⟩
      rw [List.length_map] at k1
      have kl : k.toNat < L1.length := by omega
      have pp := pop_perm L1 k.toNat kl
      have W6 := W5.src hp5
      refine ⟨l, _, k, k.toNat, .str L1[k.toNat], rfl, rfl, W6.at 1 rfl, by omega, by omega, by rw [List.length_map]; exact seq_nat k0 k1, by rw [List.getElem?_map, List.getElem?_eq_getElem kl]; rfl, ?_⟩
      rw [map_erase]
      have W7 := W6.put (o' := .lst ((L1.eraseIdx k.toNat).map V.str)) 1 rfl hl1 lst_nt
      refine ⟨_, W7.at 0 rfl, by rw [List.length_map]; exact small1000 (by omega), L1.eraseIdx k.toNat, W ++ [L1[k.toNat]], ?_, by rw [List.length_append, hW]; rfl, ?_⟩
      · have W8 := W7.put (o' := .lst (W.map V.str ++ [V.str L1[k.toNat]])) 0 rfl hD0 lst_nt
        rw [List.map_append]
        exact W8.up (by omega)
      · rw [List.append_assoc]
        exact ((List.Perm.refl W).append pp.symm).trans pm
    · rintro H4 ⟨L1, W, W5, hW, pm⟩
      have ndW : (W ++ L1).Nodup := pm.nodup_iff.mpr pot_nd
      exact q D W H4 (by omega) (List.nodup_append.mp ndW).1 (fun y hy => pot_nm y (pm.mem_iff.mp (List.mem_append_left _ hy))) hD0 (W5.at 0 rfl) (W5.d.up (by omega))
theorem ok_part {f fP : Addr} {fd fdP : FuncData} (F : Fun K "_law_part" "_law_part" sLPart f fd) (Pk : Has K mg "_law_draw" sDraw ["pot", "top"] fP fdP) (B : Blt mg) : FnOk P w K mg base CX0 2 f fd ["pot", "items", "shares"] spPart := by
  have GP : FnOk P w K mg base CX0 1 fP fdP ["pot", "top"] spPick := ok_pick Pk.F B
  refine F.ok scPart (fun vs H Q E h => ?_) (fun cdv A outer s H vs Q E hr h => ?_)
  · obtain ⟨p, c, v, xs, m, rfl, _⟩ := h
    rfl
  · obtain ⟨p, c, v, xs, m, rfl, hs, hc, D1, h1, m0, m1, q⟩ := h
    refine ⟨_, pss_one (ps_ret (pe_lc (own := [("item", 3)]) (g := gName 3) (te := tVar 3) rfl scPart.nd (pi_tup (pv 1)) (blkOk_by (N := ["pot", "items", "shares", "item"]) (sc := defScope sLPart) (by decide +kernel))
            (fun _ _ _ _ _ => pg_name (i := 3) scPart.nd rfl (Or.inl rfl)) (fun _ _ _ _ _ => pts_one (pt_cmpR op_gt (pe_call GP (by exact hr) (by rfl) Pk.g Pk.F.kp Pk.b .nil pass0 (pa_cons (pv 0) (pa_cons (pv 2) pa_nil))) pe_int (nomark _))) (fun _ _ _ _ _ => by exact pv 3))), ?_⟩
    have W0 := (Wk.start hs).addR (keyable_nms xs) D1
    obtain ⟨a, ps, rfl, e1, Dp⟩ := dat_tup (ds := xs.map PyData.str) D1
    cases dats_strs_eq Dp
    refine ⟨_, rfl, a, rfl, ⟨_, SqT.of e1⟩, fun D hD => ?_⟩
    have hD0 := W0.free hD
    refine lc_tup (K := K) (a := a) (xs := xs.map V.str) (fun j H4 => ∃ ys : List Str, Wk H p (c + j) [(D, .lst (ys.map V.str))] [(.ref a, nmsD xs)] H4 ∧ ys.Sublist (xs.take j)) ⟨[], W0.new hD, List.nil_sublist _⟩
      (fun j H4 _ ⟨ys, W, _⟩ => ?_) ?_ ?_
    · have z := W.row 0 rfl
      obtain ⟨a', ps', e', e2, Dp'⟩ := dat_tup (ds := xs.map PyData.str) z
      cases dats_strs_eq Dp'
      cases e'
      exact SqT.of e2
    · rintro j x H4 hx ⟨ys, W, sub⟩
      rw [List.getElem?_map] at hx
      obtain ⟨y, hy, rfl⟩ := Option.map_eq_some_iff.mp hx
      have jl : j < xs.length := (List.getElem?_eq_some_iff.mp hy).1
      refine ⟨rfl, _, rfl, _, rfl, p, _, m, rfl, W.s, by omega, m0, m1, fun k4 o4 _ _ hp4 => ⟨_, _, rfl, rfl, _, rfl, ?_⟩⟩
      have W5 := W.src hp4
      have tk : xs.take (j + 1) = xs.take j ++ [y] := take_next hy
      refine ite2 (fun _ => ?_) (fun _ => ?_)
      · refine ⟨_, rfl, _, W5.at 0 rfl, ?_, ys ++ [y], ?_, by rw [tk]; exact sub.append (List.Sublist.refl _)⟩
        · rw [List.length_map]
          have := sub.length_le
          rw [List.length_take] at this
          exact small1000 (by omega)
        · have W6 := W5.put (o' := .lst (ys.map V.str ++ [V.str y])) 0 rfl hD0 lst_nt
          rw [List.map_append]
          exact W6.up (by omega)
      · exact ⟨ys, W5.up (by omega), by rw [tk]; exact sub.trans (List.sublist_append_left _ _)⟩
    · rintro H4 ⟨ys, W, sub⟩
      rw [List.length_map] at W
      exact q D ys H4 (sub.trans (List.take_sublist _ _)) hD0 (W.at 0 rfl) W.d
end
end S1

set_option Elab.async false
set_option linter.all false
set_option maxRecDepth 100000
set_option maxHeartbeats 4000000
/-! owns, drawn -/
namespace S1
open PySem PySem.W PySem.Spec PyProof.Rows L2
/-- picks and owns as of a saying -/
structure FrOk (a b m : Nat) (picks : List Str) (owns : List Own) : Prop where
  pu : picks.Pairwise tlt
  pn : ∀ x ∈ picks, Nm x
  pl : picks.length ≤ a
  ou : owns.Pairwise fun x y => tlt x.1 y.1
  on : ∀ o ∈ owns, Nm o.1 ∧ o.1 ∉ picks ∧ o.2.Pairwise tlt ∧ ∀ x ∈ o.2, x ∈ picks
  ol : owns.length ≤ b
  oc : copies owns ≤ m
def spOwns : Sp := fun vs H Q _ => ∃ (p ln : Addr) (c m : Nat) (v : V) (picks ns : List Str), vs = [.ref p, v, .ref ln, .int m] ∧ Src H p c ∧ c ≤ 50000 ∧ Dat H v (nmsD picks) ∧ picks.Pairwise tlt ∧ (∀ x ∈ picks, Nm x) ∧ picks.length ≤ 14 ∧
  H ln = some (.lst (ns.map V.str)) ∧ ns.Nodup ∧ (∀ x ∈ ns, Nm x ∧ x ∉ picks) ∧ ns.length ≤ 14 ∧ ns.length ≤ m ∧ m ≤ 1000 ∧
  ∀ (v2 : V) (owns : List Own) (H' : Hp), Dat H' v2 (.tuple (owns.map ownD)) → FrOk 14 ns.length m picks owns → owns.length = ns.length → (∀ x ∈ owns.map Prod.fst, x ∈ ns) → Dr H p (c + 500) H' → Q v2 H'
abbrev nOwns : List Str := ["pot", "picks", "names", "space", "found", "room", "shares", "at", "name", "sight"]
abbrev rowR (T : List TRow) : List (V × PyData) := T.map fun q => (q.v, q.2)
theorem rowR_mem {T : List TRow} {x : V × PyData} (h : x ∈ rowR T) : ∃ q ∈ T, x = (q.v, q.2) := by
  obtain ⟨q, hq, e⟩ := List.mem_map.mp h
  exact ⟨q, hq, e.symm⟩
section
variable {P : Program} {w : World} {K : PySem.W.Frag} {mg : Str → Option Value} {base : Heap}
theorem scOwns : FnScope nOwns ["pot", "picks", "names", "space"] (defScope sLOwns) := ⟨rfl, rfl, rfl, by decide +kernel, rfl, by decide +kernel, by decide +kernel⟩
theorem ok_owns {f fP fL : Addr} {fd fdP fdL : FuncData} (F : Fun K "_law_owns" "_law_owns" sLOwns f fd) (Pk : Has K mg "_law_draw" sDraw ["pot", "top"] fP fdP) (Lo : Has K mg "_law_part" sLPart ["pot", "items", "shares"] fL fdL) (B : Blt mg) (en : mg "enumerate" = none) :
    FnOk P w K mg base CX0 3 f fd ["pot", "picks", "names", "space"] spOwns := by
  have GP : FnOk P w K mg base CX0 1 fP fdP ["pot", "top"] spPick := ok_pick Pk.F B
  have GL : FnOk P w K mg base CX0 2 fL fdL ["pot", "items", "shares"] spPart := ok_part Lo.F Pk B
  refine F.ok scOwns (fun vs H Q E h => ?_) (fun cdv A outer s H vs Q E hr h => ?_)
  · obtain ⟨p, ln, c, m, v, picks, ns, rfl, _⟩ := h
    rfl
  · obtain ⟨p, ln, c, m, v, picks, ns, rfl, hs, hc, D1, pu, pn, pl, hln, nd, nm, nl, nlm, hm, q⟩ := h
    have hu : (A.deeper (envOfC "_law_owns" (defScope sLOwns) s.heap.objs.size f cdv)).units + 64 < cLine := hr.units
    have hr1 := hr.mono (show 1 ≤ 2 by decide)
    refine ⟨_, pss_cons (ps_par3 (i := 4) (j := 5) (l := 6) rfl scOwns.nd rfl rfl rfl (by decide) (by decide) (by decide) rfl rfl rfl
        (pa_cons (pe_lst pa_nil) (pa_cons (pv 3) (pa_cons (pe_ix ix_list (pe_lst (pa_cons pe_int (pa_cons pe_int (pa_cons pe_int (pa_cons pe_int pa_nil))))) (pe_call GP hr1 rfl Pk.g Pk.F.kp Pk.b .nil pass0 (pa_cons (pv 0) (pa_cons pe_int pa_nil))) (fun _ _ => rfl)) pa_nil))) (by with_unfolding_all rfl))
      (pss_cons (ps_for PassesOwn.never rfl (pi_enum (by rfl) en (pa_cons (pe_callB (cr_sortW (by exact hu)) (by rfl) B.sorted (by decide +kernel) (pa_cons (pv 2) pa_nil)) pa_nil)) (pg_tup rfl (pgs_cons (pg_name (i := 7) scOwns.nd rfl (.inl rfl)) (pgs_cons (pg_name (i := 8) scOwns.nd rfl (.inl rfl)) pgs_nil)))
        (pss_cons (ps_set (i := 9) scOwns.nd rfl (.inl rfl) (pe_call GL hr rfl Lo.g Lo.F.kp Lo.b .nil pass0 (pa_cons (pv 0) (pa_cons (pv 1) (pa_cons (pv 6) pa_nil)))))
        (pss_cons (ps_while PassesOwn.never (pt_cmpR op_gt (pe_op op_shl pe_int (pe_callB call_len_seq (by rfl) B.len (by decide +kernel) (pa_cons (pv 9) pa_nil)))
              (pe_op op_sub (pv 5) (pe_op op_sub (pe_op op_sub (pe_callB call_len_seq (by rfl) B.len (by decide +kernel) (pa_cons (pv 2) pa_nil)) pe_int) (pv 7))) (nomark _))
            (pss_one (ps_expr (pe_bm PySem.F.plainAttrs_list PySem.F.slot_list_pop PySem.F.type_list_pop mt_popAt (pv 9) (pa_cons (pe_call GP hr1 rfl Pk.g Pk.F.kp Pk.b .nil pass0 (pa_cons (pv 0) (pa_cons (pe_callB call_len_seq (by rfl) B.len (by decide +kernel) (pa_cons (pv 9) pa_nil)) pa_nil))) pa_nil)))))
        (pss_cons (ps_set (i := 5) scOwns.nd rfl (.inl rfl) (pe_op op_sub (pv 5) (pe_op op_shl pe_int (pe_callB call_len_seq (by rfl) B.len (by decide +kernel) (pa_cons (pv 9) pa_nil)))))
        (pss_one (ps_expr (pe_bm PySem.F.plainAttrs_list PySem.F.slot_list_append PySem.F.type_list_append mt_append (pv 4) (pa_cons (pe_tup (pa_cons (pv 8) (pa_cons (pe_tupleOf rfl B.tuple (pv 9)) pa_nil))) pa_nil))))))))
      (pss_one (ps_ret (pe_tupleOf rfl B.tuple (pv 4))))), ?_⟩
    have npl := hs.nes hln
    have W0 := ((Wk.start hs).addR (keyable_nms picks) D1).know hln npl (fun x z => absurd z (by simp))
    refine ⟨(by show 0 ≤ sizeLine; decide), fun aF hF => ⟨_, rfl, (by show 4 ≤ sizeLine; decide), fun l4 hl4 => ?_⟩⟩
    have hF0 := W0.free hF
    have W1 := W0.new (o := .lst ([] : List V)) hF
    have W2 := W1.new (o := .lst ([2, 2, 3, 9].map V.int)) hl4
    refine ⟨_, rfl, p, _, 4, rfl, W2.s, by omega, by decide, by decide, fun r o r0 r1 hp1 => ?_⟩
    have W3 := W2.src hp1
    obtain ⟨vv, hv, hm4, _⟩ := at_ok (xs := ([2, 2, 3, 9] : List Int).map V.int) r0 (by simpa using r1)
    obtain ⟨sh, hsh, rfl⟩ := List.mem_map.mp hm4
    have sh0 : 0 < sh ∧ sh < 2 ^ 100 := by
      simp only [List.mem_cons, List.not_mem_nil, or_false] at hsh
      rcases hsh with h | h | h | h <;> subst h <;> decide
    refine ⟨l4, _, r, _, rfl, rfl, SqL.of (W3.at 0 rfl), hv, _, _, _, rfl, ?_⟩
    have W4 := W3.sub (F' := [(aF, .lst ([] : List V)), (ln, .lst (ns.map V.str))]) (by simp)
    refine gen_heap (F := fun G => Wk H p (c + 1) [(aF, .lst ([] : List V)), (ln, .lst (ns.map V.str))] [(v, nmsD picks)] G) W4 (fun H4 W4 => ?_)
    refine ⟨_, rfl, ln, _, rfl, SqL.of (W4.at 1 rfl), fun zs b1 pm up hb1 => ⟨b1, _, rfl, SqL.of upd_same, ?_⟩⟩
    have W5 := W4.new (o := .lst (zs.map V.str)) hb1
    have zl : zs.length = ns.length := pm.length_eq
    have b1F : aF ≠ b1 := fun z => by
      have := W5.nd
      simp [z] at this
    refine for_enum (K := K) (a := b1) (xs := zs.map V.str) (fun i σ H' => ∃ (os : List Own) (T : List TRow) (room : Nat) (o7 o8 o9 : Option V), σ = [some (.ref p), some v, some (.ref ln), some (.int m), some (.ref aF), some (.int (room : Int)), some (.int sh), o7, o8, o9] ∧
      T.map Prod.snd = os.map ownD ∧ copies os + room = m ∧ os.map Prod.fst = zs.take i ∧ (∀ o ∈ os, o.2.Sublist picks) ∧ ns.length ≤ room + i ∧
      Wk H p (c + 1 + 30 * i) [(b1, .lst (zs.map V.str)), (aF, .lst (T.map TRow.v)), (ln, .lst (ns.map V.str))] ((v, nmsD picks) :: rowR T) H') ?_ (fun i σ H' _ ⟨_, _, _, _, _, _, _, _, _, _, _, _, W⟩ => SqL.of (W.at 0 rfl)) ?_ ?_
    · exact ⟨[], [], m, _, _, _, rfl, rfl, by show 0 + m = m; omega, rfl, fun o ho => absurd ho (by simp), by omega, W5⟩
    · rintro i x σ H' T0 hx hT0 ⟨os, T, room, o7, o8, o9, rfl, eT, hroom, hfst, hsg, hrm, F0⟩
      rw [List.getElem?_map] at hx
      obtain ⟨u, hu2, rfl⟩ := Option.map_eq_some_iff.mp hx
      have il : i < zs.length := (List.getElem?_eq_some_iff.mp hu2).1
      have F1 := F0.new' (o := .tup [.int (i : Nat), .str u]) hT0
      refine ⟨T0, _, rfl, SqT.of upd_same, rfl, _, _, rfl, _, _, rfl, rfl, ?_⟩
      generalize upd H' T0 (.tup [.int (i : Nat), .str u]) = H1 at F1 ⊢
      refine ⟨_, rfl, _, rfl, _, rfl, p, _, v, picks, sh, rfl, F1.s, by omega, F1.row 0 rfl, by omega, sh0.1, sh0.2, fun D sg H2 sub hD eD d2' => ?_⟩
      have F2 := (F1.trans d2').know eD (F1.d.ne hD) (F1.no hD)
      have hD0 := F1.free hD
      refine ⟨fun m' σ6 H6 => ∃ sg6 : List Str, σ6 = [some (.ref p), some v, some (.ref ln), some (.int m), some (.ref aF), some (.int (room : Int)), some (.int sh), some (.int (i : Nat)), some (.str u), some (.ref D)] ∧ m' = sg6.length ∧ sg6.Sublist picks ∧
        Wk H p (c + 1 + 30 * i + 14 + (14 - sg6.length)) [(D, .lst (sg6.map V.str)), (b1, .lst (zs.map V.str)), (aF, .lst (T.map TRow.v)), (ln, .lst (ns.map V.str))] ((v, nmsD picks) :: rowR T) H6, ⟨_, sg, rfl, rfl, sub, F2.up (by have := sub.length_le; omega)⟩, ?_⟩
      rintro m' σ6 H6 ⟨sg6, rfl, rfl, sub6, F6⟩
      have l6 : sg6.length ≤ 14 := by have := sub6.length_le; omega
      refine ⟨_, rfl, _, _, rfl, .inl (SqL.of (F6.at 0 rfl)), _, _, rfl, rfl, ⟨by omega, by rw [List.length_map]; omega, by decide⟩, _, rfl, _, rfl, _, _, rfl, .inl (SqL.of (F6.at 3 rfl)), _, _, rfl, rfl, _, rfl, _, _, rfl, rfl, _, _, rfl, rfl, _, _, rfl, rfl, _, rfl, ?_⟩
      have key : ((1 : Int) * 2 ^ ((sg6.map V.str).length : Int).toNat) = ((2 ^ sg6.length : Nat) : Int) := by
        rw [List.length_map, Int.toNat_natCast, Int.one_mul]
        push_cast
        rfl
      refine ite2 (fun hgt => ?_) (fun hle => ?_)
      · have hgt2 := of_decide_eq_true hgt
        rw [key, List.length_map] at hgt2
        have lp : 0 < sg6.length := by
          rcases Nat.eq_zero_or_pos sg6.length with e | e
          · rw [e] at hgt2
            simp only [Nat.pow_zero] at hgt2
            omega
          · exact e
        refine ⟨fun σ8 H8 => ∃ sg8 : List Str, σ8 = [some (.ref p), some v, some (.ref ln), some (.int m), some (.ref aF), some (.int (room : Int)), some (.int sh), some (.int (i : Nat)), some (.str u), some (.ref D)] ∧ sg8.length + 1 = sg6.length ∧ sg8.Sublist picks ∧
          Wk H p (c + 1 + 30 * i + 14 + (14 - sg8.length)) [(D, .lst (sg8.map V.str)), (b1, .lst (zs.map V.str)), (aF, .lst (T.map TRow.v)), (ln, .lst (ns.map V.str))] ((v, nmsD picks) :: rowR T) H8, fun σ8 H8 ⟨sg8, y1, y2, y3, y4⟩ => ⟨sg8.length, by omega, sg8, y1, rfl, y3, y4⟩, ?_⟩
        refine ⟨_, rfl, .inl ⟨rfl, _, SqL.of (F6.at 0 rfl)⟩, _, rfl, _, rfl, _, _, rfl, .inl (SqL.of (F6.at 0 rfl)), p, _, _, rfl, F6.s, by omega, by rw [List.length_map]; omega, by rw [List.length_map]; omega, fun k9 o9 k90 k91 hp9 => ?_⟩
        rw [List.length_map] at k91
        have kl : k9.toNat < sg6.length := by omega
        have F9 := F6.src hp9
        have lenE : (sg6.eraseIdx k9.toNat).length + 1 = sg6.length := by
          rw [List.length_eraseIdx, if_pos kl]
          omega
        refine ⟨D, _, k9, k9.toNat, .str sg6[k9.toNat], rfl, rfl, F9.at 0 rfl, by omega, by omega, by rw [List.length_map]; exact seq_nat k90 k91, by rw [List.getElem?_map, List.getElem?_eq_getElem kl]; rfl, ?_⟩
        rw [map_erase]
        exact ⟨sg6.eraseIdx k9.toNat, rfl, lenE, (List.eraseIdx_sublist _ _).trans sub6, (F9.put (o' := .lst ((sg6.eraseIdx k9.toNat).map V.str)) 0 rfl hD0 lst_nt).up (by omega)⟩
      · have hle2 : ¬ _ := fun y => hle (decide_eq_true y)
        rw [key, List.length_map] at hle2
        have fit : 2 ^ sg6.length ≤ room := by omega
        have rest : ns.length ≤ room - 2 ^ sg6.length + (i + 1) := by omega
        refine ⟨_, rfl, _, rfl, _, _, rfl, .inl (SqL.of (F6.at 0 rfl)), _, _, rfl, rfl, ⟨by omega, by rw [List.length_map]; omega, by decide⟩, _, _, rfl, rfl, ?_⟩
        have er : (room : Int) - 1 * 2 ^ ((sg6.map V.str).length : Int).toNat = ((room - 2 ^ sg6.length : Nat) : Int) := by
          rw [key]
          omega
        refine ⟨_, rfl, .inl ⟨rfl, _, SqL.of (F6.at 2 rfl)⟩, _, rfl, _, rfl, .inl ⟨D, _, rfl, SqL.of (F6.at 0 rfl), fun t1 ht1 => ⟨(by show 2 ≤ sizeLine; decide), fun t2 ht2 => ?_⟩⟩⟩
        have F7 := F6.new (o := .tup (sg6.map V.str)) ht1
        have F8 := F7.new (o := .tup [.str u, .ref t1]) ht2
        generalize upd (upd H6 t1 (.tup (sg6.map V.str))) t2 (.tup [.str u, .ref t1]) = H8 at F8 ⊢
        have Dow : Dat H8 (.ref t2) (ownD (u, sg6)) := .tup (F8.at 0 rfl) (.cons (.str u) (.cons (.tup (F8.at 1 rfl) (dats_strs sg6)) .nil))
        have lenT : T.length = i := by
          rw [← List.length_map (f := Prod.snd), eT, List.length_map, ← List.length_map (f := Prod.fst), hfst, List.length_take]
          omega
        refine ⟨aF, _, _, rfl, rfl, F8.at 4 rfl, by rw [List.length_map, lenT]; exact small1000 (by omega), ?_⟩
        refine ⟨os ++ [(u, sg6)], T ++ [(t2, ownD (u, sg6))], room - 2 ^ sg6.length, _, _, _, by rw [← er]; rfl, by rw [List.map_append, List.map_append, eT]; rfl, by rw [copies_snoc]; show copies os + 2 ^ sg6.length + _ = m; omega,
          by rw [List.map_append, hfst, take_next hu2]; rfl, fun o ho => ?_, rest, ?_⟩
        · rcases List.mem_append.mp ho with y | y
          · exact hsg o y
          · cases List.mem_singleton.mp y
            exact sub6
        · have F9 := (F8.addR (keyable_own _) Dow).sub (F' := [(b1, .lst (zs.map V.str)), (aF, .lst (T.map TRow.v)), (ln, .lst (ns.map V.str))]) (.cons _ (.cons _ (.cons _ (.refl _))))
          have F10 := F9.put (o' := .lst (T.map TRow.v ++ [.ref t2])) 1 rfl hF0 lst_nt
          rw [List.map_append]
          refine (F10.rows fun x hx => ?_).up (by omega)
          refine .inl ?_
          rcases List.mem_cons.mp hx with rfl | hx
          · exact List.mem_cons_of_mem _ List.mem_cons_self
          · obtain ⟨q', hq', rfl⟩ := rowR_mem hx
            rcases List.mem_append.mp hq' with y | y
            · exact List.mem_cons_of_mem _ (List.mem_cons_of_mem _ (List.mem_map.mpr ⟨q', y, rfl⟩))
            · cases List.mem_singleton.mp y
              exact List.mem_cons_self
    · rintro σ H' ⟨os, T, room, o7, o8, o9, rfl, eT, hroom, hfst, hsg, hrm, F0⟩
      rw [List.length_map] at hfst F0
      rw [List.take_length] at hfst
      refine ⟨_, rfl, .inl ⟨aF, _, rfl, SqL.of (F0.at 1 rfl), fun t2 ht2 => ?_⟩⟩
      have F2 := F0.new (o := .tup (T.map TRow.v)) ht2
      have mz : ∀ x ∈ os.map Prod.fst, x ∈ ns := fun x hx => pm.mem_iff.mp (hfst ▸ hx)
      have lo : os.length = ns.length := by rw [← List.length_map (f := Prod.fst), hfst, zl]
      refine q (.ref t2) os _ ?_ ⟨pu, pn, pl, ?_, fun o ho => ?_, by omega, by omega⟩ lo mz (F2.d.up (by omega))
      · rw [← eT]
        exact .tup (F2.at 0 rfl) (dats_rows fun q' hq' => (F2.r (q'.v, q'.2) (List.mem_cons_of_mem _ (List.mem_map.mpr ⟨q', hq', rfl⟩))).2)
      · have upZ := up nd
        rw [← hfst] at upZ
        exact List.pairwise_map.mp upZ
      · have h1 := nm o.1 (mz o.1 (List.mem_map_of_mem ho))
        exact ⟨h1.1, h1.2, pu.sublist (hsg o ho), fun x hx => (hsg o ho).subset hx⟩
end
end S1

set_option Elab.async false
set_option linter.all false
set_option maxRecDepth 100000
set_option maxHeartbeats 4000000
/-! clauses, drawn -/
namespace S1
open PySem PySem.W PySem.Spec PyProof.Rows L2
theorem gPair_mono {K : PySem.W.Frag} {i j : Nat} : ∀ (x : V) (σ1 : L2.St) (H1 : Hp) (A B : L2.St → Hp → Prop), (∀ σ2 H2, A σ2 H2 → B σ2 H2) → gTup K 2 (gCons (gName i) (gCons (gName j) gNil)) x σ1 H1 A → gTup K 2 (gCons (gName i) (gCons (gName j) gNil)) x σ1 H1 B := by
  rintro x σ1 H1 A B h ⟨a, xs, e1, e2, e3, v, r, e4, v2, r2, e5, e6, z⟩
  exact ⟨a, xs, e1, e2, e3, v, r, e4, v2, r2, e5, e6, h _ _ z⟩
/-- the names of owns, one by one -/
theorem own_names {H : Hp} {us : List V} {owns : List Own} (D : DatAll H us (owns.map ownD)) {i : Nat} {x : V} (hx : us[i]? = some x) : ∃ (o : Own) (t t' : Addr), owns[i]? = some o ∧ x = .ref t ∧ H t = some (.tup [.str o.1, .ref t']) := by
  obtain ⟨d, hd, Dx⟩ := dats_get' D i x hx
  obtain ⟨o, ho, rfl⟩ := get_map hd
  obtain ⟨t, rfl⟩ := tuple_ref (ds := [.str o.1, nmsD o.2]) Dx
  obtain ⟨t', g1, g2⟩ := own_row (q := (t, ownD o)) rfl Dx
  exact ⟨o, t, t', ho, rfl, g1⟩
/-- [name for name, sight in owns] -/
theorem lc_names {K : PySem.W.Frag} {σ : L2.St} {H : Hp} {D b : Addr} {us : List V} {owns : List Own} {Qd : Hp → Prop} {i j : Nat} {ws : List Nat} (eb : H b = some (.tup us)) (Db : DatAll H us (owns.map ownD)) (hD : H D = none) (len : owns.length ≤ 1000)
    (hw : ∀ (x y : V), wipe (((wipe σ ws).set i (some x)).set j (some y)) ws = wipe σ ws) (hi : ∀ (x y : V), (((wipe σ ws).set i (some x)).set j (some y))[i]? = some (some x))
    (hd : ∀ H5, H5 D = some (.lst ((owns.map Prod.fst).map V.str)) → Same H H5 → Qd H5) :
    ∃ W : Nat → Nat → Hp → Prop, (∃ m, W 0 m (upd H D (.lst []))) ∧ ∀ n m H, W n m H →
      ((Itt K b).stop n H ∧ Qd H) ∨ ((Itt K b).go n H ∧ ∃ Nx : Hp → Prop, (∀ H', Nx H' → ∃ m', m' < m ∧ W (n + 1) m' H') ∧ ∀ x H', (Itt K b).yld n H x H' → gTup K 2 (gCons (gName i) (gCons (gName j) gNil)) x (wipe σ ws) H' fun σ2 H2 => wipe σ2 ws = wipe σ ws ∧ tYes σ2 H2 fun b H3 =>
        if b = true then tVar i σ2 H3 fun y H4 => ∃ acc, H4 D = some (.lst acc) ∧ acc.length < sizeLine ∧ Nx (upd H4 D (.lst (acc ++ [y]))) else Nx H3) := by
  have lu : us.length = owns.length := by rw [Db.len, List.length_map]
  refine lc_mapT (K := K) (ys := (owns.map Prod.fst).map V.str) (SqT.of eb) hD (by rw [List.length_map, List.length_map, lu]) (by omega) (fun n x y H4 Qe hx hy S4 k => ?_) gPair_mono hd
  obtain ⟨o, t, t', ho, rfl, g1⟩ := own_names Db hx
  have ey : y = V.str o.1 := by
    rw [List.getElem?_map, List.getElem?_map, ho] at hy
    exact (Option.some.inj hy).symm
  rw [ey] at k
  exact ⟨t, _, rfl, SqT.of (S4 _ _ g1), rfl, _, _, rfl, _, _, rfl, rfl, hw _ _, _, hi _ _, k H4 (Same.refl _)⟩
theorem nms_at {G : Hp} {v : V} {xs : List Str} (D : Dat G v (nmsD xs)) : ∃ a, v = .ref a ∧ G a = some (.tup (xs.map V.str)) := by
  obtain ⟨a, ps, e, e1, Dp⟩ := dat_tup (ds := xs.map PyData.str) D
  cases dats_strs_eq Dp
  exact ⟨a, e, e1⟩
theorem tup_at {G : Hp} {a : Addr} {ds : List PyData} (D : Dat G (.ref a) (.tuple ds)) : ∃ us, G a = some (.tup us) ∧ DatAll G us ds := by
  obtain ⟨b, us, e, e1, h⟩ := dat_tup D
  cases e
  exact ⟨us, e1, h⟩
theorem nms_get {G : Hp} {a : Addr} {xs : List Str} (D : Dat G (.ref a) (nmsD xs)) : G a = some (.tup (xs.map V.str)) := by
  obtain ⟨b, e, h⟩ := nms_at D
  cases e
  exact h
theorem keyable_owns (os : List Own) : keyable (.tuple (os.map ownD)) = true := by
  show keyables (os.map ownD) = true
  exact keyables_map ownD keyable_own os
theorem FrOk.nd {a b m : Nat} {picks : List Str} {owns : List Own} (h : FrOk a b m picks owns) : (picks ++ owns.map Prod.fst).Nodup := by
  have nt : ∀ {xs : List Str}, xs.Pairwise tlt → xs.Nodup := fun h => List.Pairwise.imp (fun {a b} z => fun e : a = b => by
    rw [e] at z
    exact absurd z (by unfold tlt; exact List.lt_irrefl _)) h
  refine List.nodup_append.mpr ⟨nt h.pu, nt (List.pairwise_map.mpr h.ou), fun x hx y hy e => ?_⟩
  obtain ⟨o, ho, rfl⟩ := List.mem_map.mp hy
  exact (h.on o ho).2.1 (e ▸ hx)
theorem FrOk.len {a b m : Nat} {picks : List Str} {owns : List Own} (h : FrOk a b m picks owns) : (picks ++ owns.map Prod.fst).length ≤ a + b := by
  have := h.pl
  have := h.ol
  rw [List.length_append, List.length_map]
  omega
/-! ### dicts of letters -/
def ltK (cl : List Ltr) : List (Key × V) := cl.map fun l => (Sum.inr l.1, V.bl l.2)
theorem ltK_val (x : Str) : ∀ cl : List Ltr, valV (ltK cl) (.inr x) = (cl.find? fun l => decide (l.1 = x)).map fun l => V.bl l.2
  | [] => rfl
  | l :: cl => by
    show valV ((Sum.inr l.1, V.bl l.2) :: ltK cl) (.inr x) = _
    rw [List.find?_cons]
    by_cases h : l.1 = x
    · rw [valV_pos (by rw [h]), decide_eq_true h]
      rfl
    · rw [valV_neg (by intro z; injection z with z; exact h z), ltK_val x cl, decide_eq_false h]
structure LD (cl : List Ltr) (ws : List Str) : Prop where
  nd : (cl.map Prod.fst).Nodup
  mem : ∀ l ∈ cl, l.1 ∈ ws
theorem LD.put {cl : List Ltr} {ws : List Str} {x : Str} (b : Bool) (h : LD cl ws) (hx : x ∈ ws) : ∃ cl', putK (ltK cl) (.inr x) (.bl b) = ltK cl' ∧ LD cl' ws := by
  cases e : cl.find? fun l => decide (l.1 = x) with
  | none =>
    have nx : x ∉ cl.map Prod.fst := fun z => by
      obtain ⟨l, hl, el⟩ := List.mem_map.mp z
      have := List.find?_eq_none.mp e l hl
      exact this (decide_eq_true el)
    refine ⟨cl ++ [(x, b)], ?_, ?_, fun l hl => ?_⟩
    · rw [putK_new _ (by rw [ltK_val, e]; rfl)]
      unfold ltK
      rw [List.map_append]
      rfl
    · rw [List.map_append]
      exact List.nodup_append.mpr ⟨h.nd, by simp, fun a ha c hc z => by
        have : c = x := by simpa using hc
        exact nx (this ▸ z ▸ ha)⟩
    · rcases List.mem_append.mp hl with z | z
      · exact h.mem l z
      · cases List.mem_singleton.mp z
        exact hx
  | some l0 =>
    refine ⟨cl.map fun l => if l.1 = x then (l.1, b) else l, ?_, ?_, fun l hl => ?_⟩
    · unfold putK
      have z : ((ltK cl).any fun kv => decide (kv.1 = Sum.inr x)) = true := by
        rw [valV_any, ltK_val, e]
        rfl
      rw [if_pos z]
      unfold ltK
      rw [List.map_map, List.map_map]
      refine List.map_congr_left fun l _ => ?_
      simp only [Function.comp]
      by_cases h : l.1 = x
      · rw [if_pos (by rw [h]), if_pos h]
      · rw [if_neg (by intro z; injection z with z; exact h z), if_neg h]
    · rw [List.map_map]
      have : (Prod.fst ∘ fun l : Ltr => if l.1 = x then (l.1, b) else l) = Prod.fst := by
        funext l
        simp only [Function.comp]
        split <;> rfl
      rw [this]
      exact h.nd
    · obtain ⟨l', hl', rfl⟩ := List.mem_map.mp hl
      split
      · exact h.mem l' hl'
      · exact h.mem l' hl'
theorem LD.len {cl : List Ltr} {ws : List Str} (h : LD cl ws) : cl.length ≤ ws.length := by
  have := nodup_le (m := ws) h.nd fun x hx => by
    obtain ⟨l, hl, rfl⟩ := List.mem_map.mp hx
    exact h.mem l hl
  rwa [List.length_map] at this
theorem LD.get {cl : List Ltr} {ws : List Str} (h : LD cl ws) {i : Nat} {l : Ltr} (hl : cl[i]? = some l) : valV (ltK cl) (.inr l.1) = some (.bl l.2) := by
  rw [ltK_val]
  have m := List.mem_of_getElem? hl
  have : (cl.find? fun l' => decide (l'.1 = l.1)) = some l := by
    clear hl
    induction cl with
    | nil => exact absurd m (by simp)
    | cons a cl ih =>
      rw [List.find?_cons]
      have nd := h.nd
      rw [List.map_cons, List.nodup_cons] at nd
      rcases List.mem_cons.mp m with rfl | m2
      · rw [decide_eq_true rfl]
      · have ne : a.1 ≠ l.1 := fun z => nd.1 (z ▸ List.mem_map_of_mem m2)
        rw [decide_eq_false ne]
        exact ih ⟨nd.2, fun l hl => h.mem l (List.mem_cons_of_mem _ hl)⟩ m2
  rw [this]
  rfl
theorem plain_nms (xs : List Str) : PyData.plainAll (xs.map PyData.str) = true := by
  induction xs with
  | nil => rfl
  | cons x xs ih => rw [List.map_cons, PyData.plainAll, ih]; rfl
def spDrCl : Sp := fun vs H Q _ => ∃ (p a1 a2 : Addr) (c a b m most : Nat) (picks : List Str) (owns : List Own), vs = [.ref p, .ref a1, .ref a2, .int most] ∧ Src H p c ∧ c ≤ 60000 ∧ Dat H (.ref a1) (nmsD picks) ∧ Dat H (.ref a2) (.tuple (owns.map ownD)) ∧ FrOk a b m picks owns ∧ a ≤ 14 ∧ b ≤ 14 ∧ 0 < most ∧ most ≤ 40 ∧
  ∀ (v : V) (cl : List Ltr) (H' : Hp), Dat H' v (clD cl) → ClOk (picks ++ owns.map Prod.fst) cl → Dr H p (c + 100) H' → Q v H'
abbrev nCl : List Str := ["pot", "picks", "owns", "most", "found", "names", "few", "turn", "name", "sight"]
abbrev tDrw (i : Int) : TE := tCall spPick [] E0 (tCons (tVar 0) (tCons (tC (V.int i)) tNil))
/-- sorted letters, as a clause -/
theorem clause_of {G : Hp} {T T' : List TRow} {t : Addr} {cl : List Ltr} {ws : List Str} (eT : T.map Prod.snd = cl.map ltD) (ndc : (cl.map Prod.fst).Nodup) (mem : ∀ l ∈ cl, l.1 ∈ ws) (pm : T'.Perm T) (up : (T.map Prod.snd).Nodup → T'.Pairwise fun p q => dataLt p.2 q.2 = true)
    (hT : ∀ q ∈ T, Dat G q.v q.2) (et : G t = some (.tup (T'.map TRow.v))) : ∃ cl', Dat G (.ref t) (clD cl') ∧ ClOk ws cl' := by
  obtain ⟨cl', p2, e9, up2⟩ := letters_back pm eT ndc up
  refine ⟨cl', .tup et ?_, up2, fun l hl => mem l (p2.mem_iff.mp hl)⟩
  rw [← e9]
  exact dats_rows fun r hr => hT r (pm.mem_iff.mp hr)
theorem keys_lt {T : List TRow} {cl : List Ltr} (e : T.map Prod.snd = cl.map ltD) : ∀ q ∈ T, keyable q.2 = true := fun q hq => by
  have m : q.2 ∈ cl.map ltD := e ▸ List.mem_map_of_mem hq
  obtain ⟨x, _, hx⟩ := List.mem_map.mp m
  rw [← hx]
  rfl
theorem Wk.rr {H G : Hp} {p : Addr} {c : Nat} {F : List (Addr × HO)} {R0 : List (V × PyData)} {T : List TRow} (W : Wk H p c F (R0 ++ rowR T) G) : ∀ q ∈ T, Dat G q.v q.2 := fun q hq => (W.r (q.v, q.2) (List.mem_append_right _ (List.mem_map.mpr ⟨q, hq, rfl⟩))).2
theorem Wk.snoc {H G : Hp} {p : Addr} {c : Nat} {F : List (Addr × HO)} {R0 : List (V × PyData)} {T : List TRow} {q : TRow} (W : Wk H p c F (R0 ++ rowR T) G) (k : keyable q.2 = true) (D : Dat G q.v q.2) : Wk H p c F (R0 ++ rowR (T ++ [q])) G := W.rows fun x hx => by
  rcases List.mem_append.mp hx with h | h
  · exact .inl (List.mem_append_left _ h)
  · obtain ⟨q', hq', rfl⟩ := rowR_mem h
    rcases List.mem_append.mp hq' with y | y
    · exact .inl (List.mem_append_right _ (List.mem_map.mpr ⟨q', y, rfl⟩))
    · cases List.mem_singleton.mp y
      exact .inr ⟨k, D⟩
end S1

set_option Elab.async false
set_option linter.all false
set_option maxRecDepth 100000
set_option maxHeartbeats 4000000
/-! clauses, drawn -/
namespace S1
open PySem PySem.W PySem.Spec PyProof.Rows L2
theorem max_nat {x y N : Int} (h : 0 ≤ x) (h2 : 0 ≤ y) (hx : x ≤ N) (hy : y ≤ N) : ∃ n : Nat, (if y > x then y else x) = (n : Int) ∧ (n : Int) ≤ N := by
  split
  · exact ⟨y.toNat, by omega, by omega⟩
  · exact ⟨x.toNat, by omega, by omega⟩
section
variable {P : Program} {w : World} {K : PySem.W.Frag} {mg : Str → Option Value} {base : Heap}
theorem scCl : FnScope nCl ["pot", "picks", "owns", "most"] (defScope sLClause) := ⟨rfl, rfl, rfl, by decide +kernel, rfl, by decide +kernel, by decide +kernel⟩
theorem ok_drCl {f fP : Addr} {fd fdP : FuncData} (F : Fun K "_law_clause" "_law_clause" sLClause f fd) (Pk : Has K mg "_law_draw" sDraw ["pot", "top"] fP fdP) (B : Blt mg) : FnOk P w K mg base CX0 2 f fd ["pot", "picks", "owns", "most"] spDrCl := by
  have GP : FnOk P w K mg base CX0 1 fP fdP ["pot", "top"] spPick := ok_pick Pk.F B
  refine F.ok scCl (fun vs H Q E h => ?_) (fun cdv A outer s H vs Q E hr h => ?_)
  · obtain ⟨p, a1, a2, c, a, b, m, most, picks, owns, rfl, _⟩ := h
    rfl
  · obtain ⟨p, a1, a2, c, a, b, m, most, picks, owns, rfl, hs, hc, D1, D2, ok, ha, hb, hm0, hm1, q⟩ := h
    have hu : (A.deeper (envOfC "_law_clause" (defScope sLClause) s.heap.objs.size f cdv)).units + 64 < cLine := hr.units
    have hu1 : (A.deeper (envOfC "_law_clause" (defScope sLClause) s.heap.objs.size f cdv)).units + 1 < cLine := by omega
    refine ⟨_, pss_cons (ps_asg (pe_tup (pa_cons pe_dnewK (pa_cons (pe_lc (own := [("name", 8), ("sight", 9)]) (g := gTup K 2 (gCons (gName 8) (gCons (gName 9) gNil))) (tt := tYes) (te := tVar 8) rfl scCl.nd (pi_tup (pv 2)) (blkOk_by (N := nCl) (sc := defScope sLClause) (by decide +kernel))
          (fun _ _ _ _ _ => by exact pg_tup rfl (pgs_cons (pg_name (i := 8) scCl.nd rfl (.inl rfl)) (pgs_cons (pg_name (i := 9) scCl.nd rfl (.inl rfl)) pgs_nil))) (fun _ _ _ _ _ => pts_nil) (fun _ _ _ _ _ => pv 8)) pa_nil)))
        (pg_tup rfl (pgs_cons (pg_name (i := 4) scCl.nd rfl (.inr rfl)) (pgs_cons (pg_name (i := 5) scCl.nd rfl (.inl rfl)) pgs_nil))))
      (pss_cons (ps_if (pt_cmpR op_eq (pe_call GP hr rfl Pk.g Pk.F.kp Pk.b .nil pass0 (pa_cons (pv 0) (pa_cons pe_int pa_nil))) pe_int (nomark _))
        (pss_cons (ps_setLc (i := 5) (own := [("name", 8)]) (g := gName 8) (tt := tTest (tOp (rI0 fun i j => V.bl (decide (i > j))) (tDrw 5) (tC (V.int 0)))) (te := tVar 8) rfl scCl.nd rfl rfl (sw_true rfl rfl rfl (by decide +kernel))
            (pi_list (pe_op op_cat (pv 5) (pe_callTy call_list_of (by rfl) B.list (by decide +kernel) (pa_cons (pv 1) pa_nil)))) (blkOk_by (N := nCl) (sc := defScope sLClause) (by decide +kernel)) (fun _ _ _ _ _ => pg_name (i := 8) scCl.nd rfl (Or.inl rfl))
            (fun _ _ _ _ _ => by exact pts_one (pt_cmpR op_gt (pe_call GP (by exact hr) (by rfl) Pk.g Pk.F.kp Pk.b .nil pass0 (pa_cons (pv 0) (pa_cons pe_int pa_nil))) pe_int (nomark _))) (fun _ _ _ _ _ => by exact pv 8))
        (pss_one (ps_ret (pe_tupleOf rfl B.tuple (pe_callB (cr_sortL (by exact hu)) (by rfl) B.sorted (by decide +kernel) (pa_cons (pe_lc (own := [("name", 8)]) (g := gName 8) (tt := tYes) (te := tTup (tCons (tVar 8) (tCons (tOp rEq (tDrw 2) (tC (V.int 0))) tNil))) rfl scCl.nd
            (pi_list (pv 5)) (blkOk_by (N := nCl) (sc := defScope sLClause) (by decide +kernel)) (fun _ _ _ _ _ => pg_name (i := 8) scCl.nd rfl (Or.inl rfl)) (fun _ _ _ _ _ => pts_nil)
            (fun _ _ _ _ _ => by exact pe_tup (pa_cons (pv 8) (pa_cons (pe_cmpR op_eq (pe_call GP (by exact hr) (by rfl) Pk.g Pk.F.kp Pk.b .nil pass0 (pa_cons (pv 0) (pa_cons pe_int pa_nil))) pe_int (nomark _)) pa_nil)))) pa_nil)))))) pss_nil)
      (pss_cons (ps_set (i := 6) scCl.nd rfl (.inl rfl) (pe_ifExp (pt_cmpR op_eq (pe_call GP hr rfl Pk.g Pk.F.kp Pk.b .nil pass0 (pa_cons (pv 0) (pa_cons pe_int pa_nil))) pe_int (nomark _)) pe_int pe_int))
      (pss_cons (ps_for PassesOwn.never rfl (pi_range1 rfl B.range (pa_cons (pe_op op_add (pv 6) (pe_callB (call_max2 rfl) (by rfl) B.max (by decide +kernel) (pa_cons (pe_call GP hr rfl Pk.g Pk.F.kp Pk.b .nil pass0 (pa_cons (pv 0) (pa_cons (pv 3) pa_nil))) (pa_cons (pe_call GP hr rfl Pk.g Pk.F.kp Pk.b .nil pass0 (pa_cons (pv 0) (pa_cons (pv 3) pa_nil))) pa_nil)))) pa_nil)) (pg_name (i := 7) scCl.nd rfl (.inl rfl))
        (pss_one (ps_if (pt_cmpR (op_neP (by exact hu)) (pv 5) (pe_lst pa_nil) (nomark _))
          (pss_one (ps_dput (by exact hu1) (pv 4) (pe_ix ix_list (pv 5) (pe_call GP hr rfl Pk.g Pk.F.kp Pk.b .nil pass0 (pa_cons (pv 0) (pa_cons (pe_callB call_len_seq (by rfl) B.len (by decide +kernel) (pa_cons (pv 5) pa_nil)) pa_nil))) (fun _ _ => rfl))
            (pe_cmpR op_eq (pe_call GP hr rfl Pk.g Pk.F.kp Pk.b .nil pass0 (pa_cons (pv 0) (pa_cons pe_int pa_nil))) pe_int (nomark _)) (by rfl))) pss_nil)))
      (pss_cons (ps_for PassesOwn.never rfl (pi_range1 rfl B.range (pa_cons (pe_ix ix_list (pe_lst (pa_cons pe_int (pa_cons pe_int (pa_cons pe_int (pa_cons pe_int (pa_cons pe_int (pa_cons pe_int pa_nil))))))) (pe_call GP hr rfl Pk.g Pk.F.kp Pk.b .nil pass0 (pa_cons (pv 0) (pa_cons pe_int pa_nil))) (fun _ _ => rfl)) pa_nil)) (pg_name (i := 7) scCl.nd rfl (.inl rfl))
        (pss_one (ps_if (pt_cmpR (op_neP (by exact hu)) (pv 1) (pe_tup pa_nil) (nomark _))
          (pss_one (ps_dput (by exact hu1) (pv 4) (pe_ix ix_tup (pv 1) (pe_call GP hr rfl Pk.g Pk.F.kp Pk.b .nil pass0 (pa_cons (pv 0) (pa_cons (pe_callB call_len_seq (by rfl) B.len (by decide +kernel) (pa_cons (pv 1) pa_nil)) pa_nil))) (fun _ _ => rfl))
            (pe_cmpR op_eq (pe_call GP hr rfl Pk.g Pk.F.kp Pk.b .nil pass0 (pa_cons (pv 0) (pa_cons pe_int pa_nil))) pe_int (nomark _)) (by rfl))) pss_nil)))
      (pss_one (ps_ret (pe_tupleOf rfl B.tuple (pe_callB (cr_sortL (by exact hu)) (by rfl) B.sorted (by decide +kernel) (pa_cons (pe_lock (pe_lc (own := [("name", 8)]) (g := gName 8) (tt := tYes) (te := tTup (tCons (tVar 8) (tCons (tDGet (tVar 4) (tVar 8)) tNil))) rfl scCl.nd
            (pi_keys (pv 4)) (blkOk_by (N := nCl) (sc := defScope sLClause) (by decide +kernel)) (fun _ _ _ _ _ => pg_name (i := 8) scCl.nd rfl (Or.inl rfl)) (fun _ _ _ _ _ => pts_nil)
            (fun _ _ _ _ _ => by exact pe_tup (pa_cons (pv 8) (pa_cons (pe_dget (by exact hu1) (pv 4) (pv 8) (fun _ _ => rfl)) pa_nil))))) pa_nil))))))))), ?_⟩
    have kO := keyable_owns owns
    have W0 := ((Wk.start hs).addR (keyable_nms picks) D1).addR kO D2
    have lO := ok.ol
    have lP := ok.pl
    have ndA := ok.nd
    have lA := ok.len
    refine fun aF hF0 => ?_
    have W1 := W0.new (o := .dK []) hF0
    obtain ⟨us, e2, Do⟩ := tup_at (W1.row 0 rfl)
    refine ⟨_, rfl, a2, rfl, ⟨_, SqT.of e2⟩, fun aL hL => ?_⟩
    refine lc_names (K := K) e2 Do hL (by omega) (fun _ _ => rfl) (fun _ _ => rfl) fun H5 eL S5 => ?_
    have W2 := (W1.same S5).know eL (W1.d.ne hL) (W1.no hL)
    refine ⟨(by show 2 ≤ sizeLine; decide), fun t ht => ?_⟩
    have W3 := W2.new' (o := .tup [.ref aF, .ref aL]) ht
    refine ⟨t, _, rfl, SqT.of upd_same, rfl, _, _, rfl, _, _, rfl, rfl, ?_⟩
    refine gen_heap (F := fun G => Wk H p c [(aL, .lst ((owns.map Prod.fst).map V.str)), (aF, .dK (ltK []))] [(.ref a2, .tuple (owns.map ownD)), (.ref a1, nmsD picks)] G) W3 (fun G W3 => ?_)
    clear W1 W2
    refine ⟨_, rfl, p, _, 7, rfl, W3.s, by omega, by decide, by decide, fun r o r0 r1 hp1 => ⟨rfl, _, rfl, ?_⟩⟩
    have W4 := W3.src hp1
    generalize upd G p o = H4 at W4 ⊢
    clear W3
    refine ite2 (fun _ => ?_) (fun _ => ?_)
    · have e1 := nms_get (W4.row 1 rfl)
      refine ⟨_, rfl, _, rfl, a1, _, rfl, .inr (SqT.of e1), fun l0 hl0 => ?_⟩
      have W5 := W4.new (o := .lst (picks.map V.str)) hl0
      refine ⟨_, _, _, _, rfl, rfl, W5.at 1 rfl, W5.at 0 rfl, ?_, fun l hl => ?_⟩
      · rw [List.length_map, List.length_map, List.length_map]
        exact Nat.le_of_lt (small1000 (by omega))
      rw [← List.map_append]
      have W6 := (W5.new (o := .lst ((owns.map Prod.fst ++ picks).map V.str)) hl).sub (F' := [(l, .lst ((owns.map Prod.fst ++ picks).map V.str))]) (.cons₂ _ (.cons _ (.cons _ (.cons _ .slnil))))
      have pmA : (owns.map Prod.fst ++ picks).Perm (picks ++ owns.map Prod.fst) := List.perm_append_comm
      generalize hns : owns.map Prod.fst ++ picks = ns at W6 pmA ⊢
      have nsl : ns.length ≤ 28 := by have := pmA.length_eq; omega
      refine ⟨l, rfl, ⟨_, SqL.of (W6.at 0 rfl)⟩, fun D hD => ?_⟩
      have hD0 := W6.free hD
      refine lc_list (K := K) (a := l) (xs := ns.map V.str) (fun j H4 => ∃ ys : List Str, Wk H p (c + 1 + j) [(D, .lst (ys.map V.str)), (l, .lst (ns.map V.str))] [(.ref a2, .tuple (owns.map ownD)), (.ref a1, nmsD picks)] H4 ∧ ys.Sublist (ns.take j)) ⟨[], W6.new hD, List.nil_sublist _⟩
        (fun j H4 _ ⟨ys, W, _⟩ => SqL.of (W.at 1 rfl)) ?_ ?_
      · rintro j x H4 hx ⟨ys, W, sub⟩
        rw [List.getElem?_map] at hx
        obtain ⟨y, hy, rfl⟩ := Option.map_eq_some_iff.mp hx
        have jl : j < ns.length := (List.getElem?_eq_some_iff.mp hy).1
        refine ⟨rfl, _, rfl, p, _, 5, rfl, W.s, by omega, by decide, by decide, fun k4 o4 _ _ hp4 => ⟨_, _, rfl, rfl, _, rfl, ?_⟩⟩
        have W5 := W.src hp4
        have tk : ns.take (j + 1) = ns.take j ++ [y] := take_next hy
        refine ite2 (fun _ => ?_) (fun _ => ?_)
        · refine ⟨_, rfl, _, W5.at 0 rfl, ?_, ys ++ [y], ?_, by rw [tk]; exact sub.append (List.Sublist.refl _)⟩
          · rw [List.length_map]
            have := sub.length_le
            rw [List.length_take] at this
            exact small1000 (by omega)
          · have W6 := W5.put (o' := .lst (ys.map V.str ++ [V.str y])) 0 rfl hD0 lst_nt
            rw [List.map_append]
            exact W6.up (by omega)
        · exact ⟨ys, W5.up (by omega), by rw [tk]; exact sub.trans (List.sublist_append_left _ _)⟩
      · rintro H7 ⟨ys, W7, sub⟩
        rw [List.length_map] at W7
        have sub := sub.trans (List.take_sublist _ _)
        have yl : ys.length ≤ 28 := Nat.le_trans sub.length_le nsl
        have ndy : ys.Nodup := (pmA.nodup_iff.mpr ndA).sublist sub
        refine ⟨_, rfl, D, rfl, ⟨_, SqL.of (W7.at 0 rfl)⟩, fun D2 hD2 => ?_⟩
        have hD20 := W7.free hD2
        have W8 := (W7.sub (F' := [(D, .lst (ys.map V.str))]) (.cons₂ _ (.cons _ .slnil))).new (o := .lst ([] : List V)) hD2
        refine lc_list (K := K) (a := D) (xs := ys.map V.str) (fun j H4 => ∃ (T : List TRow) (cl : List Ltr), T.map Prod.snd = cl.map ltD ∧ cl.map Prod.fst = ys.take j ∧ Wk H p (c + 30 + j) [(D2, .lst (T.map TRow.v)), (D, .lst (ys.map V.str))] ([(.ref a2, .tuple (owns.map ownD)), (.ref a1, nmsD picks)] ++ rowR T) H4)
          ⟨[], [], rfl, rfl, W8.up (by omega)⟩ (fun j H4 _ ⟨T, cl, _, _, W⟩ => SqL.of (W.at 1 rfl)) ?_ ?_
        · rintro j x H4 hx ⟨T, cl, eT, ecl, W⟩
          rw [List.getElem?_map] at hx
          obtain ⟨y, hy, rfl⟩ := Option.map_eq_some_iff.mp hx
          have jl : j < ys.length := (List.getElem?_eq_some_iff.mp hy).1
          refine ⟨rfl, yes_of ⟨_, rfl, _, rfl, p, _, 2, rfl, W.s, by omega, by decide, by decide, fun k4 o4 _ _ hp4 => ⟨rfl, (by show 2 ≤ sizeLine; decide), fun t ht => ?_⟩⟩⟩
          have W5 := W.src hp4
          have W6 := W5.new (o := .tup [.str y, .bl (decide (V.int k4 = V.int 0))]) ht
          have lT : T.length = j := by
            rw [← List.length_map (f := Prod.snd), eT, List.length_map, ← List.length_map (f := Prod.fst), ecl, List.length_take]
            omega
          have Dl : Dat (upd (upd H4 p o4) t (.tup [.str y, .bl (decide (V.int k4 = V.int 0))])) (.ref t) (ltD (y, decide (V.int k4 = V.int 0))) := .tup upd_same (.cons (.str _) (.cons (.bl _) .nil))
          have W7 := ((W6.sub (F' := [(D2, .lst (T.map TRow.v)), (D, .lst (ys.map V.str))]) (.cons _ (.refl _))).snoc (q := (t, ltD (y, decide (V.int k4 = V.int 0)))) rfl Dl).put (o' := .lst (T.map TRow.v ++ [.ref t])) 0 rfl hD20 lst_nt
          refine ⟨_, W6.at 1 rfl, by rw [List.length_map, lT]; exact small1000 (by omega), T ++ [(t, ltD (y, decide (V.int k4 = V.int 0)))], cl ++ [(y, decide (V.int k4 = V.int 0))], by rw [List.map_append, List.map_append, eT]; rfl, by rw [List.map_append, ecl, take_next hy]; rfl, ?_⟩
          rw [List.map_append]
          exact W7.up (by omega)
        · rintro H9 ⟨T, cl, eT, ecl, W⟩
          rw [List.length_map] at ecl W
          rw [List.take_length] at ecl
          have ndc : (cl.map Prod.fst).Nodup := by rw [ecl]; exact ndy
          refine ⟨D2, T, rfl, SqL.of (W.at 0 rfl), W.rr, sorty_of eT alike_lt (fun x => ⟨_, rfl⟩) (fun x => by have := depth_lt x; omega), fun T' b9 pm _ up hb9 => .inl ⟨b9, _, rfl, SqL.of upd_same, fun t ht => ?_⟩⟩
          have WA := W.new' (o := .lst (T'.map TRow.v)) hb9
          have WB := WA.new (o := .tup (T'.map TRow.v)) ht
          obtain ⟨cl', Dc, ck⟩ := clause_of (ws := picks ++ owns.map Prod.fst) eT ndc (fun l hl => pmA.mem_iff.mp (sub.subset (ecl ▸ List.mem_map_of_mem hl))) pm up WB.rr (WB.at 0 rfl)
          exact q _ cl' _ Dc ck (WB.d.up (by omega))
    · refine ⟨_, rfl, p, _, 25, rfl, W4.s, by omega, by decide, by decide, fun r o r0 r1 hp1 => ⟨rfl, _, rfl, ?_⟩⟩
      have W5 := W4.src hp1
      generalize upd H4 p o = H5 at W5 ⊢
      clear W4
      refine ite_intP (fun i => 0 ≤ i ∧ i ≤ 1) (fun few hf => ?_) (fun _ R => R 0 ⟨by decide, by decide⟩) (fun _ R => R 1 ⟨by decide, by decide⟩)
      refine ⟨_, rfl, _, rfl, _, rfl, p, _, most, rfl, W5.s, by omega, by omega, by omega, fun r2 o2 r20 r21 hp2 => ?_⟩
      have W6 := W5.src hp2
      refine ⟨_, rfl, _, rfl, p, _, most, rfl, W6.s, by omega, by omega, by omega, fun r3 o3 r30 r31 hp3 => ?_⟩
      have W7 := W6.src hp3
      generalize upd (upd H5 p o2) p o3 = H7 at W7 ⊢
      clear W6 W5
      obtain ⟨n, en, hn⟩ := max_nat (N := 39) r20 r30 (by omega) (by omega)
      refine ⟨_, _, rfl, _, _, rfl, rfl, ?_⟩
      show ∃ n : Int, _
      rw [en]
      refine ⟨_, rfl, by omega, by omega, ?_⟩
      have hk : (few + (n : Int)).toNat ≤ 40 := by omega
      generalize (few + (n : Int)).toNat = k at hk ⊢
      have wsO : ∀ x ∈ owns.map Prod.fst, x ∈ picks ++ owns.map Prod.fst := fun x hx => List.mem_append_right _ hx
      have wsP : ∀ x ∈ picks, x ∈ picks ++ owns.map Prod.fst := fun x hx => List.mem_append_left _ hx
      refine for_range (lo := 0) (n := k) (fun i σ H' => ∃ (cl : List Ltr) (o7 : Option V), σ = [some (.ref p), some (.ref a1), some (.ref a2), some (.int most), some (.ref aF), some (.ref aL), some (.int few), o7, none, none] ∧ LD cl (picks ++ owns.map Prod.fst) ∧
        Wk H p (c + 5 + 2 * i) [(aL, .lst ((owns.map Prod.fst).map V.str)), (aF, .dK (ltK cl))] [(.ref a2, .tuple (owns.map ownD)), (.ref a1, nmsD picks)] H') ?_ ?_ ?_
      · exact ⟨[], _, rfl, ⟨List.nodup_nil, fun l h => absurd h (by simp)⟩, W7.up (by omega)⟩
      · rintro i σ H' hi ⟨cl, o7, rfl, ld, W8⟩
        refine ⟨_, rfl, (by show 0 ≤ sizeLine; decide), fun l8 hl8 => ?_⟩
        have W9 := W8.new' (o := .lst ([] : List V)) hl8
        have el8 : upd H' l8 (.lst []) l8 = some (.lst []) := upd_same
        generalize upd H' l8 (.lst []) = H9 at W9 el8 ⊢
        refine ⟨.list ((owns.map Prod.fst).map PyData.str), .list [], .lst (W9.at 0 rfl) (dats_strs _), .lst el8 .nil, plain_nms _, rfl, ?_, _, rfl, ?_⟩
        · have := depths_map PyData.str 0 (fun _ => Nat.le_refl _) (owns.map Prod.fst)
          simp only [PyData.depth]
          omega
        · refine ite2 (fun hne => ?_) (fun _ => ?_)
          · have ne0 : 0 < (owns.map Prod.fst).length := by
              cases h0 : owns.map Prod.fst with
              | nil => rw [h0] at hne; exact absurd hne (by decide +kernel)
              | cons _ _ => exact Nat.succ_pos _
            have lO' : (owns.map Prod.fst).length ≤ 14 := by rw [List.length_map]; omega
            refine ⟨_, rfl, p, _, 2, rfl, W9.s, by omega, by decide, by decide, fun r4 o4 _ _ hp4 => ⟨rfl, ?_⟩⟩
            have WA := W9.src hp4
            generalize upd H9 p o4 = HA at WA ⊢
            refine ⟨_, rfl, _, rfl, _, rfl, _, rfl, _, _, rfl, .inl (SqL.of (WA.at 0 rfl)), p, _, _, rfl, WA.s, by omega, by rw [List.length_map]; omega, by rw [List.length_map]; omega, fun r5 o5 r50 r51 hp5 => ?_⟩
            rw [List.length_map] at r51
            have WB := WA.src hp5
            obtain ⟨vv, hv, hm, _⟩ := at_ok (xs := (owns.map Prod.fst).map V.str) r50 (by rw [List.length_map]; exact r51)
            obtain ⟨x, hx, rfl⟩ := List.mem_map.mp hm
            obtain ⟨cl', ep, ld'⟩ := ld.put (decide (V.int r4 = V.int 0)) (wsO x hx)
            have lcl : (ltK cl).length < sizeLine := by
              have := ld.len
              unfold ltK
              rw [List.length_map]
              exact small1000 (by omega)
            refine ⟨aL, _, r5, _, rfl, rfl, SqL.of (WB.at 0 rfl), hv, aF, _, rfl, .inl ⟨ltK cl, .inr x, WB.at 1 rfl, rfl, lcl, rfl⟩, ?_⟩
            rw [ep]
            exact ⟨cl', _, rfl, ld', (WB.put (o' := .dK (ltK cl')) 1 rfl hF0 dK_nt).up (by omega)⟩
          · exact ⟨cl, _, rfl, ld, W9.up (by omega)⟩
      · rintro σ H' ⟨cl, o7, rfl, ld, W8⟩
        have W8 := W8.up (show _ ≤ c + 85 by omega)
        refine ⟨(by show 6 ≤ sizeLine; decide), fun l6 hl6 => ?_⟩
        have W9 := W8.new (o := .lst ([0, 1, 1, 2, 2, 3].map V.int)) hl6
        refine ⟨_, rfl, p, _, 6, rfl, W9.s, by omega, by decide, by decide, fun r4 o4 r40 r41 hp4 => ?_⟩
        have WA := W9.src hp4
        obtain ⟨vv, hv, hm6, _⟩ := at_ok (xs := ([0, 1, 1, 2, 2, 3] : List Int).map V.int) r40 (by simpa using r41)
        obtain ⟨k6, hk6, rfl⟩ := List.mem_map.mp hm6
        have b6 : 0 ≤ k6 ∧ k6 ≤ 3 := by
          simp only [List.mem_cons, List.not_mem_nil, or_false] at hk6
          rcases hk6 with h | h | h | h | h | h <;> subst h <;> decide
        refine ⟨l6, _, r4, _, rfl, rfl, SqL.of (WA.at 0 rfl), hv, k6, rfl, by omega, by omega, ?_⟩
        have WB := WA.sub (F' := [(aL, .lst ((owns.map Prod.fst).map V.str)), (aF, .dK (ltK cl))]) (.cons _ (.refl _))
        refine for_range (lo := 0) (n := k6.toNat) (fun i σ H' => ∃ (cl : List Ltr) (o7 : Option V), σ = [some (.ref p), some (.ref a1), some (.ref a2), some (.int most), some (.ref aF), some (.ref aL), some (.int few), o7, none, none] ∧ LD cl (picks ++ owns.map Prod.fst) ∧
          Wk H p (c + 86 + 2 * i) [(aL, .lst ((owns.map Prod.fst).map V.str)), (aF, .dK (ltK cl))] [(.ref a2, .tuple (owns.map ownD)), (.ref a1, nmsD picks)] H') ?_ ?_ ?_
        · exact ⟨cl, _, rfl, ld, WB.up (by omega)⟩
        · rintro i σ H' hi ⟨cl, o7, rfl, ld, W8⟩
          refine ⟨_, rfl, (by show 0 ≤ sizeLine; decide), fun l8 hl8 => ?_⟩
          have W9 := W8.new' (o := .tup ([] : List V)) hl8
          have el8 : upd H' l8 (.tup []) l8 = some (.tup []) := upd_same
          generalize upd H' l8 (.tup []) = H9 at W9 el8 ⊢
          refine ⟨nmsD picks, .tuple [], W9.row 1 rfl, .tup el8 .nil, plain_nms _, rfl, ?_, _, rfl, ?_⟩
          · have := depth_nms picks
            omega
          · refine ite2 (fun hne => ?_) (fun _ => ?_)
            · have ne0 : 0 < picks.length := by
                cases h0 : picks with
                | nil => rw [h0] at hne; exact absurd hne (by decide +kernel)
                | cons _ _ => exact Nat.succ_pos _
              refine ⟨_, rfl, p, _, 2, rfl, W9.s, by omega, by decide, by decide, fun r4 o4 _ _ hp4 => ⟨rfl, ?_⟩⟩
              have WA := W9.src hp4
              generalize upd H9 p o4 = HA at WA ⊢
              refine ⟨_, rfl, _, rfl, _, rfl, _, rfl, _, _, rfl, .inr (SqT.of (nms_get (WA.row 1 rfl))), p, _, _, rfl, WA.s, by omega, by rw [List.length_map]; omega, by rw [List.length_map]; omega, fun r5 o5 r50 r51 hp5 => ?_⟩
              rw [List.length_map] at r51
              have WB := WA.src hp5
              obtain ⟨vv, hv, hm, _⟩ := at_ok (xs := picks.map V.str) r50 (by rw [List.length_map]; exact r51)
              obtain ⟨x, hx, rfl⟩ := List.mem_map.mp hm
              obtain ⟨cl', ep, ld'⟩ := ld.put (decide (V.int r4 = V.int 0)) (wsP x hx)
              have lcl : (ltK cl).length < sizeLine := by
                have := ld.len
                unfold ltK
                rw [List.length_map]
                exact small1000 (by omega)
              refine ⟨a1, _, r5, _, rfl, rfl, SqT.of (nms_get (WB.row 1 rfl)), hv, aF, _, rfl, .inl ⟨ltK cl, .inr x, WB.at 1 rfl, rfl, lcl, rfl⟩, ?_⟩
              rw [ep]
              exact ⟨cl', _, rfl, ld', (WB.put (o' := .dK (ltK cl')) 1 rfl hF0 dK_nt).up (by omega)⟩
            · exact ⟨cl, _, rfl, ld, W9.up (by omega)⟩
        · rintro σ H' ⟨cl, o7, rfl, ld, W8⟩
          have W8 := (W8.up (show _ ≤ c + 99 by omega)).sub (F' := [(aF, .dK (ltK cl))]) (.cons _ (.refl _))
          have lcl := ld.len
          have kl : (ltK cl).length = cl.length := List.length_map ..
          refine ⟨aF, _, W8.at 0 rfl, trivial, fun od => ?_⟩
          have W9 := W8.put (o' := .frz od (.dK (ltK cl))) 0 rfl hF0 dK_nt
          refine ⟨_, rfl, aF, od, rfl, .inl ⟨ltK cl, W9.at 0 rfl, fun D hD => ?_⟩⟩
          have hD0 := W9.free hD
          have WA := W9.new (o := .lst ([] : List V)) hD
          refine lc_it walk_keys (fun j H4 => ∃ T : List TRow, T.map Prod.snd = (cl.take j).map ltD ∧ Wk H p (c + 99) [(D, .lst (T.map TRow.v)), (aF, .frz od (.dK (ltK cl)))] ([(V.ref a2, PyData.tuple (owns.map ownD)), (V.ref a1, nmsD picks)] ++ rowR T) H4)
            ⟨[], rfl, WA⟩ (fun j H4 _ ⟨T, _, W⟩ => W.at 1 rfl) ?_ ?_
          · rintro j x H4 H5 jl ⟨T, eT, W⟩ ⟨rfl, k, v, hk, rfl⟩
            unfold ltK at hk
            rw [List.getElem?_map] at hk
            obtain ⟨l, hl, e⟩ := Option.map_eq_some_iff.mp hk
            cases e
            rw [kl] at jl
            refine ⟨rfl, yes_of ⟨_, rfl, _, rfl, _, rfl, aF, _, rfl, .inl ⟨ltK cl, .inr l.1, .inr ⟨od, W.at 1 rfl⟩, rfl, (ld.get hl).symm⟩, (by show 2 ≤ sizeLine; decide), fun t ht => ?_⟩⟩
            have W6 := W.new (o := .tup [.str l.1, .bl l.2]) ht
            have lT : T.length = j := by
              rw [← List.length_map (f := Prod.snd), eT, List.length_map, List.length_take]
              omega
            have Dl : Dat (upd H5 t (.tup [.str l.1, .bl l.2])) (.ref t) (ltD l) := .tup upd_same (.cons (.str _) (.cons (.bl _) .nil))
            have W7 := ((W6.sub (F' := [(D, .lst (T.map TRow.v)), (aF, .frz od (.dK (ltK cl)))]) (.cons _ (.refl _))).snoc (q := (t, ltD l)) rfl Dl).put (o' := .lst (T.map TRow.v ++ [.ref t])) 0 rfl hD0 lst_nt
            refine ⟨_, W6.at 1 rfl, by rw [List.length_map, lT]; exact small1000 (by omega), T ++ [(t, ltD l)], by rw [List.map_append, eT, take_next hl, List.map_append]; rfl, ?_⟩
            rw [List.map_append]
            exact W7
          · rintro H9 ⟨T, eT, W⟩
            rw [kl, List.take_length] at eT
            refine ⟨W.at 1 rfl, ?_⟩
            have WB := W.put (o' := .dK (ltK cl)) 1 rfl hF0 frz_nt
            refine ⟨D, T, rfl, SqL.of (WB.at 0 rfl), WB.rr, sorty_of eT alike_lt (fun x => ⟨_, rfl⟩) (fun x => by have := depth_lt x; omega), fun T' b9 pm _ up hb9 => .inl ⟨b9, _, rfl, SqL.of upd_same, fun t ht => ?_⟩⟩
            have WC := WB.new' (o := .lst (T'.map TRow.v)) hb9
            have WD := WC.new (o := .tup (T'.map TRow.v)) ht
            obtain ⟨cl', Dc, ck⟩ := clause_of (ws := picks ++ owns.map Prod.fst) eT ld.nd ld.mem pm up WD.rr (WD.at 0 rfl)
            exact q _ cl' _ Dc ck (WD.d.up (by omega))
end
end S1

set_option Elab.async false
set_option linter.all false
set_option maxRecDepth 100000
set_option maxHeartbeats 4000000
/-! sayings, drawn -/
namespace S1
open PySem PySem.W PySem.Spec PyProof.Rows L2
theorem branchH {c : Prop} [Decidable c] {t u : TS} {D : Ends} {σ : L2.St} {H : Hp} (F : Hp → Prop) (hF : F H) (I : L2.St → Hp → Prop) (R : ∀ σ' H', I σ' H' → D.nx σ' H') (h1 : c → ∀ G, F G → (∀ σ' H', I σ' H' → D.nx σ' H') → t D σ G)
    (h2 : ¬ c → ∀ G, F G → (∀ σ' H', I σ' H' → D.nx σ' H') → u D σ G) : if c then t D σ H else u D σ H := by
  by_cases h : c
  · rw [if_pos h]; exact h1 h _ hF R
  · rw [if_neg h]; exact h2 h _ hF R
theorem gen_hp {D : Hp → Prop} {G : Hp} (F : Hp → Prop) (h : F G) (k : ∀ G', F G' → D G') : D G := k G h
theorem cut_drop {ws : List Str} {r : Nat} (h : r ≤ ws.length) : cutV (ws.map V.str) (some (r : Int)) none = (ws.drop r).map V.str := by
  unfold cutV
  rw [HT.sIx_nat, HT.sIx_none, List.length_map, Nat.min_eq_left h, ← List.map_drop, ← List.map_take]
  congr 1
  exact List.take_of_length_le (by rw [List.length_drop]; omega)
theorem datS_of {H : Hp} {v : V} {s : Say} (D : Dat H v s.d) : DatS H v s := by
  obtain ⟨a, xs, rfl, e, h⟩ := dat_tup D
  cases h with
  | cons h1 h =>
    cases h with
    | cons h2 h =>
      cases h with
      | cons h3 h =>
        cases h
        obtain ⟨b, us, rfl, eb, hb⟩ := dat_tup h2
        exact ⟨a, _, _, _, rfl, e, h1, ⟨b, us, rfl, eb, hb⟩, h3⟩
theorem plains_map {α : Type} (f : α → PyData) (h : ∀ x, (f x).plain = true) : ∀ l : List α, PyData.plainAll (l.map f) = true
  | [] => rfl
  | x :: l => by rw [List.map_cons, PyData.plainAll, h x, plains_map f h l]; rfl
theorem plain_cl (cl : List Ltr) : (clD cl).plain = true := plains_map ltD (fun _ => rfl) cl
theorem keyable_clss (cs : List (List Ltr)) : keyable (.tuple (cs.map clD)) = true := by
  show keyables (cs.map clD) = true
  exact keyables_map clD keyable_cl cs
theorem keyable_say (s : Say) : keyable s.d = true := by
  show keyables [nmsD s.picks, .tuple (s.owns.map ownD), .tuple (s.cls.map clD)] = true
  simp only [keyables, keyable_nms, keyable_owns, keyable_clss, Bool.and_self]
/-- a dict of clauses: what stands at its address -/
def DnS (w : World) (a : Addr) (D : List DRow) (o : HO) : Prop := o = DnO w a D ∨ (o = .dK [] ∧ D = [])
theorem DnS.at {w : World} {a : Addr} {D : List DRow} {o : HO} {G : Hp} (h : DnS w a D o) (e : G a = some o) : DnAt w G a D := by
  rcases h with rfl | ⟨rfl, rfl⟩
  · exact .inl e
  · exact .inr ⟨e, rfl⟩
theorem DnS.nt {w : World} {a : Addr} {D : List DRow} {o : HO} (h : DnS w a D o) : ∀ ys, o ≠ .tup ys := by
  rcases h with rfl | ⟨rfl, rfl⟩
  · exact dn_nt
  · exact dK_nt
/-- the rows of a dict of clauses: unlike, all of them clauses over ws -/
structure CD (D : List DRow) (cls : List (List Ltr)) (ws : List Str) : Prop where
  e : (D.map Prod.fst).map Prod.snd = cls.map clD
  nd : cls.Nodup
  ok : ∀ cl ∈ cls, ClOk ws cl
theorem clD_inj {a b : List Ltr} (h : clD a = clD b) : a = b := by
  unfold clD at h
  injection h with h
  induction a generalizing b with
  | nil => cases b with
    | nil => rfl
    | cons _ _ => cases h
  | cons x xs ih => cases b with
    | nil => cases h
    | cons y ys =>
      rw [List.map_cons, List.map_cons] at h
      injection h with h1 h2
      rw [ltD_inj h1, ih h2]
theorem nkey_cl {a b : List Ltr} : nkey (clD a) = nkey (clD b) ↔ a = b :=
  ⟨fun h => clD_inj (nkey_inj _ _ (keyable_cl a) (keyable_cl b) (alike_cl a b) h), fun h => by rw [h]⟩
theorem CD.put {D : List DRow} {cls : List (List Ltr)} {ws : List Str} {cl : List Ltr} {r : Addr} {v : V} (h : CD D cls ws) (ck : ClOk ws cl) :
    ∃ cls' : List (List Ltr), CD (putN D (r, clD cl) v) cls' ws ∧ cls'.length ≤ cls.length + 1 ∧ ∀ q ∈ (putN D (r, clD cl) v).map Prod.fst, q ∈ D.map Prod.fst ∨ q = (r, clD cl) := by
  cases e : lookN D (clD cl) with
  | none =>
    refine ⟨cls ++ [cl], ?_, by rw [List.length_append]; exact Nat.le_refl _, fun q hq => ?_⟩
    · rw [putN_new e]
      refine ⟨by rw [List.map_append, List.map_append, h.e, List.map_append]; rfl, ?_, fun c hc => ?_⟩
      · refine List.nodup_append.mpr ⟨h.nd, by simp, fun a ha c hc z => ?_⟩
        have : c = cl := by simpa using hc
        subst this
        subst z
        have m : clD a ∈ (D.map Prod.fst).map Prod.snd := h.e ▸ List.mem_map_of_mem ha
        obtain ⟨q, hq, eq⟩ := List.mem_map.mp m
        obtain ⟨q', hq', rfl⟩ := List.mem_map.mp hq
        exact lookN_none.mp e q' hq' (by rw [eq])
      · rcases List.mem_append.mp hc with z | z
        · exact h.ok c z
        · cases List.mem_singleton.mp z
          exact ck
    · rw [putN_new e, List.map_append] at hq
      rcases List.mem_append.mp hq with z | z
      · exact .inl z
      · exact .inr (by simpa using z)
  | some x =>
    have e2 : (putN D (r, clD cl) v).map Prod.fst = D.map Prod.fst := by
      rw [putN_old e, List.map_map]
      refine List.map_congr_left fun p _ => ?_
      simp only [Function.comp]
      split <;> rfl
    exact ⟨cls, ⟨by rw [e2]; exact h.e, h.nd, h.ok⟩, by omega, fun q hq => .inl (e2 ▸ hq)⟩
theorem CD.keys {D : List DRow} {cls : List (List Ltr)} {ws : List Str} {G : Hp} (h : CD D cls ws) (hD : ∀ q ∈ D.map Prod.fst, Dat G q.v q.2) : KeysAt G D := fun p hp => by
  have m : p.1.2 ∈ cls.map clD := h.e ▸ List.mem_map_of_mem (List.mem_map_of_mem hp)
  obtain ⟨c, _, ec⟩ := List.mem_map.mp m
  refine ⟨hD p.1 (List.mem_map_of_mem hp), by rw [← ec]; exact keyable_cl c, ?_⟩
  rw [← ec]
  have := depth_cl c
  omega
theorem CD.len {D : List DRow} {cls : List (List Ltr)} {ws : List Str} (h : CD D cls ws) : D.length = cls.length := by
  have := congrArg List.length h.e
  simpa using this
theorem CD.sorty {D : List DRow} {cls : List (List Ltr)} {ws : List Str} (h : CD D cls ws) : Sorty (D.map Prod.fst) := sorty_of h.e alike_cl (fun x => ⟨_, rfl⟩) (fun x => by have := depth_cl x; omega)
/-- the clauses of a dict, sorted -/
theorem CD.sorted {D : List DRow} {cls : List (List Ltr)} {ws : List Str} {T' : List TRow} (h : CD D cls ws) (pm : T'.Perm (D.map Prod.fst)) (up : ((D.map Prod.fst).map Prod.snd).Nodup → T'.Pairwise fun p q => dataLt p.2 q.2 = true) :
    ∃ cls' : List (List Ltr), T'.map Prod.snd = cls'.map clD ∧ (cls'.Pairwise fun x y => dataLt (clD x) (clD y) = true) ∧ (∀ cl ∈ cls', ClOk ws cl) ∧ cls'.length = cls.length := by
  obtain ⟨cls', p2, e2⟩ := perm_back (f := clD) ((pm.map Prod.snd).trans (.of_eq h.e)) cls rfl
  have nT : ((D.map Prod.fst).map Prod.snd).Nodup := by
    rw [h.e]
    exact List.pairwise_map.mpr (h.nd.imp fun {a b} ne z => ne (clD_inj z))
  have u1 : (T'.map Prod.snd).Pairwise fun d e => dataLt d e = true := List.pairwise_map.mpr (up nT)
  rw [e2] at u1
  exact ⟨cls', e2, List.pairwise_map.mp u1, fun cl hc => h.ok cl (p2.mem_iff.mp hc), p2.length_eq⟩
def spDrSay : Sp := fun vs H Q _ => ∃ (p z : Addr) (c a b m d : Nat), vs = [.ref p, .ref z, .int d, .int m] ∧ Src H p c ∧ c ≤ 20000 ∧ H z = some (.lst [.int a, .int b]) ∧ z ≠ p ∧ 1 ≤ a ∧ a ≤ 6 ∧ 2 ≤ b ∧ b ≤ 8 ∧ b ≤ m ∧ m ≤ 120 ∧ d ≤ 40 ∧
  ∀ (v : V) (sy : Say) (H' : Hp), Dat H' v sy.d → SayOk a b m d sy → Dr H p (c + 5000) H' → Q v H'
abbrev nSay : List Str := ["pot", "sizes", "clauses", "space", "picks", "owns", "names", "found", "most", "some", "turn", "clause"]
section
variable {P : Program} {w : World} {K : PySem.W.Frag} {mg : Str → Option Value} {base : Heap}
theorem scSay : FnScope nSay ["pot", "sizes", "clauses", "space"] (defScope sLSaying) := ⟨rfl, rfl, rfl, by decide +kernel, rfl, by decide +kernel, by decide +kernel⟩
theorem ok_drSay {f fP fN fO fC : Addr} {fd fdP fdN fdO fdC : FuncData} (F : Fun K "_law_saying" "_law_saying" sLSaying f fd) (Pk : Has K mg "_law_draw" sDraw ["pot", "top"] fP fdP) (Nn : Has K mg "_law_names" sLNames ["pot", "size"] fN fdN)
    (Ow : Has K mg "_law_owns" sLOwns ["pot", "picks", "names", "space"] fO fdO) (Cl : Has K mg "_law_clause" sLClause ["pot", "picks", "owns", "most"] fC fdC)
    (GN : FnOk P w K mg base CX0 2 fN fdN ["pot", "size"] spNames) (GO : FnOk P w K mg base CX0 3 fO fdO ["pot", "picks", "names", "space"] spOwns) (GC : FnOk P w K mg base CX0 2 fC fdC ["pot", "picks", "owns", "most"] spDrCl) (B : Blt mg) :
    FnOk P w K mg base CX0 4 f fd ["pot", "sizes", "clauses", "space"] spDrSay := by
  have GP : FnOk P w K mg base CX0 1 fP fdP ["pot", "top"] spPick := ok_pick Pk.F B
  refine F.ok scSay (fun vs H Q E h => ?_) (fun cdv A outer s H vs Q E hr h => ?_)
  · obtain ⟨p, z, c, a, b, m, d, rfl, _⟩ := h
    rfl
  · obtain ⟨p, z, c, a, b, m, d, rfl, hs, hc, hz, nz, ha1, ha, hb1, hb, hbm, hm, hd, q⟩ := h
    have hu : (A.deeper (envOfC "_law_saying" (defScope sLSaying) s.heap.objs.size f cdv)).units + 64 < cLine := hr.units
    have hu16 : (A.deeper (envOfC "_law_saying" (defScope sLSaying) s.heap.objs.size f cdv)).units + 16 < cLine := by omega
    have hr1 := hr.mono (show 1 ≤ 3 by decide)
    have hr2 := hr.mono (show 2 ≤ 3 by decide)
    refine ⟨_, pss_cons (ps_par (i := 4) (j := 5) rfl scSay.nd rfl rfl (by decide) rfl rfl
          (pa_cons (pe_call GP hr1 rfl Pk.g Pk.F.kp Pk.b .nil pass0 (pa_cons (pv 0) (pa_cons (pe_op op_add (pe_ix ix_list (pv 1) pe_int (fun _ _ => rfl)) pe_int) pa_nil)))
            (pa_cons (pe_call GP hr1 rfl Pk.g Pk.F.kp Pk.b .nil pass0 (pa_cons (pv 0) (pa_cons (pe_op op_add (pe_ix ix_list (pv 1) pe_int (fun _ _ => rfl)) pe_int) pa_nil))) pa_nil)) (by with_unfolding_all rfl))
      (pss_cons (ps_if (pt_cmpR op_gt (pe_call GP hr1 rfl Pk.g Pk.F.kp Pk.b .nil pass0 (pa_cons (pv 0) (pa_cons pe_int pa_nil))) pe_int (nomark _))
        (pss_one (ps_par (i := 4) (j := 5) rfl scSay.nd rfl rfl (by decide) rfl rfl
          (pa_cons (pe_callB (call_max2 rfl) (by rfl) B.max (by decide +kernel) (pa_cons pe_int (pa_cons (pv 4) pa_nil))) (pa_cons (pe_callB (call_max2 rfl) (by rfl) B.max (by decide +kernel) (pa_cons pe_int (pa_cons (pv 5) pa_nil))) pa_nil)) (by with_unfolding_all rfl))) pss_nil)
      (pss_cons (ps_set (i := 6) scSay.nd rfl (.inl rfl) (pe_call GN hr2 rfl Nn.g Nn.F.kp Nn.b .nil pass0 (pa_cons (pv 0) (pa_cons (pe_op op_add (pv 4) (pv 5)) pa_nil))))
      (pss_cons (ps_set (i := 4) scSay.nd rfl (.inl rfl) (pe_tupleOf rfl B.tuple (pe_callB (cr_sortW (by exact hu)) (by rfl) B.sorted (by decide +kernel) (pa_cons (pe_slice sl_list (pv 6) po_none (po_some (pv 4))) pa_nil))))
      (pss_cons (ps_set (i := 5) scSay.nd rfl (.inl rfl) (pe_call GO hr rfl Ow.g Ow.F.kp Ow.b .nil pass0 (pa_cons (pv 0) (pa_cons (pv 4) (pa_cons (pe_slice sl_list (pv 6) (po_some (pe_callB call_len_seq (by rfl) B.len (by decide +kernel) (pa_cons (pv 4) pa_nil))) po_none) (pa_cons (pv 3) pa_nil))))))
      (pss_cons (ps_par3 (i := 7) (j := 8) (l := 9) rfl scSay.nd rfl rfl rfl (by decide) (by decide) (by decide) rfl rfl rfl
        (pa_cons pe_dnewK (pa_cons (pe_op op_add pe_int (pe_call GP hr1 rfl Pk.g Pk.F.kp Pk.b .nil pass0 (pa_cons (pv 0) (pa_cons pe_int pa_nil))))
          (pa_cons (pe_callB (call_max2 rfl) (by rfl) B.max (by decide +kernel) (pa_cons (pe_call GP hr1 rfl Pk.g Pk.F.kp Pk.b .nil pass0 (pa_cons (pv 0) (pa_cons (pe_op op_add (pv 2) pe_int) pa_nil))) (pa_cons (pe_call GP hr1 rfl Pk.g Pk.F.kp Pk.b .nil pass0 (pa_cons (pv 0) (pa_cons (pe_op op_add (pv 2) pe_int) pa_nil))) pa_nil))) pa_nil))) (by with_unfolding_all rfl))
      (pss_cons (ps_for PassesOwn.never rfl (pi_range1 rfl B.range (pa_cons (pv 9) pa_nil)) (pg_name (i := 10) scSay.nd rfl (.inl rfl))
        (pss_cons (ps_set (i := 11) scSay.nd rfl (.inl rfl) (pe_call GC hr2 rfl Cl.g Cl.F.kp Cl.b .nil pass0 (pa_cons (pv 0) (pa_cons (pv 4) (pa_cons (pv 5) (pa_cons (pv 8) pa_nil))))))
        (pss_one (ps_if (PW.pt (pw_or (pt_cmpR (op_neP (by exact hu)) (pv 11) (pe_tup pa_nil) (nomark _)) (pw_or1 (pt_cmpR op_eq (pe_call GP hr1 rfl Pk.g Pk.F.kp Pk.b .nil pass0 (pa_cons (pv 0) (pa_cons pe_int pa_nil))) pe_int (nomark _)))))
          (pss_one (ps_nput (by exact hu16) (pv 7) (pv 11) pe_bl (by rfl))) pss_nil))))
      (pss_one (ps_ret (pe_tup (pa_cons (pv 4) (pa_cons (pv 5) (pa_cons (pe_tupleOf rfl B.tuple (pe_callB (cr_sortL (by exact hu)) (by rfl) B.sorted (by decide +kernel) (pa_cons (pe_callTy (call_listDn rfl) (by rfl) B.list (by decide +kernel) (pa_cons (pv 7) pa_nil)) pa_nil))) pa_nil)))))))))))), ?_⟩
    have W0 := (Wk.start hs).know hz nz (fun x z => absurd z (by simp))
    refine ⟨_, rfl, _, rfl, z, _, 0, _, rfl, rfl, SqL.of (W0.at 0 rfl), rfl, _, _, rfl, rfl, p, _, _, rfl, W0.s, by omega, by omega, by omega, fun r o r0 r1 hp1 => ?_⟩
    have W1 := W0.src hp1
    refine ⟨_, rfl, _, rfl, z, _, 1, _, rfl, rfl, SqL.of (W1.at 0 rfl), rfl, _, _, rfl, rfl, p, _, _, rfl, W1.s, by omega, by omega, by omega, fun r2 o2 r20 r21 hp2 => ?_⟩
    have W2 := W1.src hp2
    refine ⟨_, _, rfl, ?_⟩
    obtain ⟨k1, rfl⟩ : ∃ k : Nat, r = (k : Int) := ⟨r.toNat, by omega⟩
    obtain ⟨k2, rfl⟩ : ∃ k : Nat, r2 = (k : Int) := ⟨r2.toNat, by omega⟩
    refine ⟨_, rfl, p, _, 4, rfl, W2.s, by omega, by decide, by decide, fun r3 o3 r30 r31 hp3 => ⟨_, _, rfl, rfl, _, rfl, ?_⟩⟩
    have W3 := W2.src hp3
    refine branchH (fun G => Wk H p (c + 3) [(z, .lst [.int a, .int b])] [] G) W3 (fun σ' H4 => ∃ k1 k2 : Nat, k1 ≤ a ∧ k2 ≤ b ∧ σ' = [some (.ref p), some (.ref z), some (.int d), some (.int m), some (.int k1), some (.int k2), none, none, none, none, none, none] ∧ Wk H p (c + 3) [(z, .lst [.int a, .int b])] [] H4) ?_ (fun _ G W R => ?_) (fun _ G W R => ?_)
    · rintro σ' H4 ⟨k1, k2, hk1, hk2, rfl, W4⟩
      refine ⟨_, rfl, _, rfl, _, rfl, _, _, rfl, rfl, p, _, k1 + k2, rfl, W4.s, by omega, by omega, fun l ws H5 wl nd nm hl el d5 => ?_⟩
      have W5 := (W4.trans d5).know el (W4.d.ne hl) (W4.no hl)
      refine ⟨_, rfl, _, rfl, k1, rfl, l, _, rfl, SqL.of (W5.at 0 rfl), fun n0 hn0 => ⟨n0, ws.take k1, rfl, SqL.of (by rw [cut_take]; exact upd_same), fun ys b0 pm up hb0 => .inl ⟨b0, _, rfl, SqL.of upd_same, fun t1 ht1 => ?_⟩⟩⟩
      have W6 := W5.new' (o := .lst (cutV (ws.map V.str) none (some (k1 : Int)))) hn0
      have W7 := W6.new' (o := .lst (ys.map V.str)) hb0
      have W8 := W7.new (o := .tup (ys.map V.str)) ht1
      have W9 := (W8.addR (v := .ref t1) (keyable_nms ys) (.tup (W8.at 0 rfl) (dats_strs ys))).sub (F' := [(l, .lst (ws.map V.str))]) (.cons _ (.cons₂ _ (.cons _ .slnil)))
      have ysl : ys.length = k1 := by rw [pm.length_eq, List.length_take]; omega
      refine gen_hp (F := fun G => Wk H p (c + 3 + (k1 + k2)) [(l, .lst (ws.map V.str))] [(V.ref t1, nmsD ys)] G) W9 (fun G W => ?_)
      clear W9 W8 W7 W6 W5 W4 W3 W2 W1 W0
      have ndT : (ws.take k1).Nodup := nd.sublist (List.take_sublist _ _)
      have ndD : (ws.drop k1).Nodup := nd.sublist (List.drop_sublist _ _)
      have dis : ∀ x ∈ ws.take k1, ∀ y ∈ ws.drop k1, x ≠ y := by
        have z : (ws.take k1 ++ ws.drop k1).Nodup := by rw [List.take_append_drop]; exact nd
        exact (List.nodup_append.mp z).2.2
      refine ⟨_, rfl, _, rfl, _, rfl, _, rfl, _, _, rfl, .inr (SqT.of (nms_get (W.row 0 rfl))), _, rfl, l, _, rfl, SqL.of (W.at 0 rfl), fun n1 hn1 => ?_⟩
      have e1 : ((ys.map V.str).length : Int) = (k1 : Int) := by rw [List.length_map, ysl]
      rw [e1, cut_drop (by omega)] at *
      have W2 := W.new (o := .lst ((ws.drop k1).map V.str)) hn1
      refine ⟨_, rfl, p, n1, _, m, .ref t1, ys, ws.drop k1, rfl, W2.s, by omega, W2.row 0 rfl, up ndT, fun x hx => nm x (List.take_subset _ _ (pm.mem_iff.mp hx)), by omega, W2.at 0 rfl, ndD,
        fun x hx => ⟨nm x (List.drop_subset _ _ hx), fun h' => dis _ (pm.mem_iff.mp h') _ hx rfl⟩, by rw [List.length_drop]; omega, by rw [List.length_drop]; omega, by omega, fun v2 owns H6 D2 fr lo _ d6 => ?_⟩
      have lo2 : owns.length = k2 := by rw [lo, List.length_drop]; omega
      have W3 := (((W2.trans d6).addR (keyable_owns owns) D2).sub (F' := []) (.cons _ (.cons _ .slnil))).up (show _ ≤ c + 530 by omega)
      clear W2 W
      refine fun aF hF => ?_
      have hF0 := W3.free hF
      have W4 := W3.new (o := .dK []) hF
      refine ⟨_, rfl, p, _, 4, rfl, W4.s, by omega, by decide, by decide, fun r4 o4 r40 r41 hp4 => ⟨_, _, rfl, rfl, ?_⟩⟩
      have W5 := W4.src hp4
      refine ⟨_, rfl, _, rfl, _, _, rfl, rfl, p, _, _, rfl, W5.s, by omega, by omega, by omega, fun r5 o5 r50 r51 hp5 => ?_⟩
      have W6 := W5.src hp5
      refine ⟨_, rfl, _, rfl, _, _, rfl, rfl, p, _, _, rfl, W6.s, by omega, by omega, by omega, fun r6 o6 r60 r61 hp6 => ?_⟩
      have W7 := W6.src hp6
      obtain ⟨n, en, hn⟩ := max_nat (N := (d : Int)) r50 r60 (by omega) (by omega)
      refine ⟨_, _, rfl, _, _, _, rfl, ?_⟩
      obtain ⟨most, hmo⟩ : ∃ k : Nat, (1 : Int) + r4 = (k : Int) := ⟨(1 + r4).toNat, by omega⟩
      refine gen_hp (F := fun G => Wk H p (c + 533) [(aF, .dK [])] [(v2, .tuple (owns.map ownD)), (V.ref t1, nmsD ys)] G) W7 (fun G W => ?_)
      clear W7 W6 W5 W4 W3
      obtain ⟨a2, rfl⟩ := tuple_ref D2
      rw [en]
      refine ⟨_, rfl, n, rfl, by omega, by omega, ?_⟩
      have hn40 : ((n : Nat) : Int).toNat ≤ 40 := by omega
      have ndN := fr.nd
      refine for_range (lo := 0) (n := ((n : Nat) : Int).toNat) (fun i σ H' => ∃ (cls : List (List Ltr)) (D : List DRow) (o : HO) (o10 o11 : Option V), σ = [some (.ref p), some (.ref z), some (.int d), some (.int m), some (.ref t1), some (.ref a2), some (.ref l), some (.ref aF), some (.int (1 + r4)), some (.int (n : Int)), o10, o11] ∧
        DnS w aF D o ∧ CD D cls (ys ++ owns.map Prod.fst) ∧ cls.length ≤ i ∧ Wk H p (c + 533 + 101 * i) [(aF, o)] ([(V.ref a2, PyData.tuple (owns.map ownD)), (V.ref t1, nmsD ys)] ++ rowR (D.map Prod.fst)) H') ?_ ?_ ?_
      · exact ⟨[], [], _, _, _, rfl, .inr ⟨rfl, rfl⟩, ⟨rfl, List.nodup_nil, fun cl h => absurd h (by simp)⟩, Nat.le_refl _, W⟩
      · rintro i σ H' hi ⟨cls, D, o, o10, o11, rfl, hD, cd, lc, W⟩
        refine ⟨_, rfl, _, rfl, _, rfl, _, rfl, p, t1, a2, _, 14, _, m, most, ys, owns, by rw [← hmo]; rfl, W.s, by omega, W.row 1 rfl, W.row 0 rfl, fr, by omega, by rw [List.length_drop]; omega, by omega, by omega, fun v cl H7 Dc ck d7 => ?_⟩
        have W8 := (W.trans d7).addR (keyable_cl cl) Dc
        refine ⟨_, rfl, (by show 0 ≤ sizeLine; decide), fun l8 hl8 => ?_⟩
        have W9 := W8.new' (o := .tup ([] : List V)) hl8
        have el8 : upd H7 l8 (.tup []) l8 = some (.tup []) := upd_same
        refine ⟨clD cl, .tuple [], W9.row 0 rfl, .tup el8 .nil, plain_cl cl, rfl, by have := depth_cl cl; omega, _, rfl, ?_⟩
        obtain ⟨r, rfl⟩ := tuple_ref (ds := cl.map ltD) Dc
        refine or_split (R := fun G => Wk H p (c + 533 + 101 * i + 101) [(aF, o)] ((V.ref r, clD cl) :: ([(V.ref a2, PyData.tuple (owns.map ownD)), (V.ref t1, nmsD ys)] ++ rowR (D.map Prod.fst))) G) (fun G WG => ?_) (fun _ k => k _ (W9.up (by omega))) (fun _ k => ?_)
        · show if true = true then _ else _
          rw [if_pos rfl]
          obtain ⟨cls', cd', lc', mem'⟩ := cd.put (r := r) (v := V.bl true) ck
          have hDat : ∀ q ∈ D.map Prod.fst, Dat G q.v q.2 := fun q hq => (WG.r (q.v, q.2) (List.mem_cons_of_mem _ (List.mem_append_right _ (List.mem_map.mpr ⟨q, hq, rfl⟩)))).2
          refine ⟨_, rfl, _, rfl, aF, r, D, clD cl, rfl, rfl, hD.at (WG.at 0 rfl), cd.keys hDat, WG.row 0 rfl, keyable_cl cl, by have := depth_cl cl; omega, by rw [cd.len]; exact small1000 (by omega), ?_⟩
          refine ⟨cls', _, _, _, _, rfl, .inl rfl, cd', by omega, ?_⟩
          have WH := WG.put (o' := DnO w aF (putN D (r, clD cl) (V.bl true))) 0 rfl hF0 hD.nt
          refine (WH.rows fun x hx => .inl ?_).up (by omega)
          rcases List.mem_append.mp hx with y | y
          · exact List.mem_cons_of_mem _ (List.mem_append_left _ y)
          · obtain ⟨q', hq', rfl⟩ := rowR_mem y
            rcases mem' q' hq' with y | rfl
            · exact List.mem_cons_of_mem _ (List.mem_append_right _ (List.mem_map.mpr ⟨q', y, rfl⟩))
            · exact List.mem_cons_self
        · refine ⟨_, rfl, p, _, 9, rfl, W9.s, by omega, by decide, by decide, fun r9 o9 r90 r91 hp9 => ⟨rfl, _, rfl, ?_⟩⟩
          have WA := W9.src hp9
          by_cases hz : decide (V.int r9 = V.int 0) = true
          · have y := k _ (WA.up (by omega))
            show if decide (V.int r9 = V.int 0) = true then _ else _
            rw [hz]
            exact y
          · show if decide (V.int r9 = V.int 0) = true then _ else _
            rw [if_neg hz]
            refine ⟨cls, D, o, _, _, rfl, hD, cd, by omega, (WA.rows fun x hx => .inl (List.mem_cons_of_mem _ hx)).up (by omega)⟩
      · rintro σ H' ⟨cls, D, o, o10, o11, rfl, hD, cd, lc, W⟩
        have hDat : ∀ q ∈ D.map Prod.fst, Dat H' q.v q.2 := W.rr
        refine ⟨_, rfl, _, rfl, _, rfl, aF, D, rfl, hD.at (W.at 0 rfl), cd.keys hDat, fun bL hbL => ?_⟩
        have W2 := W.new (o := .lst ((D.map Prod.fst).map TRow.v)) hbL
        refine ⟨bL, D.map Prod.fst, rfl, SqL.of (W2.at 0 rfl), W2.rr, cd.sorty, fun T' b9 pm2 _ up2 hb9 => .inl ⟨b9, _, rfl, SqL.of upd_same, fun t ht => ⟨(by show 3 ≤ sizeLine; decide), fun t3 ht3 => ?_⟩⟩⟩
        have W3 := W2.new' (o := .lst (T'.map TRow.v)) hb9
        have W4 := W3.new (o := .tup (T'.map TRow.v)) ht
        have W5 := W4.new (o := .tup [.ref t1, .ref a2, .ref t]) ht3
        obtain ⟨cls', e', up', ok', len'⟩ := cd.sorted pm2 up2
        have Dcs : Dat (upd (upd (upd (upd H' bL (.lst ((D.map Prod.fst).map TRow.v))) b9 (.lst (T'.map TRow.v))) t (.tup (T'.map TRow.v))) t3 (.tup [.ref t1, .ref a2, .ref t])) (.ref t) (.tuple (cls'.map clD)) := by
          rw [← e']
          exact .tup (W5.at 1 rfl) (dats_rows fun q' hq' => W5.rr q' (pm2.mem_iff.mp hq'))
        refine q _ ⟨ys, owns, cls'⟩ _ (.tup (W5.at 0 rfl) (.cons (W5.row 1 rfl) (.cons (W5.row 0 rfl) (.cons Dcs .nil)))) ⟨fr.pu, fr.pn, by show ys.length ≤ a; omega, fr.ou, fr.on, by show owns.length ≤ b; omega, fr.oc, up', ok', ?_⟩ (W5.d.up (by omega))
        show cls'.length ≤ d
        omega
    · refine ⟨_, rfl, _, _, rfl, _, rfl, _, _, rfl, _, _, rfl, R _ _ ?_⟩
      obtain ⟨m1, e1, h1⟩ := max_nat (x := 1) (y := (k1 : Int)) (N := (a : Int)) (by omega) (by omega) (by omega) (by omega)
      obtain ⟨m2, e2, h2⟩ := max_nat (x := 2) (y := (k2 : Int)) (N := (b : Int)) (by omega) (by omega) (by omega) (by omega)
      refine ⟨m1, m2, by omega, by omega, ?_, W⟩
      rw [e1, e2]
      rfl
    · exact R _ _ ⟨k1, k2, by omega, by omega, rfl, W⟩
end
end S1

set_option Elab.async false
set_option linter.all false
set_option maxRecDepth 100000
set_option maxHeartbeats 2000000
/-! dict(pairs), the keys unlike tuples -/
namespace L2
open PySem PySem.W PySem.Spec PyProof.Rows
section
variable {X : Cx}
theorem kn_pairs {pins : List (Addr × Obj)} {σ : L2.St} {H : Hp} {s : Shared} (I : Inv X pins σ H s) : ∀ {ps : List Addr} {E : List DRow}, Paired (fun (p : Addr) (e : DRow) => H p = some (.tup [.ref e.1.1, e.2])) ps E →
    ∃ xs : List (NestedKey × Addr × Value), KN E xs ∧ xs.length = ps.length ∧ ∀ (j : Nat) (p : Addr), ps[j]? = some p → ∃ x, xs[j]? = some x ∧ s.heap.IsTuple p #[.ref x.2.1, x.2.2]
  | _, _, .nil => ⟨[], .nil, rfl, fun j q e => by simp at e⟩
  | _, _, .cons (a := p) (b := e) h t => by
    obtain ⟨xs, r, hl, hp⟩ := kn_pairs I t
    obtain ⟨its, rv, ht, _⟩ := I.tuple (SqT.of (K := X.K) h)
    obtain ⟨u, y, ei, ru, ry⟩ := vals2 rv
    subst ei
    cases (show u = Value.ref e.1.1 from ru)
    refine ⟨(nkey e.1.2, e.1.1, y) :: xs, .cons ⟨rfl, rfl, ry⟩ r, by rw [List.length_cons, List.length_cons, hl], fun j q e' => ?_⟩
    cases j with
    | zero =>
      have e' : p = q := Option.some.inj e'
      subst e'
      obtain ⟨o, a1, a2, a3, a4⟩ := ht
      exact ⟨_, rfl, o, a1, a2, _, a4⟩
    | succ j =>
      obtain ⟨x, e1, e2⟩ := hp j q (by simpa using e')
      exact ⟨x, by simpa using e1, e2⟩
def rDictN (K : PySem.W.Frag) (w : World) : List V → Hp → VK → Prop := fun vs H Q => ∃ (l : Addr) (ps : List Addr) (E : List DRow), vs = [.ref l] ∧ SqL K H l (ps.map V.ref) ∧ Paired (fun (p : Addr) (e : DRow) => H p = some (.tup [.ref e.1.1, e.2])) ps E ∧ KeysAt H E ∧
  (E.map fun e => nkey e.1.2).Nodup ∧ ∀ b, H b = none → Q (.ref b) (upd H b (DnO w b E))
theorem call_dictN (hc : X.calm = true) (hu : X.A.units + 16 < cLine) : CallR X (.type "dict") (rDictN X.K X.w) := by
  intro pins s σ H vs us Q I r h
  obtain ⟨l, ps, E, rfl, hq, pr, kk, nd, q⟩ := h
  rw [Vals.ref1 r]
  obtain ⟨its, rv, pl, hz⟩ := I.list hq
  have ei := refs_at rv
  subst ei
  obtain ⟨o, n, ho, hcl, hd, hdat⟩ := pl
  obtain ⟨xs, rel, lx, hx⟩ := kn_pairs I pr
  have lE : E.length = xs.length := Paired.length rel
  have ex : xs.map (·.1) = E.map fun e => nkey e.1.2 := by
    clear hx lx lE nd kk pr q
    induction rel with
    | nil => rfl
    | cons h t ih => rw [List.map_cons, List.map_cons, h.1, ih]
  have ok : PlainSeq "list" s.heap l (ps.map Value.ref).toArray ∧ PairItems s.heap (ps.map Value.ref).toArray (fun j => ps[j]?.getD 0) (xs.map fun x => (Value.ref x.2.1, x.2.2)) := by
    refine ⟨⟨o, n, ho, hcl, hd, hdat⟩, ?_, fun j k v hj => ?_⟩
    · simp [lx]
    · rw [List.getElem?_map] at hj
      obtain ⟨x, hx1, e⟩ := Option.map_eq_some_iff.mp hj
      cases e
      have jl : j < ps.length := by rw [← lx]; exact (List.getElem?_eq_some_iff.mp hx1).1
      obtain ⟨x', h1, h2⟩ := hx j ps[j] (List.getElem?_eq_getElem jl)
      rw [hx1] at h1
      cases h1
      refine ⟨by simp [jl], ?_⟩
      show PairAt _ (ps[j]?.getD 0) _ _
      rw [List.getElem?_eq_getElem jl]
      exact .inl h2
  refine call_dict_pairsH (knd := nestedKind X.prog X.w) (ps := xs) (PairArg.list l _ _ _) (I.ok.hd hc) (show X.A.in1.in1.units + 8 < cLine by simp only [Around.in1_units]; omega) ok ⟨by rw [List.length_map], fun i key v hr => ?_⟩ (fun h' hk x hx' => ?_) ?_ fun h' tk hd' hk => ?_
  · unfold PairRel at hr
    rw [List.getElem?_map] at hr
    obtain ⟨x, hx1, e⟩ := Option.map_eq_some_iff.mp hr
    cases e
    exact ⟨x.1, x.2.1, hx1, rfl⟩
  · have z := kn_keys I.hok rel kk x hx'
    exact nestedKind_stays.all h' (fun b o' _ e => hk b o' (Nat.ne_of_lt (Heap.lt_size e)) (by simp) e) _ _ z
  · rw [List.length_map, lx]
    rw [List.length_map] at hz
    exact hz
  · rw [storedAllH_nil_of_nodup xs (by rw [ex]; exact nd)] at hd'
    obtain ⟨o', es, ep, h1, h2, h3, h4, _, h5⟩ := hd'
    have hm : (s.heap.objs.size == sysModules) = false := beq_eq_false_iff_ne.mpr (Nat.ne_of_gt I.big)
    rw [List.length_map] at hz
    exact ⟨.ref s.heap.objs.size, upd H s.heap.objs.size (DnO X.w s.heap.objs.size E), I.laid (t' := tk) (fun b o e => hk b o (by simp) e) (Nat.le_refl _) (dn_ok ⟨xs, o', es, ep, rel, h1, h2, h3, h4, h5, by omega, hm⟩), rfl, q _ (I.hok.fresh (Nat.le_refl _))⟩
end
end L2

set_option Elab.async false
set_option linter.all false
set_option maxRecDepth 100000
set_option maxHeartbeats 4000000
/-! clauses of two letters put to a saying -/
namespace S1
open PySem PySem.W PySem.Spec PyProof.Rows L2
theorem other_of {a r n : Int} (h0 : 0 ≤ a) (h1 : a < n) (h2 : 0 ≤ r) (h3 : r < n - 1) : 0 ≤ (a + 1 + r) % n ∧ (a + 1 + r) % n < n ∧ (a + 1 + r) % n ≠ a := by
  by_cases h : a + 1 + r < n
  · rw [Int.emod_eq_of_lt (by omega) h]
    omega
  · have e : a + 1 + r = (a + 1 + r - n) + n := by omega
    have e2 : (a + 1 + r) % n = a + 1 + r - n := by
      rw [e, Int.add_emod_right, Int.emod_eq_of_lt (by omega) (by omega)]
      omega
    rw [e2]
    omega
theorem SayOk.le {a b c d a' b' c' d' : Nat} {s : Say} (h : SayOk a b c d s) (ha : a ≤ a') (hb : b ≤ b') (hc : c ≤ c') (hd : d ≤ d') : SayOk a' b' c' d' s := ⟨h.pu, h.pn, Nat.le_trans h.pl ha, h.ou, h.on, Nat.le_trans h.ol hb, Nat.le_trans h.oc hc, h.cu, h.ck, Nat.le_trans h.cl hd⟩
theorem SayOk.fr {a b c d : Nat} {s : Say} (h : SayOk a b c d s) : FrOk a b c s.picks s.owns := ⟨h.pu, h.pn, h.pl, h.ou, h.on, h.ol, h.oc⟩
theorem ite_te {c : Prop} [Decidable c] {ta tb : TE} {σ : L2.St} {H : Hp} {Q : VK} (I : V → Hp → Prop) (R : ∀ v H', I v H' → Q v H') (h1 : c → (∀ v H', I v H' → Q v H') → ta σ H Q) (h2 : ¬ c → (∀ v H', I v H' → Q v H') → tb σ H Q) : if c then ta σ H Q else tb σ H Q := by
  by_cases h : c
  · rw [if_pos h]; exact h1 h R
  · rw [if_neg h]; exact h2 h R
theorem paired_snoc {α β : Type} {G : α → β → Prop} : ∀ {l₁ : List α} {l₂ : List β} {a : α} {b : β}, Paired G l₁ l₂ → G a b → Paired G (l₁ ++ [a]) (l₂ ++ [b])
  | _, _, _, _, .nil, h => .cons h .nil
  | _, _, _, _, .cons r t, h => .cons r (paired_snoc t h)
theorem paired_mono {α β : Type} {G G' : α → β → Prop} (k : ∀ a b, G a b → G' a b) : ∀ {l₁ : List α} {l₂ : List β}, Paired G l₁ l₂ → Paired G' l₁ l₂
  | _, _, .nil => .nil
  | _, _, .cons r t => .cons (k _ _ r) (paired_mono k t)
theorem cls_nodup {cs : List (List Ltr)} (h : cs.Pairwise fun x y => dataLt (clD x) (clD y) = true) : cs.Nodup := h.imp fun {a b} z e => by
  rw [e, dataLt_irrefl] at z
  cases z
theorem nofix_tup {H G : Hp} {p a : Addr} {c c1 : Nat} {xs : List V} (hs : Src H p c) (d : Dr H p c1 G) (e : H a = some (.tup xs)) : G a = some (.tup xs) := d.keep e fun z => by
  obtain ⟨ys, hy⟩ := hs.lst
  rw [z, hy] at e
  cases e
def spChained : Sp := fun vs H Q _ => ∃ (p : Addr) (v : V) (c a b m d : Nat) (sy : Say), vs = [.ref p, v] ∧ Src H p c ∧ c ≤ 30000 ∧ Dat H v sy.d ∧ SayOk a b m d sy ∧ a ≤ 6 ∧ b ≤ 8 ∧ d ≤ 40 ∧
  ∀ (v' : V) (sy' : Say) (H' : Hp), Dat H' v' sy'.d → SayOk a b m 40 sy' → Dr H p (c + 200) H' → Q v' H'
abbrev nCh : List Str := ["pot", "saying", "picks", "owns", "clauses", "found", "names", "turn", "at", "other", "letters", "clause", "name", "sight"]
section
variable {P : Program} {w : World} {K : PySem.W.Frag} {mg : Str → Option Value} {base : Heap}
theorem scCh : FnScope nCh ["pot", "saying"] (defScope sLChained) := ⟨rfl, rfl, rfl, by decide +kernel, rfl, by decide +kernel, by decide +kernel⟩
theorem ok_chained {f fP : Addr} {fd fdP : FuncData} (F : Fun K "_law_chained" "_law_chained" sLChained f fd) (Pk : Has K mg "_law_draw" sDraw ["pot", "top"] fP fdP) (B : Blt mg) : FnOk P w K mg base CX0 2 f fd ["pot", "saying"] spChained := by
  have GP : FnOk P w K mg base CX0 1 fP fdP ["pot", "top"] spPick := ok_pick Pk.F B
  refine F.ok scCh (fun vs H Q E h => ?_) (fun cdv A outer s H vs Q E hr h => ?_)
  · obtain ⟨p, v, c, a, b, m, d, sy, rfl, _⟩ := h
    rfl
  · obtain ⟨p, v, c, a, b, m, d, sy, rfl, hs, hc, D, ok, ha, hb, hd, q⟩ := h
    have hu : (A.deeper (envOfC "_law_chained" (defScope sLChained) s.heap.objs.size f cdv)).units + 64 < cLine := hr.units
    have hu16 : (A.deeper (envOfC "_law_chained" (defScope sLChained) s.heap.objs.size f cdv)).units + 16 < cLine := by omega
    refine ⟨_, pss_cons (ps_asg (pv 1) (pg_tup rfl (pgs_cons (pg_name (i := 2) scCh.nd rfl (.inl rfl)) (pgs_cons (pg_name (i := 3) scCh.nd rfl (.inl rfl)) (pgs_cons (pg_name (i := 4) scCh.nd rfl (.inl rfl)) pgs_nil)))))
      (pss_cons (ps_par (i := 5) (j := 6) rfl scCh.nd rfl rfl (by decide) rfl rfl
          (pa_cons (pe_callTy (call_dictN rfl (by exact hu16)) (by rfl) B.dict (by decide +kernel) (pa_cons (pe_lc (own := [("clause", 11)]) (g := gName 11) (tt := tYes) (te := tTup (tCons (tVar 11) (tCons (tC (V.bl true)) tNil))) rfl scCh.nd (pi_tup (pv 4)) (blkOk_by (N := nCh) (sc := defScope sLChained) (by decide +kernel))
              (fun _ _ _ _ _ => pg_name (i := 11) scCh.nd rfl (Or.inl rfl)) (fun _ _ _ _ _ => pts_nil) (fun _ _ _ _ _ => by exact pe_tup (pa_cons (pv 11) (pa_cons pe_bl pa_nil)))) pa_nil))
            (pa_cons (pe_op op_cat (pe_callTy call_list_of (by rfl) B.list (by decide +kernel) (pa_cons (pv 2) pa_nil))
              (pe_lc (own := [("name", 12), ("sight", 13)]) (g := gTup K 2 (gCons (gName 12) (gCons (gName 13) gNil))) (tt := tYes) (te := tVar 12) rfl scCh.nd (pi_tup (pv 3)) (blkOk_by (N := nCh) (sc := defScope sLChained) (by decide +kernel))
                (fun _ _ _ _ _ => by exact pg_tup rfl (pgs_cons (pg_name (i := 12) scCh.nd rfl (.inl rfl)) (pgs_cons (pg_name (i := 13) scCh.nd rfl (.inl rfl)) pgs_nil))) (fun _ _ _ _ _ => pts_nil) (fun _ _ _ _ _ => by exact pv 12))) pa_nil)) (by with_unfolding_all rfl))
      (pss_cons (ps_for PassesOwn.never rfl (pi_range1 rfl B.range (pa_cons (pe_ifExp (pt_cmpR op_gt (pe_callB call_len_seq (by rfl) B.len (by decide +kernel) (pa_cons (pv 6) pa_nil)) pe_int (nomark _)) (pe_call GP hr rfl Pk.g Pk.F.kp Pk.b .nil pass0 (pa_cons (pv 0) (pa_cons pe_int pa_nil))) pe_int) pa_nil)) (pg_name (i := 7) scCh.nd rfl (.inl rfl))
        (pss_cons (ps_set (i := 8) scCh.nd rfl (.inl rfl) (pe_call GP hr rfl Pk.g Pk.F.kp Pk.b .nil pass0 (pa_cons (pv 0) (pa_cons (pe_callB call_len_seq (by rfl) B.len (by decide +kernel) (pa_cons (pv 6) pa_nil)) pa_nil))))
        (pss_cons (ps_set (i := 9) scCh.nd rfl (.inl rfl) (pe_op op_mod (pe_callTy call_int1 (by rfl) B.int (by decide +kernel) (pa_cons (pe_op op_add (pe_op op_add (pv 8) pe_int)
            (pe_call GP hr rfl Pk.g Pk.F.kp Pk.b .nil pass0 (pa_cons (pv 0) (pa_cons (pe_op op_sub (pe_callB call_len_seq (by rfl) B.len (by decide +kernel) (pa_cons (pv 6) pa_nil)) pe_int) pa_nil)))) pa_nil)) (pe_callB call_len_seq (by rfl) B.len (by decide +kernel) (pa_cons (pv 6) pa_nil))))
        (pss_cons (ps_set (i := 10) scCh.nd rfl (.inl rfl) (pe_lst (pa_cons (pe_tup (pa_cons (pe_ix ix_list (pv 6) (pv 8) (fun _ _ => rfl)) (pa_cons (pe_cmpR op_eq (pe_call GP hr rfl Pk.g Pk.F.kp Pk.b .nil pass0 (pa_cons (pv 0) (pa_cons pe_int pa_nil))) pe_int (nomark _)) pa_nil)))
            (pa_cons (pe_tup (pa_cons (pe_ix ix_list (pv 6) (pv 9) (fun _ _ => rfl)) (pa_cons (pe_cmpR op_eq (pe_call GP hr rfl Pk.g Pk.F.kp Pk.b .nil pass0 (pa_cons (pv 0) (pa_cons pe_int pa_nil))) pe_int (nomark _)) pa_nil))) pa_nil))))
        (pss_one (ps_if (pt_cmpR op_lt (pe_callB call_lenN (by rfl) B.len (by decide +kernel) (pa_cons (pv 5) pa_nil)) pe_int (nomark _))
          (pss_one (ps_nput (by exact hu16) (pv 5) (pe_tupleOf rfl B.tuple (pe_callB (cr_sortL (by exact hu)) (by rfl) B.sorted (by decide +kernel) (pa_cons (pv 10) pa_nil))) pe_bl (by rfl))) pss_nil))))))
      (pss_one (ps_ret (pe_tup (pa_cons (pv 2) (pa_cons (pv 3) (pa_cons (pe_tupleOf rfl B.tuple (pe_callB (cr_sortL (by exact hu)) (by rfl) B.sorted (by decide +kernel) (pa_cons (pe_callTy (call_listDn rfl) (by rfl) B.list (by decide +kernel) (pa_cons (pv 5) pa_nil)) pa_nil))) pa_nil)))))))), ?_⟩
    obtain ⟨a0, xs, rfl, e0, h0⟩ := dat_tup D
    obtain ⟨v1, v2, v3, rfl, D1, D2, D3⟩ : ∃ v1 v2 v3, xs = [v1, v2, v3] ∧ Dat H v1 (nmsD sy.picks) ∧ Dat H v2 (.tuple (sy.owns.map ownD)) ∧ Dat H v3 (.tuple (sy.cls.map clD)) := by
      cases h0 with
      | cons h1 h =>
        cases h with
        | cons h2 h =>
          cases h with
          | cons h3 h =>
            cases h
            exact ⟨_, _, _, rfl, h1, h2, h3⟩
    obtain ⟨a1, rfl, e1⟩ := nms_at D1
    obtain ⟨a2, us, rfl, e2, _⟩ := dat_tup D2
    obtain ⟨a3, cs, rfl, e3, h3⟩ := dat_tup D3
    obtain ⟨T, rfl, eT, hT⟩ := rows_of_dat h3 fun d hd => by
      obtain ⟨cl, _, rfl⟩ := List.mem_map.mp hd
      exact ⟨_, rfl⟩
    have lT : T.length = sy.cls.length := by
      have := congrArg List.length eT
      simpa using this.symm
    have lc := ok.cl
    refine ⟨_, rfl, a0, _, rfl, SqT.of e0, rfl, _, _, rfl, _, _, rfl, _, _, rfl, rfl, ?_⟩
    have W0 : Wk H p c [] ([(V.ref a2, PyData.tuple (sy.owns.map ownD)), (V.ref a1, nmsD sy.picks)] ++ rowR T) H := (Wk.start hs).rows fun x hx => .inr (by
      rcases List.mem_append.mp hx with h | h
      · rcases List.mem_cons.mp h with rfl | h
        · exact ⟨keyable_owns _, D2⟩
        · cases List.mem_singleton.mp h
          exact ⟨keyable_nms _, D1⟩
      · obtain ⟨q', hq', rfl⟩ := rowR_mem h
        have m : q'.2 ∈ sy.cls.map clD := eT ▸ List.mem_map_of_mem hq'
        obtain ⟨cl, _, ec⟩ := List.mem_map.mp m
        exact ⟨by rw [← ec]; exact keyable_cl cl, hT q' hq'⟩)
    refine ⟨_, rfl, a3, rfl, ⟨_, SqT.of e3⟩, fun Dl hDl => ?_⟩
    have hDl0 := W0.free hDl
    have D3k : ∀ {G : Hp} {c1 : Nat}, Dr H p c1 G → G a3 = some (.tup (T.map TRow.v)) := fun d => nofix_tup hs d e3
    refine lc_tup (K := K) (a := a3) (xs := T.map TRow.v) (fun j H4 => ∃ ps : List Addr, ps.length = j ∧ Paired (fun (p : Addr) (e : DRow) => H4 p = some (.tup [.ref e.1.1, e.2])) ps ((T.take j).map fun q => (q, V.bl true)) ∧ Wk H p c [(Dl, .lst (ps.map V.ref))] ([(V.ref a2, PyData.tuple (sy.owns.map ownD)), (V.ref a1, nmsD sy.picks)] ++ rowR T) H4)
      ⟨[], rfl, .nil, W0.new hDl⟩ (fun j H4 _ ⟨ps, _, _, W⟩ => SqT.of (D3k W.d)) ?_ ?_
    · rintro j x H4 hx ⟨ps, lp, pr, W⟩
      rw [List.getElem?_map] at hx
      obtain ⟨y, hy, rfl⟩ := Option.map_eq_some_iff.mp hx
      have jl : j < T.length := (List.getElem?_eq_some_iff.mp hy).1
      refine ⟨rfl, yes_of ⟨_, rfl, (by show 2 ≤ sizeLine; decide), fun t ht => ?_⟩⟩
      have W5 := W.new (o := .tup [.ref y.1, .bl true]) ht
      refine ⟨_, W5.at 1 rfl, by rw [List.length_map, lp]; exact small1000 (by omega), ps ++ [t], by rw [List.length_append, lp]; rfl, ?_, ?_⟩
      · have K5 : ∀ b xs, upd H4 t (.tup [.ref y.1, .bl true]) b = some (.tup xs) → upd (upd H4 t (.tup [.ref y.1, .bl true])) Dl (.lst (ps.map V.ref ++ [V.ref t])) b = some (.tup xs) := tk_put fun xs z => by rw [W5.at 1 rfl] at z; cases z
        rw [take_next hy, List.map_append]
        refine paired_snoc (paired_mono (fun b e z => K5 _ _ ?_) pr) (K5 _ _ upd_same)
        rw [upd_ne (ne_of_none z ht)]
        exact z
      · have W6 := (W5.sub (F' := [(Dl, .lst (ps.map V.ref))]) (.cons _ (.refl _))).put (o' := .lst (ps.map V.ref ++ [V.ref t])) 0 rfl hDl0 lst_nt
        rw [List.map_append]
        exact W6
    · rintro H5 ⟨ps, lp, pr, W⟩
      rw [List.length_map, List.take_length] at pr
      have eD : ((T.map fun q => (q, V.bl true)).map Prod.fst) = T := by
        rw [List.map_map]
        exact List.map_id _
      have cd0 : CD (T.map fun q => (q, V.bl true)) sy.cls (sy.picks ++ sy.owns.map Prod.fst) := ⟨by rw [eD, eT], cls_nodup ok.cu, ok.ck⟩
      have kk0 : KeysAt H5 (T.map fun q => (q, V.bl true)) := cd0.keys (by rw [eD]; exact W.rr)
      have nd0 : ((T.map fun q => (q, V.bl true)).map fun e => nkey e.1.2).Nodup := by
        have z : ((T.map fun q => (q, V.bl true)).map fun e => nkey e.1.2) = (sy.cls.map clD).map nkey := by
          rw [eT, List.map_map, List.map_map]
          rfl
        rw [z, List.map_map]
        exact List.pairwise_map.mpr (cd0.nd.imp fun {a b} ne z => ne (nkey_cl.mp z))
      refine ⟨Dl, ps, _, rfl, SqL.of (W.at 0 rfl), pr, kk0, nd0, fun aF hF => ?_⟩
      have hF0 := W.free hF
      have W1 := (W.sub (F' := []) (.cons _ .slnil)).new (o := DnO w aF (T.map fun q => (q, V.bl true))) hF
      refine ⟨_, rfl, a1, _, rfl, .inr (SqT.of (nms_get (W1.row 1 rfl))), fun l0 hl0 => ?_⟩
      have W2 := W1.new (o := .lst (sy.picks.map V.str)) hl0
      obtain ⟨us2, e22, Do⟩ := tup_at (W2.row 0 rfl)
      refine ⟨_, rfl, a2, rfl, ⟨_, SqT.of e22⟩, fun Dn hDn => ?_⟩
      have lO := ok.ol
      refine lc_names (K := K) e22 Do hDn (by omega) (fun _ _ => rfl) (fun _ _ => rfl) fun H6 eL S6 => ?_
      have W3 := (W2.same S6).know eL (W2.d.ne hDn) (W2.no hDn)
      refine ⟨_, _, _, _, rfl, rfl, W3.at 1 rfl, W3.at 0 rfl, ?_, fun l hl => ?_⟩
      · have := ok.pl
        rw [List.length_map, List.length_map, List.length_map]
        exact Nat.le_of_lt (small1000 (by omega))
      rw [← List.map_append]
      have W4 := (W3.new (o := .lst ((sy.picks ++ sy.owns.map Prod.fst).map V.str)) hl).sub (F' := [(l, .lst ((sy.picks ++ sy.owns.map Prod.fst).map V.str)), (aF, DnO w aF (T.map fun q => (q, V.bl true)))]) (.cons₂ _ (.cons _ (.cons _ (.refl _))))
      refine ⟨_, _, rfl, ?_⟩
      have nsl : (sy.picks ++ sy.owns.map Prod.fst).length ≤ 14 := by have := ok.fr.len; omega
      have nsn : (sy.picks ++ sy.owns.map Prod.fst).Nodup := ok.fr.nd
      refine gen_hp (F := fun G => Wk H p c [(l, .lst ((sy.picks ++ sy.owns.map Prod.fst).map V.str)), (aF, DnO w aF (T.map fun q => (q, V.bl true)))] ([(V.ref a2, PyData.tuple (sy.owns.map ownD)), (V.ref a1, nmsD sy.picks)] ++ rowR T) G) W4 (fun G W => ?_)
      clear W1 W2 W3 W4
      generalize hns : sy.picks ++ sy.owns.map Prod.fst = ns at W nsl nsn cd0 ⊢
      refine ⟨_, rfl, _, _, rfl, .inl (SqL.of (W.at 0 rfl)), _, _, rfl, rfl, _, rfl, ?_⟩
      refine ite_te (fun v G => ∃ k : Int, v = .int k ∧ 0 ≤ k ∧ k ≤ 24 ∧ (0 < k → 1 < ns.length) ∧ Wk H p (c + 1) [(l, .lst (ns.map V.str)), (aF, DnO w aF (T.map fun q => (q, V.bl true)))] ([(V.ref a2, PyData.tuple (sy.owns.map ownD)), (V.ref a1, nmsD sy.picks)] ++ rowR T) G)
        (fun v G ⟨k, hv, k0, k1, kn, W⟩ => ?_) (fun hgt R => ?_) (fun _ R => R _ _ ⟨0, rfl, by decide, by decide, fun z => absurd z (by decide), W.up (by omega)⟩)
      · subst hv
        refine ⟨k, rfl, by omega, by omega, ?_⟩
        refine for_range (lo := 0) (n := k.toNat) (fun i σ H' => ∃ (cls : List (List Ltr)) (D : List DRow) (o : HO) (o7 o8 o9 o10 : Option V), σ = [some (.ref p), some (.ref a0), some (.ref a1), some (.ref a2), some (.ref a3), some (.ref aF), some (.ref l), o7, o8, o9, o10, none, none, none] ∧
          DnS w aF D o ∧ CD D cls ns ∧ cls.length ≤ 40 ∧ Wk H p (c + 1 + 4 * i) [(l, .lst (ns.map V.str)), (aF, o)] ([(V.ref a2, PyData.tuple (sy.owns.map ownD)), (V.ref a1, nmsD sy.picks)] ++ rowR (D.map Prod.fst)) H') ?_ ?_ ?_
        · exact ⟨sy.cls, _, _, _, _, _, _, rfl, .inl rfl, cd0, by omega, by rw [eD]; exact W⟩
        · rintro i σ H' hi ⟨cls, D, o, o7, o8, o9, o10, rfl, hD, cd, lcs, W⟩
          have n2 : 1 < ns.length := kn (by omega)
          have i24 : i ≤ 24 := by omega
          refine ⟨_, rfl, _, rfl, _, _, rfl, .inl (SqL.of (W.at 0 rfl)), p, _, _, rfl, W.s, by omega, by rw [List.length_map]; omega, by rw [List.length_map]; omega, fun r1 u1 r10 r11 hp1 => ?_⟩
          rw [List.length_map] at r11
          have W1 := W.src hp1
          refine ⟨_, rfl, _, _, rfl, rfl, _, rfl, _, rfl, _, _, rfl, .inl (SqL.of (W1.at 0 rfl)), _, _, rfl, rfl, p, _, _, rfl, W1.s, by omega, by rw [List.length_map]; omega, by rw [List.length_map]; omega, fun r2 u2 r20 r21 hp2 => ?_⟩
          rw [List.length_map] at r21
          have W2 := W1.src hp2
          refine ⟨_, _, rfl, rfl, .inl ⟨_, rfl, _, rfl, _, _, rfl, .inl (SqL.of (W2.at 0 rfl)), _, _, rfl, rfl, by rw [List.length_map]; omega, ?_⟩⟩
          rw [List.length_map]
          obtain ⟨q0, q1, qne⟩ := other_of r10 r11 r20 r21
          generalize upd (upd H' p u1) p u2 = H2 at W2 ⊢
          clear W W1
          have l1 : r1.toNat < ns.length := by omega
          have l2 : ((r1 + 1 + r2) % (ns.length : Int)).toNat < ns.length := by omega
          have hat : ∀ {z : Int} (z0 : 0 ≤ z) (zl : z.toNat < ns.length), atI (ns.map V.str) z = some (V.str ns[z.toNat]) := fun {z} z0 zl => by
            have h := atI_nat (xs := ns.map V.str) (j := z.toNat) (v := V.str ns[z.toNat]) (by rw [List.getElem?_map, List.getElem?_eq_getElem zl]; rfl)
            rwa [Int.toNat_of_nonneg z0] at h
          have xne : ns[r1.toNat] ≠ ns[((r1 + 1 + r2) % (ns.length : Int)).toNat] := fun z => by
            have := (List.getElem_inj nsn).mp z
            omega
          have hat1 := hat r10 l1
          have hat2 := hat q0 l2
          have m1 : ns[r1.toNat] ∈ ns := List.getElem_mem _
          have m2 : ns[((r1 + 1 + r2) % (ns.length : Int)).toNat] ∈ ns := List.getElem_mem _
          generalize ns[r1.toNat] = x1 at hat1 xne m1
          generalize ns[((r1 + 1 + r2) % (ns.length : Int)).toNat] = x2 at hat2 xne m2
          refine ⟨_, rfl, _, rfl, l, _, r1, _, rfl, rfl, SqL.of (W2.at 0 rfl), hat1, _, rfl, p, _, 2, rfl, W2.s, by omega, by decide, by decide, fun r3 u3 _ _ hp3 => ⟨rfl, (by show 2 ≤ sizeLine; decide), fun t1 ht1 => ?_⟩⟩
          have W3 := W2.src hp3
          have W4 := W3.new (o := .tup [.str x1, .bl (decide (V.int r3 = V.int 0))]) ht1
          have W5 := ((W4.addR (v := V.ref t1) (d := ltD (x1, decide (V.int r3 = V.int 0))) rfl (.tup (W4.at 0 rfl) (.cons (.str _) (.cons (.bl _) .nil)))).sub (F' := [(l, .lst (ns.map V.str)), (aF, o)]) (.cons _ (.refl _)))
          refine gen_hp (F := fun G => Wk H p (c + 1 + 4 * i + 1 + 1 + 1) [(l, .lst (ns.map V.str)), (aF, o)] ((V.ref t1, ltD (x1, decide (V.int r3 = V.int 0))) :: ([(V.ref a2, PyData.tuple (sy.owns.map ownD)), (V.ref a1, nmsD sy.picks)] ++ rowR (D.map Prod.fst))) G) W5 (fun G W => ?_)
          clear W5 W4 W3 W2
          generalize decide (V.int r3 = V.int 0) = b1 at W
          refine ⟨_, rfl, _, rfl, l, _, _, _, rfl, rfl, SqL.of (W.at 0 rfl), hat2, _, rfl, p, _, 2, rfl, W.s, by omega, by decide, by decide, fun r4 u4 _ _ hp4 => ⟨rfl, (by show 2 ≤ sizeLine; decide), fun t2 ht2 => ⟨(by show 2 ≤ sizeLine; decide), fun lL hlL => ?_⟩⟩⟩
          have W3 := W.src hp4
          have W4 := W3.new (o := .tup [.str x2, .bl (decide (V.int r4 = V.int 0))]) ht2
          have W5 := ((W4.addR (v := V.ref t2) (d := ltD (x2, decide (V.int r4 = V.int 0))) rfl (.tup (W4.at 0 rfl) (.cons (.str _) (.cons (.bl _) .nil)))).sub (F' := [(l, .lst (ns.map V.str)), (aF, o)]) (.cons _ (.refl _)))
          have W6 := W5.new (o := .lst [.ref t1, .ref t2]) hlL
          refine gen_hp (F := fun G => Wk H p (c + 1 + 4 * i + 4) [(lL, .lst [.ref t1, .ref t2]), (l, .lst (ns.map V.str)), (aF, o)] ((V.ref t2, ltD (x2, decide (V.int r4 = V.int 0))) :: (V.ref t1, ltD (x1, b1)) :: ([(V.ref a2, PyData.tuple (sy.owns.map ownD)), (V.ref a1, nmsD sy.picks)] ++ rowR (D.map Prod.fst))) G) W6 (fun G W => ?_)
          clear W6 W5 W4 W3
          generalize decide (V.int r4 = V.int 0) = b2 at W
          have hDat : ∀ {G : Hp} {c1 : Nat} {F1 : List (Addr × HO)} {R1 : List (V × PyData)}, Wk H p c1 F1 (R1 ++ ([(V.ref a2, PyData.tuple (sy.owns.map ownD)), (V.ref a1, nmsD sy.picks)] ++ rowR (D.map Prod.fst))) G → ∀ q ∈ D.map Prod.fst, Dat G q.v q.2 := fun W q hq => (W.r (q.v, q.2) (List.mem_append_right _ (List.mem_append_right _ (List.mem_map.mpr ⟨q, hq, rfl⟩)))).2
          refine ⟨_, rfl, aF, D, rfl, hD.at (W.at 2 rfl), cd.keys (hDat (R1 := [_, _]) W), _, _, rfl, rfl, _, rfl, ?_⟩
          refine ite2 (fun hlt => ?_) (fun _ => ?_)
          · have hlt2 := of_decide_eq_true hlt
            have l40 : cls.length < 40 := by rw [← cd.len]; omega
            refine ⟨_, rfl, _, rfl, lL, [(t1, ltD (x1, b1)), (t2, ltD (x2, b2))], rfl, SqL.of (W.at 0 rfl), fun q hq => ?_, sorty_of (f := ltD) (l := [(x1, b1), (x2, b2)]) rfl alike_lt (fun x => ⟨_, rfl⟩) (fun x => by have := depth_lt x; omega), fun T' b9 pm _ up hb9 => .inl ⟨b9, _, rfl, SqL.of upd_same, fun t ht => ?_⟩⟩
            · rcases List.mem_cons.mp hq with rfl | hq
              · exact W.row 1 rfl
              · cases List.mem_singleton.mp hq
                exact W.row 0 rfl
            · have W2 := W.new' (o := .lst (T'.map TRow.v)) hb9
              have W3 := W2.new (o := .tup (T'.map TRow.v)) ht
              obtain ⟨cl', Dc, ck⟩ := clause_of (cl := [(x1, b1), (x2, b2)]) (ws := ns) rfl (by simp [xne]) (fun l hl => by
                rcases List.mem_cons.mp hl with rfl | hl
                · exact m1
                · cases List.mem_singleton.mp hl
                  exact m2) pm up (fun q hq => by
                rcases List.mem_cons.mp hq with rfl | hq
                · exact W3.row 1 rfl
                · cases List.mem_singleton.mp hq
                  exact W3.row 0 rfl) (W3.at 0 rfl)
              obtain ⟨cls', cd', lc', mem'⟩ := cd.put (r := t) (v := V.bl true) ck
              refine ⟨aF, t, D, clD cl', rfl, rfl, hD.at (W3.at 3 rfl), cd.keys (hDat (R1 := [_, _]) W3), Dc, keyable_cl cl', by have := depth_cl cl'; omega, by rw [cd.len]; exact small1000 (by omega), ?_⟩
              refine ⟨cls', _, _, _, _, _, _, rfl, .inl rfl, cd', by omega, ?_⟩
              have W4 := ((W3.addR (keyable_cl cl') Dc).sub (F' := [(l, .lst (ns.map V.str)), (aF, o)]) (.cons _ (.cons _ (.refl _)))).put (o' := DnO w aF (putN D (t, clD cl') (V.bl true))) 1 rfl hF0 hD.nt
              refine (W4.rows fun x hx => .inl ?_).up (by omega)
              rcases List.mem_append.mp hx with y | y
              · exact List.mem_cons_of_mem _ (List.mem_cons_of_mem _ (List.mem_cons_of_mem _ (List.mem_append_left _ y)))
              · obtain ⟨q', hq', rfl⟩ := rowR_mem y
                rcases mem' q' hq' with y | rfl
                · exact List.mem_cons_of_mem _ (List.mem_cons_of_mem _ (List.mem_cons_of_mem _ (List.mem_append_right _ (List.mem_map.mpr ⟨q', y, rfl⟩))))
                · exact List.mem_cons_self
          · exact ⟨cls, D, o, _, _, _, _, rfl, hD, cd, lcs, ((W.sub (F' := [(l, .lst (ns.map V.str)), (aF, o)]) (.cons _ (.refl _))).rows fun x hx => .inl (List.mem_cons_of_mem _ (List.mem_cons_of_mem _ hx))).up (by omega)⟩
        · rintro σ H' ⟨cls, D, o, o7, o8, o9, o10, rfl, hD, cd, lcs, W⟩
          refine ⟨_, rfl, _, rfl, _, rfl, aF, D, rfl, hD.at (W.at 1 rfl), cd.keys W.rr, fun bL hbL => ?_⟩
          have W2 := W.new (o := .lst ((D.map Prod.fst).map TRow.v)) hbL
          refine ⟨bL, D.map Prod.fst, rfl, SqL.of (W2.at 0 rfl), W2.rr, cd.sorty, fun T' b9 pm2 _ up2 hb9 => .inl ⟨b9, _, rfl, SqL.of upd_same, fun t ht => ⟨(by show 3 ≤ sizeLine; decide), fun t3 ht3 => ?_⟩⟩⟩
          have W3 := W2.new' (o := .lst (T'.map TRow.v)) hb9
          have W4 := W3.new (o := .tup (T'.map TRow.v)) ht
          have W5 := W4.new (o := .tup [.ref a1, .ref a2, .ref t]) ht3
          obtain ⟨cls', e', up', ok', len'⟩ := cd.sorted pm2 up2
          have Dcs : Dat (upd (upd (upd (upd H' bL (.lst ((D.map Prod.fst).map TRow.v))) b9 (.lst (T'.map TRow.v))) t (.tup (T'.map TRow.v))) t3 (.tup [.ref a1, .ref a2, .ref t])) (.ref t) (.tuple (cls'.map clD)) := by
            rw [← e']
            exact .tup (W5.at 1 rfl) (dats_rows fun q' hq' => W5.rr q' (pm2.mem_iff.mp hq'))
          refine q _ ⟨sy.picks, sy.owns, cls'⟩ _ (.tup (W5.at 0 rfl) (.cons (W5.row 1 rfl) (.cons (W5.row 0 rfl) (.cons Dcs .nil)))) ⟨ok.pu, ok.pn, ok.pl, ok.ou, ok.on, ok.ol, ok.oc, up', fun cl hc => by have z := ok' cl hc; rw [← hns] at z; exact z, ?_⟩ (W5.d.up (by omega))
          show cls'.length ≤ 40
          omega
      · have h2 := of_decide_eq_true hgt
        rw [List.length_map] at h2
        refine ⟨_, rfl, p, _, 25, rfl, W.s, by omega, by decide, by decide, fun r o r0 r1 hp1 => R _ _ ⟨r, rfl, r0, by omega, fun _ => by omega, W.src hp1⟩⟩
end
end S1

set_option Elab.async false
set_option linter.all false
set_option maxRecDepth 100000
set_option maxHeartbeats 4000000
/-! what is the same is told to be the same, by its text -/
namespace S1
open PySem PySem.W PySem.Spec PyProof.Rows L2
/-- may be shown -/
structure Rpr (e : PyData) : Prop where
  s : e.showable = true
  d : e.depth ≤ 50
  z : e.shown.length ≤ sizeLine
def spLSame : Sp := fun vs H Q _ => ∃ (x y : V) (d : PyData), vs = [x, y] ∧ Dat H x d ∧ Dat H y d ∧ Rpr d ∧ Q (.bl true) H
section
variable {P : Program} {w : World} {K : PySem.W.Frag} {mg : Str → Option Value} {base : Heap}
theorem scLSm : FnScope ["told", "due"] ["told", "due"] (defScope sLSame) := ⟨rfl, rfl, rfl, by decide +kernel, rfl, by decide +kernel, by decide +kernel⟩
theorem ok_lSame {f : Addr} {fd : FuncData} (F : Fun K "_law_same" "_law_same" sLSame f fd) (zr : mg "repr" = none) : FnOkG P w K mg base 1 f fd ["told", "due"] spLSame := by
  refine F.okG scLSm (fun vs H Q E h => ?_) (fun cdv A outer s H vs Q E hG0 hr h => ?_)
  · obtain ⟨x, y, d, rfl, _⟩ := h
    rfl
  · obtain ⟨x, y, d, rfl, D1, D2, r, q⟩ := h
    have hG : (A.deeper (envOfC "_law_same" (defScope sLSame) s.heap.objs.size f cdv)).guards = some [] := hG0
    have hu : (A.deeper (envOfC "_law_same" (defScope sLSame) s.heap.objs.size f cdv)).units + 64 < cLine := hr.units
    refine ⟨_, pss_one (ps_ret (pe_cmpR op_eq (pe_callB (call_reprD hG (by exact hu)) (by rfl) zr (by decide +kernel) (pa_cons (pv 0) pa_nil)) (pe_callB (call_reprD hG (by exact hu)) (by rfl) zr (by decide +kernel) (pa_cons (pv 1) pa_nil)) (nomark _))), ?_⟩
    refine ⟨_, rfl, x, d, rfl, D1, r.s, r.d, r.z, _, rfl, y, d, rfl, D2, r.s, r.d, r.z, ?_⟩
    refine (show rEq (V.str d.shown) (V.str d.shown) H Q from ⟨rfl, ?_⟩)
    rw [decide_eq_true rfl]
    exact q
end
end S1

set_option Elab.async false
set_option linter.all false
set_option maxRecDepth 100000
set_option maxHeartbeats 1000000
/-! how long a shown saying is -/
namespace S1
open PySem PySem.W PySem.Spec PyProof.Rows L2
theorem listText_le : ∀ ts : List Str, (listText ts).length ≤ piled ts + 2
  | [] => by decide
  | t :: r => by
    have h := textFrom_length_pos r 1 (("[" : Str) ++ (if (0 : Nat) > 0 then ", " else "" : String) ++ t) (Nat.succ_pos 0)
    have e1 : (("[" : Str) ++ (if (0 : Nat) > 0 then ", " else "" : String) ++ t).length = 1 + t.length := by
      rw [strLen_append, strLen_append]
      rfl
    have e2 : (listText (t :: r)).length = (textFrom 1 (("[" : Str) ++ (if (0 : Nat) > 0 then ", " else "" : String) ++ t) r).length + 1 := by
      show (textFrom 1 _ r ++ "]").length = _
      rw [strLen_append]
      rfl
    rw [piled_cons]
    omega
theorem join_le (ts : List Str) : (Str.join ", " ts).length ≤ piled ts := by
  by_cases h : ts = []
  · subst h
    decide
  · have := join_length_add ts h
    omega
theorem tupleText_le (ts : List Str) : (tupleText ts).length ≤ piled ts + 3 := by
  have h := join_le ts
  unfold tupleText
  rw [strLen_append, strLen_append]
  have e1 : ((("(" : String) : Str)).length = 1 := rfl
  have e3 : (((if ts.length == 1 then ",)" else ")" : String) : Str)).length ≤ 2 := by split <;> decide
  omega
theorem piled_le {b : Nat} : ∀ ts : List Str, (∀ t ∈ ts, t.length ≤ b) → piled ts ≤ ts.length * (b + 2)
  | [], _ => Nat.zero_le _
  | t :: r, h => by
    have h1 := h t (List.mem_cons_self ..)
    have h2 := piled_le r fun u hu => h u (List.mem_cons_of_mem _ hu)
    rw [piled_cons, List.length_cons, Nat.succ_mul]
    omega
/-- it can be shown, in a text of at most b signs, k deep -/
structure Shw (b k : Nat) (d : PyData) : Prop where
  s : d.showable = true
  z : d.shown.length ≤ b
  d : d.depth ≤ k
theorem Shw.up {b b' k k' : Nat} {d : PyData} (h : Shw b k d) (hb : b ≤ b') (hk : k ≤ k') : Shw b' k' d := ⟨h.s, Nat.le_trans h.z hb, Nat.le_trans h.d hk⟩
theorem shw_all {b k : Nat} : ∀ ds : List PyData, (∀ d ∈ ds, Shw b k d) → PyData.showableAll ds = true ∧ PyData.depthAll ds ≤ k ∧ (∀ t ∈ PyData.shownAll ds, t.length ≤ b) ∧ (PyData.shownAll ds).length = ds.length
  | [], _ => ⟨by simp only [PyData.showableAll], by simp only [PyData.depthAll]; omega, (fun t h => by simp only [PyData.shownAll] at h; exact nomatch h), by simp only [PyData.shownAll]; rfl⟩
  | d :: ds, h => by
    have h1 := h d (List.mem_cons_self ..)
    obtain ⟨a, b, c, e⟩ := shw_all ds fun x hx => h x (List.mem_cons_of_mem _ hx)
    refine ⟨by simp only [PyData.showableAll, h1.s, a, Bool.and_self], ?_, fun t ht => ?_, ?_⟩
    · simp only [PyData.depthAll]
      exact Nat.max_le.mpr ⟨h1.d, b⟩
    · simp only [PyData.shownAll, List.mem_cons] at ht
      rcases ht with rfl | ht
      · exact h1.z
      · exact c t ht
    · simp only [PyData.shownAll, List.length_cons, e]
theorem shw_tup {b k n : Nat} {ds : List PyData} (h : ∀ d ∈ ds, Shw b k d) (hl : ds.length ≤ n) : Shw (n * (b + 2) + 3) (k + 1) (.tuple ds) := by
  obtain ⟨a, dd, c, e⟩ := shw_all ds h
  refine ⟨by simp only [PyData.showable, a], ?_, by simp only [PyData.depth]; omega⟩
  simp only [PyData.shown]
  have h1 := tupleText_le (PyData.shownAll ds)
  have h2 := piled_le _ c
  have h3 : (PyData.shownAll ds).length * (b + 2) ≤ n * (b + 2) := Nat.mul_le_mul_right _ (by omega)
  omega
theorem shw_lst {b k n : Nat} {ds : List PyData} (h : ∀ d ∈ ds, Shw b k d) (hl : ds.length ≤ n) : Shw (n * (b + 2) + 3) (k + 1) (.list ds) := by
  obtain ⟨a, dd, c, e⟩ := shw_all ds h
  refine ⟨by simp only [PyData.showable, a], ?_, by simp only [PyData.depth]; omega⟩
  simp only [PyData.shown]
  have h1 := listText_le (PyData.shownAll ds)
  have h2 := piled_le _ c
  have h3 : (PyData.shownAll ds).length * (b + 2) ≤ n * (b + 2) := Nat.mul_le_mul_right _ (by omega)
  omega
theorem shw_map {α : Type} {b k n : Nat} {f : α → PyData} {l : List α} (h : ∀ x ∈ l, Shw b k (f x)) (hl : l.length ≤ n) : Shw (n * (b + 2) + 3) (k + 1) (.tuple (l.map f)) := shw_tup (fun d hd => by
  obtain ⟨x, hx, rfl⟩ := List.mem_map.mp hd
  exact h x hx) (by rw [List.length_map]; exact hl)
theorem shw_bl (b : Bool) : Shw 5 0 (.bool b) := by cases b <;> exact ⟨rfl, by decide, Nat.le_refl _⟩
theorem shw_nm {x : Str} (h : Nm x) : Shw 82 0 (.str x) := by
  refine ⟨rfl, ?_, Nat.le_refl _⟩
  simp only [PyData.shown]
  have := StrLaws.reprText_len x fun c hc => Nat.lt_of_le_of_lt (h.az c hc).2 (by decide)
  have := h.hi
  omega
theorem shw_nms {xs : List Str} (h : ∀ x ∈ xs, Nm x) (hl : xs.length ≤ 6) : Shw 507 1 (nmsD xs) := shw_map (n := 6) (fun x hx => shw_nm (h x hx)) hl
theorem shw_say {c : Nat} {s : Say} (ok : SayOk 6 8 c 40 s) : Shw 300000 5 s.d := by
  have hp : Shw 507 1 (nmsD s.picks) := shw_nms ok.pn ok.pl
  have ho : Shw 8187 3 (.tuple (s.owns.map ownD)) := shw_map (b := 1021) (k := 2) (n := 8) (fun o m => by
    have og := ok.own m
    refine shw_tup (b := 507) (k := 1) (n := 2) (ds := [.str o.1, nmsD o.2]) (fun d hd => ?_) (Nat.le_refl _)
    rcases List.mem_cons.mp hd with rfl | hd
    · exact (shw_nm (ok.on o m).1).up (by decide) (by decide)
    · cases List.mem_singleton.mp hd
      exact shw_nms (fun x hx => ok.pn x ((ok.on o m).2.2.2 x hx)) (Nat.le_trans og.le ok.pl)) ok.ol
  have hn : ∀ x ∈ s.names, Nm x := fun x hx => by
    rcases List.mem_append.mp hx with m | m
    · exact ok.pn x m
    · obtain ⟨o, mo, rfl⟩ := List.mem_map.mp m
      exact (ok.on o mo).1
  have hc : Shw 97083 3 (.tuple (s.cls.map clD)) := shw_map (b := 2425) (k := 2) (n := 40) (fun cl m => by
    have ck := ok.ck cl m
    have lc : cl.length ≤ 14 := Nat.le_trans (cl_len ck) ok.nlen
    refine shw_map (b := 171) (k := 1) (n := 14) (fun l ml => ?_) lc
    refine shw_tup (b := 82) (k := 0) (n := 2) (ds := [.str l.1, .bool l.2]) (fun d hd => ?_) (Nat.le_refl _)
    rcases List.mem_cons.mp hd with rfl | hd
    · exact shw_nm (hn _ (ck.mem l ml))
    · cases List.mem_singleton.mp hd
      exact (shw_bl _).up (by decide) (by decide)) ok.cl
  exact (shw_tup (b := 97083) (k := 3) (n := 3) (ds := [nmsD s.picks, .tuple (s.owns.map ownD), .tuple (s.cls.map clD)]) (fun d hd => by
    rcases List.mem_cons.mp hd with rfl | hd
    · exact hp.up (by decide) (by decide)
    rcases List.mem_cons.mp hd with rfl | hd
    · exact ho.up (by decide) (by decide)
    · cases List.mem_singleton.mp hd
      exact hc) (Nat.le_refl _)).up (by decide) (by decide)
end S1

set_option Elab.async false
set_option linter.all false
set_option maxRecDepth 100000
set_option maxHeartbeats 4000000
/-! a call of a def by keywords alone -/
namespace S1
open PySem PySem.W PySem.Spec PyProof.Rows L2
/-- how a call by keywords alone binds: g puts their values in the parameters' order -/
structure KB0 (K : PySem.W.Frag) (fd : FuncData) (ps ks : List Str) (g : List Value → List Value) (gV : List V → List V) : Prop where
  to : ∀ (s : Shared) (ws : List Value), K.In s.heap → ws.length = ks.length → BindsTo s fd ⟨[], ks.zip ws⟩ (ps.zip (g ws))
  rel : ∀ {zs : List V} {ws : List Value}, Vals zs ws → Vals (gV zs) (g ws)
def tCallK0 (sp : Sp) (gV : List V → List V) (n : Nat) (E : XK) (tk : TA) : TE := fun σ H Q => tk σ H fun zs H2 => zs.length = n ∧ sp (gV zs) H2 Q E
section
variable {X : Cx} {CX : CXT} {k : Nat} {f : Addr} {fd : FuncData} {ps ks : List Str} {sp : Sp} {E : XK} {x : Str} {p pos : Pos} {kws : List Keyword} {tk : TA} {g : List Value → List Value} {gV : List V → List V}
theorem run_fnk0 {pins : List (Addr × Obj)} {σ : L2.St} {H : Hp} {s : Shared} {Q : VK} {ws : List Value} {zs : List V} (F : FnOk X.prog X.w X.K X.mg X.base CX k f fd ps sp) (hr : Room k X.A) (hb : KB0 X.K fd ps ks g gV) (hx : Passes CX X E)
    (I : Inv X pins σ H s) (rz : Vals zs ws) (hn : zs.length = ks.length) (h : sp (gV zs) H Q E) : wpAny (model X.prog X.w) X.A (call (.ref f) [] (ks.zip ws)) (EP X pins σ Q) X.xe s := by
  have r2 := hb.rel rz
  have hl : ws.length = ks.length := by rw [← rz.length]; exact hn
  refine wpAny_call (codeAny_mono (F.run X.A X.stack s H ⟨[], ks.zip ws⟩ (g ws) (gV zs) Q E hr I.env0 (hb.to s ws I.kIn hl) r2 h) fun r s' hq => ?_)
  cases r with
  | error e => exact hx pins σ H s e s' I hq
  | ok fl =>
    cases fl with
    | ret u => exact I.after hq
    | next => exact False.elim hq
    | brk => exact False.elim hq
    | cont => exact False.elim hq
/-- f(k = v, ..) -/
theorem pe_callK0 (F : FnOk X.prog X.w X.K X.mg X.base CX k f fd ps sp) (hr : Room k X.A) (hg : Gl X x) (hm : X.mg x = some (.ref f)) (hk : PySem.W.keepIn X.K (.ref f) = true) (hb : KB0 X.K fd ps ks g gV) (hx : Passes CX X E)
    (hkw : PK X kws tk) (hall : (backToKw pos (keywordEach kws X.env)).all (·.1.isSome) = true := by rfl) (hks : (backToKw pos (keywordEach kws X.env)).filterMap (·.1) = ks := by rfl)
    (hdb : (x == ("__debug__" : Str)) = false := by decide)
    (hpl : ((backTo pos (starEach [] X.env)).any (·.1) || (backToKw pos (keywordEach kws X.env)).any (·.1.isNone)) = false := by rfl) :
    PE X (.Call (.Name x p) [] kws pos) (tCallK0 sp gV ks.length E tk) := by
  refine ⟨fun pins s σ H Q I h => ?_⟩
  refine wpAny_Call_Name_kw (ld_glob I hg hm ?_ hdb)
  refine PySem.W.callWith_KW0 (h₀ := X.base) I.ok.mod.kin hk hall (thn (hkw.run pos pins s σ H _ I h) fun ws s2 ⟨zs, H2, I2, rz, hn, q2⟩ => ⟨I2.kIn, ?_⟩) hpl
  rw [hks]
  exact run_fnk0 F hr hb hx I2 rz hn q2
end
section
variable {K : PySem.W.Frag}
theorem vals_rev {zs : List V} {ws : List Value} (h : Vals zs ws) : Vals zs.reverse ws.reverse := by
  induction h with
  | nil => exact .nil
  | cons a b ih =>
    rw [List.reverse_cons, List.reverse_cons]
    exact Vals.append ih (.cons a .nil)
/-- the keywords in the parameters' order -/
theorem Fun.kb1 {x qual a : Str} {st : Stmt} {f : Addr} {fd : FuncData} (F : Fun K x qual st f fd)
    (h : ∀ (kV doc pm : Value) (an : Option Addr) (cdv ct u : Value), bindArgs (PySem.W.fnOf x qual (defArgs st) (defBody st) (defScope st) .none kV doc pm an cdv ct) ⟨[], [(a, u)]⟩ = pure [(a, u)]) : KB0 K fd [a] [a] id id := by
  obtain ⟨oc, od, kV, doc, pm, an, cdv, ct, osl, rfl, lk, hcd⟩ := F.ex
  refine ⟨fun s ws X l => ?_, fun r => r⟩
  match ws, l with
  | [u], _ => exact .of_eq (h kV doc pm an cdv ct u)
/-- three keywords, the last first -/
theorem Fun.kb3 {x qual a b c : Str} {st : Stmt} {f : Addr} {fd : FuncData} (F : Fun K x qual st f fd)
    (h : ∀ (kV doc pm : Value) (an : Option Addr) (cdv ct u v z : Value), bindArgs (PySem.W.fnOf x qual (defArgs st) (defBody st) (defScope st) .none kV doc pm an cdv ct) ⟨[], [(c, u), (b, v), (a, z)]⟩ = pure [(a, z), (b, v), (c, u)]) : KB0 K fd [a, b, c] [c, b, a] List.reverse List.reverse := by
  obtain ⟨oc, od, kV, doc, pm, an, cdv, ct, osl, rfl, lk, hcd⟩ := F.ex
  refine ⟨fun s ws X l => ?_, fun r => ?_⟩
  · match ws, l with
    | [u, v, z], _ => exact .of_eq (h kV doc pm an cdv ct u v z)
  · exact vals_rev r
end
end S1

set_option Elab.async false
set_option linter.all false
set_option maxRecDepth 100000
set_option maxHeartbeats 4000000
/-! what is told, and what is due, are alike; it may be shown -/
namespace S1
open PySem PySem.W PySem.Spec PyProof.Rows L2
theorem rise_unique {α : Type} {r : α → α → Prop} (irr : ∀ x, ¬ r x x) (tr : ∀ {x y z}, r x y → r y z → r x z) : ∀ {xs ys : List α}, xs.Pairwise r → ys.Pairwise r → (∀ x, x ∈ xs ↔ x ∈ ys) → xs = ys
  | [], [], _, _, _ => rfl
  | [], y :: ys, _, _, h => absurd ((h y).mpr List.mem_cons_self) (by simp)
  | x :: xs, [], _, _, h => absurd ((h x).mp List.mem_cons_self) (by simp)
  | x :: xs, y :: ys, h1, h2, h => by
    obtain ⟨a1, a2⟩ := List.pairwise_cons.mp h1
    obtain ⟨b1, b2⟩ := List.pairwise_cons.mp h2
    have e : x = y := by
      rcases List.mem_cons.mp ((h x).mp List.mem_cons_self) with z | z
      · exact z
      · rcases List.mem_cons.mp ((h y).mpr List.mem_cons_self) with w | w
        · exact w.symm
        · exact absurd (tr (b1 x z) (a1 y w)) (irr y)
    subst e
    congr 1
    refine rise_unique irr tr a2 b2 fun z => ⟨fun hz => ?_, fun hz => ?_⟩
    · rcases List.mem_cons.mp ((h z).mp (List.mem_cons_of_mem _ hz)) with w | w
      · subst w
        exact absurd (a1 z hz) (irr z)
      · exact w
    · rcases List.mem_cons.mp ((h z).mpr (List.mem_cons_of_mem _ hz)) with w | w
      · subst w
        exact absurd (b1 z hz) (irr z)
      · exact w
theorem RchOk.uniq {s : Say} {ws : List Str} {l0 : Ltr} {L M : List Ltr} (h1 : RchOk s ws l0 L) (h2 : RchOk s ws l0 M) : L = M :=
  rise_unique (r := ltLt) (fun x z => by unfold ltLt at z; rw [dataLt_irrefl] at z; cases z) (fun {x y z} a b => dataLt_trans a b) h1.up h2.up fun m => (h1.mem m).trans (h2.mem m).symm
theorem Reach.univ {s : Say} (ok : SayOk 6 8 120 40 s) {ws : List Str} {l0 m : Ltr} (h : Reach s ws l0 m) : m ∈ univ s := by
  cases h with
  | start h => exact bes_univ ok h
  | step _ h => exact bes_univ ok h
theorem rpr_of {b k : Nat} {d : PyData} (h : Shw b k d) (hb : b ≤ 16000000) (hk : k ≤ 50) : Rpr d := ⟨h.s, Nat.le_trans h.d hk, Nat.le_trans h.z (Nat.le_trans hb (by decide))⟩
theorem ltLt_nd {L : List Ltr} (h : L.Pairwise ltLt) : L.Nodup := h.imp fun {a b} z e => by
  unfold ltLt at z
  rw [e, dataLt_irrefl] at z
  cases z
theorem RchOk.len {s : Say} (ok : SayOk 6 8 120 40 s) {ws : List Str} {l0 : Ltr} {L : List Ltr} (h : RchOk s ws l0 L) : L.length ≤ 28 := by
  have z := nodup_le (m := S1.univ s) (ltLt_nd h.up) fun m hm => ((h.mem m).mp hm).univ ok
  have y := univ_len s.names
  have x := ok.nlen
  unfold S1.univ at z
  omega
theorem RchOk.nm {s : Say} (ok : SayOk 6 8 120 40 s) {ws : List Str} {l0 : Ltr} {L : List Ltr} (h : RchOk s ws l0 L) {m : Ltr} (hm : m ∈ L) : Nm m.1 := by
  have z := ((h.mem m).mp hm).univ ok
  unfold S1.univ at z
  obtain ⟨n, hn, hz⟩ := List.mem_flatMap.mp z
  have e : m.1 = n := by
    rcases List.mem_cons.mp hz with rfl | hz
    · rfl
    · cases List.mem_singleton.mp hz
      rfl
  rw [e]
  exact ok.nm n hn
theorem RchOk.rpr {s : Say} (ok : SayOk 6 8 120 40 s) {ws : List Str} {l0 : Ltr} {L : List Ltr} (h : RchOk s ws l0 L) : Rpr (clD L) := by
  refine rpr_of (shw_map (b := 171) (k := 1) (n := 28) (f := ltD) (fun l ml => ?_) (h.len ok)) (by decide) (by decide)
  refine shw_tup (b := 82) (k := 0) (n := 2) (ds := [.str l.1, .bool l.2]) (fun d hd => ?_) (Nat.le_refl _)
  rcases List.mem_cons.mp hd with rfl | hd
  · exact shw_nm (h.nm ok ml)
  · cases List.mem_singleton.mp hd
    exact (shw_bl _).up (by decide) (by decide)
theorem rpr_bl (b : Bool) : Rpr (.bool b) := rpr_of (shw_bl b) (by decide) (by decide)
theorem vw_sub {s : Say} {x n : Str} (h : n ∈ vw s x) : n ∈ s.owns.map Prod.fst := by
  unfold vw at h
  obtain ⟨o, ho, rfl⟩ := List.mem_map.mp h
  exact List.mem_map_of_mem (List.mem_filter.mp ho).1
end S1

set_option Elab.async false
set_option linter.all false
set_option maxRecDepth 100000
set_option maxHeartbeats 4000000
/-! rows of letters: the same as sorted without doubles; what the judges ask, apart -/
namespace S2
open PySem PySem.W PySem.Spec PyProof.Rows L2 S1 RZ
theorem eqvAll_lt : ∀ L M : List Ltr, PyData.eqvAll (L.map ltD) (M.map ltD) = decide (L = M)
  | [], [] => rfl
  | [], m :: M => by simp [PyData.eqvAll]
  | l :: L, [] => by simp [PyData.eqvAll]
  | l :: L, m :: M => by
    rw [List.map_cons, List.map_cons, PyData.eqvAll, eqv_lt, eqvAll_lt L M]
    by_cases h : l = m
    · by_cases h2 : L = M
      · simp [h, h2]
      · simp [h2]
    · simp [h]
theorem rise_iff : ∀ L : List Ltr, riseB (L.map ltD) = true ↔ L.Pairwise ltLt
  | [] => ⟨fun _ => .nil, fun _ => rfl⟩
  | [l] => ⟨fun _ => List.pairwise_singleton _ _, fun _ => rfl⟩
  | l :: m :: L => by
    have ih := rise_iff (m :: L)
    show (dataLt (ltD l) (ltD m) && riseB ((m :: L).map ltD)) = true ↔ _
    rw [Bool.and_eq_true, ih]
    constructor
    · rintro ⟨h1, h2⟩
      refine List.pairwise_cons.mpr ⟨fun y hy => ?_, h2⟩
      rcases List.mem_cons.mp hy with rfl | hy
      · exact h1
      · exact dataLt_trans h1 ((List.pairwise_cons.mp h2).1 y hy)
    · intro h
      obtain ⟨h1, h2⟩ := List.pairwise_cons.mp h
      exact ⟨h1 m List.mem_cons_self, h2⟩
/-- a row that is the same as its parts, sorted, without doubles -/
theorem rise_sorted {L M : List Ltr} (up : M.Pairwise ltLt) (mem : ∀ l, l ∈ M ↔ l ∈ L) : decide (L = M) = riseB (L.map ltD) := by
  rw [Bool.eq_iff_iff, decide_eq_true_eq, rise_iff]
  constructor
  · intro h
    rw [h]
    exact up
  · intro h
    exact rise_unique (r := ltLt) (fun x z => by unfold ltLt at z; rw [dataLt_irrefl] at z; cases z) (fun {x y z} a b => dataLt_trans a b) h up fun l => (mem l).symm
/-- a letter whose name is among some -/
def lwB (ws : List Str) (e : PyData) : Bool := isLt e && decide (fstS e ∈ ws)
def gLot (s : Say) (x : Str) (d : PyData) (t : Bool) : Bool := alB (vw s x) d && closB s (vw s x) (x, t) (ltrs d)
theorem holds_eq (s : Say) (n x : Str) (d1 d2 : PyData) : holdsB s n x (.tuple [d1, d2]) = (decide (n ∈ vw s x) && (gLot s x d1 true && (gLot s x d2 false && !hangB (ltrs d1) (ltrs d2) n))) := by
  unfold holdsB halvesB gLot
  show (decide (n ∈ vw s x) && ((true && (alB (vw s x) d1 && (alB (vw s x) d2 && true))) && (!hangB (ltrs d1) (ltrs d2) n && (closB s (vw s x) (x, true) (ltrs d1) && closB s (vw s x) (x, false) (ltrs d2))))) = _
  generalize decide (n ∈ vw s x) = a0
  generalize alB (vw s x) d1 = a1
  generalize alB (vw s x) d2 = a2
  generalize hangB (ltrs d1) (ltrs d2) n = a3
  generalize closB s (vw s x) (x, true) (ltrs d1) = a4
  generalize closB s (vw s x) (x, false) (ltrs d2) = a5
  revert a0 a1 a2 a3 a4 a5
  decide
theorem holds_pair {s : Say} {n x : Str} {d : PyData} (h : pairB d = false) : holdsB s n x d = false := by
  unfold holdsB halvesB
  rw [h]
  simp
theorem alB_lw {ws : List Str} {ds : List PyData} : alB ws (.tuple ds) = (ds.all (lwB ws) && riseB ds) := rfl
/-- names that are well formed -/
theorem lw_str {ws : List Str} (h : ∀ x ∈ ws, nmB x = true) (x : Str) (b : Bool) : lwB ws (.tuple [.str x, .bool b]) = decide (x ∈ ws) := by
  show ((nmB x && true) && decide (x ∈ ws)) = decide (x ∈ ws)
  by_cases hx : x ∈ ws
  · rw [decide_eq_true hx, h x hx]
    rfl
  · rw [decide_eq_false hx]
    simp
theorem nmB_of {x : Str} (h : Nm x) : nmB x = true := by
  unfold nmB
  rw [decide_eq_true h.lo, decide_eq_true h.hi, Bool.true_and, Bool.true_and, List.all_eq_true]
  exact fun c hc => decide_eq_true (h.az c hc)
theorem vw_nm {s : Say} (ok : SayOk 6 8 120 40 s) (x : Str) : ∀ y ∈ vw s x, nmB y = true := fun y hy => by
  unfold vw at hy
  obtain ⟨o, ho, rfl⟩ := List.mem_map.mp hy
  exact nmB_of (ok.on o (List.mem_filter.mp ho).1).1
/-- (name, truth) in a row of letters, a tuple -/
structure RU (H : Hp) (l : Addr) (T : List TRow) (M : List Ltr) : Prop where
  e : H l = some (.tup (T.map TRow.v))
  d : T.map Prod.snd = M.map ltD
  D : ∀ q ∈ T, Dat H q.v q.2
theorem RU.same {H H' : Hp} {l : Addr} {T : List TRow} {M : List Ltr} (h : RU H l T M) (S : Same H H') : RU H' l T M := ⟨S _ _ h.e, h.d, fun q hq => (h.D q hq).same S⟩
theorem sv_inU {K : PySem.W.Frag} {H : Hp} {l : Addr} {T : List TRow} {M : List Ltr} {σ : L2.St} {n : Str} {i j : Nat} (h : RU H l T M) (b : Bool) (e1 : σ[j]? = some (some (V.str n))) (ei : σ[i]? = some (some (V.ref l))) : SEv (tOp (rInT K false) (tTup (tCons (tVar j) (tCons (tC (V.bl b)) tNil))) (tVar i)) σ H (.bl (decide ((n, b) ∈ M))) := fun H1 S Q q => by
  refine ⟨_, e1, (by show 2 ≤ sizeLine; decide), fun t ht => ⟨_, ei, ?_⟩⟩
  have S2 := same_new (o := .tup [V.str n, .bl b]) ht
  have h2 := (h.same S).same S2
  refine ⟨t, l, ltD (n, b), T, rfl, rfl, .inr (SqT.of h2.e), fun p hp => ⟨h2.D p hp, key_lts h2.d p hp⟩, .tup upd_same (.cons (.str n) (.cons (.bl b) .nil)), keyable_lt _, by have := depth_lt (n, b); omega, ?_⟩
  show Q (.bl (inT (ltD (n, b)) T)) _
  rw [inT_lt h2.d]
  exact q _ S2
theorem sv_not {t : TE} {σ : L2.St} {H : Hp} {a : Bool} (h : SEv t σ H (.bl a)) : SEv (tNotV t) σ H (.bl (!a)) := fun H1 e Q q => h H1 e _ fun H2 e2 => ⟨a, rfl, q H2 e2⟩
end S2

set_option Elab.async false
set_option linter.all false
set_option maxRecDepth 100000
set_option maxHeartbeats 4000000
/-! papers, as the law judges them -/
namespace S2
open PySem PySem.W PySem.Spec PyProof.Rows L2 S1 RZ
def small (d : PyData) : Prop := lim d = true ∧ ∀ lot ∈ parts d, (parts lot).length < 64
def spIsPaper : Sp := fun vs H Q _ => ∃ (v u : V) (s : Say) (n x : Str) (d : PyData), vs = [v, .str n, .str x, u] ∧ DatS H v s ∧ SayOk 6 8 120 40 s ∧ Dat H u d ∧ small d ∧ ∀ H', Same H H' → Q (.bl (holdsB s n x d)) H'
section
variable {P : Program} {w : World} {K : PySem.W.Frag} {mg : Str → Option Value} {base : Heap}
abbrev nPp : List Str := ["saying", "name", "pick", "value", "viewers", "lot", "truth", "letter", "due_letters", "own", "other", "yes", "no"]
theorem scPp : FnScope nPp ["saying", "name", "pick", "value"] (defScope sLIsPaper) := ⟨rfl, rfl, rfl, by decide +kernel, rfl, by decide +kernel, by decide +kernel⟩
theorem ok_isPaper {f fV fB : Addr} {fd fdV fdB : FuncData} (F : Fun K "_law_is_paper" "_law_is_paper" sLIsPaper f fd) (Vw : Has K mg "_law_viewers" sLViewers ["saying", "pick"] fV fdV) (Br : Has K mg "_law_brought" sLBrought ["saying", "viewers", "letter"] fB fdB) (B : Blt mg) : FnOk P w K mg base CX0 2 f fd ["saying", "name", "pick", "value"] spIsPaper := by
  have GV : FnOk P w K mg base CX0 1 fV fdV ["saying", "pick"] spViewers := ok_lViewers Vw.F
  have GB : FnOk P w K mg base CX0 1 fB fdB ["saying", "viewers", "letter"] spBeside := ok_brought Br.F
  refine F.ok scPp (fun vs H Q E h => ?_) (fun cdv A outer s H vs Q E hr h => ?_)
  · obtain ⟨v, u, sy, n, x, d, rfl, _⟩ := h
    rfl
  · obtain ⟨v, u, sy, n, x, d, rfl, D, ok, Du, sm, q⟩ := h
    have hu : (A.deeper (envOfC "_law_is_paper" (defScope sLIsPaper) s.heap.objs.size f cdv)).units + 64 < cLine := hr.units
    have hu2 : (A.deeper (envOfC "_law_is_paper" (defScope sLIsPaper) s.heap.objs.size f cdv)).units + 16 < cLine := by omega
    refine ⟨_, pss_cons (ps_set (i := 4) scPp.nd rfl (.inl rfl) (pe_call GV hr rfl Vw.g Vw.F.kp Vw.b .nil pass0 (pa_cons (pv 0) (pa_cons (pv 2) pa_nil))))
      (pss_cons (ps_if (PW.pt (pw_or (pt_cmpR op_notIn_seq (pv 1) (pv 4) (by with_unfolding_all rfl)) (pw_or (pt_not (pt_val (pe_callB call_isi (by rfl) B.isi (by decide +kernel) (pa_cons (pv 3) (pa_cons (pe_bltn (v := V.ty "tuple") (by rfl) B.tuple (by decide +kernel) rfl) pa_nil)))))
          (pw_or1 (pt_cmpR op_ne (pe_callB call_len_seq (by rfl) B.len (by decide +kernel) (pa_cons (pv 3) pa_nil)) pe_int (nomark _)))))) (pss_one (ps_ret pe_bl)) pss_nil)
      (pss_cons (ps_for PassesOwn.never rfl (pi_zipA rfl B.zip (pa_cons (pv 3) (pa_cons (pe_tup (pa_cons pe_bl (pa_cons pe_bl pa_nil))) pa_nil))) (pg_tup rfl (pgs_cons (pg_name (i := 5) scPp.nd rfl (.inr rfl)) (pgs_cons (pg_name (i := 6) scPp.nd rfl (.inl rfl)) pgs_nil)))
        (pss_cons (ps_if (pt_not (pt_val (pe_callB call_isi (by rfl) B.isi (by decide +kernel) (pa_cons (pv 5) (pa_cons (pe_bltn (v := V.ty "tuple") (by rfl) B.tuple (by decide +kernel) rfl) pa_nil))))) (pss_one (ps_ret pe_bl)) pss_nil)
        (pss_cons (ps_for PassesOwn.never rfl (pi_tup (pv 5)) (pg_name (i := 7) scPp.nd rfl (.inl rfl))
          (pss_cons (ps_if (PW.pt (pw_or (pt_not (pt_val (pe_callB call_isi (by rfl) B.isi (by decide +kernel) (pa_cons (pv 7) (pa_cons (pe_bltn (v := V.ty "tuple") (by rfl) B.tuple (by decide +kernel) rfl) pa_nil)))))
              (pw_or (pt_cmpR op_ne (pe_callB call_len_seq (by rfl) B.len (by decide +kernel) (pa_cons (pv 7) pa_nil)) pe_int (nomark _))
              (pw_or1 (pt_not (pt_val (pe_callB call_isi (by rfl) B.isi (by decide +kernel) (pa_cons (pe_ix ix_tup (pv 7) pe_int (fun _ _ => rfl)) (pa_cons (pe_bltn (v := V.ty "bool") (by rfl) B.bool (by decide +kernel) rfl) pa_nil))))))))) (pss_one (ps_ret pe_bl)) pss_nil)
          (pss_one (ps_if (PW.pt (pw_or (pt_not (pt_val (pe_callB call_isi (by rfl) B.isi (by decide +kernel) (pa_cons (pe_ix ix_tup (pv 7) pe_int (fun _ _ => rfl)) (pa_cons (pe_bltn (v := V.ty "str") (by rfl) B.str (by decide +kernel) rfl) pa_nil)))))
              (pw_or1 (pt_cmpR op_notIn_seq (pe_ix ix_tup (pv 7) pe_int (fun _ _ => rfl)) (pv 4) (by with_unfolding_all rfl))))) (pss_one (ps_ret pe_bl)) pss_nil))))
        (pss_cons (ps_set (i := 8) scPp.nd rfl (.inl rfl) (pe_call GB hr rfl Br.g Br.F.kp Br.b .nil pass0 (pa_cons (pv 0) (pa_cons (pv 4) (pa_cons (pe_tup (pa_cons (pv 2) (pa_cons (pv 6) pa_nil))) pa_nil)))))
        (pss_cons (ps_for PassesOwn.never rfl (pi_tup (pv 5)) (pg_tup rfl (pgs_cons (pg_name (i := 9) scPp.nd rfl (.inl rfl)) (pgs_cons (pg_name (i := 10) scPp.nd rfl (.inl rfl)) pgs_nil)))
          (pss_one (ps_set (i := 8) scPp.nd rfl (.inl rfl) (pe_op op_cat (pv 8) (pe_call GB hr rfl Br.g Br.F.kp Br.b .nil pass0 (pa_cons (pv 0) (pa_cons (pv 4) (pa_cons (pe_tup (pa_cons (pv 9) (pa_cons (pe_not (pv 10)) pa_nil))) pa_nil))))))))
        (pss_one (ps_if (PW.pt (pw_or (pt_cmpR (op_neP (by exact hu)) (pe_callTy call_list_of (by rfl) B.list (by decide +kernel) (pa_cons (pv 5) pa_nil)) (pe_callB (cr_sortN rfl (by exact hu)) (by rfl) B.sorted (by decide +kernel) (pa_cons (pe_callTy (cr_setNT rfl (by exact hu)) (by rfl) B.set (by decide +kernel) (pa_cons (pv 5) pa_nil)) pa_nil)) (nomark _))
            (pw_or1 (pt_not (pt_val (pe_callB (cr_all rfl) (by rfl) B.all (by decide +kernel) (pa_cons (pe_lc (own := [("letter", 7)]) (g := gName 7) (tt := tYes) (te := tOp (rInT K false) (tVar 7) (tVar 5)) rfl scPp.nd (pi_list (pv 8))
              (blkOk_by (N := nPp) (sc := defScope sLIsPaper) (by decide +kernel)) (fun _ _ _ _ _ => pg_name (i := 7) scPp.nd rfl (Or.inl rfl)) (fun _ _ _ _ _ => pts_nil)
              (fun _ _ _ _ _ => by exact pe_cmpR (op_inT (by exact hu2)) (pv 7) (pv 5) (by with_unfolding_all rfl))) pa_nil))))))) (pss_one (ps_ret pe_bl)) pss_nil)))))))
      (pss_cons (ps_asg (pv 3) (pg_tup rfl (pgs_cons (pg_name (i := 11) scPp.nd rfl (.inl rfl)) (pgs_cons (pg_name (i := 12) scPp.nd rfl (.inl rfl)) pgs_nil))))
      (pss_one (ps_ret (pe_not (pe_or (pe_and (pe_cmpR (op_inT (by exact hu2)) (pe_tup (pa_cons (pv 1) (pa_cons pe_bl pa_nil))) (pv 11) (by with_unfolding_all rfl)) (pe_one (pe_cmpR (op_inT (by exact hu2)) (pe_tup (pa_cons (pv 1) (pa_cons pe_bl pa_nil))) (pv 12) (by with_unfolding_all rfl))))
          (pe_one (pe_and (pe_cmpR (op_inT (by exact hu2)) (pe_tup (pa_cons (pv 1) (pa_cons pe_bl pa_nil))) (pv 11) (by with_unfolding_all rfl)) (pe_one (pe_cmpR (op_inT (by exact hu2)) (pe_tup (pa_cons (pv 1) (pa_cons pe_bl pa_nil))) (pv 12) (by with_unfolding_all rfl)))))))))))), ?_⟩
    obtain ⟨li, sl⟩ := sm
    refine ⟨_, rfl, _, rfl, v, sy, x, rfl, D, ok, fun lv H1 S1 hlv ev => ?_⟩
    refine ⟨_, rfl, _, rfl, lv, _, rfl, .inl (SqL.of ev), rfl, flat_strs _, _, rfl, ?_⟩
    show if (!inV (V.str n) ((vw sy x).map V.str)) = true then _ else _
    rw [inV_str]
    by_cases hv : n ∈ vw sy x
    · rw [decide_eq_true hv, if_neg (by decide)]
      refine ⟨_, rfl, _, _, _, _, isTup d, rfl, .ty _, ty_dat (Du.same S1), kit_ty (kit_tup d), _, rfl, ?_⟩
      cases ht : isTup d with
      | false =>
        show if (!false) = true then _ else _
        rw [if_pos (by decide)]
        show if true = true then _ else _
        rw [if_pos rfl]
        have hp : pairB d = false := by unfold pairB; rw [ht]; rfl
        have z := q H1 S1
        rw [holds_pair hp] at z
        exact z
      | true =>
        obtain ⟨ds, rfl⟩ := tup_of ht
        obtain ⟨a, us, rfl, ea, Da⟩ := dat_tup (Du.same S1)
        have lu : us.length = ds.length := Da.len
        show if (!true) = true then _ else _
        rw [if_neg (by decide)]
        refine ⟨_, rfl, _, _, rfl, .inr (SqT.of ea), rfl, _, rfl, ?_⟩
        show if (!decide (V.int (us.length : Int) = V.int 2)) = true then _ else _
        by_cases l2 : us.length = 2
        · rw [if_neg (by rw [l2]; decide)]
          obtain ⟨d1, d2, rfl⟩ : ∃ d1 d2, ds = [d1, d2] := by
            match ds, (lu.symm.trans l2) with
            | [d1, d2], _ => exact ⟨d1, d2, rfl⟩
          obtain ⟨_, lm⟩ := lim_tup li
          obtain ⟨y1, y2, rfl, E1, E2⟩ : ∃ y1 y2, us = [y1, y2] ∧ Dat H1 y1 d1 ∧ Dat H1 y2 d2 := by
            cases Da with
            | cons h1 h =>
              cases h with
              | cons h2 h =>
                cases h
                exact ⟨_, _, rfl, h1, h2⟩
          have q2 : ∀ H', Same H1 H' → Q (.bl (gLot sy x d1 true && (gLot sy x d2 false && !hangB (ltrs d1) (ltrs d2) n))) H' := fun H' S' => by
            have z := q H' (S1.trans S')
            rw [holds_eq, decide_eq_true hv, Bool.true_and] at z
            exact z
          have DS := D.same S1
          refine ⟨_, rfl, (by show 2 ≤ sizeLine; decide), fun tt htt => ?_⟩
          have S2 := same_new (o := .tup [V.bl true, .bl false]) htt
          refine ⟨a, tt, _, _, rfl, .inr ⟨SqT.of (S2 _ _ ea), SqT.of upd_same, ?_⟩⟩
          have et : upd H1 tt (.tup [V.bl true, .bl false]) tt = some (.tup [V.bl true, .bl false]) := upd_same
          generalize upd H1 tt (.tup [V.bl true, .bl false]) = H2 at S2 et ⊢
          refine for_it (walk_zipT (K := K) (a := a) (b := tt) (xs := [y1, y2]) (ys := [V.bl true, .bl false]) (n := 2) rfl rfl) (fun i σ G => ∃ (o5 o6 o7 o8 o9 o10 : Option V), σ = [some v, some (.str n), some (.str x), some (.ref a), some (.ref lv), o5, o6, o7, o8, o9, o10, none, none] ∧ Same H2 G ∧ (0 < i → gLot sy x d1 true = true) ∧ (1 < i → gLot sy x d2 false = true))
            ⟨_, _, _, _, _, _, rfl, Same.refl _, fun z => absurd z (by decide), fun z => absurd z (by decide)⟩ (fun i σ G _ ⟨_, _, _, _, _, _, _, S, _⟩ => ⟨SqT.of (S _ _ (S2 _ _ ea)), SqT.of (S _ _ et)⟩) ?_ ?_
          · rintro i y σ G G' hi ⟨o5, o6, o7, o8, o9, o10, rfl, S, g1, g2⟩ ⟨T0, y0, b0, rfl, hT0, rfl, f1, f2⟩
            obtain ⟨dj, t, rfl, Dj, mj, lst⟩ : ∃ dj t, b0 = V.bl t ∧ Dat H1 y0 dj ∧ dj ∈ [d1, d2] ∧ (gLot sy x dj t = true → (0 < i + 1 → gLot sy x d1 true = true) ∧ (1 < i + 1 → gLot sy x d2 false = true)) ∧ (gLot sy x dj t = false → (gLot sy x d1 true && (gLot sy x d2 false && !hangB (ltrs d1) (ltrs d2) n)) = false) := by
              match i, hi, f1, f2, g1 with
              | 0, _, f1, f2, _ =>
                cases (show some _ = some _ from f1)
                cases (show some _ = some _ from f2)
                exact ⟨d1, true, rfl, E1, List.mem_cons_self, fun h => ⟨fun _ => h, fun z => absurd z (by decide)⟩, fun h => by rw [h]; rfl⟩
              | 1, _, f1, f2, g1 =>
                cases (show some _ = some _ from f1)
                cases (show some _ = some _ from f2)
                exact ⟨d2, false, rfl, E2, List.mem_cons_of_mem _ List.mem_cons_self, fun h => ⟨fun _ => g1 (by decide), fun _ => h⟩, fun h => by rw [h]; simp⟩
            obtain ⟨good, bad⟩ := lst
            have lj := lm dj mj
            have sj := sl dj mj
            have SA := same_new (o := .tup [y0, V.bl t]) hT0
            refine ⟨T0, _, rfl, SqT.of upd_same, rfl, _, _, rfl, _, _, rfl, rfl, ?_⟩
            have S30 := S2.trans (S.trans SA)
            refine gen_hp (F := fun G => Same H1 G ∧ Same H2 G) ⟨S30, S.trans SA⟩ (fun G ⟨S3, S23⟩ => ?_)
            clear S30 SA
            have fail : gLot sy x dj t = false → ∀ H', Same G H' → Q (.bl false) H' := fun h H' S' => by
              have z := q2 H' (S3.trans S')
              rw [bad h] at z
              exact z
            have failA : alB (vw sy x) dj = false → ∀ H', Same G H' → Q (.bl false) H' := fun h => fail (by unfold gLot; rw [h]; rfl)
            refine ⟨_, rfl, _, _, _, _, isTup dj, rfl, .ty _, ty_dat (Dj.same S3), kit_ty (kit_tup dj), _, rfl, ?_⟩
            cases ht2 : isTup dj with
            | false =>
              show if (!false) = true then _ else _
              rw [if_pos (by decide)]
              exact failA (by unfold alB; rw [ht2]; rfl) G (Same.refl _)
            | true =>
              obtain ⟨es, rfl⟩ := tup_of ht2
              obtain ⟨la, ls, rfl, ela, Dla⟩ := dat_tup (Dj.same S3)
              have lls : ls.length = es.length := Dla.len
              show if (!true) = true then _ else _
              rw [if_neg (by decide)]
              refine ⟨_, rfl, la, rfl, ⟨_, SqT.of ela⟩, ?_⟩
              refine for_tup (K := K) (a := la) (xs := ls) (fun k σ G5 => ∃ o7 : Option V, σ = [some v, some (.str n), some (.str x), some (.ref a), some (.ref lv), some (.ref la), some (.bl t), o7, o8, o9, o10, none, none] ∧ Same G G5 ∧ ∀ e ∈ es.take k, lwB (vw sy x) e = true) ⟨_, rfl, Same.refl _, fun e he => absurd he (by simp)⟩ (fun k σ G5 _ ⟨_, _, S5, _⟩ => SqT.of (S5 _ _ ela)) ?_ ?_
              · rintro k z0 σ G5 hz ⟨o7, rfl, S5, gd⟩
                obtain ⟨e, he, De⟩ := dats_get' Dla k z0 hz
                have me := List.mem_of_getElem? he
                have De5 := De.same S5
                have failE : lwB (vw sy x) e = false → ∀ H', Same G5 H' → Q (.bl false) H' := fun h H' S' => failA (by
                  rw [alB_lw]
                  have : es.all (lwB (vw sy x)) = false := by
                    cases hh : es.all (lwB (vw sy x)) with
                    | false => rfl
                    | true => rw [List.all_eq_true.mp hh e me] at h; cases h
                  rw [this]
                  rfl) H' (S5.trans S')
                refine ⟨_, rfl, _, _, _, _, isTup e, rfl, .ty _, ty_dat De5, kit_ty (kit_tup e), _, rfl, ?_⟩
                cases ht3 : isTup e with
                | false =>
                  show if (!false) = true then _ else _
                  rw [if_pos (by decide)]
                  show if true = true then _ else _
                  rw [if_pos rfl]
                  refine failE ?_ G5 (Same.refl _)
                  unfold lwB
                  have : isLt e = false := by
                    rw [let_eq]
                    unfold pairB
                    rw [ht3]
                    rfl
                  rw [this]
                  rfl
                | true =>
                  obtain ⟨cs, rfl⟩ := tup_of ht3
                  obtain ⟨ca, vs2, rfl, eca, Dca⟩ := dat_tup De5
                  have lvs : vs2.length = cs.length := Dca.len
                  show if (!true) = true then _ else _
                  rw [if_neg (by decide)]
                  refine ⟨_, rfl, _, _, rfl, .inr (SqT.of eca), rfl, _, rfl, ?_⟩
                  show if (!decide (V.int (vs2.length : Int) = V.int 2)) = true then _ else _
                  by_cases c2 : vs2.length = 2
                  · rw [if_neg (by rw [c2]; decide)]
                    obtain ⟨p1, p2, rfl⟩ : ∃ p1 p2, cs = [p1, p2] := by
                      match cs, (lvs.symm.trans c2) with
                      | [p1, p2], _ => exact ⟨p1, p2, rfl⟩
                    obtain ⟨w1, w2, rfl, F1, F2⟩ : ∃ w1 w2, vs2 = [w1, w2] ∧ Dat G5 w1 p1 ∧ Dat G5 w2 p2 := by
                      cases Dca with
                      | cons h1 h =>
                        cases h with
                        | cons h2 h =>
                          cases h
                          exact ⟨_, _, rfl, h1, h2⟩
                    refine ⟨_, rfl, ca, _, 1, _, rfl, rfl, SqT.of eca, rfl, _, _, _, _, isTr p2, rfl, .ty _, ty_dat F2, kit_ty (kit_bool p2), _, rfl, ?_⟩
                    cases htr : isTr p2 with
                    | false =>
                      show if (!false) = true then _ else _
                      rw [if_pos (by decide)]
                      refine failE ?_ G5 (Same.refl _)
                      show ((isNm p1 && isTr p2) && _) = false
                      rw [htr, Bool.and_false]
                      rfl
                    | true =>
                      obtain ⟨c, rfl⟩ : ∃ c, p2 = .bool c := by
                        cases p2 <;> first | exact ⟨_, rfl⟩ | cases htr
                      show if (!true) = true then _ else _
                      rw [if_neg (by decide)]
                      refine ⟨_, rfl, ca, _, 0, _, rfl, rfl, SqT.of eca, rfl, _, _, _, _, isStr p1, rfl, .ty _, ty_dat F1, kit_ty (kit_str p1), _, rfl, ?_⟩
                      cases hst : isStr p1 with
                      | false =>
                        show if (!false) = true then _ else _
                        rw [if_pos (by decide)]
                        show if true = true then _ else _
                        rw [if_pos rfl]
                        refine failE ?_ G5 (Same.refl _)
                        show ((isNm p1 && true) && _) = false
                        have : isNm p1 = false := by cases p1 <;> first | rfl | cases hst
                        rw [this]
                        rfl
                      | true =>
                        obtain ⟨m, rfl⟩ : ∃ m, p1 = .str m := by
                          cases p1 <;> first | exact ⟨_, rfl⟩ | cases hst
                        cases F1
                        cases F2
                        show if (!true) = true then _ else _
                        rw [if_neg (by decide)]
                        refine ⟨_, rfl, ca, _, 0, _, rfl, rfl, SqT.of eca, rfl, _, rfl, lv, _, rfl, .inl (SqL.of (S5 _ _ (S3 _ _ ev))), rfl, flat_strs _, _, rfl, ?_⟩
                        show if (!inV (V.str m) ((vw sy x).map V.str)) = true then _ else _
                        rw [inV_str]
                        have lw := lw_str (vw_nm ok x) m c
                        by_cases hm : m ∈ vw sy x
                        · rw [decide_eq_true hm] at lw ⊢
                          rw [if_neg (by decide)]
                          refine ⟨_, rfl, S5, fun e2 he2 => ?_⟩
                          rw [take_next he] at he2
                          rcases List.mem_append.mp he2 with h | h
                          · exact gd e2 h
                          · rw [List.mem_singleton.mp h]
                            exact lw
                        · rw [decide_eq_false hm] at lw ⊢
                          rw [if_pos (by decide)]
                          exact failE lw G5 (Same.refl _)
                  · rw [if_pos (by rw [show decide (V.int (vs2.length : Int) = V.int 2) = false from decide_eq_false (fun z => c2 (by injection z with z; omega))]; rfl)]
                    show if true = true then _ else _
                    rw [if_pos rfl]
                    refine failE ?_ G5 (Same.refl _)
                    unfold lwB
                    have : isLt (.tuple cs) = false := by
                      rw [let_eq]
                      unfold pairB
                      show ((true && decide (cs.length = 2)) && _) = false
                      rw [decide_eq_false (fun z => c2 (lvs.trans z))]
                      rfl
                    rw [this]
                    rfl
              · rintro σ G5 ⟨o7, rfl, S5, gd⟩
                rw [lls, List.take_length] at gd
                have hall : es.all (lwB (vw sy x)) = true := List.all_eq_true.mpr gd
                have al : ∀ e ∈ es, e = ltD (lt_at e) := fun e he => by
                  have z := gd e he
                  unfold lwB at z
                  rw [Bool.and_eq_true] at z
                  exact (isLt_is z.1).1
                have eL : es = (ltrs (.tuple es)).map ltD := by
                  show es = (es.map lt_at).map ltD
                  rw [List.map_map]
                  conv => lhs; rw [← List.map_id es]
                  exact List.map_congr_left fun e he => al e he
                generalize hL : ltrs (.tuple es) = L at eL fail
                have lL : L.length < 64 := by
                  have z : es.length < 64 := sj
                  rw [eL, List.length_map] at z
                  exact z
                have gl : gLot sy x (.tuple es) t = (riseB (L.map ltD) && closB sy (vw sy x) (x, t) L) := by
                  unfold gLot
                  rw [alB_lw, hall, Bool.true_and, hL, ← eL]
                have Dlot : Dat G5 (.ref la) (clD L) := by
                  have z := (Dj.same S3).same S5
                  rw [eL] at z
                  exact z
                obtain ⟨la', TL, ela', eTL, dTL, KTL⟩ := cl_rows Dlot
                cases ela'
                clear Dlot
                have s2 : 2 ≤ sizeLine := by decide
                have DS5 := (DS.same S3).same S5
                have ev5 := S5 _ _ (S3 _ _ ev)
                have lTL : TL.length = L.length := by
                  have z := congrArg List.length dTL
                  rw [List.length_map, List.length_map] at z
                  exact z
                refine ⟨_, rfl, _, rfl, _, rfl, _, rfl, s2, fun tq htq => ?_⟩
                have S6 := same_new (o := .tup [V.str x, .bl t]) htq
                refine ⟨v, lv, tq, sy, vw sy x, (x, t), rfl, DS5.same S6, ok, S6 _ _ ev5, .tup upd_same (.cons (.str _) (.cons (.bl _) .nil)), fun l T G6 S7 hl el eT DT => ?_⟩
                have S67 := S6.trans S7
                refine ⟨_, rfl, la, rfl, ⟨_, SqT.of (S67 _ _ eTL)⟩, ?_⟩
                refine for_tup (K := K) (a := la) (xs := TL.map TRow.v) (fun j σ H4 => ∃ (o9 o10 : Option V) (lf : Addr) (T4 : List TRow), σ = [some v, some (.str n), some (.str x), some (.ref a), some (.ref lv), some (.ref la), some (.bl t), o7, some (.ref lf), o9, o10, none, none] ∧ H4 lf = some (.lst (T4.map TRow.v)) ∧ T4.map Prod.snd = (askL sy (vw sy x) (x, t) (L.take j)).map ltD ∧ (∀ q' ∈ T4, Dat H4 q'.v q'.2) ∧ Same G5 H4)
                  ⟨_, _, l, T, rfl, el, by rw [eT]; show _ = (bes sy (vw sy x) (x, t) ++ []).map ltD; rw [List.append_nil], DT, S67⟩ (fun j σ H4 _ ⟨_, _, _, _, _, _, _, _, S4⟩ => SqT.of (S4 _ _ eTL)) ?_ ?_
                · rintro j z1 σ H4 hx ⟨o9, o10, lf, T4, rfl, e4, d4, D4, S4⟩
                  rw [List.getElem?_map] at hx
                  obtain ⟨pr, hp, rfl⟩ := Option.map_eq_some_iff.mp hx
                  obtain ⟨m, hm, e1⟩ : ∃ m, L[j]? = some m ∧ pr.2 = ltD m := by
                    have z : (TL.map Prod.snd)[j]? = some pr.2 := by rw [List.getElem?_map, hp]; rfl
                    rw [dTL] at z
                    obtain ⟨m, hm, e⟩ := get_map z
                    exact ⟨m, hm, e⟩
                  have jl : j < L.length := (List.getElem?_eq_some_iff.mp hm).1
                  have Dp := (KTL pr (List.mem_of_getElem? hp)).1
                  rw [e1] at Dp
                  obtain ⟨b, eb, gb⟩ := ltr_row Dp
                  rw [eb]
                  refine ⟨b, _, rfl, SqT.of (S4 _ _ gb), rfl, _, _, rfl, _, _, rfl, rfl, ?_⟩
                  refine ⟨_, rfl, _, rfl, _, rfl, _, rfl, _, rfl, m.2, rfl, s2, fun t9 ht9 => ?_⟩
                  have S8 := same_new (o := .tup [V.str m.1, .bl (!m.2)]) ht9
                  refine ⟨v, lv, t9, sy, vw sy x, neg m, rfl, (DS5.same S4).same S8, ok, S8 _ _ (S4 _ _ ev5), .tup upd_same (.cons (.str _) (.cons (.bl _) .nil)), fun l2 T2 H6 S9 hl2 el2 eT2 DT2 => ?_⟩
                  have S89 := S8.trans S9
                  have e6 := S89 _ _ e4
                  have len4 := ask_len ok (vw sy x) (x, t) (L.take j)
                  have lenb := bes_le ok (vw sy x) (neg m)
                  rw [List.length_take] at len4
                  have lT4 : T4.length = (askL sy (vw sy x) (x, t) (L.take j)).length := by
                    have z := congrArg List.length d4
                    rw [List.length_map, List.length_map] at z
                    exact z
                  have lT2 : T2.length = (bes sy (vw sy x) (neg m)).length := by
                    have z := congrArg List.length eT2
                    rw [List.length_map, List.length_map] at z
                    exact z
                  refine ⟨lf, l2, _, _, rfl, rfl, e6, el2, ?_, fun ln hln => ?_⟩
                  · rw [List.length_map, List.length_map]
                    have : 560 * (min j L.length + 1) ≤ 560 * 1001 := Nat.mul_le_mul (Nat.le_refl _) (by omega)
                    exact Nat.le_trans (show T4.length + T2.length ≤ 1000000 by omega) (by decide)
                  have S10 := same_new (o := .lst (T4.map TRow.v ++ T2.map TRow.v)) hln
                  refine ⟨_, _, ln, T4 ++ T2, rfl, by rw [upd_same, List.map_append], by rw [List.map_append, d4, eT2, take_next hm, ask_snoc, List.map_append], fun q' hq' => ?_, S4.trans (S89.trans S10)⟩
                  rcases List.mem_append.mp hq' with h | h
                  · exact ((D4 q' h).same S89).same S10
                  · exact (DT2 q' h).same S10
                · rintro σ H4 ⟨o9, o10, lf, T4, rfl, e4, d4, D4, S4⟩
                  rw [List.length_map, lTL, List.take_length] at d4
                  have lT4 : T4.length = (askL sy (vw sy x) (x, t) L).length := by
                    have z := congrArg List.length d4
                    rw [List.length_map, List.length_map] at z
                    exact z
                  have len4 := ask_len ok (vw sy x) (x, t) L
                  have big : T4.length ≤ 1000000 := by
                    have : 560 * (L.length + 1) ≤ 560 * 1001 := Nat.mul_le_mul (Nat.le_refl _) (by omega)
                    omega
                  have eTL4 := S4 _ _ eTL
                  have srt : Sorty TL := sorty_of dTL alike_lt (fun o => ⟨_, rfl⟩) (fun o => by have := depth_lt o; omega)
                  have kTL : ∀ p ∈ TL, keyable p.2 = true := fun p hp => (KTL p hp).2.1
                  refine ⟨_, rfl, la, _, rfl, .inr (SqT.of eTL4), fun l1 hl1 => ?_⟩
                  have S11 := same_new (o := .lst (TL.map TRow.v)) hl1
                  refine ⟨_, rfl, la, TL, rfl, SqT.of (S11 _ _ eTL4), fun p hp => ((KTL p hp).1.same S4).same S11, srt, kTL, by omega, fun aS T' hS sub all nd => ?_⟩
                  have S12 := same_new (o := SetNO w aS (T'.map TRow.n)) hS
                  have S412 := S11.trans S12
                  have srt' : Sorty T' := ⟨fun d hd d' hd' => by
                    obtain ⟨p, hp, rfl⟩ := List.mem_map.mp hd
                    obtain ⟨p', hp', rfl⟩ := List.mem_map.mp hd'
                    exact srt.alike _ (List.mem_map_of_mem (sub p hp)) _ (List.mem_map_of_mem (sub p' hp')), fun p hp => srt.tup p (sub p hp), fun p hp => srt.deep p (sub p hp)⟩
                  refine ⟨aS, T', rfl, upd_same, fun p hp => ((KTL p (sub p hp)).1.same S4).same S412, srt', fun p hp => kTL p (sub p hp), fun T'' b pm up hb => ?_⟩
                  have S13 := same_new (o := .lst (T''.map TRow.v)) hb
                  have S413 := S412.trans S13
                  have lts : ∀ p ∈ T'', p.2 = ltD (lt_at p.2) := fun p hp => by
                    have m1 : p.2 ∈ L.map ltD := dTL ▸ List.mem_map_of_mem (sub p (pm.mem_iff.mp hp))
                    obtain ⟨m, _, hm⟩ := List.mem_map.mp m1
                    rw [← hm]
                    rfl
                  have eM : T''.map Prod.snd = (T''.map fun p => lt_at p.2).map ltD := by
                    rw [List.map_map]
                    exact List.map_congr_left fun p hp => lts p hp
                  have upM : (T''.map fun p => lt_at p.2).Pairwise ltLt := by
                    refine List.pairwise_map.mpr (List.Pairwise.imp_of_mem (fun {p r} hp hr z => ?_) up)
                    show dataLt (ltD (lt_at p.2)) (ltD (lt_at r.2)) = true
                    rw [← lts p hp, ← lts r hr]
                    exact z
                  have memM : ∀ m, m ∈ (T''.map fun p => lt_at p.2) ↔ m ∈ L := fun m => by
                    constructor
                    · intro h
                      obtain ⟨p, hp, rfl⟩ := List.mem_map.mp h
                      have m1 : p.2 ∈ L.map ltD := dTL ▸ List.mem_map_of_mem (sub p (pm.mem_iff.mp hp))
                      rw [lts p hp] at m1
                      obtain ⟨m2, hm2, e⟩ := List.mem_map.mp m1
                      rw [← ltD_inj e]
                      exact hm2
                    · intro h
                      have m1 : ltD m ∈ TL.map Prod.snd := by rw [dTL]; exact List.mem_map_of_mem h
                      obtain ⟨p, hp, e⟩ := List.mem_map.mp m1
                      obtain ⟨p2, hp2, e2⟩ := List.mem_map.mp (all p hp)
                      refine List.mem_map.mpr ⟨p2, pm.mem_iff.mpr hp2, ?_⟩
                      rw [e2, e]
                      rfl
                  have rise := rise_sorted upM memM
                  generalize (T''.map fun p => lt_at p.2) = M at eM upM memM rise
                  have pls : ∀ X : List Ltr, (PyData.list (X.map ltD)).plain = true := fun X => plains_map ltD (fun _ => rfl) X
                  have dps : ∀ X : List Ltr, (PyData.list (X.map ltD)).depth ≤ 8 := fun X => by
                    have := depths_map ltD 1 depth_lt X
                    simp only [PyData.depth]
                    omega
                  refine ⟨.list (L.map ltD), .list (M.map ltD), ?_, ?_, pls L, pls M, dps L, _, rfl, ?_⟩
                  · rw [← dTL]
                    exact .lst (S13 _ _ (S12 _ _ upd_same)) (dats_rows fun r hr => ((KTL r hr).1.same S4).same S413)
                  · rw [← eM]
                    exact .lst upd_same (dats_rows fun r hr => ((KTL r (sub r (pm.mem_iff.mp hr))).1.same S4).same S413)
                  have eqv : PyData.eqv (.list (L.map ltD)) (.list (M.map ltD)) = riseB (L.map ltD) := by
                    rw [← rise, ← eqvAll_lt]
                    simp only [PyData.eqv]
                  rw [eqv]
                  refine gen_hp (F := fun G => Same H4 G) S413 (fun G7 S47 => ?_)
                  have S57 := S4.trans S47
                  cases hr : riseB (L.map ltD) with
                  | false =>
                    show if (!false) = true then _ else _
                    rw [if_pos (by decide)]
                    show if true = true then _ else _
                    rw [if_pos rfl]
                    exact fail (by rw [gl, hr]; rfl) G7 (S5.trans S57)
                  | true =>
                    show if (!true) = true then _ else _
                    rw [if_neg (by decide)]
                    have e47 := S47 _ _ e4
                    refine ⟨_, rfl, lf, rfl, ⟨_, SqL.of e47⟩, fun D0 hD0 => ?_⟩
                    refine lc_list (K := K) (a := lf) (xs := T4.map TRow.v) (fun j H6 => H6 D0 = some (.lst ((((askL sy (vw sy x) (x, t) L).take j).map fun m => decide (m ∈ L)).map V.bl)) ∧ Same G7 H6) ⟨upd_same, same_new hD0⟩ (fun j H6 _ h => SqL.of (h.2 _ _ e47)) ?_ ?_
                    · rintro j z1 H6 hx ⟨e6, S6'⟩
                      rw [List.getElem?_map] at hx
                      obtain ⟨pr, hp, rfl⟩ := Option.map_eq_some_iff.mp hx
                      obtain ⟨m, hm, e1⟩ : ∃ m, (askL sy (vw sy x) (x, t) L)[j]? = some m ∧ pr.2 = ltD m := by
                        have z : (T4.map Prod.snd)[j]? = some pr.2 := by rw [List.getElem?_map, hp]; rfl
                        rw [d4] at z
                        exact get_map z
                      have jl : j < T4.length := (List.getElem?_eq_some_iff.mp hp).1
                      have S46 := S47.trans S6'
                      have Dp := (D4 pr (List.mem_of_getElem? hp)).same S46
                      rw [e1] at Dp
                      refine ⟨rfl, yes_of ⟨_, rfl, _, rfl, pr.1, la, ltD m, TL, rfl, rfl, .inr (SqT.of (S46 _ _ eTL4)), fun p hp => ⟨(((KTL p hp).1.same S4)).same S46, (KTL p hp).2⟩, Dp, keyable_lt m, by have := depth_lt m; omega, ?_⟩⟩
                      refine ⟨_, e6, ?_, ?_, same_upd S6' hD0⟩
                      · rw [List.length_map, List.length_map, List.length_take]
                        exact Nat.lt_of_le_of_lt (show _ ≤ 1000000 by omega) (by decide)
                      · rw [upd_same, take_next hm, List.map_append, List.map_append]
                        show some (HO.lst (_ ++ [V.bl (inT (ltD m) TL)])) = _
                        rw [inT_lt dTL]
                        rfl
                    · rintro H6 ⟨e6, S6'⟩
                      rw [List.length_map, lT4, List.take_length] at e6
                      refine ⟨D0, _, rfl, SqL.of e6, _, rfl, ?_⟩
                      show if (!(((askL sy (vw sy x) (x, t) L).map fun m => decide (m ∈ L)).all id)) = true then _ else _
                      rw [all_id]
                      show if (!(closB sy (vw sy x) (x, t) L)) = true then _ else _
                      cases hc : closB sy (vw sy x) (x, t) L with
                      | false =>
                        rw [if_pos (by decide)]
                        exact fail (by rw [gl, hr, hc]; rfl) H6 (S5.trans (S57.trans S6'))
                      | true =>
                        rw [if_neg (by decide)]
                        obtain ⟨g3, g4⟩ := good (by rw [gl, hr, hc]; rfl)
                        exact ⟨_, _, _, _, _, _, rfl, S23.trans (S5.trans (S57.trans S6')), g3, g4⟩
          · rintro σ G ⟨o5, o6, o7, o8, o9, o10, rfl, S, g1, g2⟩
            have S3 := S2.trans S
            have h1 := g1 (by decide)
            have h2 := g2 (by decide)
            have a1 : alB (vw sy x) d1 = true := by unfold gLot at h1; rw [Bool.and_eq_true] at h1; exact h1.1
            have a2 : alB (vw sy x) d2 = true := by unfold gLot at h2; rw [Bool.and_eq_true] at h2; exact h2.1
            have E1' := E1.same S3
            have E2' := E2.same S3
            rw [(alB_is a1).1] at E1'
            rw [(alB_is a2).1] at E2'
            obtain ⟨b1, T1, rfl, e1, t1, K1⟩ := cl_rows E1'
            obtain ⟨b2, T2, rfl, e2, t2, K2⟩ := cl_rows E2'
            have U1 : RU G b1 T1 (ltrs d1) := ⟨e1, t1, fun q hq => (K1 q hq).1⟩
            have U2 : RU G b2 T2 (ltrs d2) := ⟨e2, t2, fun q hq => (K2 q hq).1⟩
            refine ⟨_, rfl, a, _, rfl, SqT.of (S3 _ _ ea), rfl, _, _, rfl, _, _, rfl, rfl, ?_⟩
            have em := sv_not (sv_or (sv_and (sv_inU (K := K) (σ := [some v, some (.str n), some (.str x), some (.ref a), some (.ref lv), o5, o6, o7, o8, o9, o10, some (.ref b1), some (.ref b2)]) (n := n) (i := 11) (j := 1) U1 true rfl rfl) (sv_inU (K := K) (n := n) (i := 12) (j := 1) U2 false rfl rfl)) (sv_and (sv_inU (K := K) (n := n) (i := 11) (j := 1) U1 false rfl rfl) (sv_inU (K := K) (n := n) (i := 12) (j := 1) U2 true rfl rfl)))
            refine em G (Same.refl _) _ fun G' S' => ?_
            have z := q2 G' (S3.trans S')
            rw [h1, h2, Bool.true_and, Bool.true_and] at z
            have eb : (decide ((n, true) ∈ ltrs d1) && decide ((n, false) ∈ ltrs d2) || decide ((n, false) ∈ ltrs d1) && decide ((n, true) ∈ ltrs d2)) = hangB (ltrs d1) (ltrs d2) n := by
              unfold hangB
              rw [Bool.or_comm]
            rw [eb]
            exact z
        · rw [if_pos (by rw [show decide (V.int (us.length : Int) = V.int 2) = false from decide_eq_false (fun z => l2 (by injection z with z; omega))]; rfl)]
          have hp : pairB (.tuple ds) = false := by
            unfold pairB
            show (true && decide (ds.length = 2)) = false
            rw [decide_eq_false (fun z => l2 (lu.trans z))]
            rfl
          have z := q H1 S1
          rw [holds_pair hp] at z
          exact z
    · rw [decide_eq_false hv, if_pos (by decide)]
      show if true = true then _ else _
      rw [if_pos rfl]
      have z := q H1 S1
      unfold holdsB at z
      rw [decide_eq_false hv] at z
      exact z
end
end S2

set_option Elab.async false
set_option linter.all false
set_option maxRecDepth 100000
set_option maxHeartbeats 4000000
/-! closed rows of letters about one letter more, drawn -/
namespace S2
open PySem PySem.W PySem.Spec PyProof.Rows L2 S1 RZ
theorem vw_len {s : Say} (ok : SayOk 6 8 120 40 s) (x : Str) : (vw s x).length ≤ 8 := by
  unfold vw
  rw [List.length_map]
  exact Nat.le_trans (List.length_filter_le _ _) ok.ol
theorem few_lts {F : List Ltr} {ws : List Str} (nd : F.Nodup) (mem : ∀ m ∈ F, m.1 ∈ ws) : F.length ≤ 2 * ws.length := by
  rw [← univ_len]
  refine nodup_le nd fun m hm => List.mem_flatMap.mpr ⟨m.1, mem m hm, ?_⟩
  obtain ⟨n, b⟩ := m
  cases b
  · exact List.mem_cons_of_mem _ List.mem_cons_self
  · exact List.mem_cons_self
theorem bes_in {s : Say} {ws : List Str} {l m : Ltr} (h : m ∈ bes s ws l) : m.1 ∈ ws := (bes_mem h).choose_spec.2.2.2.2
def spWider : Sp := fun vs H Q _ => ∃ (p lo : Addr) (c : Nat) (v : V) (s : Say) (x : Str) (L : List Ltr), vs = [.ref p, v, .str x, .ref lo] ∧ Src H p c ∧ c ≤ 50000 ∧ Dat H v s.d ∧ SayOk 6 8 120 40 s ∧ vw s x ≠ [] ∧ Dat H (.ref lo) (clD L) ∧ L.Nodup ∧ (∀ m ∈ L, m.1 ∈ vw s x) ∧
  ∀ (u : Addr) (M : List Ltr) (H' : Hp), Dat H' (.ref u) (clD M) → M.Nodup → (∀ m ∈ M, m.1 ∈ vw s x) → Dr H p (c + 2) H' → Q (.ref u) H'
abbrev nWd : List Str := ["pot", "saying", "pick", "lot", "letter", "viewers", "found", "waiting"]
section
variable {P : Program} {w : World} {K : PySem.W.Frag} {mg : Str → Option Value} {base : Heap}
theorem scWd : FnScope nWd ["pot", "saying", "pick", "lot"] (defScope sLWider) := ⟨rfl, rfl, rfl, by decide +kernel, rfl, by decide +kernel, by decide +kernel⟩
theorem ok_wider {f fP fV fB : Addr} {fd fdP fdV fdB : FuncData} (F : Fun K "_law_wider" "_law_wider" sLWider f fd) (Pk : Has K mg "_law_draw" sDraw ["pot", "top"] fP fdP) (Vw : Has K mg "_law_viewers" sLViewers ["saying", "pick"] fV fdV) (Br : Has K mg "_law_brought" sLBrought ["saying", "viewers", "letter"] fB fdB) (B : Blt mg) :
    FnOk P w K mg base CX0 2 f fd ["pot", "saying", "pick", "lot"] spWider := by
  have GP : FnOk P w K mg base CX0 1 fP fdP ["pot", "top"] spPick := ok_pick Pk.F B
  have GV : FnOk P w K mg base CX0 1 fV fdV ["saying", "pick"] spViewers := ok_lViewers Vw.F
  have GB : FnOk P w K mg base CX0 1 fB fdB ["saying", "viewers", "letter"] spBeside := ok_brought Br.F
  refine F.ok scWd (fun vs H Q E h => ?_) (fun cdv A outer s H vs Q E hr h => ?_)
  · obtain ⟨p, lo, c, v, sy, x, L, rfl, _⟩ := h
    rfl
  · obtain ⟨p, lo, c, v, sy, x, L, rfl, hs, hc, D, ok, hne, Dl, nd, mem, q⟩ := h
    have hu : (A.deeper (envOfC "_law_wider" (defScope sLWider) s.heap.objs.size f cdv)).units + 64 < cLine := hr.units
    have hu16 : (A.deeper (envOfC "_law_wider" (defScope sLWider) s.heap.objs.size f cdv)).units + 16 < cLine := by omega
    refine ⟨_, pss_cons (ps_par (i := 5) (j := 6) rfl scWd.nd rfl rfl (by decide) rfl rfl (pa_cons (pe_call GV hr rfl Vw.g Vw.F.kp Vw.b .nil pass0 (pa_cons (pv 1) (pa_cons (pv 2) pa_nil)))
          (pa_cons (pe_callTy (call_dictN rfl (by exact hu16)) (by rfl) B.dict (by decide +kernel) (pa_cons (pe_lc (own := [("letter", 4)]) (g := gName 4) (tt := tYes) (te := tTup (tCons (tVar 4) (tCons (tC (V.bl true)) tNil))) rfl scWd.nd (pi_tup (pv 3)) (blkOk_by (N := nWd) (sc := defScope sLWider) (by decide +kernel))
            (fun _ _ _ _ _ => pg_name (i := 4) scWd.nd rfl (Or.inl rfl)) (fun _ _ _ _ _ => pts_nil) (fun _ _ _ _ _ => by exact pe_tup (pa_cons (pv 4) (pa_cons pe_bl pa_nil)))) pa_nil)) pa_nil)) (by with_unfolding_all rfl))
      (pss_cons (ps_set (i := 7) scWd.nd rfl (.inl rfl) (pe_lst (pa_cons (pe_tup (pa_cons (pe_ix ix_list (pv 5) (pe_call GP hr rfl Pk.g Pk.F.kp Pk.b .nil pass0 (pa_cons (pv 0) (pa_cons (pe_callB call_len_seq (by rfl) B.len (by decide +kernel) (pa_cons (pv 5) pa_nil)) pa_nil))) (fun _ _ => rfl))
          (pa_cons (pe_cmpR op_eq (pe_call GP hr rfl Pk.g Pk.F.kp Pk.b .nil pass0 (pa_cons (pv 0) (pa_cons pe_int pa_nil))) pe_int (nomark _)) pa_nil))) pa_nil)))
      (pss_cons (ps_while PassesOwn.never (pt_cmpR (op_neP (by exact hu)) (pv 7) (pe_lst pa_nil) (by with_unfolding_all rfl))
        (pss_cons (ps_set (i := 4) scWd.nd rfl (.inl rfl) (pe_bm0 PySem.F.plainAttrs_list PySem.F.slot_list_pop PySem.F.type_list_pop mt_pop (pv 7)))
        (pss_one (ps_if (pt_cmpR (op_notInN (by exact hu16)) (pv 4) (pv 6) (by with_unfolding_all rfl))
          (pss_cons (ps_nput (by exact hu16) (pv 6) (pv 4) pe_bl (by rfl))
          (pss_one (ps_set (i := 7) scWd.nd rfl (.inl rfl) (pe_op op_cat (pv 7) (pe_call GB hr rfl Br.g Br.F.kp Br.b .nil pass0 (pa_cons (pv 1) (pa_cons (pv 5)
            (pa_cons (pe_tup (pa_cons (pe_ix ix_tup (pv 4) pe_int (fun _ _ => rfl)) (pa_cons (pe_not (pe_ix ix_tup (pv 4) pe_int (fun _ _ => rfl))) pa_nil))) pa_nil)))))))) pss_nil))))
      (pss_one (ps_ret (pe_tupleOf rfl B.tuple (pe_callB (cr_sortL (by exact hu)) (by rfl) B.sorted (by decide +kernel) (pa_cons (pe_callTy (call_listDn rfl) (by rfl) B.list (by decide +kernel) (pa_cons (pv 6) pa_nil)) pa_nil))))))), ?_⟩
    have s2 : 2 ≤ sizeLine := by decide
    have lws := vw_len ok x
    obtain ⟨TL, eTL, dTL, KTL⟩ : ∃ TL : List TRow, H lo = some (.tup (TL.map TRow.v)) ∧ TL.map Prod.snd = L.map ltD ∧ ∀ p ∈ TL, Dat H p.v p.2 ∧ keyable p.2 = true ∧ p.2.depth ≤ 8 := by
      obtain ⟨lo', TL, e, h1, h2, h3⟩ := cl_rows Dl
      cases e
      exact ⟨TL, h1, h2, h3⟩
    have lTL : TL.length = L.length := by
      have z := congrArg List.length dTL
      rw [List.length_map, List.length_map] at z
      exact z
    have lL : L.length ≤ 16 := by have := few_lts nd mem; omega
    refine ⟨_, rfl, _, rfl, v, sy, x, rfl, datS_of D, ok, fun lv H1 S1 hlv ev => ?_⟩
    have W0 : Wk H p c [(lv, .lst ((vw sy x).map V.str))] ([(v, sy.d)] ++ rowR TL) H1 := by
      have z := (((Wk.start hs).rows (R' := [(v, sy.d)] ++ rowR TL) fun y hy => .inr (by
        rcases List.mem_append.mp hy with h | h
        · cases List.mem_singleton.mp h
          exact ⟨keyable_say sy, D⟩
        · obtain ⟨q', hq', rfl⟩ := rowR_mem h
          exact ⟨(KTL q' hq').2.1, (KTL q' hq').1⟩)).same S1)
      exact z.know ev (fun z2 => by
        obtain ⟨ys, hy⟩ := hs.lst
        rw [z2, hy] at hlv
        cases hlv) fun y hy => absurd hy (by simp)
    refine ⟨_, rfl, lo, rfl, ⟨_, SqT.of (S1 _ _ eTL)⟩, fun Dl hDl => ?_⟩
    have hDl0 := W0.free hDl
    have D3k : ∀ {G : Hp} {c1 : Nat}, Dr H p c1 G → G lo = some (.tup (TL.map TRow.v)) := fun d => nofix_tup hs d eTL
    refine lc_tup (K := K) (a := lo) (xs := TL.map TRow.v) (fun j H4 => ∃ ps : List Addr, ps.length = j ∧ Paired (fun (p : Addr) (e : DRow) => H4 p = some (.tup [.ref e.1.1, e.2])) ps ((TL.take j).map fun q => (q, V.bl true)) ∧ Wk H p c [(Dl, .lst (ps.map V.ref)), (lv, .lst ((vw sy x).map V.str))] ([(v, sy.d)] ++ rowR TL) H4)
      ⟨[], rfl, .nil, W0.new hDl⟩ (fun j H4 _ ⟨ps, _, _, W⟩ => SqT.of (D3k W.d)) ?_ ?_
    · rintro j x4 H4 hx ⟨ps, lp, pr, W⟩
      rw [List.getElem?_map] at hx
      obtain ⟨y, hy, rfl⟩ := Option.map_eq_some_iff.mp hx
      have jl : j < TL.length := (List.getElem?_eq_some_iff.mp hy).1
      refine ⟨rfl, yes_of ⟨_, rfl, s2, fun t ht => ?_⟩⟩
      have W5 := W.new (o := .tup [.ref y.1, .bl true]) ht
      refine ⟨_, W5.at 1 rfl, by rw [List.length_map, lp]; exact small1000 (by omega), ps ++ [t], by rw [List.length_append, lp]; rfl, ?_, ?_⟩
      · have K5 : ∀ b xs, upd H4 t (.tup [.ref y.1, .bl true]) b = some (.tup xs) → upd (upd H4 t (.tup [.ref y.1, .bl true])) Dl (.lst (ps.map V.ref ++ [V.ref t])) b = some (.tup xs) := tk_put fun xs z => by rw [W5.at 1 rfl] at z; cases z
        rw [take_next hy, List.map_append]
        refine paired_snoc (paired_mono (fun b e z => K5 _ _ ?_) pr) (K5 _ _ upd_same)
        rw [upd_ne (ne_of_none z ht)]
        exact z
      · have W6 := (W5.sub (F' := [(Dl, .lst (ps.map V.ref)), (lv, .lst ((vw sy x).map V.str))]) (.cons _ (.refl _))).put (o' := .lst (ps.map V.ref ++ [V.ref t])) 0 rfl hDl0 lst_nt
        rw [List.map_append]
        exact W6
    · rintro H5 ⟨ps, lp, pr, W⟩
      rw [List.length_map, List.take_length] at pr
      have eD : ((TL.map fun q => (q, V.bl true)).map Prod.fst) = TL := by
        rw [List.map_map]
        exact List.map_id _
      have kk0 : KeysAt H5 (TL.map fun q => (q, V.bl true)) := fun r hr => by
        obtain ⟨q', hq', rfl⟩ := List.mem_map.mp hr
        exact ⟨W.rr q' hq', (KTL q' hq').2⟩
      have nd0 : ((TL.map fun q => (q, V.bl true)).map fun e => nkey e.1.2).Nodup := by
        have z : ((TL.map fun q => (q, V.bl true)).map fun e => nkey e.1.2) = (L.map ltD).map nkey := by
          rw [← dTL, List.map_map, List.map_map]
          rfl
        rw [z, List.map_map]
        exact List.pairwise_map.mpr (nd.imp fun {a b} ne z => ne (nkey_lt.mp z))
      refine ⟨Dl, ps, _, rfl, SqL.of (W.at 0 rfl), pr, kk0, nd0, fun aF hF => ⟨_, _, rfl, ?_⟩⟩
      have hF0 := W.free hF
      have W1 := (W.sub (F' := [(lv, .lst ((vw sy x).map V.str))]) (.cons _ (.refl _))).new (o := DnO w aF (TL.map fun q => (q, V.bl true))) hF
      have lenW : 0 < (vw sy x).length := List.length_pos_iff.mpr hne
      refine ⟨_, rfl, _, rfl, _, rfl, _, _, rfl, .inl (SqL.of (W1.at 1 rfl)), p, _, _, rfl, W1.s, by omega, by rw [List.length_map]; omega, by rw [List.length_map]; omega, fun r o r0 r1 hp1 => ?_⟩
      rw [List.length_map] at r1
      have W2 := W1.src hp1
      obtain ⟨vv, hv, hm, _⟩ := at_ok (xs := (vw sy x).map V.str) r0 (by rw [List.length_map]; exact r1)
      obtain ⟨y, hy, rfl⟩ := List.mem_map.mp hm
      refine ⟨lv, _, r, _, rfl, rfl, SqL.of (W2.at 1 rfl), hv, ?_⟩
      refine ⟨_, rfl, p, _, 2, rfl, W2.s, by omega, by decide, by decide, fun r2 o2 _ _ hp2 => ⟨rfl, s2, fun t ht => ⟨(by show 1 ≤ sizeLine; decide), fun wL hwL => ?_⟩⟩⟩
      have W3 := W2.src hp2
      have W4 := W3.new (o := .tup [.str y, .bl (decide (V.int r2 = V.int 0))]) ht
      have W5 := W4.new (o := .lst [V.ref t]) hwL
      have hwL0 := W4.free hwL
      have Dt : Dat (upd (upd (upd (upd (upd H5 aF (DnO w aF (TL.map fun q => (q, V.bl true)))) p o) p o2) t (.tup [.str y, .bl (decide (V.int r2 = V.int 0))])) wL (.lst [V.ref t])) (.ref t) (ltD (y, decide (V.int r2 = V.int 0))) := .tup (W5.at 1 rfl) (.cons (.str _) (.cons (.bl _) .nil))
      have W6 : Wk H p (c + 2) [(wL, .lst ([(t, ltD (y, decide (V.int r2 = V.int 0)))].map TRow.v)), (aF, DnO w aF (TL.map fun q => (q, V.bl true))), (lv, .lst ((vw sy x).map V.str))] ([(v, sy.d)] ++ rowR ([(t, ltD (y, decide (V.int r2 = V.int 0)))] ++ (TL.map fun q => (q, V.bl true)).map Prod.fst)) _ :=
        ((W5.sub (F' := [(wL, .lst [V.ref t]), (aF, DnO w aF (TL.map fun q => (q, V.bl true))), (lv, .lst ((vw sy x).map V.str))]) (.cons₂ _ (.cons _ (.refl _)))).rows fun z hz => by
          rw [eD] at hz
          rcases List.mem_append.mp hz with h | h
          · exact .inl (List.mem_append_left _ h)
          · obtain ⟨q', hq', rfl⟩ := rowR_mem h
            rcases List.mem_append.mp hq' with h2 | h2
            · cases List.mem_singleton.mp h2
              exact .inr ⟨rfl, Dt⟩
            · exact .inl (List.mem_append_right _ (List.mem_map.mpr ⟨q', h2, rfl⟩)))
      refine gen_hp (F := fun G => Wk H p (c + 2) [(wL, .lst ([(t, ltD (y, decide (V.int r2 = V.int 0)))].map TRow.v)), (aF, DnO w aF (TL.map fun q => (q, V.bl true))), (lv, .lst ((vw sy x).map V.str))] ([(v, sy.d)] ++ rowR ([(t, ltD (y, decide (V.int r2 = V.int 0)))] ++ (TL.map fun q => (q, V.bl true)).map Prod.fst)) G) W6 (fun G W => ?_)
      clear W6 Dt W5 W4 W3 W2 W1
      refine ⟨fun m σ G => ∃ (o4 : Option V) (wL : Addr) (Tw : List TRow) (D : List DRow) (A F : List Ltr), σ = [some (.ref p), some v, some (.str x), some (.ref lo), o4, some (.ref lv), some (.ref aF), some (.ref wL)] ∧ H wL = none ∧ Tw.map Prod.snd = A.map ltD ∧ (∀ m ∈ A, m.1 ∈ vw sy x) ∧
          (D.map Prod.fst).map Prod.snd = F.map ltD ∧ F.Nodup ∧ (∀ m ∈ F, m.1 ∈ vw sy x) ∧ A.length ≤ 1 + 560 * F.length ∧ m = (16 - F.length) * 1000 + A.length ∧
          Wk H p (c + 2) [(wL, .lst (Tw.map TRow.v)), (aF, DnO w aF D), (lv, .lst ((vw sy x).map V.str))] ([(v, sy.d)] ++ rowR (Tw ++ D.map Prod.fst)) G,
        ⟨_, none, wL, _, _, [(y, decide (V.int r2 = V.int 0))], L, rfl, hwL0, rfl, fun m hm => by cases List.mem_singleton.mp hm; exact hy, by rw [eD, dTL], nd, mem, by simp, rfl, W⟩, ?_⟩
      rintro m σ G ⟨o4, wL, Tw, D, A, F, rfl, hwL0, dA, mA, dF, ndF, mF, lA, rfl, W⟩
      have lF : F.length ≤ 16 := by have := few_lts ndF mF; omega
      have lD : D.length = F.length := by
        have z := congrArg List.length dF
        rw [List.length_map, List.length_map, List.length_map] at z
        exact z
      have lTw : Tw.length = A.length := by
        have z := congrArg List.length dA
        rw [List.length_map, List.length_map] at z
        exact z
      have DA : Dat G (.ref wL) (.list (A.map ltD)) := by
        rw [← dA]
        exact .lst (W.at 0 rfl) (dats_rows fun q hq => W.rr q (List.mem_append_left _ hq))
      refine ⟨_, rfl, Nat.zero_le _, fun te hte => ⟨.list (A.map ltD), .list [], DA.same (same_new hte), .lst upd_same .nil, plains_map ltD (fun _ => rfl) A, rfl, ?_, _, rfl, ?_⟩⟩
      · have := depths_map ltD 1 depth_lt A
        simp only [PyData.depth]
        omega
      have W1 := W.new' (o := .lst ([] : List V)) hte
      refine gen_hp (F := fun G => Wk H p (c + 2) [(wL, .lst (Tw.map TRow.v)), (aF, DnO w aF D), (lv, .lst ((vw sy x).map V.str))] ([(v, sy.d)] ++ rowR (Tw ++ D.map Prod.fst)) G) W1 (fun G W => ?_)
      have kkD : ∀ {G' : Hp} {D1 : List DRow} {F2 : List Ltr}, (D1.map Prod.fst).map Prod.snd = F2.map ltD → (∀ q ∈ D1.map Prod.fst, Dat G' q.v q.2) → KeysAt G' D1 := fun {G' D1 F2} e h r hr => by
        have m : r.1.2 ∈ (D1.map Prod.fst).map Prod.snd := List.mem_map_of_mem (List.mem_map_of_mem hr)
        rw [e] at m
        obtain ⟨z, _, hz⟩ := List.mem_map.mp m
        exact ⟨h r.1 (List.mem_map_of_mem hr), by rw [← hz]; exact keyable_lt z, by rw [← hz]; have := depth_lt z; omega⟩
      rcases List.eq_nil_or_concat Tw with rfl | ⟨Tw6, pp, rfl⟩
      · have eA : A = [] := by
          cases A with
          | nil => rfl
          | cons y l => cases dA
        subst eA
        have eb : (!PyData.eqv (.list (([] : List Ltr).map ltD)) (.list [])) = false := by simp [PyData.eqv, PyData.eqvAll]
        rw [eb]
        show if false = true then _ else _
        rw [if_neg (by decide)]
        have hDD : ∀ q ∈ D.map Prod.fst, Dat G q.v q.2 := fun q hq => W.rr q (List.mem_append_right _ hq)
        refine ⟨_, rfl, aF, D, rfl, .inl (W.at 1 rfl), kkD dF hDD, fun bL hbL => ?_⟩
        have W2 := W.new (o := .lst ((D.map Prod.fst).map TRow.v)) hbL
        refine ⟨bL, D.map Prod.fst, rfl, SqL.of (W2.at 0 rfl), fun q hq => W2.rr q (List.mem_append_right _ hq), sorty_of dF alike_lt (fun o => ⟨_, rfl⟩) (fun o => by have := depth_lt o; omega), fun T' b9 pm _ up hb9 => .inl ⟨b9, _, rfl, SqL.of upd_same, fun t ht => ?_⟩⟩
        have W3 := W2.new' (o := .lst (T'.map TRow.v)) hb9
        have W4 := W3.new (o := .tup (T'.map TRow.v)) ht
        obtain ⟨M, pL, eM⟩ := perm_back (f := ltD) ((pm.map Prod.snd).trans (.of_eq dF)) F rfl
        refine q t M _ (.tup (W4.at 0 rfl) ?_) (pL.nodup_iff.mpr ndF) (fun m hm => mF m (pL.mem_iff.mp hm)) W4.d
        rw [← eM]
        exact dats_rows fun q' hq' => W4.rr q' (List.mem_append_right _ (pm.mem_iff.mp hq'))
      · rw [List.concat_eq_append] at *
        obtain ⟨A6, l, rfl⟩ : ∃ A6 l, A = A6 ++ [l] := by
          rcases List.eq_nil_or_concat A with rfl | ⟨A6, l, rfl⟩
          · rw [List.map_append] at dA
            simp at dA
          · exact ⟨A6, l, List.concat_eq_append⟩
        have e2 : Tw6.map Prod.snd = A6.map ltD ∧ pp.2 = ltD l := by
          rw [List.map_append, List.map_append] at dA
          have z := List.append_inj' dA rfl
          exact ⟨z.1, by have y := z.2; injection y⟩
        obtain ⟨d6, ep⟩ := e2
        have eb : (!PyData.eqv (.list ((A6 ++ [l]).map ltD)) (.list [])) = true := by cases A6 <;> simp [PyData.eqv, PyData.eqvAll]
        rw [eb]
        show if true = true then _ else _
        rw [if_pos rfl]
        refine ⟨_, fun σ' H' z => z, ?_⟩
        refine ⟨_, rfl, .inl ⟨rfl, _, SqL.of (W.at 0 rfl)⟩, wL, _, pp.v, rfl, rfl, W.at 0 rfl, by simp, ?_⟩
        rw [show ((Tw6 ++ [pp]).map TRow.v).dropLast = Tw6.map TRow.v by rw [List.map_append]; simp]
        have W2 := W.put (o' := .lst (Tw6.map TRow.v)) 0 rfl hwL0 lst_nt
        have Dp : Dat (upd G wL (.lst (Tw6.map TRow.v))) (.ref pp.1) (ltD l) := by
          rw [← ep]
          exact W2.rr pp (List.mem_append_left _ (List.mem_append_right _ List.mem_cons_self))
        refine gen_hp (F := fun G' => Wk H p (c + 2) [(wL, .lst (Tw6.map TRow.v)), (aF, DnO w aF D), (lv, .lst ((vw sy x).map V.str))] ([(v, sy.d)] ++ rowR ((Tw6 ++ [pp]) ++ D.map Prod.fst)) G' ∧ Dat G' (.ref pp.1) (ltD l)) ⟨W2, Dp⟩ (fun G ⟨W, Dp⟩ => ?_)
        have hDD : ∀ q ∈ D.map Prod.fst, Dat G q.v q.2 := fun q hq => W.rr q (List.mem_append_right _ hq)
        have ml := mA l (List.mem_append_right _ List.mem_cons_self)
        have lA6 : (A6 ++ [l]).length = A6.length + 1 := by rw [List.length_append]; rfl
        refine ⟨_, rfl, _, rfl, pp.1, aF, D, ltD l, rfl, rfl, .inl (W.at 1 rfl), kkD dF hDD, Dp, keyable_lt l, by have := depth_lt l; omega, _, rfl, ?_⟩
        show if (!(lookN D (ltD l)).isSome) = true then _ else _
        rw [lookN_lt dF]
        by_cases hl : l ∈ F
        · rw [decide_eq_true hl, if_neg (by decide)]
          refine ⟨_, ?_, _, wL, Tw6, D, A6, F, rfl, hwL0, d6, fun m hm => mA m (List.mem_append_left _ hm), dF, ndF, mF, by omega, rfl, W.rows fun z hz => .inl ?_⟩
          · omega
          · rcases List.mem_append.mp hz with h | h
            · exact List.mem_append_left _ h
            · obtain ⟨q', hq', rfl⟩ := rowR_mem h
              refine List.mem_append_right _ (List.mem_map.mpr ⟨q', ?_, rfl⟩)
              rcases List.mem_append.mp hq' with h2 | h2
              · exact List.mem_append_left _ (List.mem_append_left _ h2)
              · exact List.mem_append_right _ h2
        · rw [decide_eq_false hl, if_pos (by decide)]
          have hnone : lookN D (ltD l) = none := by
            have z := lookN_lt dF l
            rw [decide_eq_false hl] at z
            cases hh : lookN D (ltD l) with
            | none => rfl
            | some y => rw [hh] at z; cases z
          have ndF' : (F ++ [l]).Nodup := List.nodup_append.mpr ⟨ndF, by simp, fun a ha b hb e => hl (by rw [← List.mem_singleton.mp hb, ← e]; exact ha)⟩
          have mF' : ∀ m ∈ F ++ [l], m.1 ∈ vw sy x := fun m hm => by
            rcases List.mem_append.mp hm with h | h
            · exact mF m h
            · rw [List.mem_singleton.mp h]; exact ml
          have lF' : (F ++ [l]).length ≤ 16 := by have := few_lts ndF' mF'; omega
          have lF1 : (F ++ [l]).length = F.length + 1 := by rw [List.length_append]; rfl
          refine ⟨_, rfl, _, rfl, aF, pp.1, D, ltD l, rfl, rfl, .inl (W.at 1 rfl), kkD dF hDD, Dp, keyable_lt l, by have := depth_lt l; omega, by rw [lD]; exact small1000 (by omega), ?_⟩
          rw [putN_new (r := (pp.1, ltD l)) hnone]
          have W3 := W.put (o' := DnO w aF (D ++ [((pp.1, ltD l), V.bl true)])) 1 rfl hF0 dn_nt
          obtain ⟨bt, ebt, gbt⟩ := ltr_row (dat_tk (tk_put (a := aF) (o := DnO w aF (D ++ [((pp.1, ltD l), V.bl true)])) fun xs z => by rw [W.at 1 rfl] at z; cases z) _ _ (keyable_lt l) Dp)
          have Dp3 := dat_tk (tk_put (a := aF) (o := DnO w aF (D ++ [((pp.1, ltD l), V.bl true)])) fun xs z => by rw [W.at 1 rfl] at z; cases z) _ _ (keyable_lt l) Dp
          refine gen_hp (F := fun G' => Wk H p (c + 2) [(wL, .lst (Tw6.map TRow.v)), (aF, DnO w aF (D ++ [((pp.1, ltD l), V.bl true)])), (lv, .lst ((vw sy x).map V.str))] ([(v, sy.d)] ++ rowR ((Tw6 ++ [pp]) ++ D.map Prod.fst)) G' ∧ G' bt = some (.tup [.str l.1, .bl l.2]) ∧ Dat G' (.ref pp.1) (ltD l)) ⟨W3, gbt, Dp3⟩ (fun G ⟨W, gbt, Dp⟩ => ?_)
          refine ⟨_, rfl, _, rfl, _, rfl, _, rfl, bt, _, 0, _, ebt, rfl, SqT.of gbt, rfl, _, rfl, bt, _, 1, _, ebt, rfl, SqT.of gbt, rfl, l.2, rfl, s2, fun t ht => ?_⟩
          have S5 := same_new (o := .tup [V.str l.1, .bl (!l.2)]) ht
          have W4 := W.same S5
          refine ⟨v, lv, t, sy, vw sy x, neg l, rfl, datS_of (W4.row 0 rfl), ok, W4.at 2 rfl, .tup upd_same (.cons (.str _) (.cons (.bl _) .nil)), fun l2 T2 G6 S6 hl2 el2 eT2 DT2 => ?_⟩
          have W5 := W4.same S6
          have lb := bes_le ok (vw sy x) (neg l)
          have lT2 : T2.length = (bes sy (vw sy x) (neg l)).length := by
            have z := congrArg List.length eT2
            rw [List.length_map, List.length_map] at z
            exact z
          have lTw6 : Tw6.length = A6.length := by
            have z := congrArg List.length d6
            rw [List.length_map, List.length_map] at z
            exact z
          refine ⟨wL, l2, _, _, rfl, rfl, W5.at 0 rfl, el2, ?_, fun ln hln => ?_⟩
          · rw [List.length_map, List.length_map]
            exact Nat.le_trans (show Tw6.length + T2.length ≤ 1000000 by omega) (by decide)
          have W6 := W5.new (o := .lst (Tw6.map TRow.v ++ T2.map TRow.v)) hln
          have S7 := same_new (o := .lst (Tw6.map TRow.v ++ T2.map TRow.v)) hln
          refine ⟨_, ?_, _, ln, Tw6 ++ T2, D ++ [((pp.1, ltD l), V.bl true)], A6 ++ bes sy (vw sy x) (neg l), F ++ [l], rfl, W5.free hln, by rw [List.map_append, List.map_append, d6, eT2], fun m hm => ?_, by rw [List.map_append, List.map_append, dF, List.map_append]; rfl, ndF', mF', by rw [List.length_append]; omega, rfl, ?_⟩
          · have z := List.length_append (as := A6) (bs := bes sy (vw sy x) (neg l))
            omega
          · rcases List.mem_append.mp hm with h | h
            · exact mA m (List.mem_append_left _ h)
            · exact bes_in h
          · rw [List.map_append (f := TRow.v)]
            refine (W6.sub (F' := [(ln, .lst (Tw6.map TRow.v ++ T2.map TRow.v)), (aF, DnO w aF (D ++ [((pp.1, ltD l), V.bl true)])), (lv, .lst ((vw sy x).map V.str))]) (.cons₂ _ (.cons _ (.refl _)))).rows fun z hz => ?_
            rcases List.mem_append.mp hz with h | h
            · exact .inl (List.mem_append_left _ h)
            · obtain ⟨q', hq', rfl⟩ := rowR_mem h
              rcases List.mem_append.mp hq' with h2 | h2
              · rcases List.mem_append.mp h2 with h3 | h3
                · exact .inl (List.mem_append_right _ (List.mem_map.mpr ⟨q', List.mem_append_left _ (List.mem_append_left _ h3), rfl⟩))
                · have m2 : q'.2 ∈ (bes sy (vw sy x) (neg l)).map ltD := eT2 ▸ List.mem_map_of_mem h3
                  obtain ⟨z, _, hz⟩ := List.mem_map.mp m2
                  exact .inr ⟨by rw [← hz]; exact keyable_lt z, (DT2 q' h3).same S7⟩
              · rw [List.map_append] at h2
                rcases List.mem_append.mp h2 with h3 | h3
                · exact .inl (List.mem_append_right _ (List.mem_map.mpr ⟨q', List.mem_append_right _ h3, rfl⟩))
                · cases List.mem_singleton.mp h3
                  exact .inr ⟨keyable_lt l, ((Dp.same S5).same S6).same S7⟩
end
end S2

set_option Elab.async false
set_option linter.all false
set_option maxRecDepth 100000
set_option maxHeartbeats 1000000
/-! how great bent data can be: widths, and a weight that adds up -/
namespace S2
open PySem PySem.W PySem.Spec PyProof.Rows L2 S1
theorem listText_le : ∀ ts : List Str, (listText ts).length ≤ piled ts + 2
  | [] => by decide
  | t :: r => by
    have h := textFrom_length_pos r 1 (("[" : Str) ++ (if (0 : Nat) > 0 then ", " else "" : String) ++ t) (Nat.succ_pos 0)
    have e1 : (("[" : Str) ++ (if (0 : Nat) > 0 then ", " else "" : String) ++ t).length = 1 + t.length := by
      rw [strLen_append, strLen_append]
      rfl
    have e2 : (listText (t :: r)).length = (textFrom 1 (("[" : Str) ++ (if (0 : Nat) > 0 then ", " else "" : String) ++ t) r).length + 1 := by
      show (textFrom 1 _ r ++ "]").length = _
      rw [strLen_append]
      rfl
    rw [piled_cons]
    omega
theorem join_le (ts : List Str) : (Str.join ", " ts).length ≤ piled ts := by
  by_cases h : ts = []
  · subst h
    decide
  · have := join_length_add ts h
    omega
theorem tupleText_le (ts : List Str) : (tupleText ts).length ≤ piled ts + 3 := by
  have h := join_le ts
  unfold tupleText
  rw [strLen_append, strLen_append]
  have e1 : ((("(" : String) : Str)).length = 1 := rfl
  have e3 : (((if ts.length == 1 then ",)" else ")" : String) : Str)).length ≤ 2 := by split <;> decide
  omega
mutual
/-- at least as much as its shown text has signs; adds up over parts -/
def wt : PyData → Nat
  | .list ds => 3 + wts ds
  | .tuple ds => 3 + wts ds
  | .str x => 10 * x.length + 2
  | .dict kvs => (PyData.shown (.dict kvs)).length
  | .none => (PyData.shown .none).length
  | .bool b => (PyData.shown (.bool b)).length
  | .int i => (PyData.shown (.int i)).length
def wts : List PyData → Nat
  | [] => 0
  | d :: ds => wt d + 2 + wts ds
end
mutual
/-- rows of at most n parts, texts of at most n signs, each with a code that a text can have -/
def limN (n : Nat) : PyData → Bool
  | .list ds => decide (ds.length ≤ n) && limNs n ds
  | .tuple ds => decide (ds.length ≤ n) && limNs n ds
  | .str x => decide (x.length ≤ n) && x.cps.toList.all fun c => decide (c < 200)
  | _ => true
def limNs (n : Nat) : List PyData → Bool
  | [] => true
  | d :: ds => limN n d && limNs n ds
end
theorem limNs_mem {n : Nat} : ∀ {ds : List PyData}, limNs n ds = true → ∀ d ∈ ds, limN n d = true
  | [], _, d, h => nomatch h
  | x :: ds, t, d, h => by
    rw [limNs, Bool.and_eq_true] at t
    rcases List.mem_cons.mp h with rfl | h
    · exact t.1
    · exact limNs_mem t.2 d h
theorem limNs_of {n : Nat} : ∀ {ds : List PyData}, (∀ d ∈ ds, limN n d = true) → limNs n ds = true
  | [], _ => rfl
  | x :: ds, h => by
    rw [limNs, h x List.mem_cons_self, limNs_of fun d hd => h d (List.mem_cons_of_mem _ hd)]
    rfl
theorem wts_append (a b : List PyData) : wts (a ++ b) = wts a + wts b := by
  induction a with
  | nil => rw [List.nil_append, wts, Nat.zero_add]
  | cons x a ih =>
    rw [List.cons_append, wts, wts, ih]
    omega
theorem wts_mem {d : PyData} : ∀ {ds : List PyData}, d ∈ ds → wt d + 2 ≤ wts ds
  | x :: ds, h => by
    rw [wts]
    rcases List.mem_cons.mp h with rfl | h
    · omega
    · have := wts_mem h
      omega
theorem wts_take (ds : List PyData) (k : Nat) : wts (ds.take k) ≤ wts ds := by
  conv => rhs; rw [← List.take_append_drop k ds, wts_append]
  exact Nat.le_add_right _ _
theorem wts_drop (ds : List PyData) (k : Nat) : wts (ds.drop k) ≤ wts ds := by
  conv => rhs; rw [← List.take_append_drop k ds, wts_append]
  exact Nat.le_add_left _ _
theorem wts_reverse (ds : List PyData) : wts ds.reverse = wts ds := by
  induction ds with
  | nil => rfl
  | cons x ds ih =>
    rw [List.reverse_cons, wts_append, ih, wts, wts, wts]
    omega
/-- it can be shown, and stays small -/
structure Fit (n w k : Nat) (d : PyData) : Prop where
  s : d.showable = true
  z : wt d ≤ w
  dp : d.depth ≤ k
  l : limN n d = true
theorem Fit.up {n w k n' w' k' : Nat} {d : PyData} (h : Fit n w k d) (hn : limN n d = true → limN n' d = true) (hw : w ≤ w') (hk : k ≤ k') : Fit n' w' k' d := ⟨h.s, Nat.le_trans h.z hw, Nat.le_trans h.dp hk, hn h.l⟩
mutual
theorem limN_mono {n n' : Nat} (h : n ≤ n') : ∀ d : PyData, limN n d = true → limN n' d = true
  | .list ds, t => by
    rw [limN, Bool.and_eq_true, decide_eq_true_eq] at t ⊢
    exact ⟨Nat.le_trans t.1 h, limNs_mono h ds t.2⟩
  | .tuple ds, t => by
    rw [limN, Bool.and_eq_true, decide_eq_true_eq] at t ⊢
    exact ⟨Nat.le_trans t.1 h, limNs_mono h ds t.2⟩
  | .str x, t => by
    rw [limN, Bool.and_eq_true, decide_eq_true_eq] at t ⊢
    exact ⟨Nat.le_trans t.1 h, t.2⟩
  | .none, _ => by simp [limN]
  | .bool _, _ => by simp [limN]
  | .int _, _ => by simp [limN]
  | .dict _, _ => by simp [limN]
theorem limNs_mono {n n' : Nat} (h : n ≤ n') : ∀ ds : List PyData, limNs n ds = true → limNs n' ds = true
  | [], _ => rfl
  | d :: ds, t => by
    rw [limNs, Bool.and_eq_true] at t ⊢
    exact ⟨limN_mono h d t.1, limNs_mono h ds t.2⟩
end
mutual
theorem lim_of {n : Nat} (h : n ≤ 1000) : ∀ d : PyData, limN n d = true → lim d = true
  | .list ds, t => by
    rw [limN, Bool.and_eq_true, decide_eq_true_eq] at t
    rw [lim, Bool.and_eq_true, decide_eq_true_eq]
    exact ⟨Nat.le_trans t.1 h, lims_of h ds t.2⟩
  | .tuple ds, t => by
    rw [limN, Bool.and_eq_true, decide_eq_true_eq] at t
    rw [lim, Bool.and_eq_true, decide_eq_true_eq]
    exact ⟨Nat.le_trans t.1 h, lims_of h ds t.2⟩
  | .str x, t => by
    rw [limN, Bool.and_eq_true, decide_eq_true_eq] at t
    rw [lim, decide_eq_true_eq]
    exact Nat.le_trans t.1 h
  | .none, _ => by simp [lim]
  | .bool _, _ => by simp [lim]
  | .int _, _ => by simp [lim]
  | .dict _, _ => by simp [lim]
theorem lims_of {n : Nat} (h : n ≤ 1000) : ∀ ds : List PyData, limNs n ds = true → lims ds = true
  | [], _ => rfl
  | d :: ds, t => by
    rw [limNs, Bool.and_eq_true] at t
    rw [lims, Bool.and_eq_true]
    exact ⟨lim_of h d t.1, lims_of h ds t.2⟩
end
mutual
/-- the weight is enough -/
theorem shown_wt {n : Nat} : ∀ d : PyData, limN n d = true → d.shown.length ≤ wt d
  | .list ds, t => by
    rw [limN, Bool.and_eq_true] at t
    simp only [PyData.shown]
    have h1 := listText_le (PyData.shownAll ds)
    have h2 := piled_wts ds t.2
    rw [wt]
    omega
  | .tuple ds, t => by
    rw [limN, Bool.and_eq_true] at t
    simp only [PyData.shown]
    have h1 := tupleText_le (PyData.shownAll ds)
    have h2 := piled_wts ds t.2
    rw [wt]
    omega
  | .str x, t => by
    rw [limN, Bool.and_eq_true, List.all_eq_true] at t
    simp only [PyData.shown]
    rw [wt]
    exact StrLaws.reprText_len x fun c hc => Nat.lt_trans (of_decide_eq_true (t.2 c hc)) (by decide)
  | .none, _ => by rw [wt]; exact Nat.le_refl _
  | .bool b, _ => by rw [wt]; exact Nat.le_refl _
  | .int i, _ => by rw [wt]; exact Nat.le_refl _
  | .dict kvs, _ => by rw [wt]; exact Nat.le_refl _
theorem piled_wts {n : Nat} : ∀ ds : List PyData, limNs n ds = true → piled (PyData.shownAll ds) ≤ wts ds
  | [], _ => by
    simp only [PyData.shownAll, wts]
    exact Nat.le_refl _
  | d :: ds, t => by
    rw [limNs, Bool.and_eq_true] at t
    have h1 := shown_wt d t.1
    have h2 := piled_wts ds t.2
    simp only [PyData.shownAll]
    rw [piled_cons, wts]
    omega
end
theorem Fit.lim {n w k : Nat} {d : PyData} (h : Fit n w k d) (hn : n ≤ 1000) : S2.lim d = true := lim_of hn d h.l
theorem Fit.shown {n w k : Nat} {d : PyData} (h : Fit n w k d) : d.shown.length ≤ w := Nat.le_trans (shown_wt d h.l) h.z
end S2

set_option Elab.async false
set_option linter.all false
set_option maxRecDepth 100000
set_option maxHeartbeats 1000000
/-! an object in the place of another one -/
namespace S2
open PySem PySem.W PySem.Spec PyProof.Rows L2 S1
theorem Fit.dict0 {n w k : Nat} (hw : 2 ≤ w) (hk : 1 ≤ k) : Fit n w k (.dict []) := ⟨by simp [PyData.showable, PyData.showableKv], by rw [wt]; exact hw, by simp only [PyData.depth, PyData.depthKv]; omega, by simp [limN]⟩
theorem Fit.non {n w k : Nat} (hw : 4 ≤ w) : Fit n w k .none := ⟨rfl, by rw [wt]; exact hw, Nat.zero_le _, by simp [limN]⟩
theorem Fit.bl {n w k : Nat} (b : Bool) (hw : 5 ≤ w) : Fit n w k (.bool b) := ⟨rfl, by rw [wt]; cases b <;> exact Nat.le_trans (by decide) hw, Nat.zero_le _, by simp [limN]⟩
/-- the integers that stand in the law's text -/
theorem Fit.num {n w k : Nat} {i : Int} (h : i = 0 ∨ i = 1 ∨ i = -1) (hw : 5 ≤ w) : Fit n w k (.int i) := by
  rcases h with rfl | rfl | rfl
  · exact ⟨by decide, by rw [wt]; exact Nat.le_trans (by decide) hw, Nat.zero_le _, by simp [limN]⟩
  · exact ⟨by decide, by rw [wt]; exact Nat.le_trans (by decide) hw, Nat.zero_le _, by simp [limN]⟩
  · exact ⟨by decide, by rw [wt]; exact Nat.le_trans (by decide) hw, Nat.zero_le _, by simp [limN]⟩
theorem Fit.str {n w k : Nat} {x : Str} (h1 : x.length ≤ n) (h2 : (x.cps.toList.all fun c => decide (c < 200)) = true) (hw : 10 * x.length + 2 ≤ w) : Fit n w k (.str x) := ⟨rfl, by rw [wt]; exact hw, Nat.zero_le _, by rw [limN, h2, decide_eq_true h1]; rfl⟩
theorem fits_parts {n w k : Nat} : ∀ {ds : List PyData}, (∀ d ∈ ds, Fit n w k d) → PyData.showableAll ds = true ∧ PyData.depthAll ds ≤ k ∧ limNs n ds = true
  | [], _ => ⟨by simp only [PyData.showableAll], by simp only [PyData.depthAll]; omega, rfl⟩
  | d :: ds, h => by
    have h1 := h d List.mem_cons_self
    obtain ⟨a, b, c⟩ := fits_parts fun x hx => h x (List.mem_cons_of_mem _ hx)
    refine ⟨by simp only [PyData.showableAll, h1.s, a, Bool.and_self], ?_, by rw [limNs, h1.l, c]; rfl⟩
    simp only [PyData.depthAll]
    exact Nat.max_le.mpr ⟨h1.dp, b⟩
theorem Fit.tup {n w w' k : Nat} {ds : List PyData} (h : ∀ d ∈ ds, Fit n w k d) (hl : ds.length ≤ n) (hw : 3 + wts ds ≤ w') : Fit n w' (k + 1) (.tuple ds) := by
  obtain ⟨a, b, c⟩ := fits_parts h
  exact ⟨by simp only [PyData.showable, a], by rw [wt]; exact hw, by simp only [PyData.depth]; omega, by rw [limN, c, decide_eq_true hl]; rfl⟩
theorem Fit.lst {n w w' k : Nat} {ds : List PyData} (h : ∀ d ∈ ds, Fit n w k d) (hl : ds.length ≤ n) (hw : 3 + wts ds ≤ w') : Fit n w' (k + 1) (.list ds) := by
  obtain ⟨a, b, c⟩ := fits_parts h
  exact ⟨by simp only [PyData.showable, a], by rw [wt]; exact hw, by simp only [PyData.depth]; omega, by rw [limN, c, decide_eq_true hl]; rfl⟩
section
variable {P : Program} {w : World} {K : PySem.W.Frag} {mg : Str → Option Value} {base : Heap}
theorem dat_off {H : Hp} {p : Addr} {xs : List V} {v : V} {d : PyData} (hp : H p = some (.lst xs)) (k : keyable d = true) (D : Dat H v d) : Dat (del H p) v d := by
  have S : Same (del H p) (del (del H p) p) := fun b u e => by
    by_cases z : b = p
    · subst z
      unfold del at e
      simp at e
    · rw [del_ne z]
      exact e
  exact dat_del hp S k D
end
end S2

set_option Elab.async false
set_option linter.all false
set_option maxRecDepth 100000
set_option maxHeartbeats 2000000
/-! an object in the place of another one -/
namespace S2
open PySem PySem.W PySem.Spec PyProof.Rows L2 S1
theorem dictText_le (ts : List Str) : (dictText ts).length ≤ piled ts + 2 := by
  have h := join_le ts
  unfold dictText
  rw [strLen_append, strLen_append]
  have e1 : ((("{" : String) : Str)).length = 1 := rfl
  have e2 : ((("}" : String) : Str)).length = 1 := rfl
  omega
theorem gcons {R : V → Prop} {x : V} {l : List V} (h : R x) (t : ∀ y ∈ l, R y) : ∀ y ∈ x :: l, R y := fun y hy => by
  rcases List.mem_cons.mp hy with rfl | hy
  · exact h
  · exact t y hy
theorem gnil {R : V → Prop} : ∀ y ∈ ([] : List V), R y := fun y hy => nomatch hy
theorem pcons {R : PyData → Prop} {x : PyData} {l : List PyData} (h : R x) (t : ∀ y ∈ l, R y) : ∀ y ∈ x :: l, R y := fun y hy => by
  rcases List.mem_cons.mp hy with rfl | hy
  · exact h
  · exact t y hy
theorem pnil {R : PyData → Prop} : ∀ y ∈ ([] : List PyData), R y := fun y hy => nomatch hy
/-- data off the source, of bounded size -/
def Gd (p : Addr) (n w k : Nat) (H : Hp) (v : V) : Prop := ∃ d, Dat (del H p) v d ∧ Fit n w k d
theorem Gd.same {p : Addr} {n w k : Nat} {H H' : Hp} {v : V} (h : Gd p n w k H v) (S : Same H H') : Gd p n w k H' v := let ⟨d, D, f⟩ := h; ⟨d, D.same (sd_of S), f⟩
theorem Gd.del {p : Addr} {n w k : Nat} {H H' : Hp} {v : V} (h : Gd p n w k H v) (S : Same (del H p) (del H' p)) : Gd p n w k H' v := let ⟨d, D, f⟩ := h; ⟨d, D.same S, f⟩
theorem gd_tup {p t : Addr} {n w w' k : Nat} {H : Hp} {xs : List V} {ds : List PyData} (ht : H t = none) (hp : p ≠ t) (D : DatAll (del H p) xs ds) (f : Fit n w' k (.tuple ds)) : Gd p n w' k (upd H t (.tup xs)) (.ref t) :=
  ⟨.tuple ds, .tup (by rw [del_ne hp.symm]; exact upd_same) (DatAll.same (sd_of (same_new ht)) D), f⟩
theorem gd_lst {p t : Addr} {n w' k : Nat} {H : Hp} {xs : List V} {ds : List PyData} (ht : H t = none) (hp : p ≠ t) (D : DatAll (del H p) xs ds) (f : Fit n w' k (.list ds)) : Gd p n w' k (upd H t (.lst xs)) (.ref t) :=
  ⟨.list ds, .lst (by rw [del_ne hp.symm]; exact upd_same) (DatAll.same (sd_of (same_new ht)) D), f⟩
theorem gd_dct {p t14 t15 : Addr} {n wn k : Nat} {H : Hp} {v : V} {d : PyData} (g14 : H t14 = none) (g15 : upd H t14 (.dK []) t15 = none) (p14 : p ≠ t14) (p15 : p ≠ t15) (D : Dat (del H p) v d) (ft0 : Fit n wn k d) (hn : 9 ≤ n) :
    Gd p n (2 * wn + 110) (k + 2) (upd (upd (upd H t14 (.dK [])) t15 (.lst [v])) t14 (.dK (mergeK [] [(Sum.inr "a", V.ref t15)]))) (.ref t14) := by
  have n1415 : t14 ≠ t15 := fun z => by
    rw [← z, upd_same] at g15
    cases g15
  have S17 : Same H (upd (upd (upd H t14 (.dK [])) t15 (.lst [v])) t14 (.dK (mergeK [] [(Sum.inr "a", V.ref t15)]))) := same_upd ((same_new (o := .dK []) g14).trans (same_new (o := .lst [v]) g15)) g14
  have wz := ft0.z
  have fl : Fit n (wn + 5) (k + 1) (.list [d]) := Fit.lst (k := k) (pcons ft0 pnil) (by show 1 ≤ n; omega) (by rw [wts, wts]; omega)
  refine ⟨.dict [(L2.keyD (.inr "a"), .list [d])], .dct (kvs := mergeK [] [(Sum.inr "a", V.ref t15)]) (by rw [del_ne p14.symm]; exact upd_same) (.cons (.lst (a := t15) (xs := [v]) ?_ (.cons ?_ .nil)) .nil), ?_, ?_, ?_, by simp [limN]⟩
  · rw [del_ne p15.symm, upd_ne n1415.symm]
    exact upd_same
  · exact D.same (sd_of S17)
  · simp only [PyData.showable, PyData.showableKv, L2.keyD]
    have fs : PyData.showableAll [d] = true := by simpa [PyData.showable] using fl.s
    rw [fs]
    rfl
  · have e : PyData.shown (.dict [(L2.keyD (.inr "a"), .list [d])]) = dictText [reprText ("a" : Str) ++ ((": " : String) : Str) ++ (PyData.shown (.list [d]))] := by
      simp only [PyData.shown, PyData.shownKv, L2.keyD]
    rw [wt, e]
    have h1 := dictText_le [reprText ("a" : Str) ++ ((": " : String) : Str) ++ (PyData.shown (.list [d]))]
    have h2 : (reprText ("a" : Str) ++ ((": " : String) : Str) ++ (PyData.shown (.list [d]))).length ≤ 14 + (wn + 5) := by
      rw [strLen_append, strLen_append]
      have y := fl.shown
      have y2 : (reprText ("a" : Str)).length ≤ 10 * ("a" : Str).length + 2 := StrLaws.reprText_len _ (by decide)
      have y4 : ("a" : Str).length = 1 := rfl
      have y3 : (((": " : String) : Str)).length = 2 := rfl
      omega
    have h3 : piled [reprText ("a" : Str) ++ ((": " : String) : Str) ++ (PyData.shown (.list [d]))] ≤ 14 + (wn + 5) + 2 := by
      rw [piled_cons]
      have : piled [] = 0 := rfl
      omega
    omega
  · simp only [PyData.depth, PyData.depthKv, L2.keyD]
    have := fl.dp
    simp only [PyData.depth] at this
    omega
section
variable {P : Program} {w : World} {K : PySem.W.Frag} {mg : Str → Option Value} {base : Heap}
end
end S2

set_option Elab.async false
set_option linter.all false
set_option maxRecDepth 100000
set_option maxHeartbeats 4000000
/-! x[::-1], x a tuple or a text -/
namespace HT
open PySem PyProof.Rows
open PySem.SeqAt
section
variable {prog : Program} {w : World} {A : Around} {E : Value → Shared → Prop} {s : Shared}
theorem places_rev (n : Nat) : Builtin.Slice.slicePlaces ((n : Int) - 1) (-1) (-1) = n := by
  unfold Builtin.Slice.slicePlaces
  have h1 : ¬ ((-1 : Int) > 0) := by decide
  simp only [h1, if_false]
  by_cases h : (n : Int) - 1 > -1
  · rw [if_pos h]
    have e : ((n : Int) - 1 - -1 - 1) / (- -1) + 1 = (n : Int) := by
      rw [show (- -1 : Int) = 1 by decide, Int.ediv_one]
      omega
    rw [e, Int.toNat_natCast]
  · rw [if_neg h]
    omega
theorem sliceApplied_rev {sl : Addr} {vl vu vs : Value} {n : Nat} {Q : Int × Int × Nat → Shared → Prop} (hs : s.heap.IsSliceOf sl vl vu vs) (pl : IsPart vl none) (pu : IsPart vu none) (ps : IsPart vs (some (-1)))
    (h : Q ((n : Int) - 1, -1, n) s) : wpAny (model prog w) A (Builtin.Slice.sliceApplied (.ref sl) (pure (n : Int))) Q E s := by
  obtain ⟨os, hos, hcs, hds⟩ := id hs
  unfold Builtin.Slice.sliceApplied Builtin.Slice.sliceFields
  refine wpAny_bind (wpAny_bind (wpAny_field hos hds (x := vl) rfl (wpAny_bind (wpAny_field hos hds (x := vu) rfl (wpAny_bind (wpAny_field hos hds (x := vs) rfl (wpAny_pure ?_)))))))
  refine wpAny_bind (slicePart_ ps ?_)
  show wpAny _ _ (if ((-1 : Int) == 0) = true then _ else _) _ _ s
  rw [if_neg (by decide)]
  refine wpAny_bind (slicePart_ pl (wpAny_bind (slicePart_ pu (wpAny_bind (wpAny_pure ?_)))))
  show wpAny _ _ (pure ((n : Int) - 1, (-1 : Int), Builtin.Slice.slicePlaces ((n : Int) - 1) (-1) (-1))) _ _ s
  rw [places_rev]
  exact wpAny_pure h
theorem pick_rev (xs : Array Value) : ((List.range xs.size).filterMap fun (m : Nat) => xs[((xs.size : Int) - 1 + (m : Int) * (-1)).toNat]?).toArray = xs.toList.reverse.toArray := by
  have e : (fun (m : Nat) => xs[((xs.size : Int) - 1 + (m : Int) * (-1)).toNat]?) = (xs[·]?) ∘ fun m => xs.size - 1 - m := by
    funext m
    have : ((xs.size : Int) - 1 + (m : Int) * (-1)).toNat = xs.size - 1 - m := by omega
    simp only [Function.comp, this]
  rw [e, ← List.filterMap_map, PySem.W.krv_range, List.filterMap_reverse, PySem.W.krv_all]
theorem getItem_tuple_rev {t sl : Addr} {items : Array Value} {vl vu vs : Value} {Q : Value → Shared → Prop} (ht : IsTup s.heap t items) (hs : s.heap.IsSliceOf sl vl vu vs) (pl : IsPart vl none) (pu : IsPart vu none) (ps : IsPart vs (some (-1)))
    (h : Q (.ref s.heap.objs.size) { s with heap := s.heap.push { cls := .type "tuple", data := .seq items.toList.reverse.toArray } })
    (hsz : items.size ≤ sizeLine) : wpAny (model prog w) A (getItem (.ref t) (.ref sl)) Q E s := by
  have htake : sizeOk (.seq items.toList.reverse.toArray) := by
    show items.toList.reverse.toArray.size ≤ sizeLine
    rw [List.size_toArray, List.length_reverse, Array.length_toList]
    exact hsz
  obtain ⟨os, hos, hcs, hds⟩ := id hs
  have hTs : s.TypeIs (.ref sl) "slice" := ⟨os, hos, hcs⟩
  unfold getItem
  try with_reducible refine wpAny_holding ?_
  first | refine wpAny_bind (wpAny_pure ?_) | skip
  refine wpAny_bind (wpAny_sequenceKey ht.typeIs (by decide) ?_)
  refine wpAny_bind (wpAny_callSpecial?_slot (name := Str.ofString "__getitem__") ht.typeIs PyProof.Rows.slot_tuple_getitem
    (wpAny_call_entry PyProof.Rows.slot_tuple_getitem ht.typeIs entry_tuple_getitem ?_ (args_tuple_getitem _ _)))
  show wpAny _ _ (Builtin.Tuple.tupleItemsOf (.ref t) >>= _) _ _ s
  refine wpAny_bind (tupleItemsOf_ ht ?_)
  refine wpAny_bind (wpAny_typeOf hTs ?_)
  rw [if_pos (by decide)]
  refine wpAny_bind (sliceApplied_rev hs pl pu ps ?_)
  have hno : ¬ ((((items.size : Int) - 1) == 0 && (-1 : Int) == 1 && items.size == items.size) = true) := by
    intro q
    rw [Bool.and_eq_true, Bool.and_eq_true] at q
    exact absurd q.1.2 (by decide)
  show wpAny _ _ (if (((items.size : Int) - 1) == 0 && (-1 : Int) == 1 && items.size == items.size) = true then _ else _) _ _ s
  rw [if_neg hno, pick_rev]
  first
    | exact wpAny_bind (m := Builtin.Tuple.tupleExact _) (wpAny_newObj_type (wpAny_pure ⟨_, rfl, wpAny_pure h⟩) htake)
end
end HT
namespace L2
open PySem PySem.W PySem.Spec PyProof.Rows
section
variable {X : Cx}
def revS (z : Str) : Str := ⟨z.cps.toList.reverse.toArray⟩
theorem pickS_rev (z : Str) : ((Builtin.Str.strSliceIndices none none (-1) z.length).filterMap (z.cps[·]?)).toArray = z.cps.toList.reverse.toArray := by
  have e : Builtin.Str.strSliceIndices none none (-1) z.length = (List.range z.cps.size).map fun k => z.cps.size - 1 - k := by
    show sliceRange ((z.cps.size : Int) - 1) (-1) (-1) = _
    exact PySem.W.krv_sliceRange _
  rw [e, PySem.W.krv_range, List.filterMap_reverse, PySem.W.krv_all]
def tRevA (K : PySem.W.Frag) (te : TE) : TE := fun σ H Q => te σ H fun x H1 => (∃ a xs, x = .ref a ∧ SqT K H1 a xs ∧ ∀ p, H1 p = none → Q (.ref p) (upd H1 p (.tup xs.reverse))) ∨ (∃ z, x = .str z ∧ z.length ≤ sizeLine ∧ Q (.str (revS z)) H1)
theorem pe_revA {e : Expr} {te : TE} {k : Nat} {p1 p2 p3 pos : Pos} (he : PE X e te) : PE X (.Subscript e (.Slice none none (some (.UnaryOp .USub (.Constant (.int 1) k p1) p2)) p3) pos) (tRevA X.K te) := by
  refine ⟨fun pins s σ H Q I h => ?_⟩
  refine Subscript_ (thn (he.run pins s σ H _ I h) fun v s1 ⟨x, H1, I1, r1, q1⟩ => ?_)
  have hst : PO X (some (.UnaryOp .USub (.Constant (.int 1) k p1) p2)) (tPart (tUn (rU fun i => .int (-i)) (tC (.int 1)))) := po_some (pe_un un_neg pe_int)
  refine wpAny_Slice (thn (po_none.run pins s1 σ H1 (fun o H2 => o = none ∧ H2 = H1) I1 ⟨rfl, rfl⟩) fun vl s2 ⟨l, H2, I2, pl, el, e2⟩ => ?_)
  subst el e2
  refine thn (po_none.run pins s2 σ H2 (fun o H3 => o = none ∧ H3 = H2) I2 ⟨rfl, rfl⟩) fun vu s3 ⟨u, H3, I3, pu, eu, e3⟩ => ?_
  subst eu e3
  refine thn (hst.run pins s3 σ H3 (fun o H4 => o = some (-1) ∧ H4 = H3) I3 ⟨1, rfl, -1, rfl, rfl, rfl⟩) fun vs s4 ⟨o, H4, I4, ps, eo, e4⟩ => ?_
  subst eo e4
  have I5 : Inv X pins σ H4 { s4 with heap := s4.heap.push { cls := .type "slice", data := .fields #[vl, vu, vs] } } := I4.kept (t' := s4.toks) fun b ob q => Heap.get?_push_of_some _ q
  rcases q1 with ⟨a, xs, ex, hx, q⟩ | ⟨z, ex, hz, q⟩
  · subst ex
    cases r1
    obtain ⟨its, r, ht, hz⟩ := I5.tuple hx
    have hlen := r.length
    show wpAny (model X.prog X.w) X.A (subscriptTail e (.Slice none none (some (.UnaryOp .USub (.Constant (.int 1) k p1) p2)) p3) (.ref a) (.ref s4.heap.objs.size)) (EP X pins σ Q) X.xe { s4 with heap := s4.heap.push { cls := .type "slice", data := .fields #[vl, vu, vs] } }
    refine tail_any (ops := [.ref a, .ref s4.heap.objs.size]) ht.typeIs (PyProof.Rows.slot_tuple_getitem.lookup) ?_ (by with_unfolding_all rfl)
    refine HT.getItem_tuple_rev ht (Heap.IsSliceOf.new _ vl vu vs) pl pu ps ?_ (by rw [List.size_toArray]; omega)
    refine ⟨.ref _, _, I5.laid (t' := s4.toks) (o := .tup xs.reverse) (fun b ob q => Heap.get?_push_of_some _ q) (Nat.le_refl _) ?_, rfl, q _ (I5.hok.fresh (Nat.le_refl _))⟩
    exact ⟨by rw [List.length_reverse]; exact hz, _, r.reverse, IsTup.new _ _⟩
  · subst ex
    obtain ⟨t, rfl⟩ := r1
    obtain ⟨l, rfl, el⟩ := IsPart.raw pl
    obtain ⟨u, rfl, eu⟩ := IsPart.raw pu
    obtain ⟨sp, rfl, es⟩ := IsPart.raw ps
    show wpAny (model X.prog X.w) X.A (subscriptTail e (.Slice none none (some (.UnaryOp .USub (.Constant (.int 1) k p1) p2)) p3) (.str z t) (.ref s4.heap.objs.size)) (EP X pins σ Q) X.xe { s4 with heap := s4.heap.push { cls := .type "slice", data := .fields #[_, _, _] } }
    refine tail_any (ops := [.str z t, .ref s4.heap.objs.size]) (typeIs_str _ _ _) (F.slot_str_getitem.lookup) ?_ (by with_unfolding_all rfl)
    have h1 : (sp.map (·.1)).getD 1 = -1 := by rw [es]; rfl
    refine wpAny_getItem_str_slice (l := l) (u := u) (st := sp) ⟨_, Heap.get?_push_size _ rfl, rfl, rfl⟩ (by rw [h1]; rfl) ?_
    have hm : sliceMade z t l u sp = .str (revS z) := by
      unfold sliceMade slicePicked
      rw [h1, el, eu, pickS_rev, if_neg (by rw [show ((-1 : Int) == 1) = false from by decide, Bool.false_and]; decide)]
      rfl
    rw [hm]
    have hl : (revS z).length ≤ sizeLine := by
      show (z.cps.toList.reverse.toArray).size ≤ _
      rw [List.size_toArray, List.length_reverse, Array.length_toList]
      exact hz
    exact ⟨hl, .str _, H4, I5.tok _, ⟨_, rfl⟩, q⟩
end
end L2

set_option Elab.async false
set_option linter.all false
set_option maxRecDepth 100000
set_option maxHeartbeats 2000000
/-! tuples and texts cut and joined, what comes told no more than is needed -/
namespace S2
open PySem PySem.W PySem.Spec PyProof.Rows L2 S1
section
variable {X : Cx}
def rCatW : R2 := fun x y H Q => ∃ a b xs ys, x = .ref a ∧ y = .ref b ∧ H a = some (.tup xs) ∧ H b = some (.tup ys) ∧ xs.length + ys.length ≤ sizeLine ∧ ∀ (t : Addr) (H' : Hp), Same H H' → H' t = some (.tup (xs ++ ys)) → Q (.ref t) H'
theorem op_catW : OpR X (binaryOp .Add) rCatW := by
  intro pins s σ H x y v u Q I rx ry h
  obtain ⟨a, b, xs, ys, rfl, rfl, ha, hb, hz, q⟩ := h
  refine op_catA pins s σ H _ _ v u Q I rx ry ⟨a, b, xs, ys, rfl, rfl, SqT.of ha, SqT.of hb, hz, fun e => q b H (Same.refl _) (by rw [e]; exact hb), fun _ e => q a H (Same.refl _) (by rw [e, List.append_nil]; exact ha), fun _ _ p hp => q p _ (same_new hp) upd_same⟩
abbrev rCatS : R2 := fun x y H Q => ∃ i j, x = .str i ∧ y = .str j ∧ i.length + j.length ≤ sizeLine ∧ Q (.str (i ++ j)) H
abbrev rCatX : R2 := fun x y H Q => rCatW x y H Q ∨ rCatS x y H Q
theorem op_catX : OpR X (binaryOp .Add) rCatX := op_catW.or op_add_str
def rSlW : V → Option Int → Option Int → Hp → VK → Prop := fun x lo hi H Q => ∃ a xs, x = .ref a ∧ H a = some (.tup xs) ∧ ∀ (t : Addr) (H' : Hp), Same H H' → H' t = some (.tup (cutV xs lo hi)) → Q (.ref t) H'
theorem sl_tupW : SlR X rSlW := by
  intro pins s σ H x v vl vu lo hi sl Q I rx hs pl pu h
  obtain ⟨a, xs, rfl, hx, q⟩ := h
  refine sl_tupA pins s σ H _ v vl vu lo hi sl Q I rx hs pl pu ⟨a, xs, rfl, SqT.of hx, fun ⟨e1, e2⟩ => q a H (Same.refl _) ?_, fun _ p hp => q p _ (same_new hp) upd_same⟩
  have e : cutV xs lo hi = xs := by
    unfold cutV
    rw [e1, e2, List.drop_zero, Nat.sub_zero, List.take_length]
  rw [e]
  exact hx
abbrev rSlX : V → Option Int → Option Int → Hp → VK → Prop := fun x lo hi H Q => rSlW x lo hi H Q ∨ rSlS x lo hi H Q
theorem sl_X : SlR X rSlX := sl_tupW.or sl_str
abbrev rListX (K : PySem.W.Frag) : List V → Hp → VK → Prop := fun xs H Q => (∃ p ys, xs = [.ref p] ∧ (SqL K H p ys ∨ SqT K H p ys) ∧ ∀ l, H l = none → Q (.ref l) (upd H l (.lst ys))) ∨ rListStr xs H Q
theorem call_listX (hc : X.calm = true) : CallR X (.type "list") (rListX X.K) := CallR.or call_list_of (call_listStr hc)
end
/-! ### cuts of rows -/
theorem cutV_take {xs : List V} {r : Nat} : cutV xs none (some (r : Int)) = xs.take r := by
  unfold cutV
  rw [HT.sIx_nat, HT.sIx_none, List.drop_zero, Nat.sub_zero, ← List.take_eq_take_min]
theorem cutV_drop {xs : List V} {r : Nat} : cutV xs (some (r : Int)) none = xs.drop r := by
  unfold cutV
  rw [HT.sIx_nat, HT.sIx_none]
  rcases Nat.le_total r xs.length with h | h
  · rw [Nat.min_eq_left h]
    exact List.take_of_length_le (by rw [List.length_drop]; omega)
  · rw [Nat.min_eq_right h, List.drop_eq_nil_of_le h, List.drop_eq_nil_of_le (Nat.le_refl _)]
    simp
theorem cutV_mid {xs : List V} {a b : Nat} (h : a ≤ b) : cutV xs (some (a : Int)) (some (b : Int)) = (xs.drop a).take (b - a) := by
  unfold cutV
  rw [HT.sIx_nat, HT.sIx_nat]
  rcases Nat.le_total a xs.length with h1 | h1
  · rw [Nat.min_eq_left h1]
    rcases Nat.le_total b xs.length with h2 | h2
    · rw [Nat.min_eq_left h2]
    · rw [Nat.min_eq_right h2, List.take_of_length_le (by rw [List.length_drop]; omega), List.take_of_length_le (by rw [List.length_drop]; omega)]
  · rw [Nat.min_eq_right h1, List.drop_eq_nil_of_le (Nat.le_refl _), List.drop_eq_nil_of_le h1]
    simp
theorem DatAll.app {H : Hp} : ∀ {vs : List V} {ds : List PyData} {us : List V} {es : List PyData}, DatAll H vs ds → DatAll H us es → DatAll H (vs ++ us) (ds ++ es)
  | _, _, _, _, .nil, h => h
  | _, _, _, _, .cons a t, h => .cons a (DatAll.app t h)
theorem DatAll.tk {H : Hp} : ∀ {vs : List V} {ds : List PyData} (k : Nat), DatAll H vs ds → DatAll H (vs.take k) (ds.take k)
  | _, _, 0, _ => by rw [List.take_zero, List.take_zero]; exact .nil
  | _, _, k + 1, .nil => by rw [List.take_nil, List.take_nil]; exact .nil
  | _, _, k + 1, .cons a t => by rw [List.take_succ_cons, List.take_succ_cons]; exact .cons a (DatAll.tk k t)
theorem DatAll.dp {H : Hp} : ∀ {vs : List V} {ds : List PyData} (k : Nat), DatAll H vs ds → DatAll H (vs.drop k) (ds.drop k)
  | _, _, 0, h => by rw [List.drop_zero, List.drop_zero]; exact h
  | _, _, k + 1, .nil => by rw [List.drop_nil, List.drop_nil]; exact .nil
  | _, _, k + 1, .cons a t => by rw [List.drop_succ_cons, List.drop_succ_cons]; exact DatAll.dp k t
theorem DatAll.rv {H : Hp} : ∀ {vs : List V} {ds : List PyData}, DatAll H vs ds → DatAll H vs.reverse ds.reverse
  | _, _, .nil => .nil
  | _, _, .cons a t => by rw [List.reverse_cons, List.reverse_cons]; exact DatAll.app (DatAll.rv t) (.cons a .nil)
/-! ### tuples, texts, truths, one within another -/
mutual
def tsb : PyData → Bool
  | .tuple ds => tsbs ds
  | .str _ => true
  | .bool _ => true
  | _ => false
def tsbs : List PyData → Bool
  | [] => true
  | d :: ds => tsb d && tsbs ds
end
theorem tsbs_mem : ∀ {ds : List PyData}, tsbs ds = true → ∀ d ∈ ds, tsb d = true
  | [], _, d, h => nomatch h
  | x :: ds, t, d, h => by
    rw [tsbs, Bool.and_eq_true] at t
    rcases List.mem_cons.mp h with rfl | h
    · exact t.1
    · exact tsbs_mem t.2 d h
mutual
theorem tsb_plain : ∀ d : PyData, tsb d = true → d.plain = true
  | .tuple ds, h => by rw [tsb] at h; simp only [PyData.plain]; exact tsbs_plain ds h
  | .str _, _ => rfl
  | .bool _, _ => rfl
  | .none, h => by simp [tsb] at h
  | .int _, h => by simp [tsb] at h
  | .list _, h => by simp [tsb] at h
  | .dict _, h => by simp [tsb] at h
theorem tsbs_plain : ∀ ds : List PyData, tsbs ds = true → PyData.plainAll ds = true
  | [], _ => rfl
  | d :: ds, h => by
    rw [tsbs, Bool.and_eq_true] at h
    rw [PyData.plainAll, tsb_plain d h.1, tsbs_plain ds h.2]
    rfl
end
theorem tsbs_map {α : Type} (f : α → PyData) (h : ∀ x, tsb (f x) = true) : ∀ l : List α, tsbs (l.map f) = true
  | [] => rfl
  | x :: l => by rw [List.map_cons, tsbs, h x, tsbs_map f h l]; rfl
theorem showAll_mem : ∀ {ds : List PyData}, PyData.showableAll ds = true → ∀ d ∈ ds, d.showable = true
  | [], _, d, h => nomatch h
  | x :: ds, t, d, h => by
    simp only [PyData.showableAll, Bool.and_eq_true] at t
    rcases List.mem_cons.mp h with rfl | h
    · exact t.1
    · exact showAll_mem t.2 d h
theorem depthAll_mem : ∀ {ds : List PyData} {k : Nat}, PyData.depthAll ds ≤ k → ∀ d ∈ ds, d.depth ≤ k
  | [], _, _, d, h => nomatch h
  | x :: ds, k, t, d, h => by
    simp only [PyData.depthAll] at t
    rcases List.mem_cons.mp h with rfl | h
    · omega
    · exact depthAll_mem (by omega) d h
theorem Fit.part {n w k : Nat} {ds : List PyData} (h : Fit n w (k + 1) (.tuple ds)) {d : PyData} (hd : d ∈ ds) : Fit n w k d := by
  have h1 : PyData.showableAll ds = true := by simpa [PyData.showable] using h.s
  have h2 : PyData.depthAll ds ≤ k := by have := h.dp; simp only [PyData.depth] at this; omega
  have h3 := h.l
  rw [limN, Bool.and_eq_true] at h3
  have h4 := h.z
  rw [wt] at h4
  have h5 := wts_mem hd
  exact ⟨showAll_mem h1 d hd, by omega, depthAll_mem h2 d hd, limNs_mem h3.2 d hd⟩
/-! ### texts -/
def lowS (z : Str) : Prop := ∀ c ∈ z.cps.toList, c < 200
theorem lowS_all {z : Str} (h : lowS z) : (z.cps.toList.all fun c => decide (c < 200)) = true := by
  rw [List.all_eq_true]
  exact fun c hc => decide_eq_true (h c hc)
theorem app_tl (x y : Str) : (x ++ y).cps.toList = x.cps.toList ++ y.cps.toList := by
  show (x.cps ++ y.cps).toList = _
  rw [Array.toList_append]
theorem app_len (x y : Str) : (x ++ y).length = x.length + y.length := by
  show (x.cps ++ y.cps).size = _
  rw [Array.size_append]
  rfl
theorem lowS.app {x y : Str} (hx : lowS x) (hy : lowS y) : lowS (x ++ y) := fun c hc => by
  rw [app_tl] at hc
  rcases List.mem_append.mp hc with z | z
  · exact hx c z
  · exact hy c z
theorem lowS.cut {x : Str} (hx : lowS x) (lo hi : Option Int) : lowS (cutS x lo hi) := fun c hc => by
  unfold cutS at hc
  exact hx c (List.mem_of_mem_drop (List.mem_of_mem_take (by simpa using hc)))
theorem lowS.rev {x : Str} (hx : lowS x) : lowS (revS x) := fun c hc => by
  unfold revS at hc
  exact hx c (by simpa using hc)
theorem rev_len (x : Str) : (revS x).length = x.length := by
  show (x.cps.toList.reverse.toArray).size = x.cps.size
  rw [List.size_toArray, List.length_reverse, Array.length_toList]
theorem cutS_take (x : Str) (r : Nat) : (cutS x none (some (r : Int))).length ≤ r := by
  show (((x.cps.toList.drop (HT.sIx x.length 0 none)).take (HT.sIx x.length x.length (some (r : Int)) - HT.sIx x.length 0 none)).toArray).size ≤ r
  rw [List.size_toArray, List.length_take, HT.sIx_nat, HT.sIx_none]
  omega
theorem cutS_drop (x : Str) (r : Nat) : (cutS x (some (r : Int)) none).length + min r x.length ≤ x.length := by
  show (((x.cps.toList.drop (HT.sIx x.length 0 (some (r : Int)))).take (HT.sIx x.length x.length none - HT.sIx x.length 0 (some (r : Int)))).toArray).size + _ ≤ x.length
  rw [List.size_toArray, List.length_take, HT.sIx_nat, HT.sIx_none]
  omega
end S2

set_option Elab.async false
set_option linter.all false
set_option maxRecDepth 100000
set_option maxHeartbeats 2000000
/-! rows of bounded data -/
namespace S2
open PySem PySem.W PySem.Spec PyProof.Rows L2 S1
/-- rows of data off the source: bounded each, and in all -/
def Gs (p : Addr) (n w k : Nat) (H : Hp) (vs : List V) (b : Nat) : Prop := ∃ ds, DatAll (del H p) vs ds ∧ (∀ d ∈ ds, Fit n w k d) ∧ wts ds ≤ b
section
variable {p : Addr} {n w k : Nat} {H H' : Hp} {vs us : List V} {b c : Nat}
theorem Gs.dl (h : Gs p n w k H vs b) (S : Same (del H p) (del H' p)) : Gs p n w k H' vs b := let ⟨ds, D, f, z⟩ := h; ⟨ds, DatAll.same S D, f, z⟩
theorem Gs.same (h : Gs p n w k H vs b) (S : Same H H') : Gs p n w k H' vs b := h.dl (sd_of S)
theorem Gs.app (h : Gs p n w k H vs b) (h2 : Gs p n w k H us c) : Gs p n w k H (vs ++ us) (b + c) := by
  obtain ⟨ds, D, f, z⟩ := h
  obtain ⟨es, E, f2, z2⟩ := h2
  refine ⟨ds ++ es, S2.DatAll.app D E, fun d hd => ?_, by rw [wts_append]; omega⟩
  rcases List.mem_append.mp hd with m | m
  · exact f d m
  · exact f2 d m
theorem Gs.up {n' w' k' b' : Nat} (h : Gs p n w k H vs b) (hn : n ≤ n') (hw : w ≤ w') (hk : k ≤ k') (hb : b ≤ b') : Gs p n' w' k' H vs b' := by
  obtain ⟨ds, D, f, z⟩ := h
  exact ⟨ds, D, fun d hd => (f d hd).up (limN_mono hn d) hw hk, Nat.le_trans z hb⟩
theorem Gs.tk (h : Gs p n w k H vs b) (i : Nat) : Gs p n w k H (vs.take i) b := by
  obtain ⟨ds, D, f, z⟩ := h
  exact ⟨ds.take i, S2.DatAll.tk i D, fun d hd => f d (List.mem_of_mem_take hd), Nat.le_trans (wts_take ds i) z⟩
theorem Gs.dp (h : Gs p n w k H vs b) (i : Nat) : Gs p n w k H (vs.drop i) b := by
  obtain ⟨ds, D, f, z⟩ := h
  exact ⟨ds.drop i, S2.DatAll.dp i D, fun d hd => f d (List.mem_of_mem_drop hd), Nat.le_trans (wts_drop ds i) z⟩
theorem Gs.rv (h : Gs p n w k H vs b) : Gs p n w k H vs.reverse b := by
  obtain ⟨ds, D, f, z⟩ := h
  exact ⟨ds.reverse, S2.DatAll.rv D, fun d hd => f d (List.mem_reverse.mp hd), by rw [wts_reverse]; exact z⟩
/-- two ends about a place -/
theorem Gs.ends (h : Gs p n w k H vs b) {i j : Nat} (hij : i ≤ j) : ∃ c1 c2, Gs p n w k H (vs.take i) c1 ∧ Gs p n w k H (vs.drop j) c2 ∧ c1 + c2 ≤ b := by
  obtain ⟨ds, D, f, z⟩ := h
  refine ⟨_, _, ⟨ds.take i, S2.DatAll.tk i D, fun d hd => f d (List.mem_of_mem_take hd), Nat.le_refl _⟩, ⟨ds.drop j, S2.DatAll.dp j D, fun d hd => f d (List.mem_of_mem_drop hd), Nat.le_refl _⟩, ?_⟩
  have e : wts (ds.take j) + wts (ds.drop j) = wts ds := by rw [← wts_append, List.take_append_drop]
  have e2 : ds.take i = (ds.take j).take i := by rw [List.take_take, Nat.min_eq_left hij]
  have := wts_take (ds.take j) i
  rw [← e2] at this
  omega
/-- ends, and what stands between -/
theorem Gs.hole {d : PyData} {ds : List PyData} {i : Nat} (D : DatAll (del H p) vs ds) (f : ∀ d ∈ ds, Fit n w k d) (hd : ds[i]? = some d) : ∃ c1 c2, Gs p n w k H (vs.take i) c1 ∧ Gs p n w k H (vs.drop (i + 1)) c2 ∧ c1 + (wt d + 2) + c2 = wts ds := by
  refine ⟨_, _, ⟨ds.take i, S2.DatAll.tk i D, fun d hd => f d (List.mem_of_mem_take hd), Nat.le_refl _⟩, ⟨ds.drop (i + 1), S2.DatAll.dp (i + 1) D, fun d hd => f d (List.mem_of_mem_drop hd), Nat.le_refl _⟩, ?_⟩
  have e : wts (ds.take (i + 1)) + wts (ds.drop (i + 1)) = wts ds := by rw [← wts_append, List.take_append_drop]
  have e2 : ds.take (i + 1) = ds.take i ++ [d] := by rw [List.take_add_one, hd]; rfl
  rw [e2, wts_append, wts, wts] at e
  omega
theorem Gd.one {v : V} (h : Gd p n w k H v) : Gs p n w k H [v] (w + 2) := by
  obtain ⟨d, D, f⟩ := h
  refine ⟨[d], .cons D .nil, fun e he => by cases List.mem_singleton.mp he; exact f, ?_⟩
  have := f.z
  rw [wts, wts]
  omega
theorem gs_tup {t : Addr} {w' : Nat} (e : H t = some (.tup vs)) (hp : t ≠ p) (g : Gs p n w k H vs b) (hl : vs.length ≤ n) (hb : b + 3 ≤ w') : Gd p n w' (k + 1) H (.ref t) := by
  obtain ⟨ds, D, f, z⟩ := g
  exact ⟨.tuple ds, .tup (by rw [del_ne hp]; exact e) D, Fit.tup f (by rw [← D.len]; exact hl) (by omega)⟩
theorem gs_lst {t : Addr} {w' : Nat} (e : H t = some (.lst vs)) (hp : t ≠ p) (g : Gs p n w k H vs b) (hl : vs.length ≤ n) (hb : b + 3 ≤ w') : Gd p n w' (k + 1) H (.ref t) := by
  obtain ⟨ds, D, f, z⟩ := g
  exact ⟨.list ds, .lst (by rw [del_ne hp]; exact e) D, Fit.lst f (by rw [← D.len]; exact hl) (by omega)⟩
theorem cutV_le (xs : List V) (lo hi : Option Int) : (cutV xs lo hi).length ≤ xs.length := by
  unfold cutV
  rw [List.length_take, List.length_drop]
  omega
end
end S2

set_option Elab.async false
set_option linter.all false
set_option maxRecDepth 100000
set_option maxHeartbeats 4000000
/-! rows of data evaluated, whatever has been written beside; off the source p -/
namespace S2
open PySem PySem.W PySem.Spec PyProof.Rows L2 S1 RZ
def Nice (d : PyData) : Prop := Fit 100 60000 6 d ∧ (parts d).length < 64
def NiceV (p : Addr) (H : Hp) (v : V) : Prop := ∃ d, Dat (del H p) v d ∧ Nice d
theorem NiceV.dl {p : Addr} {H H' : Hp} {v : V} (h : NiceV p H v) (S : Same (del H p) (del H' p)) : NiceV p H' v := let ⟨d, D, n⟩ := h; ⟨d, D.same S, n⟩
theorem NiceV.same {p : Addr} {H H' : Hp} {v : V} (h : NiceV p H v) (S : Same H H') : NiceV p H' v := h.dl (sd_of S)
def delB (B : Addr → Bool) (H : Hp) : Hp := fun a => if B a = true then none else H a
theorem delB_in {B : Addr → Bool} {H : Hp} {a : Addr} (z : B a = true) : delB B H a = none := if_pos z
theorem delB_ne {B : Addr → Bool} {H : Hp} {a : Addr} (z : ¬ B a = true) : delB B H a = H a := if_neg z
/-- each is a list -/
def BL (B : Addr → Bool) (H : Hp) : Prop := ∀ a, B a = true → ∃ xs, H a = some (.lst xs)
theorem BL.same {B : Addr → Bool} {H H' : Hp} (h : BL B H) (S : Same H H') : BL B H' := fun a z => let ⟨xs, e⟩ := h a z; ⟨xs, S _ _ e⟩
theorem BL.ne {B : Addr → Bool} {H : Hp} {a : Addr} {xs : List V} (h : BL B H) (e : H a = some (.tup xs)) : ¬ B a = true := fun z => by
  obtain ⟨ys, hy⟩ := h a z
  rw [hy] at e
  cases e
theorem sdB_of {B : Addr → Bool} {H H' : Hp} (s : Same H H') : Same (delB B H) (delB B H') := fun b u e => by
  by_cases z : B b = true
  · rw [delB_in z] at e; cases e
  · rw [delB_ne z] at e ⊢; exact s b u e
theorem sdB_at {B : Addr → Bool} {p : Addr} {H H' : Hp} (pB : B p = true) (s : Same (del H p) (del H' p)) : Same (delB B H) (delB B H') := fun b u e => by
  by_cases z : B b = true
  · rw [delB_in z] at e; cases e
  · have ne : b ≠ p := fun y => z (by rw [y]; exact pB)
    rw [delB_ne z] at e ⊢
    have := s b u (by rw [del_ne ne]; exact e)
    rw [del_ne ne] at this
    exact this
/-- off all of them is off one -/
theorem sdB_one {B : Addr → Bool} {p : Addr} {H : Hp} (pB : B p = true) : Same (delB B H) (del H p) := fun b u e => by
  by_cases z : B b = true
  · rw [delB_in z] at e; cases e
  · rw [delB_ne z] at e
    have ne : b ≠ p := fun y => z (by rw [y]; exact pB)
    rw [del_ne ne]
    exact e
mutual
theorem dat_offB {B : Addr → Bool} {H : Hp} (h : BL B H) : ∀ {v : V} {d : PyData}, keyable d = true → Dat H v d → Dat (delB B H) v d
  | _, _, _, .non => .non
  | _, _, _, .bl b => .bl b
  | _, _, _, .int i => .int i
  | _, _, _, .str x => .str x
  | _, _, k, .lst e t => by simp [keyable] at k
  | _, _, k, .tup (a := a) e t => .tup (by rw [delB_ne (h.ne e)]; exact e) (dats_offB h (by simpa [keyable] using k) t)
  | _, _, k, .dct e t => by simp [keyable] at k
theorem dats_offB {B : Addr → Bool} {H : Hp} (h : BL B H) : ∀ {vs : List V} {ds : List PyData}, keyables ds = true → DatAll H vs ds → DatAll (delB B H) vs ds
  | _, _, _, .nil => .nil
  | _, _, k, .cons e t => by
    rw [keyables, Bool.and_eq_true] at k
    exact .cons (dat_offB h k.1 e) (dats_offB h k.2 t)
end
def NiceB (B : Addr → Bool) (H : Hp) (v : V) : Prop := ∃ d, Dat (delB B H) v d ∧ Nice d
theorem NiceB.dl {B : Addr → Bool} {H H' : Hp} {v : V} (h : NiceB B H v) (S : Same (delB B H) (delB B H')) : NiceB B H' v := let ⟨d, D, n⟩ := h; ⟨d, D.same S, n⟩
theorem NiceB.same {B : Addr → Bool} {H H' : Hp} {v : V} (h : NiceB B H v) (S : Same H H') : NiceB B H' v := h.dl (sdB_of S)
/-- an item -/
def IEv (p : Addr → Bool) (n k : Nat) (t : TE) (σ : L2.St) (H : Hp) : Prop := ∀ H1, Same H H1 → ∀ Q : VK, (∀ v H2, Same H1 H2 → (∃ d, Dat (delB p H2) v d ∧ Fit 100 n k d) → Q v H2) → t σ H1 Q
/-- a row of at most m items -/
def TEv (p : Addr → Bool) (m : Nat) (t : TE) (σ : L2.St) (H : Hp) : Prop := ∀ H1, Same H H1 → ∀ Q : VK, (∀ (a : Addr) (vs : List V) (ds : List PyData) (H2 : Hp), Same H1 H2 → H2 a = some (.tup vs) → DatAll (delB p H2) vs ds → vs.length ≤ m → (∀ d ∈ ds, Fit 100 1000 4 d) → Q (.ref a) H2) → t σ H1 Q
def VEv (p : Addr → Bool) (t : TE) (σ : L2.St) (H : Hp) : Prop := ∀ H1, Same H H1 → ∀ Q : VK, (∀ v H2, Same H1 H2 → NiceB p H2 v → Q v H2) → t σ H1 Q
/-- a place -/
def NEv (t : TE) (σ : L2.St) (r : Nat) : Prop := ∀ (H : Hp) (Q : VK), Q (.int (r : Int)) H → t σ H Q
def AEv (p : Addr → Bool) (n : Nat) (ta : TA) (σ : L2.St) (H : Hp) : Prop := ∀ H1, Same H H1 → ∀ Q : List V → Hp → Prop, (∀ vs H2, Same H1 H2 → vs.length = n → (∀ v ∈ vs, NiceB p H2 v) → Q vs H2) → ta σ H1 Q
section
variable {p : Addr → Bool} {σ : L2.St} {H : Hp} {m k n : Nat}
theorem not_src {a : Addr} {H H2 : Hp} {vs : List V} (hp : BL p H) (S : Same H H2) (e : H2 a = some (.tup vs)) : ¬ p a = true := fun z => by
  obtain ⟨xs, hx⟩ := hp a z
  have z2 := S _ _ hx
  rw [e] at z2
  cases z2
theorem iev_mono {t : TE} {n' k' : Nat} (h : IEv p n k t σ H) (hn : n ≤ n') (hk : k ≤ k') : IEv p n' k' t σ H := fun H1 S Q q => h H1 S Q fun v H2 S2 ⟨d, D, f⟩ => q v H2 S2 ⟨d, D, f.up (fun z => z) hn hk⟩
theorem iev_var {i : Nat} {v : V} {d : PyData} (e : σ[i]? = some (some v)) (D : Dat (delB p H) v d) (f : Fit 100 n k d) : IEv p n k (tVar i) σ H := fun H1 S Q q => ⟨v, e, q v H1 (Same.refl _) ⟨d, D.same (sdB_of S), f⟩⟩
theorem iev_c {v : V} {d : PyData} (D : ∀ H, Dat H v d) (f : Fit 100 n k d) : IEv p n k (tC v) σ H := fun H1 S Q q => q v H1 (Same.refl _) ⟨d, D _, f⟩
theorem iev_ix {K : PySem.W.Frag} {i : Nat} {j : Int} {a : Addr} {xs : List V} {v : V} {d : PyData} (e : σ[i]? = some (some (.ref a))) (ea : H a = some (.tup xs)) (hj : atI xs j = some v) (D : ∀ H, Dat H v d) (f : Fit 100 n k d) : IEv p n k (tOp (rIxT K) (tVar i) (tC (V.int j))) σ H := fun H1 S Q q =>
  ⟨_, e, a, xs, j, v, rfl, rfl, SqT.of (S _ _ ea), hj, q v H1 (Same.refl _) ⟨d, D _, f⟩⟩
theorem iev_tup1 {t : TE} (hp : BL p H) (h : IEv p n k t σ H) : IEv p (n + 5) (k + 1) (tTup (tCons t tNil)) σ H := fun H1 S Q q => by
  refine h H1 S _ fun v H2 S2 ⟨d, D, f⟩ => ⟨(by show 1 ≤ sizeLine; decide), fun a ha => ?_⟩
  have S3 := same_new (o := .tup [v]) ha
  have na := not_src (vs := [v]) hp (S.trans (S2.trans S3)) upd_same
  refine q (.ref a) _ (S2.trans S3) ⟨.tuple [d], .tup (by rw [delB_ne na]; exact upd_same) (.cons (D.same (sdB_of S3)) .nil), Fit.tup (pcons f pnil) (by show 1 ≤ 100; decide) ?_⟩
  have := f.z
  rw [wts, wts]
  omega
theorem iev_tup2 {t u : TE} (hp : BL p H) (h : IEv p n k t σ H) (h2 : IEv p n k u σ H) : IEv p (2 * n + 7) (k + 1) (tTup (tCons t (tCons u tNil))) σ H := fun H1 S Q q => by
  refine h H1 S _ fun v H2 S2 ⟨d, D, f⟩ => h2 H2 (S.trans S2) _ fun v2 H3 S3 ⟨d2, D2, f2⟩ => ⟨(by show 2 ≤ sizeLine; decide), fun a ha => ?_⟩
  have S4 := same_new (o := .tup [v, v2]) ha
  have na := not_src (vs := [v, v2]) hp (S.trans (S2.trans (S3.trans S4))) upd_same
  refine q (.ref a) _ (S2.trans (S3.trans S4)) ⟨.tuple [d, d2], .tup (by rw [delB_ne na]; exact upd_same) (.cons (D.same (sdB_of (S3.trans S4))) (.cons (D2.same (sdB_of S4)) .nil)), Fit.tup (pcons f (pcons f2 pnil)) (by show 2 ≤ 100; decide) ?_⟩
  have := f.z
  have := f2.z
  rw [wts, wts, wts]
  omega
theorem iev_tup3 {t u r : TE} (hp : BL p H) (h : IEv p n k t σ H) (h2 : IEv p n k u σ H) (h3 : IEv p n k r σ H) : IEv p (3 * n + 9) (k + 1) (tTup (tCons t (tCons u (tCons r tNil)))) σ H := fun H1 S Q q => by
  refine h H1 S _ fun v H2 S2 ⟨d, D, f⟩ => h2 H2 (S.trans S2) _ fun v2 H3 S3 ⟨d2, D2, f2⟩ => h3 H3 (S.trans (S2.trans S3)) _ fun v3 H4 S4 ⟨d3, D3, f3⟩ => ⟨(by show 3 ≤ sizeLine; decide), fun a ha => ?_⟩
  have S5 := same_new (o := .tup [v, v2, v3]) ha
  have na := not_src (vs := [v, v2, v3]) hp (S.trans (S2.trans (S3.trans (S4.trans S5)))) upd_same
  refine q (.ref a) _ (S2.trans (S3.trans (S4.trans S5))) ⟨.tuple [d, d2, d3], .tup (by rw [delB_ne na]; exact upd_same) (.cons (D.same (sdB_of (S3.trans (S4.trans S5)))) (.cons (D2.same (sdB_of (S4.trans S5))) (.cons (D3.same (sdB_of S5)) .nil))), Fit.tup (pcons f (pcons f2 (pcons f3 pnil))) (by show 3 ≤ 100; decide) ?_⟩
  have := f.z
  have := f2.z
  have := f3.z
  rw [wts, wts, wts, wts]
  omega
theorem tev_var {i : Nat} {a : Addr} {vs : List V} {ds : List PyData} (e : σ[i]? = some (some (.ref a))) (ea : H a = some (.tup vs)) (D : DatAll (delB p H) vs ds) (l : vs.length ≤ m) (f : ∀ d ∈ ds, Fit 100 1000 4 d) : TEv p m (tVar i) σ H := fun H1 S Q q =>
  ⟨_, e, q a vs ds H1 (Same.refl _) (S _ _ ea) (DatAll.same (sdB_of S) D) l f⟩
theorem tev_one {t : TE} (hp : BL p H) (h : IEv p 1000 4 t σ H) : TEv p 1 (tTup (tCons t tNil)) σ H := fun H1 S Q q => by
  refine h H1 S _ fun v H2 S2 ⟨d, D, f⟩ => ⟨(by show 1 ≤ sizeLine; decide), fun a ha => ?_⟩
  have S3 := same_new (o := .tup [v]) ha
  exact q a [v] [d] _ (S2.trans S3) upd_same (.cons (D.same (sdB_of S3)) .nil) (Nat.le_refl _) (pcons f pnil)
theorem tev_nil : TEv p 0 (tTup tNil) σ H := fun H1 S Q q => ⟨Nat.zero_le _, fun a ha => q a [] [] _ (same_new ha) upd_same .nil (Nat.le_refl _) pnil⟩
theorem tev_cat {ta tb : TE} {m2 : Nat} (h : TEv p m ta σ H) (h2 : TEv p m2 tb σ H) (l : m + m2 ≤ 1000) : TEv p (m + m2) (tOp rCatW ta tb) σ H := fun H1 S Q q =>
  h H1 S _ fun a vs ds H2 S2 ea D la f => h2 H2 (S.trans S2) _ fun b us es H3 S3 eb E lb g =>
    ⟨a, b, vs, us, rfl, rfl, S3 _ _ ea, eb, Nat.le_of_lt (small1000 (by omega)), fun t H4 S4 et => q t (vs ++ us) (ds ++ es) H4 (S2.trans (S3.trans S4)) et (_root_.S2.DatAll.app (DatAll.same (sdB_of (S3.trans S4)) D) (DatAll.same (sdB_of S4) E)) (by rw [List.length_append]; omega) fun d hd => by
      rcases List.mem_append.mp hd with z | z
      · exact f d z
      · exact g d z⟩
theorem tev_take {t u : TE} {r : Nat} (h : TEv p m t σ H) (hu : NEv u σ r) : TEv p m (tSl rSlW t tNoPart (tPart u)) σ H := fun H1 S Q q =>
  h H1 S _ fun a vs ds H2 S2 ea D la f => hu _ _ ⟨_, rfl, a, vs, rfl, ea, fun t H3 S3 et => q t (vs.take r) (ds.take r) H3 (S2.trans S3) (by rw [et, cutV_take]) (_root_.S2.DatAll.tk r (DatAll.same (sdB_of S3) D)) (by rw [List.length_take]; omega) fun d hd => f d (List.mem_of_mem_take hd)⟩
theorem tev_drop {t u : TE} {r : Nat} (h : TEv p m t σ H) (hu : NEv u σ r) : TEv p m (tSl rSlW t (tPart u) tNoPart) σ H := fun H1 S Q q =>
  h H1 S _ fun a vs ds H2 S2 ea D la f => hu _ _ ⟨_, rfl, a, vs, rfl, ea, fun t H3 S3 et => q t (vs.drop r) (ds.drop r) H3 (S2.trans S3) (by rw [et, cutV_drop]) (_root_.S2.DatAll.dp r (DatAll.same (sdB_of S3) D)) (by rw [List.length_drop]; omega) fun d hd => f d (List.mem_of_mem_drop hd)⟩
theorem tev_mid {t u y : TE} {r r2 m2 : Nat} (h : TEv p m t σ H) (hu : NEv u σ r) (hy : NEv y σ r2) (le : r ≤ r2) (l2 : r2 ≤ r + m2) : TEv p m2 (tSl rSlW t (tPart u) (tPart y)) σ H := fun H1 S Q q =>
  h H1 S _ fun a vs ds H2 S2 ea D la f => hu _ _ ⟨_, rfl, hy _ _ ⟨_, rfl, a, vs, rfl, ea, fun t H3 S3 et => q t ((vs.drop r).take (r2 - r)) ((ds.drop r).take (r2 - r)) H3 (S2.trans S3) (by rw [et, cutV_mid le]) (_root_.S2.DatAll.tk _ (_root_.S2.DatAll.dp r (DatAll.same (sdB_of S3) D))) (by rw [List.length_take]; omega) fun d hd => f d (List.mem_of_mem_drop (List.mem_of_mem_take hd))⟩⟩
theorem tev_rev {K : PySem.W.Frag} {t : TE} (h : TEv p m t σ H) : TEv p m (tRevA K t) σ H := fun H1 S Q q =>
  h H1 S _ fun a vs ds H2 S2 ea D la f => .inl ⟨a, vs, rfl, SqT.of ea, fun b hb => q b vs.reverse ds.reverse _ (S2.trans (same_new hb)) upd_same (_root_.S2.DatAll.rv (DatAll.same (sdB_of (same_new hb)) D)) (by rw [List.length_reverse]; exact la) fun d hd => f d (List.mem_reverse.mp hd)⟩
theorem wts_le : ∀ {ds : List PyData} {b : Nat}, (∀ d ∈ ds, wt d ≤ b) → wts ds ≤ ds.length * (b + 2)
  | [], _, _ => by rw [wts]; exact Nat.zero_le _
  | d :: ds, b, h => by
    have h1 := h d List.mem_cons_self
    have h2 := wts_le (ds := ds) fun e he => h e (List.mem_cons_of_mem _ he)
    rw [wts, List.length_cons, Nat.succ_mul]
    omega
theorem nice_row {ds : List PyData} (f : ∀ d ∈ ds, Fit 100 1000 4 d) (l : ds.length ≤ 50) : Nice (.tuple ds) ∧ Nice (.list ds) := by
  have w := wts_le (b := 1000) fun d hd => (f d hd).z
  have : ds.length * 1002 ≤ 50 * 1002 := Nat.mul_le_mul l (Nat.le_refl _)
  exact ⟨⟨(Fit.tup (w' := 60000) f (by omega) (by omega)).up (fun z => z) (Nat.le_refl _) (by decide), by show ds.length < 64; omega⟩, ⟨(Fit.lst (w' := 60000) f (by omega) (by omega)).up (fun z => z) (Nat.le_refl _) (by decide), by show 0 < 64; decide⟩⟩
theorem vev_tev {t : TE} (hp : BL p H) (h : TEv p m t σ H) (l : m ≤ 50) : VEv p t σ H := fun H1 S Q q =>
  h H1 S _ fun a vs ds H2 S2 ea D la f => q _ H2 S2 ⟨.tuple ds, .tup (by rw [delB_ne (not_src hp (S.trans S2) ea)]; exact ea) D, (nice_row f (by rw [← D.len]; omega)).1⟩
theorem vev_c {v : V} {d : PyData} (D : ∀ H, Dat H v d) (f : Nice d) : VEv p (tC v) σ H := fun H1 S Q q => q v H1 (Same.refl _) ⟨d, D _, f⟩
theorem aev_nil : AEv p 0 tNil σ H := fun H1 S Q q => q [] H1 (Same.refl _) rfl fun v hv => absurd hv (by simp)
theorem aev_cons {t : TE} {ta : TA} (h : VEv p t σ H) (h2 : AEv p n ta σ H) : AEv p (n + 1) (tCons t ta) σ H := fun H1 S Q q =>
  h H1 S _ fun v H2 S2 nv => h2 H2 (S.trans S2) _ fun vs H3 S3 l g => q (v :: vs) H3 (S2.trans S3) (by rw [List.length_cons, l]) fun u hu => by
    rcases List.mem_cons.mp hu with rfl | hu
    · exact nv.same S3
    · exact g u hu
end
end S2

set_option Elab.async false
set_option linter.all false
set_option maxRecDepth 100000
set_option maxHeartbeats 4000000
/-! sorted(tuple) of tuples of any lengths -/
namespace L2
open PySem PySem.W PySem.Spec PyProof.Rows
section
variable {X : Cx}
def rSortLT (K : PySem.W.Frag) : List V → Hp → VK → Prop := fun vs H Q => ∃ (l : Addr) (T : List TRow), vs = [V.ref l] ∧ SqT K H l (T.map TRow.v) ∧ (∀ p ∈ T, Dat H p.v p.2) ∧ Sorty T ∧
  ∀ (T' : List TRow) (b : Addr), T'.Perm T → (T'.Pairwise fun p q => dataLt q.2 p.2 = false) → ((T.map Prod.snd).Nodup → T'.Pairwise fun p q => dataLt p.2 q.2 = true) → H b = none → Q (.ref b) (upd H b (.lst (T'.map TRow.v)))
theorem cr_sortLT (hu : X.A.units + 64 < cLine) : CallR X (.builtin "sorted") (rSortLT X.K) := by
  intro pins s σ H vs us Q I r h
  obtain ⟨l, T, rfl, hl, hd, so, q⟩ := h
  rw [Vals.ref1 r]
  obtain ⟨its, rv, pl, hz⟩ := I.tuple hl
  have e1 : its = T.map TRow.r := vals_rows rv
  subst e1
  have hzl : (T.map TRow.r).length ≤ sizeLine := by
    rw [List.length_map] at hz ⊢
    exact hz
  obtain ⟨o, ho, hc, n, hdd⟩ := pl
  refine Calls.call_function_entry PyProof.Rows.kind_sorted PyProof.Rows.plain_sorted PyProof.Rows.entry_sorted (PyProof.Rows.args_sorted1 _) ?_
  unfold Builtin.«sorted»
  refine wpAny_bind (m := checkCount "sorted" 1 1 _) (wpAny_pure ?_)
  refine wpAny_bind (wpAny_collect_seq l (.inr rfl) ho hc hdd (fun h' hk => ?_) (by rw [List.size_toArray]; exact hzl))
  have I1 : Inv X pins σ H { s with heap := h' } := I.kept (t' := s.toks) hk
  refine wpAny_bind (wpAny_newList ?_ (by exact hzl))
  have hoL : (h'.push (seqObj "list" (T.map TRow.r).toArray 0)).get? h'.objs.size = some (seqObj "list" (T.map TRow.r).toArray 0) := Heap.get?_push_size _ rfl
  show wpAny _ _ _ _ _ { s with heap := h'.push (seqObj "list" (T.map TRow.r).toArray 0) }
  have old : ∀ {b : Addr} {u : Obj}, h'.get? b = some u → (h'.push (seqObj "list" (T.map TRow.r).toArray 0)).get? b = some u := fun e => Heap.get?_push_of_some _ e
  have rd : EachIs (fun v p => ∃ as, Reads (sortingHeap (h'.push (seqObj "list" (T.map TRow.r).toArray 0)) h'.objs.size (T.map TRow.r)) v p.2 as) (T.map TRow.r) T :=
    each_rows T fun p hp => by
      obtain ⟨as, z⟩ := I1.reads (hd p hp)
      exact ⟨as, PyProof.Rows.Reads.keeps (fun b u e => sortingHeap_old (Nat.ne_of_lt (Heap.lt_size e)) (old e)) z⟩
  have tp : ∀ d ∈ T.map Prod.snd, ∃ xs, d = PyData.tuple xs := fun d z => by
    obtain ⟨p, hp, rfl⟩ := List.mem_map.mp z
    exact so.tup p hp
  have un : ∀ d, d ∈ T.map Prod.snd → X.A.in1.in1.units + d.depth < cLine := fun d z => by
    obtain ⟨p, hp, rfl⟩ := List.mem_map.mp z
    have z := so.deep p hp
    simp only [Around.in1_units]
    omega
  have srt := sortsAt_tups (prog := X.prog) (w := X.w) (A := X.A.in1.in1) (s := { s with heap := sortingHeap (h'.push (seqObj "list" (T.map TRow.r).toArray 0)) h'.objs.size (T.map TRow.r) }) (each_map (R := fun v d => ∃ as, Reads _ v d as) Prod.snd rd) so.alike tp un
  have out := rows_each (sortVals_data (R := fun v p => v = TRow.r p) (enc := Prod.snd) false (each_rows T fun p _ => rfl) rd so.alike)
  refine wpAny_bind (wpAny_holding (wpAny_call_entry PyProof.Rows.slot_list_sort ⟨_, hoL, rfl⟩ PyProof.Rows.entry_list_sort
    (list_sort_vals (s := { s with heap := h'.push (seqObj "list" (T.map TRow.r).toArray 0) }) hoL srt hzl ⟨_, rfl, ?_⟩) (PyProof.Rows.args_list_sort _)))
  rw [out]
  obtain ⟨e', he'⟩ := PyProof.Rows.sortedHeap_at (vs := T.map TRow.r) (out := ((sortT T).map TRow.r).toArray) hoL
  refine wpAny_pure ⟨_, rfl, .ref h'.objs.size, upd H h'.objs.size (.lst ((sortT T).map TRow.v)), I1.laid (t' := s.toks) (fun b u e => ?_) (Nat.le_refl _)
    ⟨by rw [List.length_map, (sortT_perm T).length_eq]; rw [List.length_map] at hz; exact hz, _, e', rows_vals _, he'⟩, rfl, q (sortT T) _ (sortT_perm T) (sortT_le T) (sortT_up T so.alike) (I1.hok.fresh (Nat.le_refl _))⟩
  have hb : b < h'.objs.size := Heap.lt_size e
  rw [PyProof.Rows.sortedHeap_old (Nat.ne_of_lt hb) (by rw [size_push']; exact Nat.lt_succ_of_lt hb)]
  exact old e
end
end L2

set_option Elab.async false
set_option linter.all false
set_option maxRecDepth 100000
set_option maxHeartbeats 4000000
/-! more of rows evaluated: lists, an empty dict, rows sorted -/
namespace S2
open PySem PySem.W PySem.Spec PyProof.Rows L2 S1 RZ
/-- a saying, laid out -/
theorem say_at {H : Hp} {v : V} {s : Say} (D : Dat H v s.d) : ∃ (a b : Addr) (p c : V) (us : List V), v = .ref a ∧ H a = some (.tup [p, .ref b, c]) ∧ Dat H p (nmsD s.picks) ∧ Dat H (.ref b) (.tuple (s.owns.map ownD)) ∧ H b = some (.tup us) ∧ DatAll H us (s.owns.map ownD) ∧ Dat H c (.tuple (s.cls.map clD)) := by
  obtain ⟨a, xs, rfl, e, h⟩ := dat_tup D
  cases h with
  | cons h1 h =>
    cases h with
    | cons h2 h =>
      cases h with
      | cons h3 h =>
        cases h
        obtain ⟨b, us, rfl, eb, hb⟩ := dat_tup h2
        exact ⟨a, b, _, _, us, rfl, e, h1, h2, eb, hb, h3⟩
def BEv (p : Addr → Bool) (m n k : Nat) (ta : TA) (σ : L2.St) (H : Hp) : Prop := ∀ H1, Same H H1 → ∀ Q : List V → Hp → Prop, (∀ vs H2, Same H1 H2 → vs.length = m → (∀ v ∈ vs, ∃ d, Dat (delB p H2) v d ∧ Fit 100 n k d) → Q vs H2) → ta σ H1 Q
section
variable {p : Addr → Bool} {σ : L2.St} {H : Hp} {m k n : Nat}
theorem not_srcL {a : Addr} {H H2 : Hp} (hp : BL p H) (S : Same H H2) (e : H2 a = none) : ¬ p a = true := fun z => by
  obtain ⟨xs, hx⟩ := hp a z
  have z2 := S _ _ hx
  rw [e] at z2
  cases z2
theorem bev_nil : BEv p 0 n k tNil σ H := fun H1 S Q q => q [] H1 (Same.refl _) rfl fun v hv => absurd hv (by simp)
theorem bev_cons {t : TE} {ta : TA} (h : IEv p n k t σ H) (h2 : BEv p m n k ta σ H) : BEv p (m + 1) n k (tCons t ta) σ H := fun H1 S Q q =>
  h H1 S _ fun v H2 S2 nv => h2 H2 (S.trans S2) _ fun vs H3 S3 l g => q (v :: vs) H3 (S2.trans S3) (by rw [List.length_cons, l]) fun u hu => by
    rcases List.mem_cons.mp hu with rfl | hu
    · exact let ⟨d, D, f⟩ := nv; ⟨d, D.same (sdB_of S3), f⟩
    · exact g u hu
theorem iev_lst1 {t : TE} (hp : BL p H) (h : IEv p n k t σ H) : IEv p (n + 5) (k + 1) (tLst (tCons t tNil)) σ H := fun H1 S Q q => by
  refine h H1 S _ fun v H2 S2 ⟨d, D, f⟩ => ⟨(by show 1 ≤ sizeLine; decide), fun a ha => ?_⟩
  have S3 := same_new (o := .lst [v]) ha
  have na := not_srcL hp (S.trans S2) ha
  refine q (.ref a) _ (S2.trans S3) ⟨.list [d], .lst (by rw [delB_ne na]; exact upd_same) (.cons (D.same (sdB_of S3)) .nil), Fit.lst (pcons f pnil) (by show 1 ≤ 100; decide) ?_⟩
  have := f.z
  rw [wts, wts]
  omega
theorem iev_dnew (hp : BL p H) : IEv p 5 1 tDNewK σ H := fun H1 S Q q => fun a ha => by
  have na := not_srcL hp S ha
  exact q (.ref a) _ (same_new ha) ⟨.dict [], .dct (kvs := []) (by rw [delB_ne na]; exact upd_same) .nil, Fit.dict0 (by decide) (by decide)⟩
theorem fit_lt {l : Ltr} (h : Nm l.1) : Fit 100 100 1 (ltD l) := by
  have hs : Fit 100 82 0 (.str l.1) := Fit.str (by have := h.hi; omega) (List.all_eq_true.mpr fun c hc => decide_eq_true (by have := h.az c hc; omega)) (by have := h.hi; omega)
  have hb : Fit 100 82 0 (.bool l.2) := Fit.bl _ (by decide)
  refine Fit.tup (pcons hs (pcons hb pnil)) (by show 2 ≤ 100; decide) ?_
  have h1 := hs.z
  have h2 : wt (.bool l.2) ≤ 5 := (Fit.bl (n := 100) (w := 5) (k := 0) l.2 (by decide)).z
  rw [wts, wts, wts]
  omega
/-- list(t), t a row -/
theorem vev_list {K : PySem.W.Frag} {i : Nat} {a : Addr} {vs : List V} {ds : List PyData} (hp : BL p H) (e : σ[i]? = some (some (.ref a))) (ea : H a = some (.tup vs)) (D : DatAll (delB p H) vs ds) (f : ∀ d ∈ ds, Fit 100 1000 4 d) (l : vs.length ≤ 50) {Q : VK} {H1 : Hp} (S : Same H H1) (q : ∀ v H2, Same H1 H2 → NiceB p H2 v → Q v H2) :
    ∃ v, σ[i]? = some (some v) ∧ ∃ b ys, [v] = [V.ref b] ∧ (SqL K H1 b ys ∨ SqT K H1 b ys) ∧ ∀ l, H1 l = none → Q (.ref l) (upd H1 l (.lst ys)) := by
  refine ⟨_, e, a, vs, rfl, .inr (SqT.of (S _ _ ea)), fun b hb => ?_⟩
  have S3 := same_new (o := .lst vs) hb
  have na := not_srcL hp S hb
  exact q _ _ S3 ⟨.list ds, .lst (by rw [delB_ne na]; exact upd_same) (DatAll.same (sdB_of (S.trans S3)) D), (nice_row f (by rw [← D.len]; exact l)).2⟩
end
end S2

set_option Elab.async false
set_option linter.all false
set_option maxRecDepth 100000
set_option maxHeartbeats 4000000
/-! what stands while a row is bent -/
namespace S2
open PySem PySem.W PySem.Spec PyProof.Rows L2 S1 RZ
structure NF (B : Addr → Bool) (H : Hp) (p lo t5 : Addr) (TL : List TRow) (y : Str) (bb : Bool) (c : Nat) (G : Hp) : Prop where
  d : Dr H p c G
  lo : G lo = some (.tup (TL.map TRow.v))
  bl : BL B G
  pB : B p = true
  R : ∀ q ∈ TL, Dat (delB B G) q.v q.2
  t5 : G t5 = some (.tup [.str y, .bl bb])
/-- a list of n nice values -/
structure FL (p : Addr → Bool) (l n : Nat) (G : Hp) : Prop where
  np : ¬ p l = true
  e : ∃ vs, G l = some (.lst vs) ∧ vs.length = n ∧ ∀ v ∈ vs, NiceB p G v
section
variable {B : Addr → Bool} {H G G' : Hp} {p lo t5 : Addr} {TL : List TRow} {y : Str} {bb : Bool} {c c' l n : Nat} {o : HO}
theorem tup_nl {G : Hp} {p a : Addr} {xs ps : List V} (hp : G p = some (.lst ps)) (e : G a = some (.tup xs)) : a ≠ p := fun z => by
  rw [z, hp] at e
  cases e
theorem NF.same (h : NF B H p lo t5 TL y bb c G) (S : Same G G') : NF B H p lo t5 TL y bb c G' := ⟨h.d.same S, S _ _ h.lo, h.bl.same S, h.pB, fun q hq => (h.R q hq).same (sdB_of S), S _ _ h.t5⟩
theorem NF.hp (h : NF B H p lo t5 TL y bb c G) : BL B G := h.bl
theorem NF.src (h : NF B H p lo t5 TL y bb c G) (s : Src (upd G p o) p c') : NF B H p lo t5 TL y bb c' (upd G p o) := by
  obtain ⟨ps, hp⟩ := h.d.s.lst
  refine ⟨h.d.src s, by rw [upd_ne (tup_nl hp h.lo)]; exact h.lo, fun a z => ?_, h.pB, fun q hq => (h.R q hq).same (sdB_at h.pB (sd_at (Same.refl _))), by rw [upd_ne (tup_nl hp h.t5)]; exact h.t5⟩
  by_cases e : a = p
  · rw [e]; exact s.lst
  · rw [upd_ne e]; exact h.bl a z
theorem NF.D5 (h : NF B H p lo t5 TL y bb c G) : Dat (delB B G) (.ref t5) (ltD (y, bb)) := .tup (by rw [delB_ne (h.bl.ne h.t5)]; exact h.t5) (.cons (.str _) (.cons (.bl _) .nil))
theorem FL.same (h : FL B l n G) (S : Same G G') : FL B l n G' := ⟨h.np, let ⟨vs, e, ln, g⟩ := h.e; ⟨vs, S _ _ e, ln, fun v hv => (g v hv).same S⟩⟩
theorem FL.src (h : FL B l n G) (pB : B p = true) : FL B l n (upd G p o) := ⟨h.np, let ⟨vs, e, ln, g⟩ := h.e; ⟨vs, by rw [upd_ne fun z => h.np (by rw [z]; exact pB)]; exact e, ln, fun v hv => (g v hv).dl (sdB_at pB (sd_at (Same.refl _)))⟩⟩
theorem lst_step {ta : TA} {σ : L2.St} (h : AEv B n ta σ G) (hp : BL B G) (ln : n ≤ 60) {Q : VK} (q : ∀ l G', Same G G' → FL B l n G' → Q (.ref l) G') : tLst ta σ G Q :=
  h G (Same.refl _) _ fun vs H2 S2 lv nv => ⟨Nat.le_of_lt (small1000 (by omega)), fun l hl => by
    have S3 := same_new (o := .lst vs) hl
    exact q l _ (S2.trans S3) ⟨not_srcL hp S2 hl, vs, upd_same, lv, fun v hv => (nv v hv).same S3⟩⟩
theorem cat_step {ta : TA} {σ : L2.St} {m i : Nat} (fl : FL B l n G) (e : σ[i]? = some (some (.ref l))) (h : AEv B m ta σ G) (hp : BL B G) (ln : n + m ≤ 60) {Q : VK} (q : ∀ l3 G', Same G G' → FL B l3 (n + m) G' → Q (.ref l3) G') : tOp rCat (tVar i) (tLst ta) σ G Q :=
  ⟨_, e, lst_step h hp (by omega) fun l2 G2 S2 fl2 => by
    obtain ⟨_, vs, e1, l1, g1⟩ := fl.same S2
    obtain ⟨_, us, e2, l2', g2⟩ := fl2
    refine ⟨l, l2, vs, us, rfl, rfl, e1, e2, Nat.le_of_lt (small1000 (by omega)), fun l3 hl3 => ?_⟩
    have S3 := same_new (o := .lst (vs ++ us)) hl3
    refine q l3 _ (S2.trans S3) ⟨not_srcL hp S2 hl3, vs ++ us, upd_same, by rw [List.length_append, l1, l2'], fun v hv => ?_⟩
    rcases List.mem_append.mp hv with z | z
    · exact (g1 v z).same S3
    · exact (g2 v z).same S3⟩
end
end S2

set_option Elab.async false
set_option linter.all false
set_option maxRecDepth 100000
set_option maxHeartbeats 4000000
/-! list(row), tuple(sorted(row + (letter,))) -/
namespace S2
open PySem PySem.W PySem.Spec PyProof.Rows L2 S1 RZ
abbrev rLst (K : PySem.W.Frag) : List V → Hp → VK → Prop := fun xs H Q => ∃ p ys, xs = [V.ref p] ∧ (SqL K H p ys ∨ SqT K H p ys) ∧ ∀ l, H l = none → Q (.ref l) (upd H l (.lst ys))
theorem same_off {H : Hp} {B : Addr → Bool} : Same (delB B H) H := fun b u e => by
  by_cases z : B b = true
  · rw [delB_in z] at e; cases e
  · rw [delB_ne z] at e; exact e
section
variable {K : PySem.W.Frag} {B : Addr → Bool} {H G : Hp} {p lo t5 : Addr} {TL : List TRow} {y : Str} {bb : Bool} {c : Nat} {σ : L2.St} {i j : Nat} {L : List Ltr}
theorem vev_lst (N : NF B H p lo t5 TL y bb c G) (dTL : TL.map Prod.snd = L.map ltD) (lL : L.length ≤ 20) (nm : ∀ m ∈ L, Nm m.1) (e : σ[i]? = some (some (.ref lo))) : VEv B (tCB (rLst K) (tCons (tVar i) tNil)) σ G := fun H1 S Q q => by
  have hp := N.hp
  refine ⟨_, e, lo, _, rfl, .inr (SqT.of (S _ _ N.lo)), fun b hb => ?_⟩
  have S3 := same_new (o := .lst (TL.map TRow.v)) hb
  have na := not_srcL hp S hb
  refine q _ _ S3 ⟨.list (L.map ltD), .lst (by rw [delB_ne na]; exact upd_same) ?_, (nice_row (fun d hd => ?_) (by rw [List.length_map]; omega)).2⟩
  · rw [← dTL]
    exact dats_rows fun q' hq' => (N.R q' hq').same (sdB_of (S.trans S3))
  · obtain ⟨m, hm, rfl⟩ := List.mem_map.mp hd
    exact (fit_lt (nm m hm)).up (fun z => z) (by decide) (by decide)
theorem iev_lst (N : NF B H p lo t5 TL y bb c G) (ny : Nm y) (e : σ[i]? = some (some (.ref t5))) : IEv B 400 2 (tCB (rLst K) (tCons (tVar i) tNil)) σ G := fun H1 S Q q => by
  have hp := N.hp
  refine ⟨_, e, t5, _, rfl, .inr (SqT.of (S _ _ N.t5)), fun b hb => ?_⟩
  have S3 := same_new (o := .lst [V.str y, .bl bb]) hb
  have na := not_srcL hp S hb
  have hs : Fit 100 82 0 (.str y) := Fit.str (by have := ny.hi; omega) (List.all_eq_true.mpr fun c hc => decide_eq_true (by have := ny.az c hc; omega)) (by have := ny.hi; omega)
  have hb2 : Fit 100 82 0 (.bool bb) := Fit.bl _ (by decide)
  have h1 := hs.z
  have h2 := hb2.z
  refine q _ _ S3 ⟨.list [.str y, .bool bb], .lst (by rw [delB_ne na]; exact upd_same) (.cons (.str _) (.cons (.bl _) .nil)), (Fit.lst (w' := 400) (pcons hs (pcons hb2 pnil)) (by show 2 ≤ 100; decide) (by rw [wts, wts, wts]; omega)).up (fun z => z) (Nat.le_refl _) (by decide)⟩
theorem vev_sorted (N : NF B H p lo t5 TL y bb c G) (dTL : TL.map Prod.snd = L.map ltD) (lL : L.length ≤ 20) (nm : ∀ m ∈ L, Nm m.1) (ny : Nm y) (e : σ[i]? = some (some (.ref lo))) (e5 : σ[j]? = some (some (.ref t5))) :
    VEv B (tThen (tCB (rSortLT K) (tCons (tOp rCatW (tVar i) (tTup (tCons (tVar j) tNil))) tNil)) (kTup K)) σ G := fun H1 S Q q => by
  have hp := N.hp
  have lTL : TL.length = L.length := by
    have z := congrArg List.length dTL
    rw [List.length_map, List.length_map] at z
    exact z
  refine ⟨_, e, _, e5, (by show 1 ≤ sizeLine; decide), fun tq htq => ?_⟩
  have S2 := S.trans (same_new (o := .tup [V.ref t5]) htq)
  refine ⟨lo, tq, TL.map TRow.v, [V.ref t5], rfl, rfl, S2 _ _ N.lo, upd_same, ?_, fun tc H3 S3 et => ?_⟩
  · rw [List.length_map]
    exact Nat.le_of_lt (small1000 (by show _ + 1 ≤ 1000; omega))
  have S4 := S2.trans S3
  have N4 := N.same S4
  have dT : (TL ++ [(t5, ltD (y, bb))]).map Prod.snd = (L ++ [(y, bb)]).map ltD := by
    rw [List.map_append, List.map_append, dTL]
    rfl
  have rows : ∀ r ∈ TL ++ [(t5, ltD (y, bb))], Dat (delB B H3) r.v r.2 := fun r hr => by
    rcases List.mem_append.mp hr with z | z
    · exact N4.R r z
    · cases List.mem_singleton.mp z
      exact N4.D5
  refine ⟨tc, TL ++ [(t5, ltD (y, bb))], rfl, SqT.of (by rw [et, List.map_append]; rfl), fun r hr => (rows r hr).same same_off, sorty_of dT alike_lt (fun o => ⟨_, rfl⟩) (fun o => by have := depth_lt o; omega), fun T' b' pm _ _ hb' => .inl ⟨b', _, rfl, SqL.of upd_same, fun t9 ht9 => ?_⟩⟩
  have S5 := (same_new (o := .lst (T'.map TRow.v)) hb').trans (same_new (o := .tup (T'.map TRow.v)) ht9)
  have na := not_srcL hp (S4.trans (same_new (o := .lst (T'.map TRow.v)) hb')) ht9
  obtain ⟨M, pL, eM⟩ := perm_back (f := ltD) ((pm.map Prod.snd).trans (.of_eq dT)) (L ++ [(y, bb)]) rfl
  have lM : M.length ≤ 21 := by
    rw [pL.length_eq, List.length_append]
    show _ + 1 ≤ 21
    omega
  refine q _ _ ((same_new (o := .tup [V.ref t5]) htq).trans (S3.trans S5)) ⟨.tuple (M.map ltD), .tup (by rw [delB_ne na]; exact upd_same) ?_, (nice_row (fun d hd => ?_) (by rw [List.length_map]; omega)).1⟩
  · rw [← eM]
    exact dats_rows fun r hr => (rows r (pm.mem_iff.mp hr)).same (sdB_of S5)
  · obtain ⟨m, hm, rfl⟩ := List.mem_map.mp hd
    refine (fit_lt ?_).up (fun z => z) (by decide) (by decide)
    rcases List.mem_append.mp (pL.mem_iff.mp hm) with z | z
    · exact nm m z
    · rw [List.mem_singleton.mp z]
      exact ny
end
end S2

set_option Elab.async false
set_option linter.all false
set_option maxRecDepth 100000
set_option maxHeartbeats 4000000
/-! rows of letters bent -/
namespace S2
open PySem PySem.W PySem.Spec PyProof.Rows L2 S1 RZ
/-- the lists of a heap -/
def lstB (H : Hp) : Addr → Bool := fun a => match H a with
  | some (.lst _) => true
  | _ => false
theorem lstB_of {H : Hp} {a : Addr} {xs : List V} (e : H a = some (.lst xs)) : lstB H a = true := by
  unfold lstB
  rw [e]
theorem of_lstB {H : Hp} {a : Addr} (e : lstB H a = true) : ∃ xs, H a = some (.lst xs) := by
  unfold lstB at e
  split at e
  · exact ⟨_, by assumption⟩
  · cases e
def spNear : Sp := fun vs H Q _ => ∃ (p lo : Addr) (c : Nat) (v : V) (s : Say) (L : List Ltr), vs = [.ref p, v, .ref lo] ∧ Src H p c ∧ c ≤ 60000 ∧ Dat H v s.d ∧ SayOk 6 8 120 40 s ∧ Dat H (.ref lo) (clD L) ∧ L.length ≤ 20 ∧ (∀ m ∈ L, Nm m.1) ∧
  ∀ (v' : V) (H' : Hp), NiceB (lstB H) H' v' → Dr H p (c + 10) H' → Q v' H'
abbrev nNr : List Str := ["pot", "saying", "lot", "at", "names", "letter", "found", "odd", "name", "sight"]
theorem op_of {r : R2} {ta tb : TE} {σ : L2.St} {H : Hp} {Q : VK} (h : ta σ H fun x H1 => tb σ H1 fun y H2 => r x y H2 Q) : tOp r ta tb σ H Q := h
theorem lst_of {ta : TA} {σ : L2.St} {H : Hp} {Q : VK} (h : ta σ H fun xs H1 => xs.length ≤ sizeLine ∧ ∀ p, H1 p = none → Q (.ref p) (upd H1 p (.lst xs))) : tLst ta σ H Q := h
section
variable {P : Program} {w : World} {K : PySem.W.Frag} {mg : Str → Option Value} {base : Heap}
theorem scNr : FnScope nNr ["pot", "saying", "lot"] (defScope sLNear) := ⟨rfl, rfl, rfl, by decide +kernel, rfl, by decide +kernel, by decide +kernel⟩
theorem ok_near {f fP : Addr} {fd fdP : FuncData} (F : Fun K "_law_near" "_law_near" sLNear f fd) (Pk : Has K mg "_law_draw" sDraw ["pot", "top"] fP fdP) (B : Blt mg) : FnOk P w K mg base CX0 2 f fd ["pot", "saying", "lot"] spNear := by
  have GP : FnOk P w K mg base CX0 1 fP fdP ["pot", "top"] spPick := ok_pick Pk.F B
  refine F.ok scNr (fun vs H Q E h => ?_) (fun cdv A outer s H vs Q E hr h => ?_)
  · obtain ⟨p, lo, c, v, sy, L, rfl, _⟩ := h
    rfl
  · obtain ⟨p, lo, c, v, sy, L, rfl, hs, hc, D, ok, Dl, lL, nmL, q⟩ := h
    have hu : (A.deeper (envOfC "_law_near" (defScope sLNear) s.heap.objs.size f cdv)).units + 64 < cLine := hr.units
    refine ⟨_, pss_cons (ps_par (i := 3) (j := 4) rfl scNr.nd rfl rfl (by decide) rfl rfl (pa_cons (pe_call GP hr rfl Pk.g Pk.F.kp Pk.b .nil pass0 (pa_cons (pv 0) (pa_cons (pe_op op_add (pe_callB call_len_seq (by rfl) B.len (by decide +kernel) (pa_cons (pv 2) pa_nil)) pe_int) pa_nil)))
          (pa_cons (pe_op op_cat (pe_op op_cat (pe_lc (own := [("name", 8), ("sight", 9)]) (g := gTup K 2 (gCons (gName 8) (gCons (gName 9) gNil))) (tt := tYes) (te := tVar 8) rfl scNr.nd (pi_tup (pe_ix ix_tup (pv 1) pe_int (fun _ _ => rfl))) (blkOk_by (N := nNr) (sc := defScope sLNear) (by decide +kernel))
              (fun _ _ _ _ _ => by exact pg_tup rfl (pgs_cons (pg_name (i := 8) scNr.nd rfl (.inl rfl)) (pgs_cons (pg_name (i := 9) scNr.nd rfl (.inl rfl)) pgs_nil))) (fun _ _ _ _ _ => pts_nil) (fun _ _ _ _ _ => by exact pv 8))
              (pe_callTy call_list_of (by rfl) B.list (by decide +kernel) (pa_cons (pe_ix ix_tup (pv 1) pe_int (fun _ _ => rfl)) pa_nil))) (pe_lst (pa_cons pe_str (pa_cons pe_str pa_nil)))) pa_nil)) (by with_unfolding_all rfl))
      (pss_cons (ps_set (i := 5) scNr.nd rfl (.inl rfl) (pe_tup (pa_cons (pe_ix ix_list (pv 4) (pe_call GP hr rfl Pk.g Pk.F.kp Pk.b .nil pass0 (pa_cons (pv 0) (pa_cons (pe_callB call_len_seq (by rfl) B.len (by decide +kernel) (pa_cons (pv 4) pa_nil)) pa_nil))) (fun _ _ => rfl))
          (pa_cons (pe_cmpR op_eq (pe_call GP hr rfl Pk.g Pk.F.kp Pk.b .nil pass0 (pa_cons (pv 0) (pa_cons pe_int pa_nil))) pe_int (nomark _)) pa_nil))))
      (pss_cons (ps_set (i := 6) scNr.nd rfl (.inl rfl) (pe_lst (pa_cons (pe_op op_catW (pe_slice sl_tupW (pv 2) po_none (po_some (pv 3))) (pe_slice sl_tupW (pv 2) (po_some (pe_op op_add (pv 3) pe_int)) po_none))
          (pa_cons (pe_op op_catW (pe_op op_catW (pe_slice sl_tupW (pv 2) po_none (po_some (pv 3))) (pe_tup (pa_cons (pv 5) pa_nil))) (pe_slice sl_tupW (pv 2) (po_some (pv 3)) po_none))
          (pa_cons (pe_tupleOf rfl B.tuple (pe_callB (cr_sortLT (by exact hu)) (by rfl) B.sorted (by decide +kernel) (pa_cons (pe_op op_catW (pv 2) (pe_tup (pa_cons (pv 5) pa_nil))) pa_nil)))
          (pa_cons (pe_revA (pv 2)) pa_nil))))))
      (pss_cons (ps_set (i := 6) scNr.nd rfl (.inl rfl) (pe_op op_cat (pv 6) (pe_lst (pa_cons (pe_op op_catW (pe_op op_catW (pe_slice sl_tupW (pv 2) po_none (po_some (pv 3))) (pe_slice sl_tupW (pv 2) (po_some (pv 3)) (po_some (pe_op op_add (pv 3) pe_int)))) (pe_slice sl_tupW (pv 2) (po_some (pv 3)) po_none))
          (pa_cons (pe_callTy call_list_of (by rfl) B.list (by decide +kernel) (pa_cons (pv 2) pa_nil))
          (pa_cons pe_non
          (pa_cons (pe_op op_catW (pe_op op_catW (pe_slice sl_tupW (pv 2) po_none (po_some (pv 3))) (pe_tup (pa_cons (pe_ix ix_tup (pv 5) pe_int (fun _ _ => rfl)) pa_nil))) (pe_slice sl_tupW (pv 2) (po_some (pv 3)) po_none))
          (pa_cons pe_str pa_nil))))))))
      (pss_cons (ps_set (i := 6) scNr.nd rfl (.inl rfl) (pe_op op_cat (pv 6) (pe_lst (pa_cons (pe_op op_catW (pv 2) (pe_tup (pa_cons (pe_tup (pa_cons (pe_ix ix_tup (pv 5) pe_int (fun _ _ => rfl)) (pa_cons pe_int pa_nil))) pa_nil)))
          (pa_cons (pe_op op_catW (pv 2) (pe_tup (pa_cons (pe_tup (pa_cons (pe_ix ix_tup (pv 5) pe_int (fun _ _ => rfl)) (pa_cons (pe_ix ix_tup (pv 5) pe_int (fun _ _ => rfl)) (pa_cons pe_bl pa_nil)))) pa_nil)))
          (pa_cons (pe_op op_catW (pv 2) (pe_tup (pa_cons pe_non pa_nil)))
          (pa_cons (pe_tup pa_nil)
          (pa_cons (pe_tup (pa_cons (pv 5) pa_nil)) pa_nil))))))))
      (pss_cons (ps_set (i := 7) scNr.nd rfl (.inl rfl) (pe_ix ix_list (pe_lst (pa_cons (pe_lst (pa_cons pe_str pa_nil)) (pa_cons pe_dnewK (pa_cons pe_non (pa_cons pe_int (pa_cons (pe_tup (pa_cons pe_str pa_nil)) (pa_cons pe_bl
          (pa_cons (pe_lst (pa_cons (pe_ix ix_tup (pv 5) pe_int (fun _ _ => rfl)) pa_nil)) (pa_cons (pe_tup (pa_cons (pe_ix ix_tup (pv 5) pe_int (fun _ _ => rfl)) pa_nil)) pa_nil)))))))))
          (pe_call GP hr rfl Pk.g Pk.F.kp Pk.b .nil pass0 (pa_cons (pv 0) (pa_cons pe_int pa_nil))) (fun _ _ => rfl)))
      (pss_cons (ps_set (i := 6) scNr.nd rfl (.inl rfl) (pe_op op_cat (pv 6) (pe_lst (pa_cons (pe_op op_catW (pe_op op_catW (pe_slice sl_tupW (pv 2) po_none (po_some (pv 3))) (pe_tup (pa_cons (pe_tup (pa_cons (pv 7) (pa_cons (pe_ix ix_tup (pv 5) pe_int (fun _ _ => rfl)) pa_nil))) pa_nil))) (pe_slice sl_tupW (pv 2) (po_some (pv 3)) po_none))
          (pa_cons (pe_op op_catW (pe_op op_catW (pe_slice sl_tupW (pv 2) po_none (po_some (pv 3))) (pe_tup (pa_cons (pe_tup (pa_cons (pe_ix ix_tup (pv 5) pe_int (fun _ _ => rfl)) (pa_cons (pv 7) pa_nil))) pa_nil))) (pe_slice sl_tupW (pv 2) (po_some (pv 3)) po_none)) pa_nil)))))
      (pss_cons (ps_set (i := 6) scNr.nd rfl (.inl rfl) (pe_op op_cat (pv 6) (pe_lst (pa_cons (pe_op op_catW (pe_op op_catW (pe_slice sl_tupW (pv 2) po_none (po_some (pv 3))) (pe_tup (pa_cons (pe_callTy call_list_of (by rfl) B.list (by decide +kernel) (pa_cons (pv 5) pa_nil)) pa_nil))) (pe_slice sl_tupW (pv 2) (po_some (pv 3)) po_none))
          (pa_cons (pe_op op_catW (pe_op op_catW (pe_slice sl_tupW (pv 2) po_none (po_some (pv 3))) (pe_tup (pa_cons (pv 7) pa_nil))) (pe_slice sl_tupW (pv 2) (po_some (pv 3)) po_none))
          (pa_cons (pe_tup (pa_cons (pe_tup (pa_cons (pv 7) (pa_cons (pe_ix ix_tup (pv 5) pe_int (fun _ _ => rfl)) pa_nil))) pa_nil)) pa_nil))))))
      (pss_one (ps_ret (pe_ix ix_list (pv 6) (pe_call GP hr rfl Pk.g Pk.F.kp Pk.b .nil pass0 (pa_cons (pv 0) (pa_cons (pe_callB call_len_seq (by rfl) B.len (by decide +kernel) (pa_cons (pv 6) pa_nil)) pa_nil))) (fun _ _ => rfl))))))))))), ?_⟩
    have s1 : 1 ≤ sizeLine := by decide
    have s2 : 2 ≤ sizeLine := by decide
    have W0 := ((Wk.start hs).addR (keyable_say sy) D).addR (keyable_cl L) Dl
    obtain ⟨a, b, pk, cc, us, rfl, ea, Dp, Do, eb, Db, Dc⟩ := say_at D
    obtain ⟨a0, rfl, e0⟩ := nms_at Dp
    have lo8 := ok.ol
    have lp6 := ok.pl
    obtain ⟨TL, eTL, dTL, KTL⟩ : ∃ TL : List TRow, H lo = some (.tup (TL.map TRow.v)) ∧ TL.map Prod.snd = L.map ltD ∧ ∀ p ∈ TL, Dat H p.v p.2 ∧ keyable p.2 = true ∧ p.2.depth ≤ 8 := by
      obtain ⟨lo', TL, e, h1, h2, h3⟩ := cl_rows Dl
      cases e
      exact ⟨TL, h1, h2, h3⟩
    have lTL : TL.length = L.length := by
      have z := congrArg List.length dTL
      rw [List.length_map, List.length_map] at z
      exact z
    have tupA : ∀ {G : Hp} {c1 : Nat} {F : List (Addr × HO)} {R : List (V × PyData)} {t : Addr} {xs : List V}, Wk H p c1 F R G → H t = some (.tup xs) → G t = some (.tup xs) := fun W e => nofix_tup hs W.d e
    refine ⟨_, rfl, _, rfl, _, _, rfl, .inr (SqT.of eTL), _, _, rfl, rfl, p, c, _, rfl, hs, by omega, by rw [List.length_map]; omega, by rw [List.length_map]; omega, fun r o r0 r1 hp1 => ?_⟩
    rw [List.length_map] at r1
    obtain ⟨k, rfl⟩ : ∃ k : Nat, r = (k : Int) := ⟨r.toNat, by omega⟩
    have W1 := W0.src hp1
    refine ⟨_, rfl, a, _, 1, _, rfl, rfl, SqT.of (tupA W1 ea), rfl, b, rfl, ⟨_, SqT.of (tupA W1 eb)⟩, fun Dn hDn => ?_⟩
    have Db1 : DatAll (upd H p o) us (sy.owns.map ownD) := by
      obtain ⟨us2, e22, Do2⟩ := tup_at (W1.d.dat hs (keyable_owns sy.owns) Do)
      have e3 := tupA W1 eb
      rw [e22] at e3
      injection e3 with e3
      injection e3 with e3
      rw [← e3]
      exact Do2
    refine lc_names (K := K) (tupA W1 eb) Db1 hDn (by omega) (fun _ _ => rfl) (fun _ _ => rfl) fun H5 eL S5 => ?_
    have W2 := (W1.same S5).know eL (W1.d.ne hDn) (W1.no hDn)
    refine ⟨_, rfl, a, _, 0, _, rfl, rfl, SqT.of (tupA W2 ea), rfl, a0, _, rfl, .inr (SqT.of (tupA W2 e0)), fun l0 hl0 => ?_⟩
    have W3 := W2.new (o := .lst (sy.picks.map V.str)) hl0
    refine ⟨Dn, l0, _, _, rfl, rfl, W3.at 1 rfl, W3.at 0 rfl, by rw [List.length_map, List.length_map, List.length_map]; exact Nat.le_of_lt (small1000 (by omega)), fun l1 hl1 => ?_⟩
    have W4 := W3.new (o := .lst ((sy.owns.map Prod.fst).map V.str ++ sy.picks.map V.str)) hl1
    refine ⟨s2, fun l2 hl2 => ?_⟩
    have W5 := W4.new (o := .lst [V.str "q", .str "a"]) hl2
    refine ⟨l1, l2, _, _, rfl, rfl, W5.at 1 rfl, W5.at 0 rfl, by rw [List.length_append, List.length_map, List.length_map, List.length_map]; exact Nat.le_of_lt (small1000 (by show _ + 2 ≤ 1000; omega)), fun ln hln => ⟨_, _, rfl, ?_⟩⟩
    have W6 := W5.new (o := .lst (((sy.owns.map Prod.fst).map V.str ++ sy.picks.map V.str) ++ [V.str "q", .str "a"])) hln
    have ens : (((sy.owns.map Prod.fst).map V.str ++ sy.picks.map V.str) ++ [V.str "q", .str "a"]) = (sy.owns.map Prod.fst ++ sy.picks ++ (["q", "a"] : List Str)).map V.str := by
      rw [List.map_append, List.map_append]
      rfl
    have W7 := (W6.sub (F' := [(ln, .lst (((sy.owns.map Prod.fst).map V.str ++ sy.picks.map V.str) ++ [V.str "q", .str "a"]))]) (.cons₂ _ (.cons _ (.cons _ (.cons _ (.cons _ .slnil))))))
    rw [ens] at W7
    have nmN : ∀ y ∈ sy.owns.map Prod.fst ++ sy.picks ++ (["q", "a"] : List Str), Nm y := fun y hy => by
      rcases List.mem_append.mp hy with h | h
      · rcases List.mem_append.mp h with h2 | h2
        · obtain ⟨o, ho, rfl⟩ := List.mem_map.mp h2
          exact (ok.on o ho).1
        · exact ok.pn y h2
      · have z : ((["q", "a"] : List Str).all nmB) = true := by decide +kernel
        exact nm_of (List.all_eq_true.mp z y h)
    have lns : 0 < (sy.owns.map Prod.fst ++ sy.picks ++ (["q", "a"] : List Str)).length ∧ (sy.owns.map Prod.fst ++ sy.picks ++ (["q", "a"] : List Str)).length ≤ 16 := by
      rw [List.length_append, List.length_append, List.length_map]
      show 0 < _ + 2 ∧ _ + 2 ≤ 16
      omega
    rw [ens]
    generalize sy.owns.map Prod.fst ++ sy.picks ++ (["q", "a"] : List Str) = ns at W7 nmN lns
    refine gen_hp (F := fun G => Wk H p (c + 1) [(ln, .lst (ns.map V.str))] [(V.ref lo, clD L), (V.ref a, sy.d)] G) W7 (fun G W => ?_)
    clear W7 W6 W5 W4 W3 W2 W1
    refine ⟨_, rfl, _, rfl, _, rfl, _, _, rfl, .inl (SqL.of (W.at 0 rfl)), p, _, _, rfl, W.s, by omega, by rw [List.length_map]; omega, by rw [List.length_map]; omega, fun r2 o2 r20 r21 hp2 => ?_⟩
    rw [List.length_map] at r21
    have W1 := W.src hp2
    obtain ⟨vv, hv, hm, _⟩ := at_ok (xs := ns.map V.str) r20 (by rw [List.length_map]; exact r21)
    obtain ⟨y, hy, rfl⟩ := List.mem_map.mp hm
    refine ⟨ln, _, r2, _, rfl, rfl, SqL.of (W1.at 0 rfl), hv, ?_⟩
    refine ⟨_, rfl, p, _, 2, rfl, W1.s, by omega, by decide, by decide, fun r3 o3 _ _ hp3 => ⟨rfl, s2, fun t5 ht5 => ?_⟩⟩
    have W2 := W1.src hp3
    generalize decide (V.int r3 = V.int 0) = bb at ht5 ⊢
    have W3 := W2.new (o := .tup [.str y, .bl bb]) ht5
    have Dt : Dat (upd (upd (upd G p o2) p o3) t5 (.tup [.str y, .bl bb])) (.ref t5) (ltD (y, bb)) := .tup upd_same (.cons (.str _) (.cons (.bl _) .nil))
    have W4 := (W3.addR (keyable_lt (y, bb)) Dt).sub (F' := []) (.cons _ (.cons _ .slnil))
    refine gen_hp (F := fun G => Wk H p (c + 3) [] [(V.ref t5, ltD (y, bb)), (V.ref lo, clD L), (V.ref a, sy.d)] G) W4 (fun G W => ?_)
    clear W4 W3 W2 W1 Dt
    have nmy : Nm y := nmN y hy
    obtain ⟨b5, eb5, e5⟩ := ltr_row (W.row 0 rfl)
    cases eb5
    obtain ⟨ps0, hps0⟩ := W.s.lst
    obtain ⟨psH, hpH⟩ := hs.lst
    have blW : BL (lstB H) G := fun z hz => by
      obtain ⟨xs, hx⟩ := of_lstB hz
      by_cases e : z = p
      · rw [e]; exact ⟨_, hps0⟩
      · exact ⟨xs, W.d.keep hx e⟩
    have N0 : NF (lstB H) H p lo t5 TL y bb (c + 3) G := ⟨W.d, tupA W eTL, blW, lstB_of hpH, fun q hq => dat_offB blW (KTL q hq).2.1 (W.d.dat hs (KTL q hq).2.1 (KTL q hq).1), e5⟩
    clear W hps0 e5
    have fits : ∀ d ∈ L.map ltD, Fit 100 1000 4 d := fun d hd => by
      obtain ⟨m, hm, rfl⟩ := List.mem_map.mp hd
      exact (fit_lt (nmL m hm)).up (fun z => z) (by decide) (by decide)
    have T2 : ∀ {σ : L2.St} {G' : Hp} {c' : Nat}, NF (lstB H) H p lo t5 TL y bb c' G' → σ[2]? = some (some (.ref lo)) → TEv (lstB H) 20 (tVar 2) σ G' := fun N e => tev_var (ds := L.map ltD) e N.lo (by rw [← dTL]; exact dats_rows N.R) (by rw [List.length_map, lTL]; exact lL) fits
    have k3 : ∀ {σ : L2.St}, σ[3]? = some (some (.int (k : Int))) → NEv (tVar 3) σ k := fun e H Q q => ⟨_, e, q⟩
    have k31 : ∀ {σ : L2.St}, σ[3]? = some (some (.int (k : Int))) → NEv (tOp (rI0 fun i j => V.int (i + j)) (tVar 3) (tC (V.int 1))) σ (k + 1) := fun e H Q q => ⟨_, e, _, _, rfl, rfl, q⟩
    have I5 : ∀ {σ : L2.St} {G' : Hp} {c' : Nat}, NF (lstB H) H p lo t5 TL y bb c' G' → σ[5]? = some (some (.ref t5)) → IEv (lstB H) 100 1 (tVar 5) σ G' := fun N e => iev_var e N.D5 (fit_lt nmy)
    have fy : Fit 100 82 0 (.str y) := Fit.str (by have := nmy.hi; omega) (List.all_eq_true.mpr fun c hc => decide_eq_true (by have := nmy.az c hc; omega)) (by have := nmy.hi; omega)
    have X0 : ∀ {σ : L2.St} {G' : Hp} {c' : Nat}, NF (lstB H) H p lo t5 TL y bb c' G' → σ[5]? = some (some (.ref t5)) → IEv (lstB H) 82 0 (tOp (rIxT K) (tVar 5) (tC (V.int 0))) σ G' := fun N e => iev_ix e N.t5 rfl (fun H => .str y) fy
    have X1 : ∀ {σ : L2.St} {G' : Hp} {c' : Nat}, NF (lstB H) H p lo t5 TL y bb c' G' → σ[5]? = some (some (.ref t5)) → IEv (lstB H) 82 0 (tOp (rIxT K) (tVar 5) (tC (V.int 1))) σ G' := fun N e => iev_ix e N.t5 rfl (fun H => .bl bb) (Fit.bl _ (by decide))
    have cut : ∀ {σ : L2.St} {G' : Hp} {c' : Nat} {t : TE}, NF (lstB H) H p lo t5 TL y bb c' G' → σ[2]? = some (some (.ref lo)) → σ[3]? = some (some (.int (k : Int))) → IEv (lstB H) 1000 4 t σ G' →
        VEv (lstB H) (tOp rCatW (tOp rCatW (tSl rSlW (tVar 2) tNoPart (tPart (tVar 3))) (tTup (tCons t tNil))) (tSl rSlW (tVar 2) (tPart (tVar 3)) tNoPart)) σ G' := fun N e2 e3 h => by
      have hp := N.hp
      exact vev_tev hp (tev_cat (tev_cat (tev_take (T2 N e2) (k3 e3)) (tev_one hp h) (by decide)) (tev_drop (T2 N e2) (k3 e3)) (by decide)) (by decide)
    have cnil : ∀ {σ : L2.St} {G' : Hp} {c' : Nat} {t : TE}, NF (lstB H) H p lo t5 TL y bb c' G' → σ[2]? = some (some (.ref lo)) → IEv (lstB H) 1000 4 t σ G' → VEv (lstB H) (tOp rCatW (tVar 2) (tTup (tCons t tNil))) σ G' := fun N e2 h => by
      have hp := N.hp
      exact vev_tev hp (tev_cat (T2 N e2) (tev_one hp h) (by decide)) (by decide)
    have nNon : Nice .none := ⟨Fit.non (by decide), by decide⟩
    have nStr : Nice (.str "") := ⟨Fit.str (by decide) (by decide +kernel) (by decide), by decide⟩
    -- found = [..] of four
    have hp := N0.hp
    have A3 := aev_cons (vev_tev hp (tev_cat (tev_take (T2 N0 (σ := [some (.ref p), some (.ref a), some (.ref lo), some (.int (k : Int)), some (.ref ln), some (.ref t5), none, none, none, none]) rfl) (k3 rfl)) (tev_drop (T2 N0 rfl) (k31 rfl)) (by decide)) (by decide))
      (aev_cons (cut N0 rfl rfl (iev_mono (I5 N0 rfl) (by decide) (by decide))) (aev_cons (vev_sorted (K := K) (i := 2) (j := 5) N0 dTL lL nmL nmy rfl rfl) (aev_cons (vev_tev hp (tev_rev (K := K) (T2 N0 rfl)) (by decide)) aev_nil)))
    dsimp only [gName, tSeq, tAsg]
    refine lst_step A3 hp (by decide) fun l6 G1 S1 F1 => ?_
    have N1 := N0.same S1
    have hp1 := N1.hp
    have A4 := aev_cons (vev_tev hp1 (tev_cat (tev_cat (tev_take (T2 N1 (σ := [some (.ref p), some (.ref a), some (.ref lo), some (.int (k : Int)), some (.ref ln), some (.ref t5), some (.ref l6), none, none, none]) rfl) (k3 rfl)) (tev_mid (m2 := 1) (T2 N1 rfl) (k3 rfl) (k31 rfl) (by omega) (by omega)) (by decide)) (tev_drop (T2 N1 rfl) (k3 rfl)) (by decide)) (by decide))
      (aev_cons (vev_lst (K := K) (i := 2) N1 dTL lL nmL rfl) (aev_cons (vev_c (v := .non) (fun _ => .non) nNon) (aev_cons (cut N1 rfl rfl (iev_mono (X0 N1 rfl) (by decide) (by decide))) (aev_cons (vev_c (v := .str "") (fun _ => .str _) nStr) aev_nil))))
    refine cat_step F1 rfl A4 hp1 (by decide) fun l7 G2 S2 F2 => ?_
    have N2 := N1.same S2
    have hp2 := N2.hp
    have I1 : ∀ {σ : L2.St} {G' : Hp}, IEv (lstB H) 82 0 (tC (V.int 1)) σ G' := iev_c (fun _ => .int 1) (Fit.num (.inr (.inl rfl)) (by decide))
    have It : ∀ {σ : L2.St} {G' : Hp}, IEv (lstB H) 82 0 (tC (V.bl true)) σ G' := iev_c (fun _ => .bl true) (Fit.bl _ (by decide))
    have In : ∀ {σ : L2.St} {G' : Hp}, IEv (lstB H) 82 0 (tC V.non) σ G' := iev_c (fun _ => .non) (Fit.non (by decide))
    have A5 := aev_cons (cnil N2 (σ := [some (.ref p), some (.ref a), some (.ref lo), some (.int (k : Int)), some (.ref ln), some (.ref t5), some (.ref l7), none, none, none]) rfl (iev_mono (iev_tup2 hp2 (X0 N2 rfl) I1) (by decide) (by decide)))
      (aev_cons (cnil N2 rfl (iev_mono (iev_tup3 hp2 (X0 N2 rfl) (X1 N2 rfl) It) (by decide) (by decide))) (aev_cons (cnil N2 rfl (iev_mono In (by decide) (by decide))) (aev_cons (vev_tev hp2 tev_nil (by decide)) (aev_cons (vev_tev hp2 (tev_one hp2 (iev_mono (I5 N2 rfl) (by decide) (by decide))) (by decide)) aev_nil))))
    refine cat_step F2 rfl A5 hp2 (by decide) fun l8 G3 S3 F3 => ?_
    have N3 := N2.same S3
    have hp3 := N3.hp
    have Sa : ∀ {σ : L2.St} {G' : Hp}, IEv (lstB H) 82 0 (tC (V.str "a")) σ G' := iev_c (fun _ => .str "a") (Fit.str (by decide) (by decide +kernel) (by decide))
    have B8 := bev_cons (n := 400) (k := 2) (iev_mono (iev_lst1 hp3 (Sa (σ := [some (.ref p), some (.ref a), some (.ref lo), some (.int (k : Int)), some (.ref ln), some (.ref t5), some (.ref l8), none, none, none]))) (by decide) (by decide))
      (bev_cons (iev_mono (iev_dnew hp3) (by decide) (by decide)) (bev_cons (iev_mono In (by decide) (by decide)) (bev_cons (iev_mono I1 (by decide) (by decide)) (bev_cons (iev_mono (iev_tup1 hp3 Sa) (by decide) (by decide)) (bev_cons (iev_mono It (by decide) (by decide))
        (bev_cons (iev_mono (iev_lst1 hp3 (X0 N3 rfl)) (by decide) (by decide)) (bev_cons (iev_mono (iev_tup1 hp3 (X0 N3 rfl)) (by decide) (by decide)) bev_nil)))))))
    refine op_of (lst_of (B8 G3 (Same.refl _) _ fun vs G4 S4 lv gv => ⟨by rw [lv]; decide, fun l9 hl9 => ?_⟩))
    have S5 := same_new (o := .lst vs) hl9
    have N4 := N3.same (S4.trans S5)
    have F4 := F3.same (S4.trans S5)
    have np9 := not_srcL hp3 S4 hl9
    refine ⟨_, rfl, p, _, 8, rfl, N4.d.s, by omega, by decide, by decide, fun r8 o8 r80 r81 hp8 => ?_⟩
    have N5 := N4.src hp8
    have F5 : FL (lstB H) l8 (4 + 5 + 5) (upd (upd G4 l9 (.lst vs)) p o8) := F4.src N0.pB
    obtain ⟨vo, hvo, mvo, _⟩ := at_ok (xs := vs) r80 (by rw [lv]; exact r81)
    obtain ⟨od, Do, fo⟩ := gv vo mvo
    have Do5 : Dat (delB (lstB H) (upd (upd G4 l9 (.lst vs)) p o8)) vo od := (Do.same (sdB_of S5)).same (sdB_at N0.pB (sd_at (Same.refl _)))
    refine ⟨l9, vs, r8, vo, rfl, rfl, SqL.of (by rw [upd_ne fun z => np9 (by rw [z]; exact N0.pB)]; exact upd_same), hvo, ?_⟩
    have hp5 := N5.hp
    generalize upd (upd G4 l9 (.lst vs)) p o8 = G5 at N5 F5 Do5 hp5 ⊢
    have Io : ∀ {σ : L2.St}, σ[7]? = some (some vo) → IEv (lstB H) 400 2 (tVar 7) σ G5 := fun e => iev_var e Do5 fo
    have A7 := aev_cons (cut N5 (σ := [some (.ref p), some (.ref a), some (.ref lo), some (.int (k : Int)), some (.ref ln), some (.ref t5), some (.ref l8), some vo, none, none]) rfl rfl (iev_mono (iev_tup2 hp5 (Io rfl) (iev_mono (X1 N5 rfl) (by decide) (by decide))) (by decide) (by decide)))
      (aev_cons (cut N5 rfl rfl (iev_mono (iev_tup2 hp5 (iev_mono (X0 N5 rfl) (by decide) (by decide)) (Io rfl)) (by decide) (by decide))) aev_nil)
    refine cat_step F5 rfl A7 hp5 (by decide) fun l10 G6 S6 F6 => ?_
    have N6 := N5.same S6
    have hp6 := N6.hp
    have Io6 : ∀ {σ : L2.St}, σ[7]? = some (some vo) → IEv (lstB H) 400 2 (tVar 7) σ G6 := fun e => iev_var e (Do5.same (sdB_of S6)) fo
    have A8 := aev_cons (cut N6 (σ := [some (.ref p), some (.ref a), some (.ref lo), some (.int (k : Int)), some (.ref ln), some (.ref t5), some (.ref l10), some vo, none, none]) rfl rfl (iev_mono (iev_lst (K := K) (i := 5) N6 nmy rfl) (by decide) (by decide)))
      (aev_cons (cut N6 rfl rfl (iev_mono (Io6 rfl) (by decide) (by decide))) (aev_cons (vev_tev hp6 (tev_one hp6 (iev_mono (iev_tup2 hp6 (Io6 rfl) (iev_mono (X1 N6 rfl) (by decide) (by decide))) (by decide) (by decide))) (by decide)) aev_nil))
    refine cat_step F6 rfl A8 hp6 (by decide) fun l11 G7 S7 F7 => ?_
    have N7 := N6.same S7
    obtain ⟨np, ws, ews, lws, gws⟩ := F7
    refine ⟨_, rfl, _, rfl, _, rfl, _, _, rfl, .inl (SqL.of ews), p, _, _, rfl, N7.d.s, by omega, by rw [lws]; decide, by rw [lws]; decide, fun r9 o9 r90 r91 hp9 => ?_⟩
    obtain ⟨vr, hvr, mvr, _⟩ := at_ok (xs := ws) r90 r91
    have N8 := N7.src hp9
    exact ⟨l11, ws, r9, vr, rfl, rfl, SqL.of (by rw [upd_ne fun z => np (by rw [z]; exact N0.pB)]; exact ews), hvr, q vr _ ((gws vr mvr).dl (sdB_at N0.pB (sd_at (Same.refl _)))) (N8.d.up (by omega))⟩
end
end S2

set_option Elab.async false
set_option linter.all false
set_option maxRecDepth 100000
set_option maxHeartbeats 4000000
/-! values that are asked about -/
namespace S2
open PySem PySem.W PySem.Spec PyProof.Rows L2 S1 RZ
/-- what is asked about: bounded, its rows short -/
def Val (d : PyData) : Prop := Fit 100 300000 8 d ∧ ∀ lot ∈ parts d, (parts lot).length < 64
def ValV (p : Addr) (H : Hp) (v : V) : Prop := ∃ d, Dat (del H p) v d ∧ Val d
theorem ValV.dl {p : Addr} {H H' : Hp} {v : V} (h : ValV p H v) (S : Same (del H p) (del H' p)) : ValV p H' v := let ⟨d, D, n⟩ := h; ⟨d, D.same S, n⟩
theorem ValV.same {p : Addr} {H H' : Hp} {v : V} (h : ValV p H v) (S : Same H H') : ValV p H' v := h.dl (sd_of S)
theorem Val.small {d : PyData} (h : Val d) : small d := ⟨h.1.lim (by decide), h.2⟩
theorem val_pair {d e : PyData} (hd : Nice d) (he : Nice e) : Val (.tuple [d, e]) := by
  refine ⟨(Fit.tup (w' := 300000) (pcons hd.1 (pcons he.1 pnil)) (by show 2 ≤ 100; decide) ?_).up (fun z => z) (Nat.le_refl _) (by decide), fun lot hl => ?_⟩
  · have := hd.1.z
    have := he.1.z
    rw [wts, wts, wts]
    omega
  · rcases List.mem_cons.mp hl with rfl | hl
    · exact hd.2
    · cases List.mem_singleton.mp hl
      exact he.2
theorem nice_cl {L : List Ltr} (nm : ∀ m ∈ L, Nm m.1) (l : L.length ≤ 50) : Nice (clD L) := (nice_row (fun d hd => by
  obtain ⟨m, hm, rfl⟩ := List.mem_map.mp hd
  exact (fit_lt (nm m hm)).up (fun z => z) (by decide) (by decide)) (by rw [List.length_map]; exact l)).1
def spValues : Sp := fun vs H Q _ => ∃ (p : Addr) (c : Nat) (v vt : V) (s : Say) (n x : Str), vs = [.ref p, v, .str n, .str x, vt] ∧ Src H p c ∧ c ≤ 40000 ∧ Dat H v s.d ∧ SayOk 6 8 120 40 s ∧ ValV p H vt ∧
  ∀ (l : Addr) (us : List V) (H' : Hp), H l = none → l ≠ p → H' l = some (.lst us) → us.length ≤ 14 → (∀ u ∈ us, ValV p H' u) → Dr H p (c + 50) H' → Q (.ref l) H'
theorem wts_nice : ∀ {ds : List PyData}, (∀ d ∈ ds, Nice d) → wts ds ≤ ds.length * 60002
  | [], _ => by rw [wts]; exact Nat.zero_le _
  | d :: ds, h => by
    rw [wts, List.length_cons]
    have := (h d List.mem_cons_self).1.z
    have := wts_nice fun x hx => h x (List.mem_cons_of_mem _ hx)
    omega
theorem val_tup {ds : List PyData} (h : ∀ d ∈ ds, Nice d) (l : ds.length ≤ 3) : Val (.tuple ds) := by
  have := wts_nice h
  exact ⟨(Fit.tup (w' := 300000) (fun d hd => (h d hd).1) (by omega) (by omega)).up (fun z => z) (Nat.le_refl _) (by decide), fun lot hl => (h lot hl).2⟩
theorem val_lst {ds : List PyData} (h : ∀ d ∈ ds, Nice d) (l : ds.length ≤ 3) : Val (.list ds) := by
  have := wts_nice h
  exact ⟨(Fit.lst (w' := 300000) (fun d hd => (h d hd).1) (by omega) (by omega)).up (fun z => z) (Nat.le_refl _) (by decide), fun lot hl => absurd hl (by simp [parts])⟩
theorem val_non : Val .none := ⟨Fit.non (by decide), fun lot hl => absurd hl (by simp [parts])⟩
theorem nice_nil : Nice (.tuple []) := ⟨Fit.tup (w := 0) (k := 5) (fun d hd => absurd hd (by simp)) (by decide) (by rw [wts]; decide), by decide⟩
theorem nv_all {p : Addr} {G : Hp} : ∀ {us : List V}, (∀ u ∈ us, NiceV p G u) → ∃ ds, DatAll (del G p) us ds ∧ (∀ d ∈ ds, Nice d) ∧ ds.length = us.length
  | [], _ => ⟨[], .nil, fun d hd => absurd hd (by simp), rfl⟩
  | u :: us, h => by
    obtain ⟨d, D, n⟩ := h u List.mem_cons_self
    obtain ⟨ds, Ds, ns, l⟩ := nv_all fun x hx => h x (List.mem_cons_of_mem _ hx)
    refine ⟨d :: ds, .cons D Ds, fun x hx => ?_, by rw [List.length_cons, List.length_cons, l]⟩
    rcases List.mem_cons.mp hx with rfl | hx
    · exact n
    · exact ns x hx
theorem vv_new {p t : Addr} {G : Hp} {us : List V} (ht : G t = none) (ne : t ≠ p) (h : ∀ u ∈ us, NiceV p G u) (l : us.length ≤ 3) : ValV p (upd G t (.tup us)) (.ref t) := by
  obtain ⟨ds, D, n, e⟩ := nv_all h
  exact ⟨.tuple ds, .tup (by rw [del_ne ne]; exact upd_same) (DatAll.same (sd_of (same_new ht)) D), val_tup n (by omega)⟩
theorem nv_nil {p t : Addr} {G : Hp} (ne : t ≠ p) (e : G t = some (.tup [])) : NiceV p G (.ref t) := ⟨.tuple [], .tup (by rw [del_ne ne]; exact e) .nil, nice_nil⟩
theorem vv_at {p t : Addr} {G : Hp} {us : List V} (e : G t = some (.tup us)) (ne : t ≠ p) (h : ∀ u ∈ us, NiceV p G u) (l : us.length ≤ 3) : ValV p G (.ref t) := by
  obtain ⟨ds, D, n, e'⟩ := nv_all h
  exact ⟨.tuple ds, .tup (by rw [del_ne ne]; exact e) D, val_tup n (by omega)⟩
theorem vv_lst {p t : Addr} {G : Hp} {us : List V} (e : G t = some (.lst us)) (ne : t ≠ p) (h : ∀ u ∈ us, NiceV p G u) (l : us.length ≤ 3) : ValV p G (.ref t) := by
  obtain ⟨ds, D, n, e'⟩ := nv_all h
  exact ⟨.list ds, .lst (by rw [del_ne ne]; exact e) D, val_lst n (by omega)⟩
theorem wk_nv {H : Hp} {p : Addr} {c : Nat} {F : List (Addr × HO)} {R : List (V × PyData)} {G : Hp} (W : Wk H p c F R G) (i : Nat) {v : V} {d : PyData} (e : R[i]? = some (v, d)) (n : Nice d) : NiceV p G v := by
  obtain ⟨ps, hp⟩ := W.s.lst
  exact ⟨d, dat_off hp (W.r (v, d) (List.mem_of_getElem? e)).1 (W.row i e), n⟩
theorem nice_one {p : Addr} {c : Nat} {H G : Hp} {v : V} (s : Src H p c) (h : NiceB (lstB H) G v) : NiceV p G v := by
  obtain ⟨xs, e⟩ := s.lst
  obtain ⟨d, D, n⟩ := h
  exact ⟨d, D.same (sdB_one (lstB_of e)), n⟩
theorem nice_put {B : Addr → Bool} {p q t : Addr} {o o' : HO} {G : Hp} {v : V} (h : NiceB B G v) (pB : B p = true) (qB : B q = true) (ht : G t = none) : NiceV p (upd (upd G t o) q o') v := by
  obtain ⟨d, D, nn⟩ := h
  refine ⟨d, D.same fun b u e => ?_, nn⟩
  by_cases z : B b = true
  · rw [delB_in z] at e; cases e
  · rw [delB_ne z] at e
    have n1 : b ≠ p := fun y => z (by rw [y]; exact pB)
    have n2 : b ≠ q := fun y => z (by rw [y]; exact qB)
    have n3 : b ≠ t := fun y => by
      rw [y, ht] at e
      cases e
    rw [del_ne n1, upd_ne n2, upd_ne n3]
    exact e
theorem anil {f : V → Prop} : ∀ u ∈ ([] : List V), f u := fun u hu => absurd hu (by simp)
theorem acons {f : V → Prop} {a : V} {us : List V} (h : f a) (hs : ∀ u ∈ us, f u) : ∀ u ∈ a :: us, f u := fun u hu => by
  rcases List.mem_cons.mp hu with rfl | hu
  · exact h
  · exact hs u hu
theorem pair_nv {p : Addr} {G : Hp} {a b : V} (h1 : NiceV p G a) (h2 : NiceV p G b) : ∀ u ∈ [a, b], NiceV p G u := acons h1 (acons h2 anil)
abbrev nVs : List Str := ["pot", "saying", "name", "pick", "told", "lots", "found", "wider", "truth", "lot"]
section
variable {P : Program} {w : World} {K : PySem.W.Frag} {mg : Str → Option Value} {base : Heap}
theorem scVs : FnScope nVs ["pot", "saying", "name", "pick", "told"] (defScope sLValues) := ⟨rfl, rfl, rfl, by decide +kernel, rfl, by decide +kernel, by decide +kernel⟩
theorem ok_values {f fR fN fV fW : Addr} {fd fdR fdN fdV fdW : FuncData} (F : Fun K "_law_values" "_law_values" sLValues f fd) (Lr : Has K mg "_law_reached" sLReached ["saying", "pick", "truth"] fR fdR) (GR : FnOk P w K mg base CX0 2 fR fdR ["saying", "pick", "truth"] spLReached)
    (Nr : Has K mg "_law_near" sLNear ["pot", "saying", "lot"] fN fdN) (GN : FnOk P w K mg base CX0 2 fN fdN ["pot", "saying", "lot"] spNear) (Vw : Has K mg "_law_viewers" sLViewers ["saying", "pick"] fV fdV) (Wd : Has K mg "_law_wider" sLWider ["pot", "saying", "pick", "lot"] fW fdW)
    (GW : FnOk P w K mg base CX0 2 fW fdW ["pot", "saying", "pick", "lot"] spWider) (B : Blt mg) : FnOk P w K mg base CX0 3 f fd ["pot", "saying", "name", "pick", "told"] spValues := by
  have GV : FnOk P w K mg base CX0 1 fV fdV ["saying", "pick"] spViewers := ok_lViewers Vw.F
  refine F.ok scVs (fun vs H Q E h => ?_) (fun cdv A outer s H vs Q E hr h => ?_)
  · obtain ⟨p, c, v, vt, sy, n, x, rfl, _⟩ := h
    rfl
  · obtain ⟨p, c, v, vt, sy, n, x, rfl, hs, hc, D, ok, nt, q⟩ := h
    have hr1 := hr.mono (show 1 ≤ 2 by decide)
    refine ⟨_, pss_cons (ps_setLc (i := 5) (own := [("truth", 8)]) (g := gName 8) (tt := tYes) (te := tThen (tCall spLReached [] E0 (tCons (tVar 1) (tCons (tVar 3) (tCons (tVar 8) tNil)))) (kTup K)) rfl scVs.nd rfl rfl (sw_true rfl rfl rfl (by decide +kernel))
          (pi_tup (pe_tup (pa_cons pe_bl (pa_cons pe_bl pa_nil)))) (blkOk_by (N := nVs) (sc := defScope sLValues) (by decide +kernel)) (fun _ _ _ _ _ => pg_name (i := 8) scVs.nd rfl (Or.inl rfl)) (fun _ _ _ _ _ => pts_nil)
          (fun _ _ _ _ _ => by exact pe_tupleOf (by rfl) B.tuple (pe_call GR (by exact hr) (by rfl) Lr.g Lr.F.kp Lr.b .nil pass0 (pa_cons (pv 1) (pa_cons (pv 3) (pa_cons (pv 8) pa_nil))))))
      (pss_cons (ps_set (i := 6) scVs.nd rfl (.inl rfl) (pe_lst (pa_cons (pe_tupleOf rfl B.tuple (pv 5))
          (pa_cons (pe_tup (pa_cons (pe_ix ix_list (pv 5) pe_int (fun _ _ => rfl)) (pa_cons (pe_call GN hr rfl Nr.g Nr.F.kp Nr.b .nil pass0 (pa_cons (pv 0) (pa_cons (pv 1) (pa_cons (pe_ix ix_list (pv 5) pe_int (fun _ _ => rfl)) pa_nil)))) pa_nil)))
          (pa_cons (pe_tup (pa_cons (pe_call GN hr rfl Nr.g Nr.F.kp Nr.b .nil pass0 (pa_cons (pv 0) (pa_cons (pv 1) (pa_cons (pe_ix ix_list (pv 5) pe_int (fun _ _ => rfl)) pa_nil)))) (pa_cons (pe_ix ix_list (pv 5) pe_int (fun _ _ => rfl)) pa_nil))) pa_nil)))))
      (pss_cons (ps_if (pt_cmpR op_in_seq (pv 2) (pe_call GV hr1 rfl Vw.g Vw.F.kp Vw.b .nil pass0 (pa_cons (pv 1) (pa_cons (pv 3) pa_nil))) (by with_unfolding_all rfl))
        (pss_cons (ps_setLc (i := 7) (own := [("lot", 9)]) (g := gName 9) (tt := tYes) (te := tCall spWider [] E0 (tCons (tVar 0) (tCons (tVar 1) (tCons (tVar 3) (tCons (tVar 9) tNil))))) rfl scVs.nd rfl rfl (sw_true rfl rfl rfl (by decide +kernel))
            (pi_list (pv 5)) (blkOk_by (N := nVs) (sc := defScope sLValues) (by decide +kernel)) (fun _ _ _ _ _ => pg_name (i := 9) scVs.nd rfl (Or.inl rfl)) (fun _ _ _ _ _ => pts_nil)
            (fun _ _ _ _ _ => by exact pe_call GW (by exact hr) (by rfl) Wd.g Wd.F.kp Wd.b .nil pass0 (pa_cons (pv 0) (pa_cons (pv 1) (pa_cons (pv 3) (pa_cons (pv 9) pa_nil))))))
        (pss_cons (ps_set (i := 6) scVs.nd rfl (.inl rfl) (pe_op op_cat (pv 6) (pe_lst (pa_cons (pe_tupleOf rfl B.tuple (pv 7))
            (pa_cons (pe_tup (pa_cons (pe_ix ix_list (pv 5) pe_int (fun _ _ => rfl)) (pa_cons (pe_ix ix_list (pv 7) pe_int (fun _ _ => rfl)) pa_nil)))
            (pa_cons (pe_tup (pa_cons (pe_ix ix_list (pv 7) pe_int (fun _ _ => rfl)) (pa_cons (pe_ix ix_list (pv 5) pe_int (fun _ _ => rfl)) pa_nil))) pa_nil))))))
        (pss_one (ps_expr (pe_bm PySem.F.plainAttrs_list PySem.F.slot_list_append PySem.F.type_list_append mt_append (pv 6) (pa_cons (pe_tup (pa_cons (pe_ix ix_list (pv 7) pe_int (fun _ _ => rfl))
            (pa_cons (pe_call GN hr rfl Nr.g Nr.F.kp Nr.b .nil pass0 (pa_cons (pv 0) (pa_cons (pv 1) (pa_cons (pe_ix ix_list (pv 7) pe_int (fun _ _ => rfl)) pa_nil)))) pa_nil))) pa_nil)))))) pss_nil)
      (pss_cons (ps_set (i := 6) scVs.nd rfl (.inl rfl) (pe_op op_cat (pv 6) (pe_lst (pa_cons (pv 5)
          (pa_cons (pe_tup (pa_cons (pe_ix ix_list (pv 5) pe_int (fun _ _ => rfl)) (pa_cons (pe_ix ix_list (pv 5) pe_int (fun _ _ => rfl)) pa_nil)))
          (pa_cons (pe_op op_catW (pe_tupleOf rfl B.tuple (pv 5)) (pe_tup (pa_cons (pe_tup pa_nil) pa_nil)))
          (pa_cons (pe_tup (pa_cons (pe_ix ix_list (pv 5) pe_int (fun _ _ => rfl)) pa_nil))
          (pa_cons (pe_tup pa_nil)
          (pa_cons pe_non
          (pa_cons (pv 4) pa_nil))))))))))
      (pss_one (ps_ret (pv 6)))))), ?_⟩
    have s2 : 2 ≤ sizeLine := by decide
    have W0 := (Wk.start hs).addR (keyable_say sy) D
    have vwn : ∀ y ∈ vw sy x, Nm y := fun y hy => by
      unfold vw at hy
      obtain ⟨o, ho, rfl⟩ := List.mem_map.mp hy
      exact (ok.on o (List.mem_filter.mp ho).1).1
    have lvw := vw_len ok x
    refine ⟨s2, fun tt htt => ⟨tt, rfl, ⟨_, SqT.of upd_same⟩, fun D0 hD0 => ?_⟩⟩
    have S1 := same_new (o := .tup [V.bl true, .bl false]) htt
    have et : upd H tt (.tup [V.bl true, .bl false]) tt = some (.tup [V.bl true, .bl false]) := upd_same
    generalize upd H tt (.tup [V.bl true, .bl false]) = H1 at S1 et hD0 ⊢
    have hD00 := S1.free hD0
    refine lc_tup (K := K) (a := tt) (xs := [V.bl true, .bl false]) (fun j H4 => ∃ ls : List (Addr × List Ltr), ls.length = j ∧ H4 D0 = some (.lst (ls.map fun q => V.ref q.1)) ∧ (∀ q ∈ ls, Dat H4 (.ref q.1) (clD q.2) ∧ q.2.Nodup ∧ ∀ m ∈ q.2, m.1 ∈ vw sy x) ∧ Same H1 H4)
      ⟨[], rfl, upd_same, fun q hq => absurd hq (by simp), same_new hD0⟩ (fun j H4 _ ⟨_, _, _, _, S4⟩ => SqT.of (S4 _ _ et)) ?_ ?_
    · rintro j y H4 hy ⟨ls, ll, e4, g4, S4⟩
      obtain ⟨t, rfl, jl⟩ : ∃ t, y = V.bl t ∧ j < 2 := by
        match j, hy with
        | 0, hy => exact ⟨true, (Option.some.inj hy).symm, by decide⟩
        | 1, hy => exact ⟨false, (Option.some.inj hy).symm, by decide⟩
        | j + 2, hy => exact absurd hy (by simp)
      refine ⟨rfl, yes_of ⟨_, rfl, _, rfl, _, rfl, v, sy, x, t, rfl, datS_of ((D.same S1).same S4), ok, fun l T L H5 S5 hl el eL dl rl => .inl ⟨l, _, rfl, SqL.of el, fun tu htu => ?_⟩⟩⟩
      have S6 := S5.trans (same_new (o := .tup (T.map TRow.v)) htu)
      have e6 := S6 _ _ e4
      refine ⟨_, e6, by rw [List.length_map, ll]; exact small1000 (by omega), ls ++ [(tu, L)], by rw [List.length_append, ll]; rfl, by rw [upd_same, List.map_append]; rfl, fun q hq => ?_, same_upd (S4.trans S6) hD0⟩
      rcases List.mem_append.mp hq with z | z
      · obtain ⟨h1, h2, h3⟩ := g4 q z
        exact ⟨dat_upd e6 (keyable_cl _) (h1.same S6), h2, h3⟩
      · cases List.mem_singleton.mp z
        refine ⟨dat_upd e6 (keyable_cl _) (.tup upd_same ?_), ltLt_nd rl.up, fun m hm => reach_ws ((rl.mem m).mp hm)⟩
        rw [← eL]
        exact dats_rows fun r hr => dat_new htu (dl r hr)
    · rintro H4 ⟨ls, ll, e4, g4, S4⟩
      obtain ⟨a1, L1, a2, L2, rfl⟩ : ∃ a1 L1 a2 L2, ls = [(a1, L1), (a2, L2)] := by
        match ls, ll with
        | [(a1, L1), (a2, L2)], _ => exact ⟨a1, L1, a2, L2, rfl⟩
      obtain ⟨DL1, nd1, in1⟩ : Dat H4 (.ref a1) (clD L1) ∧ L1.Nodup ∧ ∀ m ∈ L1, m.1 ∈ vw sy x := g4 (a1, L1) List.mem_cons_self
      obtain ⟨DL2, nd2, in2⟩ : Dat H4 (.ref a2) (clD L2) ∧ L2.Nodup ∧ ∀ m ∈ L2, m.1 ∈ vw sy x := g4 (a2, L2) (List.mem_cons_of_mem _ List.mem_cons_self)
      have l1 : L1.length ≤ 16 := by have := few_lts nd1 in1; omega
      have l2 : L2.length ≤ 16 := by have := few_lts nd2 in2; omega
      have n1 : ∀ m ∈ L1, Nm m.1 := fun m hm => vwn _ (in1 m hm)
      have n2 : ∀ m ∈ L2, Nm m.1 := fun m hm => vwn _ (in2 m hm)
      have nc1 := nice_cl n1 (by omega)
      have nc2 := nice_cl n2 (by omega)
      have W1 : Wk H p c [(D0, .lst [V.ref a1, .ref a2])] [(.ref a1, clD L1), (.ref a2, clD L2), (v, sy.d)] H4 := ((((W0.same S1).same S4).addR (keyable_cl L2) DL2).addR (keyable_cl L1) DL1).know e4 (fun z => by
        obtain ⟨ys, hys⟩ := hs.lst
        rw [z, hys] at hD00
        cases hD00) fun y hy => absurd hy (by simp)
      obtain ⟨ps4, hp4⟩ := W1.s.lst
      refine ⟨_, rfl, .inl ⟨D0, _, rfl, SqL.of (W1.at 0 rfl), fun tA htA => ?_⟩⟩
      have W2 := W1.new (o := .tup [.ref a1, .ref a2]) htA
      have vA : ValV p (upd H4 tA (.tup [.ref a1, .ref a2])) (.ref tA) := ⟨.tuple [clD L1, clD L2], .tup (by rw [del_ne (W1.d.ne htA)]; exact upd_same) (.cons ((dat_off hp4 (keyable_cl L1) DL1).same (sd_of (same_new htA))) (.cons ((dat_off hp4 (keyable_cl L2) DL2).same (sd_of (same_new htA))) .nil)), val_pair nc1 nc2⟩
      refine ⟨_, rfl, D0, _, 0, _, rfl, rfl, SqL.of (W2.at 1 rfl), rfl, _, rfl, _, rfl, _, rfl, D0, _, 1, _, rfl, rfl, SqL.of (W2.at 1 rfl), rfl, p, a2, c, v, sy, L2, rfl, W2.s, by omega, W2.row 2 rfl, ok, W2.row 1 rfl, by omega, n2, fun v1 G2 nv1 d2 => ⟨s2, fun tB htB => ?_⟩⟩
      replace nv1 := nice_one W2.s nv1
      have W3 := W2.trans d2
      have W4 := W3.new (o := .tup [.ref a1, v1]) htB
      refine ⟨_, rfl, _, rfl, _, rfl, D0, _, 0, _, rfl, rfl, SqL.of (W4.at 2 rfl), rfl, p, a1, _, v, sy, L1, rfl, W4.s, by omega, W4.row 2 rfl, ok, W4.row 0 rfl, by omega, n1, fun v2 G3 nv2 d3 => ⟨_, rfl, D0, _, 1, _, rfl, rfl, SqL.of ((W4.trans d3).at 2 rfl), rfl, s2, fun tC htC => ⟨(by show 3 ≤ sizeLine; decide), fun lF hlF => ?_⟩⟩⟩
      replace nv2 := nice_one W4.s nv2
      have W5 := (W4.trans d3).new (o := .tup [v2, .ref a2]) htC
      have W6 := W5.new (o := .lst [.ref tA, .ref tB, .ref tC]) hlF
      have Z1 : ∀ {c' : Nat} {F : List (Addr × HO)} {G : Hp}, Wk H p c' F [(.ref a1, clD L1), (.ref a2, clD L2), (v, sy.d)] G → NiceV p G (.ref a1) := fun W => wk_nv W 0 rfl nc1
      have Z2 : ∀ {c' : Nat} {F : List (Addr × HO)} {G : Hp}, Wk H p c' F [(.ref a1, clD L1), (.ref a2, clD L2), (v, sy.d)] G → NiceV p G (.ref a2) := fun W => wk_nv W 1 rfl nc2
      have vB : ValV p (upd G2 tB (.tup [.ref a1, v1])) (.ref tB) := vv_new htB (W3.d.ne htB) (pair_nv (Z1 W3) nv1) (by show 2 ≤ 3; decide)
      have vC : ValV p (upd G3 tC (.tup [v2, V.ref a2])) (.ref tC) := vv_new htC ((W4.trans d3).d.ne htC) (pair_nv nv2 (Z2 (W4.trans d3))) (by show 2 ≤ 3; decide)
      have us0 : ∀ u ∈ [V.ref tA, .ref tB, .ref tC], ValV p (upd (upd G3 tC (.tup [v2, V.ref a2])) lF (.lst [.ref tA, .ref tB, .ref tC])) u :=
        acons ((((vA.dl d2.m).same (same_new htB)).dl d3.m).same ((same_new htC).trans (same_new hlF))) (acons ((vB.dl d3.m).same ((same_new htC).trans (same_new hlF))) (acons (vC.same (same_new hlF)) anil))
      have W7 := W6.sub (F' := [(lF, .lst [.ref tA, .ref tB, .ref tC]), (D0, .lst [V.ref a1, V.ref a2])]) (by simp)
      generalize upd (upd G3 tC (.tup [v2, V.ref a2])) lF (.lst [.ref tA, .ref tB, .ref tC]) = G6 at W7 us0 ⊢
      refine ⟨_, rfl, _, rfl, _, rfl, v, sy, x, rfl, datS_of (W7.row 2 rfl), ok, fun lv G7 S7 hlv ev => ?_⟩
      refine ⟨lv, _, rfl, .inl (SqL.of ev), rfl, flat_strs _, _, rfl, ?_⟩
      show if inV (V.str n) ((vw sy x).map V.str) = true then _ else _
      rw [inV_str]
      have W8 := W7.same S7
      have us8 := fun u hu => (us0 u hu).same S7
      by_cases hv : n ∈ vw sy x
      · rw [decide_eq_true hv, if_pos rfl]
        refine ⟨_, rfl, D0, rfl, ⟨_, SqL.of (W8.at 1 rfl)⟩, fun D1 hD1 => ?_⟩
        have vne : vw sy x ≠ [] := List.ne_nil_of_mem hv
        have hD10 := W8.free hD1
        refine lc_list (K := K) (a := D0) (xs := [V.ref a1, .ref a2]) (fun j H4 => ∃ ls : List (Addr × List Ltr), ls.length = j ∧ Wk H p (c + 20 + 2 * j) [(D1, .lst (ls.map fun q => V.ref q.1)), (lF, .lst [.ref tA, .ref tB, .ref tC]), (D0, .lst [V.ref a1, V.ref a2])] [(.ref a1, clD L1), (.ref a2, clD L2), (v, sy.d)] H4 ∧
            (∀ q ∈ ls, Dat H4 (.ref q.1) (clD q.2) ∧ q.2.Nodup ∧ ∀ m ∈ q.2, m.1 ∈ vw sy x) ∧ Dr G7 p (c + 20 + 2 * j) H4)
          ⟨[], rfl, W8.new hD1, fun q hq => absurd hq (by simp), (Dr.start W8.s).new hD1⟩ (fun j H4 _ ⟨_, _, W, _, _⟩ => SqL.of (W.at 2 rfl)) ?_ ?_
        · rintro j y H4 hy ⟨ls, ll, W, g4, dz⟩
          obtain ⟨aj, L, rfl, jl, DL, nd, inn⟩ : ∃ aj L, y = V.ref aj ∧ j < 2 ∧ Dat H4 (.ref aj) (clD L) ∧ L.Nodup ∧ ∀ m ∈ L, m.1 ∈ vw sy x := by
            match j, hy, W with
            | 0, hy, W => exact ⟨a1, L1, (Option.some.inj hy).symm, by decide, W.row 0 rfl, nd1, in1⟩
            | 1, hy, W => exact ⟨a2, L2, (Option.some.inj hy).symm, by decide, W.row 1 rfl, nd2, in2⟩
            | j + 2, hy, _ => exact absurd hy (by simp)
          refine ⟨rfl, yes_of ⟨_, rfl, _, rfl, _, rfl, _, rfl, p, aj, _, v, sy, x, L, rfl, W.s, by omega, W.row 2 rfl, ok, vne, DL, nd, inn, fun u M H5 DM ndM inM d5 => ?_⟩⟩
          have W5 := W.trans d5
          refine ⟨_, W5.at 0 rfl, by rw [List.length_map, ll]; exact small1000 (by omega), ls ++ [(u, M)], by rw [List.length_append, ll]; rfl, ?_, fun q hq => ?_, ((dz.trans d5).put hD1 (W5.np 0 rfl)).up (show c + 20 + 2 * j + 2 ≤ c + 20 + 2 * (j + 1) by omega)⟩
          · have := (W5.put (o' := .lst ((ls.map fun q => V.ref q.1) ++ [V.ref u])) 0 rfl hD10 lst_nt).up (show c + 20 + 2 * j + 2 ≤ c + 20 + 2 * (j + 1) by omega)
            rw [List.map_append]
            exact this
          · rcases List.mem_append.mp hq with z | z
            · obtain ⟨h1, h2, h3⟩ := g4 q z
              exact ⟨dat_upd (W5.at 0 rfl) (keyable_cl _) (d5.dat W.s (keyable_cl _) h1), h2, h3⟩
            · cases List.mem_singleton.mp z
              exact ⟨dat_upd (W5.at 0 rfl) (keyable_cl _) DM, ndM, inM⟩
        · rintro H4 ⟨ls, ll, W, g4, dz⟩
          obtain ⟨b1, M1, b2, M2, rfl⟩ : ∃ a1 L1 a2 L2, ls = [(a1, L1), (a2, L2)] := by
            match ls, ll with
            | [(a1, L1), (a2, L2)], _ => exact ⟨a1, L1, a2, L2, rfl⟩
          obtain ⟨DM1, md1, im1⟩ : Dat H4 (.ref b1) (clD M1) ∧ M1.Nodup ∧ ∀ m ∈ M1, m.1 ∈ vw sy x := g4 (b1, M1) List.mem_cons_self
          obtain ⟨DM2, md2, im2⟩ : Dat H4 (.ref b2) (clD M2) ∧ M2.Nodup ∧ ∀ m ∈ M2, m.1 ∈ vw sy x := g4 (b2, M2) (List.mem_cons_of_mem _ List.mem_cons_self)
          have k1 : M1.length ≤ 16 := by have := few_lts md1 im1; omega
          have k2 : M2.length ≤ 16 := by have := few_lts md2 im2; omega
          have o1 : ∀ m ∈ M1, Nm m.1 := fun m hm => vwn _ (im1 m hm)
          have o2 : ∀ m ∈ M2, Nm m.1 := fun m hm => vwn _ (im2 m hm)
          have nb1 := nice_cl o1 (by omega)
          have nb2 := nice_cl o2 (by omega)
          have us9 := fun u hu => (us8 u hu).dl dz.m
          have B0 : Wk H p (c + 24) [(D1, .lst [V.ref b1, .ref b2]), (lF, .lst [.ref tA, .ref tB, .ref tC]), (D0, .lst [V.ref a1, V.ref a2])] [(.ref a1, clD L1), (.ref a2, clD L2), (v, sy.d), (.ref b1, clD M1), (.ref b2, clD M2)] H4 :=
            (((W.addR (keyable_cl M2) DM2).addR (keyable_cl M1) DM1).rows fun z hz => .inl (by simp only [List.mem_cons, List.not_mem_nil, or_false] at hz ⊢; rcases hz with h | h | h | h | h <;> simp [h])).up (show c + 20 + 2 * 2 ≤ c + 24 by omega)
          refine ⟨_, rfl, _, rfl, .inl ⟨D1, _, rfl, SqL.of (B0.at 0 rfl), fun tM htM => ?_⟩⟩
          have B1 := B0.new (o := .tup [.ref b1, .ref b2]) htM
          refine ⟨_, rfl, D0, _, 0, _, rfl, rfl, SqL.of (B1.at 3 rfl), rfl, _, rfl, D1, _, 1, _, rfl, rfl, SqL.of (B1.at 1 rfl), rfl, s2, fun tN htN => ?_⟩
          have B2 := B1.new (o := .tup [.ref a1, .ref b2]) htN
          refine ⟨_, rfl, D1, _, 0, _, rfl, rfl, SqL.of (B2.at 2 rfl), rfl, _, rfl, D0, _, 1, _, rfl, rfl, SqL.of (B2.at 4 rfl), rfl, s2, fun tO htO => ?_⟩
          have B3 := B2.new (o := .tup [.ref b1, .ref a2]) htO
          refine ⟨(by show 3 ≤ sizeLine; decide), fun lP hlP => ?_⟩
          have B4 := B3.new (o := .lst [.ref tM, .ref tN, .ref tO]) hlP
          refine ⟨lF, lP, _, _, rfl, rfl, B4.at 5 rfl, upd_same, (by show 6 ≤ sizeLine; decide), fun lQ hlQ => ?_⟩
          have B5 := B4.new (o := .lst ([V.ref tA, .ref tB, .ref tC] ++ [.ref tM, .ref tN, .ref tO])) hlQ
          refine ⟨_, rfl, .inl ⟨rfl, _, SqL.of (B5.at 0 rfl)⟩, _, rfl, D1, _, 0, _, rfl, rfl, SqL.of (B5.at 5 rfl), rfl, _, rfl, _, rfl, _, rfl, D1, _, 1, _, rfl, rfl, SqL.of (B5.at 5 rfl), rfl, p, b2, _, v, sy, M2, rfl, B5.s, by omega, B5.row 2 rfl, ok, B5.row 4 rfl, by omega, o2, fun v3 G8 nv3 d8 => ⟨s2, fun tR htR => ?_⟩⟩
          have B6 := (B5.trans d8).new (o := .tup [.ref b1, v3]) htR
          refine ⟨lQ, _, _, rfl, rfl, B6.at 1 rfl, (by show 6 < sizeLine; decide), ?_⟩
          have B7 := B6.put (o' := .lst ([V.ref tA, .ref tB, .ref tC] ++ [.ref tM, .ref tN, .ref tO] ++ [.ref tR])) 1 rfl (B4.free hlQ) lst_nt
          have B8 := (B7.sub (F' := [(lQ, .lst ([V.ref tA, .ref tB, .ref tC] ++ [.ref tM, .ref tN, .ref tO] ++ [.ref tR])), (D0, .lst [V.ref a1, V.ref a2])]) (by simp)).rows (R' := [(.ref a1, clD L1), (.ref a2, clD L2), (v, sy.d)]) fun z hz => .inl (by simp only [List.mem_cons, List.not_mem_nil, or_false] at hz ⊢; rcases hz with h | h | h <;> simp [h])
          have dq := (((((Dr.start B4.s).new (o := .lst ([V.ref tA, .ref tB, .ref tC] ++ [.ref tM, .ref tN, .ref tO])) hlQ).trans d8).new (o := .tup [.ref b1, v3]) htR).put (o := .lst ([V.ref tA, .ref tB, .ref tC] ++ [.ref tM, .ref tN, .ref tO] ++ [.ref tR])) hlQ (B6.np 1 rfl))
          have Sn := ((same_new (o := .tup [.ref b1, .ref b2]) htM).trans (same_new (o := .tup [.ref a1, .ref b2]) htN)).trans ((same_new (o := .tup [.ref b1, .ref a2]) htO).trans (same_new (o := .lst [.ref tM, .ref tN, .ref tO]) hlP))
          have u4 := fun u hu => ((us9 u hu).same Sn).dl dq.m
          have key : NiceV p (upd (upd G8 tR (.tup [.ref b1, v3])) lQ (.lst ([V.ref tA, .ref tB, .ref tC] ++ [.ref tM, .ref tN, .ref tO] ++ [.ref tR]))) v3 := by
            obtain ⟨pp, hpp⟩ := B5.s.lst
            exact nice_put nv3 (lstB_of hpp) (lstB_of (B5.at 0 rfl)) htR
          have Y1 := wk_nv B4 3 rfl nb1
          have Y2 := wk_nv B4 4 rfl nb2
          have X1 := wk_nv B4 0 rfl nc1
          have X2 := wk_nv B4 1 rfl nc2
          have vM := (vv_at (B4.at 3 rfl) (B4.np 3 rfl) (pair_nv Y1 Y2) (by show 2 ≤ 3; decide)).dl dq.m
          have vN := (vv_at (B4.at 2 rfl) (B4.np 2 rfl) (pair_nv X1 Y2) (by show 2 ≤ 3; decide)).dl dq.m
          have vO := (vv_at (B4.at 1 rfl) (B4.np 1 rfl) (pair_nv Y1 X2) (by show 2 ≤ 3; decide)).dl dq.m
          have vR := vv_at (B7.at 0 rfl) (B7.np 0 rfl) (pair_nv (wk_nv B7 3 rfl nb1) key) (by show 2 ≤ 3; decide)
          have usE : ∀ u ∈ ([V.ref tA, .ref tB, .ref tC] ++ [.ref tM, .ref tN, .ref tO] ++ [.ref tR]), ValV p (upd (upd G8 tR (.tup [.ref b1, v3])) lQ (.lst ([V.ref tA, .ref tB, .ref tC] ++ [.ref tM, .ref tN, .ref tO] ++ [.ref tR]))) u := fun u hu => by
            rcases List.mem_append.mp hu with hu | hu
            · rcases List.mem_append.mp hu with hu | hu
              · exact u4 u hu
              · exact acons vM (acons vN (acons vO anil)) u hu
            · exact acons vR anil u hu
          refine ⟨_, rfl, _, rfl, _, rfl, D0, _, 1, _, rfl, rfl, SqL.of (B8.at 1 rfl), rfl, _, rfl, D0, _, 0, _, rfl, rfl, SqL.of (B8.at 1 rfl), rfl, s2, fun tE htE => ?_⟩
          have A1 := B8.new (o := .tup [.ref a2, .ref a1]) htE
          refine ⟨_, rfl, .inl ⟨D0, _, rfl, SqL.of (A1.at 2 rfl), fun tF htF => ?_⟩⟩
          have A2 := A1.new (o := .tup [.ref a1, .ref a2]) htF
          refine ⟨(by show 0 ≤ sizeLine; decide), fun t0 ht0 => ⟨(by show 1 ≤ sizeLine; decide), fun tG htG => ?_⟩⟩
          have A3 := A2.new (o := .tup []) ht0
          have A4 := A3.new (o := .tup [.ref t0]) htG
          refine ⟨tF, tG, _, _, rfl, rfl, A4.at 2 rfl, upd_same, (by show 3 ≤ sizeLine; decide), fun tH G9 S9 eH => ?_⟩
          have A5 := A4.same S9
          have SS := (((same_new (o := .tup [.ref a2, .ref a1]) htE).trans (same_new (o := .tup [.ref a1, .ref a2]) htF)).trans (same_new (o := .tup []) ht0)).trans ((same_new (o := .tup [.ref t0]) htG).trans S9)
          refine ⟨_, rfl, D0, _, 0, _, rfl, rfl, SqL.of (A5.at 5 rfl), rfl, (by show 1 ≤ sizeLine; decide), fun tI htI => ?_⟩
          have A6 := A5.new (o := .tup [.ref a1]) htI
          refine ⟨(by show 0 ≤ sizeLine; decide), fun tJ htJ => ?_⟩
          have A7 := A6.new (o := .tup []) htJ
          refine ⟨_, rfl, (by show 7 ≤ sizeLine; decide), fun lG hlG => ?_⟩
          have A8 := A7.new (o := .lst [.ref D0, .ref tE, .ref tH, .ref tI, .ref tJ, .non, vt]) hlG
          refine ⟨lQ, lG, _, _, rfl, rfl, A8.at 7 rfl, upd_same, (by show 14 ≤ sizeLine; decide), fun lH hlH => ⟨_, rfl, ?_⟩⟩
          have A9 := A8.new (o := .lst (([V.ref tA, .ref tB, .ref tC] ++ [.ref tM, .ref tN, .ref tO] ++ [.ref tR]) ++ [.ref D0, .ref tE, .ref tH, .ref tI, .ref tJ, .non, vt])) hlH
          have ST := (((same_new (o := .tup [.ref a1]) htI).trans (same_new (o := .tup []) htJ)).trans (same_new (o := .lst [.ref D0, .ref tE, .ref tH, .ref tI, .ref tJ, .non, vt]) hlG)).trans (same_new (o := .lst (([V.ref tA, .ref tB, .ref tC] ++ [.ref tM, .ref tN, .ref tO] ++ [.ref tR]) ++ [.ref D0, .ref tE, .ref tH, .ref tI, .ref tJ, .non, vt])) hlH)
          refine q lH _ _ (A8.free hlH) (A8.d.ne hlH) upd_same (by show 14 ≤ 14; decide) (fun u hu => ?_) (A9.d.up (by omega))
          rcases List.mem_append.mp hu with z | z
          · exact (usE u z).same (SS.trans ST)
          · exact acons (vv_lst (A9.at 9 rfl) (A9.np 9 rfl) (pair_nv (Z1 A9) (Z2 A9)) (by show 2 ≤ 3; decide))
              (acons (vv_at (A9.at 7 rfl) (A9.np 7 rfl) (pair_nv (Z2 A9) (Z1 A9)) (by show 2 ≤ 3; decide))
              (acons (vv_at (ST _ _ eH) (fun z => by
                  obtain ⟨ys, hys⟩ := A5.s.lst
                  rw [z, hys] at eH
                  cases eH) (acons (Z1 A9) (acons (Z2 A9) (acons (nv_nil (A9.np 5 rfl) (A9.at 5 rfl)) anil))) (by show 3 ≤ 3; decide))
              (acons (vv_at (A9.at 3 rfl) (A9.np 3 rfl) (acons (Z1 A9) anil) (by show 1 ≤ 3; decide))
              (acons (vv_at (A9.at 2 rfl) (A9.np 2 rfl) anil (by show 0 ≤ 3; decide))
              (acons ⟨.none, .non, val_non⟩ (acons (nt.dl A9.d.m) anil)))))) u z
      · rw [decide_eq_false hv, if_neg (by decide)]
        refine ⟨_, rfl, _, rfl, _, rfl, D0, _, 1, _, rfl, rfl, SqL.of (W8.at 1 rfl), rfl, _, rfl, D0, _, 0, _, rfl, rfl, SqL.of (W8.at 1 rfl), rfl, s2, fun tE htE => ?_⟩
        have A1 := W8.new (o := .tup [.ref a2, .ref a1]) htE
        refine ⟨_, rfl, .inl ⟨D0, _, rfl, SqL.of (A1.at 2 rfl), fun tF htF => ?_⟩⟩
        have A2 := A1.new (o := .tup [.ref a1, .ref a2]) htF
        refine ⟨(by show 0 ≤ sizeLine; decide), fun t0 ht0 => ⟨(by show 1 ≤ sizeLine; decide), fun tG htG => ?_⟩⟩
        have A3 := A2.new (o := .tup []) ht0
        have A4 := A3.new (o := .tup [.ref t0]) htG
        refine ⟨tF, tG, _, _, rfl, rfl, A4.at 2 rfl, upd_same, (by show 3 ≤ sizeLine; decide), fun tH G9 S9 eH => ?_⟩
        have A5 := A4.same S9
        have SS := (((same_new (o := .tup [.ref a2, .ref a1]) htE).trans (same_new (o := .tup [.ref a1, .ref a2]) htF)).trans (same_new (o := .tup []) ht0)).trans ((same_new (o := .tup [.ref t0]) htG).trans S9)
        refine ⟨_, rfl, D0, _, 0, _, rfl, rfl, SqL.of (A5.at 5 rfl), rfl, (by show 1 ≤ sizeLine; decide), fun tI htI => ?_⟩
        have A6 := A5.new (o := .tup [.ref a1]) htI
        refine ⟨(by show 0 ≤ sizeLine; decide), fun tJ htJ => ?_⟩
        have A7 := A6.new (o := .tup []) htJ
        refine ⟨_, rfl, (by show 7 ≤ sizeLine; decide), fun lG hlG => ?_⟩
        have A8 := A7.new (o := .lst [.ref D0, .ref tE, .ref tH, .ref tI, .ref tJ, .non, vt]) hlG
        refine ⟨lF, lG, _, _, rfl, rfl, A8.at 7 rfl, upd_same, (by show 10 ≤ sizeLine; decide), fun lH hlH => ⟨_, rfl, ?_⟩⟩
        have A9 := A8.new (o := .lst ([V.ref tA, .ref tB, .ref tC] ++ [.ref D0, .ref tE, .ref tH, .ref tI, .ref tJ, .non, vt])) hlH
        have ST := (((same_new (o := .tup [.ref a1]) htI).trans (same_new (o := .tup []) htJ)).trans (same_new (o := .lst [.ref D0, .ref tE, .ref tH, .ref tI, .ref tJ, .non, vt]) hlG)).trans (same_new (o := .lst ([V.ref tA, .ref tB, .ref tC] ++ [.ref D0, .ref tE, .ref tH, .ref tI, .ref tJ, .non, vt])) hlH)
        refine q lH _ _ (A8.free hlH) (A8.d.ne hlH) upd_same (by show 10 ≤ 14; decide) (fun u hu => ?_) (A9.d.up (by omega))
        rcases List.mem_append.mp hu with z | z
        · exact (us8 u z).same (SS.trans ST)
        · exact acons (vv_lst (A9.at 9 rfl) (A9.np 9 rfl) (pair_nv (Z1 A9) (Z2 A9)) (by show 2 ≤ 3; decide))
            (acons (vv_at (A9.at 7 rfl) (A9.np 7 rfl) (pair_nv (Z2 A9) (Z1 A9)) (by show 2 ≤ 3; decide))
            (acons (vv_at (ST _ _ eH) (fun z => by
                obtain ⟨ys, hys⟩ := A5.s.lst
                rw [z, hys] at eH
                cases eH) (acons (Z1 A9) (acons (Z2 A9) (acons (nv_nil (A9.np 5 rfl) (A9.at 5 rfl)) anil))) (by show 3 ≤ 3; decide))
            (acons (vv_at (A9.at 3 rfl) (A9.np 3 rfl) (acons (Z1 A9) anil) (by show 1 ≤ 3; decide))
            (acons (vv_at (A9.at 2 rfl) (A9.np 2 rfl) anil (by show 0 ≤ 3; decide))
            (acons ⟨.none, .non, val_non⟩ (acons (nt.dl A9.d.m) anil)))))) u z
end
end S2

set_option Elab.async false
set_option linter.all false
set_option maxRecDepth 100000
set_option maxHeartbeats 4000000
/-! whether papers of an own and a pick are told and judged right -/
namespace S2
open PySem PySem.W PySem.Spec PyProof.Rows L2 S1 RZ
theorem ltrs_cl (L : List Ltr) : ltrs (clD L) = L := by
  show (L.map ltD).map lt_at = L
  rw [List.map_map]
  conv => rhs; rw [← List.map_id L]
  rfl
theorem g_lot {s : Say} {x : Str} {t : Bool} {L : List Ltr} (ok : SayOk 6 8 120 40 s) (r : RchOk s (vw s x) (x, t) L) : gLot s x (clD L) t = true := by
  unfold gLot
  rw [ltrs_cl, Bool.and_eq_true]
  constructor
  · show alB (vw s x) (.tuple (L.map ltD)) = true
    rw [alB_lw, Bool.and_eq_true, List.all_eq_true]
    refine ⟨fun d hd => ?_, (rise_iff L).mpr r.up⟩
    obtain ⟨m, hm, rfl⟩ := List.mem_map.mp hd
    show lwB (vw s x) (.tuple [.str m.1, .bool m.2]) = true
    rw [lw_str (vw_nm ok x)]
    exact decide_eq_true (reach_ws ((r.mem m).mp hm))
  · unfold closB
    rw [List.all_eq_true]
    intro m hm
    refine decide_eq_true ((r.mem m).mpr ?_)
    rcases List.mem_append.mp hm with h | h
    · exact .start h
    · obtain ⟨l, hl, h⟩ := List.mem_flatMap.mp h
      exact .step ((r.mem l).mp hl) h
theorem holds_pap {s : Say} {n x : Str} {M N : List Ltr} (ok : SayOk 6 8 120 40 s) (hv : n ∈ vw s x) (r1 : RchOk s (vw s x) (x, true) M) (r2 : RchOk s (vw s x) (x, false) N) (nh : ¬ hangR s x n) : holdsB s n x (.tuple [clD M, clD N]) = true := by
  rw [holds_eq, g_lot ok r1, g_lot ok r2, ltrs_cl, ltrs_cl, decide_eq_true hv]
  cases h : hangB M N n with
  | false => rfl
  | true => exact absurd ((hangB_iff r1 r2).mp h) nh
theorem Val.rpr {d : PyData} (h : Val d) : Rpr d := ⟨h.1.s, Nat.le_trans h.1.dp (by decide), Nat.le_trans h.1.shown (by decide)⟩
theorem vv_pap {H : Hp} {p : Addr} {c : Nat} {a : Addr} {s : Say} {x : Str} {M N : List Ltr} (hs : Src H p c) (ok : SayOk 6 8 120 40 s) (pap : Pap H a s x M N) : ValV p H (.ref a) ∧ Dat H (.ref a) (.tuple [clD M, clD N]) ∧ Val (.tuple [clD M, clD N]) := by
  obtain ⟨u1, u2, ea, p1, p2, r1, r2⟩ := pap
  have D : Dat H (.ref a) (.tuple [clD M, clD N]) := .tup ea (.cons p1 (.cons p2 .nil))
  have k : keyable (.tuple [clD M, clD N]) = true := by
    show keyables [clD M, clD N] = true
    rw [keyables, keyables, keyables, keyable_cl, keyable_cl]
    rfl
  have n1 : Nice (clD M) := nice_cl (fun m hm => r1.nm ok hm) (by have := r1.len ok; omega)
  have n2 : Nice (clD N) := nice_cl (fun m hm => r2.nm ok hm) (by have := r2.len ok; omega)
  obtain ⟨ps, hp⟩ := hs.lst
  exact ⟨⟨_, dat_off hp k D, val_pair n1 n2⟩, D, val_pair n1 n2⟩
def spRight : Sp := fun vs H Q _ => ∃ (p : Addr) (c : Nat) (v : V) (s : Say) (o : Own) (x : Str), vs = [.ref p, v, .str o.1, .str x] ∧ Src H p c ∧ c ≤ 39000 ∧ Dat H v s.d ∧ SayOk 6 8 120 40 s ∧ o ∈ s.owns ∧ x ∈ s.picks ∧ ∀ H', Dr H p (c + 60) H' → Q (.bl true) H'
abbrev nRt : List Str := ["pot", "saying", "name", "pick", "named", "told", "at", "value", "held", "answer"]
section
variable {K : PySem.W.Frag}
theorem Fun.kb4 {x qual a b c d : Str} {st : Stmt} {f : Addr} {fd : FuncData} (F : Fun K x qual st f fd)
    (h : ∀ (kV doc pm : Value) (an : Option Addr) (cdv ct u v z y : Value), bindArgs (PySem.W.fnOf x qual (defArgs st) (defBody st) (defScope st) .none kV doc pm an cdv ct) ⟨[], [(d, u), (c, v), (b, z), (a, y)]⟩ = pure [(a, y), (b, z), (c, v), (d, u)]) : KB0 K fd [a, b, c, d] [d, c, b, a] List.reverse List.reverse := by
  obtain ⟨oc, od, kV, doc, pm, an, cdv, ct, osl, rfl, lk, hcd⟩ := F.ex
  refine ⟨fun s ws X l => ?_, fun r => ?_⟩
  · match ws, l with
    | [u, v, z, y], _ => exact .of_eq (h kV doc pm an cdv ct u v z y)
  · exact vals_rev r
theorem kb_idlePaper {f : Addr} {fd : FuncData} (F : Fun K "idle_paper" "idle_paper" sIdlePaper f fd) : KB0 K fd ["saying", "name", "pick"] ["pick", "name", "saying"] List.reverse List.reverse := S1.Fun.kb3 F fun _ _ _ _ _ _ _ _ _ => rfl
theorem kb_idleHolds {f : Addr} {fd : FuncData} (F : Fun K "idle_holds" "idle_holds" sIdleHolds f fd) : KB0 K fd ["saying", "name", "pick", "value"] ["value", "pick", "name", "saying"] List.reverse List.reverse := S2.Fun.kb4 F fun _ _ _ _ _ _ _ _ _ _ => rfl
end
theorem same_undel (H : Hp) (p : Addr) : Same (del H p) H := fun b u e => by
  by_cases z : b = p
  · rw [z, del_same] at e; cases e
  · rwa [del_ne z] at e
theorem or_if {c : Prop} [Decidable c] {t u : TS} {tt : TT} {D : Ends} {σ : L2.St} {H : Hp} (I : L2.St → Hp → Prop) (h1 : c → ∀ D' : Ends, (∀ σ' H', I σ' H' → D'.nx σ' H') → t D' σ H)
    (h2 : ¬ c → ∀ D' : Ends, (∀ σ' H', I σ' H' → D'.nx σ' H') → tt σ H (fun b H1 => if b = true then t D' σ H1 else u D' σ H1)) (R : ∀ σ' H', I σ' H' → D.nx σ' H') : if c then (fun b H1 => if b = true then t D σ H1 else u D σ H1) true H else tt σ H (fun b H1 => if b = true then t D σ H1 else u D σ H1) := by
  by_cases h : c
  · rw [if_pos h]
    show if true = true then _ else _
    rw [if_pos rfl]
    exact h1 h D R
  · rw [if_neg h]
    exact h2 h D R
theorem notT {A B : Prop} (h : B) : if (!true) = true then A else B := by
  rw [if_neg (by decide)]
  exact h
section
variable {P : Program} {w : World} {K : PySem.W.Frag} {mg : Str → Option Value} {base : Heap}
theorem scRt : FnScope nRt ["pot", "saying", "name", "pick"] (defScope sLRight) := ⟨rfl, rfl, rfl, by decide +kernel, rfl, by decide +kernel, by decide +kernel⟩
theorem ok_right {f fP fV fH fJ fW fS fI fA : Addr} {fd fdP fdV fdH fdJ fdW fdS fdI fdA : FuncData} (F : Fun K "_law_right" "_law_right" sLRight f fd) (Pk : Has K mg "_law_draw" sDraw ["pot", "top"] fP fdP) (Vw : Has K mg "_law_viewers" sLViewers ["saying", "pick"] fV fdV)
    (Lh : Has K mg "_law_hangs" sLHangs ["saying", "name", "pick"] fH fdH) (Ip : Has K mg "_law_is_paper" sLIsPaper ["saying", "name", "pick", "value"] fJ fdJ) (Vs : Has K mg "_law_values" sLValues ["pot", "saying", "name", "pick", "told"] fW fdW) (Sm : Has K mg "_law_same" sLSame ["told", "due"] fS fdS)
    (Pa : Has K mg "idle_paper" sIdlePaper ["saying", "name", "pick"] fI fdI) (Ho : Has K mg "idle_holds" sIdleHolds ["saying", "name", "pick", "value"] fA fdA)
    (GLH : FnOk P w K mg base CX0 3 fH fdH ["saying", "name", "pick"] spLHangs) (GIp : FnOk P w K mg base CX0 2 fJ fdJ ["saying", "name", "pick", "value"] spIsPaper) (GVs : FnOk P w K mg base CX0 3 fW fdW ["pot", "saying", "name", "pick", "told"] spValues) (GSm : FnOkG P w K mg base 1 fS fdS ["told", "due"] spLSame)
    (GPa : FnOk P w K mg base CX0 8 fI fdI ["saying", "name", "pick"] spPaperOf) (GHo : FnOk P w K mg base CX0 8 fA fdA ["saying", "name", "pick", "value"] spHolds) (B : Blt mg) (en : mg "enumerate" = none) (zr : mg "repr" = none) :
    FnOkG P w K mg base 9 f fd ["pot", "saying", "name", "pick"] spRight := by
  have GP : FnOk P w K mg base CX0 1 fP fdP ["pot", "top"] spPick := ok_pick Pk.F B
  have GV : FnOk P w K mg base CX0 1 fV fdV ["saying", "pick"] spViewers := ok_lViewers Vw.F
  refine F.okG scRt (fun vs H Q E h => ?_) (fun cdv A outer s H vs Q E hG0 hr h => ?_)
  · obtain ⟨p, c, v, sy, o, x, rfl, _⟩ := h
    rfl
  · obtain ⟨p, c, v, sy, o, x, rfl, hs, hc, D, ok, ho, hx, q⟩ := h
    have hG : (A.deeper (envOfC "_law_right" (defScope sLRight) s.heap.objs.size f cdv)).guards = some [] := hG0
    have hu : (A.deeper (envOfC "_law_right" (defScope sLRight) s.heap.objs.size f cdv)).units + 64 < cLine := hr.units
    have hr1 := hr.mono (show 1 ≤ 8 by decide)
    have hr2 := hr.mono (show 2 ≤ 8 by decide)
    have hr3 := hr.mono (show 3 ≤ 8 by decide)
    refine ⟨_, pss_cons (ps_set (i := 4) scRt.nd rfl (.inl rfl) (pe_cmpR op_eq (pe_call GP hr1 rfl Pk.g Pk.F.kp Pk.b .nil pass0 (pa_cons (pv 0) (pa_cons pe_int pa_nil))) pe_int (nomark _)))
      (pss_cons (ps_set (i := 5) scRt.nd rfl (.inl rfl) (pe_ifExp (pt_val (pv 4)) (pe_callK0 GPa hr rfl Pa.g Pa.F.kp (kb_idlePaper Pa.F) pass0 (pk_cons (pv 3) (pk_cons (pv 2) (pk_cons (pv 1) pk_nil)))) (pe_call GPa hr rfl Pa.g Pa.F.kp Pa.b .nil pass0 (pa_cons (pv 1) (pa_cons (pv 2) (pa_cons (pv 3) pa_nil))))))
      (pss_cons (ps_if (PW.pt (pw_or (pt_cmpR op_notIn_seq (pv 2) (pe_call GV hr1 rfl Vw.g Vw.F.kp Vw.b .nil pass0 (pa_cons (pv 1) (pa_cons (pv 3) pa_nil))) (by with_unfolding_all rfl))
          (pw_or1 (pt_val (pe_call GLH hr3 rfl Lh.g Lh.F.kp Lh.b .nil pass0 (pa_cons (pv 1) (pa_cons (pv 2) (pa_cons (pv 3) pa_nil))))))))
        (pss_one (ps_if (pt_cmpR op_notN (pv 5) pe_non (nomark _)) (pss_one (ps_ret pe_bl)) pss_nil))
        (pss_one (ps_if (pt_not (pt_val (pe_call GIp hr2 rfl Ip.g Ip.F.kp Ip.b .nil pass0 (pa_cons (pv 1) (pa_cons (pv 2) (pa_cons (pv 3) (pa_cons (pv 5) pa_nil))))))) (pss_one (ps_ret pe_bl)) pss_nil)))
      (pss_cons (ps_for PassesOwn.never rfl (pi_enum (by rfl) en (pa_cons (pe_call GVs hr3 rfl Vs.g Vs.F.kp Vs.b .nil pass0 (pa_cons (pv 0) (pa_cons (pv 1) (pa_cons (pv 2) (pa_cons (pv 3) (pa_cons (pv 5) pa_nil)))))) pa_nil)) (pg_tup rfl (pgs_cons (pg_name (i := 6) scRt.nd rfl (.inl rfl)) (pgs_cons (pg_name (i := 7) scRt.nd rfl (.inl rfl)) pgs_nil)))
        (pss_cons (ps_set (i := 8) scRt.nd rfl (.inl rfl) (pe_callB (call_reprD hG (by exact hu)) (by rfl) zr (by decide +kernel) (pa_cons (pv 7) pa_nil)))
        (pss_cons (ps_set (i := 9) scRt.nd rfl (.inl rfl) (pe_ifExp (pt_cmpR op_lt (pv 6) pe_int (nomark _)) (pe_callK0 GHo hr rfl Ho.g Ho.F.kp (kb_idleHolds Ho.F) pass0 (pk_cons (pv 7) (pk_cons (pv 3) (pk_cons (pv 2) (pk_cons (pv 1) pk_nil))))) pe_non))
        (pss_cons (ps_if (pt_not (pt_val (pe_callG hG GSm hr1 rfl Sm.g Sm.F.kp Sm.b (pa_cons (pe_call GHo hr rfl Ho.g Ho.F.kp Ho.b .nil pass0 (pa_cons (pv 1) (pa_cons (pv 2) (pa_cons (pv 3) (pa_cons (pv 7) pa_nil)))))
            (pa_cons (pe_call GIp hr2 rfl Ip.g Ip.F.kp Ip.b .nil pass0 (pa_cons (pv 1) (pa_cons (pv 2) (pa_cons (pv 3) (pa_cons (pv 7) pa_nil))))) pa_nil))))) (pss_one (ps_ret pe_bl)) pss_nil)
        (pss_one (ps_if (PW.pt (pw_or (PW.pt (pw_and (pt_cmpR op_lt (pv 6) pe_int (nomark _)) (pw_and1 (pt_not (pt_val (pe_callG hG GSm hr1 rfl Sm.g Sm.F.kp Sm.b (pa_cons (pv 9)
            (pa_cons (pe_call GIp hr2 rfl Ip.g Ip.F.kp Ip.b .nil pass0 (pa_cons (pv 1) (pa_cons (pv 2) (pa_cons (pv 3) (pa_cons (pv 7) pa_nil))))) pa_nil))))))))
            (pw_or1 (pt_cmpR op_ne (pe_callB (call_reprD hG (by exact hu)) (by rfl) zr (by decide +kernel) (pa_cons (pv 7) pa_nil)) (pv 8) (nomark _))))) (pss_one (ps_ret pe_bl)) pss_nil))))))
      (pss_one (ps_ret pe_bl))))), ?_⟩
    have W0 := (Wk.start hs).addR (keyable_say sy) D
    refine ⟨_, rfl, p, _, 2, rfl, W0.s, by omega, by decide, by decide, fun r u _ _ hp => ⟨rfl, ?_⟩⟩
    have W1 := W0.src hp
    refine gen_hp (F := fun G => Wk H p (c + 1) [] [(v, sy.d)] G) W1 (fun G1 W1 => ?_)
    refine ⟨_, rfl, _, rfl, ?_⟩
    refine ite_te (fun t G => Same G1 G ∧ (((o.1 ∉ vw sy x ∨ hangR sy x o.1) ∧ t = .non) ∨ (o.1 ∈ vw sy x ∧ ¬ hangR sy x o.1 ∧ ∃ (a : Addr) (M N : List Ltr), t = .ref a ∧ Pap G a sy x M N))) (fun t G2 ⟨S2, ht⟩ => ?_) (fun _ R => ?_) (fun _ R => ?_)
    · have W2 := W1.same S2
      refine ⟨_, rfl, _, rfl, _, rfl, v, sy, x, rfl, datS_of (W2.row 0 rfl), ok, fun lv H3 S3 hlv ev => ?_⟩
      refine ⟨lv, _, rfl, .inl (SqL.of ev), rfl, flat_strs _, _, rfl, ?_⟩
      have W3 := W2.same S3
      show if (!inV (V.str o.1) ((vw sy x).map V.str)) = true then _ else _
      rw [inV_str]
      refine or_if (fun σ' G => σ' = [some (.ref p), some v, some (.str o.1), some (.str x), some (.bl (decide (V.int r = V.int 0))), some t, none, none, none, none] ∧ Same H3 G) (fun hn D' k => ?_) (fun hn D' k => ?_) ?_
      · have e : t = .non := by
          rcases ht with ⟨_, e⟩ | ⟨e, _⟩
          · exact e
          · rw [decide_eq_true e] at hn
            exact absurd hn (by decide)
        subst e
        refine ⟨_, rfl, rfl, _, rfl, ?_⟩
        show if (!decide (V.non = V.non)) = true then _ else _
        rw [if_neg (by decide)]
        exact k _ _ ⟨rfl, Same.refl _⟩
      · have hv : o.1 ∈ vw sy x := Decidable.byContradiction fun z => hn (by rw [decide_eq_false z]; rfl)
        refine ⟨_, rfl, _, rfl, _, rfl, v, sy, o.1, x, rfl, datS_of (W3.row 0 rfl), ok, fun b H4 S4 hb => ⟨_, rfl, ?_⟩⟩
        cases b with
        | true =>
          have e : t = .non := by
            rcases ht with ⟨_, e⟩ | ⟨_, e, _⟩
            · exact e
            · exact absurd (hb.mp rfl) e
          subst e
          show if true = true then _ else _
          rw [if_pos rfl]
          refine ⟨_, rfl, rfl, _, rfl, ?_⟩
          show if (!decide (V.non = V.non)) = true then _ else _
          rw [if_neg (by decide)]
          exact k _ _ ⟨rfl, S4⟩
        | false =>
          rcases ht with ⟨z, _⟩ | ⟨_, nh, a, M, N, rfl, pap⟩
          · rcases z with z | z
            · exact absurd hv z
            · exact absurd (hb.mpr z) (by decide)
          · show if false = true then _ else _
            rw [if_neg (by decide)]
            obtain ⟨_, Da, va⟩ := vv_pap W2.s ok pap
            obtain ⟨_, _, _, _, _, r1, r2⟩ := pap
            refine ⟨_, rfl, _, rfl, _, rfl, _, rfl, v, .ref a, sy, o.1, x, _, rfl, datS_of ((W3.same S4).row 0 rfl), ok, Da.same (S3.trans S4), va.small, fun H5 S5 => ⟨_, rfl, ?_⟩⟩
            rw [holds_pap ok hv r1 r2 nh]
            refine notT ?_
            exact k _ _ ⟨rfl, S4.trans S5⟩
      · rintro σ' G3 ⟨rfl, S3'⟩
        have S23 := S3.trans S3'
        have vt : ValV p G3 t := by
          rcases ht with ⟨_, rfl⟩ | ⟨_, _, a, M, N, rfl, pap⟩
          · exact ⟨.none, .non, val_non⟩
          · exact (vv_pap W2.s ok pap).1.same S23
        have W4 := W2.same S23
        refine ⟨_, rfl, _, rfl, _, rfl, _, rfl, _, rfl, p, _, v, t, sy, o.1, x, rfl, W4.s, by omega, W4.row 0 rfl, ok, vt, fun l us H5 hl nl el lu gu d5 => ?_⟩
        have W5 := W4.trans d5
        refine ⟨l, us, rfl, SqL.of el, ?_⟩
        refine for_enum (K := K) (a := l) (xs := us) (fun i σ G => ∃ o6 o7 o8 o9 : Option V, σ = [some (.ref p), some v, some (.str o.1), some (.str x), some (.bl (decide (V.int r = V.int 0))), some t, o6, o7, o8, o9] ∧ Same H5 G) ⟨_, _, _, _, rfl, Same.refl _⟩ (fun i σ G _ ⟨_, _, _, _, _, S⟩ => SqL.of (S _ _ el)) ?_ ?_
        · rintro i y σ G T0 hy hT0 ⟨o6, o7, o8, o9, rfl, S6⟩
          obtain ⟨d, Dd0, vd⟩ := gu y (List.mem_of_getElem? hy)
          have Dd : Dat H5 y d := Dd0.same (same_undel _ _)
          have rp := vd.rpr
          have S7 := S6.trans (same_new (o := .tup [.int (i : Nat), y]) hT0)
          refine ⟨T0, _, rfl, SqT.of upd_same, rfl, _, _, rfl, _, _, rfl, rfl, ?_⟩
          generalize upd G T0 (.tup [.int (i : Nat), y]) = G7 at S7 ⊢
          refine ⟨_, rfl, y, d, rfl, Dd.same S7, rp.s, rp.d, rp.z, ?_⟩
          refine ⟨_, rfl, _, _, rfl, rfl, _, rfl, ?_⟩
          refine ite_te (fun a G' => Same G7 G' ∧ ((i : Int) < 2 → a = .bl (holdsB sy o.1 x d))) (fun a G8 ⟨S8, ha⟩ => ?_) (fun _ R => ?_) (fun h R => ?_)
          · have S08 := S7.trans S8
            refine ⟨_, rfl, _, rfl, _, rfl, _, rfl, v, y, sy, o, x, d, rfl, datS_of ((W5.same S08).row 0 rfl), ok, ho, hx, Dd.same S08, vd.small.1, fun H9 S9 => ?_⟩
            have S09 := S08.trans S9
            refine ⟨_, rfl, _, rfl, _, rfl, _, rfl, v, y, sy, o.1, x, d, rfl, datS_of ((W5.same S09).row 0 rfl), ok, Dd.same S09, vd.small, fun HA SA => ?_⟩
            have S0A := S09.trans SA
            refine ⟨.bl (holdsB sy o.1 x d), .bl (holdsB sy o.1 x d), .bool (holdsB sy o.1 x d), rfl, .bl _, .bl _, rpr_bl _, true, rfl, notT ?_⟩
            refine ⟨_, rfl, _, _, rfl, rfl, _, rfl, ?_⟩
            show if decide ((i : Int) < 2) = true then _ else _
            have fin : ∀ {G' : Hp}, (!decide (V.str d.shown = V.str d.shown)) = false := fun {_} => by rw [decide_eq_true rfl]; rfl
            by_cases hi : (i : Int) < 2
            · rw [if_pos (decide_eq_true hi)]
              cases ha hi
              refine ⟨_, rfl, _, rfl, _, rfl, _, rfl, _, rfl, v, y, sy, o.1, x, d, rfl, datS_of ((W5.same S0A).row 0 rfl), ok, Dd.same S0A, vd.small, fun HB SB => ?_⟩
              refine ⟨.bl (holdsB sy o.1 x d), .bl (holdsB sy o.1 x d), .bool (holdsB sy o.1 x d), rfl, .bl _, .bl _, rpr_bl _, true, rfl, ?_⟩
              have S0B := S0A.trans SB
              refine notT ?_
              refine ⟨_, rfl, y, d, rfl, Dd.same S0B, rp.s, rp.d, rp.z, _, rfl, rfl, _, rfl, ?_⟩
              show if (!decide (V.str d.shown = V.str d.shown)) = true then _ else _
              rw [fin (G' := HB), if_neg (by decide)]
              exact ⟨_, _, _, _, rfl, S0B⟩
            · rw [if_neg (fun z => hi (of_decide_eq_true z))]
              refine ⟨_, rfl, y, d, rfl, Dd.same S0A, rp.s, rp.d, rp.z, _, rfl, rfl, _, rfl, ?_⟩
              show if (!decide (V.str d.shown = V.str d.shown)) = true then _ else _
              rw [fin (G' := HA), if_neg (by decide)]
              exact ⟨_, _, _, _, rfl, S0A⟩
          · refine ⟨_, rfl, _, rfl, _, rfl, _, rfl, rfl, v, y, sy, o, x, d, rfl, datS_of ((W5.same S7).row 0 rfl), ok, ho, hx, Dd.same S7, vd.small.1, fun H9 S9 => R _ _ ⟨S9, fun _ => rfl⟩⟩
          · exact R _ _ ⟨Same.refl _, fun z => absurd (decide_eq_true z) h⟩
        · rintro σ G ⟨o6, o7, o8, o9, rfl, S6⟩
          exact q _ (((W4.d.trans d5).same S6).up (by omega))
    · refine ⟨_, rfl, _, rfl, _, rfl, rfl, v, sy, o, x, rfl, datS_of (W1.row 0 rfl), ok, ho, hx, fun z H' S => R _ _ ⟨S, .inl ⟨z, rfl⟩⟩, fun z1 z2 a M N H' S pap => R _ _ ⟨S, .inr ⟨z1, z2, a, M, N, rfl, pap⟩⟩⟩
    · refine ⟨_, rfl, _, rfl, _, rfl, v, sy, o, x, rfl, datS_of (W1.row 0 rfl), ok, ho, hx, fun z H' S => R _ _ ⟨S, .inl ⟨z, rfl⟩⟩, fun z1 z2 a M N H' S pap => R _ _ ⟨S, .inr ⟨z1, z2, a, M, N, rfl, pap⟩⟩⟩
end
end S2

set_option Elab.async false
set_option linter.all false
set_option maxRecDepth 100000
set_option maxHeartbeats 4000000
/-! the law -/
namespace S1
open PySem PySem.W PySem.Spec PyProof.Rows L2
def spLaw (K : PySem.W.Frag) : Sp := fun vs H Q _ => ∃ (a : Addr) (ns : List Int), vs = [.ref a] ∧ SqL K H a (ns.map V.int) ∧ ns.length ≤ 63 ∧ ∀ H', Q (.bl true) H'
end S1
namespace S2
open PySem PySem.W PySem.Spec PyProof.Rows L2 S1 RZ
theorem same_of_del {H G G' : Hp} {p : Addr} (hn : H p = none) (S : Same H G) (S2 : Same (del G p) (del G' p)) : Same H G' := fun b u e => by
  have bp : b ≠ p := ne_of_none e hn
  have z := S2 b u (by rw [del_ne bp]; exact S _ _ e)
  rwa [del_ne bp] at z
theorem plain_owns (os : List Own) : PyData.plainAll (os.map ownD) = true := by
  induction os with
  | nil => rfl
  | cons o os ih =>
    rw [List.map_cons, PyData.plainAll, ih]
    show (PyData.plainAll [.str o.1, .tuple (o.2.map PyData.str)] && true) = true
    rw [PyData.plainAll, PyData.plainAll, PyData.plainAll]
    show (true && (PyData.plainAll (o.2.map PyData.str) && true) && true) = true
    rw [plain_nms]
    rfl
theorem len_ne {ds : List PyData} (h : (!PyData.eqv (.tuple ds) (.tuple [])) = true) : 0 < ds.length := by
  cases ds with
  | nil => exact absurd h (by decide +kernel)
  | cons _ _ => exact Nat.succ_pos _
theorem and_ifE {c : Prop} [Decidable c] {tt : TT} {ta tb : TE} {σ : L2.St} {H : Hp} {Q : VK} (I : V → Hp → Prop) (h1 : c → ∀ Q' : VK, (∀ v H', I v H' → Q' v H') → tt σ H (fun b H1 => if b = true then ta σ H1 Q' else tb σ H1 Q'))
    (h2 : ¬ c → ∀ Q' : VK, (∀ v H', I v H' → Q' v H') → tb σ H Q') (R : ∀ v H', I v H' → Q v H') : if c then tt σ H (fun b H1 => if b = true then ta σ H1 Q else tb σ H1 Q) else (fun b H1 => if b = true then ta σ H1 Q else tb σ H1 Q) false H := by
  by_cases h : c
  · rw [if_pos h]
    exact h1 h Q R
  · rw [if_neg h]
    show if false = true then _ else _
    rw [if_neg (by decide)]
    exact h2 h Q R
section
variable {P : Program} {w : World} {K : PySem.W.Frag} {mg : Str → Option Value} {base : Heap}
abbrev nLaw : List Str := ["script", "k", "pot", "saying", "turn", "name", "pick"]
theorem scLaw : FnScope nLaw ["script"] (defScope sLaw) := ⟨rfl, rfl, rfl, by decide +kernel, rfl, by decide +kernel, by decide +kernel⟩
theorem ok_law {f fS fP fF fC fR : Addr} {fd fdS fdP fdF fdC fdR : FuncData} (F : Fun K "law" "law" sLaw f fd) (B : Blt mg) (en : mg "enumerate" = none) (So : Has K mg "_law_pot" sPot ["script", "k"] fS fdS) (Pk : Has K mg "_law_draw" sDraw ["pot", "top"] fP fdP)
    (Fr : Has K mg "_law_saying" sLSaying ["pot", "sizes", "clauses", "space"] fF fdF) (Cl : Has K mg "_law_chained" sLChained ["pot", "saying"] fC fdC) (Ri : Has K mg "_law_right" sLRight ["pot", "saying", "name", "pick"] fR fdR)
    (GF : FnOk P w K mg base CX0 4 fF fdF ["pot", "sizes", "clauses", "space"] spDrSay) (GC : FnOk P w K mg base CX0 2 fC fdC ["pot", "saying"] spChained)
    (GR : FnOkG P w K mg base 9 fR fdR ["pot", "saying", "name", "pick"] S2.spRight) : FnOkG P w K mg base 10 f fd ["script"] (S1.spLaw K) := by
  have GS : FnOk P w K mg base CX0 1 fS fdS ["script", "k"] (spPot K) := ok_pot So.F B en
  have GP : FnOk P w K mg base CX0 1 fP fdP ["pot", "top"] spPick := ok_pick Pk.F B
  refine F.okG scLaw (fun vs H Q E h => ?_) (fun cdv A outer s H vs Q E hG0 hr h => ?_)
  · obtain ⟨a, ns, rfl, _⟩ := h
    rfl
  · obtain ⟨a, ns, rfl, hS, hlen, q⟩ := h
    have hr1 := hr.mono (show 1 ≤ 9 by decide)
    have hr2 := hr.mono (show 2 ≤ 9 by decide)
    have hr4 := hr.mono (show 4 ≤ 9 by decide)
    have hG : (A.deeper (envOfC "law" (defScope sLaw) s.heap.objs.size f cdv)).guards = some [] := hG0
    have hu : (A.deeper (envOfC "law" (defScope sLaw) s.heap.objs.size f cdv)).units + 64 < cLine := hr.units
    refine ⟨_, pss_cons (ps_for PassesOwn.never rfl (pi_range1 rfl B.range (pa_cons (pe_callB (call_max2 rfl) (by rfl) B.max (by decide +kernel) (pa_cons pe_int (pa_cons (pe_callB (call_min2 rfl) (by rfl) B.min (by decide +kernel) (pa_cons pe_int (pa_cons (pe_callB call_len_seq (by rfl) B.len (by decide +kernel) (pa_cons (pv 0) pa_nil)) pa_nil))) pa_nil))) pa_nil)) (pg_name (i := 1) scLaw.nd rfl (Or.inl rfl))
        (pss_cons (ps_set (i := 2) scLaw.nd rfl (.inl rfl) (pe_call GS hr1 rfl So.g So.F.kp So.b .nil pass0 (pa_cons (pv 0) (pa_cons (pv 1) pa_nil))))
        (pss_cons (ps_set (i := 3) scLaw.nd rfl (.inl rfl) (pe_call GF hr4 rfl Fr.g Fr.F.kp Fr.b .nil pass0 (pa_cons (pv 2) (pa_cons (pe_lst (pa_cons pe_int (pa_cons pe_int pa_nil)))
          (pa_cons (pe_ix ix_list (pe_lst (pa_cons pe_int (pa_cons pe_int pa_nil))) (pe_call GP hr1 rfl Pk.g Pk.F.kp Pk.b .nil pass0 (pa_cons (pv 2) (pa_cons pe_int pa_nil))) (fun _ _ => rfl)) (pa_cons pe_int pa_nil))))))
        (pss_cons (ps_if (pt_cmpR op_gt (pe_call GP hr1 rfl Pk.g Pk.F.kp Pk.b .nil pass0 (pa_cons (pv 2) (pa_cons pe_int pa_nil))) pe_int (nomark _)) (pss_one (ps_set (i := 3) scLaw.nd rfl (.inl rfl) (pe_call GC hr2 rfl Cl.g Cl.F.kp Cl.b .nil pass0 (pa_cons (pv 2) (pa_cons (pv 3) pa_nil))))) pss_nil)
        (pss_one (ps_for PassesOwn.never rfl (pi_range1 rfl B.range (pa_cons (pe_ifExp (PW.pt (pw_and (pt_cmpR (op_neP (by exact hu)) (pe_ix ix_tup (pv 3) pe_int (fun _ _ => rfl)) (pe_tup pa_nil) (nomark _)) (pw_and1 (pt_cmpR (op_neP (by exact hu)) (pe_ix ix_tup (pv 3) pe_int (fun _ _ => rfl)) (pe_tup pa_nil) (nomark _))))) pe_int pe_int) pa_nil)) (pg_name (i := 4) scLaw.nd rfl (Or.inl rfl))
          (pss_cons (ps_par (i := 5) (j := 6) rfl scLaw.nd rfl rfl (by decide) rfl rfl
              (pa_cons (pe_ix ix_tup (pe_ix ix_tup (pe_ix ix_tup (pv 3) pe_int (fun _ _ => rfl)) (pe_call GP hr1 rfl Pk.g Pk.F.kp Pk.b .nil pass0 (pa_cons (pv 2) (pa_cons (pe_callB call_len_seq (by rfl) B.len (by decide +kernel) (pa_cons (pe_ix ix_tup (pv 3) pe_int (fun _ _ => rfl)) pa_nil)) pa_nil))) (fun _ _ => rfl)) pe_int (fun _ _ => rfl))
              (pa_cons (pe_ix ix_tup (pe_ix ix_tup (pv 3) pe_int (fun _ _ => rfl)) (pe_call GP hr1 rfl Pk.g Pk.F.kp Pk.b .nil pass0 (pa_cons (pv 2) (pa_cons (pe_callB call_len_seq (by rfl) B.len (by decide +kernel) (pa_cons (pe_ix ix_tup (pv 3) pe_int (fun _ _ => rfl)) pa_nil)) pa_nil))) (fun _ _ => rfl)) pa_nil)) (by with_unfolding_all rfl))
          (pss_one (ps_if (pt_not (pt_val (pe_callG hG GR hr rfl Ri.g Ri.F.kp Ri.b (pa_cons (pv 2) (pa_cons (pv 3) (pa_cons (pv 5) (pa_cons (pv 6) pa_nil))))))) (pss_one (ps_ret pe_bl)) pss_nil)))))))))
      (pss_one (ps_ret pe_bl)), ?_⟩
    refine ⟨_, rfl, a, _, rfl, .inl hS, _, _, rfl, _, _, rfl, _, rfl, ?_, ?_, ?_⟩
    · repeat' split <;> omega
    · repeat' split <;> omega
    refine for_range (lo := 0) (fun i σ H' => ∃ v1 v2 v3 v4 v5 v6 : Option V, σ = [some (.ref a), v1, v2, v3, v4, v5, v6] ∧ Same H H') ⟨_, _, _, _, _, _, rfl, Same.refl _⟩ ?_ ?_
    · rintro i σ H1 hi ⟨v1, v2, v3, v4, v5, v6, rfl, s1⟩
      have hi2 : (i : Int) < 1000 := by
        have : (i : Nat) < 1000 := Nat.lt_of_lt_of_le hi (by repeat' split <;> omega)
        omega
      refine ⟨_, rfl, _, rfl, a, ns, _, rfl, s1.seq hS, hlen, by omega, by omega, fun p H2 hp s2 P2 => ?_⟩
      have S02 := s1.trans s2
      have hp0 : H p = none := s1.free hp
      have W0 := Wk.start P2
      refine ⟨_, rfl, (by show 2 ≤ sizeLine; decide), fun z hz => ⟨(by show 2 ≤ sizeLine; decide), fun l2 hl2 => ?_⟩⟩
      have W1 := W0.new (o := .lst [.int 6, .int 8]) hz
      have W2 := W1.new (o := .lst ([8, 30].map V.int)) hl2
      refine ⟨_, rfl, p, _, 2, rfl, W2.s, by omega, by decide, by decide, fun r o r0 r1 hp1 => ?_⟩
      have W3 := W2.src hp1
      obtain ⟨vv, hv, hm4, _⟩ := at_ok (xs := ([8, 30] : List Int).map V.int) r0 (by simpa using r1)
      obtain ⟨sh, hsh, rfl⟩ := List.mem_map.mp hm4
      obtain ⟨d, hd, hd40⟩ : ∃ d : Nat, sh = (d : Int) ∧ d ≤ 40 := by
        simp only [List.mem_cons, List.not_mem_nil, or_false] at hsh
        rcases hsh with h | h
        · exact ⟨8, h, by decide⟩
        · exact ⟨30, h, by decide⟩
      subst hd
      refine ⟨l2, _, r, _, rfl, rfl, SqL.of (W3.at 0 rfl), hv, p, z, _, 6, 8, 120, d, rfl, W3.s, by omega, W3.at 1 rfl, W3.np 1 rfl, by decide, by decide, by decide, by decide, by decide, by decide, hd40, fun v sy H4 Ds ok d4 => ?_⟩
      have W4 := ((W3.trans d4).addR (keyable_say sy) Ds).sub (F' := []) (.cons _ (.cons _ .slnil))
      refine ⟨_, rfl, p, _, 3, rfl, W4.s, by omega, by decide, by decide, fun r2 o2 r20 r21 hp2 => ⟨_, _, rfl, rfl, _, rfl, ?_⟩⟩
      have W5 := W4.src hp2
      have okS := ok.le (Nat.le_refl 6) (Nat.le_refl 8) (Nat.le_refl 120) hd40
      refine branchH (fun G => Wk H2 p (0 + 1 + 5000 + 1) [] [(v, sy.d)] G) W5 (fun σ' G => ∃ (v : V) (sy : Say), σ' = [some (.ref a), some (.int (0 + (i : Int))), some (.ref p), some v, v4, v5, v6] ∧ SayOk 6 8 120 40 sy ∧ Wk H2 p 6000 [] [(v, sy.d)] G) ?_ (fun _ G W R => ?_) (fun _ G W R => R _ _ ⟨v, sy, rfl, okS, W.up (by omega)⟩)
      · rintro σ' G ⟨v, sy, rfl, ok, W⟩
        obtain ⟨a1, b1, p1, c1, us, rfl, e1, D1, D2, eb1, Du, D3⟩ := S2.say_at (W.row 0 rfl)
        obtain ⟨a4, rfl, e4⟩ := nms_at D1
        have W0 : Wk H2 p 6000 [(a1, .tup [.ref a4, .ref b1, c1])] [(.ref a1, sy.d), (.ref a4, nmsD sy.picks), (.ref b1, .tuple (sy.owns.map ownD))] G := (((W.addR (keyable_owns sy.owns) D2).addR (keyable_nms sy.picks) D1).rows fun z hz => .inl (by simp only [List.mem_cons, List.not_mem_nil, or_false] at hz ⊢; rcases hz with h | h | h <;> simp [h])).know e1 (fun z => by
          obtain ⟨ys, hys⟩ := W.s.lst
          rw [z, hys] at e1
          cases e1) fun y hy => absurd hy (by simp)
        refine ⟨_, rfl, a1, _, 0, _, rfl, rfl, SqT.of e1, rfl, Nat.zero_le _, fun te hte => ?_⟩
        have W1 := W0.new (o := .tup ([] : List V)) hte
        refine ⟨nmsD sy.picks, .tuple [], W1.row 1 rfl, .tup (W1.at 0 rfl) .nil, plain_nms _, rfl, by have := depth_nms sy.picks; omega, _, rfl, ?_⟩
        refine and_ifE (fun y G' => ∃ n : Nat, y = .int n ∧ n ≤ 12 ∧ (0 < n → 0 < sy.picks.length ∧ 0 < sy.owns.length) ∧ Wk H2 p 6000 [(a1, .tup [.ref a4, .ref b1, c1])] [(.ref a1, sy.d), (.ref a4, nmsD sy.picks), (.ref b1, .tuple (sy.owns.map ownD))] G') (fun h1 Q' k => ?_) (fun _ Q' k => k _ _ ⟨0, rfl, by decide, fun z => absurd z (by decide), W1.sub (.cons _ (.refl _))⟩) ?_
        · have n1 : 0 < sy.picks.length := by
            have z := len_ne h1
            rwa [List.length_map] at z
          refine ⟨_, rfl, a1, _, 1, _, rfl, rfl, SqT.of ((same_new hte) _ _ e1), rfl, Nat.zero_le _, fun tf htf => ?_⟩
          have W2 := W1.new (o := .tup ([] : List V)) htf
          refine ⟨.tuple (sy.owns.map ownD), .tuple [], W2.row 2 rfl, .tup (W2.at 0 rfl) .nil, plain_owns _, rfl, ?_, _, rfl, ?_⟩
          · have := depths_map ownD 2 depth_own sy.owns
            simp only [PyData.depth]
            omega
          have W3 := W2.sub (F' := [(a1, .tup [.ref a4, .ref b1, c1])]) (.cons _ (.cons _ (.refl _)))
          refine ite2 (fun h2 => ?_) (fun _ => k _ _ ⟨0, rfl, by decide, fun z => absurd z (by decide), W3⟩)
          have z := len_ne h2
          rw [List.length_map] at z
          exact k _ _ ⟨12, rfl, by decide, fun _ => ⟨n1, z⟩, W3⟩
        · rintro y G' ⟨n, rfl, hn, hpos, W⟩
          refine ⟨_, rfl, by omega, by omega, ?_⟩
          refine for_range (lo := 0) (fun j σ G => ∃ v4 v5 v6 : Option V, σ = [some (.ref a), some (.int (0 + (i : Int))), some (.ref p), some (.ref a1), v4, v5, v6] ∧ Wk H2 p (6000 + 70 * j) [(a1, .tup [.ref a4, .ref b1, c1])] [(.ref a1, sy.d), (.ref a4, nmsD sy.picks), (.ref b1, .tuple (sy.owns.map ownD))] G)
            ⟨_, _, _, rfl, W⟩ ?_ ?_
          · rintro j σ G hj ⟨v4, v5, v6, rfl, W⟩
            have hj12 : j < 12 := by omega
            obtain ⟨l1, l2⟩ := hpos (by omega)
            obtain ⟨us, eb, Du⟩ := tup_at (W.row 2 rfl)
            have lu : us.length = sy.owns.length := by rw [Du.len, List.length_map]
            have lo := ok.ol
            have lp := ok.pl
            refine ⟨_, rfl, a1, _, 1, _, rfl, rfl, SqT.of (W.at 0 rfl), rfl, _, rfl, _, rfl, a1, _, 1, _, rfl, rfl, SqT.of (W.at 0 rfl), rfl, _, _, rfl, .inr (SqT.of eb), p, _, _, rfl, W.s, by omega, by omega, by omega, fun r3 o3 r30 r31 hp3 => ?_⟩
            have WA := W.src hp3
            obtain ⟨us2, eb2, Du2⟩ := tup_at (WA.row 2 rfl)
            have lu2 : us2.length = us.length := by rw [Du2.len, Du.len]
            obtain ⟨vv, hv, hm3, hx3⟩ := at_ok (xs := us2) r30 (by omega)
            obtain ⟨o, t, t', ho, rfl, g1⟩ := own_names Du2 hx3
            have om := List.mem_of_getElem? ho
            refine ⟨b1, us2, r3, _, rfl, rfl, SqT.of eb2, hv, t, _, 0, _, rfl, rfl, SqT.of g1, rfl, ?_⟩
            refine ⟨_, rfl, a1, _, 0, _, rfl, rfl, SqT.of (WA.at 0 rfl), rfl, _, rfl, _, rfl, a1, _, 0, _, rfl, rfl, SqT.of (WA.at 0 rfl), rfl, _, _, rfl, .inr (SqT.of (nms_get (WA.row 1 rfl))), p, _, _, rfl, WA.s, by omega, by rw [List.length_map]; omega, by rw [List.length_map]; omega, fun r4 o4 r40 r41 hp4 => ?_⟩
            rw [List.length_map] at r41
            have WB := WA.src hp4
            obtain ⟨vw4, hv4, hm4, _⟩ := at_ok (xs := sy.picks.map V.str) r40 (by rw [List.length_map]; exact r41)
            obtain ⟨x, hx, rfl⟩ := List.mem_map.mp hm4
            refine ⟨a4, _, r4, _, rfl, rfl, SqT.of (nms_get (WB.row 1 rfl)), hv4, ?_⟩
            refine ⟨_, _, rfl, ?_⟩
            refine ⟨_, rfl, _, rfl, _, rfl, _, rfl, p, _, .ref a1, sy, o, x, rfl, WB.s, by omega, WB.row 0 rfl, ok, om, hx, fun G9 d9 => ⟨true, rfl, S2.notT ?_⟩⟩
            exact ⟨_, _, _, rfl, (WB.trans d9).up (by omega)⟩
          · rintro σ G ⟨v4, v5, v6, rfl, W⟩
            exact ⟨_, _, _, _, _, _, rfl, same_of_del hp0 S02 W.d.m⟩
      · refine ⟨_, rfl, _, rfl, p, v, _, 6, 8, 120, d, sy, rfl, W.s, by omega, W.row 0 rfl, ok, by decide, by decide, hd40, fun v' sy' G2 D2 ok2 d2 => R _ _ ⟨v', sy', rfl, ok2, ?_⟩⟩
        exact (((W.trans d2).addR (keyable_say sy') D2).rows fun x hx => by
          cases List.mem_singleton.mp hx
          exact .inl List.mem_cons_self).up (by omega)
    · rintro σ H1 ⟨v1, v2, v3, v4, v5, v6, rfl, s1⟩
      exact q H1
end
end S2

set_option Elab.async false
set_option linter.all false
set_option maxRecDepth 100000
set_option maxHeartbeats 4000000
/-! all that the text has written -/
namespace S1
open PySem PySem.Spec PyProof.Rows L2
/-- a def of the text stands under its name at f -/
def HasE (K : PySem.W.Frag) (x : Str) (st : Stmt) (f : Addr) : Prop :=
  PySem.W.nsIn K mainGlobals x = some (some (.ref f)) ∧ (∃ (oc : Value) (od : Option Addr) (kV doc pm : Value) (an : Option Addr) (cdv ct : Value) (osl : Array (Option Value)), K.lookup f = some ⟨oc, od, .func (PySem.W.fnOf x x (defArgs st) (defBody st) (defScope st) .none kV doc pm an cdv ct), osl⟩ ∧ PySem.W.codeIn K cdv x = true) ∧ PySem.W.keepIn K (.ref f) = true
theorem has_of {K : PySem.W.Frag} {h : Heap} {mg : Str → Option Value} {x : Str} {st : Stmt} {f : Addr} {ps : List Str} (X : K.In h) (G : h.Ns mainGlobals mg) (e : HasE K x st f)
    (hb : ∀ (kV doc pm : Value) (an : Option Addr) (cdv ct : Value) (us : List Value), us.length = ps.length → bindArgs (PySem.W.fnOf x x (defArgs st) (defBody st) (defScope st) .none kV doc pm an cdv ct) ⟨us, []⟩ = pure (ps.zip us)) : ∃ fd, Has K mg x st ps f fd := by
  obtain ⟨e1, ⟨oc, od, kV, doc, pm, an, cdv, ct, osl, e2, e3⟩, e4⟩ := e
  have F := fun_mk (st := st) e2 e3 e4
  exact ⟨_, F, PySem.W.mg_of X G e1, F.binds hb⟩
theorem all_mk {l : PySem.W.OpenLaw} {w : World} {K : PySem.W.Frag} {h : Heap} {mg : Str → Option Value} {fa fL f_y_isTruth f_y_isTuple f_y_isPair f_y_isRising f_y_isName f_y_isLetter f_y_isAnyClause f_y_areNames f_y_isSight f_y_isOwn f_y_areOwns f_y_isClauseOver f_y_areClauses f_y_namesOf f_y_fitsSaying f_w_saying f_u_own f_u_pick f_o_Vw f_o_Bs f_o_Ar f_o_Pa f_o_Hb f_o_Al f_o_Ic f_o_IH f_o_IP f_o_Po f_o_Pk f_o_Nn f_o_Pt f_o_Ow f_o_Cl f_o_Sy f_o_Ch f_o_LV f_o_LR f_o_LH f_o_LB f_o_LP f_o_LW f_o_LS f_o_LN f_o_LVs f_o_Ri : Addr} {t0 t1 t2 t3 t4 t5 : Tok} (X : K.In h) (G : h.Ns mainGlobals mg) (hfa : mg "law" = some (.ref fa))
    (h_y_isTruth : HasE K "is_truth" sIsTruth f_y_isTruth)
    (h_y_isTuple : HasE K "is_tuple" sIsTuple f_y_isTuple)
    (h_y_isPair : HasE K "is_pair" sIsPair f_y_isPair)
    (h_y_isRising : HasE K "is_rising" sIsRising f_y_isRising)
    (h_y_isName : HasE K "is_name" sIsName f_y_isName)
    (h_y_isLetter : HasE K "is_letter" sIsLetter f_y_isLetter)
    (h_y_isAnyClause : HasE K "is_any_clause" sIsAnyClause f_y_isAnyClause)
    (h_y_areNames : HasE K "are_names" sAreNames f_y_areNames)
    (h_y_isSight : HasE K "is_sight" sIsSight f_y_isSight)
    (h_y_isOwn : HasE K "is_own" sIsOwn f_y_isOwn)
    (h_y_areOwns : HasE K "are_owns" sAreOwns f_y_areOwns)
    (h_y_isClauseOver : HasE K "is_clause_over" sIsClauseOver f_y_isClauseOver)
    (h_y_areClauses : HasE K "are_clauses" sAreClauses f_y_areClauses)
    (h_y_namesOf : HasE K "names_of" sNamesOf f_y_namesOf)
    (h_y_fitsSaying : HasE K "fits_saying" sFitsSaying f_y_fitsSaying)
    (h_w_saying : HasE K "want_saying" sWantSaying f_w_saying)
    (h_u_own : HasE K "want_own" sWantOwn f_u_own)
    (h_u_pick : HasE K "want_pick" sWantPick f_u_pick)
    (h_o_Vw : HasE K "viewers_of" sViewersOf f_o_Vw)
    (h_o_Bs : HasE K "letters_beside" sBeside f_o_Bs)
    (h_o_Ar : HasE K "all_reached" sAllReached f_o_Ar)
    (h_o_Pa : HasE K "paper_of" sPaperOf f_o_Pa)
    (h_o_Hb : HasE K "hangs_by" sHangsBy f_o_Hb)
    (h_o_Al : HasE K "are_letters_of" sAreLetters f_o_Al)
    (h_o_Ic : HasE K "is_closed" sIsClosed f_o_Ic)
    (h_o_IH : HasE K "idle_holds" sIdleHolds f_o_IH)
    (h_o_IP : HasE K "idle_paper" sIdlePaper f_o_IP)
    (h_o_Po : HasE K "_law_pot" sPot f_o_Po)
    (h_o_Pk : HasE K "_law_draw" sDraw f_o_Pk)
    (h_o_Nn : HasE K "_law_names" sLNames f_o_Nn)
    (h_o_Pt : HasE K "_law_part" sLPart f_o_Pt)
    (h_o_Ow : HasE K "_law_owns" sLOwns f_o_Ow)
    (h_o_Cl : HasE K "_law_clause" sLClause f_o_Cl)
    (h_o_Sy : HasE K "_law_saying" sLSaying f_o_Sy)
    (h_o_Ch : HasE K "_law_chained" sLChained f_o_Ch)
    (h_o_LV : HasE K "_law_viewers" sLViewers f_o_LV)
    (h_o_LR : HasE K "_law_reached" sLReached f_o_LR)
    (h_o_LH : HasE K "_law_hangs" sLHangs f_o_LH)
    (h_o_LB : HasE K "_law_brought" sLBrought f_o_LB)
    (h_o_LP : HasE K "_law_is_paper" sLIsPaper f_o_LP)
    (h_o_LW : HasE K "_law_wider" sLWider f_o_LW)
    (h_o_LS : HasE K "_law_same" sLSame f_o_LS)
    (h_o_LN : HasE K "_law_near" sLNear f_o_LN)
    (h_o_LVs : HasE K "_law_values" sLValues f_o_LVs)
    (h_o_Ri : HasE K "_law_right" sLRight f_o_Ri)
    (hL : HasE K "law" sLaw fL)
    (c0 : PySem.W.nsIn K mainGlobals "SMALL" = some (some (.str "abcdefghijklmnopqrstuvwxyz" t0)))
    (c1 : PySem.W.nsIn K mainGlobals "MOST_SIGNS" = some (some (.int 8 t1)))
    (c2 : PySem.W.nsIn K mainGlobals "MOST_PICKS" = some (some (.int 6 t2)))
    (c3 : PySem.W.nsIn K mainGlobals "MOST_OWNS" = some (some (.int 8 t3)))
    (c4 : PySem.W.nsIn K mainGlobals "MOST_CLAUSES" = some (some (.int 40 t4)))
    (c5 : PySem.W.nsIn K mainGlobals "MOST_COPIES" = some (some (.int 120 t5)))
    (zlen : PySem.W.nsIn K mainGlobals "len" = some none)
    (zsum : PySem.W.nsIn K mainGlobals "sum" = some none)
    (zint : PySem.W.nsIn K mainGlobals "int" = some none)
    (zmax : PySem.W.nsIn K mainGlobals "max" = some none)
    (zmin : PySem.W.nsIn K mainGlobals "min" = some none)
    (zabs : PySem.W.nsIn K mainGlobals "abs" = some none)
    (zstr : PySem.W.nsIn K mainGlobals "str" = some none)
    (zbool : PySem.W.nsIn K mainGlobals "bool" = some none)
    (zdict : PySem.W.nsIn K mainGlobals "dict" = some none)
    (zlist : PySem.W.nsIn K mainGlobals "list" = some none)
    (zset : PySem.W.nsIn K mainGlobals "set" = some none)
    (ztuple : PySem.W.nsIn K mainGlobals "tuple" = some none)
    (zsorted : PySem.W.nsIn K mainGlobals "sorted" = some none)
    (zzip : PySem.W.nsIn K mainGlobals "zip" = some none)
    (zall : PySem.W.nsIn K mainGlobals "all" = some none)
    (zrange : PySem.W.nsIn K mainGlobals "range" = some none)
    (zisinstance : PySem.W.nsIn K mainGlobals "isinstance" = some none)
    (zenumerate : PySem.W.nsIn K mainGlobals "enumerate" = some none)
    (zrepr : PySem.W.nsIn K mainGlobals "repr" = some none)
    (zany : PySem.W.nsIn K mainGlobals "any" = some none)
    : ∃ fd : FuncData, (∀ (s : Shared) (u : Value), BindsTo s fd ⟨[u], []⟩ [("script", u)]) ∧ ∀ base : Heap, K.In base → base.Ns mainGlobals mg → FnOkG l.prog w K mg base 10 fa fd ["script"] (spLaw K) := by
  obtain ⟨e1, ⟨oc, od, kV, doc, pm, an, cdv, ct, osl, e2, e3⟩, e4⟩ := hL
  have e := hfa.symm.trans (PySem.W.mg_of X G e1)
  cases e
  have FL := fun_mk (st := sLaw) e2 e3 e4
  obtain ⟨fd_y_isTruth, y_isTruth⟩ := has_of (ps := ["value"]) X G h_y_isTruth fun _ _ _ _ _ _ us hl => match us, hl with | [_], _ => rfl
  obtain ⟨fd_y_isTuple, y_isTuple⟩ := has_of (ps := ["value", "most"]) X G h_y_isTuple fun _ _ _ _ _ _ us hl => match us, hl with | [_, _], _ => rfl
  obtain ⟨fd_y_isPair, y_isPair⟩ := has_of (ps := ["value"]) X G h_y_isPair fun _ _ _ _ _ _ us hl => match us, hl with | [_], _ => rfl
  obtain ⟨fd_y_isRising, y_isRising⟩ := has_of (ps := ["parts"]) X G h_y_isRising fun _ _ _ _ _ _ us hl => match us, hl with | [_], _ => rfl
  obtain ⟨fd_y_isName, y_isName⟩ := has_of (ps := ["value"]) X G h_y_isName fun _ _ _ _ _ _ us hl => match us, hl with | [_], _ => rfl
  obtain ⟨fd_y_isLetter, y_isLetter⟩ := has_of (ps := ["value"]) X G h_y_isLetter fun _ _ _ _ _ _ us hl => match us, hl with | [_], _ => rfl
  obtain ⟨fd_y_isAnyClause, y_isAnyClause⟩ := has_of (ps := ["value"]) X G h_y_isAnyClause fun _ _ _ _ _ _ us hl => match us, hl with | [_], _ => rfl
  obtain ⟨fd_y_areNames, y_areNames⟩ := has_of (ps := ["value", "most"]) X G h_y_areNames fun _ _ _ _ _ _ us hl => match us, hl with | [_, _], _ => rfl
  obtain ⟨fd_y_isSight, y_isSight⟩ := has_of (ps := ["value", "picks"]) X G h_y_isSight fun _ _ _ _ _ _ us hl => match us, hl with | [_, _], _ => rfl
  obtain ⟨fd_y_isOwn, y_isOwn⟩ := has_of (ps := ["value", "picks"]) X G h_y_isOwn fun _ _ _ _ _ _ us hl => match us, hl with | [_, _], _ => rfl
  obtain ⟨fd_y_areOwns, y_areOwns⟩ := has_of (ps := ["value", "picks"]) X G h_y_areOwns fun _ _ _ _ _ _ us hl => match us, hl with | [_, _], _ => rfl
  obtain ⟨fd_y_isClauseOver, y_isClauseOver⟩ := has_of (ps := ["value", "names"]) X G h_y_isClauseOver fun _ _ _ _ _ _ us hl => match us, hl with | [_, _], _ => rfl
  obtain ⟨fd_y_areClauses, y_areClauses⟩ := has_of (ps := ["value", "names"]) X G h_y_areClauses fun _ _ _ _ _ _ us hl => match us, hl with | [_, _], _ => rfl
  obtain ⟨fd_y_namesOf, y_namesOf⟩ := has_of (ps := ["picks", "owns"]) X G h_y_namesOf fun _ _ _ _ _ _ us hl => match us, hl with | [_, _], _ => rfl
  obtain ⟨fd_y_fitsSaying, y_fitsSaying⟩ := has_of (ps := ["value"]) X G h_y_fitsSaying fun _ _ _ _ _ _ us hl => match us, hl with | [_], _ => rfl
  obtain ⟨fd_w_saying, w_saying⟩ := has_of (ps := ["saying"]) X G h_w_saying fun _ _ _ _ _ _ us hl => match us, hl with | [_], _ => rfl
  obtain ⟨fd_u_own, u_own⟩ := has_of (ps := ["saying", "name"]) X G h_u_own fun _ _ _ _ _ _ us hl => match us, hl with | [_, _], _ => rfl
  obtain ⟨fd_u_pick, u_pick⟩ := has_of (ps := ["saying", "pick"]) X G h_u_pick fun _ _ _ _ _ _ us hl => match us, hl with | [_, _], _ => rfl
  obtain ⟨fd_o_Vw, o_Vw⟩ := has_of (ps := ["saying", "pick"]) X G h_o_Vw fun _ _ _ _ _ _ us hl => match us, hl with | [_, _], _ => rfl
  obtain ⟨fd_o_Bs, o_Bs⟩ := has_of (ps := ["saying", "viewers", "letter"]) X G h_o_Bs fun _ _ _ _ _ _ us hl => match us, hl with | [_, _, _], _ => rfl
  obtain ⟨fd_o_Ar, o_Ar⟩ := has_of (ps := ["saying", "pick", "truth"]) X G h_o_Ar fun _ _ _ _ _ _ us hl => match us, hl with | [_, _, _], _ => rfl
  obtain ⟨fd_o_Pa, o_Pa⟩ := has_of (ps := ["saying", "pick"]) X G h_o_Pa fun _ _ _ _ _ _ us hl => match us, hl with | [_, _], _ => rfl
  obtain ⟨fd_o_Hb, o_Hb⟩ := has_of (ps := ["paper", "name"]) X G h_o_Hb fun _ _ _ _ _ _ us hl => match us, hl with | [_, _], _ => rfl
  obtain ⟨fd_o_Al, o_Al⟩ := has_of (ps := ["value", "viewers"]) X G h_o_Al fun _ _ _ _ _ _ us hl => match us, hl with | [_, _], _ => rfl
  obtain ⟨fd_o_Ic, o_Ic⟩ := has_of (ps := ["saying", "viewers", "pick_letter", "letters"]) X G h_o_Ic fun _ _ _ _ _ _ us hl => match us, hl with | [_, _, _, _], _ => rfl
  obtain ⟨fd_o_IH, o_IH⟩ := has_of (ps := ["saying", "name", "pick", "value"]) X G h_o_IH fun _ _ _ _ _ _ us hl => match us, hl with | [_, _, _, _], _ => rfl
  obtain ⟨fd_o_IP, o_IP⟩ := has_of (ps := ["saying", "name", "pick"]) X G h_o_IP fun _ _ _ _ _ _ us hl => match us, hl with | [_, _, _], _ => rfl
  obtain ⟨fd_o_Po, o_Po⟩ := has_of (ps := ["script", "k"]) X G h_o_Po fun _ _ _ _ _ _ us hl => match us, hl with | [_, _], _ => rfl
  obtain ⟨fd_o_Pk, o_Pk⟩ := has_of (ps := ["pot", "top"]) X G h_o_Pk fun _ _ _ _ _ _ us hl => match us, hl with | [_, _], _ => rfl
  obtain ⟨fd_o_Nn, o_Nn⟩ := has_of (ps := ["pot", "size"]) X G h_o_Nn fun _ _ _ _ _ _ us hl => match us, hl with | [_, _], _ => rfl
  obtain ⟨fd_o_Pt, o_Pt⟩ := has_of (ps := ["pot", "items", "shares"]) X G h_o_Pt fun _ _ _ _ _ _ us hl => match us, hl with | [_, _, _], _ => rfl
  obtain ⟨fd_o_Ow, o_Ow⟩ := has_of (ps := ["pot", "picks", "names", "space"]) X G h_o_Ow fun _ _ _ _ _ _ us hl => match us, hl with | [_, _, _, _], _ => rfl
  obtain ⟨fd_o_Cl, o_Cl⟩ := has_of (ps := ["pot", "picks", "owns", "most"]) X G h_o_Cl fun _ _ _ _ _ _ us hl => match us, hl with | [_, _, _, _], _ => rfl
  obtain ⟨fd_o_Sy, o_Sy⟩ := has_of (ps := ["pot", "sizes", "clauses", "space"]) X G h_o_Sy fun _ _ _ _ _ _ us hl => match us, hl with | [_, _, _, _], _ => rfl
  obtain ⟨fd_o_Ch, o_Ch⟩ := has_of (ps := ["pot", "saying"]) X G h_o_Ch fun _ _ _ _ _ _ us hl => match us, hl with | [_, _], _ => rfl
  obtain ⟨fd_o_LV, o_LV⟩ := has_of (ps := ["saying", "pick"]) X G h_o_LV fun _ _ _ _ _ _ us hl => match us, hl with | [_, _], _ => rfl
  obtain ⟨fd_o_LR, o_LR⟩ := has_of (ps := ["saying", "pick", "truth"]) X G h_o_LR fun _ _ _ _ _ _ us hl => match us, hl with | [_, _, _], _ => rfl
  obtain ⟨fd_o_LH, o_LH⟩ := has_of (ps := ["saying", "name", "pick"]) X G h_o_LH fun _ _ _ _ _ _ us hl => match us, hl with | [_, _, _], _ => rfl
  obtain ⟨fd_o_LB, o_LB⟩ := has_of (ps := ["saying", "viewers", "letter"]) X G h_o_LB fun _ _ _ _ _ _ us hl => match us, hl with | [_, _, _], _ => rfl
  obtain ⟨fd_o_LP, o_LP⟩ := has_of (ps := ["saying", "name", "pick", "value"]) X G h_o_LP fun _ _ _ _ _ _ us hl => match us, hl with | [_, _, _, _], _ => rfl
  obtain ⟨fd_o_LW, o_LW⟩ := has_of (ps := ["pot", "saying", "pick", "lot"]) X G h_o_LW fun _ _ _ _ _ _ us hl => match us, hl with | [_, _, _, _], _ => rfl
  obtain ⟨fd_o_LS, o_LS⟩ := has_of (ps := ["told", "due"]) X G h_o_LS fun _ _ _ _ _ _ us hl => match us, hl with | [_, _], _ => rfl
  obtain ⟨fd_o_LN, o_LN⟩ := has_of (ps := ["pot", "saying", "lot"]) X G h_o_LN fun _ _ _ _ _ _ us hl => match us, hl with | [_, _, _], _ => rfl
  obtain ⟨fd_o_LVs, o_LVs⟩ := has_of (ps := ["pot", "saying", "name", "pick", "told"]) X G h_o_LVs fun _ _ _ _ _ _ us hl => match us, hl with | [_, _, _, _, _], _ => rfl
  obtain ⟨fd_o_Ri, o_Ri⟩ := has_of (ps := ["pot", "saying", "name", "pick"]) X G h_o_Ri fun _ _ _ _ _ _ us hl => match us, hl with | [_, _, _, _], _ => rfl
  have B : Blt mg := {len := PySem.W.mg_none_of X G zlen, sum := PySem.W.mg_none_of X G zsum, int := PySem.W.mg_none_of X G zint, max := PySem.W.mg_none_of X G zmax, min := PySem.W.mg_none_of X G zmin, abs := PySem.W.mg_none_of X G zabs, str := PySem.W.mg_none_of X G zstr, bool := PySem.W.mg_none_of X G zbool, dict := PySem.W.mg_none_of X G zdict, list := PySem.W.mg_none_of X G zlist, set := PySem.W.mg_none_of X G zset, tuple := PySem.W.mg_none_of X G ztuple, sorted := PySem.W.mg_none_of X G zsorted, zip := PySem.W.mg_none_of X G zzip, all := PySem.W.mg_none_of X G zall, range := PySem.W.mg_none_of X G zrange, isi := PySem.W.mg_none_of X G zisinstance}
  have nenumerate := PySem.W.mg_none_of X G zenumerate
  have nrepr := PySem.W.mg_none_of X G zrepr
  have nany := PySem.W.mg_none_of X G zany
  have C : Cst mg := {small := ⟨_, PySem.W.mg_of X G c0⟩, signs := ⟨_, PySem.W.mg_of X G c1⟩, picks := ⟨_, PySem.W.mg_of X G c2⟩, owns := ⟨_, PySem.W.mg_of X G c3⟩, clauses := ⟨_, PySem.W.mg_of X G c4⟩, copies := ⟨_, PySem.W.mg_of X G c5⟩}
  have Y : Shp K mg := {isTruth := ⟨_, _, y_isTruth⟩, isTuple := ⟨_, _, y_isTuple⟩, isPair := ⟨_, _, y_isPair⟩, isRising := ⟨_, _, y_isRising⟩, isName := ⟨_, _, y_isName⟩, isLetter := ⟨_, _, y_isLetter⟩, isAnyClause := ⟨_, _, y_isAnyClause⟩, areNames := ⟨_, _, y_areNames⟩, isSight := ⟨_, _, y_isSight⟩, isOwn := ⟨_, _, y_isOwn⟩, areOwns := ⟨_, _, y_areOwns⟩, isClauseOver := ⟨_, _, y_isClauseOver⟩, areClauses := ⟨_, _, y_areClauses⟩, namesOf := ⟨_, _, y_namesOf⟩, fitsSaying := ⟨_, _, y_fitsSaying⟩}
  have Wn : Wnt K mg := {saying := ⟨_, _, w_saying⟩}
  have W2 : Wnt2 K mg := {own := ⟨_, _, u_own⟩, pick := ⟨_, _, u_pick⟩}
  have ev : Env1 K mg := ⟨B, C, Y⟩
  refine ⟨PySem.W.fnOf "law" "law" (defArgs sLaw) (defBody sLaw) (defScope sLaw) .none kV doc pm an cdv ct, fun s v => .of_eq rfl, fun base _ _ => ?_⟩
  have GNn : FnOk l.prog w K mg base CX0 2 _ _ ["pot", "size"] spNames := ok_names o_Nn.F o_Pk B
  have GOw : FnOk l.prog w K mg base CX0 3 _ _ ["pot", "picks", "names", "space"] spOwns := ok_owns o_Ow.F o_Pk o_Pt B nenumerate
  have GCl : FnOk l.prog w K mg base CX0 2 _ _ ["pot", "picks", "owns", "most"] spDrCl := ok_drCl o_Cl.F o_Pk B
  have GSy : FnOk l.prog w K mg base CX0 4 _ _ ["pot", "sizes", "clauses", "space"] spDrSay := ok_drSay o_Sy.F o_Pk o_Nn o_Ow o_Cl GNn GOw GCl B
  have GCh : FnOk l.prog w K mg base CX0 2 _ _ ["pot", "saying"] spChained := ok_chained o_Ch.F o_Pk B
  have GAr : FnOk l.prog w K mg base CX0 2 _ _ ["saying", "pick", "truth"] spAllReached := ok_allReached o_Ar.F B o_Vw o_Bs
  have GPa : FnOk l.prog w K mg base CX0 3 _ _ ["saying", "pick"] spPaper := ok_paperOf o_Pa.F o_Ar GAr
  have HLt : FnOk l.prog w K mg base CX0 2 _ _ ["value"] (S2.spJ S2.isLt) := S2.ok_isLetter y_isLetter.F y_isPair y_isName y_isTruth B ⟨C.small, C.signs, C.picks, C.owns, C.clauses, C.copies⟩
  have GAl : FnOk l.prog w K mg base CX0 3 _ _ ["value", "viewers"] S2.spAL := S2.ok_areLetters o_Al.F y_isLetter HLt y_isRising B
  have GIc : FnOk l.prog w K mg base CX0 2 _ _ ["saying", "viewers", "pick_letter", "letters"] S2.spClosed := S2.ok_isClosed o_Ic.F o_Bs B
  have GIH : FnOk l.prog w K mg base CX0 8 _ _ ["saying", "name", "pick", "value"] S2.spHolds := S2.ok_idleHolds o_IH.F ev Wn W2 o_Vw y_isPair o_Al GAl o_Hb o_Ic GIc nany
  have GIP : FnOk l.prog w K mg base CX0 8 _ _ ["saying", "name", "pick"] S2.spPaperOf := S2.ok_idlePaper o_IP.F ev Wn W2 o_Pa GPa o_Vw o_Hb nany
  have GLR : FnOk l.prog w K mg base CX0 2 _ _ ["saying", "pick", "truth"] spLReached := ok_lReached o_LR.F B o_LV
  have GLH : FnOk l.prog w K mg base CX0 3 _ _ ["saying", "name", "pick"] spLHangs := ok_lHangs o_LH.F o_LV o_LR GLR
  have GLP : FnOk l.prog w K mg base CX0 2 _ _ ["saying", "name", "pick", "value"] S2.spIsPaper := S2.ok_isPaper o_LP.F o_LV o_LB B
  have GLW : FnOk l.prog w K mg base CX0 2 _ _ ["pot", "saying", "pick", "lot"] S2.spWider := S2.ok_wider o_LW.F o_Pk o_LV o_LB B
  have GLS : FnOkG l.prog w K mg base 1 _ _ ["told", "due"] spLSame := ok_lSame o_LS.F nrepr
  have GLN : FnOk l.prog w K mg base CX0 2 _ _ ["pot", "saying", "lot"] S2.spNear := S2.ok_near o_LN.F o_Pk B
  have GLVs : FnOk l.prog w K mg base CX0 3 _ _ ["pot", "saying", "name", "pick", "told"] S2.spValues := S2.ok_values o_LVs.F o_LR GLR o_LN GLN o_LV o_LW GLW B
  have GRi : FnOkG l.prog w K mg base 9 _ _ ["pot", "saying", "name", "pick"] S2.spRight := S2.ok_right o_Ri.F o_Pk o_LV o_LH o_LP o_LVs o_LS o_IP o_IH GLH GLP GLVs GLS GIP GIH B nenumerate nrepr
  exact S2.ok_law FL B nenumerate o_Po o_Pk o_Sy o_Ch o_Ri GSy GCh GRi
theorem walk {l : PySem.W.OpenLaw} {q : Program} {loose : List Str} {XP : (Str → Option Value) → Heap → Prop} {YP : World → Heap → Prop} {d : DefRec} {K : Params → PySem.W.Frag} (hn : l.most = some 63) (hdf : d.params.defaults = []) (hY : ∀ (w : World) (h : Heap), YP w h → (K w.params).In h)
    (F : ∀ (w : World) (mg : Str → Option Value) (fa : Addr) (h : Heap), (K w.params).In h → h.Ns mainGlobals mg → mg d.name = some (.ref fa) →
      ∃ fd : FuncData, (∀ (s : Shared) (u : Value), BindsTo s fd ⟨[u], []⟩ [("script", u)]) ∧ ∀ base : Heap, (K w.params).In base → base.Ns mainGlobals mg → FnOkG l.prog w (K w.params) mg base 10 fa fd ["script"] (spLaw (K w.params))) :
    PySem.W.WalkO q loose XP YP l.row.toRowW d [] (fun f vs => PySem.call f vs) :=
  walk_ofG (n := 63) (k := 10) (sp := spLaw) hn (by decide) hdf ⟨rfl, by decide, by decide⟩ hY F fun _ _ a ns hl _ hS => ⟨a, ns, rfl, hS, hl, fun _ => rfl⟩
end S1

open PySem PySem.W PyProof.Rows
set_option maxRecDepth 100000 in
set_option maxHeartbeats 0 in
theorem PySem.Challenge.cw_onlyseen_k13_papers_of_idle_sights_holds : PySem.Challenge.rw_onlyseen_k13_papers_of_idle_sights.Holds := by
  w_on; o_law; k_head; (case hw => w_witness2)
  k_fill
  refine S1.walk (l := PySem.Challenge.rw_onlyseen_k13_papers_of_idle_sights) rfl rfl (fun w h Y => PySem.W.kIn_of Y) ?F
  case F =>
    intro w mg fa h KX G hmg
    refine' S1.all_mk KX G hmg ?h_y_isTruth ?h_y_isTuple ?h_y_isPair ?h_y_isRising ?h_y_isName ?h_y_isLetter ?h_y_isAnyClause ?h_y_areNames ?h_y_isSight ?h_y_isOwn ?h_y_areOwns ?h_y_isClauseOver ?h_y_areClauses ?h_y_namesOf ?h_y_fitsSaying ?h_w_saying ?h_u_own ?h_u_pick ?h_o_Vw ?h_o_Bs ?h_o_Ar ?h_o_Pa ?h_o_Hb ?h_o_Al ?h_o_Ic ?h_o_IH ?h_o_IP ?h_o_Po ?h_o_Pk ?h_o_Nn ?h_o_Pt ?h_o_Ow ?h_o_Cl ?h_o_Sy ?h_o_Ch ?h_o_LV ?h_o_LR ?h_o_LH ?h_o_LB ?h_o_LP ?h_o_LW ?h_o_LS ?h_o_LN ?h_o_LVs ?h_o_Ri ?hL ?c0 ?c1 ?c2 ?c3 ?c4 ?c5 ?zlen ?zsum ?zint ?zmax ?zmin ?zabs ?zstr ?zbool ?zdict ?zlist ?zset ?ztuple ?zsorted ?zzip ?zall ?zrange ?zisinstance ?zenumerate ?zrepr ?zany
    (case h_y_isTruth => exact ⟨by k_is, ⟨_, _, _, _, _, _, _, _, _, by k_is, by k_is⟩, by k_is⟩)
    (case h_y_isTuple => exact ⟨by k_is, ⟨_, _, _, _, _, _, _, _, _, by k_is, by k_is⟩, by k_is⟩)
    (case h_y_isPair => exact ⟨by k_is, ⟨_, _, _, _, _, _, _, _, _, by k_is, by k_is⟩, by k_is⟩)
    (case h_y_isRising => exact ⟨by k_is, ⟨_, _, _, _, _, _, _, _, _, by k_is, by k_is⟩, by k_is⟩)
    (case h_y_isName => exact ⟨by k_is, ⟨_, _, _, _, _, _, _, _, _, by k_is, by k_is⟩, by k_is⟩)
    (case h_y_isLetter => exact ⟨by k_is, ⟨_, _, _, _, _, _, _, _, _, by k_is, by k_is⟩, by k_is⟩)
    (case h_y_isAnyClause => exact ⟨by k_is, ⟨_, _, _, _, _, _, _, _, _, by k_is, by k_is⟩, by k_is⟩)
    (case h_y_areNames => exact ⟨by k_is, ⟨_, _, _, _, _, _, _, _, _, by k_is, by k_is⟩, by k_is⟩)
    (case h_y_isSight => exact ⟨by k_is, ⟨_, _, _, _, _, _, _, _, _, by k_is, by k_is⟩, by k_is⟩)
    (case h_y_isOwn => exact ⟨by k_is, ⟨_, _, _, _, _, _, _, _, _, by k_is, by k_is⟩, by k_is⟩)
    (case h_y_areOwns => exact ⟨by k_is, ⟨_, _, _, _, _, _, _, _, _, by k_is, by k_is⟩, by k_is⟩)
    (case h_y_isClauseOver => exact ⟨by k_is, ⟨_, _, _, _, _, _, _, _, _, by k_is, by k_is⟩, by k_is⟩)
    (case h_y_areClauses => exact ⟨by k_is, ⟨_, _, _, _, _, _, _, _, _, by k_is, by k_is⟩, by k_is⟩)
    (case h_y_namesOf => exact ⟨by k_is, ⟨_, _, _, _, _, _, _, _, _, by k_is, by k_is⟩, by k_is⟩)
    (case h_y_fitsSaying => exact ⟨by k_is, ⟨_, _, _, _, _, _, _, _, _, by k_is, by k_is⟩, by k_is⟩)
    (case h_w_saying => exact ⟨by k_is, ⟨_, _, _, _, _, _, _, _, _, by k_is, by k_is⟩, by k_is⟩)
    (case h_u_own => exact ⟨by k_is, ⟨_, _, _, _, _, _, _, _, _, by k_is, by k_is⟩, by k_is⟩)
    (case h_u_pick => exact ⟨by k_is, ⟨_, _, _, _, _, _, _, _, _, by k_is, by k_is⟩, by k_is⟩)
    (case h_o_Vw => exact ⟨by k_is, ⟨_, _, _, _, _, _, _, _, _, by k_is, by k_is⟩, by k_is⟩)
    (case h_o_Bs => exact ⟨by k_is, ⟨_, _, _, _, _, _, _, _, _, by k_is, by k_is⟩, by k_is⟩)
    (case h_o_Ar => exact ⟨by k_is, ⟨_, _, _, _, _, _, _, _, _, by k_is, by k_is⟩, by k_is⟩)
    (case h_o_Pa => exact ⟨by k_is, ⟨_, _, _, _, _, _, _, _, _, by k_is, by k_is⟩, by k_is⟩)
    (case h_o_Hb => exact ⟨by k_is, ⟨_, _, _, _, _, _, _, _, _, by k_is, by k_is⟩, by k_is⟩)
    (case h_o_Al => exact ⟨by k_is, ⟨_, _, _, _, _, _, _, _, _, by k_is, by k_is⟩, by k_is⟩)
    (case h_o_Ic => exact ⟨by k_is, ⟨_, _, _, _, _, _, _, _, _, by k_is, by k_is⟩, by k_is⟩)
    (case h_o_IH => exact ⟨by k_is, ⟨_, _, _, _, _, _, _, _, _, by k_is, by k_is⟩, by k_is⟩)
    (case h_o_IP => exact ⟨by k_is, ⟨_, _, _, _, _, _, _, _, _, by k_is, by k_is⟩, by k_is⟩)
    (case h_o_Po => exact ⟨by k_is, ⟨_, _, _, _, _, _, _, _, _, by k_is, by k_is⟩, by k_is⟩)
    (case h_o_Pk => exact ⟨by k_is, ⟨_, _, _, _, _, _, _, _, _, by k_is, by k_is⟩, by k_is⟩)
    (case h_o_Nn => exact ⟨by k_is, ⟨_, _, _, _, _, _, _, _, _, by k_is, by k_is⟩, by k_is⟩)
    (case h_o_Pt => exact ⟨by k_is, ⟨_, _, _, _, _, _, _, _, _, by k_is, by k_is⟩, by k_is⟩)
    (case h_o_Ow => exact ⟨by k_is, ⟨_, _, _, _, _, _, _, _, _, by k_is, by k_is⟩, by k_is⟩)
    (case h_o_Cl => exact ⟨by k_is, ⟨_, _, _, _, _, _, _, _, _, by k_is, by k_is⟩, by k_is⟩)
    (case h_o_Sy => exact ⟨by k_is, ⟨_, _, _, _, _, _, _, _, _, by k_is, by k_is⟩, by k_is⟩)
    (case h_o_Ch => exact ⟨by k_is, ⟨_, _, _, _, _, _, _, _, _, by k_is, by k_is⟩, by k_is⟩)
    (case h_o_LV => exact ⟨by k_is, ⟨_, _, _, _, _, _, _, _, _, by k_is, by k_is⟩, by k_is⟩)
    (case h_o_LR => exact ⟨by k_is, ⟨_, _, _, _, _, _, _, _, _, by k_is, by k_is⟩, by k_is⟩)
    (case h_o_LH => exact ⟨by k_is, ⟨_, _, _, _, _, _, _, _, _, by k_is, by k_is⟩, by k_is⟩)
    (case h_o_LB => exact ⟨by k_is, ⟨_, _, _, _, _, _, _, _, _, by k_is, by k_is⟩, by k_is⟩)
    (case h_o_LP => exact ⟨by k_is, ⟨_, _, _, _, _, _, _, _, _, by k_is, by k_is⟩, by k_is⟩)
    (case h_o_LW => exact ⟨by k_is, ⟨_, _, _, _, _, _, _, _, _, by k_is, by k_is⟩, by k_is⟩)
    (case h_o_LS => exact ⟨by k_is, ⟨_, _, _, _, _, _, _, _, _, by k_is, by k_is⟩, by k_is⟩)
    (case h_o_LN => exact ⟨by k_is, ⟨_, _, _, _, _, _, _, _, _, by k_is, by k_is⟩, by k_is⟩)
    (case h_o_LVs => exact ⟨by k_is, ⟨_, _, _, _, _, _, _, _, _, by k_is, by k_is⟩, by k_is⟩)
    (case h_o_Ri => exact ⟨by k_is, ⟨_, _, _, _, _, _, _, _, _, by k_is, by k_is⟩, by k_is⟩)
    (case hL => exact ⟨by k_is, ⟨_, _, _, _, _, _, _, _, _, by k_is, by k_is⟩, by k_is⟩)
    (case c0 => k_is)
    (case c1 => k_is)
    (case c2 => k_is)
    (case c3 => k_is)
    (case c4 => k_is)
    (case c5 => k_is)
    (case zlen => k_is)
    (case zsum => k_is)
    (case zint => k_is)
    (case zmax => k_is)
    (case zmin => k_is)
    (case zabs => k_is)
    (case zstr => k_is)
    (case zbool => k_is)
    (case zdict => k_is)
    (case zlist => k_is)
    (case zset => k_is)
    (case ztuple => k_is)
    (case zsorted => k_is)
    (case zzip => k_is)
    (case zall => k_is)
    (case zrange => k_is)
    (case zisinstance => k_is)
    (case zenumerate => k_is)
    (case zrepr => k_is)
    (case zany => k_is)
