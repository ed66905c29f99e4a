import PyProof.Rows.All
import Wide.All
import OpenK.AllK
import Wide.FinOn
import HandS.ForMost
import HandS.ExcInit
import PyProof.ReprReads
import PyProof.ReprRoads
import HandS.Conv
import KE.KExcIs
import HandS.Defaults
import HandS.Wide
import PySem.Challenge.RW_onlyseen_k00_errors_keep_their_value
set_option Elab.async false
set_option linter.all false
set_option maxRecDepth 100000
set_option maxHeartbeats 4000000
namespace PySem
namespace KwX
open Builtin Builtin.ObjectAttr PySem.HandSPX
section
variable {M : Model} {A : Around} {E : Value → Shared → Prop} {h : Heap} {g : Array GenState} {d : Drawn} {t : Nat} {os : OsState}
variable {nm q : Str} {C N : Addr} {bs bm bmB : List Value} {hdct : Bool} {sn : List Str} {sub : List Value} {ab : Bool} {col : Option Bool} {dd : Option Addr} {k0 k1 k2 k3 k5 : Option Value} {B newId initId : String}
theorem check_new_kw (F : ExcBaseFacts B newId initId bmB) (hT : ∀ X : String, bm.contains (.type X) = bmB.contains (.type X)) {kx : Str} {kv : Value} {Q : Unit → Shared → Prop}
    (hC : h.get? C = some (excClassObj nm q C N bs bm hdct sn sub ab col dd k0 k1 k2 k3 k5 newId)) (hq : Q () ⟨h, g, d, t, os⟩) : wpAny M A (checkBuiltinCall newId ⟨[.ref C], [(kx, kv)]⟩) Q E ⟨h, g, d, t, os⟩ := by
  have hcont : (Value.ref C :: bm).contains (.type B) = true := by rw [List.contains_cons, hT, F.hasB, Bool.or_true]
  have hstar := F.noStar
  simp only [checkBuiltinCall, F.newKind, F.newSplit, F.newRow]
  repeat (first | refine wpAny_loadPart_at hC ?_ | (refine wpAny_isSubtype_exc hC ?_; rw [hcont]) | refine wpAny_staticBase_exc hC ?_ | refine wpAny_madeBy_exc hC ?_ | simp only [bne_self_eq_false, Bool.false_eq_true, if_false] | wp_step)
  exact hq
end
section
variable {prog : Program} {w : World} {A : Around} {E : Value → Shared → Prop} {R : Result → Shared → Prop} {h : Heap} {g : Array GenState} {d : Drawn} {t : Nat} {os : OsState}
variable {nm q : Str} {C N : Addr} {bs bm bmB : List Value} {hdct : Bool} {sn : List Str} {sub : List Value} {ab : Bool} {col : Option Bool} {dd : Option Addr} {k0 k1 k2 k3 k5 : Option Value} {B newId initId : String}
theorem new_kw (F : ExcBaseFacts B newId initId bmB) (hT : ∀ X : String, bm.contains (.type X) = bmB.contains (.type X)) {kx : Str} {kv : Value}
    (hC : h.get? C = some (excClassObj nm q C N bs bm hdct sn sub ab col dd k0 k1 k2 k3 k5 newId))
    (hq : R (.ok (.ret (.ref (h.objs.size + 1)))) ⟨(h.push { cls := .type "tuple", data := .seq #[] }).push
      { cls := .ref C, data := .fields #[.ref h.objs.size, .none, .none, .none, .bool false, .none] }, g, d, t, os⟩) :
    codeAny (model prog w) A (.builtin newId ⟨[.ref C], [(kx, kv)]⟩) R ⟨h, g, d, t, os⟩ := by
  have hends := F.ends
  have hrest : ([] : List Value).length ≤ sizeLine := Nat.zero_le _
  have hcB : (Value.ref C :: bm).contains (.type B) = true := by rw [List.contains_cons, hT, F.hasB, Bool.or_true]
  have hcA : (Value.ref C :: bm).contains (.type "AttributeError") = false := by rw [List.contains_cons, hT, F.noAttr]; rfl
  have hcN : (Value.ref C :: bm).contains (.type "NameError") = false := by rw [List.contains_cons, hT, F.noName]; rfl
  refine codeAny_builtinAt F.entry ?_
  unfold Builtin.«BaseException.__new__»
  refine wpAt_bind ?_
  show wpAt _ _ _ (stack >>= _) _ _ _
  refine wpAt_bind (wpAt_stack fun p below => wpAt_of_wpAny ?_)
  wp_walk
  refine wpAt_of_wpAny ?_
  rw [F.owner]
  repeat (first | with_reducible refine wpAny_madeHere_exc F.canon hC ?_ | with_reducible refine wpAny_loadPart_at hC ?_ | (with_reducible refine wpAny_isSubtype_exc hC ?_; first | rw [hcB] | rw [hcA] | rw [hcN]) | wp_step)
  show R _ _
  rw [Heap.size_push]
  exact hq
theorem type_call_kw (F : ExcBaseFacts B newId initId bmB) (hT : ∀ X : String, bm.contains (.type X) = bmB.contains (.type X)) {kx : Str} {kv : Value} {fI : Addr} {Q : Fin → Shared → Prop}
    (hC : h.get? C = some (excClassObj nm q C N bs bm hdct sn sub ab col dd k0 k1 k2 k3 k5 newId))
    (hi : W.Looks (model prog w) h (typeLookup (.ref C) "__init__") (some (.ref fI))) (hb : ∀ self, W.Looks (model prog w) h (bindSpecial (.ref fI) self) (.ref fI, [self]))
    (hq : codeAny (model prog w) A (.call (.ref fI) ⟨[.ref (h.objs.size + 1)], [(kx, kv)]⟩)
      (fun r s' => match r with | .ok (.ret v) => v = .none ∧ Q (.done (.ret (.ref (h.objs.size + 1)))) s' | .ok _ => False | .error e => E e s')
      ⟨(h.push (W.kdv_tup [])).push (excO C h.objs.size), g, d, t, os⟩) :
    wpAny (model prog w) A (Builtin.«type.__call__» ⟨[.ref C], [(kx, kv)]⟩) Q E ⟨h, g, d, t, os⟩ := by
  repeat (first | with_reducible refine wpAny_loadPart_at hC ?_ | with_reducible refine wpAny_madeBy_exc hC ?_ | wp_step)
  refine codeAny_call_builtin_code (Code.quiet_builtin _ F.quiet) (check_new_kw F hT hC ?_)
  refine new_kw F hT hC ?_
  show wpAny _ _ _ _ _ _
  have k : ∀ b o, h.get? b = some o → ((h.push (W.kdv_tup [])).push (excO C h.objs.size)).get? b = some o := fun b o e => Heap.get?_push_of_some _ (Heap.get?_push_of_some _ e)
  have hC₁ := k _ _ hC
  have hget : ((h.push (W.kdv_tup [])).push (excO C h.objs.size)).get? (h.objs.size + 1) = some (excO C h.objs.size) := by heap_get
  have hcC : (Value.ref C :: bm).contains (.ref C) = true := by simp
  have i1 := hi.keeps k
  have b1 := (hb (.ref (h.objs.size + 1))).keeps k
  unfold isInstance
  repeat (first | with_reducible refine wpAny_loadPart_at hget ?_ | (with_reducible refine wpAny_isSubtype_exc hC₁ ?_; rw [hcC]) | wp_step)
  show wpAny _ _ (typeLookup (.ref C) _) _ _ _
  refine i1.at ?_
  refine wpAny_holding (wpAny_bind (b1.at ?_))
  refine wpAny_bind (wpAny_call (codeAny_mono hq fun r s' z => ?_))
  rcases r with e | (v | _ | _ | _) <;> first | exact z | exact z.elim | skip
  obtain ⟨rfl, z⟩ := z
  first
    | exact wpAny_pure (wpAny_pure z)
    | (wp_walk; exact z)
theorem call_kw (F : ExcBaseFacts B newId initId bmB) (hT : ∀ X : String, bm.contains (.type X) = bmB.contains (.type X)) {kx : Str} {kv : Value} {fI : Addr}
    (hC : h.get? C = some (excClassObj nm q C N bs bm hdct sn sub ab col dd k0 k1 k2 k3 k5 newId))
    (hi : W.Looks (model prog w) h (typeLookup (.ref C) "__init__") (some (.ref fI))) (hb : ∀ self, W.Looks (model prog w) h (bindSpecial (.ref fI) self) (.ref fI, [self]))
    (hq : codeAny (model prog w) (A.under (.builtin "type.__call__" ⟨[.ref C], [(kx, kv)]⟩)) (.call (.ref fI) ⟨[.ref (h.objs.size + 1)], [(kx, kv)]⟩) (W.InitBack (h.objs.size + 1) R)
      ⟨(h.push (W.kdv_tup [])).push (excO C h.objs.size), g, d, t, os⟩) :
    codeAny (model prog w) A (.call (.ref C) ⟨[], [(kx, kv)]⟩) R ⟨h, g, d, t, os⟩ := by
  have f1 := tc_lookup
  have f2 := tc_bind (.ref C)
  have hTy : (⟨h, g, d, t, os⟩ : Shared).TypeIs (.ref C) "type" := ⟨_, hC, rfl⟩
  refine codeAny_of_tree ?_
  show wpAny _ _ (callAny (.ref C) _) _ _ _
  repeat (any_goals (first | assumption | with_reducible refine wpAny_loadPart_at hC ?_ | wp_step))
  refine ⟨rfl, ?_⟩
  refine codeAny_call_builtin_at (Code.quiet_builtin _ (by decide +kernel)) entry_typeCall (wpAny_check_type_call_sub hC (type_call_kw F hT hC hi hb ?_))
  refine codeAny_mono hq fun r s' z => ?_
  rcases r with e | (v | _ | _ | _) <;> exact z
end
end KwX
end PySem

set_option Elab.async false
set_option linter.all false
set_option maxRecDepth 100000
set_option maxHeartbeats 4000000
namespace L2
open PySem PySem.Spec PyProof.Rows
def keyD : Key → PyData
  | .inl i => .int i
  | .inr x => .str x
mutual
inductive Dat (H : Hp) : V → PyData → Prop
  | non : Dat H .non .none
  | bl (b : Bool) : Dat H (.bl b) (.bool b)
  | int (i : Int) : Dat H (.int i) (.int i)
  | str (x : Str) : Dat H (.str x) (.str x)
  | lst {a : Addr} {xs : List V} {ds : List PyData} : H a = some (.lst xs) → DatAll H xs ds → Dat H (.ref a) (.list ds)
  | tup {a : Addr} {xs : List V} {ds : List PyData} : H a = some (.tup xs) → DatAll H xs ds → Dat H (.ref a) (.tuple ds)
  | dct {a : Addr} {kvs : List (Key × V)} {ds : List (PyData × PyData)} : H a = some (.dK kvs) → DatKv H kvs ds → Dat H (.ref a) (.dict ds)
inductive DatAll (H : Hp) : List V → List PyData → Prop
  | nil : DatAll H [] []
  | cons {v : V} {d : PyData} {vs : List V} {ds : List PyData} : Dat H v d → DatAll H vs ds → DatAll H (v :: vs) (d :: ds)
inductive DatKv (H : Hp) : List (Key × V) → List (PyData × PyData) → Prop
  | nil : DatKv H [] []
  | cons {k : Key} {v : V} {d : PyData} {kvs : List (Key × V)} {ds : List (PyData × PyData)} : Dat H v d → DatKv H kvs ds → DatKv H ((k, v) :: kvs) ((keyD k, d) :: ds)
end
mutual
theorem Dat.same {H H' : Hp} (S : Same H H') : ∀ {v : V} {d : PyData}, Dat H v d → Dat H' v d
  | _, _, .non => .non
  | _, _, .bl b => .bl b
  | _, _, .int i => .int i
  | _, _, .str x => .str x
  | _, _, .lst e h => .lst (S _ _ e) (DatAll.same S h)
  | _, _, .tup e h => .tup (S _ _ e) (DatAll.same S h)
  | _, _, .dct e h => .dct (S _ _ e) (DatKv.same S h)
theorem DatAll.same {H H' : Hp} (S : Same H H') : ∀ {vs : List V} {ds : List PyData}, DatAll H vs ds → DatAll H' vs ds
  | _, _, .nil => .nil
  | _, _, .cons h t => .cons (Dat.same S h) (DatAll.same S t)
theorem DatKv.same {H H' : Hp} (S : Same H H') : ∀ {kvs : List (Key × V)} {ds : List (PyData × PyData)}, DatKv H kvs ds → DatKv H' kvs ds
  | _, _, .nil => .nil
  | _, _, .cons h t => .cons (Dat.same S h) (DatKv.same S t)
end
theorem DatAll.snoc {H : Hp} : ∀ {vs : List V} {ds : List PyData} {v : V} {d : PyData}, DatAll H vs ds → Dat H v d → DatAll H (vs ++ [v]) (ds ++ [d])
  | _, _, _, _, .nil, h => .cons h .nil
  | _, _, _, _, .cons a t, h => .cons a (DatAll.snoc t h)
theorem DatAll.len {H : Hp} : ∀ {vs : List V} {ds : List PyData}, DatAll H vs ds → vs.length = ds.length
  | _, _, .nil => rfl
  | _, _, .cons _ t => by rw [List.length_cons, List.length_cons, DatAll.len t]
section
variable {P : Program} {w : World} {H : Hp} {h : Heap}
mutual
theorem reads_of_dat (ok : HOk P w H h) : ∀ {v : V} {d : PyData} {u : Value}, Dat H v d → RelV v u → ∃ as, Reads h u d as
  | _, _, _, .non, r => by cases (show _ = Value.none from r); exact ⟨_, .none⟩
  | _, _, _, .bl b, r => by cases (show _ = Value.bool b from r); exact ⟨_, .bool b⟩
  | _, _, _, .int i, r => by obtain ⟨t, rfl⟩ := r; exact ⟨_, .int i t⟩
  | _, _, _, .str x, r => by obtain ⟨t, rfl⟩ := r; exact ⟨_, .str x t⟩
  | _, _, _, .lst (a := a) e hh, r => by
    cases (show _ = Value.ref a from r)
    obtain ⟨_, its, n, rv, e1⟩ := (show ObjOk P w H h a (.lst _) from ok a _ e)
    obtain ⟨as, R⟩ := readsAll_of_dat ok hh rv
    exact ⟨_, .list e1 rfl rfl R⟩
  | _, _, _, .tup (a := a) e hh, r => by
    cases (show _ = Value.ref a from r)
    obtain ⟨_, its, rv, o, e1, e2, n, e3⟩ := (show ObjOk P w H h a (.tup _) from ok a _ e)
    obtain ⟨as, R⟩ := readsAll_of_dat ok hh rv
    exact ⟨_, .tuple e1 e2 e3 R⟩
  | _, _, _, .dct (a := a) e hh, r => by
    cases (show _ = Value.ref a from r)
    obtain ⟨_, _, vs, rv, o, es, ep, e1, e2, e3, e4, e5, e6⟩ := (show ObjOk P w H h a (.dK _) from ok a _ e)
    obtain ⟨⟨as, A⟩, ⟨bs, B⟩⟩ := readsKv_of_dat ok hh rv e5
    exact ⟨_, .dict e1 e2.1 e3 A B⟩
theorem readsAll_of_dat (ok : HOk P w H h) : ∀ {vs : List V} {ds : List PyData} {us : List Value}, DatAll H vs ds → Vals vs us → ∃ as, ReadsAll h us ds as
  | _, _, _, .nil, .nil => ⟨_, .nil⟩
  | _, _, _, .cons a t, .cons r q => by
    obtain ⟨as, A⟩ := reads_of_dat ok a r
    obtain ⟨bs, B⟩ := readsAll_of_dat ok t q
    exact ⟨_, .cons A B⟩
theorem readsKv_of_dat (ok : HOk P w H h) : ∀ {kvs : List (Key × V)} {ds : List (PyData × PyData)} {vs : List (Key × Value)} {es : List DictEntry}, DatKv H kvs ds → KV kvs vs → Pairs (mixKind P w) es vs →
    (∃ as, ReadsAll h (es.map (·.key)) (ds.map (·.1)) as) ∧ ∃ bs, ReadsAll h (es.map (·.val)) (ds.map (·.2)) bs
  | _, _, _, _, .nil, .nil, .nil => ⟨⟨_, .nil⟩, ⟨_, .nil⟩⟩
  | _, _, _, _, .cons (k := k) hd hq, .cons r q, .cons k1 e1 p => by
    obtain ⟨rk, rv⟩ := r
    obtain ⟨⟨as, A⟩, ⟨bs, B⟩⟩ := readsKv_of_dat ok hq q p
    obtain ⟨cs, C⟩ := reads_of_dat ok hd rv
    refine ⟨?_, ⟨_, .cons (by show Reads h (DictEntry.val _) _ _; rw [e1]; exact C) B⟩⟩
    dsimp only at rk
    subst rk
    rcases keyIs_shape k1 with ⟨i, t, ek, e⟩ | ⟨x, t, ek, e⟩
    · rw [ek]; exact ⟨_, .cons (by show Reads h (DictEntry.key _) (PyData.int i) _; rw [e]; exact .int i t) A⟩
    · rw [ek]; exact ⟨_, .cons (by show Reads h (DictEntry.key _) (PyData.str x) _; rw [e]; exact .str x t) A⟩
end
theorem reprKeys_of {as : List Addr} {d : Nat} : ∀ {kvs : List (Key × V)} {ds : List (PyData × PyData)} {vs : List (Key × Value)} {es : List DictEntry}, DatKv H kvs ds → KV kvs vs → Pairs (mixKind P w) es vs → PyData.showableAll (ds.map (·.1)) = true →
    (∀ t ∈ PyData.shownAll (ds.map (·.1)), t.length ≤ sizeLine) → ReprAllK P w as h d (es.map (·.key)) (PyData.shownAll (ds.map (·.1)))
  | _, _, _, _, .nil, .nil, .nil, _, _ => by simp only [List.map_nil, PyData.shownAll]; exact .nil
  | _, _, _, _, .cons (k := k) hd hq, .cons r q, .cons k1 e1 p, hs, hz => by
    obtain ⟨rk, rv⟩ := r
    dsimp only at rk
    subst rk
    simp only [List.map_cons, PyData.showableAll, Bool.and_eq_true] at hs
    simp only [List.map_cons, PyData.shownAll] at hz ⊢
    refine .cons ?_ (reprKeys_of hq q p hs.2 fun t ht => hz t (List.mem_cons_of_mem _ ht))
    rcases keyIs_shape k1 with ⟨i, t, ek, e⟩ | ⟨x, t, ek, e⟩
    · rw [ek] at hs ⊢
      rw [e]
      simp only [keyD, PyData.shown]
      exact .of_is (ReprIs.int t (by simpa [keyD, PyData.showable] using hs.1)) _ _ _
    · rw [ek] at hz ⊢
      rw [e]
      simp only [keyD, PyData.shown]
      exact .of_is (ReprIs.str x t (by have := hz _ (List.mem_cons_self ..); simpa only [keyD, PyData.shown] using this)) _ _ _
mutual
theorem reprK_of_dat (ok : HOk P w H h) : ∀ {v : V} {d : PyData} {u : Value}, Dat H v d → RelV v u → d.showable = true → d.shown.length ≤ sizeLine → ∃ bs, ReadAtMost h d.depth bs ∧ ReprK P w bs h d.depth u d.shown
  | _, _, _, .non, r, _, _ => by cases (show _ = Value.none from r); exact ⟨[], (fun _ h => nomatch h), by simp only [PyData.shown]; exact .of_is ReprIs.none _ _ _⟩
  | _, _, _, .bl b, r, _, _ => by cases (show _ = Value.bool b from r); exact ⟨[], (fun _ h => nomatch h), by simp only [PyData.shown]; exact .of_is (ReprIs.bool b) _ _ _⟩
  | _, _, _, .int i, r, hs, _ => by obtain ⟨t, rfl⟩ := r; exact ⟨[], (fun _ h => nomatch h), by simp only [PyData.shown]; exact .of_is (ReprIs.int t (by simpa [PyData.showable] using hs)) _ _ _⟩
  | _, _, _, .str x, r, _, hz => by obtain ⟨t, rfl⟩ := r; exact ⟨[], (fun _ h => nomatch h), by simp only [PyData.shown]; exact .of_is (ReprIs.str x t (by simpa only [PyData.shown] using hz)) _ _ _⟩
  | _, _, _, .lst (a := a) (xs := xs) (ds := ds) e hh, r, hs, hz => by
    obtain ⟨as, R0⟩ := reads_of_dat ok (Dat.lst e hh) r
    cases (show _ = Value.ref a from r)
    obtain ⟨_, its, n, rv, e1⟩ := (show ObjOk P w H h a (.lst _) from ok a _ e)
    have hz' : (listText (PyData.shownAll ds)).length ≤ sizeLine := by simpa only [PyData.shown] using hz
    obtain ⟨bs, hb, hk⟩ := reprAllK_of_dat ok hh rv (by simpa [PyData.showable] using hs) (fun t ht => Nat.le_trans (listText_mem_le ht) hz')
    have hna : a ∉ bs := not_mem_of_deeper R0 (by simp only [PyData.depth]; omega) hb
    refine ⟨a :: bs, ReadAtMost.cons R0 (by simp only [PyData.depth]; omega) hb, ?_⟩
    simp only [PyData.depth, PyData.shown]
    cases its with
    | nil =>
      cases rv
      cases hh
      simp only [PyData.shownAll, listText_nil]
      exact ReprK.listEmpty e1 rfl rfl
    | cons x l => exact ReprK.list e1 rfl rfl hna (by simpa using hk.length_eq) (fun i y e => hk.item i y (by simpa using e))
  | _, _, _, .tup (a := a) (xs := xs) (ds := ds) e hh, r, hs, hz => by
    obtain ⟨as, R0⟩ := reads_of_dat ok (Dat.tup e hh) r
    cases (show _ = Value.ref a from r)
    obtain ⟨_, its, rv, o, e1, e2, n, e3⟩ := (show ObjOk P w H h a (.tup _) from ok a _ e)
    have hz' : (tupleText (PyData.shownAll ds)).length ≤ sizeLine := by simpa only [PyData.shown] using hz
    obtain ⟨bs, hb, hk⟩ := reprAllK_of_dat ok hh rv (by simpa [PyData.showable] using hs) (fun t ht => Nat.le_trans (tupleText_mem_le ht) hz')
    have hna : a ∉ bs := not_mem_of_deeper R0 (by simp only [PyData.depth]; omega) hb
    refine ⟨a :: bs, ReadAtMost.cons R0 (by simp only [PyData.depth]; omega) hb, ?_⟩
    simp only [PyData.depth, PyData.shown]
    exact ReprK.tuple e1 e2 e3 hna (by simpa using hk)
  | _, _, _, .dct (a := a) (kvs := kvs) (ds := ds) e hh, r, hs, hz => by
    obtain ⟨as, R0⟩ := reads_of_dat ok (Dat.dct e hh) r
    cases (show _ = Value.ref a from r)
    obtain ⟨_, hsys, vs, rv, o, es, ep, e1, e2, e3, e4, e5, e6⟩ := (show ObjOk P w H h a (.dK _) from ok a _ e)
    have hz' : (dictText (PyData.shownKv ds)).length ≤ sizeLine := by simpa only [PyData.shown] using hz
    obtain ⟨hs1, hs2⟩ := PyData.showableKv_split ds (by simpa [PyData.showable] using hs)
    have k1 : ReprAllK P w [] h (PyData.depthKv ds) (es.toList.map (·.key)) (PyData.shownAll (ds.map (·.1))) := reprKeys_of hh rv e5 hs1 (fun t ht => let ⟨p, hp, hl⟩ := PyData.shownKv_key_le ds t ht; Nat.le_trans hl (Nat.le_trans (dictText_mem_le hp) hz'))
    obtain ⟨b2, hb2, k2⟩ := reprVals_of_dat ok hh rv e5 hs2 (fun t ht => let ⟨p, hp, hl⟩ := PyData.shownKv_val_le ds t ht; Nat.le_trans hl (Nat.le_trans (dictText_mem_le hp) hz'))
    have hb : ReadAtMost h (PyData.depthKv ds) b2 := hb2.mono (PyData.depthAll_vals_le ds)
    have hna : a ∉ b2 := not_mem_of_deeper R0 (by simp only [PyData.depth]; omega) hb
    refine ⟨a :: b2, ReadAtMost.cons R0 (by simp only [PyData.depth]; omega) hb, ?_⟩
    simp only [PyData.depth, PyData.shown, PyData.shownKv_eq]
    exact ReprK.dict e1 e2.1 e3 hsys hna (ReprEntriesK.of_two es.toList _ _
      (k1.more_le (fun b hb => absurd hb (by simp)) (Nat.le_refl _)) (k2.more_le (fun b hb => hb) (PyData.depthAll_vals_le ds)))
theorem reprAllK_of_dat (ok : HOk P w H h) : ∀ {vs : List V} {ds : List PyData} {us : List Value}, DatAll H vs ds → Vals vs us → PyData.showableAll ds = true → (∀ t ∈ PyData.shownAll ds, t.length ≤ sizeLine) →
    ∃ bs, ReadAtMost h (PyData.depthAll ds) bs ∧ ReprAllK P w bs h (PyData.depthAll ds) us (PyData.shownAll ds)
  | _, _, _, .nil, .nil, _, _ => ⟨[], (fun _ h => nomatch h), by simp only [PyData.shownAll]; exact .nil⟩
  | _, _, _, .cons (d := d) (ds := ds) a t, .cons r q, hs, hz => by
    have hs' : d.showable = true ∧ PyData.showableAll ds = true := by simpa [PyData.showableAll] using hs
    obtain ⟨b1, hb1, k1⟩ := reprK_of_dat ok a r hs'.1 (hz _ (by simp only [PyData.shownAll]; exact List.mem_cons_self ..))
    obtain ⟨b2, hb2, k2⟩ := reprAllK_of_dat ok t q hs'.2 (fun t ht => hz t (by simp only [PyData.shownAll]; exact List.mem_cons_of_mem _ ht))
    refine ⟨b1 ++ b2, ?_, ?_⟩
    · simp only [PyData.depthAll]
      exact (hb1.mono (Nat.le_max_left _ _)).append (hb2.mono (Nat.le_max_right _ _))
    · simp only [PyData.depthAll, PyData.shownAll]
      exact .cons ((k1.more fun b hb => List.mem_append_left _ hb).level_le (Nat.le_max_left _ _)) (k2.more_le (fun b hb => List.mem_append_right _ hb) (Nat.le_max_right _ _))
theorem reprVals_of_dat (ok : HOk P w H h) : ∀ {kvs : List (Key × V)} {ds : List (PyData × PyData)} {vs : List (Key × Value)} {es : List DictEntry}, DatKv H kvs ds → KV kvs vs → Pairs (mixKind P w) es vs → PyData.showableAll (ds.map (·.2)) = true → (∀ t ∈ PyData.shownAll (ds.map (·.2)), t.length ≤ sizeLine) →
    ∃ bs, ReadAtMost h (PyData.depthAll (ds.map (·.2))) bs ∧ ReprAllK P w bs h (PyData.depthAll (ds.map (·.2))) (es.map (·.val)) (PyData.shownAll (ds.map (·.2)))
  | _, _, _, _, .nil, .nil, .nil, _, _ => ⟨[], (fun _ h => nomatch h), by simp only [List.map_nil, PyData.shownAll]; exact .nil⟩
  | _, _, _, _, .cons (d := d) (ds := ds) a t, .cons r q, .cons k1 e1 p, hs, hz => by
    obtain ⟨rk, rv⟩ := r
    have hs' : d.showable = true ∧ PyData.showableAll (ds.map (·.2)) = true := by simpa [PyData.showableAll] using hs
    obtain ⟨b1, hb1, k1⟩ := reprK_of_dat ok a rv hs'.1 (hz _ (by simp only [List.map_cons, PyData.shownAll]; exact List.mem_cons_self ..))
    obtain ⟨b2, hb2, k2⟩ := reprVals_of_dat ok t q p hs'.2 (fun t ht => hz t (by simp only [List.map_cons, PyData.shownAll]; exact List.mem_cons_of_mem _ ht))
    refine ⟨b1 ++ b2, ?_, ?_⟩
    · simp only [List.map_cons, PyData.depthAll]
      exact (hb1.mono (Nat.le_max_left _ _)).append (hb2.mono (Nat.le_max_right _ _))
    · simp only [List.map_cons, PyData.depthAll, PyData.shownAll]
      rw [e1]
      exact .cons ((k1.more fun b hb => List.mem_append_left _ hb).level_le (Nat.le_max_left _ _)) (k2.more_le (fun b hb => List.mem_append_right _ hb) (Nat.le_max_right _ _))
end
end
section
variable {X : Cx}
def rRepr : List V → Hp → VK → Prop := fun xs H Q => ∃ v d, xs = [v] ∧ Dat H v d ∧ d.showable = true ∧ d.depth ≤ 50 ∧ d.shown.length ≤ sizeLine ∧ Q (.str d.shown) H
theorem call_reprD (hg : X.A.guards = some []) (hu : X.A.units + 64 < cLine) : CallR X (.builtin "repr") rRepr := by
  intro pins s σ H xs us Q I r h
  obtain ⟨v, d, rfl, D, hs, hd, hz, q⟩ := h
  obtain ⟨u, rfl, ru⟩ := vals1 r
  have fin : ∀ (h' : Heap) (tk tk' : Tok), (∀ b o, s.heap.get? b = some o → h'.get? b = some o) → EP X pins σ Q (.str d.shown tk') { s with heap := h', toks := tk } := fun h' tk tk' k => ⟨.str d.shown, H, I.kept (t' := tk) k, ⟨_, rfl⟩, q⟩
  have nl : ∀ {b : Addr}, Clear ([] : List Code) b := fun {b} => Clear.nil b
  cases D with
  | non =>
    cases (show _ = Value.none from ru)
    simp only [PyData.shown] at fin
    exact PySem.P.repr_of_none (fin s.heap _ _ fun _ _ e => e)
  | bl b =>
    cases (show _ = Value.bool b from ru)
    simp only [PyData.shown] at fin
    exact PySem.P.repr_of_bool (fin s.heap _ _ fun _ _ e => e)
  | int i =>
    obtain ⟨t, rfl⟩ := ru
    simp only [PyData.shown] at fin
    exact PySem.P.repr_of_int (by simpa [PyData.showable] using hs) (fin s.heap _ _ fun _ _ e => e)
  | str x =>
    obtain ⟨t, rfl⟩ := ru
    simp only [PyData.shown] at fin
    exact PySem.P.repr_of_str (fin s.heap _ _ fun _ _ e => e) (by simpa only [PyData.shown] using hz)
  | @lst a xs ds e hh =>
    obtain ⟨as, R0⟩ := reads_of_dat I.hok (Dat.lst e hh) ru
    cases (show _ = Value.ref a from ru)
    obtain ⟨_, its, n, rv, e1⟩ := (show ObjOk X.prog X.w H s.heap a (.lst _) from I.hok a _ e)
    have hz' : (listText (PyData.shownAll ds)).length ≤ sizeLine := by simpa only [PyData.shown] using hz
    obtain ⟨bs, hb, hk⟩ := reprAllK_of_dat I.hok hh rv (by simpa [PyData.showable] using hs) (fun t ht => Nat.le_trans (listText_mem_le ht) hz')
    have hna : a ∉ bs := not_mem_of_deeper R0 (by simp only [PyData.depth]; omega) hb
    simp only [PyData.shown] at fin
    simp only [PyData.depth] at hd
    refine call_repr_slot (by omega) ⟨_, e1, rfl⟩ F.slot_list_repr.toG ?_
    cases its with
    | nil =>
      cases rv
      cases hh
      simp only [PyData.shownAll, listText_nil] at fin
      exact call_list_repr_empty ⟨_, e1, rfl⟩ e1 rfl ⟨_, _, rfl, fin s.heap _ _ fun _ _ e => e⟩
    | cons x l =>
      exact call_list_reprK (h₀ := s.heap) e1 rfl rfl hna (by simpa using hk.length_eq) (fun i y e => hk.item i y (by simpa using e)) hg (fun b _ => Clear.nil b) (by show X.A.units + 1 + _ < cLine; omega) (fun _ _ e => e) (fun h' u tk k => ⟨_, _, rfl, fin h' tk u k⟩) hz'
  | @tup a xs ds e hh =>
    obtain ⟨as, R0⟩ := reads_of_dat I.hok (Dat.tup e hh) ru
    cases (show _ = Value.ref a from ru)
    obtain ⟨_, its, rv, o, e1, e2, n, e3⟩ := (show ObjOk X.prog X.w H s.heap a (.tup _) from I.hok a _ e)
    have hz' : (tupleText (PyData.shownAll ds)).length ≤ sizeLine := by simpa only [PyData.shown] using hz
    obtain ⟨bs, hb, hk⟩ := reprAllK_of_dat I.hok hh rv (by simpa [PyData.showable] using hs) (fun t ht => Nat.le_trans (tupleText_mem_le ht) hz')
    have hna : a ∉ bs := not_mem_of_deeper R0 (by simp only [PyData.depth]; omega) hb
    simp only [PyData.shown] at fin
    simp only [PyData.depth] at hd
    refine call_repr_slot (by omega) ⟨_, e1, e2⟩ F.slot_tuple_repr ?_
    exact call_tuple_reprK (h₀ := s.heap) e1 e2 e3 hna (by simpa using hk) hg (fun b _ => Clear.nil b) (by show X.A.units + 1 + _ < cLine; omega) (fun _ _ e => e) (fun h' u tk k => ⟨_, _, rfl, fin h' tk u k⟩) hz'
  | @dct a kvs ds e hh =>
    obtain ⟨as, R0⟩ := reads_of_dat I.hok (Dat.dct e hh) ru
    cases (show _ = Value.ref a from ru)
    obtain ⟨_, hsys, vs, rv, o, es, ep, e1, e2, e3, e4, e5, e6⟩ := (show ObjOk X.prog X.w H s.heap a (.dK _) from I.hok a _ e)
    have hz' : (dictText (PyData.shownKv ds)).length ≤ sizeLine := by simpa only [PyData.shown] using hz
    obtain ⟨hs1, hs2⟩ := PyData.showableKv_split ds (by simpa [PyData.showable] using hs)
    have k1 : ReprAllK X.prog X.w [] s.heap (PyData.depthKv ds) (es.toList.map (·.key)) (PyData.shownAll (ds.map (·.1))) := reprKeys_of hh rv e5 hs1 (fun t ht => let ⟨p, hp, hl⟩ := PyData.shownKv_key_le ds t ht; Nat.le_trans hl (Nat.le_trans (dictText_mem_le hp) hz'))
    obtain ⟨b2, hb2, k2⟩ := reprVals_of_dat I.hok hh rv e5 hs2 (fun t ht => let ⟨p, hp, hl⟩ := PyData.shownKv_val_le ds t ht; Nat.le_trans hl (Nat.le_trans (dictText_mem_le hp) hz'))
    have hb : ReadAtMost s.heap (PyData.depthKv ds) b2 := hb2.mono (PyData.depthAll_vals_le ds)
    have hna : a ∉ b2 := not_mem_of_deeper R0 (by simp only [PyData.depth]; omega) hb
    simp only [PyData.shown, PyData.shownKv_eq] at fin
    simp only [PyData.depth] at hd
    refine call_repr_slot (by omega) ⟨_, e1, e2.1⟩ F.slot_dict_repr ?_
    exact call_dict_reprK (h₀ := s.heap) e1 e2.1 e3 hsys hna (ReprEntriesK.of_two es.toList _ _ (k1.more_le (fun b hb => absurd hb (by simp)) (Nat.le_refl _)) (k2.more_le (fun b hb => hb) (PyData.depthAll_vals_le ds)))
      hg (fun b _ => Clear.nil b) (by show X.A.units + 1 + _ < cLine; omega) (fun _ _ e => e) (fun h' u tk k => ⟨_, _, rfl, fin h' tk u k⟩) (by rw [← PyData.shownKv_eq]; exact hz')
end
end L2

set_option Elab.async false
set_option linter.all false
set_option maxRecDepth 100000
set_option maxHeartbeats 4000000
namespace L2
open PySem PySem.Spec PyProof.Rows
/-- what isinstance and the field's reading ask of an error class -/
def errB (K : PySem.W.Frag) (fI C : Addr) : Bool :=
  decide (PySem.W.findIn K (.ref C) "__setattr__" = some (some (.builtin "object.__setattr__"))) && (decide (PySem.W.findIn K (.ref C) "__getattribute__" = some (some (.builtin "BaseException.__getattribute__"))) &&
  (decide (PySem.W.findIn K (.ref C) "__getattr__" = some none) && (decide (PySem.W.findIn K (.ref C) "value" = some none) && (decide (PySem.W.findIn K (.ref C) "__init__" = some (some (.ref fI))) &&
  (decide (PySem.W.subIn K (.ref C) (.type "BaseException") = some true) && (decide (PySem.W.typeIn K (.ref C) = some (.type "type")) && (PySem.W.keepIn K (.ref C) && (PySem.W.hasDictIn K C &&
  (decide (PySem.W.findIn K (.ref C) "__class__" = some (some (.builtin "object.__class__"))) && decide (PySem.W.mroIn K C (.type "object") = some true))))))))))
structure ErrC (K : PySem.W.Frag) (fI C : Addr) : Prop where
  o : OexC K C
  ga : PySem.W.findIn K (.ref C) "__getattribute__" = some (some (.builtin "BaseException.__getattribute__"))
  gg : PySem.W.findIn K (.ref C) "__getattr__" = some none
  no : PySem.W.findIn K (.ref C) "value" = some none
  iC : PySem.W.findIn K (.ref C) "__init__" = some (some (.ref fI))
  hd : PySem.W.hasDictIn K C = true
  cl : PySem.W.findIn K (.ref C) "__class__" = some (some (.builtin "object.__class__"))
  mo : PySem.W.mroIn K C (.type "object") = some true
theorem errB_ok {K : PySem.W.Frag} {fI C : Addr} (h : errB K fI C = true) (cls : ∃ nm q N bs bm sn sub ab col dd k0 k1 k2 k3 k5, K.lookup C = some (excClassObj nm q C N bs bm true sn sub ab col dd k0 k1 k2 k3 k5 "ValueError.__new__") ∧ PySem.HandSPX.refsVE bm = true) : ErrC K fI C := by
  obtain ⟨h1, h⟩ := Bool.and_eq_true_iff.mp h
  obtain ⟨h2, h⟩ := Bool.and_eq_true_iff.mp h
  obtain ⟨h3, h⟩ := Bool.and_eq_true_iff.mp h
  obtain ⟨h4, h⟩ := Bool.and_eq_true_iff.mp h
  obtain ⟨h5, h⟩ := Bool.and_eq_true_iff.mp h
  obtain ⟨h6, h⟩ := Bool.and_eq_true_iff.mp h
  obtain ⟨h7, h⟩ := Bool.and_eq_true_iff.mp h
  obtain ⟨h8, h⟩ := Bool.and_eq_true_iff.mp h
  obtain ⟨h9, h⟩ := Bool.and_eq_true_iff.mp h
  obtain ⟨h10, h11⟩ := Bool.and_eq_true_iff.mp h
  exact ⟨⟨cls, of_decide_eq_true h1, of_decide_eq_true h6, of_decide_eq_true h7, h8⟩, of_decide_eq_true h2, of_decide_eq_true h3, of_decide_eq_true h4, of_decide_eq_true h5, h9, of_decide_eq_true h10, of_decide_eq_true h11⟩
/-- an error of the class at C that keeps v stands at e, its own dict at d -/
def Err (H : Hp) (e d C : Addr) (v : V) : Prop := H e = some (exo e C (some d)) ∧ H d = some (exd d [(("value" : Str), v)])
theorem Err.same {H H' : Hp} {e d C : Addr} {v : V} (h : Err H e d C v) (S : Same H H') : Err H' e d C v := ⟨S _ _ h.1, S _ _ h.2⟩
/-- the promise of SightError.__init__ -/
def spInit (K : PySem.W.Frag) : Sp := fun vs H Q _ => ∃ (a C : Addr) (v : V), vs = [.ref a, v] ∧ OexC K C ∧ PySem.W.findIn K (.ref C) "value" = some none ∧ H a = some (exo a C none) ∧
  ∀ d, H d = none → d ≠ a → Q .non (upd (upd H d (exd d [(("value" : Str), v)])) a (exo a C (some d)))
/-- C(e), C(value=e): a new error -/
def tMkE (C : Addr) (te : TE) : TE := fun σ H Q => te σ H fun v H1 => ∀ (a d : Addr) (H2 : Hp), H1 a = none → H1 d = none → d ≠ a → Err H2 a d C v → Same H1 H2 → Q (.ref a) H2
theorem err_made {H1 : Hp} {a d C : Addr} {v : V} (na : H1 a = none) (hd : upd H1 a (exo a C none) d = none) (ne : d ≠ a) : H1 d = none ∧ Err (upd (upd (upd H1 a (exo a C none)) d (exd d [(("value" : Str), v)])) a (exo a C (some d))) a d C v ∧ Same H1 (upd (upd (upd H1 a (exo a C none)) d (exd d [(("value" : Str), v)])) a (exo a C (some d))) := by
  rw [upd_ne ne] at hd
  refine ⟨hd, ⟨upd_same, by rw [upd_ne ne, upd_same]⟩, fun b o e => ?_⟩
  rw [upd_ne (ne_of_none e na), upd_ne (ne_of_none e hd), upd_ne (ne_of_none e na)]
  exact e
section
variable {X : Cx} {fI C : Addr} {k : Nat} {fd : FuncData} {x : Str} {e : Expr} {te : TE} {p pos kp : Pos}
theorem run_err {pins : List (Addr × Obj)} {σ : St} {H1 : Hp} {Q : VK} {hp : Heap} {g : Array GenState} {d : Drawn} {t : Nat} {os : OsState} {v : V} {u : Value} {args : Args} {us : List Value} {kw : List (Str × Value)} (T : ErrC X.K fI C)
    (F1 : FnOk X.prog X.w X.K X.mg X.base CX0 k fI fd ["self", "value"] (spInit X.K)) (hr : Room (k + 1) X.A) (I1 : Inv X pins σ H1 ⟨hp, g, d, t, os⟩) (rv : RelV v u) {tp : Obj}
    (hb : ∀ s : Shared, BindsTo s fd ⟨.ref (hp.objs.size + 1) :: us, kw⟩ ((["self", "value"] : List Str).zip [Value.ref (hp.objs.size + 1), u]))
    (q : ∀ (a d : Addr) (H2 : Hp), H1 a = none → H1 d = none → d ≠ a → Err H2 a d C v → Same H1 H2 → Q (.ref a) H2) :
    codeAny (model X.prog X.w) (X.A.under (.builtin "type.__call__" ⟨.ref C :: us, kw⟩)) (.call (.ref fI) ⟨.ref (hp.objs.size + 1) :: us, kw⟩) (PySem.W.InitBack (hp.objs.size + 1) fun r s' => ∃ u, r = .ok (.ret u) ∧ EP X pins σ Q u s')
      ⟨(hp.push tp).push (PySem.HandSPX.excO C hp.objs.size), g, d, t, os⟩ := by
  have hsz : hp.objs.size ≤ hp.objs.size + 1 := Nat.le_succ _
  have hn : H1 (hp.objs.size + 1) = none := I1.hok.fresh hsz
  have kk : ∀ b o, hp.get? b = some o → ((hp.push tp).push (PySem.HandSPX.excO C hp.objs.size)).get? b = some o := fun b o e => Heap.get?_push_of_some _ (Heap.get?_push_of_some _ e)
  have hget : ((hp.push tp).push (PySem.HandSPX.excO C hp.objs.size)).get? (hp.objs.size + 1) = some (PySem.HandSPX.excO C hp.objs.size) := by heap_get
  have I2 : Inv X pins σ (upd H1 (hp.objs.size + 1) (exo (hp.objs.size + 1) C none)) ⟨(hp.push tp).push (PySem.HandSPX.excO C hp.objs.size), g, d, t, os⟩ :=
    I1.laid (t' := t) (a := hp.objs.size + 1) (o := exo (hp.objs.size + 1) C none) (h' := (hp.push tp).push (PySem.HandSPX.excO C hp.objs.size)) kk hsz (exo_ok hget)
  have r2 : Vals [V.ref (hp.objs.size + 1), v] [Value.ref (hp.objs.size + 1), u] := .cons rfl (.cons rv .nil)
  have hq : spInit X.K [V.ref (hp.objs.size + 1), v] (upd H1 (hp.objs.size + 1) (exo (hp.objs.size + 1) C none)) (fun y H2 => y = .non ∧ Q (.ref (hp.objs.size + 1)) H2) E0 :=
    ⟨_, C, v, rfl, T.o, T.no, upd_same, fun d hd ne => ⟨rfl, let ⟨z1, z2, z3⟩ := err_made hn hd ne; q _ d _ hn z1 ne z2 z3⟩⟩
  refine codeAny_mono (F1.run _ X.stack _ _ _ [Value.ref (hp.objs.size + 1), u] _ _ E0 (hr.make C us kw) (I2.env0.make C us kw) (hb _) r2 hq) fun r s' hq' => ?_
  cases r with
  | error er => exact False.elim hq'
  | ok fl =>
    cases fl with
    | ret y =>
      obtain ⟨w, H', I3, rw', ew, q3⟩ := I2.after hq'
      subst ew
      exact ⟨rw', _, rfl, V.ref (hp.objs.size + 1), H', I3, rfl, q3⟩
    | next => exact False.elim hq'
    | brk => exact False.elim hq'
    | cont => exact False.elim hq'
theorem pe_err (T : ErrC X.K fI C) (tI : PySem.W.typeIn X.K (.ref fI) = some (.type "function")) (F1 : FnOk X.prog X.w X.K X.mg X.base CX0 k fI fd ["self", "value"] (spInit X.K)) (hr : Room (k + 1) X.A)
    (hb : ∀ (s : Shared) (a u : Value), BindsTo s fd ⟨[a, u], []⟩ ((["self", "value"] : List Str).zip [a, u])) (hg : Gl X x) (hm : X.mg x = some (.ref C)) (he : PE X e te)
    (hdb : (x == ("__debug__" : Str)) = false := by decide) (hs : starEach [e] X.env = (false, eval e X.env) :: starEach [] X.env := by rfl) : PE X (.Call (.Name x p) [e] [] pos) (tMkE C te) := by
  refine ⟨fun pins s σ H Q I h => ?_⟩
  obtain ⟨nm, q, N, bs, bm, sn, sub, ab, col, dd, k0, k1, k2, k3, k5, hC, hbm⟩ := T.o.cls
  refine wpAny_Call_Name_kw (ld_glob I hg hm ?_ hdb)
  refine PySem.W.callWith_K (h₀ := X.base) I.ok.mod.kin T.o.kC ?_ hs (by rfl)
  rw [hs]
  show wpAny _ _ (spliced ((false, eval e X.env) :: backTo pos (starEach [] X.env))) _ _ s
  refine Calls.spliced_cons (thn (he.run pins s σ H _ I h) fun u s1 ⟨v, H1, I1, r1, q1⟩ => ?_)
  refine Calls.spliced_nil ⟨I1.kIn, ?_⟩
  show wpAny _ _ (call (.ref C) [u]) _ _ _
  obtain ⟨hp, g, dr, tk, os⟩ := s1
  refine wpAny_call (codeAny_mono (PySem.HandSPX.call_own F.excBase_ValueError (fun Y => PySem.HandSPX.refsVE_contains Y bm hbm) (I1.kIn _ _ hC) (PySem.W.looks_findIn I1.kIn T.iC) (fun self => PySem.W.bind_fn I1.kIn self tI) (by show 1 ≤ sizeLine; rw [sizeLine_eq]; omega)
    (run_err (kw := []) (us := [u]) (args := ⟨[], []⟩) T F1 hr I1 r1 (fun s => hb s _ u) q1)) fun r s' hq => ?_)
  obtain ⟨y, rfl, ep⟩ := hq
  exact ep
theorem pe_errK (T : ErrC X.K fI C) (tI : PySem.W.typeIn X.K (.ref fI) = some (.type "function")) (F1 : FnOk X.prog X.w X.K X.mg X.base CX0 k fI fd ["self", "value"] (spInit X.K)) (hr : Room (k + 1) X.A)
    (hb : ∀ (s : Shared) (a u : Value), BindsTo s fd ⟨[a], [("value", u)]⟩ ((["self", "value"] : List Str).zip [a, u])) (hg : Gl X x) (hm : X.mg x = some (.ref C)) (he : PE X e te)
    (hdb : (x == ("__debug__" : Str)) = false := by decide) (hall : (backToKw pos (keywordEach [⟨some "value", e, kp⟩] X.env)).all (·.1.isSome) = true := by rfl) (hks : (backToKw pos (keywordEach [⟨some "value", e, kp⟩] X.env)).filterMap (·.1) = [("value" : Str)] := by rfl)
    (hpl : ((backTo pos (starEach [] X.env)).any (·.1) || (backToKw pos (keywordEach [⟨some "value", e, kp⟩] X.env)).any (·.1.isNone)) = false := by rfl) : PE X (.Call (.Name x p) [] [⟨some "value", e, kp⟩] pos) (tMkE C te) := by
  refine ⟨fun pins s σ H Q I h => ?_⟩
  obtain ⟨nm, q, N, bs, bm, sn, sub, ab, col, dd, k0, k1, k2, k3, k5, hC, hbm⟩ := T.o.cls
  refine wpAny_Call_Name_kw (ld_glob I hg hm ?_ hdb)
  refine PySem.W.callWith_KW0 (h₀ := X.base) I.ok.mod.kin T.o.kC hall ?_ hpl
  refine thn ((pk_cons he pk_nil).run pos pins s σ H (fun vs H1 => ∃ v, vs = [v] ∧ ∀ (a d : Addr) (H2 : Hp), H1 a = none → H1 d = none → d ≠ a → Err H2 a d C v → Same H1 H2 → Q (.ref a) H2) I ?_) fun ws s2 ⟨zs, H2, I2, rz, q2⟩ => ?_
  · refine (?_ : te σ H _)
    have h' : te σ H (fun v H1 => ∀ (a d : Addr) (H2 : Hp), H1 a = none → H1 d = none → d ≠ a → Err H2 a d C v → Same H1 H2 → Q (.ref a) H2) := h
    have e : (fun (v : V) (H1 : Hp) => ∀ (a d : Addr) (H2 : Hp), H1 a = none → H1 d = none → d ≠ a → Err H2 a d C v → Same H1 H2 → Q (.ref a) H2) = (fun x H1 => tNil σ H1 fun xs H2 => ∃ v, x :: xs = [v] ∧ ∀ (a d : Addr) (H3 : Hp), H2 a = none → H2 d = none → d ≠ a → Err H3 a d C v → Same H2 H3 → Q (.ref a) H3) := by
      funext v H1
      refine propext ⟨fun z => ⟨v, rfl, z⟩, fun ⟨w, e, z⟩ => ?_⟩
      cases e
      exact z
    rw [e] at h'
    exact h'
  · obtain ⟨v, rfl, q1⟩ := q2
    obtain ⟨u, rfl, r1⟩ := vals1 rz
    refine ⟨I2.kIn, ?_⟩
    rw [hks]
    show wpAny _ _ (call (.ref C) [] [(("value" : Str), u)]) _ _ _
    obtain ⟨hp, g, dr, tk, os⟩ := s2
    refine wpAny_call (codeAny_mono (PySem.KwX.call_kw F.excBase_ValueError (fun Y => PySem.HandSPX.refsVE_contains Y bm hbm) (I2.kIn _ _ hC) (PySem.W.looks_findIn I2.kIn T.iC) (fun self => PySem.W.bind_fn I2.kIn self tI)
      (run_err (kw := [(("value" : Str), u)]) (us := []) (args := ⟨[], []⟩) T F1 hr I2 r1 (fun s => hb s _ u) q1)) fun r s' hq => ?_)
    obtain ⟨y, rfl, ep⟩ := hq
    exact ep
/-- e.value -/
def tErrV (K : PySem.W.Frag) (fI : Addr) (te : TE) : TE := fun σ H Q => te σ H fun x H1 => ∃ (a d C : Addr) (v : V), x = .ref a ∧ ErrC K fI C ∧ Err H1 a d C v ∧ Q v H1
theorem pe_errV (he : PE X e te) (hb : attributeBase e "value" X.env (eval e X.env) = eval e X.env := by rfl) : PE X (.Attribute e "value" pos) (tErrV X.K fI te) := by
  refine ⟨fun pins s σ H Q I h => ?_⟩
  refine attr_of hb (thn (he.run pins s σ H _ I h) fun u s1 hh => ?_)
  obtain ⟨x, H1, I1, rx, a, d, C, v, rfl, T, ⟨e1, e2⟩, q⟩ := hh
  obtain rfl : u = Value.ref a := rx
  obtain ⟨t1, ho⟩ := exo_at I1.hok e1
  obtain ⟨mA, hns, hr⟩ := exd_at I1.hok e2
  obtain ⟨od, hod, hl⟩ := lookIn_ns hns
  obtain ⟨w, hu, ru⟩ := RelO.some_of (v := v) (o := mA "value") (by have z := hr "value"; rw [lookup_put, if_pos rfl] at z; exact z)
  have J : PySem.W.InstAt s1.heap a { cls := .ref C, dict := some d, data := .fields #[.ref t1, .none, .none, .none, .bool false, .none] } C (some od) := ⟨ho, rfl, rfl, hod⟩
  exact HandSPX.exc_get I1.kIn J T.ga T.gg T.o.exC (PySem.W.findObj_own T.hd T.no rfl (by rw [hl, hu])) (handed_of ru) ⟨v, H1, I1.tok _, ru, q⟩
/-- isinstance(e, c) -/
def rIsErr (K : PySem.W.Frag) (fI : Addr) : List V → Hp → VK → Prop := fun xs H Q => ∃ (a d C : Addr) (v c : V) (cv : Value) (b : Bool), xs = [.ref a, c] ∧ ErrC K fI C ∧ Err H a d C v ∧ (∀ u, RelV c u → u = cv) ∧ PySem.W.kitOne K (.ref C) cv = some b ∧ Q (.bl b) H
theorem call_isErr (hn : PySem.W.specialIn X.K (.builtin "object.__class__") "__get__" = some (some (.builtin "getset_descriptor.__get__"))) (htk : PySem.W.takesIn X.K (.builtin "object.__class__") = some true) : CallR X (.builtin "isinstance") (rIsErr X.K fI) := by
  intro pins s σ H xs us Q I r h
  obtain ⟨a, d, C, v, c, cv, b, rfl, T, ⟨e1, e2⟩, hcv, e, q⟩ := h
  obtain ⟨u1, u2, rfl, r1, r2⟩ := vals2 r
  have ec := hcv _ r2
  subst ec
  cases (show u1 = Value.ref a from r1)
  obtain ⟨t1, ho⟩ := exo_at I.hok e1
  obtain ⟨mA, hns, hr⟩ := exd_at I.hok e2
  obtain ⟨od, hod, hl⟩ := lookIn_ns hns
  have J : PySem.W.InstAt s.heap a { cls := .ref C, dict := some d, data := .fields #[.ref t1, .none, .none, .none, .bool false, .none] } C (some od) := ⟨ho, rfl, rfl, hod⟩
  exact PySem.W.kia_one (PySem.W.kitx_exc (by obtain ⟨cd, hc, _⟩ := PySem.W.any_some T.hd; rw [hc]; rfl) T.ga T.gg T.o.exC T.cl hn htk T.mo) I.kIn J e (fun z => nomatch z) fun tk => ⟨.bl b, H, I.kept (t' := tk) fun _ _ z => z, rfl, q⟩
end
/-! ### defs that need to know the guards around (repr) -/
structure FnOkG (P : Program) (w : World) (K : PySem.W.Frag) (mg : Str → Option Value) (base : Heap) (k : Nat) (f : Addr) (fd : FuncData) (ps : List Str) (sp : Sp) : Prop where
  len : ∀ vs H Q E, sp vs H Q E → vs.length = ps.length
  run : ∀ (A : Around) (outer : List Env) (s : Shared) (H : Hp) (args : Args) (us : List Value) (vs : List V) (Q : VK) (E : XK), A.guards = some [] → Room k A → Env0 P w K mg base A outer s H → BindsTo s fd args (ps.zip us) → Vals vs us → sp vs H Q E →
    codeAny (model P w) A (.call (.ref f) args) (CR CX0 outer P w H s Q E) s
section
variable {P : Program} {w : World} {K : PySem.W.Frag} {mg : Str → Option Value} {base : Heap}
/-- one call of a def of the text, at one place: from its body's reading there -/
theorem run_once {x qual : Str} {st : Stmt} {f : Addr} {fd : FuncData} {N ps : List Str} (F : Fun K x qual st f fd) (S : FnScope N ps (defScope st)) {A : Around} {outer : List Env} {s : Shared} {H : Hp} {args : Args} {us : List Value} {vs : List V} {Q : VK} {E : XK}
    (hd : A.handled = none) (dp : A.depth < recursionLimit) (e0 : Env0 P w K mg base A outer s H) (hb : BindsTo s fd args (ps.zip us)) (r : Vals vs us) (hl : vs.length = ps.length)
    (body : ∀ cdv : Value, ∃ t, PSs (cxOf CX0 P w K mg base N qual (defScope st) f cdv A outer s H E).nox (defBody st) t ∧ t { nx := fun _ H' => Q .non H', rt := Q } (start N vs) H) :
    codeAny (model P w) A (.call (.ref f) args) (CR CX0 outer P w H s Q E) s := by
  obtain ⟨oc, od, kV, doc, pm, an, cdv, ct, osl, rfl, lk, hcd⟩ := F.ex
  have keep : ∀ b o, base.get? b = some o → s.heap.get? b = some o := fun b o e => (e0.bs b o e).1
  have KX : K.In s.heap := e0.mod.kin.keeps keep
  refine codeAny_call_function dp (KX _ _ lk) rfl S.co S.gen rfl (PySem.W.codeRec_of KX hcd) (hb _ _ _ _ ?_)
  refine wpAny_newFunctionEnv_cells S.kind (fun y hy => ?_) fun env he s1 z => ?_
  · rcases S.par y.1 (List.of_mem_zip hy).1 with q | q
    · exact .inl q
    · exact .inr ⟨q, PySem.W.cellsFrom_some _ _ _ (.inl q)⟩
  · subst he
    refine ⟨(e0.mod.nolimit.keeps keep).keeps z.toInCall.keep, codeAny_func ?_⟩
    obtain ⟨t, ht, hq⟩ := body cdv
    have I : Inv (cxOf CX0 P w K mg base N qual (defScope st) f cdv A outer s H E) [] (start N vs) H s1 := inv_start S hd e0 hl r z
    refine wpAny_mono (ht.nox.run [] s1 (start N vs) H _ I hq) (fun fl s' hs => ?_) fun e s' hs => hs
    cases fl with
    | ret u =>
      obtain ⟨v, _, H', J, rv, q⟩ := hs
      exact ⟨v, H', J.os, J.bare, J.base, J.hok, rv, q⟩
    | next =>
      obtain ⟨_, H', J, q⟩ := hs
      exact ⟨V.non, H', J.os, J.bare, J.base, J.hok, rfl, q⟩
    | brk => exact (hs.choose_spec.choose_spec.2 : False).elim
    | cont => exact (hs.choose_spec.choose_spec.2 : False).elim
theorem Fun.okG {x qual : Str} {st : Stmt} {f : Addr} {fd : FuncData} {N ps : List Str} {k : Nat} {sp : Sp} (F : Fun K x qual st f fd) (S : FnScope N ps (defScope st)) (len : ∀ vs H Q E, sp vs H Q E → vs.length = ps.length)
    (hbody : ∀ (cdv : Value) (A : Around) (outer : List Env) (s : Shared) (H : Hp) (vs : List V) (Q : VK) (E : XK), A.guards = some [] → Room k (A.deeper (envOfC qual (defScope st) s.heap.objs.size f cdv)) → sp vs H Q E →
      ∃ t, PSs (cxOf CX0 P w K mg base N qual (defScope st) f cdv A outer s H E).nox (defBody st) t ∧ t { nx := fun _ H' => Q .non H', rt := Q } (start N vs) H) : FnOkG P w K mg base (k + 1) f fd ps sp :=
  ⟨len, fun A outer s H args us vs Q E hg hr e0 hb r hsp => run_once F S hr.hd hr.depth e0 hb r (len _ _ _ _ hsp) fun cdv => hbody cdv A outer s H vs Q E hg (hr.deeper _) hsp⟩
end
section
variable {X : Cx} {k : Nat} {f : Addr} {fd : FuncData} {ps : List Str} {sp : Sp} {x : Str} {p pos : Pos} {e : Expr} {es : List Expr} {t : TA}
/-- f(e, ..), f a def that wants the guards known -/
theorem pe_callG (hG : X.A.guards = some []) (F : FnOkG X.prog X.w X.K X.mg X.base k f fd ps sp) (hr : Room k X.A) (hg : Gl X x) (hm : X.mg x = some (.ref f)) (hk : PySem.W.keepIn X.K (.ref f) = true) (hb : Binds X.K fd ps [])
    (ha : PA X (e :: es) t) (hdb : (x == ("__debug__" : Str)) = false := by decide) (he : starEach (e :: es) X.env = (false, eval e X.env) :: starEach es X.env := by rfl) (hpl : (backTo pos (starEach es X.env)).any (·.1) = false := by rfl) :
    PE X (.Call (.Name x p) (e :: es) [] pos) (tCall sp [] E0 t) := by
  refine ⟨fun pins s σ H Q I h => ?_⟩
  refine wpAny_Call_Name_kw (ld_glob I hg hm ?_ hdb)
  refine PySem.W.callWith_K (h₀ := X.base) I.ok.mod.kin hk (thn (ha.run pos pins s σ H _ I h) fun us s1 ⟨vs, H1, I1, r, q⟩ => ⟨I1.kIn, ?_⟩) he hpl
  have hl : (us ++ []).length = ps.length := by rw [List.append_nil, ← r.length, ← F.len _ _ _ _ q, List.append_nil]
  show wpAny _ _ (call (.ref f) us) _ _ _
  refine wpAny_call (codeAny_mono (F.run X.A X.stack s1 H1 ⟨us, []⟩ (us ++ []) (vs ++ []) Q E0 hG hr I1.env0 (hb s1 us I1.kIn hl) (r.append .nil) q) fun res s' hq => ?_)
  cases res with
  | error er => exact False.elim hq
  | ok fl =>
    cases fl with
    | ret u => exact I1.after hq
    | next => exact False.elim hq
    | brk => exact False.elim hq
    | cont => exact False.elim hq
end
/-! ### the end of a law row for such a def -/
theorem enter_law {P : Program} {w : World} {K : PySem.W.Frag} {mg mb : Str → Option Value} {k : Nat} {fa a : Addr} {fd : FuncData} {x : Str} {sp : Sp} {s1 : Shared} {us : List Value} {H : Hp}
    (F : ∀ base : Heap, K.In base → base.Ns mainGlobals mg → FnOkG P w K mg base k fa fd [x] sp) (hr : Room k callerA) (hbind : ∀ (s : Shared) (u : Value), BindsTo s fd ⟨[u], []⟩ [(x, u)])
    (KX : K.In s1.heap) (hns : s1.heap.Ns mainGlobals mg) (hb : s1.heap.Ns builtinsNs mb) (hbb : ∀ x : Str, x ≠ "__name__" → mb x = bootBuiltins x) (hlim : s1.heap.NoLimit) (hg : s1.gens = #[])
    (ha : s1.heap.get? a = some { cls := .type "list", data := .seq us.toArray }) (ok : HOk P w H s1.heap) (only : ∀ b o, H b = some o → b = a ∧ K.lookup a = none ∧ ∃ xs, o = .frz { cls := .type "list", data := .seq us.toArray } (.lst xs))
    (hsp : sp [.ref a] H (fun v _ => v = .bl true) E0) :
    codeAny (model P w) callerA (.call (.ref fa) ⟨[.ref a], []⟩) (fun r s' => r = .ok (.ret (.bool true)) ∧ OldK s1.heap s'.heap ∧ s'.os = s1.os ∧ AllBare s'.gens) s1 := by
  have free : ∀ {b : Addr} {o : Obj}, s1.heap.get? b = some o → (∀ z : Array Value, ∀ n, o.data ≠ .seq z n) → H b = none := fun {b o} e d => by
    cases q : H b with
    | none => rfl
    | some u =>
      obtain ⟨rfl, _⟩ := only b u q
      rw [ha] at e
      cases e
      exact (d _ _ rfl).elim
  have ns2 : ∀ {b : Addr} {m : Str → Option Value}, s1.heap.Ns b m → (hidT s1.heap H).Ns b m := fun {b m} n => by
    obtain ⟨o, es, ep, e, d, r⟩ := n
    exact ⟨o, es, ep, hidT_get e (free e (fun z n y => by rw [d] at y; cases y)), d, r⟩
  have kin : K.In (hidT s1.heap H) := fun b o e => hidT_get (KX b o e) (by
    cases q : H b with
    | none => rfl
    | some u =>
      obtain ⟨rfl, z, _⟩ := only b u q
      rw [z] at e
      cases e)
  have M : Mod K mg (hidT s1.heap H) := ⟨kin, ns2 hns, ⟨mb, ns2 hb, hbb⟩, by obtain ⟨mc, z1, z2⟩ := hlim; exact ⟨mc, ns2 z1, z2⟩⟩
  have e0 : Env0 P w K mg (hidT s1.heap H) callerA [] s1 H := ⟨rfl, M, fun b o e => of_hidT e, Nat.le_of_eq (hidT_size _ _), trivial, (fun b z => absurd (show b ∈ ([] : List Addr) from z) (by simp)), ok, .of_eq hg⟩
  refine codeAny_mono ((F _ kin (ns2 hns)).run callerA [] s1 H _ [.ref a] [.ref a] _ _ rfl hr e0 (hbind s1 (.ref a)) (.cons rfl .nil) hsp) fun r s' h => ?_
  cases r with
  | error e => exact False.elim h
  | ok fl =>
    cases fl with
    | next => exact False.elim h
    | brk => exact False.elim h
    | cont => exact False.elim h
    | ret u =>
      obtain ⟨v, H', os, bare, un, ok', rv, q⟩ := h
      subst q
      obtain rfl : u = Value.bool true := rv
      refine ⟨rfl, OldK.of_keep fun b o e => ?_, os, bare⟩
      cases q : H b with
      | none => exact un.keep b o e q (fun z => absurd (show b ∈ ([] : List Addr) from z) (by simp)) (by simp)
      | some y =>
        obtain ⟨rfl, _, xs, rfl⟩ := only b y q
        obtain ⟨e1, _⟩ := ok' b _ (un.frzs b _ _ q)
        rw [ha] at e
        cases e
        exact e1
theorem walk_ofG {l : PySem.W.OpenLaw} {n k : Nat} {q : Program} {loose : List Str} {XP : (Str → Option Value) → Heap → Prop} {YP : World → Heap → Prop} {d : DefRec} {K : Params → PySem.W.Frag} {sp : PySem.W.Frag → Sp} {x : Str}
    (hn : l.most = some n) (hn2 : n ≤ sizeLine) (hdf : d.params.defaults = []) (hr : Room k callerA) (hY : ∀ (w : World) (h : Heap), YP w h → (K w.params).In h)
    (F : ∀ (w : World) (mg : Str → Option Value) (fa : Addr) (h : Heap), (K w.params).In h → h.Ns mainGlobals mg → mg d.name = some (.ref fa) →
      ∃ fd : FuncData, (∀ (s : Shared) (u : Value), BindsTo s fd ⟨[u], []⟩ [(x, u)]) ∧ ∀ base : Heap, (K w.params).In base → base.Ns mainGlobals mg → FnOkG l.prog w (K w.params) mg base k fa fd [x] (sp (K w.params)))
    (hsp : ∀ (K : PySem.W.Frag) (H : Hp) (a : Addr) (ns : List Int), ns.length ≤ n → Only H → SqL K H a (ns.map V.int) → sp K [.ref a] H (fun v _ => v = .bl true) E0) :
    PySem.W.WalkO q loose XP YP l.row.toRowW d [] (fun f vs => PySem.call f vs) := by
  refine Att.attach_call hn hdf fun w s0 s1 mg mb fa o pm cd doc a us ns G Y ho hd hcd hmg hobj hints hlen hg => ?_
  have KX := hY w _ Y
  obtain ⟨fd, hb, hF⟩ := F w mg fa _ KX G.T.g hmg
  have rv := vals_ints hints
  have hz : (ns.map V.int).length ≤ sizeLine := by rw [List.length_map]; omega
  cases hk : (K w.params).lookup a with
  | some ob =>
    have e := KX a ob hk
    rw [hobj] at e
    cases e
    have S : SqL (K w.params) (fun _ => none) a (ns.map V.int) := .inr ⟨_, us.toArray, _, hk, rfl, rfl, rfl, by rw [List.size_toArray, ← rv.length]; exact hz, by simpa using rv⟩
    exact enter_law (H := fun _ => none) hF hr hb KX G.T.g G.T.b G.T.builtins G.T.nolimit hg hobj (fun b u z => by cases (show (none : Option HO) = some u from z)) (fun b u z => by cases (show (none : Option HO) = some u from z))
      (hsp _ _ a ns hlen (fun b => .inl rfl) S)
  | none =>
    refine enter_law (H := upd (fun _ => none) a (.frz { cls := .type "list", data := .seq us.toArray } (.lst (ns.map V.int)))) hF hr hb KX G.T.g G.T.b G.T.builtins G.T.nolimit hg hobj (fun b u z => ?_) (fun b u z => ?_)
      (hsp _ _ a ns hlen (fun b => ?_) (.inl (.inr ⟨_, upd_same⟩)))
    · by_cases e : b = a
      · subst e
        rw [upd_same] at z
        cases z
        exact ⟨hobj, hz, us, _, rv, hobj⟩
      · rw [upd_ne e] at z
        cases z
    · by_cases e : b = a
      · subst e
        rw [upd_same] at z
        cases z
        exact ⟨rfl, hk, _, rfl⟩
      · rw [upd_ne e] at z
        cases z
    · by_cases e : b = a
      · subst e
        exact .inr ⟨_, _, upd_same⟩
      · exact .inl (upd_ne e)
end L2

set_option Elab.async false
set_option linter.all false
set_option maxRecDepth 100000
set_option maxHeartbeats 4000000
namespace L2
open PySem PySem.Spec PyProof.Rows
/-! ### great numbers -/
def CPowW (i j : Int) : Prop := 0 ≤ j ∧ j ≤ 1000 ∧ i.natAbs < 2 ^ 4000
theorem op_powW {X : Cx} : OpR X (binaryOp .Pow) (rI CPowW fun i j => .int (i ^ j.toNat)) := opI fun i j _ _ _ _ _ hc q => by
  refine PyProof.Rows.pow_int hc.1 ?_ q
  have h1 : Builtin.Int.intBits i ≤ 4001 := by
    have z := PySem.Flt.log2_lt_of (by decide : 0 < 4000) hc.2.2
    unfold Builtin.Int.intBits
    split <;> omega
  have h2 : (Builtin.Int.intBits i : Int) * j ≤ 4001 * 1000 := Int.mul_le_mul (by omega) hc.2.1 hc.1 (by decide)
  omega
end L2
namespace E0
open PySem PySem.Spec PyProof.Rows L2
def topS (i : Nat) : Stmt := PySem.Challenge.pw_onlyseen_k00_errors_keep_their_value.main.body.getD i (.Pass ⟨0, 0, 0, 0⟩)
abbrev sInit : Stmt := inClass (topS 1) 0
abbrev sPot : Stmt := topS 27
abbrev sDraw : Stmt := topS 28
abbrev sPlain : Stmt := topS 29
abbrev sValue : Stmt := topS 30
abbrev sFirst : Stmt := topS 31
abbrev sSecond : Stmt := topS 32
abbrev sThird : Stmt := topS 33
abbrev sMade : Stmt := topS 34
abbrev sKinds : Stmt := topS 35
abbrev sKept : Stmt := topS 36
abbrev sChanged : Stmt := topS 37
abbrev sLaw : Stmt := topS 38
/-- the built-in names that the text leaves as they are -/
structure Blt (mg : Str → Option Value) : Prop where
  len : mg "len" = none
  sum : mg "sum" = none
  int : mg "int" = none
  max : mg "max" = none
  min : mg "min" = none
  abs : mg "abs" = none
  str : mg "str" = none
  dict : mg "dict" = none
  tuple : mg "tuple" = none
  enum : mg "enumerate" = none
  range : mg "range" = none
  isi : mg "isinstance" = none
  repr : mg "repr" = none
/-- the draws of one number at p: the digits left, the mixed number, how many have been mixed -/
structure Pot (H : Hp) (p : Addr) (c : Nat) : Prop where
  at_ : ∃ a b d : Int, H p = some (.lst [.int a, .int b, .int d]) ∧ 0 ≤ b ∧ b < 2 ^ 100 ∧ 0 ≤ d ∧ d ≤ c
def spPot (K : PySem.W.Frag) : Sp := fun vs H Q _ => ∃ (a : Addr) (ns : List Int) (k : Int), vs = [.ref a, .int k] ∧ SqL K H a (ns.map V.int) ∧ ns.length ≤ 63 ∧ 0 ≤ k ∧
  ∀ (p : Addr) (H' : Hp), H p = none → Same H H' → Pot H' p 0 → Q (.ref p) H'
def spDraw : Sp := fun vs H Q _ => ∃ (p : Addr) (c : Nat) (m : Int), vs = [.ref p, .int m] ∧ Pot H p c ∧ c ≤ 100000 ∧ 0 < m ∧ m < 2 ^ 100 ∧
  ∀ (r : Int) (o : HO), 0 ≤ r → r < m → Pot (upd H p o) p (c + 1) → Q (.int r) (upd H p o)
section
variable {P : Program} {w : World} {K : PySem.W.Frag} {mg : Str → Option Value} {base : Heap}
theorem scPot : FnScope ["script", "k", "cell", "total", "other"] ["script", "k"] (defScope sPot) := ⟨rfl, rfl, rfl, by decide +kernel, rfl, by decide +kernel, by decide +kernel⟩
theorem len_ints {ns : List Int} : (ns.map V.int).length = ns.length := List.length_map ..
theorem get_ints {ns : List Int} {i : Nat} {x : V} (h : (ns.map V.int)[i]? = some x) : ∃ z, ns[i]? = some z ∧ x = V.int z := by
  rw [List.getElem?_map] at h
  cases e : ns[i]? with
  | none => rw [e] at h; cases h
  | some z => rw [e] at h; exact ⟨z, rfl, (Option.some.inj h).symm⟩
theorem tYes_of {σ : L2.St} {H : Hp} {A B : Hp → Prop} (h : A H) : tYes σ H (fun b H3 => if b = true then A H3 else B H3) := by
  show if true = true then A H else B H
  rw [if_pos rfl]
  exact h
theorem pot_rest {a : Addr} {ns : List Int} {k c : Int} {H : Hp} {Q : VK} (hS : SqL K H a (ns.map V.int)) (hk : 0 ≤ k) (hl : ns.length ≤ 63) (q : ∀ (p : Addr) (H' : Hp), H p = none → Same H H' → Pot H' p 0 → Q (V.ref p) H') :
    (tSeq (tAsg (tCB (rSum K) (tCons (tLc (iList K (tVar 0)) (gName 4) tYes (tOp (rI (fun _ j => 0 < j) fun i j => V.int (i % j))
      (tCB (fun xs H Q => (∃ i, xs = [V.int i] ∧ Q (V.int i) H) ∨ ∃ k, xs = [V.bl k] ∧ Q (V.int (if k = true then 1 else 0)) H) (tCons (tVar 4) tNil))
      (tOp (rI0 fun i j => V.int (i + j)) (tOp (rI CPow fun i j => V.int (i ^ j.toNat)) (tC (V.int 10)) (tC (V.int 23))) (tC (V.int 9)))) [4]) tNil)) (gName 3))
     (tRet (tLst (tCons (tCB (fun xs H Q => ∃ i j, xs = [V.int i, V.int j] ∧ Q (V.int (if j > i then j else i)) H) (tCons (tC (V.int 0)) (tCons (tOp (rI0 fun i j => V.int (i - j)) (tVar 2) (tOp (rI CPow fun i j => V.int (i ^ j.toNat)) (tC (V.int 10)) (tC (V.int 18)))) tNil)))
      (tCons (tOp (rI (fun _ j => 0 < j) fun i j => V.int (i % j)) (tCB (fun xs H Q => (∃ i, xs = [V.int i] ∧ Q (V.int i) H) ∨ ∃ k, xs = [V.bl k] ∧ Q (V.int (if k = true then 1 else 0)) H)
        (tCons (tOp (rI0 fun i j => V.int (i + j)) (tOp (rI0 fun i j => V.int (i + j)) (tOp (rI CMul fun i j => V.int (i * j)) (tCB (fun xs H Q => ∃ i, xs = [V.int i] ∧ Q (V.int (if i < 0 then -i else i)) H) (tCons (tVar 2) tNil)) (tC (V.int 7349)))
          (tOp (rI CMul fun i j => V.int (i * j)) (tC (V.int 31)) (tVar 3))) (tVar 1)) tNil))
        (tOp (rI0 fun i j => V.int (i + j)) (tOp (rI CPow fun i j => V.int (i ^ j.toNat)) (tC (V.int 10)) (tC (V.int 29))) (tC (V.int 319)))) (tCons (tC (V.int 0)) tNil)))))) { nx := fun _ H' => Q .non H', rt := Q } [some (.ref a), some (.int k), some (.int c), none, none] H := by
  have p23 : (0 : Int) < 10 ^ (23 : Int).toNat + 9 := by decide +kernel
  have p29 : (0 : Int) < 10 ^ (29 : Int).toNat + 319 := by decide +kernel
  have q29 : (10 : Int) ^ (29 : Int).toNat + 319 ≤ 2 ^ 100 := by decide +kernel
  refine ⟨_, rfl, a, rfl, ⟨_, hS⟩, fun D hD => lc_list (K := K) (a := a) (xs := ns.map V.int) (fun i H' => ∃ ms : List Int, Same H H' ∧ H' D = some (.lst (ms.map V.int)) ∧ ms.length = i)
    ⟨[], fun b o e => (upd_ne (ne_of_none e hD)).trans e, upd_same, rfl⟩ (fun i H' _ ⟨_, s, _⟩ => s.seq hS) ?_ ?_⟩
  · rintro i x H' hx ⟨ms, s, hd, hm⟩
    obtain ⟨z, hz, rfl⟩ := get_ints hx
    have hi : i < ns.length := (List.getElem?_eq_some_iff.mp hz).1
    refine ⟨rfl, tYes_of ?_⟩
    refine ⟨_, rfl, .inl ⟨_, rfl, _, _, rfl, rfl, ⟨by decide, by decide, by decide⟩, _, _, rfl, rfl, _, _, rfl, rfl, p23, _, hd, ?_, ?_⟩⟩
    · rw [List.length_map]; exact small1000 (by omega)
    · refine ⟨ms ++ [_], fun b o e => ?_, by rw [upd_same, List.map_append]; rfl, ?_⟩
      · rw [upd_ne (ne_of_none e hD)]
        exact s b o e
      · rw [List.length_append, hm]; rfl
  · rintro H' ⟨ms, s, hd, hl⟩
    refine ⟨D, ms, rfl, SqL.of hd, ?_⟩
    refine ⟨_, rfl, _, _, rfl, rfl, ⟨by decide, by decide, by decide⟩, _, _, rfl, rfl, _, _, rfl, _, rfl, _, rfl, _, _, rfl, rfl, .inr ⟨by decide, by decide⟩, _, rfl, _, _, rfl, rfl, .inl ⟨by decide, by decide⟩, _, _, rfl, rfl, _, rfl, _, _, rfl, rfl, .inl ⟨_, rfl, _, _, rfl, rfl, ⟨by decide, by decide, by decide⟩, _, _, rfl, rfl, _, _, rfl, rfl, p29, (by show 3 ≤ sizeLine; decide), fun p hp => ?_⟩⟩
    refine q p _ (s.free hp) (fun b o e => ?_) ⟨_, _, _, upd_same, Int.emod_nonneg _ (by omega), Int.lt_of_lt_of_le (Int.emod_lt_of_pos _ p29) q29, by decide, by decide⟩
    rw [upd_ne (ne_of_none (s b o e) hp)]
    exact s b o e
theorem ok_pot {f : Addr} {fd : FuncData} (F : Fun K "_law_pot" "_law_pot" sPot f fd) (B : Blt mg) : FnOk P w K mg base CX0 1 f fd ["script", "k"] (spPot K) := by
  refine F.ok scPot (fun vs H Q E h => ?_) (fun cdv A outer s H vs Q E hr h => ?_)
  · obtain ⟨a, ns, k, rfl, _⟩ := h
    rfl
  · obtain ⟨a, ns, k, rfl, hS, hlen, hk, q⟩ := h
    refine ⟨_, pss_cons (ps_set (i := 2) scPot.nd rfl (.inl rfl) (pe_op op_add (pe_op op_mul pe_int (pv 1)) pe_int))
      (pss_cons (ps_if (pt_cmpR op_lt (pv 1) (pe_callB call_len_seq (by rfl) B.len (by decide +kernel) (pa_cons (pv 0) pa_nil)) (nomark _))
        (pss_one (ps_set (i := 2) scPot.nd rfl (.inl rfl) (pe_ix ix_list (pv 0) (pv 1) (fun _ _ => rfl)))) pss_nil)
      (pss_cons (ps_set (i := 3) scPot.nd rfl (.inl rfl) (pe_callB (cr_sum rfl) (by rfl) B.sum (by decide +kernel) (pa_cons
        (pe_lc (own := [("other", 4)]) (g := gName 4) (tt := tYes) rfl scPot.nd (pi_list (pv 0)) (blkOk_by (N := ["script", "k", "cell", "total", "other"]) (sc := defScope sPot) (by decide +kernel)) (fun _ _ _ _ _ => pg_name (i := 4) scPot.nd rfl (Or.inl rfl)) (fun _ _ _ _ _ => pts_nil)
          (fun _ _ _ _ _ => pe_op op_mod (pe_callTy call_int1 (by rfl) B.int (by decide +kernel) (pa_cons (pv 4) pa_nil)) (pe_op op_add (pe_op op_pow pe_int pe_int) pe_int))) pa_nil)))
      (pss_one (ps_ret (pe_lst (pa_cons (pe_callB (call_max2 rfl) (by rfl) B.max (by decide +kernel) (pa_cons pe_int (pa_cons (pe_op op_sub (pv 2) (pe_op op_pow pe_int pe_int)) pa_nil)))
        (pa_cons (pe_op op_mod (pe_callTy call_int1 (by rfl) B.int (by decide +kernel) (pa_cons (pe_op op_add (pe_op op_add (pe_op op_mul (pe_callB call_abs (by rfl) B.abs (by decide +kernel) (pa_cons (pv 2) pa_nil)) pe_int) (pe_op op_mul pe_int (pv 3))) (pv 1)) pa_nil)) (pe_op op_add (pe_op op_pow pe_int pe_int) pe_int))
        (pa_cons pe_int pa_nil)))))))), ?_⟩
    have p23 : (0 : Int) < 10 ^ (23 : Int).toNat + 9 := by decide +kernel
    have p29 : (0 : Int) < 10 ^ (29 : Int).toNat + 319 := by decide +kernel
    have q29 : (10 : Int) ^ (29 : Int).toNat + 319 ≤ 2 ^ 100 := by decide +kernel
    refine ⟨_, rfl, _, _, rfl, rfl, .inl ⟨by decide, by decide⟩, _, _, rfl, rfl, _, rfl, _, rfl, _, _, rfl, .inl hS, _, _, rfl, rfl, _, rfl, ?_⟩
    refine ite2 (fun hlt => ?_) (fun _ => ?_)
    · have hlt' : k < ((ns.map V.int).length : Int) := of_decide_eq_true hlt
      rw [len_ints] at hlt'
      have hget : (ns.map V.int)[k.toNat]? = some (.int ns[k.toNat]) := by rw [List.getElem?_map, List.getElem?_eq_getElem (by omega)]; rfl
      have hat := atI_nat hget
      rw [Int.toNat_of_nonneg hk] at hat
      refine ⟨_, rfl, _, rfl, a, _, k, _, rfl, rfl, hS, hat, ?_⟩
      exact pot_rest hS hk hlen q
    · exact pot_rest hS hk hlen q
theorem scDraw : FnScope ["pot", "many", "found", "mixed"] ["pot", "many"] (defScope sDraw) := ⟨rfl, rfl, rfl, by decide +kernel, rfl, by decide +kernel, by decide +kernel⟩
theorem lt4000 {x : Nat} (h : x < 2 ^ 200) : x < 2 ^ 4000 := Nat.lt_of_lt_of_le h (Nat.pow_le_pow_right (by decide) (by decide))
theorem ok_draw {f : Addr} {fd : FuncData} (F : Fun K "_law_draw" "_law_draw" sDraw f fd) (B : Blt mg) : FnOk P w K mg base CX0 1 f fd ["pot", "many"] spDraw := by
  refine F.ok scDraw (fun vs H Q E h => ?_) (fun cdv A outer s H vs Q E hr h => ?_)
  · obtain ⟨p, c, m, rfl, _⟩ := h
    rfl
  · obtain ⟨p, c, m, rfl, ⟨a, b, d, hp, hb0, hb1, hd0, hd1⟩, hc, hm0, hm1, q⟩ := h
    refine ⟨_, pss_cons (ps_if (pt_cmpR op_gt (pe_ix ix_list (pv 0) pe_int (fun _ _ => rfl)) pe_int (nomark _))
        (pss_cons (ps_set (i := 2) scDraw.nd rfl (.inl rfl) (pe_op op_mod (pe_callTy call_int1 (by rfl) B.int (by decide +kernel) (pa_cons (pe_ix ix_list (pv 0) pe_int (fun _ _ => rfl)) pa_nil)) (pv 1)))
        (pss_cons (ps_asg (pe_op op_fdivW (pe_ix ix_list (pv 0) pe_int (fun _ _ => rfl)) (pv 1)) (pg_sub (pv 0) pe_int set_list))
        (pss_one (ps_ret (pv 2))))) pss_nil)
      (pss_cons (ps_asg (pe_op op_add (pe_ix ix_list (pv 0) pe_int (fun _ _ => rfl)) pe_int) (pg_sub (pv 0) pe_int set_list))
      (pss_cons (ps_set (i := 3) scDraw.nd rfl (.inl rfl) (pe_op op_mod (pe_callTy call_int1 (by rfl) B.int (by decide +kernel)
          (pa_cons (pe_op op_powW (pe_op op_add (pe_ix ix_list (pv 0) pe_int (fun _ _ => rfl)) (pe_op op_mul pe_int (pe_ix ix_list (pv 0) pe_int (fun _ _ => rfl)))) pe_int) pa_nil)) (pe_op op_add (pe_op op_pow pe_int pe_int) pe_int)))
      (pss_one (ps_ret (pe_op op_mod (pe_op op_fdiv (pe_op op_mod (pe_callTy call_int1 (by rfl) B.int (by decide +kernel) (pa_cons (pe_op op_mulW (pv 3) (pe_op op_add (pv 3) pe_int)) pa_nil)) (pe_op op_add (pe_op op_pow pe_int pe_int) pe_int)) pe_int) (pv 1)))))), ?_⟩
    have p31 : (0 : Int) < 10 ^ (31 : Int).toNat + 33 := by decide +kernel
    have q31 : (10 : Int) ^ (31 : Int).toNat + 33 ≤ 2 ^ 110 := by decide +kernel
    have p30 : (0 : Int) < 10 ^ (30 : Int).toNat + 57 := by decide +kernel
    have hh := SqL.of (K := K) hp
    refine ⟨_, rfl, p, _, 0, _, rfl, rfl, hh, rfl, _, _, rfl, rfl, _, rfl, ?_⟩
    refine ite2 (fun ha => ?_) (fun _ => ?_)
    · have ha0 : 0 < a := of_decide_eq_true ha
      refine ⟨_, rfl, p, _, 0, _, rfl, rfl, hh, rfl, .inl ⟨_, rfl, _, rfl, _, _, rfl, rfl, hm0, ?_⟩⟩
      refine ⟨_, rfl, p, _, 0, _, rfl, rfl, hh, rfl, _, rfl, _, _, rfl, rfl, wide_div (b := 100) hm0 (by omega) (by decide) (by decide), _, rfl, p, _, 0, 0, rfl, rfl, hp, rfl, _, rfl, ?_⟩
      exact q _ _ (Int.emod_nonneg _ (by omega)) (Int.emod_lt_of_pos _ hm0) ⟨_, _, _, upd_same, hb0, hb1, hd0, by omega⟩
    · refine ⟨_, rfl, p, _, 2, _, rfl, rfl, hh, rfl, _, _, rfl, rfl, _, rfl, p, _, 2, 2, rfl, rfl, hp, rfl, ?_⟩
      have hp' : (upd H p (HO.lst ([V.int a, V.int b, V.int d].set 2 (V.int (d + 1))))) p = some (.lst [V.int a, V.int b, V.int (d + 1)]) := upd_same
      have hh' := SqL.of (K := K) hp'
      refine ⟨_, rfl, p, _, 1, _, rfl, rfl, hh', rfl, _, rfl, p, _, 2, _, rfl, rfl, hh', rfl, _, _, rfl, rfl, .inl ⟨by decide, by decide⟩, _, _, rfl, rfl, _, _, rfl, rfl, ⟨by decide, by decide, lt4000 (by omega)⟩, .inl ⟨_, rfl, _, _, rfl, rfl, ⟨by decide, by decide, by decide⟩, _, _, rfl, rfl, _, _, rfl, rfl, p31, ?_⟩⟩
      have x0 : 0 ≤ ((b + 271828183 * (d + 1)) ^ (3 : Int).toNat) % (10 ^ (31 : Int).toNat + 33) := Int.emod_nonneg _ (by omega)
      have x1 : ((b + 271828183 * (d + 1)) ^ (3 : Int).toNat) % (10 ^ (31 : Int).toNat + 33) < 2 ^ 110 := Int.lt_of_lt_of_le (Int.emod_lt_of_pos _ p31) q31
      refine ⟨_, rfl, _, rfl, _, _, rfl, rfl, _, _, rfl, rfl, wide_mul (a := 111) (b := 111) (by omega) (by omega) (by decide) (by decide) (by decide), .inl ⟨_, rfl, _, _, rfl, rfl, ⟨by decide, by decide, by decide⟩, _, _, rfl, rfl, _, _, rfl, rfl, p30, _, _, rfl, rfl, ⟨by decide, by decide⟩, _, rfl, _, _, rfl, rfl, hm0, ?_⟩⟩
      exact q _ _ (Int.emod_nonneg _ (by omega)) (Int.emod_lt_of_pos _ hm0) ⟨_, _, _, upd_same, hb0, hb1, by omega, by omega⟩
/-- a def as the text leaves it: at f, under its name -/
structure Has (K : PySem.W.Frag) (mg : Str → Option Value) (x : Str) (st : Stmt) (ps : List Str) (f : Addr) (fd : FuncData) : Prop where
  F : Fun K x x st f fd
  g : mg x = some (.ref f)
  b : Binds K fd ps []
theorem Pot.mono {H H' : Hp} {p : Addr} {c c' : Nat} (h : Pot H p c) (e : H' p = H p) (hc : c ≤ c') : Pot H' p c' := by
  obtain ⟨a, b, d, h1, h2, h3, h4, h5⟩ := h
  exact ⟨a, b, d, e.trans h1, h2, h3, h4, by omega⟩
theorem Pot.ne {H : Hp} {p l : Addr} {c : Nat} (h : Pot H p c) (e : H l = none) : p ≠ l := by
  obtain ⟨a, b, d, h1, _⟩ := h
  exact ne_of_none h1 e
def big : Nat → Nat
  | 0 => 40
  | n + 1 => 3 * (big n + 20) + 10
/-- data that a value may be, so deep -/
structure Okd (x : PyData) (n : Nat) : Prop where
  s : x.showable = true
  d : x.depth ≤ n + 1
  z : x.shown.length ≤ big n
/-- what is new in H' -/
def fresh (H H' : Hp) : Hp := fun b => if (H b).isSome then none else H' b
theorem fresh_at {H H' : Hp} {b : Addr} {o : HO} (h : H b = none) (e : H' b = some o) : fresh H H' b = some o := by
  unfold fresh
  rw [h]
  exact e
theorem of_fresh {H H' : Hp} {b : Addr} {o : HO} (e : fresh H H' b = some o) : H b = none ∧ H' b = some o := by
  unfold fresh at e
  cases h : H b with
  | none => rw [h] at e; exact ⟨rfl, e⟩
  | some u => rw [h] at e; cases e
def spPlain : Sp := fun vs H Q _ => ∃ (p : Addr) (c : Nat), vs = [.ref p] ∧ Pot H p c ∧ c ≤ 90000 ∧ ∀ (v : V) (d : PyData) (H' : Hp), Dat (fresh H H') v d → Okd d 0 → Pot H' p (c + 2) → Same (del H p) (del H' p) → Q v H'
theorem del_upd {H : Hp} {p : Addr} {o : HO} : del (upd H p o) p = del H p := by
  funext b
  by_cases e : b = p
  · rw [e, del_same, del_same]
  · rw [del_ne e, del_ne e, upd_ne e]
theorem same_del_new {H : Hp} {p l : Addr} {o : HO} (h : H l = none) : Same (del H p) (del (upd H l o) p) := fun b u e => by
  by_cases eb : b = p
  · rw [eb, del_same] at e
    cases e
  · rw [del_ne eb] at e ⊢
    rw [upd_ne (ne_of_none e h)]
    exact e
theorem at_ok {xs : List V} {r : Int} (h0 : 0 ≤ r) (h1 : r < xs.length) : ∃ v, atI xs r = some v ∧ v ∈ xs := by
  have hl : r.toNat < xs.length := by omega
  refine ⟨xs[r.toNat], ?_, List.getElem_mem _⟩
  have z := atI_nat (List.getElem?_eq_getElem hl)
  rw [Int.toNat_of_nonneg h0] at z
  exact z
theorem ok_str {H : Hp} {x : Str} (h : (reprText x).length ≤ 40) : Dat H (.str x) (.str x) ∧ Okd (.str x) 0 := ⟨.str x, ⟨rfl, Nat.zero_le _, by simp only [PyData.shown]; exact h⟩⟩
theorem scPlain : FnScope ["pot", "way"] ["pot"] (defScope sPlain) := ⟨rfl, rfl, rfl, by decide +kernel, rfl, by decide +kernel, by decide +kernel⟩
theorem ok_int {H : Hp} {i : Int} (h : i.natAbs < 10 ^ 21) : Dat H (.int i) (.int i) ∧ Okd (.int i) 0 := by
  refine ⟨.int i, ⟨?_, Nat.zero_le _, ?_⟩⟩
  · have z : i.natAbs.log2 < 1920 := by
      have z := PySem.Flt.log2_lt_of (by decide : 0 < 80) (show i.natAbs < 2 ^ 80 from Nat.lt_of_lt_of_le h (by decide +kernel))
      omega
    simp only [PyData.showable, decide_eq_true_eq]
    exact z
  · simp only [PyData.shown]
    have z := int_text_length_le10 (by decide : 0 < 21) h
    show (Str.ofString (toString i)).length ≤ 40
    rw [PySem.ofString_length]
    omega
theorem flat_ok {H : Hp} {v : V} (h : v ∈ [V.non, .bl true, .bl false, .int 0, .int (-1), .str "", .str "a", .str "value", .str "SightError", .str "0"]) : ∃ d, Dat H v d ∧ Okd d 0 := by
  simp only [List.mem_cons, List.not_mem_nil, or_false] at h
  rcases h with rfl | rfl | rfl | rfl | rfl | rfl | rfl | rfl | rfl | rfl
  · exact ⟨_, .non, ⟨rfl, Nat.zero_le _, by decide +kernel⟩⟩
  · exact ⟨_, .bl _, ⟨rfl, Nat.zero_le _, by decide +kernel⟩⟩
  · exact ⟨_, .bl _, ⟨rfl, Nat.zero_le _, by decide +kernel⟩⟩
  · exact ⟨_, ok_int (by decide)⟩
  · exact ⟨_, ok_int (by decide)⟩
  · exact ⟨_, ok_str (by decide +kernel)⟩
  · exact ⟨_, ok_str (by decide +kernel)⟩
  · exact ⟨_, ok_str (by decide +kernel)⟩
  · exact ⟨_, ok_str (by decide +kernel)⟩
  · exact ⟨_, ok_str (by decide +kernel)⟩
theorem ok_plain {f fD : Addr} {fd fdD : FuncData} (F : Fun K "_law_plain" "_law_plain" sPlain f fd) (D : Has K mg "_law_draw" sDraw ["pot", "many"] fD fdD) (B : Blt mg) : FnOk P w K mg base CX0 2 f fd ["pot"] spPlain := by
  have GD : FnOk P w K mg base CX0 1 fD fdD ["pot", "many"] spDraw := ok_draw D.F B
  refine F.ok scPlain (fun vs H Q E h => ?_) (fun cdv A outer s H vs Q E hr h => ?_)
  · obtain ⟨p, c, rfl, _⟩ := h
    rfl
  · obtain ⟨p, c, rfl, hp, hc, q⟩ := h
    have D' := @pe_call
    refine ⟨_, pss_cons (ps_set (i := 1) scPlain.nd rfl (.inl rfl) (pe_call GD hr rfl D.g D.F.kp D.b .nil pass0 (pa_cons (pv 0) (pa_cons pe_int pa_nil))))
      (pss_cons (ps_if (pt_cmpR op_eq (pv 1) pe_int (nomark _)) (pss_one (ps_ret (pe_op op_sub (pe_call GD hr rfl D.g D.F.kp D.b .nil pass0 (pa_cons (pv 0) (pa_cons (pe_op op_pow pe_int pe_int) pa_nil))) (pe_op op_pow pe_int pe_int)))) pss_nil)
      (pss_cons (ps_if (pt_cmpR op_eq (pv 1) pe_int (nomark _)) (pss_one (ps_ret (pe_ix ix_list (pe_lst (pa_cons pe_str (pa_cons pe_str (pa_cons pe_str (pa_cons pe_str (pa_cons pe_str pa_nil)))))) (pe_call GD hr rfl D.g D.F.kp D.b .nil pass0 (pa_cons (pv 0) (pa_cons pe_int pa_nil))) (fun _ _ => rfl)))) pss_nil)
      (pss_one (ps_ret (pe_ix ix_list (pe_lst (pa_cons pe_non (pa_cons pe_bl (pa_cons pe_bl (pa_cons pe_int (pa_cons (pe_tup pa_nil) (pa_cons (pe_un un_neg pe_int) pa_nil))))))) (pe_call GD hr rfl D.g D.F.kp D.b .nil pass0 (pa_cons (pv 0) (pa_cons pe_int pa_nil))) (fun _ _ => rfl)))))), ?_⟩
    refine ⟨_, rfl, p, c, 6, rfl, hp, by omega, by decide, by decide, fun r o r0 r1 hp1 => ?_⟩
    refine ⟨_, rfl, rfl, _, rfl, ?_⟩
    refine ite2 (fun _ => ?_) (fun _ => ?_)
    · refine ⟨_, rfl, _, _, rfl, rfl, ⟨by decide, by decide, by decide⟩, p, c + 1, _, rfl, hp1, by omega, by decide +kernel, by decide +kernel, fun r' o' r0' r1' hp2 => ?_⟩
      refine ⟨_, _, rfl, rfl, ⟨by decide, by decide, by decide⟩, _, _, rfl, rfl, ?_⟩
      have e20 : (10 : Int) ^ (20 : Int).toNat = 100000000000000000000 := by decide +kernel
      have e19 : (10 : Int) ^ (19 : Int).toNat = 10000000000000000000 := by decide +kernel
      rw [e20] at r1'
      obtain ⟨D1, O1⟩ := ok_int (H := fresh H (upd (upd H p o) p o')) (i := r' - 10 ^ (19 : Int).toNat) (by rw [e19]; omega)
      exact q _ _ _ D1 O1 hp2 (by rw [del_upd, del_upd]; exact Same.refl _)
    · refine ⟨_, rfl, rfl, _, rfl, ?_⟩
      refine ite2 (fun _ => ?_) (fun _ => ?_)
      · refine ⟨by decide, fun l hl => ?_⟩
        have npl := hp1.ne hl
        refine ⟨_, rfl, p, c + 1, 5, rfl, hp1.mono (upd_ne npl) (Nat.le_refl _), by omega, by decide, by decide, fun r' o' r0' r1' hp2 => ?_⟩
        obtain ⟨v, hv, hm⟩ := at_ok (xs := [.str "", .str "a", .str "value", .str "SightError", .str "0"]) r0' r1'
        refine ⟨l, _, r', v, rfl, rfl, SqL.of (by rw [upd_ne npl.symm, upd_same]), hv, ?_⟩
        obtain ⟨d, D1, O1⟩ := flat_ok (H := fresh H (upd (upd (upd H p o) l (.lst [.str "", .str "a", .str "value", .str "SightError", .str "0"])) p o')) (v := v) (by simp only [List.mem_cons, List.not_mem_nil, or_false] at hm ⊢; rcases hm with h | h | h | h | h <;> simp [h])
        refine q v d _ D1 O1 hp2 ?_
        rw [del_upd]
        have z := same_del_new (p := p) (o := .lst [.str "", .str "a", .str "value", .str "SightError", .str "0"]) hl
        rw [del_upd] at z
        exact z
      · refine ⟨Nat.zero_le _, fun t ht => ⟨_, rfl, (by show 6 ≤ sizeLine; decide), fun l hl => ?_⟩⟩
        have npt := hp1.ne ht
        have hl1 : upd H p o l = none := by
          by_cases e : l = t
          · rw [e] at hl
            rw [upd_same] at hl
            cases hl
          · rw [upd_ne e] at hl
            exact hl
        have npl := hp1.ne hl1
        have ntl : t ≠ l := ne_of_none upd_same hl
        refine ⟨_, rfl, p, c + 1, 6, rfl, hp1.mono (by rw [upd_ne npl, upd_ne npt]) (Nat.le_refl _), by omega, by decide, by decide, fun r' o' r0' r1' hp2 => ?_⟩
        obtain ⟨v, hv, hm⟩ := at_ok (xs := [.non, .bl true, .bl false, .int 0, .ref t, .int (-1)]) r0' r1'
        refine ⟨l, _, r', v, rfl, rfl, SqL.of (by rw [upd_ne npl.symm, upd_same]), hv, ?_⟩
        have S0 : Same (del H p) (del (upd (upd (upd (upd H p o) t (.tup [])) l (.lst [.non, .bl true, .bl false, .int 0, .ref t, .int (-1)])) p o') p) := by
          rw [del_upd]
          have z1 := same_del_new (p := p) (o := .tup []) ht
          have z2 := same_del_new (p := p) (o := .lst [.non, .bl true, .bl false, .int 0, .ref t, .int (-1)]) hl
          rw [del_upd] at z1
          exact z1.trans z2
        by_cases hv2 : v = .ref t
        · subst hv2
          refine q _ (.tuple []) _ (.tup (xs := []) ?_ .nil) ⟨rfl, by decide, by decide +kernel⟩ hp2 S0
          exact fresh_at (by rw [upd_ne npt.symm] at ht; exact ht) (by rw [upd_ne npt.symm, upd_ne ntl, upd_same])
        · obtain ⟨d, D1, O1⟩ := flat_ok (H := fresh H (upd (upd (upd (upd H p o) t (.tup [])) l (.lst [.non, .bl true, .bl false, .int 0, .ref t, .int (-1)])) p o')) (v := v) (by simp only [List.mem_cons, List.not_mem_nil, or_false] at hm ⊢; rcases hm with h | h | h | h | h | h <;> first | exact absurd h hv2 | simp [h])
          exact q v d _ D1 O1 hp2 S0
end
end E0

set_option Elab.async false
set_option linter.all false
set_option maxRecDepth 100000
set_option maxHeartbeats 4000000
namespace L2
open PySem PySem.Spec PyProof.Rows
/-- a comprehension over enumerate(list) -/
theorem lc_enum {K : PySem.W.Frag} {a : Addr} {xs : List V} {g : TG} {tt : TT} {te : TE} {vs : List Nat} {σ : L2.St} {H1 : Hp} {D : Addr} {Qd : Hp → Prop} (Pv : Nat → Hp → Prop) (h0 : Pv 0 (upd H1 D (.lst []))) (hl : ∀ i H, i ≤ xs.length → Pv i H → SqL K H a xs)
    (hs : ∀ (i : Nat) (x : V) (H : Hp) (T : Addr), xs[i]? = some x → Pv i H → H T = none → g (.ref T) (wipe σ vs) (upd H T (.tup [.int (i : Nat), x])) fun σ2 H2 => wipe σ2 vs = wipe σ vs ∧ tt σ2 H2 fun b H3 =>
      if b = true then te σ2 H3 fun y H4 => ∃ acc, H4 D = some (.lst acc) ∧ acc.length < sizeLine ∧ Pv (i + 1) (upd H4 D (.lst (acc ++ [y]))) else Pv (i + 1) H3) (hd : ∀ H, Pv xs.length H → Qd H) :
    ∃ W : Nat → Nat → Hp → Prop, (∃ m, W 0 m (upd H1 D (.lst []))) ∧ ∀ i m H, W i m H →
      ((Ite K a).stop i H ∧ Qd H) ∨ ((Ite K a).go i H ∧ ∃ Nx : Hp → Prop, (∀ H', Nx H' → ∃ m', m' < m ∧ W (i + 1) m' H') ∧ ∀ x H', (Ite K a).yld i H x H' → g x (wipe σ vs) H' fun σ2 H2 => wipe σ2 vs = wipe σ vs ∧ tt σ2 H2 fun b H3 =>
        if b = true then te σ2 H3 fun y H4 => ∃ acc, H4 D = some (.lst acc) ∧ acc.length < sizeLine ∧ Nx (upd H4 D (.lst (acc ++ [y]))) else Nx H3) := by
  refine ⟨fun i m H => m = xs.length - i ∧ i ≤ xs.length ∧ Pv i H, ⟨xs.length, rfl, Nat.zero_le _, h0⟩, ?_⟩
  rintro i m H ⟨rfl, hi, p⟩
  have q := hl i H hi p
  by_cases hlt : i < xs.length
  · refine .inr ⟨⟨xs, xs[i], q, List.getElem?_eq_getElem hlt⟩, Pv (i + 1), fun H' p' => ⟨xs.length - (i + 1), by omega, rfl, hlt, p'⟩, ?_⟩
    rintro x H' ⟨T, y, rfl, hT, rfl, hy⟩
    exact hs i y H T (hy xs q) p hT
  · obtain rfl : i = xs.length := by omega
    exact .inl ⟨⟨xs, q, Nat.le_refl _⟩, hd H p⟩
end L2
namespace E0
open PySem PySem.Spec PyProof.Rows L2
def cnt : Nat → Nat
  | 0 => 3
  | n + 1 => 3 * cnt n + 3
theorem cnt3 : cnt 3 = 120 := rfl
theorem cnt_pos : ∀ n, 3 ≤ cnt n
  | 0 => Nat.le_refl _
  | n + 1 => by show 3 ≤ 3 * cnt n + 3; omega
def spValue (n : Nat) : Sp := fun vs H Q _ => ∃ (p : Addr) (c : Nat), vs = [.ref p, .int (n : Nat)] ∧ Pot H p c ∧ c + cnt n ≤ 90000 ∧ ∀ (v : V) (d : PyData) (H' : Hp), Dat (fresh H H') v d → Okd d n → Pot H' p (c + cnt n) → Same (del H p) (del H' p) → Q v H'
section
variable {P : Program} {w : World} {K : PySem.W.Frag} {mg : Str → Option Value} {base : Heap}
theorem scValue : FnScope ["pot", "deep", "way", "parts", "turn", "at", "part"] ["pot", "deep"] (defScope sValue) := ⟨rfl, rfl, rfl, by decide +kernel, rfl, by decide +kernel, by decide +kernel⟩
end
end E0

set_option Elab.async false
set_option linter.all false
set_option maxRecDepth 100000
set_option maxHeartbeats 4000000
namespace E0
open PySem PySem.Spec PyProof.Rows L2
theorem listText_le : ∀ ts : List Str, (listText ts).length ≤ piled ts + 2
  | [] => by decide
  | t :: r => by
    have h := textFrom_length_pos r 1 (("[" : Str) ++ (if (0 : Nat) > 0 then ", " else "" : String) ++ t) (Nat.succ_pos 0)
    have e1 : (("[" : Str) ++ (if (0 : Nat) > 0 then ", " else "" : String) ++ t).length = 1 + t.length := by
      rw [strLen_append, strLen_append]
      rfl
    have e2 : (listText (t :: r)).length = (textFrom 1 (("[" : Str) ++ (if (0 : Nat) > 0 then ", " else "" : String) ++ t) r).length + 1 := by
      show (textFrom 1 _ r ++ "]").length = _
      rw [strLen_append]
      rfl
    rw [piled_cons]
    omega
theorem join_le (ts : List Str) : (Str.join ", " ts).length ≤ piled ts := by
  by_cases h : ts = []
  · subst h
    decide
  · have := join_length_add ts h
    omega
theorem tupleText_le (ts : List Str) : (tupleText ts).length ≤ piled ts + 3 := by
  have h := join_le ts
  unfold tupleText
  rw [strLen_append, strLen_append]
  have e1 : ((("(" : String) : Str)).length = 1 := rfl
  have e3 : (((if ts.length == 1 then ",)" else ")" : String) : Str)).length ≤ 2 := by split <;> decide
  omega
theorem dictText_le (ts : List Str) : (dictText ts).length ≤ piled ts + 2 := by
  have h := join_le ts
  unfold dictText
  rw [strLen_append, strLen_append]
  have e1 : ((("{" : String) : Str)).length = 1 := rfl
  have e2 : ((("}" : String) : Str)).length = 1 := rfl
  omega
theorem piled_le {b : Nat} : ∀ ts : List Str, (∀ t ∈ ts, t.length ≤ b) → piled ts ≤ ts.length * (b + 2)
  | [], _ => Nat.zero_le _
  | t :: r, h => by
    have h1 := h t (List.mem_cons_self ..)
    have h2 := piled_le r fun u hu => h u (List.mem_cons_of_mem _ hu)
    rw [piled_cons, List.length_cons, Nat.succ_mul]
    omega
theorem three_le {k b : Nat} (h : k ≤ 3) : k * (b + 2) ≤ 3 * (b + 2) := Nat.mul_le_mul_right _ h
theorem ok_all {m : Nat} : ∀ ds : List PyData, (∀ d ∈ ds, Okd d m) → PyData.showableAll ds = true ∧ PyData.depthAll ds ≤ m + 1 ∧ (∀ t ∈ PyData.shownAll ds, t.length ≤ big m) ∧ (PyData.shownAll ds).length = ds.length
  | [], _ => ⟨by simp only [PyData.showableAll], by simp only [PyData.depthAll]; omega, (fun t h => by simp only [PyData.shownAll] at h; exact nomatch h), by simp only [PyData.shownAll]; rfl⟩
  | d :: ds, h => by
    have h1 := h d (List.mem_cons_self ..)
    obtain ⟨a, b, c, e⟩ := ok_all ds fun x hx => h x (List.mem_cons_of_mem _ hx)
    refine ⟨by simp only [PyData.showableAll, h1.s, a, Bool.and_self], ?_, fun t ht => ?_, ?_⟩
    · simp only [PyData.depthAll]
      have := h1.d
      omega
    · simp only [PyData.shownAll, List.mem_cons] at ht
      rcases ht with rfl | ht
      · exact h1.z
      · exact c t ht
    · simp only [PyData.shownAll, List.length_cons, e]
theorem okd_list {m : Nat} {ds : List PyData} (h : ∀ d ∈ ds, Okd d m) (hl : ds.length ≤ 3) : Okd (.list ds) (m + 1) := by
  obtain ⟨a, b, c, e⟩ := ok_all ds h
  refine ⟨by simp only [PyData.showable, a], by simp only [PyData.depth]; omega, ?_⟩
  simp only [PyData.shown]
  have h1 := listText_le (PyData.shownAll ds)
  have h2 := piled_le _ c
  have h3 := three_le (b := big m) (show (PyData.shownAll ds).length ≤ 3 by omega)
  show _ ≤ 3 * (big m + 20) + 10
  omega
theorem okd_tuple {m : Nat} {ds : List PyData} (h : ∀ d ∈ ds, Okd d m) (hl : ds.length ≤ 3) : Okd (.tuple ds) (m + 1) := by
  obtain ⟨a, b, c, e⟩ := ok_all ds h
  refine ⟨by simp only [PyData.showable, a], by simp only [PyData.depth]; omega, ?_⟩
  simp only [PyData.shown]
  have h1 := tupleText_le (PyData.shownAll ds)
  have h2 := piled_le _ c
  have h3 := three_le (b := big m) (show (PyData.shownAll ds).length ≤ 3 by omega)
  show _ ≤ 3 * (big m + 20) + 10
  omega
/-- a pair of a dict's data: a short text and what is held -/
def Okp (x : PyData × PyData) (m : Nat) : Prop := ∃ z : Str, x.1 = .str z ∧ (reprText z).length ≤ 10 ∧ Okd x.2 m
theorem ok_kv {m : Nat} : ∀ ds : List (PyData × PyData), (∀ d ∈ ds, Okp d m) → PyData.showableKv ds = true ∧ PyData.depthKv ds ≤ m + 1 ∧ (∀ t ∈ PyData.shownKv ds, t.length ≤ big m + 12) ∧ (PyData.shownKv ds).length = ds.length
  | [], _ => ⟨by simp only [PyData.showableKv], by simp only [PyData.depthKv]; omega, (fun t h => by simp only [PyData.shownKv] at h; exact nomatch h), by simp only [PyData.shownKv]; rfl⟩
  | (k, d) :: ds, h => by
    obtain ⟨z, e1, e2, h1⟩ := h (k, d) (List.mem_cons_self ..)
    dsimp only at e1 h1
    subst e1
    obtain ⟨a, b, c, e⟩ := ok_kv ds fun x hx => h x (List.mem_cons_of_mem _ hx)
    refine ⟨by simp only [PyData.showableKv, PyData.showable, h1.s, a, Bool.and_self], ?_, fun t ht => ?_, ?_⟩
    · simp only [PyData.depthKv, PyData.depth]
      have := h1.d
      omega
    · simp only [PyData.shownKv, List.mem_cons] at ht
      rcases ht with rfl | ht
      · rw [strLen_append, strLen_append]
        simp only [PyData.shown]
        have := h1.z
        have e3 : (((": " : String) : Str)).length = 2 := rfl
        omega
      · exact c t ht
    · simp only [PyData.shownKv, List.length_cons, e]
theorem okd_dict {m : Nat} {ds : List (PyData × PyData)} (h : ∀ d ∈ ds, Okp d m) (hl : ds.length ≤ 3) : Okd (.dict ds) (m + 1) := by
  obtain ⟨a, b, c, e⟩ := ok_kv ds h
  refine ⟨by simp only [PyData.showable, a], by simp only [PyData.depth]; omega, ?_⟩
  simp only [PyData.shown]
  have h1 := dictText_le (PyData.shownKv ds)
  have h2 := piled_le _ c
  have h3 := three_le (b := big m + 12) (show (PyData.shownKv ds).length ≤ 3 by omega)
  show _ ≤ 3 * (big m + 20) + 10
  omega
/-- a key and a value of such a dict -/
def Okv (H : Hp) (m : Nat) (kv : Key × V) : Prop := ∃ (z : Str) (d : PyData), kv.1 = .inr z ∧ (reprText z).length ≤ 10 ∧ Dat H kv.2 d ∧ Okd d m
theorem dat_kv {H : Hp} {m : Nat} : ∀ kvs : List (Key × V), (∀ kv ∈ kvs, Okv H m kv) → ∃ ds, DatKv H kvs ds ∧ (∀ d ∈ ds, Okp d m) ∧ ds.length = kvs.length
  | [], _ => ⟨[], .nil, (fun _ h => nomatch h), rfl⟩
  | (k, v) :: kvs, h => by
    obtain ⟨z, d, e1, e2, e3, e4⟩ := h (k, v) (List.mem_cons_self ..)
    obtain ⟨ds, a, b, c⟩ := dat_kv kvs fun x hx => h x (List.mem_cons_of_mem _ hx)
    refine ⟨(keyD k, d) :: ds, .cons e3 a, fun y hy => ?_, by rw [List.length_cons, List.length_cons, c]⟩
    rcases List.mem_cons.mp hy with rfl | hy
    · dsimp only at e1
      subst e1
      exact ⟨z, rfl, e2, e4⟩
    · exact b y hy
theorem okv_put {H : Hp} {m : Nat} {k : Key} {v : V} (h : Okv H m (k, v)) : ∀ kvs : List (Key × V), (∀ kv ∈ kvs, Okv H m kv) → ∀ kv ∈ putK kvs k v, Okv H m kv := by
  intro kvs hk kv hm
  unfold putK at hm
  split at hm
  · obtain ⟨x, hx, rfl⟩ := List.mem_map.mp hm
    by_cases e : x.1 = k
    · rw [if_pos e, e]
      exact h
    · rw [if_neg e]
      exact hk x hx
  · rcases List.mem_append.mp hm with z | z
    · exact hk kv z
    · rw [List.mem_singleton.mp z]
      exact h
theorem okv_merge {H : Hp} {m : Nat} : ∀ more kvs : List (Key × V), (∀ kv ∈ kvs, Okv H m kv) → (∀ kv ∈ more, Okv H m kv) → ∀ kv ∈ mergeK kvs more, Okv H m kv
  | [], _, h, _ => h
  | (k, v) :: r, kvs, h, h' => okv_merge r (putK kvs k v) (okv_put (h' _ (List.mem_cons_self ..)) kvs h) fun x hx => h' x (List.mem_cons_of_mem _ hx)
theorem dat_dict {H : Hp} {m : Nat} {q : Addr} {kvs : List (Key × V)} (h : ∀ kv ∈ kvs, Okv H m kv) (hl : kvs.length ≤ 3) (e : H q = some (.dK (mergeK [] kvs))) : ∃ d, Dat H (.ref q) d ∧ Okd d (m + 1) := by
  obtain ⟨ds, a, b, c⟩ := dat_kv (mergeK [] kvs) (okv_merge kvs [] (fun _ z => nomatch z) h)
  have hz := length_mergeK kvs []
  rw [List.length_nil] at hz
  exact ⟨_, .dct e a, okd_dict b (by omega)⟩
end E0

set_option Elab.async false
set_option linter.all false
set_option maxRecDepth 100000
set_option maxHeartbeats 4000000
namespace E0
open PySem PySem.Spec PyProof.Rows L2
theorem big_mono : ∀ n : Nat, 40 ≤ big n
  | 0 => Nat.le_refl _
  | n + 1 => by have := big_mono n; show 40 ≤ 3 * (big n + 20) + 10; omega
theorem Okd.up {d : PyData} (h : Okd d 0) (n : Nat) : Okd d n := ⟨h.s, Nat.le_trans h.d (by omega), Nat.le_trans h.z (big_mono n)⟩
theorem same_del {H : Hp} {p : Addr} {o : HO} : Same (del H p) (del (upd H p o) p) := by
  rw [del_upd]
  exact Same.refl _
theorem del_get {H H' : Hp} {p b : Addr} {o : HO} (S : Same (del H p) (del H' p)) (ne : b ≠ p) (e : H b = some o) : H' b = some o := by
  have z := S b o (by rw [del_ne ne]; exact e)
  rw [del_ne ne] at z
  exact z
theorem Paired.snoc {α β : Type} {F : α → β → Prop} {a : α} {b : β} (h : F a b) : ∀ {l : List α} {r : List β}, Paired F l r → Paired F (l ++ [a]) (r ++ [b])
  | _, _, .nil => .cons h .nil
  | _, _, .cons x t => .cons x (Paired.snoc h t)
theorem datAll_get {H : Hp} {x : V} : ∀ {xs : List V} {ds : List PyData} {i : Nat}, DatAll H xs ds → xs[i]? = some x → ∃ d ∈ ds, Dat H x d
  | _, _, i, .nil, e => by simp at e
  | _, _, 0, .cons a _, e => by
    simp at e
    subst e
    exact ⟨_, List.mem_cons_self .., a⟩
  | _, _, i + 1, .cons _ t, e => by
    obtain ⟨d, z1, z2⟩ := datAll_get (i := i) t (by simpa using e)
    exact ⟨d, List.mem_cons_of_mem _ z1, z2⟩
theorem Okv.same {H H' : Hp} {m : Nat} {kv : Key × V} (h : Okv H m kv) (S : Same H H') : Okv H' m kv := by
  obtain ⟨z, d, h1, h2, h3, h4⟩ := h
  exact ⟨z, d, h1, h2, h3.same S, h4⟩
theorem key_len {i : Nat} (h : i < 3) : (reprText (Str.ofString (toString ((i : Nat) : Int)))).length ≤ 10 := by
  have e : i = 0 ∨ i = 1 ∨ i = 2 := by omega
  rcases e with rfl | rfl | rfl <;> decide +kernel
section
variable {P : Program} {w : World} {K : PySem.W.Frag} {mg : Str → Option Value} {base : Heap}
theorem ok_value_of {j n : Nat} {f fD fP : Addr} {fd fdD fdP : FuncData} (Vl : Has K mg "_law_value" sValue ["pot", "deep"] f fd) (D : Has K mg "_law_draw" sDraw ["pot", "many"] fD fdD) (Pl : Has K mg "_law_plain" sPlain ["pot"] fP fdP) (B : Blt mg)
    (sp' : Sp) (h2 : 2 ≤ j) (G : FnOk P w K mg base CX0 j f fd ["pot", "deep"] sp') (hsp : ∀ m, n = m + 1 → sp' = spValue m) : FnOk P w K mg base CX0 (j + 1) f fd ["pot", "deep"] (spValue n) := by
  have GD : FnOk P w K mg base CX0 1 fD fdD ["pot", "many"] spDraw := ok_draw D.F B
  have GP : FnOk P w K mg base CX0 2 fP fdP ["pot"] spPlain := ok_plain Pl.F D B
  refine Vl.F.ok scValue (fun vs H Q E h => ?_) (fun cdv A outer s H vs Q E hr h => ?_)
  · obtain ⟨p, c, rfl, _⟩ := h
    rfl
  · obtain ⟨p, c, rfl, hp, hc, q⟩ := h
    have hr1 : Room 1 _ := hr.mono (by omega)
    have hr2 : Room 2 _ := hr.mono h2
    refine ⟨_, pss_cons (ps_set (i := 2) scValue.nd rfl (.inl rfl) (pe_call GD hr1 rfl D.g D.F.kp D.b .nil pass0 (pa_cons (pv 0) (pa_cons pe_int pa_nil))))
      (pss_cons (ps_if (pw_or (pt_cmpR op_eq (pv 1) pe_int (nomark _)) (pw_or1 (pt_cmpR op_lt (pv 2) pe_int (nomark _)))).pt (pss_one (ps_ret (pe_call GP hr2 rfl Pl.g Pl.F.kp Pl.b .nil pass0 (pa_cons (pv 0) pa_nil)))) pss_nil)
      (pss_cons (ps_setLc (i := 3) (own := [("turn", 4)]) (g := gName 4) (tt := tYes) rfl scValue.nd rfl rfl (sw_true rfl rfl rfl (by decide +kernel)) (pi_range1 rfl B.range (pa_cons (pe_call GD hr1 rfl D.g D.F.kp D.b .nil pass0 (pa_cons (pv 0) (pa_cons pe_int pa_nil))) pa_nil))
          (blkOk_by (N := ["pot", "deep", "way", "parts", "turn", "at", "part"]) (sc := defScope sValue) (by decide +kernel)) (fun _ _ _ _ _ => pg_name (i := 4) scValue.nd rfl (Or.inl rfl)) (fun _ _ _ _ _ => pts_nil)
          (fun _ _ _ _ _ => pe_call G hr rfl Vl.g Vl.F.kp Vl.b .nil pass0 (pa_cons (pv 0) (pa_cons (pe_op op_sub (pv 1) pe_int) pa_nil))))
      (pss_cons (ps_if (pt_cmpR op_eq (pv 2) pe_int (nomark _)) (pss_one (ps_ret (pv 3))) pss_nil)
      (pss_cons (ps_if (pt_cmpR op_eq (pv 2) pe_int (nomark _)) (pss_one (ps_ret (pe_tupleOf rfl B.tuple (pv 3)))) pss_nil)
      (pss_one (ps_ret (pe_callTy (call_dictP rfl) (by rfl) B.dict (by decide +kernel) (pa_cons
        (pe_lc (own := [("at", 5), ("part", 6)]) (g := gTup K 2 (gCons (gName 5) (gCons (gName 6) gNil))) (tt := tYes) rfl scValue.nd (pi_enum rfl B.enum (pa_cons (pv 3) pa_nil)) (blkOk_by (N := ["pot", "deep", "way", "parts", "turn", "at", "part"]) (sc := defScope sValue) (by decide +kernel))
          (fun _ _ _ _ _ => by exact pg_tup rfl (pgs_cons (pg_name (i := 5) scValue.nd rfl (.inl rfl)) (pgs_cons (pg_name (i := 6) scValue.nd rfl (.inl rfl)) pgs_nil))) (fun _ _ _ _ _ => pts_nil)
          (fun _ _ _ _ _ => pe_tup (pa_cons (pe_callTy call_str_int (by rfl) B.str (by decide +kernel) (pa_cons (pv 5) pa_nil)) (pa_cons (pv 6) pa_nil)))) pa_nil)))))))), ?_⟩
    have S1 : Same (del H p) (del H p) := Same.refl _
    refine ⟨_, rfl, p, c, 5, rfl, hp, by omega, by decide, by decide, fun way o w0 w1 hp1 => ?_⟩
    have cp := cnt_pos n
    have plain : ∀ {σ : L2.St}, σ[0]? = some (some (V.ref p)) → (tRet (tCall spPlain [] E0 (tCons (tVar 0) tNil))) { nx := fun _ H' => Q .non H', rt := Q } σ (upd H p o) := fun {σ} e =>
      ⟨_, e, p, c + 1, rfl, hp1, by omega, fun v d H' D' O P' S => q v d H' (D'.same fun b u e => by
        obtain ⟨z1, z2⟩ := of_fresh e
        refine fresh_at ?_ z2
        by_cases eb : b = p
        · rw [eb, upd_same] at z1
          cases z1
        · rw [upd_ne eb] at z1
          exact z1) (O.up n) (P'.mono rfl (by omega)) (same_del.trans S)⟩
    refine ⟨_, rfl, rfl, _, rfl, ?_⟩
    refine ite2 (fun _ => ?_) (fun hn => ?_)
    · refine iteT ?_
      exact plain rfl
    refine ⟨_, rfl, _, _, rfl, rfl, _, rfl, ?_⟩
    refine ite2 (fun _ => plain rfl) (fun _ => ?_)
    cases n with
    | zero => exact absurd (decide_eq_true rfl) hn
    | succ m =>
    have esp := hsp m rfl
    subst esp
    have cm : cnt (m + 1) = 3 * cnt m + 3 := rfl
    refine ⟨_, rfl, p, c + 1, 4, rfl, hp1, by omega, by decide, by decide, fun k o2 k0 k1 hp2 => ⟨k, rfl, by omega, by omega, fun L hL => ?_⟩⟩
    have npL := hp2.ne hL
    have hL0 : H L = none := by rw [upd_ne npL.symm, upd_ne npL.symm] at hL; exact hL
    have hp0 : ∃ u, H p = some u := by obtain ⟨a, b, d, h1, _⟩ := hp; exact ⟨_, h1⟩
    refine lc_range (lo := 0) (n := k.toNat) (fun i H' => ∃ (xs : List V) (ds : List PyData), H' L = some (.lst xs) ∧ DatAll (fresh (upd H L (.lst [])) H') xs ds ∧ (∀ d ∈ ds, Okd d m) ∧ xs.length = i ∧ Pot H' p (c + 2 + i * cnt m) ∧ Same (del H p) (del H' p))
      ⟨[], [], upd_same, .nil, (fun _ z => nomatch z), rfl, hp2.mono (upd_ne npL) (by omega), fun b u e => ?_⟩ ?_ ?_
    · have hb : b ≠ p := fun z => by rw [z, del_same] at e; cases e
      rw [del_ne hb] at e ⊢
      rw [upd_ne (fun z => by rw [z, hL0] at e; cases e), upd_ne hb, upd_ne hb]
      exact e
    · rintro i H' hi ⟨xs, ds, hl, hd, ho, hx, hp', S⟩
      have hi3 : i ≤ 2 := by omega
      have hcm : i * cnt m ≤ 2 * cnt m := Nat.mul_le_mul_right _ hi3
      refine ⟨rfl, tYes_of ?_⟩
      refine ⟨_, rfl, _, rfl, _, _, rfl, rfl, p, c + 2 + i * cnt m, ?_, hp', by omega, fun v d H'' D O P' S' => ?_⟩
      · show [V.ref p, V.int (((m + 1 : Nat) : Int) - 1)] = _
        have e : (((m + 1 : Nat) : Int) - 1) = ((m : Nat) : Int) := by omega
        rw [e]
      have hl' : H'' L = some (.lst xs) := del_get S' npL.symm hl
      refine ⟨xs, hl', by rw [hx]; exact small1000 (by omega), xs ++ [v], ds ++ [d], upd_same, DatAll.snoc (hd.same fun b u e => ?_) (D.same fun b u e => ?_), fun y hy => ?_, by rw [List.length_append, hx]; rfl, P'.mono (upd_ne npL) (by rw [Nat.add_mul]; omega), fun b u e => ?_⟩
      · obtain ⟨z1, z2⟩ := of_fresh e
        have bL : b ≠ L := fun z => by rw [z, upd_same] at z1; cases z1
        have bp : b ≠ p := fun z => by
          obtain ⟨u, hu⟩ := hp0
          rw [z, upd_ne npL, hu] at z1
          cases z1
        exact fresh_at z1 (by rw [upd_ne bL]; exact del_get S' bp z2)
      · obtain ⟨z1, z2⟩ := of_fresh e
        have bL : b ≠ L := fun z => by rw [z, hl] at z1; cases z1
        have bp : b ≠ p := fun z => by
          obtain ⟨_, _, _, h1, _⟩ := hp'
          rw [z, h1] at z1
          cases z1
        refine fresh_at ?_ (by rw [upd_ne bL]; exact z2)
        rw [upd_ne bL]
        cases hb : H b with
        | none => rfl
        | some w' =>
          rw [del_get S bp hb] at z1
          cases z1
      · rcases List.mem_append.mp hy with z | z
        · exact ho y z
        · rw [List.mem_singleton.mp z]
          exact O
      · have bp : b ≠ p := fun z => by rw [z, del_same] at e; cases e
        rw [del_ne bp] at e ⊢
        rw [upd_ne (fun z => by rw [z, hL0] at e; cases e)]
        exact del_get S' bp (del_get S bp e)
    · rintro H3 ⟨xs, ds, hl, hd, ho, hx, hp3, S⟩
      have hcm : k.toNat * cnt m ≤ 3 * cnt m := Nat.mul_le_mul_right _ (by omega)
      have hlen : ds.length ≤ 3 := by rw [← hd.len, hx]; omega
      have hp4 : ∀ {H4 : Hp}, H4 p = H3 p → Pot H4 p (c + cnt (m + 1)) := fun e => hp3.mono e (by omega)
      have subF : ∀ {H4 : Hp}, Same H3 H4 → Same (fresh (upd H L (.lst [])) H3) (fresh H H4) := fun s4 b u e => by
        obtain ⟨z1, z2⟩ := of_fresh e
        have bL : b ≠ L := fun z => by rw [z, upd_same] at z1; cases z1
        rw [upd_ne bL] at z1
        exact fresh_at z1 (s4 _ _ z2)
      have h0 : ∀ {t : Addr}, H3 t = none → H t = none ∧ t ≠ p := fun {t} e => by
        have tp : t ≠ p := fun z => by
          obtain ⟨_, _, _, h1, _⟩ := hp3
          rw [z, h1] at e
          cases e
        refine ⟨?_, tp⟩
        cases hb : H t with
        | none => rfl
        | some u =>
          rw [del_get S tp hb] at e
          cases e
      have sd : ∀ {H4 : Hp}, Same H3 H4 → Same (del H p) (del H4 p) := fun s4 b u e => by
        have bp : b ≠ p := fun z => by rw [z, del_same] at e; cases e
        rw [del_ne bp] at e ⊢
        exact s4 _ _ (del_get S bp e)
      refine ⟨_, rfl, rfl, _, rfl, ?_⟩
      refine ite2 (fun _ => ?_) (fun _ => ?_)
      · exact ⟨_, rfl, q _ _ H3 (.lst (fresh_at hL0 hl) (hd.same (subF (Same.refl _)))) (okd_list ho hlen) (hp4 rfl) S⟩
      refine ⟨_, rfl, rfl, _, rfl, ?_⟩
      refine ite2 (fun _ => ?_) (fun _ => ?_)
      · refine ⟨_, rfl, .inl ⟨L, xs, rfl, SqL.of hl, fun t ht => ?_⟩⟩
        have st : Same H3 (upd H3 t (.tup xs)) := fun b u e => by rw [upd_ne (ne_of_none e ht)]; exact e
        obtain ⟨z1, z2⟩ := h0 ht
        exact q _ _ _ (.tup (fresh_at z1 upd_same) (hd.same (subF st))) (okd_tuple ho hlen) (hp4 (upd_ne z2.symm)) (sd st)
      · have hxs3 : xs.length ≤ 3 := by omega
        refine ⟨_, rfl, L, xs, rfl, SqL.of hl, fun M hM => lc_enum (K := K) (a := L) (xs := xs) (fun i H' => ∃ (ps : List Addr) (kvs : List (Key × V)), H' M = some (.lst (ps.map V.ref)) ∧ Paired (fun q kv => H' q = some (.tup [kV kv.1, kv.2])) ps kvs ∧ (∀ kv ∈ kvs, Okv (fresh H H3) m kv) ∧ ps.length = i ∧ Same H3 H')
          ⟨[], [], upd_same, .nil, (fun _ z => nomatch z), rfl, fun b u e => by rw [upd_ne (ne_of_none e hM)]; exact e⟩ (fun i H' _ ⟨_, _, _, _, _, _, s⟩ => SqL.of (s _ _ hl)) ?_ ?_⟩
        · rintro i x H' T hx' ⟨ps, kvs, hm, hpr, hk, hps, s3⟩ hT
          have hi : i < xs.length := (List.getElem?_eq_some_iff.mp hx').1
          have nMT : M ≠ T := ne_of_none hm hT
          refine ⟨T, _, rfl, SqT.of upd_same, rfl, _, _, rfl, _, _, rfl, rfl, rfl, tYes_of ?_⟩
          refine ⟨_, rfl, _, rfl, ?_, _, rfl, (by show 2 ≤ sizeLine; decide), fun U hU => ?_⟩
          · have e : i = 0 ∨ i = 1 ∨ i = 2 := by omega
            rcases e with rfl | rfl | rfl <;> decide +kernel
          have hm2 : upd H' T (.tup [V.int (i : Nat), x]) M = some (.lst (ps.map V.ref)) := by rw [upd_ne nMT]; exact hm
          have nMU : M ≠ U := ne_of_none hm2 hU
          have sU : Same H' (upd (upd H' T (.tup [V.int (i : Nat), x])) U (.tup [V.str (Str.ofString (toString ((i : Nat) : Int))), x])) := fun b u e => by
            have bT := ne_of_none e hT
            have e2 : upd H' T (.tup [V.int (i : Nat), x]) b = some u := by rw [upd_ne bT]; exact e
            rw [upd_ne (ne_of_none e2 hU)]
            exact e2
          have sM : ∀ {b : Addr} {u : HO} {w : HO}, b ≠ M → H' b = some u → upd (upd (upd H' T (.tup [V.int (i : Nat), x])) U (.tup [V.str (Str.ofString (toString ((i : Nat) : Int))), x])) M w b = some u := fun ne e => by
            rw [upd_ne ne]
            exact sU _ _ e
          obtain ⟨d, hdm, hD⟩ := datAll_get hd hx'
          refine ⟨ps.map V.ref, (by rw [upd_ne nMU]; exact hm2), (by rw [List.length_map]; exact small1000 (by omega)), ps ++ [U], kvs ++ [(Sum.inr (Str.ofString (toString ((i : Nat) : Int))), x)], (by rw [upd_same, List.map_append]; rfl), ?_, fun kv hkv => ?_, (by rw [List.length_append, hps]; rfl), fun b u e => ?_⟩
          · refine Paired.snoc ?_ (Paired.mapP hpr fun q kv e => sM (fun z => by rw [z, hm] at e; cases e) e)
            rw [upd_ne nMU.symm, upd_same]
            rfl
          · rcases List.mem_append.mp hkv with z | z
            · exact hk kv z
            · rw [List.mem_singleton.mp z]
              exact ⟨_, d, rfl, key_len (by omega), hD.same (subF (Same.refl _)), ho d hdm⟩
          · exact sM (ne_of_none e hM) (s3 _ _ e)
        · rintro H5 ⟨ps, kvs, hm, hpr, hk, hps, s3⟩
          refine ⟨M, ps, kvs, rfl, SqL.of hm, Paired.mapP hpr fun _ _ e => SqT.of e, fun t ht => ?_⟩
          have s5 : Same H3 (upd H5 t (.dK (mergeK [] kvs))) := fun b u e => by rw [upd_ne (ne_of_none (s3 _ _ e) ht)]; exact s3 _ _ e
          obtain ⟨z1, z2⟩ := h0 (s3.free ht)
          obtain ⟨d, D1, O1⟩ := dat_dict (H := fresh H (upd H5 t (.dK (mergeK [] kvs)))) (m := m) (q := t) (kvs := kvs) (fun kv hkv => (hk kv hkv).same fun b u e => by
            obtain ⟨y1, y2⟩ := of_fresh e
            exact fresh_at y1 (s5 _ _ y2)) (by rw [← Paired.length hpr]; omega) (fresh_at z1 upd_same)
          exact q _ d _ D1 O1 (hp4 (by rw [upd_ne z2.symm]; obtain ⟨_, _, _, h1, _⟩ := hp3; rw [h1]; exact s3 _ _ h1)) (sd s5)
theorem ok_value {f fD fP : Addr} {fd fdD fdP : FuncData} (Vl : Has K mg "_law_value" sValue ["pot", "deep"] f fd) (D : Has K mg "_law_draw" sDraw ["pot", "many"] fD fdD) (Pl : Has K mg "_law_plain" sPlain ["pot"] fP fdP) (B : Blt mg) :
    ∀ n : Nat, FnOk P w K mg base CX0 (n + 3) f fd ["pot", "deep"] (spValue n)
  | 0 => ok_value_of Vl D Pl B (fun _ _ _ _ => False) (Nat.le_refl _) ⟨fun _ _ _ _ h => h.elim, fun _ _ _ _ _ _ _ _ _ _ _ _ _ h => h.elim⟩ (fun _ e => nomatch e)
  | n + 1 => ok_value_of Vl D Pl B (spValue n) (by omega) (ok_value Vl D Pl B n) (fun m e => by cases e; rfl)
end
end E0

set_option Elab.async false
set_option linter.all false
set_option maxRecDepth 100000
set_option maxHeartbeats 4000000
namespace E0
open PySem PySem.Spec PyProof.Rows L2
def names : List Str := ["SightError", "InvalidSaying", "InvalidPlay", "InvalidAnswers", "InvalidClause", "InvalidNumber", "InvalidName", "InvalidStep", "InvalidRefutation", "NoAnswers", "Holds", "InvalidSight", "NotPlain", "NotTwos", "InvalidSums", "InvalidNet", "InvalidGoal", "InvalidTables", "InvalidMarked", "InvalidCut", "Broken", "Nothing", "Unreadable", "InvalidCommand", "NotReady"]
/-- the error classes as the text leaves them -/
structure Errs (K : PySem.W.Frag) (mg : Str → Option Value) (fI : Addr) (fdI : FuncData) (cs : Nat → Addr) : Prop where
  c : ∀ w : Nat, w < 25 → ErrC K fI (cs w)
  g : ∀ w : Nat, w < 25 → mg (names.getD w "") = some (.ref (cs w))
  F : Fun K "__init__" "SightError.__init__" sInit fI fdI
  t : PySem.W.typeIn K (.ref fI) = some (.type "function")
  hn : PySem.W.specialIn K (.builtin "object.__class__") "__get__" = some (some (.builtin "getset_descriptor.__get__"))
  ht : PySem.W.takesIn K (.builtin "object.__class__") = some true
  s : ∀ w k : Nat, w < 25 → k < 25 → PySem.W.kitOne K (.ref (cs w)) (.ref (cs k)) = some (decide (k = 0 ∨ k = w))
  v : ∀ w : Nat, w < 25 → PySem.W.kitOne K (.ref (cs w)) (.type "ValueError") = some true
/-- a new error of a class -/
def spMade (cs : Nat → Addr) (lo hi : Nat) : Sp := fun vs H Q _ => ∃ (w : Nat) (v : V) (nm : Bool), vs = [.int (w : Nat), v, .bl nm] ∧ lo ≤ w ∧ w < hi ∧ ∀ (a d : Addr) (H2 : Hp), H a = none → H d = none → d ≠ a → Err H2 a d (cs w) v → Same H H2 → Q (.ref a) H2
theorem arm {C : Addr} {σ : L2.St} {Q : VK} {H : Hp} {nm : Bool} {v : V} (h1 : σ[1]? = some (some v)) (h2 : σ[2]? = some (some (.bl nm))) (q : ∀ (a d : Addr) (H2 : Hp), H a = none → H d = none → d ≠ a → Err H2 a d C v → Same H H2 → Q (.ref a) H2) :
    tIf (tB (tVar 2)) (tMkE C (tVar 1)) (tMkE C (tVar 1)) σ H Q := by
  refine ⟨_, h2, nm, rfl, ?_⟩
  cases nm
  · exact ⟨_, h1, q⟩
  · exact ⟨_, h1, q⟩
theorem way_is {w k : Nat} (h : decide (V.int (w : Nat) = V.int ((k : Nat) : Int)) = true) : w = k := by
  have e := V.int.inj (of_decide_eq_true h)
  omega
theorem way_not {w k : Nat} (h : ¬ decide (V.int (w : Nat) = V.int ((k : Nat) : Int)) = true) : w ≠ k := fun e => h (by rw [e]; exact decide_eq_true rfl)
section
variable {P : Program} {w : World} {K : PySem.W.Frag} {mg : Str → Option Value} {base : Heap} {cs : Nat → Addr} {fI : Addr} {fdI : FuncData}
theorem scI : FnScope ["self", "value"] ["self", "value"] (defScope sInit) := ⟨rfl, rfl, rfl, by decide +kernel, rfl, by decide +kernel, by decide +kernel⟩
theorem ok_init (F : Fun K "__init__" "SightError.__init__" sInit fI fdI) : FnOk P w K mg base CX0 1 fI fdI ["self", "value"] (spInit K) := by
  refine F.ok scI (fun vs H Q E h => ?_) (fun cdv A outer s H vs Q E hr h => ?_)
  · obtain ⟨a, C, v, rfl, _⟩ := h
    rfl
  · obtain ⟨a, C, v, rfl, T, no, ha, q⟩ := h
    exact ⟨_, pss_one (ps_ost (pv 0) (pv 1)), ⟨_, rfl, _, rfl, a, C, rfl, T, no, .inl ⟨ha, q⟩⟩⟩
theorem init_pos (F : Fun K "__init__" "SightError.__init__" sInit fI fdI) (s : Shared) (a u : Value) : BindsTo s fdI ⟨[a, u], []⟩ ((["self", "value"] : List Str).zip [a, u]) := by
  obtain ⟨oc, od, kV, doc, pm, an, cdv, ct, osl, rfl, lk, hcd⟩ := F.ex
  exact .of_eq rfl
theorem init_key (F : Fun K "__init__" "SightError.__init__" sInit fI fdI) (s : Shared) (a u : Value) : BindsTo s fdI ⟨[a], [("value", u)]⟩ ((["self", "value"] : List Str).zip [a, u]) := by
  obtain ⟨oc, od, kV, doc, pm, an, cdv, ct, osl, rfl, lk, hcd⟩ := F.ex
  exact .of_eq (by first | rfl | with_unfolding_all rfl | kernel_rfl)
theorem sc_first : FnScope ["way", "value", "named"] ["way", "value", "named"] (defScope sFirst) := ⟨rfl, rfl, rfl, by decide +kernel, rfl, by decide +kernel, by decide +kernel⟩
theorem ok_first {f : Addr} {fd : FuncData} (F : Fun K "_law_first" "_law_first" sFirst f fd) (S : Errs K mg fI fdI cs) : FnOk P w K mg base CX0 3 f fd ["way", "value", "named"] (spMade cs 0 9) := by
  have GI : FnOk P w K mg base CX0 1 fI fdI ["self", "value"] (spInit K) := ok_init S.F
  refine F.ok sc_first (fun vs H Q E h => ?_) (fun cdv A outer s H vs Q E hr h => ?_)
  · obtain ⟨x, v, nm, rfl, _⟩ := h
    rfl
  · obtain ⟨x, v, nm, rfl, lo, hi, q⟩ := h
    have hr2 : Room 2 _ := hr
    refine ⟨_, (pss_cons (ps_if (pt_cmpR op_eq (pv 0) pe_int (nomark _)) (pss_one (ps_ret (pe_ifExp (pt_val (pv 2)) (pe_errK (S.c 0 (by decide)) S.t GI hr2 (init_key S.F) (by rfl) (S.g 0 (by decide)) (pv 1)) (pe_err (S.c 0 (by decide)) S.t GI hr2 (init_pos S.F) (by rfl) (S.g 0 (by decide)) (pv 1))))) pss_nil) (pss_cons (ps_if (pt_cmpR op_eq (pv 0) pe_int (nomark _)) (pss_one (ps_ret (pe_ifExp (pt_val (pv 2)) (pe_errK (S.c 1 (by decide)) S.t GI hr2 (init_key S.F) (by rfl) (S.g 1 (by decide)) (pv 1)) (pe_err (S.c 1 (by decide)) S.t GI hr2 (init_pos S.F) (by rfl) (S.g 1 (by decide)) (pv 1))))) pss_nil) (pss_cons (ps_if (pt_cmpR op_eq (pv 0) pe_int (nomark _)) (pss_one (ps_ret (pe_ifExp (pt_val (pv 2)) (pe_errK (S.c 2 (by decide)) S.t GI hr2 (init_key S.F) (by rfl) (S.g 2 (by decide)) (pv 1)) (pe_err (S.c 2 (by decide)) S.t GI hr2 (init_pos S.F) (by rfl) (S.g 2 (by decide)) (pv 1))))) pss_nil) (pss_cons (ps_if (pt_cmpR op_eq (pv 0) pe_int (nomark _)) (pss_one (ps_ret (pe_ifExp (pt_val (pv 2)) (pe_errK (S.c 3 (by decide)) S.t GI hr2 (init_key S.F) (by rfl) (S.g 3 (by decide)) (pv 1)) (pe_err (S.c 3 (by decide)) S.t GI hr2 (init_pos S.F) (by rfl) (S.g 3 (by decide)) (pv 1))))) pss_nil) (pss_cons (ps_if (pt_cmpR op_eq (pv 0) pe_int (nomark _)) (pss_one (ps_ret (pe_ifExp (pt_val (pv 2)) (pe_errK (S.c 4 (by decide)) S.t GI hr2 (init_key S.F) (by rfl) (S.g 4 (by decide)) (pv 1)) (pe_err (S.c 4 (by decide)) S.t GI hr2 (init_pos S.F) (by rfl) (S.g 4 (by decide)) (pv 1))))) pss_nil) (pss_cons (ps_if (pt_cmpR op_eq (pv 0) pe_int (nomark _)) (pss_one (ps_ret (pe_ifExp (pt_val (pv 2)) (pe_errK (S.c 5 (by decide)) S.t GI hr2 (init_key S.F) (by rfl) (S.g 5 (by decide)) (pv 1)) (pe_err (S.c 5 (by decide)) S.t GI hr2 (init_pos S.F) (by rfl) (S.g 5 (by decide)) (pv 1))))) pss_nil) (pss_cons (ps_if (pt_cmpR op_eq (pv 0) pe_int (nomark _)) (pss_one (ps_ret (pe_ifExp (pt_val (pv 2)) (pe_errK (S.c 6 (by decide)) S.t GI hr2 (init_key S.F) (by rfl) (S.g 6 (by decide)) (pv 1)) (pe_err (S.c 6 (by decide)) S.t GI hr2 (init_pos S.F) (by rfl) (S.g 6 (by decide)) (pv 1))))) pss_nil) (pss_cons (ps_if (pt_cmpR op_eq (pv 0) pe_int (nomark _)) (pss_one (ps_ret (pe_ifExp (pt_val (pv 2)) (pe_errK (S.c 7 (by decide)) S.t GI hr2 (init_key S.F) (by rfl) (S.g 7 (by decide)) (pv 1)) (pe_err (S.c 7 (by decide)) S.t GI hr2 (init_pos S.F) (by rfl) (S.g 7 (by decide)) (pv 1))))) pss_nil) (pss_one (ps_ret (pe_ifExp (pt_val (pv 2)) (pe_errK (S.c 8 (by decide)) S.t GI hr2 (init_key S.F) (by rfl) (S.g 8 (by decide)) (pv 1)) (pe_err (S.c 8 (by decide)) S.t GI hr2 (init_pos S.F) (by rfl) (S.g 8 (by decide)) (pv 1))))))))))))), ?_⟩
    refine ⟨_, rfl, rfl, _, rfl, ite2 (fun e => ?_) (fun e => ?_)⟩
    · obtain rfl : x = 0 := way_is e
      exact arm rfl rfl q
    have n0 : x ≠ 0 := way_not e
    refine ⟨_, rfl, rfl, _, rfl, ite2 (fun e => ?_) (fun e => ?_)⟩
    · obtain rfl : x = 1 := way_is e
      exact arm rfl rfl q
    have n1 : x ≠ 1 := way_not e
    refine ⟨_, rfl, rfl, _, rfl, ite2 (fun e => ?_) (fun e => ?_)⟩
    · obtain rfl : x = 2 := way_is e
      exact arm rfl rfl q
    have n2 : x ≠ 2 := way_not e
    refine ⟨_, rfl, rfl, _, rfl, ite2 (fun e => ?_) (fun e => ?_)⟩
    · obtain rfl : x = 3 := way_is e
      exact arm rfl rfl q
    have n3 : x ≠ 3 := way_not e
    refine ⟨_, rfl, rfl, _, rfl, ite2 (fun e => ?_) (fun e => ?_)⟩
    · obtain rfl : x = 4 := way_is e
      exact arm rfl rfl q
    have n4 : x ≠ 4 := way_not e
    refine ⟨_, rfl, rfl, _, rfl, ite2 (fun e => ?_) (fun e => ?_)⟩
    · obtain rfl : x = 5 := way_is e
      exact arm rfl rfl q
    have n5 : x ≠ 5 := way_not e
    refine ⟨_, rfl, rfl, _, rfl, ite2 (fun e => ?_) (fun e => ?_)⟩
    · obtain rfl : x = 6 := way_is e
      exact arm rfl rfl q
    have n6 : x ≠ 6 := way_not e
    refine ⟨_, rfl, rfl, _, rfl, ite2 (fun e => ?_) (fun e => ?_)⟩
    · obtain rfl : x = 7 := way_is e
      exact arm rfl rfl q
    have n7 : x ≠ 7 := way_not e
    obtain rfl : x = 8 := by omega
    exact arm rfl rfl q
theorem sc_second : FnScope ["way", "value", "named"] ["way", "value", "named"] (defScope sSecond) := ⟨rfl, rfl, rfl, by decide +kernel, rfl, by decide +kernel, by decide +kernel⟩
theorem ok_second {f : Addr} {fd : FuncData} (F : Fun K "_law_second" "_law_second" sSecond f fd) (S : Errs K mg fI fdI cs) : FnOk P w K mg base CX0 3 f fd ["way", "value", "named"] (spMade cs 9 18) := by
  have GI : FnOk P w K mg base CX0 1 fI fdI ["self", "value"] (spInit K) := ok_init S.F
  refine F.ok sc_second (fun vs H Q E h => ?_) (fun cdv A outer s H vs Q E hr h => ?_)
  · obtain ⟨x, v, nm, rfl, _⟩ := h
    rfl
  · obtain ⟨x, v, nm, rfl, lo, hi, q⟩ := h
    have hr2 : Room 2 _ := hr
    refine ⟨_, (pss_cons (ps_if (pt_cmpR op_eq (pv 0) pe_int (nomark _)) (pss_one (ps_ret (pe_ifExp (pt_val (pv 2)) (pe_errK (S.c 9 (by decide)) S.t GI hr2 (init_key S.F) (by rfl) (S.g 9 (by decide)) (pv 1)) (pe_err (S.c 9 (by decide)) S.t GI hr2 (init_pos S.F) (by rfl) (S.g 9 (by decide)) (pv 1))))) pss_nil) (pss_cons (ps_if (pt_cmpR op_eq (pv 0) pe_int (nomark _)) (pss_one (ps_ret (pe_ifExp (pt_val (pv 2)) (pe_errK (S.c 10 (by decide)) S.t GI hr2 (init_key S.F) (by rfl) (S.g 10 (by decide)) (pv 1)) (pe_err (S.c 10 (by decide)) S.t GI hr2 (init_pos S.F) (by rfl) (S.g 10 (by decide)) (pv 1))))) pss_nil) (pss_cons (ps_if (pt_cmpR op_eq (pv 0) pe_int (nomark _)) (pss_one (ps_ret (pe_ifExp (pt_val (pv 2)) (pe_errK (S.c 11 (by decide)) S.t GI hr2 (init_key S.F) (by rfl) (S.g 11 (by decide)) (pv 1)) (pe_err (S.c 11 (by decide)) S.t GI hr2 (init_pos S.F) (by rfl) (S.g 11 (by decide)) (pv 1))))) pss_nil) (pss_cons (ps_if (pt_cmpR op_eq (pv 0) pe_int (nomark _)) (pss_one (ps_ret (pe_ifExp (pt_val (pv 2)) (pe_errK (S.c 12 (by decide)) S.t GI hr2 (init_key S.F) (by rfl) (S.g 12 (by decide)) (pv 1)) (pe_err (S.c 12 (by decide)) S.t GI hr2 (init_pos S.F) (by rfl) (S.g 12 (by decide)) (pv 1))))) pss_nil) (pss_cons (ps_if (pt_cmpR op_eq (pv 0) pe_int (nomark _)) (pss_one (ps_ret (pe_ifExp (pt_val (pv 2)) (pe_errK (S.c 13 (by decide)) S.t GI hr2 (init_key S.F) (by rfl) (S.g 13 (by decide)) (pv 1)) (pe_err (S.c 13 (by decide)) S.t GI hr2 (init_pos S.F) (by rfl) (S.g 13 (by decide)) (pv 1))))) pss_nil) (pss_cons (ps_if (pt_cmpR op_eq (pv 0) pe_int (nomark _)) (pss_one (ps_ret (pe_ifExp (pt_val (pv 2)) (pe_errK (S.c 14 (by decide)) S.t GI hr2 (init_key S.F) (by rfl) (S.g 14 (by decide)) (pv 1)) (pe_err (S.c 14 (by decide)) S.t GI hr2 (init_pos S.F) (by rfl) (S.g 14 (by decide)) (pv 1))))) pss_nil) (pss_cons (ps_if (pt_cmpR op_eq (pv 0) pe_int (nomark _)) (pss_one (ps_ret (pe_ifExp (pt_val (pv 2)) (pe_errK (S.c 15 (by decide)) S.t GI hr2 (init_key S.F) (by rfl) (S.g 15 (by decide)) (pv 1)) (pe_err (S.c 15 (by decide)) S.t GI hr2 (init_pos S.F) (by rfl) (S.g 15 (by decide)) (pv 1))))) pss_nil) (pss_cons (ps_if (pt_cmpR op_eq (pv 0) pe_int (nomark _)) (pss_one (ps_ret (pe_ifExp (pt_val (pv 2)) (pe_errK (S.c 16 (by decide)) S.t GI hr2 (init_key S.F) (by rfl) (S.g 16 (by decide)) (pv 1)) (pe_err (S.c 16 (by decide)) S.t GI hr2 (init_pos S.F) (by rfl) (S.g 16 (by decide)) (pv 1))))) pss_nil) (pss_one (ps_ret (pe_ifExp (pt_val (pv 2)) (pe_errK (S.c 17 (by decide)) S.t GI hr2 (init_key S.F) (by rfl) (S.g 17 (by decide)) (pv 1)) (pe_err (S.c 17 (by decide)) S.t GI hr2 (init_pos S.F) (by rfl) (S.g 17 (by decide)) (pv 1))))))))))))), ?_⟩
    refine ⟨_, rfl, rfl, _, rfl, ite2 (fun e => ?_) (fun e => ?_)⟩
    · obtain rfl : x = 9 := way_is e
      exact arm rfl rfl q
    have n9 : x ≠ 9 := way_not e
    refine ⟨_, rfl, rfl, _, rfl, ite2 (fun e => ?_) (fun e => ?_)⟩
    · obtain rfl : x = 10 := way_is e
      exact arm rfl rfl q
    have n10 : x ≠ 10 := way_not e
    refine ⟨_, rfl, rfl, _, rfl, ite2 (fun e => ?_) (fun e => ?_)⟩
    · obtain rfl : x = 11 := way_is e
      exact arm rfl rfl q
    have n11 : x ≠ 11 := way_not e
    refine ⟨_, rfl, rfl, _, rfl, ite2 (fun e => ?_) (fun e => ?_)⟩
    · obtain rfl : x = 12 := way_is e
      exact arm rfl rfl q
    have n12 : x ≠ 12 := way_not e
    refine ⟨_, rfl, rfl, _, rfl, ite2 (fun e => ?_) (fun e => ?_)⟩
    · obtain rfl : x = 13 := way_is e
      exact arm rfl rfl q
    have n13 : x ≠ 13 := way_not e
    refine ⟨_, rfl, rfl, _, rfl, ite2 (fun e => ?_) (fun e => ?_)⟩
    · obtain rfl : x = 14 := way_is e
      exact arm rfl rfl q
    have n14 : x ≠ 14 := way_not e
    refine ⟨_, rfl, rfl, _, rfl, ite2 (fun e => ?_) (fun e => ?_)⟩
    · obtain rfl : x = 15 := way_is e
      exact arm rfl rfl q
    have n15 : x ≠ 15 := way_not e
    refine ⟨_, rfl, rfl, _, rfl, ite2 (fun e => ?_) (fun e => ?_)⟩
    · obtain rfl : x = 16 := way_is e
      exact arm rfl rfl q
    have n16 : x ≠ 16 := way_not e
    obtain rfl : x = 17 := by omega
    exact arm rfl rfl q
theorem sc_third : FnScope ["way", "value", "named"] ["way", "value", "named"] (defScope sThird) := ⟨rfl, rfl, rfl, by decide +kernel, rfl, by decide +kernel, by decide +kernel⟩
theorem ok_third {f : Addr} {fd : FuncData} (F : Fun K "_law_third" "_law_third" sThird f fd) (S : Errs K mg fI fdI cs) : FnOk P w K mg base CX0 3 f fd ["way", "value", "named"] (spMade cs 18 25) := by
  have GI : FnOk P w K mg base CX0 1 fI fdI ["self", "value"] (spInit K) := ok_init S.F
  refine F.ok sc_third (fun vs H Q E h => ?_) (fun cdv A outer s H vs Q E hr h => ?_)
  · obtain ⟨x, v, nm, rfl, _⟩ := h
    rfl
  · obtain ⟨x, v, nm, rfl, lo, hi, q⟩ := h
    have hr2 : Room 2 _ := hr
    refine ⟨_, (pss_cons (ps_if (pt_cmpR op_eq (pv 0) pe_int (nomark _)) (pss_one (ps_ret (pe_ifExp (pt_val (pv 2)) (pe_errK (S.c 18 (by decide)) S.t GI hr2 (init_key S.F) (by rfl) (S.g 18 (by decide)) (pv 1)) (pe_err (S.c 18 (by decide)) S.t GI hr2 (init_pos S.F) (by rfl) (S.g 18 (by decide)) (pv 1))))) pss_nil) (pss_cons (ps_if (pt_cmpR op_eq (pv 0) pe_int (nomark _)) (pss_one (ps_ret (pe_ifExp (pt_val (pv 2)) (pe_errK (S.c 19 (by decide)) S.t GI hr2 (init_key S.F) (by rfl) (S.g 19 (by decide)) (pv 1)) (pe_err (S.c 19 (by decide)) S.t GI hr2 (init_pos S.F) (by rfl) (S.g 19 (by decide)) (pv 1))))) pss_nil) (pss_cons (ps_if (pt_cmpR op_eq (pv 0) pe_int (nomark _)) (pss_one (ps_ret (pe_ifExp (pt_val (pv 2)) (pe_errK (S.c 20 (by decide)) S.t GI hr2 (init_key S.F) (by rfl) (S.g 20 (by decide)) (pv 1)) (pe_err (S.c 20 (by decide)) S.t GI hr2 (init_pos S.F) (by rfl) (S.g 20 (by decide)) (pv 1))))) pss_nil) (pss_cons (ps_if (pt_cmpR op_eq (pv 0) pe_int (nomark _)) (pss_one (ps_ret (pe_ifExp (pt_val (pv 2)) (pe_errK (S.c 21 (by decide)) S.t GI hr2 (init_key S.F) (by rfl) (S.g 21 (by decide)) (pv 1)) (pe_err (S.c 21 (by decide)) S.t GI hr2 (init_pos S.F) (by rfl) (S.g 21 (by decide)) (pv 1))))) pss_nil) (pss_cons (ps_if (pt_cmpR op_eq (pv 0) pe_int (nomark _)) (pss_one (ps_ret (pe_ifExp (pt_val (pv 2)) (pe_errK (S.c 22 (by decide)) S.t GI hr2 (init_key S.F) (by rfl) (S.g 22 (by decide)) (pv 1)) (pe_err (S.c 22 (by decide)) S.t GI hr2 (init_pos S.F) (by rfl) (S.g 22 (by decide)) (pv 1))))) pss_nil) (pss_cons (ps_if (pt_cmpR op_eq (pv 0) pe_int (nomark _)) (pss_one (ps_ret (pe_ifExp (pt_val (pv 2)) (pe_errK (S.c 23 (by decide)) S.t GI hr2 (init_key S.F) (by rfl) (S.g 23 (by decide)) (pv 1)) (pe_err (S.c 23 (by decide)) S.t GI hr2 (init_pos S.F) (by rfl) (S.g 23 (by decide)) (pv 1))))) pss_nil) (pss_one (ps_ret (pe_ifExp (pt_val (pv 2)) (pe_errK (S.c 24 (by decide)) S.t GI hr2 (init_key S.F) (by rfl) (S.g 24 (by decide)) (pv 1)) (pe_err (S.c 24 (by decide)) S.t GI hr2 (init_pos S.F) (by rfl) (S.g 24 (by decide)) (pv 1))))))))))), ?_⟩
    refine ⟨_, rfl, rfl, _, rfl, ite2 (fun e => ?_) (fun e => ?_)⟩
    · obtain rfl : x = 18 := way_is e
      exact arm rfl rfl q
    have n18 : x ≠ 18 := way_not e
    refine ⟨_, rfl, rfl, _, rfl, ite2 (fun e => ?_) (fun e => ?_)⟩
    · obtain rfl : x = 19 := way_is e
      exact arm rfl rfl q
    have n19 : x ≠ 19 := way_not e
    refine ⟨_, rfl, rfl, _, rfl, ite2 (fun e => ?_) (fun e => ?_)⟩
    · obtain rfl : x = 20 := way_is e
      exact arm rfl rfl q
    have n20 : x ≠ 20 := way_not e
    refine ⟨_, rfl, rfl, _, rfl, ite2 (fun e => ?_) (fun e => ?_)⟩
    · obtain rfl : x = 21 := way_is e
      exact arm rfl rfl q
    have n21 : x ≠ 21 := way_not e
    refine ⟨_, rfl, rfl, _, rfl, ite2 (fun e => ?_) (fun e => ?_)⟩
    · obtain rfl : x = 22 := way_is e
      exact arm rfl rfl q
    have n22 : x ≠ 22 := way_not e
    refine ⟨_, rfl, rfl, _, rfl, ite2 (fun e => ?_) (fun e => ?_)⟩
    · obtain rfl : x = 23 := way_is e
      exact arm rfl rfl q
    have n23 : x ≠ 23 := way_not e
    obtain rfl : x = 24 := by omega
    exact arm rfl rfl q
theorem scM : FnScope ["way", "value", "named"] ["way", "value", "named"] (defScope sMade) := ⟨rfl, rfl, rfl, by decide +kernel, rfl, by decide +kernel, by decide +kernel⟩
theorem ok_made {f f1 f2 f3 : Addr} {fd fd1 fd2 fd3 : FuncData} (F : Fun K "_law_made" "_law_made" sMade f fd) (S : Errs K mg fI fdI cs) (A1 : Has K mg "_law_first" sFirst ["way", "value", "named"] f1 fd1) (A2 : Has K mg "_law_second" sSecond ["way", "value", "named"] f2 fd2) (A3 : Has K mg "_law_third" sThird ["way", "value", "named"] f3 fd3) :
    FnOk P w K mg base CX0 4 f fd ["way", "value", "named"] (spMade cs 0 25) := by
  have G1 : FnOk P w K mg base CX0 3 f1 fd1 ["way", "value", "named"] (spMade cs 0 9) := ok_first A1.F S
  have G2 : FnOk P w K mg base CX0 3 f2 fd2 ["way", "value", "named"] (spMade cs 9 18) := ok_second A2.F S
  have G3 : FnOk P w K mg base CX0 3 f3 fd3 ["way", "value", "named"] (spMade cs 18 25) := ok_third A3.F S
  refine F.ok scM (fun vs H Q E h => ?_) (fun cdv A outer s H vs Q E hr h => ?_)
  · obtain ⟨x, v, nm, rfl, _⟩ := h
    rfl
  · obtain ⟨x, v, nm, rfl, lo, hi, q⟩ := h
    refine ⟨_, pss_cons (ps_if (pt_cmpR op_lt (pv 0) pe_int (nomark _)) (pss_one (ps_ret (pe_call G1 hr rfl A1.g A1.F.kp A1.b .nil pass0 (pa_cons (pv 0) (pa_cons (pv 1) (pa_cons (pv 2) pa_nil)))))) pss_nil)
      (pss_cons (ps_if (pt_cmpR op_lt (pv 0) pe_int (nomark _)) (pss_one (ps_ret (pe_call G2 hr rfl A2.g A2.F.kp A2.b .nil pass0 (pa_cons (pv 0) (pa_cons (pv 1) (pa_cons (pv 2) pa_nil)))))) pss_nil)
      (pss_one (ps_ret (pe_call G3 hr rfl A3.g A3.F.kp A3.b .nil pass0 (pa_cons (pv 0) (pa_cons (pv 1) (pa_cons (pv 2) pa_nil))))))), ?_⟩
    refine ⟨_, rfl, _, _, rfl, rfl, _, rfl, ite2 (fun e => ?_) (fun e => ?_)⟩
    · have e' : (x : Int) < 9 := of_decide_eq_true e
      exact ⟨_, rfl, _, rfl, _, rfl, x, v, nm, rfl, lo, by omega, q⟩
    have e1 : ¬ (x : Int) < 9 := fun z => e (decide_eq_true z)
    refine ⟨_, rfl, _, _, rfl, rfl, _, rfl, ite2 (fun e => ?_) (fun e => ?_)⟩
    · have e' : (x : Int) < 18 := of_decide_eq_true e
      exact ⟨_, rfl, _, rfl, _, rfl, x, v, nm, rfl, by omega, by omega, q⟩
    have e2 : ¬ (x : Int) < 18 := fun z => e (decide_eq_true z)
    exact ⟨_, rfl, _, rfl, _, rfl, x, v, nm, rfl, by omega, hi, q⟩
end
end E0

set_option Elab.async false
set_option linter.all false
set_option maxRecDepth 100000
set_option maxHeartbeats 4000000
namespace E0
open PySem PySem.Spec PyProof.Rows L2
def spKinds (cs : Nat → Addr) : Sp := fun vs H Q _ => ∃ (a d : Addr) (w : Nat) (v : V), vs = [.ref a, .int (w : Nat)] ∧ w < 25 ∧ Err H a d (cs w) v ∧ ∀ H', Same H H' → Q (.bl true) H'
def bits (w : Nat) : List Bool := (List.range 25).map fun k => decide (k = 0 ∨ k = w)
theorem lay_bools : ∀ bs : List Bool, PyData.canLayAll0 (bs.map PyData.bool) = true ∧ PyData.depthAll (bs.map PyData.bool) = 0 ∧ PyData.eqvAll (bs.map PyData.bool) (bs.map PyData.bool) = true
  | [] => ⟨by simp only [List.map_nil, PyData.canLayAll0], by simp only [List.map_nil, PyData.depthAll], by simp only [List.map_nil, PyData.eqvAll]⟩
  | b :: bs => by
    obtain ⟨h1, h2, h3⟩ := lay_bools bs
    refine ⟨by simp only [List.map_cons, PyData.canLayAll0, PyData.canLay0, h1, Bool.and_self], by simp only [List.map_cons, PyData.depthAll, PyData.depth, h2]; rfl, ?_⟩
    simp only [List.map_cons, PyData.eqvAll, PyData.eqv, h3, beq_self_eq_true, Bool.and_self]
theorem shaped_bools (bs : List Bool) : SeqAt.shaped (.list (bs.map PyData.bool)) = true := by
  obtain ⟨h1, h2, _⟩ := lay_bools bs
  unfold SeqAt.shaped
  simp only [PyData.canLay0, PyData.depth, h1, h2, Bool.true_and]
  decide
theorem dp_bools {K : PySem.W.Frag} {H : Hp} : ∀ bs : List Bool, DpAll K H (bs.map V.bl) (bs.map PyData.bool)
  | [] => .nil
  | b :: bs => .cons (.bl b) (dp_bools bs)
/-- found = found + [isinstance(error, A), isinstance(error, B)] -/
def tPair (K : PySem.W.Frag) (fI A B : Addr) : TS := tAsg (tOp rCat (tVar 2) (tLst (tCons (tCB (rIsErr K fI) (tCons (tVar 0) (tCons (tC (.ref A)) tNil))) (tCons (tCB (rIsErr K fI) (tCons (tVar 0) (tCons (tC (.ref B)) tNil))) tNil)))) (gName 2)
section
variable {P : Program} {w : World} {K : PySem.W.Frag} {mg : Str → Option Value} {base : Heap} {cs : Nat → Addr} {fI : Addr} {fdI : FuncData}
theorem pair_step {D : Ends} {H0 H1 : Hp} {a d l : Addr} {v : V} {bs : List Bool} {x i j : Nat} (S : Errs K mg fI fdI cs) (hx : x < 25) (hi : i < 25) (hj : j < 25) (he : Err H0 a d (cs x) v) (hS : Same H0 H1) (hl : H1 l = some (.lst (bs.map V.bl))) (hb : bs.length ≤ 24)
    (k : ∀ (l' : Addr) (H2 : Hp), H2 l' = some (.lst ((bs ++ [decide (i = 0 ∨ i = x), decide (j = 0 ∨ j = x)]).map V.bl)) → Same H0 H2 → D.nx [some (.ref a), some (.int (x : Nat)), some (.ref l'), none] H2) :
    tPair K fI (cs i) (cs j) D [some (.ref a), some (.int (x : Nat)), some (.ref l), none] H1 := by
  have e1 := he.same hS
  refine ⟨_, rfl, _, rfl, a, d, _, v, .ref (cs i), .ref (cs i), _, rfl, S.c x hx, e1, (fun u r => r), S.s x i hx hi, _, rfl, a, d, _, v, .ref (cs j), .ref (cs j), _, rfl, S.c x hx, e1, (fun u r => r), S.s x j hx hj, (by show 2 ≤ sizeLine; decide), fun m hm => ?_⟩
  have nlm : l ≠ m := ne_of_none hl hm
  refine ⟨l, m, bs.map V.bl, _, rfl, rfl, (by rw [upd_ne nlm]; exact hl), upd_same, (by rw [List.length_map]; show _ + 2 ≤ sizeLine; rw [sizeLine_eq]; omega), fun p hp => ?_⟩
  refine k p _ (by rw [upd_same, List.map_append]; rfl) fun b o e => ?_
  have z := hS _ _ e
  have z2 : upd H1 m (.lst [V.bl (decide (i = 0 ∨ i = x)), V.bl (decide (j = 0 ∨ j = x))]) b = some o := by rw [upd_ne (ne_of_none z hm)]; exact z
  rw [upd_ne (ne_of_none z2 hp)]
  exact z2
theorem scK : FnScope ["error", "way", "found", "k"] ["error", "way"] (defScope sKinds) := ⟨rfl, rfl, rfl, by decide +kernel, rfl, by decide +kernel, by decide +kernel⟩
theorem in_two {i x : Nat} : inV (.int ((0 : Int) + (i : Nat))) [V.int 0, .int (x : Nat)] = decide (i = 0 ∨ i = x) := by
  show ((0 : Int) == (0 + (i : Int)) || (((x : Nat) : Int) == (0 + (i : Int)) || false)) = _
  rw [Bool.or_false, Int.zero_add]
  by_cases h0 : i = 0
  · subst h0
    simp
  · by_cases h1 : i = x
    · subst h1
      simp
    · have e1 : ((0 : Int) == (i : Int)) = false := beq_eq_false_iff_ne.mpr (by omega)
      have e2 : ((x : Int) == (i : Int)) = false := beq_eq_false_iff_ne.mpr (by omega)
      rw [e1, e2, decide_eq_false (by omega)]
      rfl
theorem bits_more {x i : Nat} : ((List.range i).map fun k => decide (k = 0 ∨ k = x)) ++ [decide (i = 0 ∨ i = x)] = (List.range (i + 1)).map fun k => decide (k = 0 ∨ k = x) := by
  rw [List.range_succ, List.map_append]
  rfl
theorem ok_kinds {f : Addr} {fd : FuncData} (F : Fun K "_law_kinds_right" "_law_kinds_right" sKinds f fd) (S : Errs K mg fI fdI cs) (B : Blt mg) (VE : mg "ValueError" = none) : FnOk P w K mg base CX0 1 f fd ["error", "way"] (spKinds cs) := by
  refine F.ok scK (fun vs H Q E h => ?_) (fun cdv A outer s H vs Q E hr h => ?_)
  · obtain ⟨a, d, x, v, rfl, _⟩ := h
    rfl
  · obtain ⟨a, d, x, v, rfl, hx, he, q⟩ := h
    have hu := hr.units
    refine ⟨_, pss_cons (ps_set (i := 2) scK.nd rfl (.inl rfl) (pe_lst pa_nil))
      (pss_cons (t := tPair K fI (cs 0) (cs 1)) (ps_set (i := 2) scK.nd rfl (.inl rfl) (pe_op op_cat (pv 2) (pe_lst (pa_cons (pe_callB (call_isErr (fI := fI) S.hn S.ht) (by rfl) B.isi (by decide +kernel) (pa_cons (pv 0) (pa_cons (pe_glob (v := V.ref (cs 0)) rfl (S.g 0 (by decide)) rfl) pa_nil))) (pa_cons (pe_callB (call_isErr (fI := fI) S.hn S.ht) (by rfl) B.isi (by decide +kernel) (pa_cons (pv 0) (pa_cons (pe_glob (v := V.ref (cs 1)) rfl (S.g 1 (by decide)) rfl) pa_nil))) pa_nil)))))
      (pss_cons (t := tPair K fI (cs 2) (cs 3)) (ps_set (i := 2) scK.nd rfl (.inl rfl) (pe_op op_cat (pv 2) (pe_lst (pa_cons (pe_callB (call_isErr (fI := fI) S.hn S.ht) (by rfl) B.isi (by decide +kernel) (pa_cons (pv 0) (pa_cons (pe_glob (v := V.ref (cs 2)) rfl (S.g 2 (by decide)) rfl) pa_nil))) (pa_cons (pe_callB (call_isErr (fI := fI) S.hn S.ht) (by rfl) B.isi (by decide +kernel) (pa_cons (pv 0) (pa_cons (pe_glob (v := V.ref (cs 3)) rfl (S.g 3 (by decide)) rfl) pa_nil))) pa_nil)))))
      (pss_cons (t := tPair K fI (cs 4) (cs 5)) (ps_set (i := 2) scK.nd rfl (.inl rfl) (pe_op op_cat (pv 2) (pe_lst (pa_cons (pe_callB (call_isErr (fI := fI) S.hn S.ht) (by rfl) B.isi (by decide +kernel) (pa_cons (pv 0) (pa_cons (pe_glob (v := V.ref (cs 4)) rfl (S.g 4 (by decide)) rfl) pa_nil))) (pa_cons (pe_callB (call_isErr (fI := fI) S.hn S.ht) (by rfl) B.isi (by decide +kernel) (pa_cons (pv 0) (pa_cons (pe_glob (v := V.ref (cs 5)) rfl (S.g 5 (by decide)) rfl) pa_nil))) pa_nil)))))
      (pss_cons (t := tPair K fI (cs 6) (cs 7)) (ps_set (i := 2) scK.nd rfl (.inl rfl) (pe_op op_cat (pv 2) (pe_lst (pa_cons (pe_callB (call_isErr (fI := fI) S.hn S.ht) (by rfl) B.isi (by decide +kernel) (pa_cons (pv 0) (pa_cons (pe_glob (v := V.ref (cs 6)) rfl (S.g 6 (by decide)) rfl) pa_nil))) (pa_cons (pe_callB (call_isErr (fI := fI) S.hn S.ht) (by rfl) B.isi (by decide +kernel) (pa_cons (pv 0) (pa_cons (pe_glob (v := V.ref (cs 7)) rfl (S.g 7 (by decide)) rfl) pa_nil))) pa_nil)))))
      (pss_cons (t := tPair K fI (cs 8) (cs 9)) (ps_set (i := 2) scK.nd rfl (.inl rfl) (pe_op op_cat (pv 2) (pe_lst (pa_cons (pe_callB (call_isErr (fI := fI) S.hn S.ht) (by rfl) B.isi (by decide +kernel) (pa_cons (pv 0) (pa_cons (pe_glob (v := V.ref (cs 8)) rfl (S.g 8 (by decide)) rfl) pa_nil))) (pa_cons (pe_callB (call_isErr (fI := fI) S.hn S.ht) (by rfl) B.isi (by decide +kernel) (pa_cons (pv 0) (pa_cons (pe_glob (v := V.ref (cs 9)) rfl (S.g 9 (by decide)) rfl) pa_nil))) pa_nil)))))
      (pss_cons (t := tPair K fI (cs 10) (cs 11)) (ps_set (i := 2) scK.nd rfl (.inl rfl) (pe_op op_cat (pv 2) (pe_lst (pa_cons (pe_callB (call_isErr (fI := fI) S.hn S.ht) (by rfl) B.isi (by decide +kernel) (pa_cons (pv 0) (pa_cons (pe_glob (v := V.ref (cs 10)) rfl (S.g 10 (by decide)) rfl) pa_nil))) (pa_cons (pe_callB (call_isErr (fI := fI) S.hn S.ht) (by rfl) B.isi (by decide +kernel) (pa_cons (pv 0) (pa_cons (pe_glob (v := V.ref (cs 11)) rfl (S.g 11 (by decide)) rfl) pa_nil))) pa_nil)))))
      (pss_cons (t := tPair K fI (cs 12) (cs 13)) (ps_set (i := 2) scK.nd rfl (.inl rfl) (pe_op op_cat (pv 2) (pe_lst (pa_cons (pe_callB (call_isErr (fI := fI) S.hn S.ht) (by rfl) B.isi (by decide +kernel) (pa_cons (pv 0) (pa_cons (pe_glob (v := V.ref (cs 12)) rfl (S.g 12 (by decide)) rfl) pa_nil))) (pa_cons (pe_callB (call_isErr (fI := fI) S.hn S.ht) (by rfl) B.isi (by decide +kernel) (pa_cons (pv 0) (pa_cons (pe_glob (v := V.ref (cs 13)) rfl (S.g 13 (by decide)) rfl) pa_nil))) pa_nil)))))
      (pss_cons (t := tPair K fI (cs 14) (cs 15)) (ps_set (i := 2) scK.nd rfl (.inl rfl) (pe_op op_cat (pv 2) (pe_lst (pa_cons (pe_callB (call_isErr (fI := fI) S.hn S.ht) (by rfl) B.isi (by decide +kernel) (pa_cons (pv 0) (pa_cons (pe_glob (v := V.ref (cs 14)) rfl (S.g 14 (by decide)) rfl) pa_nil))) (pa_cons (pe_callB (call_isErr (fI := fI) S.hn S.ht) (by rfl) B.isi (by decide +kernel) (pa_cons (pv 0) (pa_cons (pe_glob (v := V.ref (cs 15)) rfl (S.g 15 (by decide)) rfl) pa_nil))) pa_nil)))))
      (pss_cons (t := tPair K fI (cs 16) (cs 17)) (ps_set (i := 2) scK.nd rfl (.inl rfl) (pe_op op_cat (pv 2) (pe_lst (pa_cons (pe_callB (call_isErr (fI := fI) S.hn S.ht) (by rfl) B.isi (by decide +kernel) (pa_cons (pv 0) (pa_cons (pe_glob (v := V.ref (cs 16)) rfl (S.g 16 (by decide)) rfl) pa_nil))) (pa_cons (pe_callB (call_isErr (fI := fI) S.hn S.ht) (by rfl) B.isi (by decide +kernel) (pa_cons (pv 0) (pa_cons (pe_glob (v := V.ref (cs 17)) rfl (S.g 17 (by decide)) rfl) pa_nil))) pa_nil)))))
      (pss_cons (t := tPair K fI (cs 18) (cs 19)) (ps_set (i := 2) scK.nd rfl (.inl rfl) (pe_op op_cat (pv 2) (pe_lst (pa_cons (pe_callB (call_isErr (fI := fI) S.hn S.ht) (by rfl) B.isi (by decide +kernel) (pa_cons (pv 0) (pa_cons (pe_glob (v := V.ref (cs 18)) rfl (S.g 18 (by decide)) rfl) pa_nil))) (pa_cons (pe_callB (call_isErr (fI := fI) S.hn S.ht) (by rfl) B.isi (by decide +kernel) (pa_cons (pv 0) (pa_cons (pe_glob (v := V.ref (cs 19)) rfl (S.g 19 (by decide)) rfl) pa_nil))) pa_nil)))))
      (pss_cons (t := tPair K fI (cs 20) (cs 21)) (ps_set (i := 2) scK.nd rfl (.inl rfl) (pe_op op_cat (pv 2) (pe_lst (pa_cons (pe_callB (call_isErr (fI := fI) S.hn S.ht) (by rfl) B.isi (by decide +kernel) (pa_cons (pv 0) (pa_cons (pe_glob (v := V.ref (cs 20)) rfl (S.g 20 (by decide)) rfl) pa_nil))) (pa_cons (pe_callB (call_isErr (fI := fI) S.hn S.ht) (by rfl) B.isi (by decide +kernel) (pa_cons (pv 0) (pa_cons (pe_glob (v := V.ref (cs 21)) rfl (S.g 21 (by decide)) rfl) pa_nil))) pa_nil)))))
      (pss_cons (t := tPair K fI (cs 22) (cs 23)) (ps_set (i := 2) scK.nd rfl (.inl rfl) (pe_op op_cat (pv 2) (pe_lst (pa_cons (pe_callB (call_isErr (fI := fI) S.hn S.ht) (by rfl) B.isi (by decide +kernel) (pa_cons (pv 0) (pa_cons (pe_glob (v := V.ref (cs 22)) rfl (S.g 22 (by decide)) rfl) pa_nil))) (pa_cons (pe_callB (call_isErr (fI := fI) S.hn S.ht) (by rfl) B.isi (by decide +kernel) (pa_cons (pv 0) (pa_cons (pe_glob (v := V.ref (cs 23)) rfl (S.g 23 (by decide)) rfl) pa_nil))) pa_nil)))))
      (pss_cons (ps_set (i := 2) scK.nd rfl (.inl rfl) (pe_op op_cat (pv 2) (pe_lst (pa_cons (pe_callB (call_isErr (fI := fI) S.hn S.ht) (by rfl) B.isi (by decide +kernel) (pa_cons (pv 0) (pa_cons (pe_glob (v := V.ref (cs 24)) rfl (S.g 24 (by decide)) rfl) pa_nil))) pa_nil))))
      (pss_one (ps_ret (pe_and (pe_cmpR (op_eqD hu) (pv 2) (pe_lc (own := [("k", 3)]) (g := gName 3) (tt := tYes) (te := tOp (rIn K false) (tVar 3) (tTup (tCons (tC (.int 0)) (tCons (tVar 1) tNil)))) rfl scK.nd (pi_range1 rfl B.range (pa_cons pe_int pa_nil)) (blkOk_by (N := ["error", "way", "found", "k"]) (sc := defScope sKinds) (by decide +kernel)) (fun _ _ _ _ _ => pg_name (i := 3) scK.nd rfl (Or.inl rfl)) (fun _ _ _ _ _ => pts_nil)
        (fun _ _ _ _ _ => by exact pe_cmpR op_in_seq (pv 3) (pe_tup (pa_cons pe_int (pa_cons (pv 1) pa_nil))) (by rfl))) (nomark _))
        (pe_one (pe_callB (call_isErr (fI := fI) S.hn S.ht) (by rfl) B.isi (by decide +kernel) (pa_cons (pv 0) (pa_cons (pe_bltn (v := V.ty "ValueError") (u := Value.type "ValueError") rfl VE (by decide +kernel) rfl) pa_nil)))))))))))))))))))), ?_⟩
    refine ⟨by decide, fun l hl => ?_⟩
    have s0 : Same H (upd H l (.lst [])) := fun b o e => by rw [upd_ne (ne_of_none e hl)]; exact e
    have h0 : upd H l (.lst []) l = some (.lst (([] : List Bool).map V.bl)) := upd_same
    refine pair_step (i := 0) (j := 1) S hx (by decide) (by decide) he s0 h0 (Nat.le_of_ble_eq_true rfl) fun l1 H1 h1 s1 => ?_
    refine pair_step (i := 2) (j := 3) S hx (by decide) (by decide) he s1 h1 (Nat.le_of_ble_eq_true rfl) fun l2 H2 h2 s2 => ?_
    refine pair_step (i := 4) (j := 5) S hx (by decide) (by decide) he s2 h2 (Nat.le_of_ble_eq_true rfl) fun l3 H3 h3 s3 => ?_
    refine pair_step (i := 6) (j := 7) S hx (by decide) (by decide) he s3 h3 (Nat.le_of_ble_eq_true rfl) fun l4 H4 h4 s4 => ?_
    refine pair_step (i := 8) (j := 9) S hx (by decide) (by decide) he s4 h4 (Nat.le_of_ble_eq_true rfl) fun l5 H5 h5 s5 => ?_
    refine pair_step (i := 10) (j := 11) S hx (by decide) (by decide) he s5 h5 (Nat.le_of_ble_eq_true rfl) fun l6 H6 h6 s6 => ?_
    refine pair_step (i := 12) (j := 13) S hx (by decide) (by decide) he s6 h6 (Nat.le_of_ble_eq_true rfl) fun l7 H7 h7 s7 => ?_
    refine pair_step (i := 14) (j := 15) S hx (by decide) (by decide) he s7 h7 (Nat.le_of_ble_eq_true rfl) fun l8 H8 h8 s8 => ?_
    refine pair_step (i := 16) (j := 17) S hx (by decide) (by decide) he s8 h8 (Nat.le_of_ble_eq_true rfl) fun l9 H9 h9 s9 => ?_
    refine pair_step (i := 18) (j := 19) S hx (by decide) (by decide) he s9 h9 (Nat.le_of_ble_eq_true rfl) fun l10 H10 h10 s10 => ?_
    refine pair_step (i := 20) (j := 21) S hx (by decide) (by decide) he s10 h10 (Nat.le_of_ble_eq_true rfl) fun l11 H11 h11 s11 => ?_
    refine pair_step (i := 22) (j := 23) S hx (by decide) (by decide) he s11 h11 (Nat.le_of_ble_eq_true rfl) fun l12 H12 h12 s12 => ?_
    have e12 := he.same s12
    refine ⟨_, rfl, _, rfl, a, d, _, v, .ref (cs 24), .ref (cs 24), _, rfl, S.c x hx, e12, (fun u r => r), S.s x 24 hx (by decide), (by show 1 ≤ sizeLine; decide), fun m hm => ?_⟩
    have nlm : l12 ≠ m := ne_of_none h12 hm
    refine ⟨l12, m, _, _, rfl, rfl, (by rw [upd_ne nlm]; exact h12), upd_same, (by rw [List.length_map]; show 24 + 1 ≤ sizeLine; decide), fun p hp => ?_⟩
    generalize hG : upd (upd H12 m (.lst [V.bl (decide (24 = 0 ∨ 24 = x))])) p _ = G
    have sG : Same H G := fun b o e => by
      have z := s12 _ _ e
      have z2 : upd H12 m (.lst [V.bl (decide (24 = 0 ∨ 24 = x))]) b = some o := by rw [upd_ne (ne_of_none z hm)]; exact z
      rw [← hG, upd_ne (ne_of_none z2 hp)]
      exact z2
    have hGp : G p = some (.lst ((bits x).map V.bl)) := by
      rw [← hG, upd_same]
      rfl
    refine ⟨_, rfl, 25, rfl, by decide, by decide, fun D hD => lc_range (lo := 0) (n := 25) (fun i H' => H' D = some (.lst (((List.range i).map fun k => decide (k = 0 ∨ k = x)).map V.bl)) ∧ Same G H') ⟨upd_same, fun b o e => by rw [upd_ne (ne_of_none e hD)]; exact e⟩ ?_ ?_⟩
    · rintro i H' hi ⟨hD', sD⟩
      refine ⟨rfl, tYes_of ?_⟩
      refine ⟨_, rfl, _, rfl, (by show 2 ≤ sizeLine; decide), fun t ht => ⟨t, _, rfl, .inr (SqT.of upd_same), rfl, rfl, _, (by rw [upd_ne (ne_of_none hD' ht)]; exact hD'), ?_, ?_, fun b o e => ?_⟩⟩
      · rw [List.length_map, List.length_map, List.length_range]
        exact small1000 (by omega)
      · rw [upd_same, ← bits_more, List.map_append]
        show some (HO.lst (_ ++ [V.bl (inV _ _)])) = _
        rw [in_two]
        rfl
      · rw [upd_ne (ne_of_none e hD), upd_ne (ne_of_none (sD _ _ e) ht)]
        exact sD _ _ e
    · rintro H' ⟨hD', sD⟩
      refine ⟨.list ((bits x).map PyData.bool), .list ((bits x).map PyData.bool), .lst (SqL.of (sD _ _ hGp)) (dp_bools _), .lst (SqL.of hD') (dp_bools _), shaped_bools _, shaped_bools _, _, rfl, ?_⟩
      have e1 : PyData.eqv (.list ((bits x).map PyData.bool)) (.list ((bits x).map PyData.bool)) = true := by
        simp only [PyData.eqv]
        exact (lay_bools _).2.2
      rw [e1]
      refine iteT ?_
      exact ⟨_, rfl, a, d, _, v, .ty "ValueError", .type "ValueError", true, rfl, S.c x hx, he.same (sG.trans sD), (fun u r => r), S.v x hx, q _ (sG.trans sD)⟩
end
end E0

set_option Elab.async false
set_option linter.all false
set_option maxRecDepth 100000
set_option maxHeartbeats 4000000
namespace E0
open PySem PySem.Spec PyProof.Rows L2
/-- what repr may be asked of -/
structure Okr (x : PyData) : Prop where
  s : x.showable = true
  d : x.depth ≤ 50
  z : x.shown.length ≤ sizeLine
theorem big3 : big 3 = 1990 := rfl
theorem Okd.r {x : PyData} (h : Okd x 3) : Okr x := ⟨h.s, Nat.le_trans h.d (by decide), Nat.le_trans h.z (by rw [big3]; decide)⟩
theorem okr_list {ds : List PyData} (h : ∀ d ∈ ds, Okd d 3) (hl : ds.length ≤ 4) : Okr (.list ds) := by
  obtain ⟨a, b, c, e⟩ := ok_all ds h
  refine ⟨by simp only [PyData.showable, a], by simp only [PyData.depth]; omega, ?_⟩
  simp only [PyData.shown]
  have h1 := listText_le (PyData.shownAll ds)
  have h2 := piled_le _ c
  have h3 : (PyData.shownAll ds).length * (big 3 + 2) ≤ 4 * (big 3 + 2) := Nat.mul_le_mul_right _ (by omega)
  rw [big3] at h2 h3
  rw [sizeLine_eq]
  omega
theorem rr {H : Hp} {v : V} {d : PyData} {Q : VK} (D : Dat H v d) (O : Okr d) (q : Q (.str d.shown) H) : rRepr [v] H Q := ⟨v, d, rfl, D, O.s, O.d, O.z, q⟩
theorem okd_one {i : Int} (h : i.natAbs < 10 ^ 21) : Okd (.int i) 3 := (ok_int (H := fun _ => none) h).2.up 3
theorem okd_later : Okd (.str "later") 3 := (ok_str (H := fun _ => none) (x := "later") (by decide +kernel)).2.up 3
theorem mem1 {d : PyData} (h : Okd d 3) : ∀ x ∈ [d], Okd x 3 := fun x hx => by rw [List.mem_singleton.mp hx]; exact h
theorem mem3 {d : PyData} (h : Okd d 3) : ∀ x ∈ [d, .int 1, .str "later"], Okd x 3 := fun x hx => by
  simp only [List.mem_cons, List.not_mem_nil, or_false] at hx
  rcases hx with rfl | rfl | rfl
  · exact h
  · exact okd_one (by decide)
  · exact okd_later
theorem mem4 {d : PyData} (h : Okd d 3) : ∀ x ∈ [d, .int 1, .str "later", .int 2], Okd x 3 := fun x hx => by
  simp only [List.mem_cons, List.not_mem_nil, or_false] at hx
  rcases hx with rfl | rfl | rfl | rfl
  · exact h
  · exact okd_one (by decide)
  · exact okd_later
  · exact okd_one (by decide)
theorem exo_lst {e C : Addr} {d : Option Addr} {xs : List V} : exo e C d ≠ .lst xs := fun z => by
  have z' : HO.ext _ = HO.lst xs := z
  cases z'
theorem exd_lst {e : Addr} {fs : List (Str × V)} {xs : List V} : exd e fs ≠ .lst xs := fun z => by
  have z' : HO.ext _ = HO.lst xs := z
  cases z'
theorem err_keep {H : Hp} {e d C p : Addr} {v : V} {xs ys : List V} (h : Err H e d C v) (hp : H p = some (.lst xs)) : Err (upd H p (.lst ys)) e d C v :=
  ⟨by rw [upd_ne (ne_of h.1 hp exo_lst)]; exact h.1, by rw [upd_ne (ne_of h.2 hp exd_lst)]; exact h.2⟩
theorem same_new {H : Hp} {p : Addr} {o : HO} (h : H p = none) : Same H (upd H p o) := fun b u e => by
  rw [upd_ne (ne_of_none e h)]
  exact e
theorem same_upd {H H' : Hp} {p : Addr} {o : HO} (s : Same H H') (h : H p = none) : Same H (upd H' p o) := fun b u e => by
  rw [upd_ne (ne_of_none e h)]
  exact s _ _ e
def spKept : Sp := fun vs H Q _ => ∃ (w : Nat) (v : V) (nm : Bool) (d : PyData), vs = [.int (w : Nat), v, .bl nm] ∧ w < 25 ∧ Dat H v d ∧ Okd d 3 ∧ ∀ H', Same H H' → Q (.bl true) H'
section
variable {P : Program} {w : World} {K : PySem.W.Frag} {mg : Str → Option Value} {base : Heap} {cs : Nat → Addr} {fI : Addr} {fdI : FuncData}
theorem scKe : FnScope ["way", "value", "named", "error", "other", "held", "third"] ["way", "value", "named"] (defScope sKept) := ⟨rfl, rfl, rfl, by decide +kernel, rfl, by decide +kernel, by decide +kernel⟩
theorem ok_kept {f fM fK : Addr} {fd fdM fdK : FuncData} (F : Fun K "_law_kept" "_law_kept" sKept f fd) (S : Errs K mg fI fdI cs) (B : Blt mg)
    (M : Has K mg "_law_made" sMade ["way", "value", "named"] fM fdM) (GM : FnOk P w K mg base CX0 4 fM fdM ["way", "value", "named"] (spMade cs 0 25))
    (Ki : Has K mg "_law_kinds_right" sKinds ["error", "way"] fK fdK) (GK : FnOk P w K mg base CX0 1 fK fdK ["error", "way"] (spKinds cs)) : FnOkG P w K mg base 5 f fd ["way", "value", "named"] spKept := by
  refine F.okG scKe (fun vs H Q E h => ?_) (fun cdv A outer s H vs Q E hG0 hr h => ?_)
  · obtain ⟨x, v, nm, d, rfl, _⟩ := h
    rfl
  · obtain ⟨x, v, nm, d, rfl, hx, hD, hO, q⟩ := h
    have hu := hr.units
    have hr1 : Room 1 _ := hr.mono (by decide)
    have hG : (A.deeper (envOfC "_law_kept" (defScope sKept) s.heap.objs.size f cdv)).guards = some [] := hG0
    refine ⟨_, pss_cons (ps_par (i := 3) (j := 4) rfl scKe.nd rfl rfl (by decide) rfl rfl (pa_cons (pe_call GM hr rfl M.g M.F.kp M.b .nil pass0 (pa_cons (pv 0) (pa_cons (pv 1) (pa_cons (pv 2) pa_nil))))
        (pa_cons (pe_call GM hr rfl M.g M.F.kp M.b .nil pass0 (pa_cons (pv 0) (pa_cons (pe_lst (pa_cons (pv 1) pa_nil)) (pa_cons (pe_not (pv 2)) pa_nil)))) pa_nil)) (by rfl))
      (pss_cons (ps_if (PW.pt (pw_or (pt_not (pt_val (pe_call GK hr1 rfl Ki.g Ki.F.kp Ki.b .nil pass0 (pa_cons (pv 3) (pa_cons (pv 0) pa_nil))))) (pw_or1 (pt_not (pt_val (pe_call GK hr1 rfl Ki.g Ki.F.kp Ki.b .nil pass0 (pa_cons (pv 4) (pa_cons (pv 0) pa_nil)))))))) (pss_one (ps_ret pe_bl)) pss_nil)
      (pss_cons (ps_if (PW.pt (pw_or (pt_cmpR op_ne (pe_callB (call_reprD hG hu) (by rfl) B.repr (by decide +kernel) (pa_cons (pe_errV (fI := fI) (pv 3)) pa_nil)) (pe_callB (call_reprD hG hu) (by rfl) B.repr (by decide +kernel) (pa_cons (pv 1) pa_nil)) (nomark _))
          (pw_or1 (pt_cmpR op_ne (pe_callB (call_reprD hG hu) (by rfl) B.repr (by decide +kernel) (pa_cons (pe_errV (fI := fI) (pv 4)) pa_nil)) (pe_callB (call_reprD hG hu) (by rfl) B.repr (by decide +kernel) (pa_cons (pe_lst (pa_cons (pv 1) pa_nil)) pa_nil)) (nomark _))))) (pss_one (ps_ret pe_bl)) pss_nil)
      (pss_cons (ps_set (i := 5) scKe.nd rfl (.inl rfl) (pe_lst (pa_cons (pv 1) (pa_cons pe_int pa_nil))))
      (pss_cons (ps_set (i := 6) scKe.nd rfl (.inl rfl) (pe_call GM hr rfl M.g M.F.kp M.b .nil pass0 (pa_cons (pv 0) (pa_cons (pv 5) (pa_cons (pv 2) pa_nil)))))
      (pss_cons (ps_expr (pe_bm PySem.F.plainAttrs_list PySem.F.slot_list_append PySem.F.type_list_append mt_append (pv 5) (pa_cons pe_str pa_nil)))
      (pss_cons (ps_if (pt_cmpR op_ne (pe_callB (call_reprD hG hu) (by rfl) B.repr (by decide +kernel) (pa_cons (pe_errV (fI := fI) (pv 6)) pa_nil)) (pe_callB (call_reprD hG hu) (by rfl) B.repr (by decide +kernel) (pa_cons (pe_lst (pa_cons (pv 1) (pa_cons pe_int (pa_cons pe_str pa_nil)))) pa_nil)) (nomark _)) (pss_one (ps_ret pe_bl)) pss_nil)
      (pss_cons (ps_expr (pe_bm PySem.F.plainAttrs_list PySem.F.slot_list_append PySem.F.type_list_append mt_append (pe_errV (fI := fI) (pv 6)) (pa_cons pe_int pa_nil)))
      (pss_one (ps_ret (pe_and (pe_cmpR op_eq (pe_callB (call_reprD hG hu) (by rfl) B.repr (by decide +kernel) (pa_cons (pv 5) pa_nil)) (pe_callB (call_reprD hG hu) (by rfl) B.repr (by decide +kernel) (pa_cons (pe_lst (pa_cons (pv 1) (pa_cons pe_int (pa_cons pe_str (pa_cons pe_int pa_nil))))) pa_nil)) (nomark _))
        (pe_one (pe_cmpR op_eq (pe_callB (call_reprD hG hu) (by rfl) B.repr (by decide +kernel) (pa_cons (pe_errV (fI := fI) (pv 3)) pa_nil)) (pe_callB (call_reprD hG hu) (by rfl) B.repr (by decide +kernel) (pa_cons (pv 1) pa_nil)) (nomark _))))))))))))), ?_⟩
    refine ⟨_, rfl, _, rfl, _, rfl, x, v, nm, rfl, Nat.zero_le _, hx, fun a1 d1 H1 _ _ _ E1 s1 => ?_⟩
    refine ⟨_, rfl, _, rfl, (by show 1 ≤ sizeLine; decide), fun l hl => ⟨_, rfl, nm, rfl, x, .ref l, !nm, rfl, Nat.zero_le _, hx, fun a2 d2 H2 _ _ _ E2 s2 => ⟨_, _, rfl, ?_⟩⟩⟩
    -- the kinds
    have nl : ∀ {b : Addr} {o : HO}, H1 b = some o → upd H1 l (.lst [v]) b = some o := fun e => same_new hl _ _ e
    have t2 : Same H H2 := s1.trans ((same_new hl).trans s2)
    have E12 : Err H2 a1 d1 (cs x) v := E1.same ((same_new hl).trans s2)
    have l2 : H2 l = some (.lst [v]) := s2 _ _ upd_same
    refine ⟨_, rfl, _, rfl, a1, d1, x, v, rfl, hx, E12, fun H3 s3 => ⟨true, rfl, iteF ?_⟩⟩
    refine ⟨_, rfl, _, rfl, a2, d2, x, .ref l, rfl, hx, E2.same s3, fun H4 s4 => ⟨true, rfl, iteF ?_⟩⟩
    have s24 : Same H2 H4 := s3.trans s4
    have D4 : Dat H4 v d := hD.same (t2.trans s24)
    have l4 := s24 _ _ l2
    -- what they keep
    refine ⟨_, rfl, a1, d1, _, v, rfl, S.c x hx, E12.same s24, ⟨_, _, rfl, D4, (hO.r).s, (hO.r).d, (hO.r).z, ⟨_, rfl, ⟨_, _, rfl, D4, (hO.r).s, (hO.r).d, (hO.r).z, ⟨rfl, _, rfl, iteNS rfl ?_⟩⟩⟩⟩⟩
    refine ⟨_, rfl, a2, d2, _, .ref l, rfl, S.c x hx, E2.same s24, ⟨_, _, rfl, (.lst l4 (.cons D4 .nil)), ((okr_list (mem1 hO) (by show 1 ≤ 4; decide))).s, ((okr_list (mem1 hO) (by show 1 ≤ 4; decide))).d, ((okr_list (mem1 hO) (by show 1 ≤ 4; decide))).z, ⟨_, rfl, (by show 1 ≤ sizeLine; decide), fun m hm => ⟨_, _, rfl, (.lst upd_same (.cons (D4.same (same_new hm)) .nil)), ((okr_list (mem1 hO) (by show 1 ≤ 4; decide))).s, ((okr_list (mem1 hO) (by show 1 ≤ 4; decide))).d, ((okr_list (mem1 hO) (by show 1 ≤ 4; decide))).z, ⟨rfl, _, rfl, iteNS rfl ?_⟩⟩⟩⟩⟩
    have s4m : Same H4 (upd H4 m (.lst [v])) := same_new hm
    -- held, third
    refine ⟨_, rfl, (by show 2 ≤ sizeLine; decide), fun p hp => ?_⟩
    have tp : Same H (upd H4 m (.lst [v])) := t2.trans (s24.trans s4m)
    refine ⟨_, rfl, _, rfl, _, rfl, x, .ref p, nm, rfl, Nat.zero_le _, hx, fun a3 d3 H6 _ _ _ E3 s6 => ?_⟩
    have p6 : H6 p = some (.lst [v, .int 1]) := s6 _ _ upd_same
    have s56 : Same (upd H4 m (.lst [v])) H6 := (same_new hp).trans s6
    refine ⟨_, rfl, .inl ⟨rfl, _, SqL.of p6⟩, p, _, _, rfl, rfl, p6, (by show 2 < sizeLine; decide), ?_⟩
    have E37 := err_keep (ys := [v, .int 1] ++ [.str "later"]) E3 p6
    have s57 : Same (upd H4 m (.lst [v])) (upd H6 p (.lst ([v, .int 1] ++ [.str "later"]))) := same_upd s56 hp
    have D7 : Dat (upd H6 p (.lst ([v, .int 1] ++ [.str "later"]))) v d := hD.same (tp.trans s57)
    refine ⟨_, rfl, a3, d3, _, .ref p, rfl, S.c x hx, E37, ⟨_, _, rfl, (.lst upd_same (.cons D7 (.cons (.int 1) (.cons (.str _) .nil)))), ((okr_list (mem3 hO) (by show 3 ≤ 4; decide))).s, ((okr_list (mem3 hO) (by show 3 ≤ 4; decide))).d, ((okr_list (mem3 hO) (by show 3 ≤ 4; decide))).z, ⟨_, rfl, (by show 3 ≤ sizeLine; decide), fun m3 hm3 => ⟨_, _, rfl, (.lst upd_same (.cons (D7.same (same_new hm3)) (.cons (.int 1) (.cons (.str _) .nil)))), ((okr_list (mem3 hO) (by show 3 ≤ 4; decide))).s, ((okr_list (mem3 hO) (by show 3 ≤ 4; decide))).d, ((okr_list (mem3 hO) (by show 3 ≤ 4; decide))).z, ⟨rfl, _, rfl, iteNS rfl ?_⟩⟩⟩⟩⟩
    -- append through the error
    have n3 : Same (upd H6 p (.lst ([v, .int 1] ++ [.str "later"]))) (upd (upd H6 p (.lst ([v, .int 1] ++ [.str "later"]))) m3 (.lst [v, .int 1, .str "later"])) := same_new hm3
    have p8 : (upd (upd H6 p (.lst ([v, .int 1] ++ [.str "later"]))) m3 (.lst [v, .int 1, .str "later"])) p = some (.lst [v, .int 1, .str "later"]) := n3 _ _ upd_same
    refine ⟨_, rfl, a3, d3, _, .ref p, rfl, S.c x hx, E37.same n3, .inl ⟨rfl, _, SqL.of p8⟩, p, _, _, rfl, rfl, p8, (by show 3 < sizeLine; decide), ?_⟩
    generalize hG9 : upd (upd (upd H6 p (.lst ([v, .int 1] ++ [.str "later"]))) m3 (.lst [v, .int 1, .str "later"])) p _ = H9
    have p9 : H9 p = some (.lst [v, .int 1, .str "later", .int 2]) := by rw [← hG9, upd_same]; rfl
    have s59 : Same (upd H4 m (.lst [v])) H9 := by rw [← hG9]; exact same_upd (s57.trans n3) hp
    have D9 : Dat H9 v d := hD.same (tp.trans s59)
    have E19 : Err H9 a1 d1 (cs x) v := (E12.same s24).same (s4m.trans s59)
    refine ⟨_, rfl, ⟨_, _, rfl, (.lst p9 (.cons D9 (.cons (.int 1) (.cons (.str _) (.cons (.int 2) .nil))))), ((okr_list (mem4 hO) (by show 4 ≤ 4; decide))).s, ((okr_list (mem4 hO) (by show 4 ≤ 4; decide))).d, ((okr_list (mem4 hO) (by show 4 ≤ 4; decide))).z, ⟨_, rfl, (by show 4 ≤ sizeLine; decide), fun m4 hm4 => ⟨_, _, rfl, (.lst upd_same (.cons (D9.same (same_new hm4)) (.cons (.int 1) (.cons (.str _) (.cons (.int 2) .nil))))), ((okr_list (mem4 hO) (by show 4 ≤ 4; decide))).s, ((okr_list (mem4 hO) (by show 4 ≤ 4; decide))).d, ((okr_list (mem4 hO) (by show 4 ≤ 4; decide))).z, ⟨rfl, _, rfl, ?_⟩⟩⟩⟩⟩
    rw [if_pos (decide_eq_true rfl)]
    have s10 : Same H9 (upd H9 m4 (.lst [v, .int 1, .str "later", .int 2])) := same_new hm4
    have D10 := D9.same s10
    refine ⟨_, rfl, a1, d1, _, v, rfl, S.c x hx, E19.same s10, ⟨_, _, rfl, D10, (hO.r).s, (hO.r).d, (hO.r).z, ⟨_, rfl, ⟨_, _, rfl, D10, (hO.r).s, (hO.r).d, (hO.r).z, ⟨rfl, ?_⟩⟩⟩⟩⟩
    rw [show decide (V.str d.shown = V.str d.shown) = true from decide_eq_true rfl]
    exact q _ (tp.trans (s59.trans s10))
end
end E0

set_option Elab.async false
set_option linter.all false
set_option maxRecDepth 100000
set_option maxHeartbeats 4000000
namespace E0
open PySem PySem.Spec PyProof.Rows L2
abbrev ka : Key := Sum.inr "a"
abbrev kb : Key := Sum.inr "b"
abbrev kc : Key := Sum.inr "c"
abbrev kd : Key := Sum.inr "d"
def dTwo : PyData := .tuple [.list [.int 1, .int 3], .dict [(.str "a", .int 2), (.str "b", .int 4)]]
def dOne : PyData := .dict [(.str "c", .int 5), (.str "d", .int 6)]
theorem okr_two : Okr dTwo := ⟨by decide +kernel, by decide +kernel, by decide +kernel⟩
theorem okr_one : Okr dOne := ⟨by decide +kernel, by decide +kernel, by decide +kernel⟩
theorem put_ab : putK [(ka, V.int 2)] kb (.int 4) = [(ka, V.int 2), (kb, V.int 4)] := by decide +kernel
theorem put_cd : putK [(kc, V.int 5)] kd (.int 6) = [(kc, V.int 5), (kd, V.int 6)] := by decide +kernel
theorem merge_a : mergeK [] [(ka, V.int 2)] = [(ka, V.int 2)] := by decide +kernel
theorem merge_c : mergeK [] [(kc, V.int 5)] = [(kc, V.int 5)] := by decide +kernel
theorem merge_ab : mergeK [] [(ka, V.int 2), (kb, V.int 4)] = [(ka, V.int 2), (kb, V.int 4)] := by decide +kernel
theorem merge_cd : mergeK [] [(kc, V.int 5), (kd, V.int 6)] = [(kc, V.int 5), (kd, V.int 6)] := by decide +kernel
theorem exo_dk {e C : Addr} {d : Option Addr} {xs : List (Key × V)} : exo e C d ≠ .dK xs := fun z => by
  have z' : HO.ext _ = HO.dK xs := z
  cases z'
theorem exd_dk {e : Addr} {fs : List (Str × V)} {xs : List (Key × V)} : exd e fs ≠ .dK xs := fun z => by
  have z' : HO.ext _ = HO.dK xs := z
  cases z'
theorem err_keepD {H : Hp} {e d C p : Addr} {v : V} {xs ys : List (Key × V)} (h : Err H e d C v) (hp : H p = some (.dK xs)) : Err (upd H p (.dK ys)) e d C v :=
  ⟨by rw [upd_ne (ne_of h.1 hp exo_dk)]; exact h.1, by rw [upd_ne (ne_of h.2 hp exd_dk)]; exact h.2⟩
def spChanged : Sp := fun vs H Q _ => ∃ (w : Nat) (nm : Bool), vs = [.int (w : Nat), .bl nm] ∧ w < 25 ∧ ∀ H', Same H H' → Q (.bl true) H'
section
variable {P : Program} {w : World} {K : PySem.W.Frag} {mg : Str → Option Value} {base : Heap} {cs : Nat → Addr} {fI : Addr} {fdI : FuncData}
theorem scCh : FnScope ["way", "named", "inner", "row", "error", "alone"] ["way", "named"] (defScope sChanged) := ⟨rfl, rfl, rfl, by decide +kernel, rfl, by decide +kernel, by decide +kernel⟩
theorem ok_changed {f fM : Addr} {fd fdM : FuncData} (F : Fun K "_law_changed" "_law_changed" sChanged f fd) (S : Errs K mg fI fdI cs) (B : Blt mg)
    (M : Has K mg "_law_made" sMade ["way", "value", "named"] fM fdM) (GM : FnOk P w K mg base CX0 4 fM fdM ["way", "value", "named"] (spMade cs 0 25)) : FnOkG P w K mg base 5 f fd ["way", "named"] spChanged := by
  refine F.okG scCh (fun vs H Q E h => ?_) (fun cdv A outer s H vs Q E hG0 hr h => ?_)
  · obtain ⟨x, nm, rfl, _⟩ := h
    rfl
  · obtain ⟨x, nm, rfl, hx, q⟩ := h
    have hu := hr.units
    have hu1 := hu_of hr
    have hG : (A.deeper (envOfC "_law_changed" (defScope sChanged) s.heap.objs.size f cdv)).guards = some [] := hG0
    refine ⟨_, pss_cons (ps_par (i := 2) (j := 3) rfl scCh.nd rfl rfl (by decide) rfl rfl (pa_cons (pe_lst (pa_cons pe_int pa_nil)) (pa_cons (pe_disp (pps_cons pe_str pe_int pps_nil) (by rfl) (by rfl) (fun z => by cases z) (by decide)) pa_nil)) (by rfl))
      (pss_cons (ps_set (i := 4) scCh.nd rfl (.inl rfl) (pe_call GM hr rfl M.g M.F.kp M.b .nil pass0 (pa_cons (pv 0) (pa_cons (pe_tup (pa_cons (pv 2) (pa_cons (pv 3) pa_nil))) (pa_cons (pv 1) pa_nil)))))
      (pss_cons (ps_expr (pe_bm PySem.F.plainAttrs_list PySem.F.slot_list_append PySem.F.type_list_append mt_append (pv 2) (pa_cons pe_int pa_nil)))
      (pss_cons (ps_dput hu1 (pv 3) pe_str pe_int rfl)
      (pss_cons (ps_if (pt_cmpR op_ne (pe_callB (call_reprD hG hu) (by rfl) B.repr (by decide +kernel) (pa_cons (pe_errV (fI := fI) (pv 4)) pa_nil)) (pe_callB (call_reprD hG hu) (by rfl) B.repr (by decide +kernel)
          (pa_cons (pe_tup (pa_cons (pe_lst (pa_cons pe_int (pa_cons pe_int pa_nil))) (pa_cons (pe_disp (pps_cons pe_str pe_int (pps_cons pe_str pe_int pps_nil)) (by rfl) (by rfl) (fun z => by cases z) (by decide)) pa_nil))) pa_nil)) (nomark _)) (pss_one (ps_ret pe_bl)) pss_nil)
      (pss_cons (ps_set (i := 5) scCh.nd rfl (.inl rfl) (pe_disp (pps_cons pe_str pe_int pps_nil) (by rfl) (by rfl) (fun z => by cases z) (by decide)))
      (pss_cons (ps_set (i := 4) scCh.nd rfl (.inl rfl) (pe_call GM hr rfl M.g M.F.kp M.b .nil pass0 (pa_cons (pv 0) (pa_cons (pv 5) (pa_cons (pv 1) pa_nil)))))
      (pss_cons (ps_dput hu1 (pv 5) pe_str pe_int rfl)
      (pss_one (ps_ret (pe_cmpR op_eq (pe_callB (call_reprD hG hu) (by rfl) B.repr (by decide +kernel) (pa_cons (pe_errV (fI := fI) (pv 4)) pa_nil)) (pe_callB (call_reprD hG hu) (by rfl) B.repr (by decide +kernel)
        (pa_cons (pe_disp (pps_cons pe_str pe_int (pps_cons pe_str pe_int pps_nil)) (by rfl) (by rfl) (fun z => by cases z) (by decide)) pa_nil)) (nomark _))))))))))), ?_⟩
    refine ⟨(by show 1 ≤ sizeLine; decide), fun i hi => fun r hrn => ⟨upd_same, [(ka, .int 2)], rfl, by decide, _, _, rfl, ?_⟩⟩
    have hri : H r = none ∧ i ≠ r := by
      have e : i ≠ r := ne_of_none upd_same hrn
      rw [upd_ne e.symm] at hrn
      exact ⟨hrn, e⟩
    obtain ⟨hr0, nir⟩ := hri
    generalize hH1 : upd (upd (upd H i (.lst [V.int 1])) r (.dK [])) r _ = H1
    have i1 : H1 i = some (.lst [V.int 1]) := by rw [← hH1, upd_ne nir, upd_ne nir, upd_same]
    have r1 : H1 r = some (.dK [(ka, V.int 2)]) := by rw [← hH1, upd_same, merge_a]
    have s1 : Same H H1 := by rw [← hH1]; exact same_upd (same_upd (same_new hi) hr0) hr0
    refine ⟨_, rfl, _, rfl, _, rfl, (by show 2 ≤ sizeLine; decide), fun t ht => ⟨_, rfl, x, .ref t, nm, rfl, Nat.zero_le _, hx, fun a1 d1 H2 _ _ _ E1 s2 => ?_⟩⟩
    have s12 : Same H1 H2 := (same_new ht).trans s2
    have t2 : H2 t = some (.tup [.ref i, .ref r]) := s2 _ _ upd_same
    have i2 := s12 _ _ i1
    have r2 := s12 _ _ r1
    refine ⟨_, rfl, .inl ⟨rfl, _, SqL.of i2⟩, i, _, _, rfl, rfl, i2, (by show 1 < sizeLine; decide), ?_⟩
    have r3 : upd H2 i (.lst ([V.int 1] ++ [V.int 3])) r = some (.dK [(ka, V.int 2)]) := by rw [upd_ne nir.symm]; exact r2
    refine ⟨_, rfl, r, _, rfl, DPut.k (k := kb) r3 (by show 1 < sizeLine; decide), ?_⟩
    have E3 := err_keepD (ys := putK [(ka, V.int 2)] kb (.int 4)) (err_keep (ys := [V.int 1] ++ [V.int 3]) E1 i2) r3
    have tni : t ≠ i := ne_of t2 i2 (by intro z; cases z)
    have tnr : t ≠ r := ne_of t2 r2 (by intro z; cases z)
    generalize hH4 : upd (upd H2 i (.lst ([V.int 1] ++ [V.int 3]))) r _ = H4
    have E4 : Err H4 a1 d1 (cs x) (.ref t) := by rw [← hH4]; exact E3
    have i4 : H4 i = some (.lst [V.int 1, .int 3]) := by rw [← hH4, upd_ne nir, upd_same]; rfl
    have r4 : H4 r = some (.dK [(ka, V.int 2), (kb, V.int 4)]) := by rw [← hH4, upd_same, put_ab]
    have t4 : H4 t = some (.tup [.ref i, .ref r]) := by rw [← hH4, upd_ne tnr, upd_ne tni]; exact t2
    have s4 : Same H H4 := by rw [← hH4]; exact same_upd (same_upd (s1.trans s12) hi) hr0
    have D4 : Dat H4 (.ref t) dTwo := .tup t4 (.cons (.lst i4 (.cons (.int 1) (.cons (.int 3) .nil))) (.cons (.dct r4 (.cons (k := ka) (.int 2) (.cons (k := kb) (.int 4) .nil))) .nil))
    refine ⟨_, rfl, a1, d1, _, .ref t, rfl, S.c x hx, E4, _, _, rfl, D4, okr_two.s, okr_two.d, okr_two.z, (by show 2 ≤ sizeLine; decide), fun i' hi' => fun r' hr' => ⟨upd_same, [(ka, .int 2), (kb, .int 4)], rfl, by decide, (by show 2 ≤ sizeLine; decide), fun t' ht' => ?_⟩⟩
    have ni' : i' ≠ r' := ne_of_none upd_same hr'
    generalize hH5 : upd (upd (upd H4 i' (.lst [V.int 1, .int 3])) r' (.dK [])) r' _ = H5
    rw [hH5] at ht'
    have i5 : H5 i' = some (.lst [V.int 1, .int 3]) := by rw [← hH5, upd_ne ni', upd_ne ni', upd_same]
    have r5 : H5 r' = some (.dK [(ka, V.int 2), (kb, V.int 4)]) := by rw [← hH5, upd_same, merge_ab]
    have s5 : Same H4 H5 := by
      have z : H4 r' = none := by rw [upd_ne ni'.symm] at hr'; exact hr'
      rw [← hH5]
      exact same_upd (same_upd (same_new hi') z) z
    have s6 : Same H5 (upd H5 t' (.tup [.ref i', .ref r'])) := same_new ht'
    refine ⟨.ref t', dTwo, rfl, .tup upd_same (.cons (.lst (s6 _ _ i5) (.cons (.int 1) (.cons (.int 3) .nil))) (.cons (.dct (s6 _ _ r5) (.cons (k := ka) (.int 2) (.cons (k := kb) (.int 4) .nil))) .nil)), okr_two.s, okr_two.d, okr_two.z, rfl, _, rfl, iteNS rfl ?_⟩
    have s7 : Same H (upd H5 t' (.tup [.ref i', .ref r'])) := s4.trans (s5.trans s6)
    generalize upd H5 t' (.tup [.ref i', .ref r']) = H7 at s7
    -- alone
    refine fun c hc => ⟨upd_same, [(kc, .int 5)], rfl, by decide, ?_⟩
    generalize hH8 : upd (upd H7 c (.dK [])) c _ = H8
    have c8 : H8 c = some (.dK [(kc, V.int 5)]) := by rw [← hH8, upd_same, merge_c]
    have s8 : Same H7 H8 := by rw [← hH8]; exact same_upd (same_new hc) hc
    refine ⟨_, rfl, _, rfl, _, rfl, x, .ref c, nm, rfl, Nat.zero_le _, hx, fun a2 d2 H9 _ _ _ E9 s9 => ?_⟩
    have c9 := s9 _ _ c8
    refine ⟨_, rfl, c, _, rfl, DPut.k (k := kd) c9 (by show 1 < sizeLine; decide), ?_⟩
    have E10 := err_keepD (ys := putK [(kc, V.int 5)] kd (.int 6)) E9 c9
    have sX : Same H (upd H9 c (.dK (putK [(kc, V.int 5)] kd (.int 6)))) := s7.trans (same_upd (s8.trans s9) hc)
    have cX : (upd H9 c (.dK (putK [(kc, V.int 5)] kd (.int 6)))) c = some (.dK [(kc, V.int 5), (kd, V.int 6)]) := by rw [upd_same, put_cd]
    refine ⟨_, rfl, a2, d2, _, .ref c, rfl, S.c x hx, E10, _, dOne, rfl, .dct cX (.cons (k := kc) (.int 5) (.cons (k := kd) (.int 6) .nil)), okr_one.s, okr_one.d, okr_one.z, fun c' hc' => ⟨upd_same, [(kc, .int 5), (kd, .int 6)], rfl, by decide, .ref c', dOne, rfl, .dct (by rw [upd_same, merge_cd]) (.cons (k := kc) (.int 5) (.cons (k := kd) (.int 6) .nil)), okr_one.s, okr_one.d, okr_one.z, rfl, ?_⟩⟩
    rw [show decide (V.str dOne.shown = V.str dOne.shown) = true from decide_eq_true rfl]
    exact q _ (sX.trans (same_upd (same_new hc') hc'))
end
end E0

set_option Elab.async false
set_option linter.all false
set_option maxRecDepth 100000
set_option maxHeartbeats 4000000
namespace E0
open PySem PySem.Spec PyProof.Rows L2
def spLaw (K : PySem.W.Frag) : Sp := fun vs H Q _ => ∃ (a : Addr) (ns : List Int), vs = [.ref a] ∧ SqL K H a (ns.map V.int) ∧ ns.length ≤ 63 ∧ ∀ H', Q (.bl true) H'
section
variable {P : Program} {w : World} {K : PySem.W.Frag} {mg : Str → Option Value} {base : Heap} {cs : Nat → Addr} {fI : Addr} {fdI : FuncData}
theorem scL : FnScope ["script", "k", "pot", "way", "value", "named"] ["script"] (defScope sLaw) := ⟨rfl, rfl, rfl, by decide +kernel, rfl, by decide +kernel, by decide +kernel⟩
theorem ok_law {f fP fD fPl fV f1 f2 f3 fM fKi fKe fC : Addr} {fd fdP fdD fdPl fdV fd1 fd2 fd3 fdM fdKi fdKe fdC : FuncData} (F : Fun K "law" "law" sLaw f fd) (S : Errs K mg fI fdI cs) (B : Blt mg) (VE : mg "ValueError" = none)
    (Po : Has K mg "_law_pot" sPot ["script", "k"] fP fdP) (D : Has K mg "_law_draw" sDraw ["pot", "many"] fD fdD) (Pl : Has K mg "_law_plain" sPlain ["pot"] fPl fdPl) (Vl : Has K mg "_law_value" sValue ["pot", "deep"] fV fdV)
    (A1 : Has K mg "_law_first" sFirst ["way", "value", "named"] f1 fd1) (A2 : Has K mg "_law_second" sSecond ["way", "value", "named"] f2 fd2) (A3 : Has K mg "_law_third" sThird ["way", "value", "named"] f3 fd3)
    (M : Has K mg "_law_made" sMade ["way", "value", "named"] fM fdM) (Ki : Has K mg "_law_kinds_right" sKinds ["error", "way"] fKi fdKi) (Ke : Has K mg "_law_kept" sKept ["way", "value", "named"] fKe fdKe) (C : Has K mg "_law_changed" sChanged ["way", "named"] fC fdC) :
    FnOkG P w K mg base 7 f fd ["script"] (spLaw K) := by
  have GP : FnOk P w K mg base CX0 1 fP fdP ["script", "k"] (spPot K) := ok_pot Po.F B
  have GD : FnOk P w K mg base CX0 1 fD fdD ["pot", "many"] spDraw := ok_draw D.F B
  have GV : FnOk P w K mg base CX0 6 fV fdV ["pot", "deep"] (spValue 3) := ok_value Vl D Pl B 3
  have GM : FnOk P w K mg base CX0 4 fM fdM ["way", "value", "named"] (spMade cs 0 25) := ok_made M.F S A1 A2 A3
  have GKi : FnOk P w K mg base CX0 1 fKi fdKi ["error", "way"] (spKinds cs) := ok_kinds Ki.F S B VE
  have GKe : FnOkG P w K mg base 5 fKe fdKe ["way", "value", "named"] spKept := ok_kept Ke.F S B M GM Ki GKi
  have GC : FnOkG P w K mg base 5 fC fdC ["way", "named"] spChanged := ok_changed C.F S B M GM
  refine F.okG scL (fun vs H Q E h => ?_) (fun cdv A outer s H vs Q E hG0 hr h => ?_)
  · obtain ⟨a, ns, rfl, _⟩ := h
    rfl
  · obtain ⟨a, ns, rfl, hS, hlen, q⟩ := h
    have hr1 : Room 1 _ := hr.mono (by decide)
    have hr5 : Room 5 _ := hr.mono (by decide)
    have hG : (A.deeper (envOfC "law" (defScope sLaw) s.heap.objs.size f cdv)).guards = some [] := hG0
    refine ⟨_, pss_cons (ps_for PassesOwn.never rfl (pi_range1 rfl B.range (pa_cons (pe_callB (call_max2 rfl) (by rfl) B.max (by decide +kernel) (pa_cons pe_int (pa_cons (pe_callB (call_min2 rfl) (by rfl) B.min (by decide +kernel) (pa_cons pe_int (pa_cons (pe_callB call_len_seq (by rfl) B.len (by decide +kernel) (pa_cons (pv 0) pa_nil)) pa_nil))) pa_nil))) pa_nil)) (pg_name (i := 1) scL.nd rfl (Or.inl rfl))
        (pss_cons (ps_set (i := 2) scL.nd rfl (.inl rfl) (pe_call GP hr1 rfl Po.g Po.F.kp Po.b .nil pass0 (pa_cons (pv 0) (pa_cons (pv 1) pa_nil))))
        (pss_one (ps_for PassesOwn.never rfl (pi_range1 rfl B.range (pa_cons pe_int pa_nil)) (pg_name (i := 3) scL.nd rfl (Or.inl rfl))
          (pss_cons (ps_par (i := 4) (j := 5) rfl scL.nd rfl rfl (by decide) rfl rfl (pa_cons (pe_call GV hr rfl Vl.g Vl.F.kp Vl.b .nil pass0 (pa_cons (pv 2) (pa_cons pe_int pa_nil))) (pa_cons (pe_cmpR op_eq (pe_call GD hr1 rfl D.g D.F.kp D.b .nil pass0 (pa_cons (pv 2) (pa_cons pe_int pa_nil))) pe_int (nomark _)) pa_nil)) (by rfl))
          (pss_one (ps_if (PW.pt (pw_or (pt_not (pt_val (pe_callG hG GKe hr5 rfl Ke.g Ke.F.kp Ke.b (pa_cons (pv 3) (pa_cons (pv 4) (pa_cons (pv 5) pa_nil)))))) (pw_or1 (pt_not (pt_val (pe_callG hG GC hr5 rfl C.g C.F.kp C.b (pa_cons (pv 3) (pa_cons (pv 5) pa_nil)))))))) (pss_one (ps_ret pe_bl)) pss_nil)))))))
      (pss_one (ps_ret pe_bl)), ?_⟩
    refine ⟨_, rfl, a, _, rfl, .inl hS, _, _, rfl, _, _, rfl, _, rfl, ?_, ?_, ?_⟩
    · repeat' split <;> omega
    · repeat' split <;> omega
    refine for_range (lo := 0) (fun i σ H' => ∃ v1 v2 v3 v4 v5 : Option V, σ = [some (.ref a), v1, v2, v3, v4, v5] ∧ Same H H') ⟨_, _, _, _, _, rfl, Same.refl _⟩ ?_ ?_
    · rintro i σ H1 hi ⟨v1, v2, v3, v4, v5, rfl, s1⟩
      refine ⟨_, rfl, _, rfl, a, ns, _, rfl, s1.seq hS, hlen, by omega, fun p H2 hp s2 P2 => ?_⟩
      refine ⟨25, rfl, by decide, by decide, ?_⟩
      refine for_range (lo := 0) (n := 25) (fun j σ H' => ∃ u3 u4 u5 : Option V, σ = [some (.ref a), some (.int (0 + (i : Nat))), some (.ref p), u3, u4, u5] ∧ Same H1 H' ∧ Pot H' p (j * 121)) ⟨_, _, _, rfl, s2, P2.mono rfl (Nat.zero_le _)⟩ ?_ ?_
      · rintro j σ H3 hj ⟨u3, u4, u5, rfl, s3, P3⟩
        refine ⟨_, rfl, p, j * 121, rfl, P3, (by rw [cnt3]; omega), fun v d H4 D4 O4 P4 S4 => ?_⟩
        refine ⟨_, rfl, p, j * 121 + cnt 3, 2, rfl, P4, (by rw [cnt3]; omega), by decide, by decide, fun r o r0 r1 P5 => ⟨rfl, v, _, rfl, ?_⟩⟩
        have pot_at : ∀ {G : Hp} {c : Nat}, Pot G p c → ∃ u, G p = some u := fun ⟨_, _, _, z, _⟩ => ⟨_, z⟩
        have D5 : Dat (upd H4 p o) v d := D4.same fun b u e => by
          obtain ⟨z1, z2⟩ := of_fresh e
          obtain ⟨y, hy⟩ := pot_at P3
          rw [upd_ne (fun z => by rw [z, hy] at z1; cases z1)]
          exact z2
        have s5 : Same H1 (upd H4 p o) := fun b u e => by
          have bp : b ≠ p := ne_of_none e hp
          rw [upd_ne bp]
          exact del_get S4 bp (s3 _ _ e)
        have keepP : ∀ {G : Hp}, Same (upd H4 p o) G → Pot G p ((j + 1) * 121) := fun {G} s => by
          obtain ⟨y, hy⟩ := pot_at P5
          exact P5.mono (by rw [hy]; exact s _ _ hy) (by rw [cnt3]; omega)
        refine ⟨_, rfl, _, rfl, _, rfl, j, v, _, d, by rw [Int.zero_add]; rfl, hj, D5, O4, fun H6 s6 => ⟨true, rfl, iteF ?_⟩⟩
        refine ⟨_, rfl, _, rfl, j, _, by rw [Int.zero_add]; rfl, hj, fun H7 s7 => ⟨true, rfl, iteF ?_⟩⟩
        exact ⟨_, _, _, rfl, s5.trans (s6.trans s7), keepP (s6.trans s7)⟩
      · rintro σ H3 ⟨u3, u4, u5, rfl, s3, P3⟩
        exact ⟨_, _, _, _, _, rfl, s1.trans s3⟩
    · rintro σ H1 ⟨v1, v2, v3, v4, v5, rfl, s1⟩
      exact q H1
end
end E0

set_option Elab.async false
set_option linter.all false
set_option maxRecDepth 100000
set_option maxHeartbeats 4000000
namespace E0
open PySem PySem.Spec PyProof.Rows L2
/-- a def of the text stands under its name at f -/
def HasE (K : PySem.W.Frag) (x : Str) (st : Stmt) (f : Addr) : Prop :=
  PySem.W.nsIn K mainGlobals x = some (some (.ref f)) ∧ (∃ (oc : Value) (od : Option Addr) (kV doc pm : Value) (an : Option Addr) (cdv ct : Value) (osl : Array (Option Value)), K.lookup f = some ⟨oc, od, .func (PySem.W.fnOf x x (defArgs st) (defBody st) (defScope st) .none kV doc pm an cdv ct), osl⟩ ∧ PySem.W.codeIn K cdv x = true) ∧ PySem.W.keepIn K (.ref f) = true
theorem has_of {K : PySem.W.Frag} {h : Heap} {mg : Str → Option Value} {x : Str} {st : Stmt} {f : Addr} {ps : List Str} (X : K.In h) (G : h.Ns mainGlobals mg) (e : HasE K x st f)
    (hb : ∀ (kV doc pm : Value) (an : Option Addr) (cdv ct : Value) (us : List Value), us.length = ps.length → bindArgs (PySem.W.fnOf x x (defArgs st) (defBody st) (defScope st) .none kV doc pm an cdv ct) ⟨us, []⟩ = pure (ps.zip us)) : ∃ fd, Has K mg x st ps f fd := by
  obtain ⟨e1, ⟨oc, od, kV, doc, pm, an, cdv, ct, osl, e2, e3⟩, e4⟩ := e
  have F := fun_mk (st := st) e2 e3 e4
  exact ⟨_, F, PySem.W.mg_of X G e1, F.binds hb⟩
theorem getD_mem {l : List Addr} {w : Nat} (h : w < l.length) : l.getD w 0 ∈ l := by
  rw [List.getD_eq_getElem?_getD, List.getElem?_eq_getElem h]
  exact List.getElem_mem _
/-- what the text's classes and the maker of their errors are -/
structure TxtE (K : PySem.W.Frag) (fI : Addr) (l : List Addr) : Prop where
  cls : ∀ w : Nat, w < 25 → ∃ nm q N bs bm sn sub ab col dd k0 k1 k2 k3 k5, K.lookup (l.getD w 0) = some (excClassObj nm q (l.getD w 0) N bs bm true sn sub ab col dd k0 k1 k2 k3 k5 "ValueError.__new__") ∧ PySem.HandSPX.refsVE bm = true
  b : (l.all fun C => errB K fI C) = true
  k : ((List.range 25).all fun w => (List.range 25).all fun k => PySem.W.kitOne K (.ref (l.getD w 0)) (.ref (l.getD k 0)) == some (decide (k = 0 ∨ k = w))) = true
  v : (l.all fun C => PySem.W.kitOne K (.ref C) (.type "ValueError") == some true) = true
theorem all_mk {l : PySem.W.OpenLaw} {w : World} {K : PySem.W.Frag} {h : Heap} {mg : Str → Option Value} {fa fI fL C0 C1 C2 C3 C4 C5 C6 C7 C8 C9 C10 C11 C12 C13 C14 C15 C16 C17 C18 C19 C20 C21 C22 C23 C24 fPo fD fPl fVl fA1 fA2 fA3 fM fKi fKe fC : Addr} (X : K.In h) (G : h.Ns mainGlobals mg) (hfa : mg "law" = some (.ref fa))
    (c0 : PySem.W.nsIn K mainGlobals "SightError" = some (some (.ref C0)))
    (c1 : PySem.W.nsIn K mainGlobals "InvalidSaying" = some (some (.ref C1)))
    (c2 : PySem.W.nsIn K mainGlobals "InvalidPlay" = some (some (.ref C2)))
    (c3 : PySem.W.nsIn K mainGlobals "InvalidAnswers" = some (some (.ref C3)))
    (c4 : PySem.W.nsIn K mainGlobals "InvalidClause" = some (some (.ref C4)))
    (c5 : PySem.W.nsIn K mainGlobals "InvalidNumber" = some (some (.ref C5)))
    (c6 : PySem.W.nsIn K mainGlobals "InvalidName" = some (some (.ref C6)))
    (c7 : PySem.W.nsIn K mainGlobals "InvalidStep" = some (some (.ref C7)))
    (c8 : PySem.W.nsIn K mainGlobals "InvalidRefutation" = some (some (.ref C8)))
    (c9 : PySem.W.nsIn K mainGlobals "NoAnswers" = some (some (.ref C9)))
    (c10 : PySem.W.nsIn K mainGlobals "Holds" = some (some (.ref C10)))
    (c11 : PySem.W.nsIn K mainGlobals "InvalidSight" = some (some (.ref C11)))
    (c12 : PySem.W.nsIn K mainGlobals "NotPlain" = some (some (.ref C12)))
    (c13 : PySem.W.nsIn K mainGlobals "NotTwos" = some (some (.ref C13)))
    (c14 : PySem.W.nsIn K mainGlobals "InvalidSums" = some (some (.ref C14)))
    (c15 : PySem.W.nsIn K mainGlobals "InvalidNet" = some (some (.ref C15)))
    (c16 : PySem.W.nsIn K mainGlobals "InvalidGoal" = some (some (.ref C16)))
    (c17 : PySem.W.nsIn K mainGlobals "InvalidTables" = some (some (.ref C17)))
    (c18 : PySem.W.nsIn K mainGlobals "InvalidMarked" = some (some (.ref C18)))
    (c19 : PySem.W.nsIn K mainGlobals "InvalidCut" = some (some (.ref C19)))
    (c20 : PySem.W.nsIn K mainGlobals "Broken" = some (some (.ref C20)))
    (c21 : PySem.W.nsIn K mainGlobals "Nothing" = some (some (.ref C21)))
    (c22 : PySem.W.nsIn K mainGlobals "Unreadable" = some (some (.ref C22)))
    (c23 : PySem.W.nsIn K mainGlobals "InvalidCommand" = some (some (.ref C23)))
    (c24 : PySem.W.nsIn K mainGlobals "NotReady" = some (some (.ref C24)))
    (eI : ∃ (oc : Value) (od : Option Addr) (kV doc pm : Value) (an : Option Addr) (cdv ct : Value) (osl : Array (Option Value)), PySem.W.findIn K (.ref C0) "__init__" = some (some (.ref fI)) ∧ K.lookup fI = some ⟨oc, od, .func (PySem.W.fnOf "__init__" "SightError.__init__" (defArgs sInit) (defBody sInit) (defScope sInit) .none kV doc pm an cdv ct), osl⟩ ∧ PySem.W.codeIn K cdv "SightError.__init__" = true ∧ PySem.W.keepIn K (.ref fI) = true ∧ PySem.W.typeIn K (.ref fI) = some (.type "function"))
    (x0 : ∃ nm q N bs bm sn sub ab col dd k0 k1 k2 k3 k5, K.lookup C0 = some (excClassObj nm q C0 N bs bm true sn sub ab col dd k0 k1 k2 k3 k5 "ValueError.__new__") ∧ PySem.HandSPX.refsVE bm = true)
    (x1 : ∃ nm q N bs bm sn sub ab col dd k0 k1 k2 k3 k5, K.lookup C1 = some (excClassObj nm q C1 N bs bm true sn sub ab col dd k0 k1 k2 k3 k5 "ValueError.__new__") ∧ PySem.HandSPX.refsVE bm = true)
    (x2 : ∃ nm q N bs bm sn sub ab col dd k0 k1 k2 k3 k5, K.lookup C2 = some (excClassObj nm q C2 N bs bm true sn sub ab col dd k0 k1 k2 k3 k5 "ValueError.__new__") ∧ PySem.HandSPX.refsVE bm = true)
    (x3 : ∃ nm q N bs bm sn sub ab col dd k0 k1 k2 k3 k5, K.lookup C3 = some (excClassObj nm q C3 N bs bm true sn sub ab col dd k0 k1 k2 k3 k5 "ValueError.__new__") ∧ PySem.HandSPX.refsVE bm = true)
    (x4 : ∃ nm q N bs bm sn sub ab col dd k0 k1 k2 k3 k5, K.lookup C4 = some (excClassObj nm q C4 N bs bm true sn sub ab col dd k0 k1 k2 k3 k5 "ValueError.__new__") ∧ PySem.HandSPX.refsVE bm = true)
    (x5 : ∃ nm q N bs bm sn sub ab col dd k0 k1 k2 k3 k5, K.lookup C5 = some (excClassObj nm q C5 N bs bm true sn sub ab col dd k0 k1 k2 k3 k5 "ValueError.__new__") ∧ PySem.HandSPX.refsVE bm = true)
    (x6 : ∃ nm q N bs bm sn sub ab col dd k0 k1 k2 k3 k5, K.lookup C6 = some (excClassObj nm q C6 N bs bm true sn sub ab col dd k0 k1 k2 k3 k5 "ValueError.__new__") ∧ PySem.HandSPX.refsVE bm = true)
    (x7 : ∃ nm q N bs bm sn sub ab col dd k0 k1 k2 k3 k5, K.lookup C7 = some (excClassObj nm q C7 N bs bm true sn sub ab col dd k0 k1 k2 k3 k5 "ValueError.__new__") ∧ PySem.HandSPX.refsVE bm = true)
    (x8 : ∃ nm q N bs bm sn sub ab col dd k0 k1 k2 k3 k5, K.lookup C8 = some (excClassObj nm q C8 N bs bm true sn sub ab col dd k0 k1 k2 k3 k5 "ValueError.__new__") ∧ PySem.HandSPX.refsVE bm = true)
    (x9 : ∃ nm q N bs bm sn sub ab col dd k0 k1 k2 k3 k5, K.lookup C9 = some (excClassObj nm q C9 N bs bm true sn sub ab col dd k0 k1 k2 k3 k5 "ValueError.__new__") ∧ PySem.HandSPX.refsVE bm = true)
    (x10 : ∃ nm q N bs bm sn sub ab col dd k0 k1 k2 k3 k5, K.lookup C10 = some (excClassObj nm q C10 N bs bm true sn sub ab col dd k0 k1 k2 k3 k5 "ValueError.__new__") ∧ PySem.HandSPX.refsVE bm = true)
    (x11 : ∃ nm q N bs bm sn sub ab col dd k0 k1 k2 k3 k5, K.lookup C11 = some (excClassObj nm q C11 N bs bm true sn sub ab col dd k0 k1 k2 k3 k5 "ValueError.__new__") ∧ PySem.HandSPX.refsVE bm = true)
    (x12 : ∃ nm q N bs bm sn sub ab col dd k0 k1 k2 k3 k5, K.lookup C12 = some (excClassObj nm q C12 N bs bm true sn sub ab col dd k0 k1 k2 k3 k5 "ValueError.__new__") ∧ PySem.HandSPX.refsVE bm = true)
    (x13 : ∃ nm q N bs bm sn sub ab col dd k0 k1 k2 k3 k5, K.lookup C13 = some (excClassObj nm q C13 N bs bm true sn sub ab col dd k0 k1 k2 k3 k5 "ValueError.__new__") ∧ PySem.HandSPX.refsVE bm = true)
    (x14 : ∃ nm q N bs bm sn sub ab col dd k0 k1 k2 k3 k5, K.lookup C14 = some (excClassObj nm q C14 N bs bm true sn sub ab col dd k0 k1 k2 k3 k5 "ValueError.__new__") ∧ PySem.HandSPX.refsVE bm = true)
    (x15 : ∃ nm q N bs bm sn sub ab col dd k0 k1 k2 k3 k5, K.lookup C15 = some (excClassObj nm q C15 N bs bm true sn sub ab col dd k0 k1 k2 k3 k5 "ValueError.__new__") ∧ PySem.HandSPX.refsVE bm = true)
    (x16 : ∃ nm q N bs bm sn sub ab col dd k0 k1 k2 k3 k5, K.lookup C16 = some (excClassObj nm q C16 N bs bm true sn sub ab col dd k0 k1 k2 k3 k5 "ValueError.__new__") ∧ PySem.HandSPX.refsVE bm = true)
    (x17 : ∃ nm q N bs bm sn sub ab col dd k0 k1 k2 k3 k5, K.lookup C17 = some (excClassObj nm q C17 N bs bm true sn sub ab col dd k0 k1 k2 k3 k5 "ValueError.__new__") ∧ PySem.HandSPX.refsVE bm = true)
    (x18 : ∃ nm q N bs bm sn sub ab col dd k0 k1 k2 k3 k5, K.lookup C18 = some (excClassObj nm q C18 N bs bm true sn sub ab col dd k0 k1 k2 k3 k5 "ValueError.__new__") ∧ PySem.HandSPX.refsVE bm = true)
    (x19 : ∃ nm q N bs bm sn sub ab col dd k0 k1 k2 k3 k5, K.lookup C19 = some (excClassObj nm q C19 N bs bm true sn sub ab col dd k0 k1 k2 k3 k5 "ValueError.__new__") ∧ PySem.HandSPX.refsVE bm = true)
    (x20 : ∃ nm q N bs bm sn sub ab col dd k0 k1 k2 k3 k5, K.lookup C20 = some (excClassObj nm q C20 N bs bm true sn sub ab col dd k0 k1 k2 k3 k5 "ValueError.__new__") ∧ PySem.HandSPX.refsVE bm = true)
    (x21 : ∃ nm q N bs bm sn sub ab col dd k0 k1 k2 k3 k5, K.lookup C21 = some (excClassObj nm q C21 N bs bm true sn sub ab col dd k0 k1 k2 k3 k5 "ValueError.__new__") ∧ PySem.HandSPX.refsVE bm = true)
    (x22 : ∃ nm q N bs bm sn sub ab col dd k0 k1 k2 k3 k5, K.lookup C22 = some (excClassObj nm q C22 N bs bm true sn sub ab col dd k0 k1 k2 k3 k5 "ValueError.__new__") ∧ PySem.HandSPX.refsVE bm = true)
    (x23 : ∃ nm q N bs bm sn sub ab col dd k0 k1 k2 k3 k5, K.lookup C23 = some (excClassObj nm q C23 N bs bm true sn sub ab col dd k0 k1 k2 k3 k5 "ValueError.__new__") ∧ PySem.HandSPX.refsVE bm = true)
    (x24 : ∃ nm q N bs bm sn sub ab col dd k0 k1 k2 k3 k5, K.lookup C24 = some (excClassObj nm q C24 N bs bm true sn sub ab col dd k0 k1 k2 k3 k5 "ValueError.__new__") ∧ PySem.HandSPX.refsVE bm = true)
    (eb : ([C0, C1, C2, C3, C4, C5, C6, C7, C8, C9, C10, C11, C12, C13, C14, C15, C16, C17, C18, C19, C20, C21, C22, C23, C24].all fun C => errB K fI C) = true)
    (ek : ((List.range 25).all fun w => (List.range 25).all fun k => PySem.W.kitOne K (.ref ([C0, C1, C2, C3, C4, C5, C6, C7, C8, C9, C10, C11, C12, C13, C14, C15, C16, C17, C18, C19, C20, C21, C22, C23, C24].getD w 0)) (.ref ([C0, C1, C2, C3, C4, C5, C6, C7, C8, C9, C10, C11, C12, C13, C14, C15, C16, C17, C18, C19, C20, C21, C22, C23, C24].getD k 0)) == some (decide (k = 0 ∨ k = w))) = true)
    (ev : ([C0, C1, C2, C3, C4, C5, C6, C7, C8, C9, C10, C11, C12, C13, C14, C15, C16, C17, C18, C19, C20, C21, C22, C23, C24].all fun C => PySem.W.kitOne K (.ref C) (.type "ValueError") == some true) = true)
    (hn : PySem.W.specialIn K (.builtin "object.__class__") "__get__" = some (some (.builtin "getset_descriptor.__get__"))) (ht : PySem.W.takesIn K (.builtin "object.__class__") = some true)
    (hPo : HasE K "_law_pot" sPot fPo)
    (hD : HasE K "_law_draw" sDraw fD)
    (hPl : HasE K "_law_plain" sPlain fPl)
    (hVl : HasE K "_law_value" sValue fVl)
    (hA1 : HasE K "_law_first" sFirst fA1)
    (hA2 : HasE K "_law_second" sSecond fA2)
    (hA3 : HasE K "_law_third" sThird fA3)
    (hM : HasE K "_law_made" sMade fM)
    (hKi : HasE K "_law_kinds_right" sKinds fKi)
    (hKe : HasE K "_law_kept" sKept fKe)
    (hC : HasE K "_law_changed" sChanged fC)
    (hL : HasE K "law" sLaw fL)
    (zlen : PySem.W.nsIn K mainGlobals "len" = some none)
    (zsum : PySem.W.nsIn K mainGlobals "sum" = some none)
    (zint : PySem.W.nsIn K mainGlobals "int" = some none)
    (zmax : PySem.W.nsIn K mainGlobals "max" = some none)
    (zmin : PySem.W.nsIn K mainGlobals "min" = some none)
    (zabs : PySem.W.nsIn K mainGlobals "abs" = some none)
    (zstr : PySem.W.nsIn K mainGlobals "str" = some none)
    (zdict : PySem.W.nsIn K mainGlobals "dict" = some none)
    (ztuple : PySem.W.nsIn K mainGlobals "tuple" = some none)
    (zenumerate : PySem.W.nsIn K mainGlobals "enumerate" = some none)
    (zrange : PySem.W.nsIn K mainGlobals "range" = some none)
    (zisinstance : PySem.W.nsIn K mainGlobals "isinstance" = some none)
    (zrepr : PySem.W.nsIn K mainGlobals "repr" = some none)
    (zValueError : PySem.W.nsIn K mainGlobals "ValueError" = some none)
    : ∃ fd : FuncData, (∀ (s : Shared) (u : Value), BindsTo s fd ⟨[u], []⟩ [("script", u)]) ∧ ∀ base : Heap, K.In base → base.Ns mainGlobals mg → FnOkG l.prog w K mg base 7 fa fd ["script"] (spLaw K) := by
  obtain ⟨e1, ⟨oc, od, kV, doc, pm, an, cdv, ct, osl, e2, e3⟩, e4⟩ := hL
  have e := hfa.symm.trans (PySem.W.mg_of X G e1)
  cases e
  have FL := fun_mk (st := sLaw) e2 e3 e4
  obtain ⟨_, _, _, _, _, _, _, _, _, i1, i2, i3, i4, i5⟩ := eI
  have FI := fun_mk (st := sInit) i2 i3 i4
  obtain ⟨_, Po⟩ := has_of (ps := ["script", "k"]) X G hPo fun _ _ _ _ _ _ us hl => match us, hl with | [_, _], _ => rfl
  obtain ⟨_, D⟩ := has_of (ps := ["pot", "many"]) X G hD fun _ _ _ _ _ _ us hl => match us, hl with | [_, _], _ => rfl
  obtain ⟨_, Pl⟩ := has_of (ps := ["pot"]) X G hPl fun _ _ _ _ _ _ us hl => match us, hl with | [_], _ => rfl
  obtain ⟨_, Vl⟩ := has_of (ps := ["pot", "deep"]) X G hVl fun _ _ _ _ _ _ us hl => match us, hl with | [_, _], _ => rfl
  obtain ⟨_, A1⟩ := has_of (ps := ["way", "value", "named"]) X G hA1 fun _ _ _ _ _ _ us hl => match us, hl with | [_, _, _], _ => rfl
  obtain ⟨_, A2⟩ := has_of (ps := ["way", "value", "named"]) X G hA2 fun _ _ _ _ _ _ us hl => match us, hl with | [_, _, _], _ => rfl
  obtain ⟨_, A3⟩ := has_of (ps := ["way", "value", "named"]) X G hA3 fun _ _ _ _ _ _ us hl => match us, hl with | [_, _, _], _ => rfl
  obtain ⟨_, M⟩ := has_of (ps := ["way", "value", "named"]) X G hM fun _ _ _ _ _ _ us hl => match us, hl with | [_, _, _], _ => rfl
  obtain ⟨_, Ki⟩ := has_of (ps := ["error", "way"]) X G hKi fun _ _ _ _ _ _ us hl => match us, hl with | [_, _], _ => rfl
  obtain ⟨_, Ke⟩ := has_of (ps := ["way", "value", "named"]) X G hKe fun _ _ _ _ _ _ us hl => match us, hl with | [_, _, _], _ => rfl
  obtain ⟨_, C⟩ := has_of (ps := ["way", "named"]) X G hC fun _ _ _ _ _ _ us hl => match us, hl with | [_, _], _ => rfl
  have B : Blt mg := {len := PySem.W.mg_none_of X G zlen, sum := PySem.W.mg_none_of X G zsum, int := PySem.W.mg_none_of X G zint, max := PySem.W.mg_none_of X G zmax, min := PySem.W.mg_none_of X G zmin, abs := PySem.W.mg_none_of X G zabs, str := PySem.W.mg_none_of X G zstr, dict := PySem.W.mg_none_of X G zdict, tuple := PySem.W.mg_none_of X G ztuple, enum := PySem.W.mg_none_of X G zenumerate, range := PySem.W.mg_none_of X G zrange, isi := PySem.W.mg_none_of X G zisinstance, repr := PySem.W.mg_none_of X G zrepr}
  have cls : ∀ w : Nat, w < 25 → ∃ nm q N bs bm sn sub ab col dd k0 k1 k2 k3 k5, K.lookup ([C0, C1, C2, C3, C4, C5, C6, C7, C8, C9, C10, C11, C12, C13, C14, C15, C16, C17, C18, C19, C20, C21, C22, C23, C24].getD w 0) = some (excClassObj nm q ([C0, C1, C2, C3, C4, C5, C6, C7, C8, C9, C10, C11, C12, C13, C14, C15, C16, C17, C18, C19, C20, C21, C22, C23, C24].getD w 0) N bs bm true sn sub ab col dd k0 k1 k2 k3 k5 "ValueError.__new__") ∧ PySem.HandSPX.refsVE bm = true := fun w hw => match w, hw with
    | 0, _ => x0
    | 1, _ => x1
    | 2, _ => x2
    | 3, _ => x3
    | 4, _ => x4
    | 5, _ => x5
    | 6, _ => x6
    | 7, _ => x7
    | 8, _ => x8
    | 9, _ => x9
    | 10, _ => x10
    | 11, _ => x11
    | 12, _ => x12
    | 13, _ => x13
    | 14, _ => x14
    | 15, _ => x15
    | 16, _ => x16
    | 17, _ => x17
    | 18, _ => x18
    | 19, _ => x19
    | 20, _ => x20
    | 21, _ => x21
    | 22, _ => x22
    | 23, _ => x23
    | 24, _ => x24
    | n + 25, hw => absurd hw (by omega)
  have glo : ∀ w : Nat, w < 25 → mg (names.getD w "") = some (.ref ([C0, C1, C2, C3, C4, C5, C6, C7, C8, C9, C10, C11, C12, C13, C14, C15, C16, C17, C18, C19, C20, C21, C22, C23, C24].getD w 0)) := fun w hw => match w, hw with
    | 0, _ => PySem.W.mg_of X G c0
    | 1, _ => PySem.W.mg_of X G c1
    | 2, _ => PySem.W.mg_of X G c2
    | 3, _ => PySem.W.mg_of X G c3
    | 4, _ => PySem.W.mg_of X G c4
    | 5, _ => PySem.W.mg_of X G c5
    | 6, _ => PySem.W.mg_of X G c6
    | 7, _ => PySem.W.mg_of X G c7
    | 8, _ => PySem.W.mg_of X G c8
    | 9, _ => PySem.W.mg_of X G c9
    | 10, _ => PySem.W.mg_of X G c10
    | 11, _ => PySem.W.mg_of X G c11
    | 12, _ => PySem.W.mg_of X G c12
    | 13, _ => PySem.W.mg_of X G c13
    | 14, _ => PySem.W.mg_of X G c14
    | 15, _ => PySem.W.mg_of X G c15
    | 16, _ => PySem.W.mg_of X G c16
    | 17, _ => PySem.W.mg_of X G c17
    | 18, _ => PySem.W.mg_of X G c18
    | 19, _ => PySem.W.mg_of X G c19
    | 20, _ => PySem.W.mg_of X G c20
    | 21, _ => PySem.W.mg_of X G c21
    | 22, _ => PySem.W.mg_of X G c22
    | 23, _ => PySem.W.mg_of X G c23
    | 24, _ => PySem.W.mg_of X G c24
    | n + 25, hw => absurd hw (by omega)
  have mem : ∀ w : Nat, w < 25 → [C0, C1, C2, C3, C4, C5, C6, C7, C8, C9, C10, C11, C12, C13, C14, C15, C16, C17, C18, C19, C20, C21, C22, C23, C24].getD w 0 ∈ [C0, C1, C2, C3, C4, C5, C6, C7, C8, C9, C10, C11, C12, C13, C14, C15, C16, C17, C18, C19, C20, C21, C22, C23, C24] := fun w hw => getD_mem (l := [C0, C1, C2, C3, C4, C5, C6, C7, C8, C9, C10, C11, C12, C13, C14, C15, C16, C17, C18, C19, C20, C21, C22, C23, C24]) hw
  have S : Errs K mg fI _ (fun w => [C0, C1, C2, C3, C4, C5, C6, C7, C8, C9, C10, C11, C12, C13, C14, C15, C16, C17, C18, C19, C20, C21, C22, C23, C24].getD w 0) := {
    c := fun w hw => errB_ok (List.all_eq_true.mp eb _ (mem w hw)) (cls w hw)
    g := glo
    F := FI
    t := i5
    hn := hn
    ht := ht
    s := fun w k hw hk => by
      have z := List.all_eq_true.mp (List.all_eq_true.mp ek w (List.mem_range.mpr hw)) k (List.mem_range.mpr hk)
      exact beq_iff_eq.mp z
    v := fun w hw => beq_iff_eq.mp (List.all_eq_true.mp ev _ (mem w hw)) }
  exact ⟨_, fun s v => .of_eq rfl, fun base _ _ => ok_law FL S B (PySem.W.mg_none_of X G zValueError) Po D Pl Vl A1 A2 A3 M Ki Ke C⟩
theorem walk {l : PySem.W.OpenLaw} {q : Program} {loose : List Str} {XP : (Str → Option Value) → Heap → Prop} {YP : World → Heap → Prop} {d : DefRec} {K : Params → PySem.W.Frag} (hn : l.most = some 63) (hdf : d.params.defaults = []) (hY : ∀ (w : World) (h : Heap), YP w h → (K w.params).In h)
    (F : ∀ (w : World) (mg : Str → Option Value) (fa : Addr) (h : Heap), (K w.params).In h → h.Ns mainGlobals mg → mg d.name = some (.ref fa) →
      ∃ fd : FuncData, (∀ (s : Shared) (u : Value), BindsTo s fd ⟨[u], []⟩ [("script", u)]) ∧ ∀ base : Heap, (K w.params).In base → base.Ns mainGlobals mg → FnOkG l.prog w (K w.params) mg base 7 fa fd ["script"] (spLaw (K w.params))) :
    PySem.W.WalkO q loose XP YP l.row.toRowW d [] (fun f vs => PySem.call f vs) :=
  walk_ofG (n := 63) (k := 7) (sp := spLaw) hn (by decide) hdf ⟨rfl, by decide, by decide⟩ hY F fun _ _ a ns hl _ hS => ⟨a, ns, rfl, hS, hl, fun _ => rfl⟩
end E0

open PySem PySem.W PyProof.Rows
set_option maxRecDepth 100000 in
set_option maxHeartbeats 0 in
theorem PySem.Challenge.cw_onlyseen_k00_errors_keep_their_value_holds : PySem.Challenge.rw_onlyseen_k00_errors_keep_their_value.Holds := by
  w_on; o_law; k_head; (case hw => w_witness2)
  k_fill
  refine E0.walk (l := PySem.Challenge.rw_onlyseen_k00_errors_keep_their_value) rfl rfl (fun w h Y => PySem.W.kIn_of Y) ?F
  case F =>
    intro w mg fa h KX G hmg
    refine' E0.all_mk KX G hmg ?c0 ?c1 ?c2 ?c3 ?c4 ?c5 ?c6 ?c7 ?c8 ?c9 ?c10 ?c11 ?c12 ?c13 ?c14 ?c15 ?c16 ?c17 ?c18 ?c19 ?c20 ?c21 ?c22 ?c23 ?c24 ?eI ?x0 ?x1 ?x2 ?x3 ?x4 ?x5 ?x6 ?x7 ?x8 ?x9 ?x10 ?x11 ?x12 ?x13 ?x14 ?x15 ?x16 ?x17 ?x18 ?x19 ?x20 ?x21 ?x22 ?x23 ?x24 ?eb ?ek ?ev ?hn ?ht ?hPo ?hD ?hPl ?hVl ?hA1 ?hA2 ?hA3 ?hM ?hKi ?hKe ?hC ?hL ?zlen ?zsum ?zint ?zmax ?zmin ?zabs ?zstr ?zdict ?ztuple ?zenumerate ?zrange ?zisinstance ?zrepr ?zValueError
    (case c0 => k_is)
    (case c1 => k_is)
    (case c2 => k_is)
    (case c3 => k_is)
    (case c4 => k_is)
    (case c5 => k_is)
    (case c6 => k_is)
    (case c7 => k_is)
    (case c8 => k_is)
    (case c9 => k_is)
    (case c10 => k_is)
    (case c11 => k_is)
    (case c12 => k_is)
    (case c13 => k_is)
    (case c14 => k_is)
    (case c15 => k_is)
    (case c16 => k_is)
    (case c17 => k_is)
    (case c18 => k_is)
    (case c19 => k_is)
    (case c20 => k_is)
    (case c21 => k_is)
    (case c22 => k_is)
    (case c23 => k_is)
    (case c24 => k_is)
    (case eI => exact ⟨_, _, _, _, _, _, _, _, _, by k_is, by k_is, by k_is, by k_is, by k_is⟩)
    (case x0 => exact ⟨_, _, _, _, _, _, _, _, _, _, _, _, _, _, _, by k_is, by rfl⟩)
    (case x1 => exact ⟨_, _, _, _, _, _, _, _, _, _, _, _, _, _, _, by k_is, by rfl⟩)
    (case x2 => exact ⟨_, _, _, _, _, _, _, _, _, _, _, _, _, _, _, by k_is, by rfl⟩)
    (case x3 => exact ⟨_, _, _, _, _, _, _, _, _, _, _, _, _, _, _, by k_is, by rfl⟩)
    (case x4 => exact ⟨_, _, _, _, _, _, _, _, _, _, _, _, _, _, _, by k_is, by rfl⟩)
    (case x5 => exact ⟨_, _, _, _, _, _, _, _, _, _, _, _, _, _, _, by k_is, by rfl⟩)
    (case x6 => exact ⟨_, _, _, _, _, _, _, _, _, _, _, _, _, _, _, by k_is, by rfl⟩)
    (case x7 => exact ⟨_, _, _, _, _, _, _, _, _, _, _, _, _, _, _, by k_is, by rfl⟩)
    (case x8 => exact ⟨_, _, _, _, _, _, _, _, _, _, _, _, _, _, _, by k_is, by rfl⟩)
    (case x9 => exact ⟨_, _, _, _, _, _, _, _, _, _, _, _, _, _, _, by k_is, by rfl⟩)
    (case x10 => exact ⟨_, _, _, _, _, _, _, _, _, _, _, _, _, _, _, by k_is, by rfl⟩)
    (case x11 => exact ⟨_, _, _, _, _, _, _, _, _, _, _, _, _, _, _, by k_is, by rfl⟩)
    (case x12 => exact ⟨_, _, _, _, _, _, _, _, _, _, _, _, _, _, _, by k_is, by rfl⟩)
    (case x13 => exact ⟨_, _, _, _, _, _, _, _, _, _, _, _, _, _, _, by k_is, by rfl⟩)
    (case x14 => exact ⟨_, _, _, _, _, _, _, _, _, _, _, _, _, _, _, by k_is, by rfl⟩)
    (case x15 => exact ⟨_, _, _, _, _, _, _, _, _, _, _, _, _, _, _, by k_is, by rfl⟩)
    (case x16 => exact ⟨_, _, _, _, _, _, _, _, _, _, _, _, _, _, _, by k_is, by rfl⟩)
    (case x17 => exact ⟨_, _, _, _, _, _, _, _, _, _, _, _, _, _, _, by k_is, by rfl⟩)
    (case x18 => exact ⟨_, _, _, _, _, _, _, _, _, _, _, _, _, _, _, by k_is, by rfl⟩)
    (case x19 => exact ⟨_, _, _, _, _, _, _, _, _, _, _, _, _, _, _, by k_is, by rfl⟩)
    (case x20 => exact ⟨_, _, _, _, _, _, _, _, _, _, _, _, _, _, _, by k_is, by rfl⟩)
    (case x21 => exact ⟨_, _, _, _, _, _, _, _, _, _, _, _, _, _, _, by k_is, by rfl⟩)
    (case x22 => exact ⟨_, _, _, _, _, _, _, _, _, _, _, _, _, _, _, by k_is, by rfl⟩)
    (case x23 => exact ⟨_, _, _, _, _, _, _, _, _, _, _, _, _, _, _, by k_is, by rfl⟩)
    (case x24 => exact ⟨_, _, _, _, _, _, _, _, _, _, _, _, _, _, _, by k_is, by rfl⟩)
    (case hPo => exact ⟨by k_is, ⟨_, _, _, _, _, _, _, _, _, by k_is, by k_is⟩, by k_is⟩)
    (case hD => exact ⟨by k_is, ⟨_, _, _, _, _, _, _, _, _, by k_is, by k_is⟩, by k_is⟩)
    (case hPl => exact ⟨by k_is, ⟨_, _, _, _, _, _, _, _, _, by k_is, by k_is⟩, by k_is⟩)
    (case hVl => exact ⟨by k_is, ⟨_, _, _, _, _, _, _, _, _, by k_is, by k_is⟩, by k_is⟩)
    (case hA1 => exact ⟨by k_is, ⟨_, _, _, _, _, _, _, _, _, by k_is, by k_is⟩, by k_is⟩)
    (case hA2 => exact ⟨by k_is, ⟨_, _, _, _, _, _, _, _, _, by k_is, by k_is⟩, by k_is⟩)
    (case hA3 => exact ⟨by k_is, ⟨_, _, _, _, _, _, _, _, _, by k_is, by k_is⟩, by k_is⟩)
    (case hM => exact ⟨by k_is, ⟨_, _, _, _, _, _, _, _, _, by k_is, by k_is⟩, by k_is⟩)
    (case hKi => exact ⟨by k_is, ⟨_, _, _, _, _, _, _, _, _, by k_is, by k_is⟩, by k_is⟩)
    (case hKe => exact ⟨by k_is, ⟨_, _, _, _, _, _, _, _, _, by k_is, by k_is⟩, by k_is⟩)
    (case hC => exact ⟨by k_is, ⟨_, _, _, _, _, _, _, _, _, by k_is, by k_is⟩, by k_is⟩)
    (case hL => exact ⟨by k_is, ⟨_, _, _, _, _, _, _, _, _, by k_is, by k_is⟩, by k_is⟩)
    (case zlen => k_is)
    (case zsum => k_is)
    (case zint => k_is)
    (case zmax => k_is)
    (case zmin => k_is)
    (case zabs => k_is)
    (case zstr => k_is)
    (case zdict => k_is)
    (case ztuple => k_is)
    (case zenumerate => k_is)
    (case zrange => k_is)
    (case zisinstance => k_is)
    (case zrepr => k_is)
    (case zValueError => k_is)
    (case hn => k_is); (case ht => k_is)
    (case eb => kernel_rfl)
    (case ek => kernel_rfl)
    (case ev => kernel_rfl)
