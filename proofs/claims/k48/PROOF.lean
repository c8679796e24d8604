import PyProof.Rows.All
import Wide.All
import OpenK.AllK
import Wide.FinOn
import HandS.ForMost
import HandS.ForExc
import HandS.Zip
import HandS.IsInst
import HandS.TupAny
import HandS.Style
import HandS.Flow
import HandS.Defaults
import HandS.ExcField
import HandS.ExcIs
import HandS.TryMany
import HandS.ExcInit
import HandS.ExcValue
import KE.KExcInit
import KE.KTryMore
import KE.KExcIs
import HandS.SortKw
import HandS.SortInts
import HandS.More
import KE.KIndexOf
import KE.DatumOrd
import PyProof.ReprRoads
import KE.GoesMore
import KE.GoesEnum
import HandS.TupMul
import HandS.Conv
import HandS.SetFor
import HandS.RaiseMore
import PyProof.Rows.IntBool
import PyProof.Rows.EqBoolInt
import HandS.TupSets
import HandS.Star
import HandS.Lambda
import HandS.EndTab
import HandS.Deep
import HandS.TryOnly
import KE.KDictZip
import PyProof.ListNew
import KE.KItemsList
import HandS.TupLe
import HandS.Dict
import HandS.Small
import HandS.SortRule
import HandS.Strs
import HandS.EndOwn
import HandS.DictComp
import HandS.Wide
import KE.SortData
import PyProof.TupleKey
import KE.KeyNested
import KE.KDictDisplayH
import HandS.SetKeys
import HandS.ListItems
import KE.KDictList
import KE.KDictWalk
import PySem.Challenge.RW_balconyrow_k48_how_many_views_there_are
set_option Elab.async false
set_option linter.all false
set_option maxRecDepth 100000
set_option maxHeartbeats 4000000
namespace Bal
open PySem PySem.Spec PyProof.Rows L2
/-! ### heaps -/
theorem sm_upd {H : Hp} {p : Addr} {o : HO} (h : H p = none) : Same H (upd H p o) := fun b x e => by
  rw [upd_ne (ne_of_none e h)]
  exact e
/-- the draws' pot: three numbers, the last one at most c -/
def PotO (c : Nat) (o : HO) : Prop := ∃ x0 x1 x2 : Int, o = .lst [.int x0, .int x1, .int x2] ∧ 0 ≤ x0 ∧ 0 ≤ x1 ∧ x1 < 2147483648 ∧ 0 ≤ x2 ∧ x2 ≤ c
def Pot (H : Hp) (p : Addr) (c : Nat) : Prop := ∃ o, H p = some o ∧ PotO c o
/-- all that stood, but p, stands -/
def But (p : Addr) (H H' : Hp) : Prop := ∀ q o, q ≠ p → H q = some o → H' q = some o
theorem But.refl (p : Addr) (H : Hp) : But p H H := fun _ _ _ e => e
theorem But.trans {p : Addr} {H H1 H2 : Hp} (a : But p H H1) (b : But p H1 H2) : But p H H2 := fun q o n e => b q o n (a q o n e)
theorem But.same {p : Addr} {H H1 : Hp} (a : Same H H1) : But p H H1 := fun q o _ e => a q o e
theorem But.sqT {K : PySem.W.Frag} {p a : Addr} {H H' : Hp} {xs : List V} (b : But p H H') (n : a ≠ p) (h : SqT K H a xs) : SqT K H' a xs := by
  rcases h with (h | ⟨o, h⟩) | h
  · exact .inl (.inl (b _ _ n h))
  · exact .inl (.inr ⟨o, b _ _ n h⟩)
  · exact .inr h
theorem Same.sqT {K : PySem.W.Frag} {a : Addr} {H H' : Hp} {xs : List V} (b : Same H H') (h : SqT K H a xs) : SqT K H' a xs := by
  rcases h with (h | ⟨o, h⟩) | h
  · exact .inl (.inl (b _ _ h))
  · exact .inl (.inr ⟨o, b _ _ h⟩)
  · exact .inr h
theorem Pot.mono {H : Hp} {p : Addr} {c d : Nat} (h : Pot H p c) (l : c ≤ d) : Pot H p d := by
  obtain ⟨o, e, x0, x1, x2, a, h0, h1, h2, h3, h4⟩ := h
  exact ⟨o, e, x0, x1, x2, a, h0, h1, h2, h3, by omega⟩
theorem Pot.same {H H' : Hp} {p : Addr} {c : Nat} (h : Pot H p c) (s : Same H H') : Pot H' p c := by
  obtain ⟨o, e, r⟩ := h
  exact ⟨o, s _ _ e, r⟩
theorem Pot.ne {H : Hp} {p q : Addr} {c : Nat} (h : Pot H p c) (n : H q = none) : q ≠ p := fun e => by
  obtain ⟨o, z, _⟩ := h
  rw [← e, n] at z
  cases z
theorem But.none {p a : Addr} {H H' : Hp} (b : But p H H') (n : a ≠ p) (h : H' a = none) : H a = none := by
  cases e : H a with
  | none => rfl
  | some o =>
    rw [b a o n e] at h
    cases h
theorem But.put {p a : Addr} {H H' : Hp} {o : HO} (b : But p H H') (h : H a = Option.none) : But p H (upd H' a o) := fun q o' n e => by
  rw [upd_ne (ne_of_none e h)]
  exact b q o' n e
theorem Same.put {a : Addr} {H H' : Hp} {o : HO} (b : Same H H') (h : H a = Option.none) : Same H (upd H' a o) := fun q o' e => by
  rw [upd_ne (ne_of_none e h)]
  exact b q o' e
theorem Pot.upd {H : Hp} {p a : Addr} {c : Nat} {o : HO} (h : Pot H p c) (n : a ≠ p) : Pot (upd H a o) p c := by
  obtain ⟨o', e, r⟩ := h
  exact ⟨o', by rw [upd_ne (Ne.symm n)]; exact e, r⟩
/-! ### comprehensions over anything -/
theorem lc_gen {J : It} {n : Nat} {g : TG} {tt : TT} {te : TE} {vs : List Nat} {σ : L2.St} {H1 : Hp} {D : Addr} {Qd : Hp → Prop} (Pv : Nat → Hp → Prop) (h0 : Pv 0 (upd H1 D (.lst [])))
    (hgo : ∀ i H, i < n → Pv i H → J.go i H) (hst : ∀ H, Pv n H → J.stop n H)
    (hs : ∀ i H x H', i < n → Pv i H → J.yld i H x H' → g x (wipe σ vs) H' fun σ2 H2 => wipe σ2 vs = wipe σ vs ∧ tt σ2 H2 fun b H3 =>
      if b = true then te σ2 H3 fun y H4 => ∃ acc, H4 D = some (.lst acc) ∧ acc.length < sizeLine ∧ Pv (i + 1) (upd H4 D (.lst (acc ++ [y]))) else Pv (i + 1) H3) (hd : ∀ H, Pv n H → Qd H) :
    ∃ W : Nat → Nat → Hp → Prop, (∃ m, W 0 m (upd H1 D (.lst []))) ∧ ∀ i m H, W i m H →
      (J.stop i H ∧ Qd H) ∨ (J.go i H ∧ ∃ Nx : Hp → Prop, (∀ H', Nx H' → ∃ m', m' < m ∧ W (i + 1) m' H') ∧ ∀ x H', J.yld i H x H' → g x (wipe σ vs) H' fun σ2 H2 => wipe σ2 vs = wipe σ vs ∧ tt σ2 H2 fun b H3 =>
        if b = true then te σ2 H3 fun y H4 => ∃ acc, H4 D = some (.lst acc) ∧ acc.length < sizeLine ∧ Nx (upd H4 D (.lst (acc ++ [y]))) else Nx H3) := by
  refine ⟨fun i m H => m = n - i ∧ i ≤ n ∧ Pv i H, ⟨n, by simp, Nat.zero_le _, h0⟩, ?_⟩
  rintro i m H ⟨rfl, hi, p⟩
  by_cases hlt : i < n
  · exact .inr ⟨hgo i H hlt p, Pv (i + 1), fun H' p' => ⟨n - (i + 1), by omega, rfl, hlt, p'⟩, fun x H' y => hs i H x H' hlt p y⟩
  · have e : i = n := by omega
    subst e
    exact .inl ⟨hst H p, hd H p⟩
/-! ### data -/
theorem dps_ints {K : PySem.W.Frag} {H : Hp} : ∀ ns : List Int, DpAll K H (ns.map V.int) (ns.map PyData.int)
  | [] => .nil
  | n :: ns => .cons (.int n) (dps_ints ns)
theorem dep_ints : ∀ ns : List Int, PyData.depthAll (ns.map PyData.int) = 0
  | [] => rfl
  | n :: ns => by
    show max 0 (PyData.depthAll (ns.map PyData.int)) = 0
    rw [dep_ints ns]
    rfl
theorem cls2 {a b : String} : Paired ClsV [.ty a, .ty b] [.type a, .type b] := .cons (.ty _) (.cons (.ty _) .nil)
theorem kA_no {K : PySem.W.Frag} {a : String} (h1 : kitB a "list" = some false) (h2 : kitB a "tuple" = some false) : PySem.W.kitAny K (.type a) [.type "list", .type "tuple"] = some false :=
  kitAny_cons (b := false) (kit_ty h1) (fun _ => kitAny_cons (b := false) (kit_ty h2) (fun _ => rfl) (fun z => Bool.noConfusion z)) (fun z => Bool.noConfusion z)
theorem kA_lst {K : PySem.W.Frag} : PySem.W.kitAny K (.type "list") [.type "list", .type "tuple"] = some true :=
  kitAny_cons (b := true) (kit_ty (by decide +kernel)) (fun z => Bool.noConfusion z) (fun _ => rfl)
theorem kA_tup {K : PySem.W.Frag} : PySem.W.kitAny K (.type "tuple") [.type "list", .type "tuple"] = some true :=
  kitAny_cons (b := false) (kit_ty (by decide +kernel)) (fun _ => kitAny_cons (b := true) (kit_ty (by decide +kernel)) (fun z => Bool.noConfusion z) (fun _ => rfl)) (fun z => Bool.noConfusion z)
mutual
theorem dp_same {K : PySem.W.Frag} {H H' : Hp} (s : Same H H') : ∀ {d : PyData} {x : V}, Dp K H x d → Dp K H' x d
  | _, _, .non => .non
  | _, _, .bl b => .bl b
  | _, _, .int b => .int b
  | _, _, .str b => .str b
  | _, _, .lst h a => .lst (s.seq h) (dps_same s a)
  | _, _, .tup h a => .tup (Same.sqT s h) (dps_same s a)
theorem dps_same {K : PySem.W.Frag} {H H' : Hp} (s : Same H H') : ∀ {ds : List PyData} {xs : List V}, DpAll K H xs ds → DpAll K H' xs ds
  | _, _, .nil => .nil
  | _, _, .cons a b => .cons (dp_same s a) (dps_same s b)
end
end Bal

namespace Bal
open PySem PySem.Spec PyProof.Rows L2
/-! ### own errors over any of Python's own, each with one field -/
section
open PySem.W PySem.Calls PySem.HandSPX Builtin Builtin.ObjectAttr
variable {prog : Program} {w : World} {A : Around} {E : Value → Shared → Prop} {R : Result → Shared → Prop} {hp : Heap} {g : Array GenState} {d : Drawn} {t : Nat} {os : OsState}
end
end Bal

namespace Bal
open PySem PySem.Spec PyProof.Rows L2
section
open PySem.W PySem.Calls
variable {M : Model} {K : Frag} {A : Around} {E : Value → Shared → Prop} {s : Shared}
end
end Bal

namespace Bal
open PySem PySem.Spec PyProof.Rows L2
/-! ### an error that was caught and is kept -/
/-- at a: an error of the class cls, its dict d -/
def ErV (cls : Value) (d : Option Addr) (a : Addr) : HO := .ext fun h => ∃ (oe : Obj) (vs : Array Value), h.get? a = some oe ∧ Zc cls d oe ∧ oe.data = .fields vs
end Bal

namespace Bal
open PySem PySem.Spec PyProof.Rows L2
/-- the dict of a kept error, where it has one, stands -/
def DcOk (H : Hp) (d : Option Addr) : Prop := ∀ dd, d = some dd → ∃ fs, H dd = some (.xd fs)
theorem DcOk.none {H : Hp} : DcOk H Option.none := fun _ e => nomatch e
theorem DcOk.some {H : Hp} {dd : Addr} {fs : List (Str × V)} (h : H dd = some (.xd fs)) : DcOk H (Option.some dd) := fun _ e => by cases e; exact ⟨fs, h⟩
section
variable {X : Cx} {pins : List (Addr × Obj)} {σ : L2.St} {H : Hp} {s : Shared} {a D : Addr} {d : Option Addr}
/-! ### calls by names alone -/
/-- how such a call binds: g puts the values ws of the names ks in the parameters' order -/
structure KB0 (K : PySem.W.Frag) (fd : FuncData) (ps ks : List Str) (g : List Value → List Value) (gV : List V → List V) : Prop where
  to : ∀ (s : Shared) (ws : List Value), K.In s.heap → ws.length = ks.length → BindsTo s fd ⟨[], ks.zip ws⟩ (ps.zip (g ws))
  rel : ∀ {zs : List V} {ws : List Value}, zs.length = ks.length → Vals zs ws → Vals (gV zs) (g ws)
end
/-! ### xs[::-1] of a list or a tuple -/
theorem rg_rev (n : Nat) : (List.range n).map (fun m => n - 1 - m) = (List.range n).reverse := by
  apply List.ext_getElem
  · simp
  · intro i h1 h2
    simp
theorem rev_pick (xs : Array Value) : ((List.range xs.size).filterMap fun (m : Nat) => xs[(((xs.size : Int) - 1) + (m : Int) * (-1)).toNat]?).toArray = xs.toList.reverse.toArray := by
  have e : (fun (m : Nat) => xs[(((xs.size : Int) - 1) + (m : Int) * (-1)).toNat]?) = (fun k : Nat => xs[k]?) ∘ fun m => xs.size - 1 - m := by
    funext m
    have : (((xs.size : Int) - 1) + (m : Int) * (-1)).toNat = xs.size - 1 - m := by omega
    show xs[(((xs.size : Int) - 1) + (m : Int) * (-1)).toNat]? = xs[xs.size - 1 - m]?
    rw [this]
  rw [e, ← List.filterMap_map, rg_rev, List.filterMap_reverse, PySem.W.krv_all]
section
variable {prog : Program} {w : World} {A : Around} {E : Value → Shared → Prop} {s : Shared}
theorem sl_rev {sl : Addr} {vk : Value} {n : Nat} {Q : Int × Int × Nat → Shared → Prop} (hs : s.heap.IsSliceOf sl .none .none vk) (pk : IsPart vk (some (-1))) (h : Q ((n : Int) - 1, -1, n) s) : wpAny (model prog w) A (Builtin.Slice.sliceApplied (.ref sl) (pure (n : Int))) Q E s := by
  obtain ⟨os, hos, hcs, hds⟩ := id hs
  unfold Builtin.Slice.sliceApplied Builtin.Slice.sliceFields
  refine wpAny_bind (wpAny_bind (wpAny_field hos hds (x := .none) rfl (wpAny_bind (wpAny_field hos hds (x := .none) rfl (wpAny_bind (wpAny_field hos hds (x := vk) rfl (wpAny_pure ?_)))))))
  refine wpAny_bind (HT.slicePart_ pk ?_)
  show wpAny _ _ (if ((-1 : Int) == 0) = true then _ else _) _ _ s
  rw [if_neg (by decide)]
  refine wpAny_bind (slicePart_none (wpAny_bind (slicePart_none (wpAny_bind (wpAny_pure ?_)))))
  show wpAny _ _ (pure ((n : Int) - 1, (-1 : Int), Builtin.Slice.slicePlaces ((n : Int) - 1) (-1) (-1))) _ _ s
  have e : Builtin.Slice.slicePlaces ((n : Int) - 1) (-1) (-1) = n := by
    unfold Builtin.Slice.slicePlaces
    rw [if_neg (by decide), show (-(-1 : Int)) = 1 from rfl, Int.ediv_one]
    split <;> omega
  rw [e]
  exact wpAny_pure h
theorem getItem_tup_rev {t sl : Addr} {items : Array Value} {vk : Value} {Q : Value → Shared → Prop} (ht : IsTup s.heap t items) (hs : s.heap.IsSliceOf sl .none .none vk) (pk : IsPart vk (some (-1)))
    (h : Q (.ref s.heap.objs.size) { s with heap := s.heap.push { cls := .type "tuple", data := .seq items.toList.reverse.toArray } }) (hsz : items.size ≤ sizeLine) : wpAny (model prog w) A (getItem (.ref t) (.ref sl)) Q E s := by
  have hok : sizeOk (.seq items.toList.reverse.toArray) := by
    show items.toList.reverse.toArray.size ≤ sizeLine
    rw [List.size_toArray, List.length_reverse, Array.length_toList]
    exact hsz
  obtain ⟨os, hos, hcs, hds⟩ := id hs; have hTs : s.TypeIs (.ref sl) "slice" := ⟨os, hos, hcs⟩
  unfold getItem
  try with_reducible refine wpAny_holding ?_
  first | refine wpAny_bind (wpAny_pure ?_) | skip
  refine wpAny_bind (wpAny_sequenceKey ht.typeIs (by decide) ?_)
  refine wpAny_bind (wpAny_callSpecial?_slot (name := Str.ofString "__getitem__") ht.typeIs PyProof.Rows.slot_tuple_getitem (wpAny_call_entry PyProof.Rows.slot_tuple_getitem ht.typeIs entry_tuple_getitem ?_ (args_tuple_getitem _ _)))
  show wpAny _ _ (Builtin.Tuple.tupleItemsOf (.ref t) >>= _) _ _ s
  refine wpAny_bind (tupleItemsOf_ ht ?_)
  refine wpAny_bind (wpAny_typeOf hTs ?_)
  rw [if_pos (by decide)]
  refine wpAny_bind (sl_rev hs pk ?_)
  have hno : ¬ ((((items.size : Int) - 1) == 0 && (-1 : Int) == 1 && items.size == items.size) = true) := by
    rw [show ((-1 : Int) == 1) = false from rfl, Bool.and_false, Bool.false_and]
    exact Bool.false_ne_true
  show wpAny _ _ (if (((items.size : Int) - 1) == 0 && (-1 : Int) == 1 && items.size == items.size) = true then _ else _) _ _ s
  rw [if_neg hno, rev_pick]
  first
    | exact wpAny_bind (m := Builtin.Tuple.tupleExact _) (wpAny_newObj_type (wpAny_pure ⟨_, rfl, wpAny_pure h⟩) hok)
    | exact wpAny_bind (m := Builtin.Tuple.tupleExact _) (wpAny_newObj_type (wpAny_bind (wpAny_pure (wpAny_pure ⟨_, rfl, wpAny_pure h⟩))) hok)
    | exact wpAny_bind (wpAny_bind (m := Builtin.Tuple.tupleExact _) (wpAny_newObj_type (wpAny_pure (wpAny_pure ⟨_, rfl, wpAny_pure h⟩)) hok))
    | exact wpAny_bind (wpAny_bind (m := Builtin.Tuple.tupleExact _) (wpAny_newObj_type (wpAny_pure ⟨_, rfl, wpAny_pure h⟩) hok))
end
/-! ### what classes are to one another -/
/-- a class of one's own among the errors: what is asked of it -/
structure ErK (K : PySem.W.Frag) (mg : Str → Option Value) (x : Str) (C : Addr) : Prop where
  g : mg x = some (.ref C)
  ex : PySem.W.subIn K (.ref C) (.type "BaseException") = some true
  hd : PySem.W.hasDictIn K C = true
  ty : PySem.W.typeIn K (.ref C) = some (.type "type")
theorem ErK.one {K : PySem.W.Frag} {mg : Str → Option Value} {x : Str} {C : Addr} (h : ErK K mg x C) {cls : Value} {b : Bool} (s : PySem.W.subIn K cls (.ref C) = some b) : PySem.W.exmOne K cls (.ref C) = some b := PySem.W.exm_ref h.ex h.hd h.ty s
end Bal

namespace Bal
open PySem PySem.Spec PyProof.Rows L2
/-! ### one of two readings -/
/-- a list or a tuple -/
def SqA (K : PySem.W.Frag) (H : Hp) (a : Addr) (xs : List V) : Prop := SqL K H a xs ∨ SqT K H a xs
theorem SqA.same {K : PySem.W.Frag} {H H' : Hp} {a : Addr} {xs : List V} (h : SqA K H a xs) (s : Same H H') : SqA K H' a xs := h.imp (fun h => s.seq h) (fun h => Same.sqT s h)
section
variable {X : Cx} {pins : List (Addr × Obj)} {σ : L2.St} {H : Hp} {s : Shared} {a : Addr}
theorem sq_obj {xs : List V} (I : Inv X pins σ H s) (h : SqA X.K H a xs) : ∃ (its : List Value) (T : String) (o : Obj) (n : Nat), Vals xs its ∧ its.length ≤ sizeLine ∧ (T = "list" ∨ T = "tuple") ∧ s.heap.get? a = some o ∧ o.cls = .type T ∧ o.data = .seq its.toArray n := by
  rcases h with h | h
  · obtain ⟨its, r, ⟨o, n, ho, hc, _, hd⟩, hz⟩ := I.list h
    exact ⟨its, "list", o, n, r, by rw [← r.length]; exact hz, .inl rfl, ho, hc, hd⟩
  · obtain ⟨its, r, ⟨o, ho, hc, n, hd⟩, hz⟩ := I.tuple h
    exact ⟨its, "tuple", o, n, r, by rw [← r.length]; exact hz, .inr rfl, ho, hc, hd⟩
/-- sorted(xs, ..) of numbers, xs a list or a tuple; kw says reverse=b -/
theorem sorted_go {b : Bool} {kw : List (Str × Value)} {ns : List Int} {Q : VK} (I : Inv X pins σ H s) (hs : SqA X.K H a (ns.map V.int)) (hk : ∀ a, Builtin.«list.sort» ⟨[.ref a], kw⟩ = Builtin.«list.sort» ⟨[.ref a], [(Str.ofString "reverse", .bool b)]⟩)
    (ha1 : argsOk "sorted" ⟨[.ref a], kw⟩) (ha2 : ∀ a, argsOk "list.sort" ⟨[a], kw⟩) (q : ∀ (ns' : List Int) (p : Addr), ns'.Perm ns → OrdB b ns' → H p = none → Q (.ref p) (upd H p (.lst (ns'.map V.int)))) :
    wpAny (model X.prog X.w) X.A (call (.builtin "sorted") [.ref a] kw) (EP X pins σ Q) X.xe s := by
  obtain ⟨its, T, o, n, rv, hz, hT, ho, hc, hd⟩ := sq_obj I hs
  have hi := rv.ints
  refine call_function_entry_kw kind_sorted plain_sorted entry_sorted ha1 ?_
  unfold Builtin.«sorted»
  refine wpAny_bind (m := checkCount "sorted" 1 1 _) (wpAny_pure ?_)
  refine wpAny_bind (wpAny_collect_seq a hT ho hc hd (fun h' k => ?_) (by rw [List.size_toArray]; exact hz))
  rw [show its.toArray.toList = its from rfl]
  refine wpAny_bind (wpAny_newList ?_ hz)
  have hoL : (h'.push (seqObj "list" its.toArray 0)).get? h'.objs.size = some (seqObj "list" its.toArray 0) := Heap.get?_push_size _ rfl
  have kk : ∀ b o, s.heap.get? b = some o → (h'.push (seqObj "list" its.toArray 0)).get? b = some o := fun b o e => Heap.get?_push_of_some _ (k b o e)
  have fr : H h'.objs.size = none := (I.kept (t' := s.toks) k).hok.fresh (Nat.le_refl _)
  show wpAny _ _ _ _ _ { s with heap := h'.push (seqObj "list" its.toArray 0) }
  refine wpAny_bind (wpAny_holding (wpAny_call_entry_kw slot_list_sort ⟨_, hoL, rfl⟩ entry_list_sort ?_ (ha2 _)))
  rw [hk]
  refine SrtR.list_sort_ordR SrtO.swo_int hoL hz (fun h2 => SrtO.ints_sortable hi h2) fun out h1 h2 => ⟨_, rfl, ?_⟩
  obtain ⟨ns', k1, k2, k3⟩ := SrtR.ints_outR hi h1 h2
  obtain ⟨ep, he'⟩ := PyProof.Rows.sortedHeap_at (out := if b = true then out.toArray.reverse else out.toArray) hoL
  have hlen : (ns'.map V.int).length ≤ sizeLine := by
    rw [List.length_map, k2.length_eq, ← List.length_map (f := V.int), rv.length]
    exact hz
  have e0 : ((if b = true then out.toArray.reverse else out.toArray).toList).toArray = (if b = true then out.toArray.reverse else out.toArray) := by rw [Array.toArray_toList]
  have old : ∀ c u, s.heap.get? c = some u → (sortedHeap (h'.push (seqObj "list" its.toArray 0)) h'.objs.size its (if b = true then out.toArray.reverse else out.toArray)).get? c = some u := fun c u e => by
    have lt : c < h'.objs.size := Heap.lt_size (k c u e)
    rw [PyProof.Rows.sortedHeap_old (Nat.ne_of_lt lt) (by rw [size_push']; exact Nat.lt_succ_of_lt lt)]
    exact kk c u e
  have hp0 : s.heap.get? h'.objs.size = none := by
    cases e : s.heap.get? h'.objs.size with
    | none => rfl
    | some u => exact absurd (Heap.lt_size (k _ _ e)) (Nat.lt_irrefl _)
  exact wpAny_pure ⟨_, rfl, .ref _, upd H h'.objs.size (.lst (ns'.map V.int)), I.laidN (t' := s.toks) old hp0 fr ⟨hlen, _, ep, vals_of_ints k1, by rw [e0]; exact he'⟩, rfl, q _ _ k2 k3 fr⟩
def rSrt (K : PySem.W.Frag) : List V → Hp → VK → Prop := fun vs H Q => ∃ (a : Addr) (ns : List Int), vs = [V.ref a] ∧ SqA K H a (ns.map V.int) ∧ ∀ (ns' : List Int) (p : Addr), ns'.Perm ns → ns'.Pairwise (· ≤ ·) → H p = none → Q (.ref p) (upd H p (.lst (ns'.map V.int)))
theorem sort_plain (a : Addr) : Builtin.«list.sort» ⟨[.ref a], []⟩ = Builtin.«list.sort» ⟨[.ref a], [(Str.ofString "reverse", .bool false)]⟩ := by
  rw [list_sort_rev]
  first | rfl | kernel_rfl
theorem cr_srt : CallR X (.builtin "sorted") (rSrt X.K) := by
  intro pins s σ H vs us Q I r h
  obtain ⟨a, ns, rfl, hs, q⟩ := h
  obtain rfl := Vals.ref1 r
  exact sorted_go (b := false) (kw := []) I hs sort_plain (args_sorted1 _) (fun _ => args_list_sort _) (fun ns' p pm o n => q ns' p pm o n)
/-! ### xs.index(x) of numbers -/
/-! ### max and min of a tuple of numbers -/
theorem fold_max : ∀ (ns : List Int) (n : Int), ns.foldl max n ∈ n :: ns ∧ ∀ y ∈ n :: ns, y ≤ ns.foldl max n
  | [], n => ⟨List.mem_cons_self .., fun y hy => by
    rw [List.mem_singleton] at hy
    rw [hy]
    exact Int.le_refl _⟩
  | k :: r, n => by
    obtain ⟨h1, h2⟩ := fold_max r (max n k)
    refine ⟨?_, fun y hy => ?_⟩
    · show r.foldl max (max n k) ∈ n :: k :: r
      rcases List.mem_cons.mp h1 with e | e
      · rw [e]
        by_cases z : n ≤ k
        · rw [Int.max_eq_right z]; exact List.mem_cons_of_mem _ (List.mem_cons_self ..)
        · rw [Int.max_eq_left (by omega)]; exact List.mem_cons_self ..
      · exact List.mem_cons_of_mem _ (List.mem_cons_of_mem _ e)
    · show y ≤ r.foldl max (max n k)
      have h3 := h2 (max n k) (List.mem_cons_self ..)
      rcases List.mem_cons.mp hy with e | e
      · omega
      · rcases List.mem_cons.mp e with e | e
        · omega
        · exact h2 y (List.mem_cons_of_mem _ e)
theorem reads_int {h : Heap} {v : Value} {i : Int} {bs : List Addr} (r : Reads h v (.int i) bs) : ∃ t, v = .int i t := by
  cases r
  exact ⟨_, rfl⟩
def rMaxT (K : PySem.W.Frag) : List V → Hp → VK → Prop := fun vs H Q => ∃ (a : Addr) (ns : List Int), vs = [V.ref a] ∧ SqT K H a (ns.map V.int) ∧ ns ≠ [] ∧ ∀ m, m ∈ ns → (∀ y, y ∈ ns → y ≤ m) → Q (.int m) H
theorem cr_maxT (hc : X.calm = true) (hu : X.A.units + 1 < cLine) : CallR X (.builtin "max") (rMaxT X.K) := by
  intro pins s σ H vs us Q I r h
  obtain ⟨a, ns, rfl, hs, hne, q⟩ := h
  obtain rfl := Vals.ref1 r
  obtain ⟨its, rv, hl, hz⟩ := I.tuple hs
  obtain ⟨as, hr⟩ := Dp.readsAll I (ns.map PyData.int) _ _ (dps_ints ns) rv
  cases ns with
  | nil => exact absurd rfl hne
  | cons n ns =>
    refine PySem.W.max_tuple_data (I.ok.hd hc) (show s.heap.IsTuple a its.toArray from hl) hr (PySem.W.alikeAll_datum (n :: ns)) (by rw [show PyData.int n :: List.map PyData.int ns = (n :: ns).map PyData.int from rfl, dep_ints]; exact hu) fun i v h' tk bs hi rd hk => ?_
    rw [PySem.W.maxD_ints] at rd
    obtain ⟨t, rfl⟩ := reads_int rd
    obtain ⟨m1, m2⟩ := fold_max ns n
    exact ⟨.int _, H, I.kept hk, ⟨_, rfl⟩, q _ m1 m2⟩
end
end Bal

namespace Bal
open PySem PySem.Spec PyProof.Rows L2
/-! ### tuples that are known to have no dict -/
def TupN (H : Hp) (a : Addr) (xs : List V) : Prop := ∃ o : Obj, o.dict = none ∧ H a = some (.frz o (.tup xs))
theorem TupN.sq {K : PySem.W.Frag} {H : Hp} {a : Addr} {xs : List V} (h : TupN H a xs) : SqT K H a xs := by
  obtain ⟨o, _, e⟩ := h
  exact .inl (.inr ⟨o, e⟩)
theorem TupN.same {H H' : Hp} {a : Addr} {xs : List V} (h : TupN H a xs) (s : Same H H') : TupN H' a xs := by
  obtain ⟨o, d, e⟩ := h
  exact ⟨o, d, s _ _ e⟩
theorem TupN.new {H : Hp} {a : Addr} {xs : List V} {o : Obj} (h : o.dict = none) : TupN (upd H a (.frz o (.tup xs))) a xs := ⟨o, h, upd_same⟩
/-- a list, or such a tuple -/
def SqB (K : PySem.W.Frag) (H : Hp) (a : Addr) (xs : List V) : Prop := SqL K H a xs ∨ TupN H a xs
theorem SqB.a {K : PySem.W.Frag} {H : Hp} {a : Addr} {xs : List V} (h : SqB K H a xs) : SqA K H a xs := h.imp id (fun h => h.sq)
theorem SqB.same {K : PySem.W.Frag} {H H' : Hp} {a : Addr} {xs : List V} (h : SqB K H a xs) (s : Same H H') : SqB K H' a xs := h.imp (fun h => s.seq h) (fun h => h.same s)
section
variable {X : Cx} {pins : List (Addr × Obj)} {σ : L2.St} {H : Hp} {s : Shared} {a : Addr}
theorem frz_tup {P : Program} {w : World} {H : Hp} {h : Heap} {a : Addr} {xs : List V} {its : List Value} (hz : xs.length ≤ sizeLine) (r : Vals xs its) (e : h.get? a = some { cls := .type "tuple", data := .seq its.toArray }) : ObjOk P w H h a (.frz { cls := .type "tuple", data := .seq its.toArray } (.tup xs)) :=
  ⟨e, hz, its, r, _, e, rfl, _, rfl⟩
/-- tuple(xs) -/
def rTupN (K : PySem.W.Frag) : List V → Hp → VK → Prop := fun xs H Q => ∃ p ys, xs = [.ref p] ∧ ((SqL K H p ys ∧ ∀ l o, o.dict = none → H l = none → Q (.ref l) (upd H l (.frz o (.tup ys)))) ∨ (SqT K H p ys ∧ Q (.ref p) H))
theorem call_tupN : CallR X (.type "tuple") (rTupN X.K) := by
  intro pins s σ H xs us Q I r h
  obtain ⟨p, ys, rfl, h⟩ := h
  obtain ⟨u, rfl, rx⟩ := vals1 r
  cases rx
  rcases h with ⟨hq, q⟩ | ⟨hq, q⟩
  · obtain ⟨its, r', pl, hz⟩ := I.list hq
    have hlen := r'.length
    refine call_tuple_list pl.isList (fun h' kp => ?_) (by simp only [List.size_toArray] <;> omega)
    have I1 : Inv X pins σ H { s with heap := h' } := I.kept (t' := s.toks) kp
    exact ⟨.ref h'.objs.size, _, I1.laid (t' := s.toks) (fun b o e => Heap.get?_push_of_some _ e) (Nat.le_refl _) (frz_tup hz r' (Heap.get?_push_size _ rfl)), rfl, q _ _ rfl (I1.hok.fresh (Nat.le_refl _))⟩
  · obtain ⟨its, r', pl, hz⟩ := I.tuple hq
    exact call_tuple_same pl ⟨.ref p, H, I, rfl, q⟩
/-- xs[::-1] -/
def tRevN (K : PySem.W.Frag) (te : TE) : TE := fun σ H Q => te σ H fun x H1 => ∃ a xs, x = .ref a ∧ ((SqL K H1 a xs ∧ ∀ p, H1 p = none → Q (.ref p) (upd H1 p (.lst xs.reverse))) ∨ (SqT K H1 a xs ∧ ∀ p o, o.dict = none → H1 p = none → Q (.ref p) (upd H1 p (.frz o (.tup xs.reverse)))))
theorem pe_revN {e : Expr} {te : TE} {k : Nat} {p1 p2 p3 pos : Pos} (he : PE X e te) : PE X (.Subscript e (.Slice none none (some (.UnaryOp .USub (.Constant (.int 1) k p1) p2)) p3) pos) (tRevN X.K te) := by
  refine ⟨fun pins s σ H Q I h => ?_⟩
  refine Subscript_ (thn (he.run pins s σ H _ I h) fun v s1 ⟨x, H1, I1, r1, a, xs, ex, q1⟩ => ?_)
  subst ex; cases r1
  have hst : PO X (some (.UnaryOp .USub (.Constant (.int 1) k p1) p2)) (tPart (tUn (rU fun i => .int (-i)) (tC (.int 1)))) := po_some (pe_un un_neg pe_int)
  refine wpAny_Slice (thn (po_none.run pins s1 σ H1 (fun o H2 => o = none ∧ H2 = H1) I1 ⟨rfl, rfl⟩) fun vl s2 ⟨l, H2, I2, pl, el, e2⟩ => ?_)
  subst el e2
  refine thn (po_none.run pins s2 σ H2 (fun o H3 => o = none ∧ H3 = H2) I2 ⟨rfl, rfl⟩) fun vu s3 ⟨u, H3, I3, pu, eu, e3⟩ => ?_
  subst eu e3
  refine thn (hst.run pins s3 σ H3 (fun o H4 => o = some (-1) ∧ H4 = H3) I3 ⟨1, rfl, -1, rfl, rfl, rfl⟩) fun vs s4 ⟨o, H4, I4, ps, eo, e4⟩ => ?_
  subst eo e4
  have I5 : Inv X pins σ H4 { s4 with heap := s4.heap.push { cls := .type "slice", data := .fields #[vl, vu, vs] } } := I4.kept (t' := s4.toks) fun b ob q => Heap.get?_push_of_some _ q
  show wpAny (model X.prog X.w) X.A (subscriptTail e (.Slice none none (some (.UnaryOp .USub (.Constant (.int 1) k p1) p2)) p3) (.ref a) (.ref s4.heap.objs.size)) (EP X pins σ Q) X.xe { s4 with heap := s4.heap.push { cls := .type "slice", data := .fields #[vl, vu, vs] } }
  rcases q1 with ⟨hx, q⟩ | ⟨hx, q⟩
  · obtain ⟨its, r, ht, hz⟩ := I5.list hx
    have hlen := r.length
    refine tail_any (ops := [.ref a, .ref s4.heap.objs.size]) ht.isList.typeIs (PySem.slot_list_getitem.lookup) ?_ (by with_unfolding_all rfl)
    refine wpAny_getItem_list_slice ht.isList (Heap.IsSliceOf.new _ vl vu vs) pl pu ps (by decide) ?_ (by rw [List.size_toArray]; omega)
    rw [PySem.W.krv_pick]
    exact ⟨.ref _, _, I5.laid (t' := s4.toks) (o := .lst xs.reverse) (fun b ob q => Heap.get?_push_of_some _ q) (Nat.le_refl _) ⟨by rw [List.length_reverse]; exact hz, _, 0, r.reverse, Heap.get?_push_size _ rfl⟩, rfl, q _ (I5.hok.fresh (Nat.le_refl _))⟩
  · obtain ⟨its, r, ht, hz⟩ := I5.tuple hx
    have hlen := r.length
    cases pl; cases pu
    refine tail_any (ops := [.ref a, .ref s4.heap.objs.size]) ht.typeIs (PyProof.Rows.slot_tuple_getitem.lookup) ?_ (by with_unfolding_all rfl)
    refine getItem_tup_rev ht (Heap.IsSliceOf.new _ _ _ vs) ps ?_ (by rw [List.size_toArray]; omega)
    exact ⟨.ref _, _, I5.laid (t' := s4.toks) (o := .frz { cls := .type "tuple", data := .seq its.reverse.toArray } (.tup xs.reverse)) (fun b ob q => Heap.get?_push_of_some _ q) (Nat.le_refl _) (frz_tup (by rw [List.length_reverse]; exact hz) r.reverse (Heap.get?_push_size _ rfl)), rfl, q _ _ rfl (I5.hok.fresh (Nat.le_refl _))⟩
end
end Bal

namespace Bal
open PySem PySem.Spec PyProof.Rows L2
/-! ### defs that are called outside of every repr: what they promise there -/
structure FnG (P : Program) (w : World) (K : PySem.W.Frag) (mg : Str → Option Value) (base : Heap) (k : Nat) (f : Addr) (fd : FuncData) (ps : List Str) (sp : Sp) : Prop where
  lenG : ∀ vs H Q E, sp vs H Q E → vs.length = ps.length
  runG : ∀ (A : Around) (outer : List Env) (s : Shared) (H : Hp) (args : Args) (us : List Value) (vs : List V) (Q : VK) (E : XK), A.guards = some [] → Room k A → Env0 P w K mg base A outer s H → BindsTo s fd args (ps.zip us) → Vals vs us → sp vs H Q E → codeAny (model P w) A (.call (.ref f) args) (CR CX0 outer P w H s Q E) s
end Bal

namespace Bal
open PySem PySem.Spec PyProof.Rows L2
/-! ### repr -/
end Bal

namespace Bal
open PySem PySem.Spec PyProof.Rows L2
/-! ### truths among numbers -/
def nv : V → Option Int
  | .int i => some i
  | .bl b => some (if b = true then 1 else 0)
  | _ => none
section
variable {X : Cx}
theorem op_addN : OpR X (binaryOp .Add) (fun x y H Q => ∃ i j, nv x = some i ∧ y = .int j ∧ Q (.int (i + j)) H) := by
  intro pins s σ H x y v u Q I rx ry ⟨i, j, hx, hy, q⟩
  subst hy; obtain ⟨t, rfl⟩ := ry
  cases x with
  | int a => cases hx; obtain ⟨t', rfl⟩ := rx; exact add_int ⟨.int _, H, I.tok _, ⟨_, rfl⟩, q⟩
  | bl b => cases hx; cases rx; exact PySem.IntBool.add_bool_int ⟨.int _, H, I.tok _, ⟨_, rfl⟩, q⟩
  | _ => cases hx
end
/-! ### enumerate of a tuple -/
end Bal

namespace Bal
open PySem PySem.Spec PyProof.Rows L2
/-! ### xs[a:c] = ys, c maybe behind the end -/
/-! ### len(set(t)), t a tuple of numbers -/
end Bal

namespace Bal
open PySem PySem.Spec PyProof.Rows L2
/-! ### which kind a thing is -/
/-! ### the heap without the draws' pot, and without lists that are still being made -/
def hid (N : Addr → Bool) (H : Hp) : Hp := fun q => if N q = true then none else H q
theorem hid_at {N : Addr → Bool} {q : Addr} {H : Hp} (n : N q = false) : hid N H q = H q := if_neg (by rw [n]; exact Bool.false_ne_true)
theorem hid_p {N : Addr → Bool} {q : Addr} {H : Hp} (n : N q = true) : hid N H q = none := if_pos n
theorem hid_some {N : Addr → Bool} {q : Addr} {H : Hp} {o : HO} (e : hid N H q = some o) : N q = false ∧ H q = some o := by
  cases n : N q with
  | true =>
    rw [hid_p n] at e
    cases e
  | false =>
    rw [hid_at n] at e
    exact ⟨rfl, e⟩
theorem hid_but {N : Addr → Bool} {p : Addr} {H H' : Hp} (np : N p = true) (b : But p H H') : Same (hid N H) (hid N H') := fun q o e => by
  obtain ⟨h1, h2⟩ := hid_some e
  rw [hid_at h1]
  refine b q o (fun z => ?_) h2
  rw [z, np] at h1
  cases h1
theorem hid_get {N : Addr → Bool} {q : Addr} {H : Hp} {o : HO} (n : N q = false) (h : H q = some o) : hid N H q = some o := by
  rw [hid_at n]
  exact h
/-- the pot, and what is hidden stands -/
structure PotN (N : Addr → Bool) (H : Hp) (p : Addr) (c : Nat) : Prop where
  pot : Pot H p c
  np : N p = true
  tr : ∀ q, N q = true → ∃ o, H q = some o
theorem PotN.ne {N : Addr → Bool} {H : Hp} {p q : Addr} {c : Nat} (h : PotN N H p c) (n : H q = none) : N q = false := by
  cases e : N q with
  | false => rfl
  | true =>
    obtain ⟨o, z⟩ := h.tr q e
    rw [n] at z
    cases z
theorem PotN.same {N : Addr → Bool} {H H' : Hp} {p : Addr} {c : Nat} (h : PotN N H p c) (s : Same H H') : PotN N H' p c := ⟨h.pot.same s, h.np, fun q e => let ⟨o, z⟩ := h.tr q e; ⟨o, s _ _ z⟩⟩
theorem PotN.but {N : Addr → Bool} {H H' : Hp} {p : Addr} {c c' : Nat} (h : PotN N H p c) (b : But p H H') (P : Pot H' p c') : PotN N H' p c' := ⟨P, h.np, fun q e => by
  by_cases z : q = p
  · subst z
    obtain ⟨o, e, _⟩ := P
    exact ⟨o, e⟩
  · obtain ⟨o, e⟩ := h.tr q e
    exact ⟨o, b q o z e⟩⟩
/-- one more is hidden -/
theorem potN_more {N : Addr → Bool} {H : Hp} {p r : Addr} {c : Nat} {o : HO} (h : PotN N H p c) (hr : H r = some o) : PotN (fun q => N q || decide (q = r)) H p c := ⟨h.pot, by rw [h.np]; rfl, fun q e => by
  rcases Bool.or_eq_true_iff.mp e with e | e
  · exact h.tr q e
  · rw [of_decide_eq_true e]
    exact ⟨o, hr⟩⟩
/-! ### things that are small enough -/
mutual
def okD (M : Nat) : PyData → Bool
  | .none => true
  | .bool _ => true
  | .int i => decide (i.natAbs ≤ M)
  | .str x => PyData.strOk x && decide (x.length ≤ 30)
  | .list xs => okA M xs
  | .tuple xs => okA M xs
  | .dict _ => false
def okA (M : Nat) : List PyData → Bool
  | [] => true
  | x :: xs => okD M x && okA M xs
end
mutual
def siz : PyData → Nat
  | .list xs => sizA xs + 1
  | .tuple xs => sizA xs + 1
  | _ => 1
def sizA : List PyData → Nat
  | [] => 0
  | x :: xs => siz x + sizA xs
end
structure Fit (M S D : Nat) (d : PyData) : Prop where
  ok : okD M d = true
  sz : siz d ≤ S
  dp : d.depth ≤ D
theorem Fit.mono {M S D M' S' D' : Nat} {d : PyData} (h : Fit M S D d) (h0 : okD M d = true → okD M' d = true) (h1 : S ≤ S') (h2 : D ≤ D') : Fit M' S' D' d := ⟨h0 h.ok, Nat.le_trans h.sz h1, Nat.le_trans h.dp h2⟩
mutual
theorem okD_mono {M M' : Nat} (h : M ≤ M') : ∀ d : PyData, okD M d = true → okD M' d = true
  | .none, _ => rfl
  | .bool _, _ => rfl
  | .int i, e => decide_eq_true (Nat.le_trans (of_decide_eq_true e) h)
  | .str x, e => e
  | .list xs, e => okA_mono h xs e
  | .tuple xs, e => okA_mono h xs e
  | .dict _, e => nomatch (show false = true from e)
theorem okA_mono {M M' : Nat} (h : M ≤ M') : ∀ xs : List PyData, okA M xs = true → okA M' xs = true
  | [], _ => rfl
  | x :: xs, e => by
    obtain ⟨a, b⟩ := Bool.and_eq_true_iff.mp (show (okD M x && okA M xs) = true from e)
    show (okD M' x && okA M' xs) = true
    rw [okD_mono h x a, okA_mono h xs b]
    rfl
end
theorem sizA_app : ∀ xs ys : List PyData, sizA (xs ++ ys) = sizA xs + sizA ys
  | [], ys => (Nat.zero_add _).symm
  | x :: xs, ys => by
    show siz x + sizA (xs ++ ys) = siz x + sizA xs + sizA ys
    rw [sizA_app xs ys, Nat.add_assoc]
/-- all parts of a list of things: as a list, as a tuple -/
structure FitA (M S D : Nat) (ds : List PyData) : Prop where
  ok : ∀ d ∈ ds, okD M d = true
  sz : sizA ds ≤ S
  dp : ∀ d ∈ ds, d.depth ≤ D
/-! ### what these are good for -/
/-! ### good things: data out of the pot's reach, small -/
def Gv (K : PySem.W.Frag) (N : Addr → Bool) (H : Hp) (M S D : Nat) (v : V) : Prop := ∃ d, Dp K (hid N H) v d ∧ Fit M S D d
theorem Gv.but {K : PySem.W.Frag} {N : Addr → Bool} {p : Addr} {H H' : Hp} {M S D : Nat} {v : V} (h : Gv K N H M S D v) (np : N p = true) (b : But p H H') : Gv K N H' M S D v := by
  obtain ⟨d, a, f⟩ := h
  exact ⟨d, dp_same (hid_but np b) a, f⟩
theorem Gv.mono {K : PySem.W.Frag} {N : Addr → Bool} {H : Hp} {M S D M' S' D' : Nat} {v : V} (h : Gv K N H M S D v) (h0 : M ≤ M') (h1 : S ≤ S') (h2 : D ≤ D') : Gv K N H M' S' D' v := by
  obtain ⟨d, a, f⟩ := h
  exact ⟨d, a, f.mono (okD_mono h0 d) h1 h2⟩
end Bal

namespace Bal
open PySem PySem.Spec PyProof.Rows L2
theorem sizA_sub {xs ys : List PyData} (h : xs.Sublist ys) : sizA xs ≤ sizA ys := by
  induction h with
  | slnil => exact Nat.le_refl _
  | cons a _ ih => exact Nat.le_trans ih (Nat.le_add_left _ _)
  | cons_cons a _ ih => exact Nat.add_le_add_left ih _
theorem FitA.sub {M S D : Nat} {xs ys : List PyData} (f : FitA M S D ys) (h : xs.Sublist ys) : FitA M S D xs := ⟨fun d hd => f.ok d (h.mem hd), Nat.le_trans (sizA_sub h) f.sz, fun d hd => f.dp d (h.mem hd)⟩
theorem sizA_rev : ∀ xs : List PyData, sizA xs.reverse = sizA xs
  | [] => rfl
  | x :: xs => by
    rw [List.reverse_cons, sizA_app, sizA_rev xs]
    show sizA xs + (siz x + 0) = siz x + sizA xs
    omega
theorem FitA.rev {M S D : Nat} {xs : List PyData} (f : FitA M S D xs) : FitA M S D xs.reverse := ⟨fun d hd => f.ok d (List.mem_reverse.mp hd), by rw [sizA_rev]; exact f.sz, fun d hd => f.dp d (List.mem_reverse.mp hd)⟩
theorem FitA.mono {M S D M' S' D' : Nat} {xs : List PyData} (f : FitA M S D xs) (h0 : M ≤ M') (h1 : S ≤ S') (h2 : D ≤ D') : FitA M' S' D' xs := ⟨fun d hd => okD_mono h0 d (f.ok d hd), Nat.le_trans f.sz h1, fun d hd => Nat.le_trans (f.dp d hd) h2⟩
end Bal

namespace Bal
open PySem PySem.Spec PyProof.Rows L2
/-! ### a walk over a list or a tuple, whichever it is -/
section
variable {X : Cx} {tg : Expr}
def iEi (K : PySem.W.Frag) (tl : TE) : TI := fun σ H R => tl σ H fun x H1 => ∃ a, x = .ref a ∧ (((∃ xs, SqL K H1 a xs) ∧ R (Itl K a) H1) ∨ ((∃ xs, SqT K H1 a xs) ∧ R (Itt K a) H1))
theorem pi_ei {l : Expr} {tl : TE} (hl : PE X l tl) : PI X tg l (iEi X.K tl) := by
  refine ⟨fun pins s σ H R I h => thn (hl.run pins s σ H _ I h) fun v s1 ⟨x, H1, I1, r1, a, ea, q1⟩ => ?_⟩
  subst ea; cases r1
  have fr : ∀ b ∈ [s1.heap.objs.size], FpOk X pins H1 b := fun b hb => by
    rw [show b = s1.heap.objs.size by simpa using hb]
    exact I1.fpOk (Nat.le_refl _) (I1.hok.fresh (Nat.le_refl _))
  rcases q1 with ⟨⟨xs, hq⟩, q⟩ | ⟨⟨xs, hq⟩, q⟩
  · obtain ⟨its, rv, p, hz⟩ := I1.list hq
    exact wpAny_pyIter_list p.isList ⟨s1.heap.objs.size, [s1.heap.objs.size], _, _, H1, rfl, I1.kept (t' := s1.toks) fun b o e => Heap.get?_push_of_some _ e, turn_list a _, ⟨_, Heap.get?_push_size _ rfl, rfl, rfl⟩, fr, q⟩
  · obtain ⟨its, rv, p, hz⟩ := I1.tuple hq
    exact wpAny_pyIter_tuple (show s1.heap.IsTuple a its.toArray from p) ⟨s1.heap.objs.size, [s1.heap.objs.size], _, _, H1, rfl, I1.kept (t' := s1.toks) fun b o e => Heap.get?_push_of_some _ e, turn_tuple a _, ⟨_, Heap.get?_push_size _ rfl, rfl, rfl⟩, fr, q⟩
end
/-! ### what is hidden stands -/
def TrN (N : Addr → Bool) (H : Hp) : Prop := ∀ q, N q = true → ∃ o, H q = some o
/-- D hidden too -/
def plus (N : Addr → Bool) (D : Addr) : Addr → Bool := fun q => N q || decide (q = D)
theorem TrN.none {H : Hp} : TrN (fun _ => false) H := fun _ e => Bool.noConfusion e
theorem TrN.same {N : Addr → Bool} {H H' : Hp} (t : TrN N H) (s : Same H H') : TrN N H' := fun q e => let ⟨o, z⟩ := t q e; ⟨o, s _ _ z⟩
theorem TrN.ne {N : Addr → Bool} {H : Hp} {q : Addr} (t : TrN N H) (n : H q = Option.none) : N q = false := by
  cases e : N q with
  | false => rfl
  | true =>
    obtain ⟨o, z⟩ := t q e
    rw [n] at z
    cases z
theorem TrN.plus {N : Addr → Bool} {H : Hp} {D : Addr} {o : HO} (t : TrN N H) (h : H D = some o) : TrN (plus N D) H := fun q e => by
  rcases Bool.or_eq_true_iff.mp e with e | e
  · exact t q e
  · rw [of_decide_eq_true e]
    exact ⟨o, h⟩
theorem hid_sm {N : Addr → Bool} {H H' : Hp} (s : Same H H') : Same (hid N H) (hid N H') := fun q o e => hid_get (hid_some e).1 (s _ _ (hid_some e).2)
theorem hid_in {N : Addr → Bool} {G G' : Hp} {D : Addr} (n : G D = none) (s : Same G G') : Same (hid N G) (hid (plus N D) G') := fun q o hq => by
  obtain ⟨z1, z2⟩ := hid_some hq
  have z3 : q ≠ D := fun z => by
    rw [z, n] at z2
    cases z2
  exact hid_get (by show (N q || decide (q = D)) = false; rw [z1, decide_eq_false z3]; rfl) (s _ _ z2)
/-! ### tuples as lists, at every depth -/
end Bal

namespace Bal
open PySem PySem.Spec PyProof.Rows L2
/-! ### written things -/
theorem pe_of {X : Cx} {e : Expr} {t t' : TE} (h : PE X e t) (f : ∀ σ H Q, t' σ H Q → t σ H Q) : PE X e t' := ⟨fun pins s σ H Q I q => h.run pins s σ H Q I (f σ H Q q)⟩
theorem pa_of {X : Cx} {es : List Expr} {t t' : TA} (h : PA X es t) (f : ∀ σ H Q, t' σ H Q → t σ H Q) : PA X es t' := ⟨fun pos pins s σ H Q I q => h.run pos pins s σ H Q I (f σ H Q q)⟩
/-! ### many small things at once -/
theorem Gv.sm {K : PySem.W.Frag} {N : Addr → Bool} {H H' : Hp} {M S D : Nat} {v : V} (h : Gv K N H M S D v) (s : Same H H') : Gv K N H' M S D v := by
  obtain ⟨d, a, f⟩ := h
  exact ⟨d, dp_same (hid_sm s) a, f⟩
theorem Gv.into {K : PySem.W.Frag} {N : Addr → Bool} {H H' : Hp} {M S D : Nat} {v : V} {T : Addr} (h : Gv K N H M S D v) (n : H T = none) (s : Same H H') : Gv K (plus N T) H' M S D v := by
  obtain ⟨d, a, f⟩ := h
  exact ⟨d, dp_same (hid_in n s) a, f⟩
theorem PotN.plus {N : Addr → Bool} {H : Hp} {p T : Addr} {c : Nat} {o : HO} (h : PotN N H p c) (e : H T = some o) : PotN (plus N T) H p c := potN_more h e
end Bal

namespace Bal
open PySem PySem.Spec PyProof.Rows L2
/-- a loop over anything of n items -/
theorem for_gen {J : It} {n : Nat} {g : TG} {tb : TS} {D : Ends} {σ : L2.St} {H : Hp} (Pv : Nat → L2.St → Hp → Prop) (h0 : Pv 0 σ H) (hgo : ∀ i σ H, i < n → Pv i σ H → J.go i H) (hst : ∀ σ H, Pv n σ H → J.stop n H)
    (hs : ∀ i σ H x H', i < n → Pv i σ H → J.yld i H x H' → g x σ H' fun σ2 H2 => tb { D with nx := Pv (i + 1), ct := Pv (i + 1), bk := D.nx } σ2 H2) (hd : ∀ σ H, Pv n σ H → D.nx σ H) :
    ∃ W : Nat → Nat → L2.St → Hp → Prop, (∃ m, W 0 m σ H) ∧ ∀ i m σ H, W i m σ H →
      (J.stop i H ∧ D.nx σ H) ∨ (J.go i H ∧ ∃ N : L2.St → Hp → Prop, (∀ σ' H', N σ' H' → ∃ m', m' < m ∧ W (i + 1) m' σ' H') ∧ ∀ x H', J.yld i H x H' → g x σ H' fun σ2 H2 => tb { D with nx := N, ct := N, bk := D.nx } σ2 H2) := by
  refine ⟨fun i m σ H => m = n - i ∧ i ≤ n ∧ Pv i σ H, ⟨n, by simp, Nat.zero_le _, h0⟩, ?_⟩
  rintro i m σ H ⟨rfl, hi, p⟩
  by_cases hlt : i < n
  · exact .inr ⟨hgo i σ H hlt p, Pv (i + 1), fun σ' H' p' => ⟨n - (i + 1), by omega, rfl, hlt, p'⟩, fun x H' y => hs i σ H x H' hlt p y⟩
  · have e : i = n := by omega
    subst e
    exact .inl ⟨hst σ H p, hd σ H p⟩
/-! ### boxes: somebody, the least and the greatest number of taller ones ahead -/
abbrev Tri := Int × Nat × Nat
structure BoxOk (xs : List Int) (cs : List Tri) : Prop where
  souls : cs.map Prod.fst = xs
  lim : ∀ (j : Nat) (c : Tri), cs[j]? = some c → c.2.1 ≤ c.2.2 ∧ c.2.2 ≤ j
theorem BoxOk.snoc {xs : List Int} {cs : List Tri} {x : Int} {l g : Nat} (b : BoxOk xs cs) (h1 : l ≤ g) (h2 : g ≤ cs.length) : BoxOk (xs ++ [x]) (cs ++ [(x, l, g)]) := by
  refine ⟨by rw [List.map_append, b.souls]; rfl, fun j c hj => ?_⟩
  by_cases h : j < cs.length
  · rw [List.getElem?_append_left h] at hj
    exact b.lim j c hj
  · rw [List.getElem?_append_right (by omega)] at hj
    have e : j = cs.length := by
      have := (List.getElem?_eq_some_iff.mp hj).1
      simp at this
      omega
    subst e
    rw [Nat.sub_self] at hj
    cases (Option.some.inj hj : (x, l, g) = c)
    exact ⟨h1, h2⟩
end Bal

namespace Bal
open PySem PySem.Spec PyProof.Rows L2
end Bal

namespace Den
open PySem PySem.Spec PyProof.Rows L2 Bal
/-! ### values by what they are: tuples and lists that nobody changes by their items, lists that change by their number in a store -/
inductive W where
  | non | bl (b : Bool) | int (i : Int) | str (x : Str) | tup (ws : List W) | cl (ws : List W) | sc (ws : List W) | lst (n : Nat) | dct (n : Nat) | dtt (n : Nat) | ins (n : Nat) | exn (c f : Str) (ws : List W) | lam (f c : Addr) (q : Str) (xs : List V) (ws : List W)
abbrev Store := List (List W)
abbrev En := List (Option W)
inductive Out (α : Type) where
  | ok (a : α) (S : Store)
  | err (c f : Str) (ws : List W) (S : Store)
  | bad
abbrev Mo (α : Type) := Store → Out α
def bnd {α β : Type} (m : Mo α) (f : α → Mo β) : Mo β := fun S => match m S with
  | .ok a S' => f a S'
  | .err c g ws S' => .err c g ws S'
  | .bad => .bad
def ret {α : Type} (a : α) : Mo α := fun S => .ok a S
def bad {α : Type} : Mo α := fun _ => .bad
/-! ### how a value of the machine is such a one -/
/-- the written part, the module's names, the lists that are still being made -/
structure Gm where
  K : PySem.W.Frag
  mg : Str → Option Value
  δ : List Addr
def KTup (K : PySem.W.Frag) (a : Addr) (xs : List V) : Prop := ∃ (o : Obj) (its : Array Value) (n : Nat), K.lookup a = some o ∧ o.dict = none ∧ o.cls = .type "tuple" ∧ o.data = .seq its n ∧ its.size ≤ sizeLine ∧ Vals xs its.toList
def KLst (K : PySem.W.Frag) (a : Addr) (xs : List V) : Prop := ∃ (o : Obj) (its : Array Value) (n : Nat), K.lookup a = some o ∧ o.cls = .type "list" ∧ o.dict = none ∧ o.data = .seq its n ∧ its.size ≤ sizeLine ∧ Vals xs its.toList
def TupAt (Γ : Gm) (H : Hp) (μ : List Addr) (a : Addr) (xs : List V) : Prop := (TupN H a xs ∧ a ∉ μ ∧ a ∉ Γ.δ) ∨ KTup Γ.K a xs
def LstAt (Γ : Gm) (H : Hp) (μ : List Addr) (a : Addr) (xs : List V) : Prop := (Rd H a (.lst xs) ∧ a ∉ μ ∧ a ∉ Γ.δ) ∨ KLst Γ.K a xs
section
variable {Γ : Gm} {H H' H'' : Hp} {μ μ' μ'' : List Addr} {S S' : Store} {a : Addr} {xs : List V}
theorem TupAt.sq (h : TupAt Γ H μ a xs) : SqT Γ.K H a xs := h.elim (fun z => z.1.sq) fun ⟨o, its, n, h1, _, h2⟩ => .inr ⟨o, its, n, h1, h2⟩
theorem LstAt.sq (h : LstAt Γ H μ a xs) : SqL Γ.K H a xs := h.imp (fun z => z.1) fun z => z
end
/-! a dict by tuples of numbers: its keys are objects that stand by themselves -/
def hashI (ks : List Int) : Int := reduceHash (Builtin.Tuple.tupleHashOf (ks.map hashInt))
/-- a key: what houses see -/
abbrev TKy := List (List (List Int))
def hashS (w : List (List Int)) : Int := reduceHash (Builtin.Tuple.tupleHashOf (w.map hashI))
def hashV (k : TKy) : Int := reduceHash (Builtin.Tuple.tupleHashOf (k.map hashS))
def tkI (s : List Int) : W := .tup (s.map W.int)
def tkS (w : List (List Int)) : W := .tup (w.map tkI)
def tkW (k : TKy) : W := .tup (k.map tkS)
def DTe (p : (Addr × TKy) × V) (e : DictEntry) : Prop := e.hash = hashV p.1.2 ∧ e.key = .ref p.1.1 ∧ RelV p.2 e.val
def DTf (a : Addr) (kvs : List ((Addr × TKy) × V)) : Heap → Prop := fun h => (a == sysModules) = false ∧ ∃ (o : Obj) (es : Array DictEntry) (ep : Nat), h.get? a = some o ∧ o.ExactDict ∧ o.data = .dict es ep ∧ Paired DTe kvs es.toList ∧ (kvs.map fun p => p.1.2).Nodup
def DTo (a : Addr) (kvs : List ((Addr × TKy) × V)) : HO := .ext (DTf a kvs)
open Classical in
/-- what kind of dict a locked thing is -/
noncomputable def kdf : HO → Nat
  | .dK _ => 1
  | .ext φ => if ∃ a kvs, φ = DTf a kvs then 2 else 3
  | _ => 3
theorem kdf_ne0 (u : HO) : kdf u ≠ 0 := by
  unfold kdf
  split
  · decide
  · split <;> decide
  · decide
/-- the attributes of an instance of an own class, in the order in which they are made -/
def insNames : List Str := ["past", "notes"]
open Classical in
/-- what kind of thing an object of the store is: a list, a dict by numbers and texts, a dict by tuples of numbers -/
noncomputable def kd : HO → Nat
  | .lst _ => 0
  | .dK _ => 1
  | .ext φ => if ∃ a kvs, φ = DTf a kvs then 2 else 3
  | .frz _ u => kdf u
  | .ins C _ _ => C + 4
  | _ => 3
theorem kdf_dt (a : Addr) (kvs : List ((Addr × TKy) × V)) : kdf (DTo a kvs) = 2 := by
  unfold DTo kdf
  exact if_pos ⟨a, kvs, rfl⟩
theorem kd_dt (a : Addr) (kvs : List ((Addr × TKy) × V)) : kd (DTo a kvs) = 2 := by
  unfold DTo kd
  exact if_pos ⟨a, kvs, rfl⟩
theorem kd_ext (φ : Heap → Prop) : kd (.ext φ) = 2 ∨ kd (.ext φ) = 3 := by
  by_cases h : ∃ a kvs, φ = DTf a kvs
  · exact .inl (if_pos h)
  · exact .inr (if_neg h)
theorem all_get (O : Obj) (hO : O.isFreed = false) : ∀ n : Nat, ∃ h : Heap, h.objs.size = n ∧ (∀ b, b < n → h.get? b = some O) ∧ ∀ b o, h.get? b = some o → o = O
  | 0 => ⟨{ objs := #[] }, rfl, fun b hb => absurd hb (Nat.not_lt_zero b), fun b o e => absurd (Heap.lt_size e) (Nat.not_lt_zero b)⟩
  | n + 1 => by
    obtain ⟨h, h1, h2, h3⟩ := all_get O hO n
    have hp : (h.push O).get? h.objs.size = some O := Heap.get?_push_size _ hO
    have hz : (h.push O).objs.size = h.objs.size + 1 := Heap.size_push ..
    refine ⟨h.push O, by rw [hz, h1], fun b hb => ?_, fun b o e => ?_⟩
    · by_cases hbn : b < n
      · exact Heap.get?_push_of_some _ (h2 b hbn)
      · have : b = h.objs.size := by rw [h1]; exact Nat.le_antisymm (Nat.le_of_lt_succ hb) (Nat.le_of_not_lt hbn)
        rw [this]
        exact hp
    · have hb := Heap.lt_size e
      rw [hz] at hb
      by_cases hbn : b < n
      · have e2 : (h.push O).get? b = some O := Heap.get?_push_of_some _ (h2 b hbn)
        rw [e] at e2
        exact Option.some.inj e2
      · have : b = h.objs.size := by rw [h1] at hb ⊢; exact Nat.le_antisymm (Nat.le_of_lt_succ hb) (Nat.le_of_not_lt hbn)
        rw [this, hp] at e
        exact (Option.some.inj e).symm
theorem kd_code (c : Addr) (q : Str) : kd (LamX.CodeO c q) = 3 := by
  unfold LamX.CodeO kd
  refine if_neg ?_
  rintro ⟨a, kvs, e⟩
  obtain ⟨h, _, h2, h3⟩ := all_get { cls := .none, data := .fields #[.none, .str q default] } rfl (c + 1)
  have := congrFun e h
  have h4 : DTf a kvs h := by
    rw [← this]
    exact ⟨_, _, default, h2 c (Nat.lt_succ_self c), rfl, rfl⟩
  obtain ⟨_, o, es, ep, h5, _, h6, _⟩ := h4
  rw [h3 a o h5] at h6
  cases h6
def Kd_ (H : Hp) (a : Addr) (k : Nat) : Prop := ∃ o, H a = some o ∧ kd o = k
def kW : Key → W
  | .inl i => .int i
  | .inr x => .str x
def pairW (k u : W) : W := .tup [k, u]
/-- a dict that is being walked has this ahead of its pairs -/
abbrev mkW : W := .tup []
/-- how a dict of the store is laid by its entry -/
def EntD : Addr → HO → List W → List V → List W → Prop
  | _, .dK kvs, ws, xs, us => xs = kvs.map (·.2) ∧ ws = List.zipWith pairW (kvs.map fun p => kW p.1) us
  | a, .ext φ, ws, xs, us => ∃ (kvs : List ((Addr × TKy) × V)) (uv : List W), φ = DTf a kvs ∧ xs = kvs.map (fun p => V.ref p.1.1) ++ kvs.map (·.2) ∧ us = kvs.map (fun p => tkW p.1.2) ++ uv ∧ uv.length = kvs.length ∧ ws = List.zipWith pairW (kvs.map fun p => tkW p.1.2) uv
  | _, _, _, _, _ => False
/-- how an object of the store is laid by its entry: the values in it, what they are told as -/
def Ent : Addr → HO → List W → List V → List W → Prop
  | _, .lst ys, ws, xs, us => xs = ys ∧ us = ws
  | a, .frz _ u, ws, xs, us => ∃ ws0, ws = mkW :: ws0 ∧ EntD a u ws0 xs us
  | _, .ins _ _ fs, ws, xs, us => xs = fs.map (·.2) ∧ us = ws ∧ fs.map (·.1) = insNames.take fs.length
  | _, .dK kvs, ws, xs, us => xs = kvs.map (·.2) ∧ ws = List.zipWith pairW (kvs.map fun p => kW p.1) us
  | a, .ext φ, ws, xs, us => ∃ (kvs : List ((Addr × TKy) × V)) (uv : List W), φ = DTf a kvs ∧ xs = kvs.map (fun p => V.ref p.1.1) ++ kvs.map (·.2) ∧ us = kvs.map (fun p => tkW p.1.2) ++ uv ∧ uv.length = kvs.length ∧ ws = List.zipWith pairW (kvs.map fun p => tkW p.1.2) uv
  | _, _, _, _, _ => False
theorem Ent.kd {a : Addr} {o : HO} {ws us : List W} {xs : List V} (h : Ent a o ws xs us) : Den.kd o ≠ 3 := by
  intro z
  cases o with
  | frz ob u =>
    obtain ⟨ws0, _, h⟩ := h
    have z : kdf u = 3 := z
    cases u <;> first | (cases z; done) | exact h.elim | skip
    obtain ⟨kvs, uv, e, _⟩ := h
    subst e
    have := kdf_dt a kvs
    unfold DTo at this
    rw [this] at z
    cases z
  | ext φ =>
    obtain ⟨kvs, uv, e, _⟩ := h
    subst e
    have := kd_dt a kvs
    unfold DTo at this
    rw [this] at z
    cases z
  | ins C dx fs => exact absurd z (Nat.ne_of_gt (Nat.lt_of_lt_of_le (show 3 < 4 by decide) (Nat.le_add_left 4 C)))
  | _ => first | (cases z; done) | exact h.elim
mutual
inductive Rp (Γ : Gm) (H : Hp) (μ : List Addr) : V → W → Prop
  | non : Rp Γ H μ .non .non
  | bl (b : Bool) : Rp Γ H μ (.bl b) (.bl b)
  | int (i : Int) : Rp Γ H μ (.int i) (.int i)
  | str (x : Str) : Rp Γ H μ (.str x) (.str x)
  | tup {a : Addr} {xs : List V} {ws : List W} : TupAt Γ H μ a xs → xs.length ≤ sizeLine → Rps Γ H μ xs ws → Rp Γ H μ (.ref a) (.tup ws)
  | cl {a : Addr} {xs : List V} {ws : List W} : H a = some (.lst xs) → a ∉ μ → a ∉ Γ.δ → xs.length ≤ sizeLine → Rps Γ H μ xs ws → Rp Γ H μ (.ref a) (.cl ws)
  | sc {a : Addr} {xs : List V} {ws : List W} : LstAt Γ H μ a xs → Rps Γ H μ xs ws → Rp Γ H μ (.ref a) (.sc ws)
  | lst {a : Addr} {n : Nat} : μ[n]? = some a → Kd_ H a 0 → Rp Γ H μ (.ref a) (.lst n)
  | dct {a : Addr} {n : Nat} : μ[n]? = some a → Kd_ H a 1 → Rp Γ H μ (.ref a) (.dct n)
  | dtt {a : Addr} {n : Nat} : μ[n]? = some a → Kd_ H a 2 → Rp Γ H μ (.ref a) (.dtt n)
  | ins {a C : Addr} {n : Nat} : μ[n]? = some a → Kd_ H a (C + 4) → Γ.mg "Gallery" = some (.ref C) → Rp Γ H μ (.ref a) (.ins n)
  | exn {a C : Addr} {c f : Str} {d : Addr} {xs : List V} {ws : List W} : Γ.mg c = some (.ref C) → H a = some (ErV (.ref C) (some d) a) → a ∉ μ → a ∉ Γ.δ → H d = some (.xd (xs.map fun x => (f, x))) → d ∉ μ → d ∉ Γ.δ → xs.length ≤ 1 → Rps Γ H μ xs ws → Rp Γ H μ (.ref a) (.exn c f ws)
  | exn0 {a C : Addr} {c f : Str} : Γ.mg c = some (.ref C) → H a = some (ErV (.ref C) none a) → a ∉ μ → a ∉ Γ.δ → Rp Γ H μ (.ref a) (.exn c f [])
  | lam {f c : Addr} {q : Str} {xs : List V} {ws : List W} : H c = some (LamX.CodeO c q) → c ∉ μ → c ∉ Γ.δ → Rps Γ H μ xs ws → Rp Γ H μ (.ref f) (.lam f c q xs ws)
inductive Rps (Γ : Gm) (H : Hp) (μ : List Addr) : List V → List W → Prop
  | nil : Rps Γ H μ [] []
  | cons {v : V} {vs : List V} {w : W} {ws : List W} : Rp Γ H μ v w → Rps Γ H μ vs ws → Rps Γ H μ (v :: vs) (w :: ws)
end
/-- what may have become of the heap: what is no list of the store is as it was -/
def NT (o : HO) : Prop := ∀ ps, o ≠ .tbl ps
theorem nt_er {c : Value} {d : Option Addr} {a : Addr} : NT (ErV c d a) := fun _ z => by
  unfold ErV at z
  cases z
theorem nt_co {c : Addr} {q : Str} : NT (LamX.CodeO c q) := LamX.codeO_ne
theorem nt_kd {o : HO} (h : kd o ≠ 3) : NT o := fun ps z => by
  subst z
  exact h rfl
structure Gr (H : Hp) (μ : List Addr) (H' : Hp) (μ' : List Addr) : Prop where
  pre : ∃ r, μ' = μ ++ r
  keepN : ∀ a o, H a = some o → a ∉ μ → NT o → H' a = some o ∧ a ∉ μ'
  kind : ∀ a k, a ∈ μ → Kd_ H a k → Kd_ H' a k
  frz : ∀ a o u, a ∈ μ → H a = some (.frz o u) → H' a = some (.frz o u)
theorem Gr.keep {H H' : Hp} {μ μ' : List Addr} (g : Gr H μ H' μ') (a : Addr) (o : HO) (h : H a = some o) (n : a ∉ μ) (nt : NT o := by first | exact nt_er | exact nt_co | (intro ps z; cases z)) : H' a = some o ∧ a ∉ μ' := g.keepN a o h n nt
/-- the tables of the code objects of the defs in which lambdas are made -/
def lamNames : List Str := ["_law_right", "_law_all_right"]
def tabOf (K : PySem.W.Frag) (mg : Str → Option Value) (nm : Str) : Option (Addr × Str) := match mg nm with
  | some (.ref f) => match K.lookup f with
    | some ⟨_, _, .func fd, _⟩ => match fd.code with
      | .ref c => match K.lookup c with
        | some ⟨_, _, .fields vs, _⟩ => match (vs[11]? : Option Value) with
          | some (.ref P) => some (P, (nm ++ ".<locals>.") ++ "<lambda>")
          | _ => none
        | _ => none
      | _ => none
    | _ => none
  | _ => none
def tabsOf (K : PySem.W.Frag) (mg : Str → Option Value) : List (Addr × Str) := lamNames.filterMap (tabOf K mg)
theorem tabs_upd {T : List (Addr × Str)} {H : Hp} {a : Addr} {x : HO} (t : LamX.Tabs T H) (ha : ∀ o, H a = some o → kd o ≠ 3) : LamX.Tabs T (upd H a x) := fun p hp => by
  obtain ⟨ps, h1, h2, h3⟩ := t p hp
  refine ⟨ps, by rw [upd_ne (fun z => ha _ (by rw [← z]; exact h1) rfl)]; exact h1, h2, fun pos cv hc => ?_⟩
  obtain ⟨c, e1, e2⟩ := h3 pos cv hc
  exact ⟨c, e1, by rw [upd_ne (fun z => ha _ (by rw [← z]; exact e2) (kd_code _ _))]; exact e2⟩
structure Ok (Γ : Gm) (H : Hp) (μ : List Addr) (S : Store) : Prop where
  len : μ.length = S.length
  nd : μ.Nodup
  dl : ∀ a ∈ Γ.δ, (∃ o, H a = some o ∧ kd o ≠ 3) ∧ a ∉ μ
  at_ : ∀ (n : Nat) (a : Addr), μ[n]? = some a → ∃ (o : HO) (ws : List W) (xs : List V) (us : List W), S[n]? = some ws ∧ H a = some o ∧ Ent a o ws xs us ∧ xs.length ≤ sizeLine ∧ Rps Γ H μ xs us
  tb : LamX.Tabs (tabsOf Γ.K Γ.mg) H
section
variable {Γ : Gm} {H H' H'' : Hp} {μ μ' μ'' : List Addr} {S S' : Store}
theorem Gr.refl : Gr H μ H μ := ⟨⟨[], by simp⟩, fun _ _ h n _ => ⟨h, n⟩, fun _ _ _ h => h, fun _ _ _ _ h => h⟩
theorem Gr.trans (a : Gr H μ H' μ') (b : Gr H' μ' H'' μ'') : Gr H μ H'' μ'' := by
  obtain ⟨r, e⟩ := a.pre
  obtain ⟨r2, e2⟩ := b.pre
  exact ⟨⟨r ++ r2, by rw [e2, e, List.append_assoc]⟩, fun x o h n q => let ⟨h1, n1⟩ := a.keep x o h n q; b.keep x o h1 n1 q, fun x k m h => b.kind x k (by rw [e]; exact List.mem_append_left _ m) (a.kind x k m h), fun x o u m h => b.frz x o u (by rw [e]; exact List.mem_append_left _ m) (a.frz x o u m h)⟩
theorem Gr.get {n : Nat} {a : Addr} (g : Gr H μ H' μ') (h : μ[n]? = some a) : μ'[n]? = some a := by
  obtain ⟨r, e⟩ := g.pre
  rw [e, List.getElem?_append_left (List.getElem?_eq_some_iff.mp h).1]
  exact h
theorem TupAt.gr {a : Addr} {xs : List V} (g : Gr H μ H' μ') (h : TupAt Γ H μ a xs) : TupAt Γ H' μ' a xs := by
  rcases h with ⟨⟨o, hd, h⟩, n, m⟩ | h
  · exact .inl ⟨⟨o, hd, (g.keep _ _ h n).1⟩, (g.keep _ _ h n).2, m⟩
  · exact .inr h
theorem LstAt.gr {a : Addr} {xs : List V} (g : Gr H μ H' μ') (h : LstAt Γ H μ a xs) : LstAt Γ H' μ' a xs := by
  rcases h with ⟨h | ⟨o, h⟩, n, m⟩ | h
  · exact .inl ⟨.inl (g.keep _ _ h n).1, (g.keep _ _ h n).2, m⟩
  · exact .inl ⟨.inr ⟨o, (g.keep _ _ h n).1⟩, (g.keep _ _ h n).2, m⟩
  · exact .inr h
mutual
theorem Rp.gr (g : Gr H μ H' μ') : ∀ {v : V} {w : W}, Rp Γ H μ v w → Rp Γ H' μ' v w
  | _, _, .non => .non
  | _, _, .bl b => .bl b
  | _, _, .int i => .int i
  | _, _, .str x => .str x
  | _, _, .tup h l r => .tup (h.gr g) l (Rps.gr g r)
  | _, _, .cl h n m l r => .cl (g.keep _ _ h n).1 (g.keep _ _ h n).2 m l (Rps.gr g r)
  | _, _, .sc h r => .sc (h.gr g) (Rps.gr g r)
  | _, _, .lst h q => .lst (g.get h) (g.kind _ _ (List.mem_of_getElem? h) q)
  | _, _, .dct h q => .dct (g.get h) (g.kind _ _ (List.mem_of_getElem? h) q)
  | _, _, .dtt h q => .dtt (g.get h) (g.kind _ _ (List.mem_of_getElem? h) q)
  | _, _, .ins h q m => .ins (g.get h) (g.kind _ _ (List.mem_of_getElem? h) q) m
  | _, _, .exn m h n z hd nd zd l r => .exn m (g.keep _ _ h n).1 (g.keep _ _ h n).2 z (g.keep _ _ hd nd).1 (g.keep _ _ hd nd).2 zd l (Rps.gr g r)
  | _, _, .exn0 m h n z => .exn0 m (g.keep _ _ h n).1 (g.keep _ _ h n).2 z
  | _, _, .lam h n z r => .lam (g.keep _ _ h n).1 (g.keep _ _ h n).2 z (Rps.gr g r)
theorem Rps.gr (g : Gr H μ H' μ') : ∀ {vs : List V} {ws : List W}, Rps Γ H μ vs ws → Rps Γ H' μ' vs ws
  | _, _, .nil => .nil
  | _, _, .cons a b => .cons (Rp.gr g a) (Rps.gr g b)
end
theorem Rps.len : ∀ {vs : List V} {ws : List W}, Rps Γ H μ vs ws → vs.length = ws.length
  | _, _, .nil => rfl
  | _, _, .cons _ b => congrArg (· + 1) (Rps.len b)
theorem Rps.app : ∀ {vs us : List V} {ws zs : List W}, Rps Γ H μ vs ws → Rps Γ H μ us zs → Rps Γ H μ (vs ++ us) (ws ++ zs)
  | _, _, _, _, .nil, h => h
  | _, _, _, _, .cons a b, h => .cons a (Rps.app b h)
theorem Rps.get : ∀ {vs : List V} {ws : List W} {i : Nat} {v : V}, Rps Γ H μ vs ws → vs[i]? = some v → ∃ w, ws[i]? = some w ∧ Rp Γ H μ v w
  | _, _, _, _, .nil, h => by simp at h
  | _, _, 0, _, .cons a _, h => by simp at h; subst h; exact ⟨_, rfl, a⟩
  | _, _, i + 1, v, .cons _ b, h => by
    obtain ⟨w, e, r⟩ := Rps.get (i := i) (v := v) b (by simpa using h)
    exact ⟨w, by simpa using e, r⟩
theorem Rps.getW {vs : List V} {ws : List W} {i : Nat} {w : W} (r : Rps Γ H μ vs ws) (h : ws[i]? = some w) : ∃ v, vs[i]? = some v ∧ Rp Γ H μ v w := by
  have hi : i < vs.length := by rw [r.len]; exact (List.getElem?_eq_some_iff.mp h).1
  obtain ⟨w', e, q⟩ := r.get (List.getElem?_eq_getElem hi)
  rw [h] at e
  cases e
  exact ⟨_, List.getElem?_eq_getElem hi, q⟩
theorem Rps.take : ∀ {vs : List V} {ws : List W} (n : Nat), Rps Γ H μ vs ws → Rps Γ H μ (vs.take n) (ws.take n)
  | _, _, 0, _ => by simp; exact .nil
  | _, _, _ + 1, .nil => .nil
  | _, _, n + 1, .cons a b => .cons a (Rps.take n b)
theorem Rps.drop : ∀ {vs : List V} {ws : List W} (n : Nat), Rps Γ H μ vs ws → Rps Γ H μ (vs.drop n) (ws.drop n)
  | _, _, 0, h => h
  | _, _, _ + 1, .nil => .nil
  | _, _, n + 1, .cons _ b => Rps.drop n b
theorem Rps.rev : ∀ {vs : List V} {ws : List W}, Rps Γ H μ vs ws → Rps Γ H μ vs.reverse ws.reverse
  | _, _, .nil => .nil
  | _, _, .cons a b => by
    rw [List.reverse_cons, List.reverse_cons]
    exact (Rps.rev b).app (.cons a .nil)
theorem Rps.set : ∀ {vs : List V} {ws : List W} {v : V} {w : W} (n : Nat), Rps Γ H μ vs ws → Rp Γ H μ v w → Rps Γ H μ (vs.set n v) (ws.set n w)
  | _, _, _, _, _, .nil, _ => .nil
  | _, _, _, _, 0, .cons _ b, h => .cons h b
  | _, _, _, _, n + 1, .cons a b, h => .cons a (Rps.set n b h)
/-! ### heaps that grow -/
theorem Ok.ne (k : Ok Γ H μ S) {p : Addr} (h : H p = none) : p ∉ μ := fun z => by
  obtain ⟨n, hn, e⟩ := List.getElem_of_mem z
  obtain ⟨_, _, _, _, _, q, _⟩ := k.at_ n p (by rw [List.getElem?_eq_getElem hn, e])
  rw [h] at q
  cases q
theorem Ok.nδ (k : Ok Γ H μ S) {p : Addr} (h : H p = none) : p ∉ Γ.δ := fun z => by
  obtain ⟨⟨o, e, _⟩, _⟩ := k.dl p z
  rw [h] at e
  cases e
theorem Gr.new {p : Addr} {o : HO} (h : H p = none) (n : p ∉ μ) : Gr H μ (upd H p o) μ := ⟨⟨[], by simp⟩, fun a u e na _ => ⟨by rw [upd_ne (ne_of_none e h)]; exact e, na⟩, fun a k _ ⟨u, e, q⟩ => ⟨u, by rw [upd_ne (ne_of_none e h)]; exact e, q⟩, fun a o u _ e => by rw [upd_ne (ne_of_none e h)]; exact e⟩
theorem Ok.new {p : Addr} {o : HO} (k : Ok Γ H μ S) (h : H p = none) : Ok Γ (upd H p o) μ S := ⟨k.len, k.nd, fun a ha => let ⟨⟨u, e, q⟩, n⟩ := k.dl a ha; ⟨⟨u, by rw [upd_ne (ne_of_none e h)]; exact e, q⟩, n⟩, fun n a e => by
  obtain ⟨o, ws, xs, us, e1, e2, en, l, r⟩ := k.at_ n a e
  exact ⟨o, ws, xs, us, e1, by rw [upd_ne (ne_of_none e2 h)]; exact e2, en, l, r.gr (Gr.new h (k.ne h))⟩, tabs_upd k.tb fun o e => by rw [h] at e; cases e⟩
/-- any growth that leaves the lists of the store alone -/
theorem Ok.same (k : Ok Γ H μ S) (s : Same H H') : Ok Γ H' μ S ∧ Gr H μ H' μ := by
  have g : Gr H μ H' μ := ⟨⟨[], by simp⟩, fun a o h n _ => ⟨s _ _ h, n⟩, fun a k _ ⟨u, e, q⟩ => ⟨u, s _ _ e, q⟩, fun a o u _ h => s _ _ h⟩
  exact ⟨⟨k.len, k.nd, fun a ha => let ⟨⟨u, e, q⟩, n⟩ := k.dl a ha; ⟨⟨u, s _ _ e, q⟩, n⟩, fun n a e => by
    obtain ⟨o, ws, xs, us, e1, e2, en, l, r⟩ := k.at_ n a e
    exact ⟨o, ws, xs, us, e1, s _ _ e2, en, l, r.gr g⟩, k.tb.ext s⟩, g⟩
theorem Ok.allocO {p : Addr} {o : HO} {xs : List V} {ws us : List W} (k : Ok Γ H μ S) (h : H p = none) (en : Ent p o ws xs us) (l : xs.length ≤ sizeLine) (r : Rps Γ H μ xs us) : Ok Γ (upd H p o) (μ ++ [p]) (S ++ [ws]) ∧ Gr H μ (upd H p o) (μ ++ [p]) := by
  have np := k.ne h
  have g : Gr H μ (upd H p o) (μ ++ [p]) := ⟨⟨[p], rfl⟩, fun a u e na _ => ⟨by rw [upd_ne (ne_of_none e h)]; exact e, by
    rw [List.mem_append, List.mem_singleton]
    rintro (z | z)
    · exact na z
    · exact ne_of_none e h z⟩, fun a k _ ⟨u, e, q⟩ => ⟨u, by rw [upd_ne (ne_of_none e h)]; exact e, q⟩, fun a o u _ e => by rw [upd_ne (ne_of_none e h)]; exact e⟩
  refine ⟨⟨by simp [k.len], ?_, fun a ha => ?_, fun n a e => ?_, tabs_upd k.tb fun o e => by rw [h] at e; cases e⟩, g⟩
  · rw [List.nodup_append]
    refine ⟨k.nd, by simp, fun a ha b hb => ?_⟩
    rw [List.mem_singleton] at hb
    subst hb
    exact fun z => np (z ▸ ha)
  · obtain ⟨⟨u, e, q⟩, n⟩ := k.dl a ha
    exact ⟨⟨u, (g.keep _ _ e n (nt_kd q)).1, q⟩, (g.keep _ _ e n (nt_kd q)).2⟩
  · by_cases hn : n < μ.length
    · rw [List.getElem?_append_left hn] at e
      obtain ⟨o2, ws2, ys, zs, e1, e2, en2, l2, r2⟩ := k.at_ n a e
      exact ⟨o2, ws2, ys, zs, by rw [List.getElem?_append_left (by rw [← k.len]; exact hn)]; exact e1, by rw [upd_ne (ne_of_none e2 h)]; exact e2, en2, l2, r2.gr g⟩
    · rw [List.getElem?_append_right (by omega)] at e
      have hn2 : n = μ.length := by
        have := (List.getElem?_eq_some_iff.mp e).1
        simp at this
        omega
      subst hn2
      simp at e
      subst e
      exact ⟨o, ws, xs, us, by rw [k.len, List.getElem?_append_right (Nat.le_refl _)]; simp, upd_same, en, l, r.gr g⟩
theorem Ok.alloc {p : Addr} {xs : List V} {ws : List W} (k : Ok Γ H μ S) (h : H p = none) (l : xs.length ≤ sizeLine) (r : Rps Γ H μ xs ws) : Ok Γ (upd H p (.lst xs)) (μ ++ [p]) (S ++ [ws]) ∧ Gr H μ (upd H p (.lst xs)) (μ ++ [p]) := k.allocO h (o := .lst xs) ⟨rfl, rfl⟩ l r
theorem Ok.setO {n : Nat} {a : Addr} {o : HO} {xs : List V} {ws us : List W} (k : Ok Γ H μ S) (e : μ[n]? = some a) (hk : Kd_ H a (kd o)) (hf : ∀ q u, H a ≠ some (.frz q u)) (en : Ent a o ws xs us) (l : xs.length ≤ sizeLine) (r : Rps Γ H μ xs us) : Ok Γ (upd H a o) μ (S.set n ws) ∧ Gr H μ (upd H a o) μ := by
  have ma : a ∈ μ := List.mem_of_getElem? e
  have g : Gr H μ (upd H a o) μ := ⟨⟨[], by simp⟩, fun b u q nb _ => ⟨by rw [upd_ne (show b ≠ a from fun z => nb (z ▸ ma))]; exact q, nb⟩, fun b k _ ⟨u, e2, q2⟩ => by
    by_cases hb : b = a
    · subst hb
      obtain ⟨u', e3, q3⟩ := hk
      rw [e2] at e3
      cases e3
      exact ⟨o, upd_same, q3.symm.trans q2⟩
    · exact ⟨u, by rw [upd_ne hb]; exact e2, q2⟩, fun b q u _ e2 => by rw [upd_ne (show b ≠ a from fun z => hf q u (z ▸ e2))]; exact e2⟩
  refine ⟨⟨by rw [List.length_set]; exact k.len, k.nd, fun b hb => let ⟨⟨u, e, q⟩, n⟩ := k.dl b hb; ⟨⟨u, (g.keep _ _ e n (nt_kd q)).1, q⟩, n⟩, fun m b q => ?_, tabs_upd k.tb fun o' e' => ?_⟩, g⟩
  by_cases hm : m = n
  · subst hm
    rw [e] at q
    cases q
    have hl : m < S.length := by rw [← k.len]; exact (List.getElem?_eq_some_iff.mp e).1
    exact ⟨o, ws, xs, us, by rw [List.getElem?_set_self hl], upd_same, en, l, r.gr g⟩
  · obtain ⟨o2, ws2, ys, zs, e1, e2, en2, l2, r2⟩ := k.at_ m b q
    have hb : b ≠ a := fun z => by
      subst z
      obtain ⟨i1, j1⟩ := List.getElem?_eq_some_iff.mp e
      obtain ⟨i2, j2⟩ := List.getElem?_eq_some_iff.mp q
      exact hm ((List.getElem_inj k.nd).mp (j2.trans j1.symm))
    exact ⟨o2, ws2, ys, zs, by rw [List.getElem?_set_ne (Ne.symm hm)]; exact e1, by rw [upd_ne hb]; exact e2, en2, l2, r2.gr g⟩
  · obtain ⟨o2, ws2, ys, zs, _, e2, en2, _⟩ := k.at_ n a e
    rw [e'] at e2
    cases e2
    exact en2.kd
theorem Ok.set {n : Nat} {a : Addr} {xs : List V} {ws : List W} (k : Ok Γ H μ S) (e : μ[n]? = some a) (q : Kd_ H a 0) (l : xs.length ≤ sizeLine) (r : Rps Γ H μ xs ws) : Ok Γ (upd H a (.lst xs)) μ (S.set n ws) ∧ Gr H μ (upd H a (.lst xs)) μ := k.setO e (o := .lst xs) q (fun ob u z => by
  obtain ⟨o, e1, q1⟩ := q
  rw [z] at e1
  cases e1
  exact kdf_ne0 u q1) ⟨rfl, rfl⟩ l r
theorem Ok.lat {n : Nat} {a : Addr} (k : Ok Γ H μ S) (e : μ[n]? = some a) (q : Kd_ H a 0) : ∃ (xs : List V) (ws : List W), S[n]? = some ws ∧ H a = some (.lst xs) ∧ xs.length ≤ sizeLine ∧ Rps Γ H μ xs ws := by
  obtain ⟨o, ws, xs, us, e1, e2, en, l, r⟩ := k.at_ n a e
  obtain ⟨o', e3, q⟩ := q
  rw [e2] at e3
  cases e3
  cases o <;> first | (cases q; done) | (rename_i φ; rcases kd_ext φ with z | z <;> (rw [z] at q; cases q)) | (exact absurd q (kdf_ne0 _)) | skip
  obtain ⟨rfl, rfl⟩ := en
  exact ⟨_, _, e1, e2, l, r⟩
/-- whether a dict stands as it is, or is being walked -/
def Lk (H : Hp) (a : Addr) (u : HO) (pre : List W) : Prop := (pre = [] ∧ H a = some u) ∨ (pre = [mkW] ∧ ∃ ob, H a = some (.frz ob u))
theorem Lk.rd {a : Addr} {u : HO} {pre : List W} (h : Lk H a u pre) : Rd H a u := h.elim (fun z => .inl z.2) fun z => .inr z.2
theorem Lk.nil {a : Addr} {u : HO} (h : Lk H a u []) : H a = some u := by
  rcases h with z | ⟨z, _⟩
  · exact z.2
  · cases z
theorem Ok.dat2 {n : Nat} {a : Addr} (k : Ok Γ H μ S) (e : μ[n]? = some a) (q : Kd_ H a 2) : ∃ (kvs : List ((Addr × TKy) × V)) (uv : List W) (pre : List W), S[n]? = some (pre ++ List.zipWith pairW (kvs.map fun p => tkW p.1.2) uv) ∧ Lk H a (DTo a kvs) pre ∧ uv.length = kvs.length ∧ kvs.length + kvs.length ≤ sizeLine ∧ Rps Γ H μ (kvs.map (fun p => V.ref p.1.1) ++ kvs.map (·.2)) (kvs.map (fun p => tkW p.1.2) ++ uv) := by
  obtain ⟨o, ws, xs, us, e1, e2, en, l, r⟩ := k.at_ n a e
  obtain ⟨o', e3, q⟩ := q
  rw [e2] at e3
  cases e3
  cases o with
  | ext φ =>
    obtain ⟨kvs, uv, rfl, rfl, rfl, hl, rfl⟩ := en
    exact ⟨kvs, uv, [], e1, .inl ⟨rfl, e2⟩, hl, by simpa using l, r⟩
  | frz ob u =>
    have q : kdf u = 2 := q
    obtain ⟨ws0, rfl, en⟩ := en
    cases u with
    | ext φ =>
      obtain ⟨kvs, uv, rfl, rfl, rfl, hl, rfl⟩ := en
      exact ⟨kvs, uv, [mkW], e1, .inr ⟨rfl, ob, e2⟩, hl, by simpa using l, r⟩
    | _ => cases q
  | _ => cases q
end
/-! ### a list that is still being made -/
theorem ne_mem {l : List Addr} {a D : Addr} (hD : D ∈ l) (m : a ∉ l) : a ≠ D := fun z => m (by rw [z]; exact hD)
section
variable {Γ : Gm} {H : Hp} {μ : List Addr} {S : Store} {D : Addr} {o : HO}
abbrev Gm.und (Γ : Gm) (D : Addr) : Gm := ⟨Γ.K, Γ.mg, D :: Γ.δ⟩
theorem kd_at {n k : Nat} {a : Addr} (hμ : D ∉ μ) (h : μ[n]? = some a) (q : Kd_ H a k) : Kd_ (upd H D o) a k := let ⟨u, e, z⟩ := q; ⟨u, by rw [upd_ne (show a ≠ D from fun y => hμ (y ▸ List.mem_of_getElem? h))]; exact e, z⟩
theorem kd_new {k : Nat} {a : Addr} (n : H D = none) (q : Kd_ H a k) : Kd_ (upd H D o) a k := let ⟨u, e, z⟩ := q; ⟨u, by rw [upd_ne (ne_of_none e n)]; exact e, z⟩
mutual
theorem Rp.at_ (hD : D ∈ Γ.δ) (hμ : D ∉ μ) : ∀ {v : V} {w : W}, Rp Γ H μ v w → Rp Γ (upd H D o) μ v w
  | _, _, .non => .non
  | _, _, .bl b => .bl b
  | _, _, .int i => .int i
  | _, _, .str x => .str x
  | _, _, .tup h l r => .tup (h.imp (fun ⟨⟨ob, hd, e⟩, n, m⟩ => ⟨⟨ob, hd, by rw [upd_ne (ne_mem hD m)]; exact e⟩, n, m⟩) id) l (Rps.at_ hD hμ r)
  | _, _, .cl h n m l r => .cl (by rw [upd_ne (ne_mem hD m)]; exact h) n m l (Rps.at_ hD hμ r)
  | _, _, .sc h r => .sc (h.imp (fun ⟨e, n, m⟩ => ⟨e.imp (fun e => by rw [upd_ne (ne_mem hD m)]; exact e) (fun ⟨ob, e⟩ => ⟨ob, by rw [upd_ne (ne_mem hD m)]; exact e⟩), n, m⟩) id) (Rps.at_ hD hμ r)
  | _, _, .lst h q => .lst h (kd_at hμ h q)
  | _, _, .dct h q => .dct h (kd_at hμ h q)
  | _, _, .dtt h q => .dtt h (kd_at hμ h q)
  | _, _, .ins h q m => .ins h (kd_at hμ h q) m
  | _, _, .exn m h n z hd nd zd l r => .exn m (by rw [upd_ne (ne_mem hD z)]; exact h) n z (by rw [upd_ne (ne_mem hD zd)]; exact hd) nd zd l (Rps.at_ hD hμ r)
  | _, _, .exn0 m h n z => .exn0 m (by rw [upd_ne (ne_mem hD z)]; exact h) n z
  | _, _, .lam h n z r => .lam (by rw [upd_ne (ne_mem hD z)]; exact h) n z (Rps.at_ hD hμ r)
theorem Rps.at_ (hD : D ∈ Γ.δ) (hμ : D ∉ μ) : ∀ {vs : List V} {ws : List W}, Rps Γ H μ vs ws → Rps Γ (upd H D o) μ vs ws
  | _, _, .nil => .nil
  | _, _, .cons a b => .cons (Rp.at_ hD hμ a) (Rps.at_ hD hμ b)
end
mutual
theorem Rp.out : ∀ {v : V} {w : W}, Rp (Γ.und D) H μ v w → Rp Γ H μ v w
  | _, _, .non => .non
  | _, _, .bl b => .bl b
  | _, _, .int i => .int i
  | _, _, .str x => .str x
  | _, _, .tup h l r => .tup (h.imp (fun ⟨e, n, m⟩ => ⟨e, n, fun z => m (List.mem_cons_of_mem _ z)⟩) id) l (Rps.out r)
  | _, _, .cl h n m l r => .cl h n (fun z => m (List.mem_cons_of_mem _ z)) l (Rps.out r)
  | _, _, .sc h r => .sc (h.imp (fun ⟨e, n, m⟩ => ⟨e, n, fun z => m (List.mem_cons_of_mem _ z)⟩) id) (Rps.out r)
  | _, _, .lst h q => .lst h q
  | _, _, .dct h q => .dct h q
  | _, _, .dtt h q => .dtt h q
  | _, _, .ins h q m => .ins h q m
  | _, _, .exn m h n z hd nd zd l r => .exn m h n (fun y => z (List.mem_cons_of_mem _ y)) hd nd (fun y => zd (List.mem_cons_of_mem _ y)) l (Rps.out r)
  | _, _, .exn0 m h n z => .exn0 m h n (fun y => z (List.mem_cons_of_mem _ y))
  | _, _, .lam h n z r => .lam h n (fun y => z (List.mem_cons_of_mem _ y)) (Rps.out r)
theorem Rps.out : ∀ {vs : List V} {ws : List W}, Rps (Γ.und D) H μ vs ws → Rps Γ H μ vs ws
  | _, _, .nil => .nil
  | _, _, .cons a b => .cons (Rp.out a) (Rps.out b)
end
mutual
theorem Rp.into (n : H D = none) : ∀ {v : V} {w : W}, Rp Γ H μ v w → Rp (Γ.und D) (upd H D o) μ v w
  | _, _, .non => .non
  | _, _, .bl b => .bl b
  | _, _, .int i => .int i
  | _, _, .str x => .str x
  | _, _, .tup h l r => .tup (h.imp (fun ⟨⟨ob, hd, e⟩, k, m⟩ => ⟨⟨ob, hd, by rw [upd_ne (ne_of_none e n)]; exact e⟩, k, fun z => (List.mem_cons.mp z).elim (ne_of_none e n) m⟩) id) l (Rps.into n r)
  | _, _, .cl h k m l r => .cl (by rw [upd_ne (ne_of_none h n)]; exact h) k (fun z => (List.mem_cons.mp z).elim (ne_of_none h n) m) l (Rps.into n r)
  | _, _, .sc h r => .sc (h.imp (fun ⟨e, k, m⟩ => by
      rcases e with e | ⟨ob, e⟩
      · exact ⟨.inl (by rw [upd_ne (ne_of_none e n)]; exact e), k, fun z => (List.mem_cons.mp z).elim (ne_of_none e n) m⟩
      · exact ⟨.inr ⟨ob, by rw [upd_ne (ne_of_none e n)]; exact e⟩, k, fun z => (List.mem_cons.mp z).elim (ne_of_none e n) m⟩) id) (Rps.into n r)
  | _, _, .lst h q => .lst h (kd_new n q)
  | _, _, .dct h q => .dct h (kd_new n q)
  | _, _, .dtt h q => .dtt h (kd_new n q)
  | _, _, .ins h q m => .ins h (kd_new n q) m
  | _, _, .exn m h k z hd nd zd l r => .exn m (by rw [upd_ne (ne_of_none h n)]; exact h) k (fun y => (List.mem_cons.mp y).elim (ne_of_none h n) z) (by rw [upd_ne (ne_of_none hd n)]; exact hd) nd (fun y => (List.mem_cons.mp y).elim (ne_of_none hd n) zd) l (Rps.into n r)
  | _, _, .exn0 m h k z => .exn0 m (by rw [upd_ne (ne_of_none h n)]; exact h) k (fun y => (List.mem_cons.mp y).elim (ne_of_none h n) z)
  | _, _, .lam h k z r => .lam (by rw [upd_ne (ne_of_none h n)]; exact h) k (fun y => (List.mem_cons.mp y).elim (ne_of_none h n) z) (Rps.into n r)
theorem Rps.into (n : H D = none) : ∀ {vs : List V} {ws : List W}, Rps Γ H μ vs ws → Rps (Γ.und D) (upd H D o) μ vs ws
  | _, _, .nil => .nil
  | _, _, .cons a b => .cons (Rp.into n a) (Rps.into n b)
end
theorem Ok.at_D (hD : D ∈ Γ.δ) (k : Ok Γ H μ S) (ho : kd o ≠ 3 := by exact fun z => nomatch z) : Ok Γ (upd H D o) μ S := ⟨k.len, k.nd, fun a ha => ⟨by
    by_cases e : a = D
    · exact ⟨o, by rw [e, upd_same], ho⟩
    · obtain ⟨⟨u, q, q2⟩, _⟩ := k.dl a ha
      exact ⟨u, by rw [upd_ne e]; exact q, q2⟩, (k.dl a ha).2⟩, fun n a e => by
  obtain ⟨u, ws, xs, us, e1, e2, en, l, r⟩ := k.at_ n a e
  exact ⟨u, ws, xs, us, e1, by rw [upd_ne (Ne.symm (ne_mem (List.mem_of_getElem? e) (k.dl D hD).2))]; exact e2, en, l, r.at_ hD (k.dl D hD).2⟩, tabs_upd k.tb fun o' e' => by
  obtain ⟨⟨u, q, q2⟩, _⟩ := k.dl D hD
  rw [e'] at q
  cases q
  exact q2⟩
theorem Ok.into (n : H D = none) (k : Ok Γ H μ S) (ho : kd o ≠ 3 := by exact fun z => nomatch z) : Ok (Γ.und D) (upd H D o) μ S := ⟨k.len, k.nd, fun a ha => by
    rcases List.mem_cons.mp ha with e | e
    · subst e
      exact ⟨⟨o, upd_same, ho⟩, k.ne n⟩
    · obtain ⟨⟨u, q, q2⟩, z⟩ := k.dl a e
      exact ⟨⟨u, by rw [upd_ne (ne_of_none q n)]; exact q, q2⟩, z⟩, fun m a e => by
  obtain ⟨u, ws, xs, us, e1, e2, en, l, r⟩ := k.at_ m a e
  exact ⟨u, ws, xs, us, e1, by rw [upd_ne (ne_of_none e2 n)]; exact e2, en, l, r.into n⟩, tabs_upd k.tb fun o' e' => by rw [n] at e'; cases e'⟩
theorem Ok.out (k : Ok (Γ.und D) H μ S) : Ok Γ H μ S := ⟨k.len, k.nd, fun a ha => k.dl a (List.mem_cons_of_mem _ ha), fun m a e => by
  obtain ⟨u, ws, xs, us, e1, e2, en, l, r⟩ := k.at_ m a e
  exact ⟨u, ws, xs, us, e1, e2, en, l, r.out⟩, k.tb⟩
end
/-! ### slots -/
def Rσ (Γ : Gm) (H : Hp) (μ : List Addr) (σ : L2.St) (ρ : En) : Prop := σ.length = ρ.length ∧ ∀ (i : Nat) (w : W), ρ[i]? = some (some w) → ∃ v, σ[i]? = some (some v) ∧ Rp Γ H μ v w
section
variable {Γ : Gm} {H H' H'' : Hp} {μ μ' μ'' : List Addr} {S S' : Store} {σ : L2.St} {ρ : En}
theorem rσ_gr (g : Gr H μ H' μ') (h : Rσ Γ H μ σ ρ) : Rσ Γ H' μ' σ ρ := ⟨h.1, fun i w e => let ⟨v, e1, r⟩ := h.2 i w e; ⟨v, e1, r.gr g⟩⟩
theorem rσ_set {i : Nat} {v : V} {w : W} (h : Rσ Γ H μ σ ρ) (r : Rp Γ H μ v w) : Rσ Γ H μ (σ.set i (some v)) (ρ.set i (some w)) := ⟨by rw [List.length_set, List.length_set]; exact h.1, fun j x e => by
  by_cases hj : i = j
  · subst hj
    by_cases hi : i < ρ.length
    · rw [List.getElem?_set_self hi] at e
      cases e
      exact ⟨v, by rw [List.getElem?_set_self (by rw [h.1]; exact hi)], r⟩
    · rw [List.getElem?_eq_none (by rw [List.length_set]; omega)] at e
      cases e
  · rw [List.getElem?_set_ne hj] at e ⊢
    exact h.2 j x e⟩
theorem rσ_wipe {vs : List Nat} (h : Rσ Γ H μ σ ρ) (hn : ∀ i ∈ vs, ∀ w, ρ[i]? ≠ some (some w)) : Rσ Γ H μ (wipe σ vs) ρ := ⟨by rw [wipe_length]; exact h.1, fun i w e => by
  obtain ⟨v, e1, r⟩ := h.2 i w e
  refine ⟨v, ?_, r⟩
  have hi : i ∉ vs := fun z => hn i z w e
  clear hn
  induction vs with
  | nil => exact e1
  | cons x xs ih =>
    unfold wipe
    rw [List.getElem?_set_ne (fun z => hi (by simp [z]))]
    exact ih (fun z => hi (by simp [z]))⟩
/-- the slots of a comprehension's own names forgotten -/
def wipeW (ρ : En) : List Nat → En
  | [] => ρ
  | v :: vs => (wipeW ρ vs).set v none
theorem wipeW_some {ρ : En} {i : Nat} {x : W} : ∀ {vs : List Nat}, (wipeW ρ vs)[i]? = some (some x) → ρ[i]? = some (some x) ∧ i ∉ vs
  | [], h => ⟨h, by simp⟩
  | v :: vs, h => by
    unfold wipeW at h
    by_cases hi : v = i
    · subst hi
      by_cases hv : v < (wipeW ρ vs).length
      · rw [List.getElem?_set_self hv] at h; cases h
      · rw [List.getElem?_eq_none (by simpa using hv)] at h; cases h
    · rw [List.getElem?_set_ne hi] at h
      obtain ⟨h1, h2⟩ := wipeW_some h
      exact ⟨h1, by simp only [List.mem_cons, not_or]; exact ⟨fun e => hi e.symm, h2⟩⟩
theorem wipeW_len : ∀ vs : List Nat, (wipeW ρ vs).length = ρ.length
  | [] => rfl
  | v :: vs => by unfold wipeW; rw [List.length_set, wipeW_len vs]
theorem rσ_wipeW {vs : List Nat} (h : Rσ Γ H μ σ ρ) : Rσ Γ H μ (wipe σ vs) (wipeW ρ vs) := by
  have h2 : Rσ Γ H μ σ (wipeW ρ vs) := ⟨by rw [wipeW_len]; exact h.1, fun i w e => h.2 i w (wipeW_some e).1⟩
  exact rσ_wipe h2 fun i hi w e => (wipeW_some e).2 hi
end
end Den

namespace Den
open PySem PySem.Spec PyProof.Rows L2 Bal
/-! ### what is wanted behind a computation -/
def RpX (Γ : Gm) (H : Hp) (μ : List Addr) (cls : Value) (d : Option Addr) (c f : Str) (ws : List W) : Prop :=
  ∃ C, Γ.mg c = some (.ref C) ∧ cls = .ref C ∧ ((d = none ∧ ws = []) ∨ ∃ dd xs, d = some dd ∧ H dd = some (.xd (xs.map fun x => (f, x))) ∧ dd ∉ μ ∧ dd ∉ Γ.δ ∧ xs.length ≤ 1 ∧ Rps Γ H μ xs ws)
theorem RpX.gr {Γ : Gm} {H H' : Hp} {μ μ' : List Addr} {cls : Value} {d : Option Addr} {c f : Str} {ws : List W} (g : Gr H μ H' μ') (h : RpX Γ H μ cls d c f ws) : RpX Γ H' μ' cls d c f ws := by
  obtain ⟨C, e, e1, h | ⟨dd, xs, e2, hd, n, nn, l, r⟩⟩ := h
  · exact ⟨C, e, e1, .inl h⟩
  · exact ⟨C, e, e1, .inr ⟨dd, xs, e2, (g.keep _ _ hd n).1, (g.keep _ _ hd n).2, nn, l, r.gr g⟩⟩
def Res {α : Type} (Γ : Gm) (E : XK) (H : Hp) (μ : List Addr) (o : Out α) (q : α → Hp → List Addr → Store → Prop) : Prop := match o with
  | .ok a S' => ∀ H' μ', Gr H μ H' μ' → Ok Γ H' μ' S' → q a H' μ' S'
  | .err c f ws S' => ∀ H' μ', Gr H μ H' μ' → Ok Γ H' μ' S' → ∀ cls d, RpX Γ H' μ' cls d c f ws → E cls d H'
  | .bad => False
section
variable {α β : Type} {Γ : Gm} {E : XK} {H H' : Hp} {μ μ' : List Addr} {S S' : Store}
theorem Res.gr {o : Out α} {q : α → Hp → List Addr → Store → Prop} (g : Gr H μ H' μ') (h : Res Γ E H μ o q) : Res Γ E H' μ' o q := by
  cases o with
  | ok a S' => exact fun H2 μ2 g2 k => h H2 μ2 (g.trans g2) k
  | err c f ws S' => exact fun H2 μ2 g2 k => h H2 μ2 (g.trans g2) k
  | bad => exact h
theorem Res.step {m : Mo α} {f : α → Mo β} {q : β → Hp → List Addr → Store → Prop} {q' : α → Hp → List Addr → Store → Prop} (h : Res Γ E H μ (bnd m f S) q)
    (n : ∀ a S' H' μ', Gr H μ H' μ' → Ok Γ H' μ' S' → Res Γ E H' μ' (f a S') q → q' a H' μ' S') : Res Γ E H μ (m S) q' := by
  unfold bnd at h
  cases e : m S with
  | ok a S' =>
    rw [e] at h
    exact fun H' μ' g k => n a S' H' μ' g k (Res.gr g h)
  | err c g ws S' =>
    rw [e] at h
    exact h
  | bad =>
    rw [e] at h
    exact h
theorem Res.now {a : α} {q : α → Hp → List Addr → Store → Prop} (k : Ok Γ H μ S) (h : Res Γ E H μ (.ok a S) q) : q a H μ S := h H μ Gr.refl k
end
abbrev DE := En → Mo W
abbrev DT := En → Mo Bool
abbrev DA := En → Mo (List W)
def tOf (K : PySem.W.Frag) (mg : Str → Option Value) (E : L2.St → XK) (d : DE) : TE := fun σ H Q => ∃ δ μ S ρ, Ok ⟨K, mg, δ⟩ H μ S ∧ Rσ ⟨K, mg, δ⟩ H μ σ ρ ∧ Res ⟨K, mg, δ⟩ (E σ) H μ (d ρ S) fun w H' μ' _ => ∀ v, Rp ⟨K, mg, δ⟩ H' μ' v w → Q v H'
def ttOf (K : PySem.W.Frag) (mg : Str → Option Value) (E : L2.St → XK) (d : DT) : TT := fun σ H Q => ∃ δ μ S ρ, Ok ⟨K, mg, δ⟩ H μ S ∧ Rσ ⟨K, mg, δ⟩ H μ σ ρ ∧ Res ⟨K, mg, δ⟩ (E σ) H μ (d ρ S) fun b H' _ _ => Q b H'
def taOf (K : PySem.W.Frag) (mg : Str → Option Value) (E : L2.St → XK) (d : DA) : TA := fun σ H Q => ∃ δ μ S ρ, Ok ⟨K, mg, δ⟩ H μ S ∧ Rσ ⟨K, mg, δ⟩ H μ σ ρ ∧ Res ⟨K, mg, δ⟩ (E σ) H μ (d ρ S) fun ws H' μ' _ => ∀ vs, Rps ⟨K, mg, δ⟩ H' μ' vs ws → Q vs H'
abbrev PD (X : Cx) (E : L2.St → XK) (e : Expr) (d : DE) : Prop := PE X e (tOf X.K X.mg E d)
abbrev PDT (X : Cx) (E : L2.St → XK) (e : Expr) (d : DT) : Prop := PT X e (ttOf X.K X.mg E d)
abbrev PDA (X : Cx) (E : L2.St → XK) (es : List Expr) (d : DA) : Prop := PA X es (taOf X.K X.mg E d)
theorem pt_of {X : Cx} {e : Expr} {t t' : TT} (h : PT X e t) (f : ∀ σ H Q, t' σ H Q → t σ H Q) : PT X e t' := ⟨fun pins s σ H Q I q => h.run pins s σ H Q I (f σ H Q q)⟩
theorem pw_of {X : Cx} {e : Expr} {t t' : TT} (h : PW X e t) (f : ∀ σ H Q, t' σ H Q → t σ H Q) : PW X e t' := ⟨fun wh pins s σ H Q I q => h.run wh pins s σ H Q I (f σ H Q q)⟩
section
variable {X : Cx} {E : L2.St → XK} {a b c : Expr} {pos : Pos}
/-! ### names, constants -/
def dVar (i : Nat) : DE := fun ρ S => match ρ[i]? with
  | some (some w) => .ok w S
  | _ => .bad
def dC (w : W) : DE := fun _ S => .ok w S
theorem de_var (i : Nat) {x : Str} {pos : Pos} (hN : X.N[i]? = some x := by rfl) (hv : Vis X.env.scope x := by first | exact Or.inl rfl | exact Or.inr (Or.inl rfl) | exact Or.inr (Or.inr rfl)) (hd : (x == ("__debug__" : Str)) = false := by decide)
    (hcd : (x == ("__classdict__" : Str)) = false := by decide) : PD X E (.Name x pos) (dVar i) := pe_of (pv i hN hv hd hcd) fun σ H Q ⟨δ, μ, S, ρ, k, s, h⟩ => by
  unfold dVar at h
  cases e : ρ[i]? with
  | none => rw [e] at h; exact h.elim
  | some o =>
    rw [e] at h
    cases o with
    | none => exact h.elim
    | some w =>
      obtain ⟨v, e1, r⟩ := s.2 i w e
      exact ⟨v, e1, Res.now k h v r⟩
theorem de_int {i j} : PD X E (.Constant (.int i) j pos) (dC (.int i)) := pe_of pe_int fun σ H Q ⟨δ, μ, S, ρ, k, s, h⟩ => Res.now k h _ (.int i)
theorem de_bl {b j} : PD X E (.Constant (.bool b) j pos) (dC (.bl b)) := pe_of pe_bl fun σ H Q ⟨δ, μ, S, ρ, k, s, h⟩ => Res.now k h _ (.bl b)
theorem de_non {j} : PD X E (.Constant .none j pos) (dC .non) := pe_of pe_non fun σ H Q ⟨δ, μ, S, ρ, k, s, h⟩ => Res.now k h _ .non
/-! ### operations that read -/
def rdS (g : Store → Option W) : Mo W := fun S => match g S with
  | some w => .ok w S
  | none => .bad
/-- what a two-place operation tells, by values -/
def Op2 (K : PySem.W.Frag) (mg : Str → Option Value) (r : R2) (f : Store → W → W → Option W) : Prop := ∀ {δ : List Addr} {H : Hp} {μ : List Addr} {S : Store} {v u : V} {x y w : W} {Q : VK}, Ok ⟨K, mg, δ⟩ H μ S → Rp ⟨K, mg, δ⟩ H μ v x → Rp ⟨K, mg, δ⟩ H μ u y → f S x y = some w →
  (∀ z H', Gr H μ H' μ → Ok ⟨K, mg, δ⟩ H' μ S → Rp ⟨K, mg, δ⟩ H' μ z w → Q z H') → r v u H Q
def Op1 (K : PySem.W.Frag) (mg : Str → Option Value) (r : V → Hp → VK → Prop) (f : Store → W → Option W) : Prop := ∀ {δ : List Addr} {H : Hp} {μ : List Addr} {S : Store} {v : V} {x w : W} {Q : VK}, Ok ⟨K, mg, δ⟩ H μ S → Rp ⟨K, mg, δ⟩ H μ v x → f S x = some w →
  (∀ z H', Gr H μ H' μ → Ok ⟨K, mg, δ⟩ H' μ S → Rp ⟨K, mg, δ⟩ H' μ z w → Q z H') → r v H Q
def OpN (K : PySem.W.Frag) (mg : Str → Option Value) (r : List V → Hp → VK → Prop) (f : Store → List W → Option W) : Prop := ∀ {δ : List Addr} {H : Hp} {μ : List Addr} {S : Store} {vs : List V} {xs : List W} {w : W} {Q : VK}, Ok ⟨K, mg, δ⟩ H μ S → Rps ⟨K, mg, δ⟩ H μ vs xs → f S xs = some w →
  (∀ z H', Gr H μ H' μ → Ok ⟨K, mg, δ⟩ H' μ S → Rp ⟨K, mg, δ⟩ H' μ z w → Q z H') → r vs H Q
theorem rd_ok {Γ : Gm} {E : XK} {H : Hp} {μ : List Addr} {S : Store} {g : Store → Option W} {Q : VK} (h : Res Γ E H μ (rdS g S) fun w H' μ' _ => ∀ v, Rp Γ H' μ' v w → Q v H') :
    ∃ w, g S = some w ∧ ∀ z H', Gr H μ H' μ → Ok Γ H' μ S → Rp Γ H' μ z w → Q z H' := by
  unfold rdS at h
  cases e : g S with
  | none => rw [e] at h; exact h.elim
  | some w => rw [e] at h; exact ⟨w, rfl, fun z H' gr k r => h H' μ gr k z r⟩
def dBin (f : Store → W → W → Option W) (da db : DE) : DE := fun ρ => bnd (da ρ) fun x => bnd (db ρ) fun y => rdS fun S => f S x y
def dUn (f : Store → W → Option W) (da : DE) : DE := fun ρ => bnd (da ρ) fun x => rdS fun S => f S x
theorem bin_ok {K : PySem.W.Frag} {mg : Str → Option Value} {r : R2} {f : Store → W → W → Option W} (hf : Op2 K mg r f) {da db : DE} {σ : L2.St} {H : Hp} {Q : VK} (h : tOf K mg E (dBin f da db) σ H Q) : tOp r (tOf K mg E da) (tOf K mg E db) σ H Q := by
  obtain ⟨δ, μ, S, ρ, k, s, h⟩ := h
  refine ⟨δ, μ, S, ρ, k, s, Res.step h fun x S1 H1 μ1 g1 k1 h1 v rv => ⟨δ, μ1, S1, ρ, k1, rσ_gr g1 s, Res.step h1 fun y S2 H2 μ2 g2 k2 h2 u ru => ?_⟩⟩
  obtain ⟨w, e, q⟩ := rd_ok h2
  exact hf k2 (rv.gr g2) ru e q
variable {da db dc : DE}
theorem de_bin {op : Operator} {r : R2} {f : Store → W → W → Option W} (ho : OpR X (binaryOp op) r) (hf : Op2 X.K X.mg r f) (ha : PD X E a da) (hb : PD X E b db) : PD X E (.BinOp a op b pos) (dBin f da db) := pe_of (pe_op ho ha hb) fun _ _ _ h => bin_ok hf h
theorem de_cmp {op : CmpOp} {r : R2} {f : Store → W → W → Option W} (ho : OpR X (compareOp op) r) (hf : Op2 X.K X.mg r f) (ha : PD X E a da) (hb : PD X E b db) (hm : behindInMarks op b = false := by first | exact nomark _ | rfl) : PD X E (.Compare a [op] [b] pos) (dBin f da db) := pe_of (pe_cmpR ho ha hb hm) fun _ _ _ h => bin_ok hf h
theorem de_ix {r : R2} {f : Store → W → W → Option W} (ho : IxR X r) (hf : Op2 X.K X.mg r f) (ha : PD X E a da) (hb : PD X E b db) (hs : PlainIx b := by exact fun _ _ => rfl) : PD X E (.Subscript a b pos) (dBin f da db) := pe_of (pe_ix ho ha hb hs) fun _ _ _ h => bin_ok hf h
theorem de_un {op : UnaryOp} {r : V → Hp → VK → Prop} {f : Store → W → Option W} (ho : UnR X (unaryOp op) r) (hf : Op1 X.K X.mg r f) (ha : PD X E a da) : PD X E (.UnaryOp op a pos) (dUn f da) := pe_of (pe_un ho ha) fun σ H Q ⟨δ, μ, S, ρ, k, s, h⟩ =>
  ⟨δ, μ, S, ρ, k, s, Res.step h fun x S1 H1 μ1 g1 k1 h1 v rv => let ⟨w, e, q⟩ := rd_ok h1; hf k1 rv e q⟩
/-! ### tests -/
def toB : W → Mo Bool
  | .bl b => ret b
  | _ => bad
def dTst (d : DE) : DT := fun ρ => bnd (d ρ) toB
theorem tst_ok {K : PySem.W.Frag} {mg : Str → Option Value} {d : DE} {σ : L2.St} {H : Hp} {Q : Bool → Hp → Prop} (h : ttOf K mg E (dTst d) σ H Q) : tOf K mg E d σ H fun x H1 => ∃ c, x = .bl c ∧ Q c H1 := by
  obtain ⟨δ, μ, S, ρ, k, s, h⟩ := h
  refine ⟨δ, μ, S, ρ, k, s, Res.step h fun w S1 H1 μ1 g1 k1 h1 v rv => ?_⟩
  cases rv <;> first | exact h1.elim | exact ⟨_, rfl, Res.now k1 h1⟩
/-- an expression as a test -/
theorem dt_val {e : Expr} {d : DE} (h : PD X E e d) (he : ∀ whole, isTrue e X.env whole = (do let v ← whole; standAt e.pos; holding [v] (truthy v)) := by intro _; rfl) : PDT X E e (dTst d) := pt_of (pt_val h he) fun _ _ _ h => tst_ok h
theorem dt_cmp {op : CmpOp} {r : R2} {f : Store → W → W → Option W} (ho : OpR X (compareOp op) r) (hf : Op2 X.K X.mg r f) (ha : PD X E a da) (hb : PD X E b db) (hm : behindInMarks op b = false := by first | exact nomark _ | rfl) : PDT X E (.Compare a [op] [b] pos) (dTst (dBin f da db)) :=
  pt_of (pt_cmpR ho ha hb hm) fun _ _ _ h => bin_ok hf (tst_ok h)
def dAndT (d e : DT) : DT := fun ρ => bnd (d ρ) fun b => if b = true then e ρ else ret false
def dOrT (d e : DT) : DT := fun ρ => bnd (d ρ) fun b => if b = true then ret true else e ρ
variable {rest : List Expr} {tA tB : DT}
abbrev PDW (X : Cx) (E : L2.St → XK) (e : Expr) (d : DT) : Prop := PW X e (ttOf X.K X.mg E d)
theorem dw_and1 (ha : PDT X E a tA) : PDW X E (.BoolOp .And [a] pos) tA := pw_and1 ha
theorem dw_or1 (ha : PDT X E a tA) : PDW X E (.BoolOp .Or [a] pos) tA := pw_or1 ha
theorem dw_and (ha : PDT X E a tA) (hb : PDW X E (.BoolOp .And (b :: rest) pos) tB) : PDW X E (.BoolOp .And (a :: b :: rest) pos) (dAndT tA tB) := pw_of (pw_and ha hb) fun σ H Q ⟨δ, μ, S, ρ, k, s, h⟩ =>
  ⟨δ, μ, S, ρ, k, s, Res.step h fun w S1 H1 μ1 g1 k1 h1 => by
    cases w with
    | true => rw [if_pos rfl] at h1 ⊢; exact ⟨δ, μ1, S1, ρ, k1, rσ_gr g1 s, h1⟩
    | false => rw [if_neg (by decide)] at h1 ⊢; exact Res.now k1 h1⟩
theorem dw_or (ha : PDT X E a tA) (hb : PDW X E (.BoolOp .Or (b :: rest) pos) tB) : PDW X E (.BoolOp .Or (a :: b :: rest) pos) (dOrT tA tB) := pw_of (pw_or ha hb) fun σ H Q ⟨δ, μ, S, ρ, k, s, h⟩ =>
  ⟨δ, μ, S, ρ, k, s, Res.step h fun w S1 H1 μ1 g1 k1 h1 => by
    cases w with
    | true => rw [if_pos rfl] at h1 ⊢; exact Res.now k1 h1
    | false => rw [if_neg (by decide)] at h1 ⊢; exact ⟨δ, μ1, S1, ρ, k1, rσ_gr g1 s, h1⟩⟩
/-- .. as values -/
def dAnd (d e : DE) : DE := fun ρ => bnd (dTst d ρ) fun b => if b = true then e ρ else ret (.bl false)
theorem tst_step {β : Type} {Γ : Gm} {E : XK} {d : DE} {ρ : En} {S : Store} {H : Hp} {μ : List Addr} {f : Bool → Mo β} {q : β → Hp → List Addr → Store → Prop} {q' : W → Hp → List Addr → Store → Prop} (h : Res Γ E H μ (bnd (dTst d ρ) f S) q)
    (n : ∀ b S' H' μ', Gr H μ H' μ' → Ok Γ H' μ' S' → Res Γ E H' μ' (f b S') q → q' (.bl b) H' μ' S') : Res Γ E H μ (d ρ S) q' := by
  refine Res.step (Res.step h (q' := fun b H' μ' S' => q' (.bl b) H' μ' S') fun b S1 H1 μ1 g1 k1 h1 => n b S1 H1 μ1 g1 k1 h1) fun w S1 H1 μ1 g1 k1 h1 => ?_
  cases w <;> first | exact h1.elim | exact h1 H1 μ1 Gr.refl k1
theorem de_one {op} {d : DE} (h : PD X E a d) : PD X E (.BoolOp op [a] pos) d := pe_one h
theorem de_and (ha : PD X E a da) (hb : PD X E (.BoolOp .And (b :: rest) pos) db) : PD X E (.BoolOp .And (a :: b :: rest) pos) (dAnd da db) := pe_of (pe_and ha hb) fun σ H Q ⟨δ, μ, S, ρ, k, s, h⟩ =>
  ⟨δ, μ, S, ρ, k, s, tst_step h fun w S1 H1 μ1 g1 k1 h1 v rv => by
    cases rv
    refine ⟨w, rfl, ?_⟩
    cases w with
    | true => rw [if_pos rfl] at h1 ⊢; exact ⟨δ, μ1, S1, ρ, k1, rσ_gr g1 s, h1⟩
    | false => rw [if_neg (by decide)] at h1 ⊢; exact Res.now k1 h1 _ (.bl false)⟩
def dIf (t : DT) (d e : DE) : DE := fun ρ => bnd (t ρ) fun b => if b = true then d ρ else e ρ
theorem de_if {t : DT} (hc : PDT X E c t) (ha : PD X E a da) (hb : PD X E b db) : PD X E (.IfExp c a b pos) (dIf t da db) := pe_of (pe_ifExp hc ha hb) fun σ H Q ⟨δ, μ, S, ρ, k, s, h⟩ =>
  ⟨δ, μ, S, ρ, k, s, Res.step h fun w S1 H1 μ1 g1 k1 h1 => by
    cases w with
    | true => rw [if_pos rfl] at h1 ⊢; exact ⟨δ, μ1, S1, ρ, k1, rσ_gr g1 s, h1⟩
    | false => rw [if_neg (by decide)] at h1 ⊢; exact ⟨δ, μ1, S1, ρ, k1, rσ_gr g1 s, h1⟩⟩
/-! ### chains -/
/-! ### argument lists -/
def dNil : DA := fun _ => ret []
def dCons (d : DE) (r : DA) : DA := fun ρ => bnd (d ρ) fun w => bnd (r ρ) fun ws => ret (w :: ws)
theorem da_nil : PDA X E [] dNil := pa_of pa_nil fun σ H Q ⟨δ, μ, S, ρ, k, s, h⟩ => Res.now k h [] .nil
theorem da_cons {es : List Expr} {d : DE} {r : DA} (ha : PD X E a d) (hr : PDA X E es r) (hs : starEach (a :: es) X.env = (false, eval a X.env) :: starEach es X.env := by rfl) : PDA X E (a :: es) (dCons d r) := pa_of (pa_cons ha hr hs) fun σ H Q ⟨δ, μ, S, ρ, k, s, h⟩ =>
  ⟨δ, μ, S, ρ, k, s, Res.step h fun x S1 H1 μ1 g1 k1 h1 v rv => ⟨δ, μ1, S1, ρ, k1, rσ_gr g1 s, Res.step h1 fun ws S2 H2 μ2 g2 k2 h2 vs rs => Res.now k2 h2 _ (.cons (rv.gr g2) rs)⟩⟩
/-- items of a sequence, a changing list among them -/
def itmsS (S : Store) : W → Option (List W)
  | .tup ws => some ws
  | .cl ws => some ws
  | .lst n => S[n]?
  | _ => none
theorem Rp.seq {Γ : Gm} {H : Hp} {μ : List Addr} {S : Store} (k : Ok Γ H μ S) {v : V} {w : W} {ws : List W} (r : Rp Γ H μ v w) (e : itmsS S w = some ws) : ∃ p xs, v = .ref p ∧ (SqT Γ.K H p xs ∨ SqL Γ.K H p xs) ∧ xs.length ≤ sizeLine ∧ Rps Γ H μ xs ws := by
  cases r with
  | tup h l q => cases e; exact ⟨_, _, rfl, .inl h.sq, l, q⟩
  | cl h n m l q => cases e; exact ⟨_, _, rfl, .inr (.inl (.inl h)), l, q⟩
  | lst h hq =>
    obtain ⟨xs, zs, e1, e2, l, q⟩ := k.lat h hq
    have e : S[_]? = some ws := e
    rw [e1] at e
    cases e
    exact ⟨_, _, rfl, .inr (.inl (.inl e2)), l, q⟩
  | _ => cases e
/-! ### displays -/
def tTupN (t : TA) : TE := fun σ H Q => t σ H fun xs H1 => xs.length ≤ sizeLine ∧ ∀ p o, o.dict = none → H1 p = none → Q (.ref p) (upd H1 p (.frz o (.tup xs)))
theorem pe_tupN {es : List Expr} {t : TA} {x1} (h : PA X es t) : PE X (.Tuple es x1 pos) (tTupN t) := by
  refine ⟨fun pins s σ H Q I hq => ?_⟩
  refine wpAny_Tuple_spliced (thn (h.run pos pins s σ H _ I hq) fun us s1 ⟨xs, H1, I1, r, z, q⟩ => ⟨by rw [← r.length]; exact z, ?_⟩)
  exact ⟨.ref s1.heap.objs.size, _, I1.laid (t' := s1.toks) (o := .frz { cls := .type "tuple", data := .seq us.toArray } (.tup xs)) (fun b u e => Heap.get?_push_of_some _ e) (Nat.le_refl _) (frz_tup z r (Heap.get?_push_size _ rfl)), rfl, q _ _ rfl (I1.hok.fresh (Nat.le_refl _))⟩
def szB (n : Nat) : Bool := decide (n ≤ 16777216)
theorem sz_ok {n : Nat} (h : szB n = true) : n ≤ sizeLine := by rw [sizeLine_eq]; exact of_decide_eq_true h
def mkT (ws : List W) : Mo W := fun S => if szB ws.length = true then .ok (.tup ws) S else .bad
def mkC (ws : List W) : Mo W := fun S => if szB ws.length = true then .ok (.cl ws) S else .bad
def mkL (ws : List W) : Mo W := fun S => if szB ws.length = true then .ok (.lst S.length) (S ++ [ws]) else .bad
def dTup (d : DA) : DE := fun ρ => bnd (d ρ) mkT
def dCl (d : DA) : DE := fun ρ => bnd (d ρ) mkC
def dLst (d : DA) : DE := fun ρ => bnd (d ρ) mkL
theorem new_tup {Γ : Gm} {H : Hp} {μ : List Addr} {S : Store} {p : Addr} {o : Obj} {xs : List V} {ws : List W} (k : Ok Γ H μ S) (hp : H p = none) (ho : o.dict = none) (l : xs.length ≤ sizeLine) (r : Rps Γ H μ xs ws) :
    Gr H μ (upd H p (.frz o (.tup xs))) μ ∧ Ok Γ (upd H p (.frz o (.tup xs))) μ S ∧ Rp Γ (upd H p (.frz o (.tup xs))) μ (.ref p) (.tup ws) :=
  have g := Gr.new hp (k.ne hp)
  ⟨g, k.new hp, .tup (.inl ⟨TupN.new ho, k.ne hp, k.nδ hp⟩) l (r.gr g)⟩
theorem new_cl {Γ : Gm} {H : Hp} {μ : List Addr} {S : Store} {p : Addr} {xs : List V} {ws : List W} (k : Ok Γ H μ S) (hp : H p = none) (l : xs.length ≤ sizeLine) (r : Rps Γ H μ xs ws) :
    Gr H μ (upd H p (.lst xs)) μ ∧ Ok Γ (upd H p (.lst xs)) μ S ∧ Rp Γ (upd H p (.lst xs)) μ (.ref p) (.cl ws) :=
  have g := Gr.new hp (k.ne hp)
  ⟨g, k.new hp, .cl upd_same (k.ne hp) (k.nδ hp) l (r.gr g)⟩
theorem de_tup {es : List Expr} {d : DA} {x1} (h : PDA X E es d) : PD X E (.Tuple es x1 pos) (dTup d) := pe_of (pe_tupN h) fun σ H Q ⟨δ, μ, S, ρ, k, s, h⟩ =>
  ⟨δ, μ, S, ρ, k, s, Res.step h fun ws S1 H1 μ1 g1 k1 h1 vs rs => by
    unfold mkT at h1
    by_cases hz : szB ws.length = true
    · rw [if_pos hz] at h1
      have l : vs.length ≤ sizeLine := by rw [rs.len]; exact sz_ok hz
      refine ⟨l, fun p o ho hp => ?_⟩
      obtain ⟨g, k2, r⟩ := new_tup k1 hp ho l rs
      exact h1 _ _ g k2 _ r
    · rw [if_neg hz] at h1
      exact h1.elim⟩
theorem de_cl {es : List Expr} {d : DA} (h : PDA X E es d) : PD X E (.List es pos) (dCl d) := pe_of (pe_lst h) fun σ H Q ⟨δ, μ, S, ρ, k, s, h⟩ =>
  ⟨δ, μ, S, ρ, k, s, Res.step h fun ws S1 H1 μ1 g1 k1 h1 vs rs => by
    unfold mkC at h1
    by_cases hz : szB ws.length = true
    · rw [if_pos hz] at h1
      have l : vs.length ≤ sizeLine := by rw [rs.len]; exact sz_ok hz
      refine ⟨l, fun p hp => ?_⟩
      obtain ⟨g, k2, r⟩ := new_cl k1 hp l rs
      exact h1 _ _ g k2 _ r
    · rw [if_neg hz] at h1
      exact h1.elim⟩
theorem de_lst {es : List Expr} {d : DA} (h : PDA X E es d) : PD X E (.List es pos) (dLst d) := pe_of (pe_lst h) fun σ H Q ⟨δ, μ, S, ρ, k, s, h⟩ =>
  ⟨δ, μ, S, ρ, k, s, Res.step h fun ws S1 H1 μ1 g1 k1 h1 vs rs => by
    unfold mkL at h1
    by_cases hz : szB ws.length = true
    · rw [if_pos hz] at h1
      have l : vs.length ≤ sizeLine := by rw [rs.len]; exact sz_ok hz
      refine ⟨l, fun p hp => ?_⟩
      obtain ⟨k2, g⟩ := k1.alloc hp l rs
      refine h1 _ _ g k2 _ (.lst ?_ ⟨_, upd_same, rfl⟩)
      rw [← k1.len, List.getElem?_append_right (Nat.le_refl _), Nat.sub_self]
      rfl
    · rw [if_neg hz] at h1
      exact h1.elim⟩
end
end Den

namespace Den
open PySem PySem.Spec PyProof.Rows L2 Bal
section
variable {X : Cx} {E : L2.St → XK} {a b c : Expr} {pos : Pos} {K : PySem.W.Frag} {mg : Str → Option Value} {Γ : Gm} {H : Hp} {μ : List Addr} {S : Store}
/-! ### either of two rules -/
def rOr (r r' : R2) : R2 := fun x y H Q => r x y H Q ∨ r' x y H Q
theorem OpR.or {f : Value → Value → Sem Value} {r r' : R2} (h : OpR X f r) (h' : OpR X f r') : OpR X f (rOr r r') := fun pins s σ H x y v u Q I rx ry q => q.elim (h pins s σ H x y v u Q I rx ry) (h' pins s σ H x y v u Q I rx ry)
theorem IxR.or {r r' : R2} (h : IxR X r) (h' : IxR X r') : IxR X (rOr r r') := fun va sl pins s σ H x y v u Q I rx ry q hs => q.elim (fun q => h va sl pins s σ H x y v u Q I rx ry q hs) (fun q => h' va sl pins s σ H x y v u Q I rx ry q hs)
theorem CallR.or {f : Value} {r r' : List V → Hp → VK → Prop} (h : CallR X f r) (h' : CallR X f r') : CallR X f (fun xs H Q => r xs H Q ∨ r' xs H Q) := fun pins s σ H xs us Q I rx q => q.elim (h pins s σ H xs us Q I rx) (h' pins s σ H xs us Q I rx)
/-! ### tuples joined and cut, with no dict of their own -/
def rCatN (K : PySem.W.Frag) : R2 := fun x y H Q => ∃ a b xs ys, x = .ref a ∧ y = .ref b ∧ SqT K H a xs ∧ SqT K H b ys ∧ xs.length + ys.length ≤ sizeLine ∧
  (xs = [] → Q (.ref b) H) ∧ (xs ≠ [] → ys = [] → Q (.ref a) H) ∧ (xs ≠ [] → ys ≠ [] → ∀ p o, o.dict = none → H p = none → Q (.ref p) (upd H p (.frz o (.tup (xs ++ ys)))))
theorem op_catN : OpR X (binaryOp .Add) (rCatN X.K) := by
  intro pins s σ H x y v u Q I rx ry h
  obtain ⟨a, b, xs, ys, rfl, rfl, ha, hb, hz, q0, q1, q2⟩ := h
  cases rx; cases ry
  obtain ⟨its, r1, p1, _⟩ := I.tuple ha
  obtain ⟨jts, r2, p2, _⟩ := I.tuple hb
  by_cases hx : xs = []
  · subst hx
    cases r1
    exact cat_tup0 p1 p2 ⟨.ref b, H, I, rfl, q0 rfl⟩
  · refine HT.cat_tup p1 p2 (fun z => hx (r1.nil_iff.mp z)) (fun z => ⟨.ref a, H, I, rfl, q1 hx (r2.nil_iff.mp z)⟩) (fun z => ?_) (by rw [← r1.length, ← r2.length]; exact hz)
    exact ⟨.ref s.heap.objs.size, _, I.laid (t' := s.toks) (o := .frz { cls := .type "tuple", data := .seq (its ++ jts).toArray } (.tup (xs ++ ys))) (fun b ob q => Heap.get?_push_of_some _ q) (Nat.le_refl _)
      (frz_tup (by rw [List.length_append]; exact hz) (r1.append r2) (Heap.get?_push_size _ rfl)), rfl, q2 hx (fun w => z (r2.nil_iff.mpr w)) _ _ rfl (I.hok.fresh (Nat.le_refl _))⟩
def rSlN (K : PySem.W.Frag) : V → Option Int → Option Int → Hp → VK → Prop := fun x lo hi H Q => ∃ a xs, x = .ref a ∧ SqT K H a xs ∧
  (HT.sIx xs.length 0 lo = 0 ∧ HT.sIx xs.length xs.length hi = xs.length → Q (.ref a) H) ∧ (¬ (HT.sIx xs.length 0 lo = 0 ∧ HT.sIx xs.length xs.length hi = xs.length) → ∀ p o, o.dict = none → H p = none → Q (.ref p) (upd H p (.frz o (.tup (cutV xs lo hi)))))
theorem sl_tupN : SlR X (rSlN X.K) := by
  intro pins s σ H x v vl vu lo hi sl Q I rx hs pl pu h
  obtain ⟨a, xs, rfl, hx, q1, q2⟩ := h
  cases rx
  obtain ⟨its, r, ht, hz⟩ := I.tuple hx
  have hlen : its.toArray.size = xs.length := by rw [List.size_toArray]; exact Eq.symm r.length
  refine ⟨"tuple", _, PyProof.Rows.slot_tuple_getitem.lookup, ht.typeIs, ?_⟩
  by_cases hw : HT.sIx xs.length 0 lo = 0 ∧ HT.sIx xs.length xs.length hi = xs.length
  · exact getItem_tuple_whole ht hs pl pu (by rw [hlen]; exact hw) ⟨.ref a, H, I, rfl, q1 hw⟩
  · refine HT.getItem_tuple_cut ht hs pl pu (by rw [hlen]; exact hw) ?_ (by rw [hlen]; exact hz)
    rw [hlen]
    have hf := q2 hw _ { cls := .type "tuple", data := .seq (((its.drop (HT.sIx xs.length 0 lo)).take (HT.sIx xs.length xs.length hi - HT.sIx xs.length 0 lo)).toArray) } rfl (I.hok.fresh (Nat.le_refl _))
    exact ⟨.ref s.heap.objs.size, _, I.laid (t' := s.toks) (fun b ob q => Heap.get?_push_of_some _ q) (Nat.le_refl _) (frz_tup (Nat.le_trans (cutV_length xs lo hi) hz) ((r.drop _).take _) (Heap.get?_push_size _ rfl)), rfl, hf⟩
/-! ### what values say -/
/-- a flat value -/
def flW : W → Option V
  | .non => some .non
  | .bl b => some (.bl b)
  | .int i => some (.int i)
  | .str x => some (.str x)
  | _ => none
def flWs : List W → Option (List V)
  | [] => some []
  | w :: ws => match flW w, flWs ws with
    | some v, some vs => some (v :: vs)
    | _, _ => none
theorem flW_ok {v u : V} {w : W} (r : Rp Γ H μ v w) (e : flW w = some u) : v = u ∧ flatV v = true := by
  cases r <;> first | (cases e; exact ⟨rfl, rfl⟩) | cases e
theorem flWs_ok : ∀ {vs us : List V} {ws : List W}, Rps Γ H μ vs ws → flWs ws = some us → vs = us ∧ vs.all flatV = true
  | _, us, _, .nil, e => by cases e; exact ⟨rfl, rfl⟩
  | _, us, _, .cons (w := w) (ws := ws) a b, e => by
    unfold flWs at e
    cases e1 : flW w with
    | none => rw [e1] at e; cases e
    | some u =>
      cases e2 : flWs ws with
      | none => rw [e1, e2] at e; cases e
      | some us' =>
        rw [e1, e2] at e
        cases e
        obtain ⟨h1, h2⟩ := flW_ok a e1
        obtain ⟨h3, h4⟩ := flWs_ok b e2
        exact ⟨by rw [h1, h3], by rw [List.all_cons, h2, h4]; rfl⟩
def inT : List W → Option (List Int)
  | [] => some []
  | .int i :: ws => (inT ws).map (i :: ·)
  | _ :: _ => none
theorem inT_ok : ∀ {vs : List V} {ws : List W} {ns : List Int}, Rps Γ H μ vs ws → inT ws = some ns → vs = ns.map V.int ∧ ws = ns.map W.int
  | _, _, ns, .nil, e => by cases e; exact ⟨rfl, rfl⟩
  | _, _, ns, .cons (w := w) (ws := ws) a b, e => by
    cases a <;> first | cases e | skip
    rename_i i
    have e : (inT ws).map (i :: ·) = some ns := e
    cases e2 : inT ws with
    | none => rw [e2] at e; cases e
    | some ms =>
      rw [e2] at e
      cases e
      obtain ⟨h1, h2⟩ := inT_ok b e2
      exact ⟨by rw [h1]; rfl, by rw [h2]; rfl⟩
def blT : List W → Option (List Bool)
  | [] => some []
  | .bl i :: ws => (blT ws).map (i :: ·)
  | _ :: _ => none
theorem blT_ok : ∀ {vs : List V} {ws : List W} {ns : List Bool}, Rps Γ H μ vs ws → blT ws = some ns → vs = ns.map V.bl
  | _, _, ns, .nil, e => by cases e; rfl
  | _, _, ns, .cons (w := w) (ws := ws) a b, e => by
    cases a <;> first | cases e | skip
    rename_i i
    have e : (blT ws).map (i :: ·) = some ns := e
    cases e2 : blT ws with
    | none => rw [e2] at e; cases e
    | some ms =>
      rw [e2] at e
      cases e
      rw [blT_ok b e2]
      rfl
/-- as data, the lists of the store read -/
def dat (S : Store) : Nat → W → Option PyData
  | 0, _ => none
  | _ + 1, .non => some .none
  | _ + 1, .bl b => some (.bool b)
  | _ + 1, .int i => some (.int i)
  | _ + 1, .str x => some (.str x)
  | n + 1, .tup ws => (ws.mapM (dat S n)).map .tuple
  | n + 1, .cl ws => (ws.mapM (dat S n)).map .list
  | n + 1, .lst m => match S[m]? with
    | some ws => (ws.mapM (dat S n)).map .list
    | none => none
  | _ + 1, _ => none
theorem rps_dat {f : W → Option PyData} (h : ∀ v w d, Rp Γ H μ v w → f w = some d → Dp Γ.K H v d) : ∀ {vs : List V} {ws : List W} {ds : List PyData}, Rps Γ H μ vs ws → ws.mapM f = some ds → DpAll Γ.K H vs ds
  | _, _, ds, .nil, e => by
    rw [List.mapM_nil] at e
    cases e
    exact .nil
  | _, _, ds, .cons (w := w) (ws := ws) a b, e => by
    rw [List.mapM_cons] at e
    cases e1 : f w with
    | none => rw [e1] at e; cases e
    | some d =>
      cases e2 : ws.mapM f with
      | none => rw [e1, e2] at e; cases e
      | some ds' =>
        rw [e1, e2] at e
        cases e
        exact .cons (h _ _ _ a e1) (rps_dat h b e2)
theorem dat_ok (k : Ok Γ H μ S) : ∀ (n : Nat) (v : V) (w : W) (d : PyData), Rp Γ H μ v w → dat S n w = some d → Dp Γ.K H v d
  | 0, _, _, _, _, e => by cases e
  | n + 1, v, w, d, r, e => by
    have ih := dat_ok k n
    cases r with
    | non => cases e; exact .non
    | bl b => cases e; exact .bl b
    | int i => cases e; exact .int i
    | str x => cases e; exact .str x
    | @tup a xs ws h l q =>
      have e : (ws.mapM (dat S n)).map PyData.tuple = some d := e
      cases e1 : ws.mapM (dat S n) with
      | none => rw [e1] at e; cases e
      | some ds => rw [e1] at e; cases e; exact .tup h.sq (rps_dat ih q e1)
    | @cl a xs ws h nn mm l q =>
      have e : (ws.mapM (dat S n)).map PyData.list = some d := e
      cases e1 : ws.mapM (dat S n) with
      | none => rw [e1] at e; cases e
      | some ds => rw [e1] at e; cases e; exact .lst (.inl (.inl h)) (rps_dat ih q e1)
    | @lst a m h hq =>
      obtain ⟨xs, ws, e1, e2, l, q⟩ := k.lat h hq
      have e : (match S[m]? with | some ws => (ws.mapM (dat S n)).map PyData.list | none => none) = some d := e
      rw [e1] at e
      have e : (ws.mapM (dat S n)).map PyData.list = some d := e
      cases e3 : ws.mapM (dat S n) with
      | none => rw [e3] at e; cases e
      | some ds => rw [e3] at e; cases e; exact .lst (.inl (.inl e2)) (rps_dat ih q e3)
    | _ => cases e
/-- data of a shape that is told apart -/
def datS (S : Store) (w : W) : Option PyData := match dat S 12 w with
  | some d => if SeqAt.shaped d = true then some d else none
  | none => none
theorem datS_ok (k : Ok Γ H μ S) {v : V} {w : W} {d : PyData} (r : Rp Γ H μ v w) (e : datS S w = some d) : Dp Γ.K H v d ∧ SeqAt.shaped d = true := by
  unfold datS at e
  cases e1 : dat S 12 w with
  | none => rw [e1] at e; cases e
  | some d' =>
    rw [e1] at e
    by_cases hs : SeqAt.shaped d' = true
    · simp only [hs, if_true] at e
      cases e
      exact ⟨dat_ok k 12 v w d r e1, hs⟩
    · simp only [hs, if_false] at e
      cases e
/-! ### two-place operations -/
def lstS (S : Store) : W → Option (List W)
  | .cl ws => some ws
  | .lst n => S[n]?
  | _ => none
theorem Rp.lstS (k : Ok Γ H μ S) {v : V} {w : W} {ws : List W} (r : Rp Γ H μ v w) (e : lstS S w = some ws) : ∃ p xs, v = .ref p ∧ H p = some (.lst xs) ∧ xs.length ≤ sizeLine ∧ Rps Γ H μ xs ws := by
  cases r with
  | cl h n m l q => cases e; exact ⟨_, _, rfl, h, l, q⟩
  | lst h hq =>
    obtain ⟨xs, zs, e1, e2, l, q⟩ := k.lat h hq
    have e : S[_]? = some ws := e
    rw [e1] at e
    cases e
    exact ⟨_, _, rfl, e2, l, q⟩
  | _ => cases e
def fAdd (S : Store) : W → W → Option W
  | .int i, .int j => some (.int (i + j))
  | .bl b, .int j => some (.int ((if b then 1 else 0) + j))
  | .tup x, .tup y => if szB (x.length + y.length) = true then some (.tup (x ++ y)) else none
  | x, y => match lstS S x, lstS S y with
    | some p, some q => if szB (p.length + q.length) = true then some (.cl (p ++ q)) else none
    | _, _ => none
abbrev rAddW (K : PySem.W.Frag) : R2 := rOr (fun x y H Q => ∃ i j, nv x = some i ∧ y = .int j ∧ Q (.int (i + j)) H) (rOr (rCatN K) rCat)
theorem op_addW : OpR X (binaryOp .Add) (rAddW X.K) := OpR.or op_addN (OpR.or op_catN op_cat)
theorem fAdd_ok : Op2 K mg (rAddW K) fAdd := by
  intro δ H μ S v u x y w Q k rx ry e q
  have lists : ∀ {x y : W} {v u : V}, Rp ⟨K, mg, δ⟩ H μ v x → Rp ⟨K, mg, δ⟩ H μ u y → (match lstS S x, lstS S y with | some p, some q => if szB (p.length + q.length) = true then some (W.cl (p ++ q)) else none | _, _ => none) = some w → rAddW K v u H Q := fun {x y v u} rx ry e => by
    cases e1 : lstS S x with
    | none => rw [e1] at e; cases e
    | some p =>
      cases e2 : lstS S y with
      | none => rw [e1, e2] at e; cases e
      | some q' =>
        rw [e1, e2] at e
        by_cases hz : szB (p.length + q'.length) = true
        · have e : (if szB (p.length + q'.length) = true then some (W.cl (p ++ q')) else none) = some w := e
          rw [if_pos hz] at e
          cases e
          obtain ⟨a1, xs, rfl, h1, l1, r1⟩ := rx.lstS k e1
          obtain ⟨a2, ys, rfl, h2, l2, r2⟩ := ry.lstS k e2
          have l3 : xs.length + ys.length ≤ sizeLine := by rw [r1.len, r2.len]; exact sz_ok hz
          refine .inr (.inr ⟨a1, a2, xs, ys, rfl, rfl, h1, h2, l3, fun p hp => ?_⟩)
          obtain ⟨g, k2, r⟩ := new_cl k hp (by rw [List.length_append]; exact l3) (r1.app r2)
          exact q _ _ g k2 r
        · have e : (if szB (p.length + q'.length) = true then some (W.cl (p ++ q')) else none) = some w := e
          rw [if_neg hz] at e
          cases e
  cases rx with
  | int i =>
    cases ry with
    | int j => cases e; exact .inl ⟨i, j, rfl, rfl, q _ _ Gr.refl k (.int _)⟩
    | _ => cases e
  | bl b =>
    cases ry with
    | int j => cases e; exact .inl ⟨_, j, rfl, rfl, q _ _ Gr.refl k (.int _)⟩
    | _ => cases e
  | @tup a1 xs1 ws1 h1 l1 r1 =>
    cases ry with
    | @tup a2 xs2 ws2 h2 l2 r2 =>
      have e : (if szB (ws1.length + ws2.length) = true then some (W.tup (ws1 ++ ws2)) else none) = some w := e
      by_cases hz : szB (ws1.length + ws2.length) = true
      · rw [if_pos hz] at e
        cases e
        have l3 : xs1.length + xs2.length ≤ sizeLine := by rw [r1.len, r2.len]; exact sz_ok hz
        refine .inr (.inl ⟨a1, a2, xs1, xs2, rfl, rfl, h1.sq, h2.sq, l3, fun z => ?_, fun _ z => ?_, fun _ _ p o ho hp => ?_⟩)
        · subst z
          cases r1
          exact q _ _ Gr.refl k (.tup h2 l2 r2)
        · subst z
          cases r2
          rw [List.append_nil] at q
          exact q _ _ Gr.refl k (.tup h1 l1 r1)
        · obtain ⟨g, k2, r⟩ := new_tup k hp ho (by rw [List.length_append]; exact l3) (r1.app r2)
          exact q _ _ g k2 r
      · rw [if_neg hz] at e
        cases e
    | _ => cases e
  | cl h n m l r => exact lists (.cl h n m l r) ry e
  | lst h hq => exact lists (.lst h hq) ry e
  | _ => cases e
def fSub (_ : Store) : W → W → Option W
  | .int i, .int j => some (.int (i - j))
  | _, _ => none
theorem fSub_ok : Op2 K mg (rI0 fun i j => .int (i - j)) fSub := by
  intro δ H μ S v u x y w Q k rx ry e q
  cases rx <;> first | cases e | skip
  cases ry <;> first | cases e | skip
  exact ⟨_, _, rfl, rfl, q _ _ Gr.refl k (.int _)⟩
def mulB (i j : Int) : Bool := (decide (-(2 ^ 64) < i) && decide (i < 2 ^ 64)) || (decide (-(2 ^ 64) < j) && decide (j < 2 ^ 64))
def fMul (S : Store) : W → W → Option W
  | .int i, .int j => if mulB i j = true then some (.int (i * j)) else none
  | x, .int j => match lstS S x with
    | some p => if decide (0 ≤ j ∧ j ≤ 1000) && szB (p.length * j.toNat) then some (.cl (List.replicate j.toNat p).flatten) else none
    | none => none
  | _, _ => none
theorem rps_rep {vs : List V} {ws : List W} (r : Rps Γ H μ vs ws) : ∀ n : Nat, Rps Γ H μ (List.replicate n vs).flatten (List.replicate n ws).flatten
  | 0 => .nil
  | n + 1 => by
    rw [List.replicate_succ, List.replicate_succ, List.flatten_cons, List.flatten_cons]
    exact r.app (rps_rep r n)
theorem fMul_ok : Op2 K mg (rOr (rI CMul fun i j => .int (i * j)) rRep) fMul := by
  intro δ H μ S v u x y w Q k rx ry e q
  have lists : ∀ {x : W} {v u : V} {j : Int}, Rp ⟨K, mg, δ⟩ H μ v x → u = .int j → (match lstS S x with | some p => if decide (0 ≤ j ∧ j ≤ 1000) && szB (p.length * j.toNat) then some (W.cl (List.replicate j.toNat p).flatten) else none | none => none) = some w → rOr (rI CMul fun i j => .int (i * j)) rRep v u H Q := fun {x v u j} rx eu e => by
    subst eu
    cases e1 : lstS S x with
    | none => rw [e1] at e; cases e
    | some p =>
      rw [e1] at e
      by_cases hz : (decide (0 ≤ j ∧ j ≤ 1000) && szB (p.length * j.toNat)) = true
      · have e : (if (decide (0 ≤ j ∧ j ≤ 1000) && szB (p.length * j.toNat)) = true then some (W.cl (List.replicate j.toNat p).flatten) else none) = some w := e
        rw [if_pos hz] at e
        cases e
        obtain ⟨hj, hz⟩ := Bool.and_eq_true_iff.mp hz
        have hj := of_decide_eq_true hj
        obtain ⟨a1, xs, rfl, h1, l1, r1⟩ := rx.lstS k e1
        have l3 : xs.length * j.toNat ≤ sizeLine := by rw [r1.len]; exact sz_ok hz
        refine .inr ⟨a1, j, xs, rfl, rfl, h1, by omega, by omega, l3, fun p hp => ?_⟩
        obtain ⟨g, k2, r⟩ := new_cl k hp (by rw [List.length_flatten, List.map_replicate, List.sum_replicate_nat, Nat.mul_comm]; exact l3) (rps_rep r1 j.toNat)
        exact q _ _ g k2 r
      · have e : (if (decide (0 ≤ j ∧ j ≤ 1000) && szB (p.length * j.toNat)) = true then some (W.cl (List.replicate j.toNat p).flatten) else none) = some w := e
        rw [if_neg hz] at e
        cases e
  cases rx with
  | int i =>
    cases ry with
    | int j =>
      have e : (if mulB i j = true then some (W.int (i * j)) else none) = some w := e
      by_cases hm : mulB i j = true
      · rw [if_pos hm] at e
        cases e
        refine .inl ⟨i, j, rfl, rfl, ?_, q _ _ Gr.refl k (.int _)⟩
        unfold mulB at hm
        rcases Bool.or_eq_true_iff.mp hm with h | h
        · obtain ⟨h1, h2⟩ := Bool.and_eq_true_iff.mp h
          exact .inl ⟨of_decide_eq_true h1, of_decide_eq_true h2⟩
        · obtain ⟨h1, h2⟩ := Bool.and_eq_true_iff.mp h
          exact .inr ⟨of_decide_eq_true h1, of_decide_eq_true h2⟩
      · rw [if_neg hm] at e
        cases e
    | _ => cases e
  | cl h n m l r =>
    cases ry <;> first | (exact lists (.cl h n m l r) rfl e) | cases e
  | lst h hq =>
    cases ry <;> first | (exact lists (.lst h hq) rfl e) | cases e
  | _ => cases ry <;> cases e
def fDiv (_ : Store) : W → W → Option W
  | .int i, .int j => if decide (0 < j ∧ j < 1073741824) = true then some (.int (i / j)) else none
  | _, _ => none
theorem fDiv_ok : Op2 K mg (rI CDiv fun i j => .int (i / j)) fDiv := by
  intro δ H μ S v u x y w Q k rx ry e q
  cases rx <;> first | cases e | skip
  cases ry <;> first | cases e | skip
  rename_i i j
  have e : (if decide (0 < j ∧ j < 1073741824) = true then some (W.int (i / j)) else none) = some w := e
  by_cases hm : decide (0 < j ∧ j < 1073741824) = true
  · rw [if_pos hm] at e
    cases e
    exact ⟨_, _, rfl, rfl, (by have z := of_decide_eq_true hm; exact z), q _ _ Gr.refl k (.int _)⟩
  · rw [if_neg hm] at e
    cases e
def fMod (_ : Store) : W → W → Option W
  | .int i, .int j => if decide (0 < j) = true then some (.int (i % j)) else none
  | _, _ => none
theorem fMod_ok : Op2 K mg (rI (fun _ j => 0 < j) fun i j => .int (i % j)) fMod := by
  intro δ H μ S v u x y w Q k rx ry e q
  cases rx <;> first | cases e | skip
  cases ry <;> first | cases e | skip
  rename_i i j
  have e : (if decide (0 < j) = true then some (W.int (i % j)) else none) = some w := e
  by_cases hm : decide (0 < j) = true
  · rw [if_pos hm] at e
    cases e
    exact ⟨_, _, rfl, rfl, (by have z := of_decide_eq_true hm; exact z), q _ _ Gr.refl k (.int _)⟩
  · rw [if_neg hm] at e
    cases e
def fPow (_ : Store) : W → W → Option W
  | .int i, .int j => if decide (0 ≤ j ∧ j ≤ 1000000 ∧ i.natAbs < 2 ^ 64) = true then some (.int (i ^ j.toNat)) else none
  | _, _ => none
theorem fPow_ok : Op2 K mg (rI CPow fun i j => .int (i ^ j.toNat)) fPow := by
  intro δ H μ S v u x y w Q k rx ry e q
  cases rx <;> first | cases e | skip
  cases ry <;> first | cases e | skip
  rename_i i j
  have e : (if decide (0 ≤ j ∧ j ≤ 1000000 ∧ i.natAbs < 2 ^ 64) = true then some (W.int (i ^ j.toNat)) else none) = some w := e
  by_cases hm : decide (0 ≤ j ∧ j ≤ 1000000 ∧ i.natAbs < 2 ^ 64) = true
  · rw [if_pos hm] at e
    cases e
    exact ⟨_, _, rfl, rfl, (by have z := of_decide_eq_true hm; exact z), q _ _ Gr.refl k (.int _)⟩
  · rw [if_neg hm] at e
    cases e
/-! ### comparisons -/
def fCmp (p : Int → Int → Bool) (_ : Store) : W → W → Option W
  | .int i, .int j => some (.bl (p i j))
  | _, _ => none
theorem fCmp_ok {p : Int → Int → Bool} : Op2 K mg (rI0 fun i j => .bl (p i j)) (fCmp p) := by
  intro δ H μ S v u x y w Q k rx ry e q
  cases rx <;> first | cases e | skip
  cases ry <;> first | cases e | skip
  exact ⟨_, _, rfl, rfl, q _ _ Gr.refl k (.bl _)⟩
abbrev pLt : Int → Int → Bool := fun i j => decide (i < j)
abbrev pGt : Int → Int → Bool := fun i j => decide (j < i)
abbrev pGe : Int → Int → Bool := fun i j => decide (j ≤ i)
def eqD (S : Store) (x y : W) : Option Bool := match datS S x, datS S y with
  | some d, some e => some (PyData.eqv d e)
  | _, _ => none
def fEq (S : Store) (x y : W) : Option W := (eqD S x y).map .bl
def fNe (S : Store) (x y : W) : Option W := (eqD S x y).map fun b => .bl (!b)
theorem eqD_ok (k : Ok Γ H μ S) {v u : V} {x y : W} {b : Bool} (rx : Rp Γ H μ v x) (ry : Rp Γ H μ u y) (e : eqD S x y = some b) : ∃ d f, Dp Γ.K H v d ∧ Dp Γ.K H u f ∧ SeqAt.shaped d = true ∧ SeqAt.shaped f = true ∧ b = PyData.eqv d f := by
  unfold eqD at e
  cases e1 : datS S x with
  | none => rw [e1] at e; cases e
  | some d =>
    cases e2 : datS S y with
    | none => rw [e1, e2] at e; cases e
    | some f =>
      rw [e1, e2] at e
      cases e
      obtain ⟨h1, h2⟩ := datS_ok k rx e1
      obtain ⟨h3, h4⟩ := datS_ok k ry e2
      exact ⟨d, f, h1, h3, h2, h4, rfl⟩
theorem fEq_ok : Op2 K mg (rEqD K) fEq := by
  intro δ H μ S v u x y w Q k rx ry e q
  unfold fEq at e
  cases e1 : eqD S x y with
  | none => rw [e1] at e; cases e
  | some b =>
    rw [e1] at e
    cases e
    obtain ⟨d, f, h1, h2, h3, h4, rfl⟩ := eqD_ok k rx ry e1
    exact ⟨d, f, h1, h2, h3, h4, q _ _ Gr.refl k (.bl _)⟩
theorem fNe_ok : Op2 K mg (rNeD K) fNe := by
  intro δ H μ S v u x y w Q k rx ry e q
  unfold fNe at e
  cases e1 : eqD S x y with
  | none => rw [e1] at e; cases e
  | some b =>
    rw [e1] at e
    cases e
    obtain ⟨d, f, h1, h2, h3, h4, rfl⟩ := eqD_ok k rx ry e1
    exact ⟨d, f, h1, h2, h3, h4, q _ _ Gr.refl k (.bl _)⟩
/-- is None -/
def isN : W → Bool
  | .non => true
  | _ => false
def fIs (_ : Store) (x : W) : W → Option W
  | .non => some (.bl (isN x))
  | _ => none
theorem isN_ok {v : V} {x : W} (r : Rp Γ H μ v x) : decide (v = .non) = isN x := by
  cases r <;> first | rfl | exact decide_eq_false fun z => nomatch z
theorem fIs_ok : Op2 K mg (fun x y H Q => y = .non ∧ Q (.bl (decide (x = .non))) H) fIs := by
  intro δ H μ S v u x y w Q k rx ry e q
  cases ry <;> first | cases e | skip
  refine ⟨rfl, ?_⟩
  rw [isN_ok rx]
  exact q _ _ Gr.refl k (.bl _)
/-- in: of flat values in a list or a tuple of such; of data in a list of such -/
def inW (S : Store) (x y : W) : Option Bool := match itmsS S y with
  | some ws => match flW x, flWs ws with
    | some v, some vs => some (inV v vs)
    | _, _ => match datS S x, lstS S y, datS S y with
      | some d, some _, some (.list ds) => some (ds.any fun z => PyData.eqv z d)
      | _, _, _ => none
  | none => none
def fIn (S : Store) (x y : W) : Option W := (inW S x y).map .bl
theorem inW_ok (k : Ok Γ H μ S) {v u : V} {x y : W} {b : Bool} (rx : Rp Γ H μ v x) (ry : Rp Γ H μ u y) (e : inW S x y = some b) :
    (∃ p xs, u = .ref p ∧ (SqL Γ.K H p xs ∨ SqT Γ.K H p xs) ∧ flatV v = true ∧ xs.all flatV = true ∧ b = inV v xs) ∨ ∃ d ds, Dp Γ.K H v d ∧ Dp Γ.K H u (.list ds) ∧ SeqAt.shaped d = true ∧ SeqAt.shaped (.list ds) = true ∧ b = ds.any fun z => PyData.eqv z d := by
  unfold inW at e
  cases e1 : itmsS S y with
  | none => rw [e1] at e; cases e
  | some ws =>
    rw [e1] at e
    obtain ⟨p, xs, rfl, hq, l, r⟩ := ry.seq k e1
    have deep : (match datS S x, lstS S y, datS S y with | some d, some _, some (.list ds) => some (ds.any fun z => PyData.eqv z d) | _, _, _ => none) = some b → (∃ d ds, Dp Γ.K H v d ∧ Dp Γ.K H (.ref p) (.list ds) ∧ SeqAt.shaped d = true ∧ SeqAt.shaped (.list ds) = true ∧ b = ds.any fun z => PyData.eqv z d) := fun e => by
      split at e
      · rename_i d _ ds e3 e4 e5
        cases e
        obtain ⟨h1, h2⟩ := datS_ok k rx e3
        obtain ⟨h3, h4⟩ := datS_ok k ry e5
        exact ⟨d, ds, h1, h3, h2, h4, rfl⟩
      · cases e
    cases e2 : flW x with
    | none => simp only [e2] at e; exact .inr (deep e)
    | some v' =>
      cases e3 : flWs ws with
      | none => simp only [e2, e3] at e; exact .inr (deep e)
      | some vs =>
        simp only [e2, e3] at e
        cases e
        obtain ⟨rfl, h1⟩ := flW_ok rx e2
        obtain ⟨rfl, h2⟩ := flWs_ok r e3
        exact .inl ⟨p, xs, rfl, hq.symm, h1, h2, rfl⟩
theorem fIn_ok : Op2 K mg (rOr (rIn K false) (rInD K)) fIn := by
  intro δ H μ S v u x y w Q k rx ry e q
  unfold fIn at e
  cases e1 : inW S x y with
  | none => rw [e1] at e; cases e
  | some b =>
    rw [e1] at e
    cases e
    rcases inW_ok k rx ry e1 with ⟨p, xs, rfl, hq, h1, h2, rfl⟩ | ⟨d, ds, h1, h2, h3, h4, rfl⟩
    · exact .inl ⟨p, xs, rfl, hq, h1, h2, q _ _ Gr.refl k (.bl _)⟩
    · exact .inr ⟨d, ds, h1, h2, h3, h4, q _ _ Gr.refl k (.bl _)⟩
/-! ### places -/
def ixW (S : Store) : W → Option (List W)
  | .sc ws => some ws
  | w => itmsS S w
def fIx (S : Store) (x : W) : W → Option W
  | .int i => match ixW S x with
    | some ws => atI ws i
    | none => none
  | _ => none
theorem atI_rps {vs : List V} {ws : List W} {i : Int} {w : W} (r : Rps Γ H μ vs ws) (e : atI ws i = some w) : ∃ v, atI vs i = some v ∧ Rp Γ H μ v w := by
  unfold atI at e ⊢
  rw [r.len]
  cases e1 : ixN ws.length i with
  | none => rw [e1] at e; cases e
  | some j =>
    rw [e1] at e
    exact r.getW e
theorem fIx_ok : Op2 K mg (rOr (rIxL K) (rIxT K)) fIx := by
  intro δ H μ S v u x y w Q k rx ry e q
  cases ry <;> first | cases e | skip
  rename_i i
  have e : (match ixW S x with | some ws => atI ws i | none => none) = some w := e
  cases e1 : ixW S x with
  | none => rw [e1] at e; cases e
  | some ws =>
    rw [e1] at e
    have seq : itmsS S x = some ws → rOr (rIxL K) (rIxT K) v (.int i) H Q := fun e1 => by
      obtain ⟨p, xs, rfl, hq, l, r⟩ := rx.seq k e1
      obtain ⟨z, h1, h2⟩ := atI_rps r e
      rcases hq with hq | hq
      · exact .inr ⟨p, xs, i, z, rfl, rfl, hq, h1, q _ _ Gr.refl k h2⟩
      · exact .inl ⟨p, xs, i, z, rfl, rfl, hq, h1, q _ _ Gr.refl k h2⟩
    cases rx with
    | sc h r =>
      cases e1
      obtain ⟨z, h1, h2⟩ := atI_rps r e
      exact .inl ⟨_, _, i, z, rfl, rfl, h.sq, h1, q _ _ Gr.refl k h2⟩
    | _ => exact seq e1
def fNeg (_ : Store) : W → Option W
  | .int i => some (.int (-i))
  | _ => none
theorem fNeg_ok : Op1 K mg (rU fun i => .int (-i)) fNeg := by
  intro δ H μ S v x w Q k rx e q
  cases rx <;> first | cases e | skip
  exact ⟨_, rfl, q _ _ Gr.refl k (.int _)⟩
end
end Den

namespace Den
open PySem PySem.Spec PyProof.Rows L2 Bal
section
variable {X : Cx} {E : L2.St → XK} {e a b c : Expr} {es : List Expr} {pos p : Pos} {K : PySem.W.Frag} {mg : Str → Option Value} {Γ : Gm} {H : Hp} {μ : List Addr} {S : Store} {x : Str} {idn T : String} {r : List V → Hp → VK → Prop}
/-! ### calls of built-ins -/
def dCallN (f : Store → List W → Option W) (d : DA) : DE := fun ρ => bnd (d ρ) fun ws => rdS fun S => f S ws
theorem callN_ok {f : Store → List W → Option W} {d : DA} (hf : OpN K mg r f) {σ : L2.St} {Q : VK} (h : tOf K mg E (dCallN f d) σ H Q) : tCB r (taOf K mg E d) σ H Q := by
  obtain ⟨δ, μ, S, ρ, k, s, h⟩ := h
  refine ⟨δ, μ, S, ρ, k, s, Res.step h fun ws S1 H1 μ1 g1 k1 h1 vs rs => ?_⟩
  obtain ⟨w, e, q⟩ := rd_ok h1
  exact hf k1 rs e q
theorem de_callB {f : Store → List W → Option W} {d : DA} (hc : CallR X (.builtin idn) r) (hf : OpN X.K X.mg r f) (hg : Gl X x) (hm : X.mg x = none) (hv : bootBuiltins x = some (.builtin idn)) (ha : PDA X E (e :: es) d) (hn : x ≠ "__name__" := by decide) (hdb : (x == ("__debug__" : Str)) = false := by decide)
    (he : starEach (e :: es) X.env = (false, eval e X.env) :: starEach es X.env := by rfl) (hpl : (backTo pos (starEach es X.env)).any (·.1) = false := by rfl) : PD X E (.Call (.Name x p) (e :: es) [] pos) (dCallN f d) := pe_of (pe_callB hc hg hm hv ha hn hdb he hpl) fun _ _ _ h => callN_ok hf h
theorem de_callTy {f : Store → List W → Option W} {d : DA} (hc : CallR X (.type T) r) (hf : OpN X.K X.mg r f) (hg : Gl X x) (hm : X.mg x = none) (hv : bootBuiltins x = some (.type T)) (ha : PDA X E (e :: es) d) (hn : x ≠ "__name__" := by decide) (hdb : (x == ("__debug__" : Str)) = false := by decide)
    (he : starEach (e :: es) X.env = (false, eval e X.env) :: starEach es X.env := by rfl) (hpl : (backTo pos (starEach es X.env)).any (·.1) = false := by rfl) : PD X E (.Call (.Name x p) (e :: es) [] pos) (dCallN f d) := pe_of (pe_callTy hc hg hm hv ha hn hdb he hpl) fun _ _ _ h => callN_ok hf h
/-! ### that make a new list -/
def OpF (K : PySem.W.Frag) (mg : Str → Option Value) (r : List V → Hp → VK → Prop) (f : Store → List W → Option (List W)) : Prop := ∀ {δ : List Addr} {H : Hp} {μ : List Addr} {S : Store} {vs : List V} {xs us : List W} {Q : VK}, Ok ⟨K, mg, δ⟩ H μ S → Rps ⟨K, mg, δ⟩ H μ vs xs → f S xs = some us →
  (∀ p ys, H p = none → ys.length ≤ sizeLine → Rps ⟨K, mg, δ⟩ H μ ys us → Q (.ref p) (upd H p (.lst ys))) → r vs H Q
/-- how a new list is kept: as one that nobody changes, or in the store -/
inductive Kp where | cl | st
def newK : Kp → List W → Mo W
  | .cl, us => fun S => .ok (.cl us) S
  | .st, us => fun S => .ok (.lst S.length) (S ++ [us])
theorem newK_ok {E : XK} (kp : Kp) {us : List W} {Q : VK} (k : Ok Γ H μ S) (h : Res Γ E H μ (newK kp us S) fun w H' μ' _ => ∀ v, Rp Γ H' μ' v w → Q v H') {p : Addr} {ys : List V} (hp : H p = none) (l : ys.length ≤ sizeLine) (r : Rps Γ H μ ys us) : Q (.ref p) (upd H p (.lst ys)) := by
  cases kp with
  | cl =>
    obtain ⟨g, k2, r2⟩ := new_cl k hp l r
    exact h _ _ g k2 _ r2
  | st =>
    obtain ⟨k2, g⟩ := k.alloc hp l r
    refine h _ _ g k2 _ (.lst ?_ ⟨_, upd_same, rfl⟩)
    rw [← k.len, List.getElem?_append_right (Nat.le_refl _), Nat.sub_self]
    rfl
def dCallF (kp : Kp) (f : Store → List W → Option (List W)) (d : DA) : DE := fun ρ => bnd (d ρ) fun ws S => match f S ws with
  | some us => newK kp us S
  | none => .bad
theorem callF_ok {kp : Kp} {f : Store → List W → Option (List W)} {d : DA} (hf : OpF K mg r f) {σ : L2.St} {Q : VK} (h : tOf K mg E (dCallF kp f d) σ H Q) : tCB r (taOf K mg E d) σ H Q := by
  obtain ⟨δ, μ, S, ρ, k, s, h⟩ := h
  refine ⟨δ, μ, S, ρ, k, s, Res.step h fun ws S1 H1 μ1 g1 k1 h1 vs rs => ?_⟩
  cases e : f S1 ws with
  | none => rw [e] at h1; exact h1.elim
  | some us =>
    rw [e] at h1
    exact hf k1 rs e fun p ys hp l r => newK_ok kp k1 h1 hp l r
theorem de_callFB (kp : Kp) {f : Store → List W → Option (List W)} {d : DA} (hc : CallR X (.builtin idn) r) (hf : OpF X.K X.mg r f) (hg : Gl X x) (hm : X.mg x = none) (hv : bootBuiltins x = some (.builtin idn)) (ha : PDA X E (e :: es) d) (hn : x ≠ "__name__" := by decide) (hdb : (x == ("__debug__" : Str)) = false := by decide)
    (he : starEach (e :: es) X.env = (false, eval e X.env) :: starEach es X.env := by rfl) (hpl : (backTo pos (starEach es X.env)).any (·.1) = false := by rfl) : PD X E (.Call (.Name x p) (e :: es) [] pos) (dCallF kp f d) := pe_of (pe_callB hc hg hm hv ha hn hdb he hpl) fun _ _ _ h => callF_ok hf h
/-! ### len, tuple, list, all, any, abs, int, max, min, sorted -/
theorem Rps.one {vs : List V} {ws : List W} {w : W} (r : Rps Γ H μ vs ws) (e : ws = [w]) : ∃ v, vs = [v] ∧ Rp Γ H μ v w := by
  subst e
  cases r with
  | cons a b => cases b; exact ⟨_, rfl, a⟩
theorem Rps.two {vs : List V} {ws : List W} {w z : W} (r : Rps Γ H μ vs ws) (e : ws = [w, z]) : ∃ v u, vs = [v, u] ∧ Rp Γ H μ v w ∧ Rp Γ H μ u z := by
  subst e
  cases r with
  | cons a b =>
    obtain ⟨u, rfl, h⟩ := Rps.one b rfl
    exact ⟨_, _, rfl, a, h⟩
def fLen (S : Store) : List W → Option W
  | [w] => match ixW S w with
    | some ws => some (.int (ws.length : Nat))
    | none => none
  | _ => none
theorem fLen_ok : OpN K mg (fun xs H Q => ∃ p ys, xs = [.ref p] ∧ (SqL K H p ys ∨ SqT K H p ys) ∧ Q (.int ys.length) H) fLen := by
  intro δ H μ S vs xs w Q k rs e q
  match xs, e with
  | [x], e =>
    obtain ⟨v, rfl, rx⟩ := rs.one rfl
    have e : (match ixW S x with | some ws => some (W.int (ws.length : Nat)) | none => none) = some w := e
    cases e1 : ixW S x with
    | none => rw [e1] at e; cases e
    | some ws =>
      rw [e1] at e
      cases e
      have seq : itmsS S x = some ws → ∃ p ys, [v] = [.ref p] ∧ (SqL K H p ys ∨ SqT K H p ys) ∧ Q (.int ys.length) H := fun e1 => by
        obtain ⟨p, xs, rfl, hq, l, r⟩ := rx.seq k e1
        exact ⟨p, xs, rfl, hq.symm, by rw [r.len]; exact q _ _ Gr.refl k (.int _)⟩
      cases rx with
      | sc h r =>
        cases e1
        exact ⟨_, _, rfl, .inl h.sq, by rw [r.len]; exact q _ _ Gr.refl k (.int _)⟩
      | _ => exact seq e1
def fTuple (S : Store) : List W → Option W
  | [w] => (itmsS S w).map .tup
  | _ => none
theorem fTuple_ok : OpN K mg (rTupN K) fTuple := by
  intro δ H μ S vs xs w Q k rs e q
  match xs, e with
  | [x], e =>
    obtain ⟨v, rfl, rx⟩ := rs.one rfl
    have e : (itmsS S x).map W.tup = some w := e
    cases e1 : itmsS S x with
    | none => rw [e1] at e; cases e
    | some ws =>
      rw [e1] at e
      cases e
      cases rx with
      | tup h l r => cases e1; exact ⟨_, _, rfl, .inr ⟨h.sq, q _ _ Gr.refl k (.tup h l r)⟩⟩
      | cl h n m l r =>
        cases e1
        refine ⟨_, _, rfl, .inl ⟨.inl (.inl h), fun p o ho hp => ?_⟩⟩
        obtain ⟨g, k2, r⟩ := new_tup k hp ho l r
        exact q _ _ g k2 r
      | lst h hq =>
        obtain ⟨ys, zs, e2, e3, l, r⟩ := k.lat h hq
        have e1 : S[_]? = some ws := e1
        rw [e2] at e1
        cases e1
        refine ⟨_, _, rfl, .inl ⟨.inl (.inl e3), fun p o ho hp => ?_⟩⟩
        obtain ⟨g, k2, r⟩ := new_tup k hp ho l r
        exact q _ _ g k2 r
      | _ => cases e1
def fAll (S : Store) : List W → Option W
  | [w] => match lstS S w with
    | some ws => (blT ws).map fun bs => .bl (bs.all id)
    | none => none
  | _ => none
theorem bls_ok (k : Ok Γ H μ S) {v : V} {x : W} {ws : List W} {bs : List Bool} (rx : Rp Γ H μ v x) (e1 : lstS S x = some ws) (e2 : blT ws = some bs) : ∃ p, v = .ref p ∧ SqL Γ.K H p (bs.map V.bl) := by
  obtain ⟨p, ys, rfl, h, l, r⟩ := rx.lstS k e1
  rw [blT_ok r e2] at h
  exact ⟨p, rfl, .inl (.inl h)⟩
theorem fAll_ok : OpN K mg (rAll K) fAll := by
  intro δ H μ S vs xs w Q k rs e q
  match xs, e with
  | [x], e =>
    obtain ⟨v, rfl, rx⟩ := rs.one rfl
    have e : (match lstS S x with | some ws => (blT ws).map fun bs => W.bl (bs.all id) | none => none) = some w := e
    cases e1 : lstS S x with
    | none => rw [e1] at e; cases e
    | some ws =>
      rw [e1] at e
      have e : (blT ws).map (fun bs => W.bl (bs.all id)) = some w := e
      cases e2 : blT ws with
      | none => rw [e2] at e; cases e
      | some bs =>
        rw [e2] at e
        cases e
        obtain ⟨p, rfl, h⟩ := bls_ok k rx e1 e2
        exact ⟨p, bs, rfl, h, q _ _ Gr.refl k (.bl _)⟩
def fAbs (_ : Store) : List W → Option W
  | [.int i] => some (.int (if i < 0 then -i else i))
  | _ => none
theorem fAbs_ok : OpN K mg (fun xs H Q => ∃ i, xs = [.int i] ∧ Q (.int (if i < 0 then -i else i)) H) fAbs := by
  intro δ H μ S vs xs w Q k rs e q
  match xs, e with
  | [.int i], e =>
    cases e
    obtain ⟨v, rfl, rx⟩ := rs.one rfl
    cases rx
    exact ⟨i, rfl, q _ _ Gr.refl k (.int _)⟩
def fInt (_ : Store) : List W → Option W
  | [.int i] => some (.int i)
  | [.bl b] => some (.int (if b then 1 else 0))
  | _ => none
theorem fInt_ok : OpN K mg (fun xs H Q => (∃ i, xs = [.int i] ∧ Q (.int i) H) ∨ ∃ k, xs = [.bl k] ∧ Q (.int (if k then 1 else 0)) H) fInt := by
  intro δ H μ S vs xs w Q k rs e q
  match xs, e with
  | [.int i], e =>
    cases e
    obtain ⟨v, rfl, rx⟩ := rs.one rfl
    cases rx
    exact .inl ⟨i, rfl, q _ _ Gr.refl k (.int _)⟩
  | [.bl b], e =>
    cases e
    obtain ⟨v, rfl, rx⟩ := rs.one rfl
    cases rx
    exact .inr ⟨b, rfl, q _ _ Gr.refl k (.int _)⟩
def fMax2 (_ : Store) : List W → Option W
  | [.int i, .int j] => some (.int (if j > i then j else i))
  | _ => none
theorem fMax2_ok : OpN K mg (fun xs H Q => ∃ i j, xs = [.int i, .int j] ∧ Q (.int (if j > i then j else i)) H) fMax2 := by
  intro δ H μ S vs xs w Q k rs e q
  match xs, e with
  | [.int i, .int j], e =>
    cases e
    obtain ⟨v, u, rfl, rx, ry⟩ := rs.two rfl
    cases rx; cases ry
    exact ⟨i, j, rfl, q _ _ Gr.refl k (.int _)⟩
def fMin2 (_ : Store) : List W → Option W
  | [.int i, .int j] => some (.int (if j < i then j else i))
  | _ => none
theorem fMin2_ok : OpN K mg (fun xs H Q => ∃ i j, xs = [.int i, .int j] ∧ Q (.int (if j < i then j else i)) H) fMin2 := by
  intro δ H μ S vs xs w Q k rs e q
  match xs, e with
  | [.int i, .int j], e =>
    cases e
    obtain ⟨v, u, rfl, rx, ry⟩ := rs.two rfl
    cases rx; cases ry
    exact ⟨i, j, rfl, q _ _ Gr.refl k (.int _)⟩
/-- sorted numbers -/
def srt (ns : List Int) : List Int := ns.mergeSort (fun a b => decide (a ≤ b))
theorem srt_perm (ns : List Int) : (srt ns).Perm ns := List.mergeSort_perm _ _
theorem srt_le (ns : List Int) : (srt ns).Pairwise (· ≤ ·) := by
  have h := List.pairwise_mergeSort (le := fun a b : Int => decide (a ≤ b)) (fun a b c h1 h2 => decide_eq_true (Int.le_trans (of_decide_eq_true h1) (of_decide_eq_true h2))) (fun a b => by
    rcases Int.le_total a b with h | h
    · rw [decide_eq_true h]; rfl
    · rw [decide_eq_true h, Bool.or_true]) ns
  exact h.imp fun h => of_decide_eq_true h
theorem srt_uniq {ms ns : List Int} (p : ms.Perm ns) (h : ms.Pairwise (· ≤ ·)) : ms = srt ns := (p.trans (srt_perm ns).symm).eq_of_pairwise (fun a b _ _ h1 h2 => Int.le_antisymm h1 h2) h (srt_le ns)
theorem ints_sq (k : Ok Γ H μ S) {v : V} {x : W} {ws : List W} {ns : List Int} (rx : Rp Γ H μ v x) (e1 : itmsS S x = some ws) (e2 : inT ws = some ns) : ∃ p, v = .ref p ∧ SqA Γ.K H p (ns.map V.int) ∧ ns.length ≤ sizeLine := by
  obtain ⟨p, ys, rfl, h, l, r⟩ := rx.seq k e1
  obtain ⟨h1, h2⟩ := inT_ok r e2
  rw [h1] at h l
  rw [List.length_map] at l
  exact ⟨p, rfl, h.symm, l⟩
theorem rps_ints : ∀ ns : List Int, Rps Γ H μ (ns.map V.int) (ns.map W.int)
  | [] => .nil
  | n :: ns => .cons (.int n) (rps_ints ns)
def intsOf (S : Store) (w : W) : Option (List Int) := match itmsS S w with
  | some ws => inT ws
  | none => none
theorem intsOf_ok (k : Ok Γ H μ S) {v : V} {x : W} {ns : List Int} (rx : Rp Γ H μ v x) (e : intsOf S x = some ns) : ∃ p, v = .ref p ∧ SqA Γ.K H p (ns.map V.int) ∧ ns.length ≤ sizeLine := by
  unfold intsOf at e
  cases e1 : itmsS S x with
  | none => rw [e1] at e; cases e
  | some ws => rw [e1] at e; exact ints_sq k rx e1 e
def fSorted (S : Store) : List W → Option (List W)
  | [w] => (intsOf S w).map fun ns => (srt ns).map .int
  | _ => none
theorem fSorted_ok : OpF K mg (rSrt K) fSorted := by
  intro δ H μ S vs xs us Q k rs e q
  match xs, e with
  | [x], e =>
    obtain ⟨v, rfl, rx⟩ := rs.one rfl
    have e : (intsOf S x).map (fun ns => (srt ns).map W.int) = some us := e
    cases e1 : intsOf S x with
    | none => rw [e1] at e; cases e
    | some ns =>
      rw [e1] at e
      cases e
      obtain ⟨p, rfl, h, l⟩ := intsOf_ok k rx e1
      refine ⟨p, ns, rfl, h, fun ms t pm hw ht => ?_⟩
      rw [srt_uniq pm hw]
      exact q _ _ ht (by rw [List.length_map, (srt_perm ns).length_eq]; exact l) (rps_ints _)
/-! ### isinstance of data -/
inductive Kd where | non | bl | int | str | tup | lst
def Kd.nm : Kd → String
  | .non => "NoneType" | .bl => "bool" | .int => "int" | .str => "str" | .tup => "tuple" | .lst => "list"
def kdW : W → Option Kd
  | .non => some .non | .bl _ => some .bl | .int _ => some .int | .str _ => some .str | .tup _ => some .tup | .cl _ => some .lst | .lst _ => some .lst | _ => none
theorem kd_ty (k : Ok Γ H μ S) {v : V} {w : W} {n : Kd} (r : Rp Γ H μ v w) (e : kdW w = some n) : TyX Γ.K H v (.type n.nm) := by
  cases r with
  | non => cases e; exact .base .non
  | bl b => cases e; exact .base (.bl b)
  | int i => cases e; exact .base (.int i)
  | str x => cases e; exact .base (.str x)
  | tup h l q =>
    cases e
    rcases h with ⟨⟨o, _, h⟩, _⟩ | ⟨o, its, n, h1, _, h2, _⟩
    · exact .fTuple h
    · exact .kTuple h1 h2
  | cl h n m l q => cases e; exact .base (.lst h)
  | lst h hq =>
    cases e
    obtain ⟨xs, ws, _, e2, _⟩ := k.lat h hq
    exact .base (.lst e2)
  | _ => cases e
def dIs (f : Kd → Bool) (d : DE) : DE := fun ρ => bnd (d ρ) fun w => match kdW w with
  | some n => ret (.bl (f n))
  | none => bad
def kInt : Kd → Bool | .int => true | .bl => true | _ => false
def kBool : Kd → Bool | .bl => true | _ => false
def kTup : Kd → Bool | .tup => true | _ => false
def kLst : Kd → Bool | .lst => true | _ => false
def kStr : Kd → Bool | .str => true | _ => false
def kSeq : Kd → Bool | .tup => true | .lst => true | _ => false
/-- isinstance(x, T) -/
theorem de_is {f : Kd → Bool} {d : DE} {n : String} {y : Str} {p2 : Pos} (hk : ∀ k : Kd, kitB k.nm n = some (f k)) (hg : Gl X "isinstance") (hm : X.mg "isinstance" = none) (hg2 : Gl X y) (hm2 : X.mg y = none) (hv2 : bootBuiltins y = some (.type n)) (ha : PD X E a d) (hn : y ≠ "__name__" := by decide) (hd2 : (y == ("__debug__" : Str)) = false := by decide)
    (he : starEach (a :: [.Name y p2]) X.env = (false, eval a X.env) :: starEach [.Name y p2] X.env := by rfl) (hpl : (backTo pos (starEach [.Name y p2] X.env)).any (·.1) = false := by rfl) : PD X E (.Call (.Name "isinstance" p) [a, .Name y p2] [] pos) (dIs f d) :=
  pe_of (pe_callB call_isi hg hm (by decide +kernel) (pa_cons ha (pa_cons (pe_bltn (v := .ty n) hg2 hm2 hv2 rfl hn hd2) pa_nil) he) (by decide) (by decide) he hpl) fun σ H Q ⟨δ, μ, S, ρ, k, s, h⟩ =>
  ⟨δ, μ, S, ρ, k, s, Res.step h fun w S1 H1 μ1 g1 k1 h1 v rv => by
    cases e : kdW w with
    | none => rw [e] at h1; exact h1.elim
    | some n' =>
      rw [e] at h1
      exact ⟨v, .ty n, _, _, f n', rfl, .ty _, kd_ty k1 rv e, kit_ty (hk n'), Res.now k1 h1 _ (.bl _)⟩⟩
theorem is_int (k : Kd) : kitB k.nm "int" = some (kInt k) := by cases k <;> decide +kernel
theorem is_bool (k : Kd) : kitB k.nm "bool" = some (kBool k) := by cases k <;> decide +kernel
theorem is_tup (k : Kd) : kitB k.nm "tuple" = some (kTup k) := by cases k <;> decide +kernel
theorem is_lst (k : Kd) : kitB k.nm "list" = some (kLst k) := by cases k <;> decide +kernel
theorem is_str (k : Kd) : kitB k.nm "str" = some (kStr k) := by cases k <;> decide +kernel
/-- isinstance(x, (list, tuple)) -/
theorem de_isSeq {d : DE} {p2 p3 p4 : Pos} {kk : Nat} (hg : Gl X "isinstance") (hm : X.mg "isinstance" = none) (hg2 : Gl X "list") (hm2 : X.mg "list" = none) (hg3 : Gl X "tuple") (hm3 : X.mg "tuple" = none) (ha : PD X E a d)
    (he : starEach (a :: [.Tuple [.Name "list" p2, .Name "tuple" p3] kk p4]) X.env = (false, eval a X.env) :: starEach [.Tuple [.Name "list" p2, .Name "tuple" p3] kk p4] X.env := by rfl) (hpl : (backTo pos (starEach [.Tuple [.Name "list" p2, .Name "tuple" p3] kk p4] X.env)).any (·.1) = false := by rfl) : PD X E (.Call (.Name "isinstance" p) [a, .Tuple [.Name "list" p2, .Name "tuple" p3] kk p4] [] pos) (dIs kSeq d) :=
  pe_of (pe_callB call_isiT hg hm (by decide +kernel) (pa_cons ha (pa_cons (pe_tup (pa_cons (pe_bltn (v := .ty "list") hg2 hm2 (by decide +kernel) rfl) (pa_cons (pe_bltn (v := .ty "tuple") hg3 hm3 (by decide +kernel) rfl) pa_nil))) pa_nil) he) (by decide) (by decide) he hpl) fun σ H Q ⟨δ, μ, S, ρ, k, s, h⟩ =>
  ⟨δ, μ, S, ρ, k, s, Res.step h fun w S1 H1 μ1 g1 k1 h1 v rv => by
    cases e : kdW w with
    | none => rw [e] at h1; exact h1.elim
    | some n' =>
      rw [e] at h1
      refine ⟨by show 2 ≤ sizeLine; decide, fun tp ntp => ?_⟩
      have g2 := Gr.new (o := .tup [.ty "list", .ty "tuple"]) ntp (k1.ne ntp)
      have k2 := k1.new (o := .tup [.ty "list", .ty "tuple"]) ntp
      refine ⟨v, tp, _, _, _, kSeq n', rfl, upd_same, cls2, kd_ty k2 (rv.gr g2) e, ?_, h1 _ _ g2 k2 _ (.bl _)⟩
      cases n' with
      | lst => exact kA_lst
      | tup => exact kA_tup
      | _ => exact kA_no (by decide +kernel) (by decide +kernel)⟩
/-! ### cuts -/
abbrev DO := En → Mo (Option Int)
def toOf (K : PySem.W.Frag) (mg : Str → Option Value) (E : L2.St → XK) (d : DO) : TO := fun σ H Q => ∃ δ μ S ρ, Ok ⟨K, mg, δ⟩ H μ S ∧ Rσ ⟨K, mg, δ⟩ H μ σ ρ ∧ Res ⟨K, mg, δ⟩ (E σ) H μ (d ρ S) fun o H' _ _ => Q o H'
theorem po_of {o : Option Expr} {t t' : TO} (h : PO X o t) (f : ∀ σ H Q, t' σ H Q → t σ H Q) : PO X o t' := ⟨fun pins s σ H Q I q => h.run pins s σ H Q I (f σ H Q q)⟩
def oNone : DO := fun _ => ret none
def oSome (d : DE) : DO := fun ρ => bnd (d ρ) fun w => match w with
  | .int i => ret (some i)
  | _ => bad
theorem do_none : PO X none (toOf X.K X.mg E oNone) := po_of po_none fun σ H Q ⟨δ, μ, S, ρ, k, s, h⟩ => Res.now k h
theorem do_some {d : DE} (h : PD X E a d) : PO X (some a) (toOf X.K X.mg E (oSome d)) := po_of (po_some h) fun σ H Q ⟨δ, μ, S, ρ, k, s, h⟩ =>
  ⟨δ, μ, S, ρ, k, s, Res.step h fun w S1 H1 μ1 g1 k1 h1 v rv => by
    cases rv <;> first | exact h1.elim | exact ⟨_, rfl, Res.now k1 h1⟩⟩
def cutW (xs : List W) (lo hi : Option Int) : List W := (xs.drop (HT.sIx xs.length 0 lo)).take (HT.sIx xs.length xs.length hi - HT.sIx xs.length 0 lo)
theorem rps_cut {vs : List V} {ws : List W} (r : Rps Γ H μ vs ws) (lo hi : Option Int) : Rps Γ H μ (cutV vs lo hi) (cutW ws lo hi) := by
  unfold cutV cutW
  rw [r.len]
  exact (r.drop _).take _
def fCut (kp : Kp) (w : W) (lo hi : Option Int) : Mo W := fun S => match w with
  | .tup ws => .ok (.tup (cutW ws lo hi)) S
  | w => match lstS S w with
    | some ws => newK kp (cutW ws lo hi) S
    | none => .bad
def dCut (kp : Kp) (d : DE) (l u : DO) : DE := fun ρ => bnd (d ρ) fun w => bnd (l ρ) fun lo => bnd (u ρ) fun hi => fCut kp w lo hi
theorem de_cut (kp : Kp) {d : DE} {l u : DO} {lo hi : Option Expr} {p2 : Pos} (ha : PD X E a d) (hl : PO X lo (toOf X.K X.mg E l)) (hu : PO X hi (toOf X.K X.mg E u)) : PD X E (.Subscript a (.Slice lo hi none p2) pos) (dCut kp d l u) := pe_of (pe_slice (SlR.or sl_tupN sl_list) ha hl hu) fun σ H Q ⟨δ, μ, S, ρ, k, s, h⟩ =>
  ⟨δ, μ, S, ρ, k, s, Res.step h fun w S1 H1 μ1 g1 k1 h1 v rv => ⟨δ, μ1, S1, ρ, k1, rσ_gr g1 s, Res.step h1 fun lo S2 H2 μ2 g2 k2 h2 => ⟨δ, μ2, S2, ρ, k2, rσ_gr (g1.trans g2) s, Res.step h2 fun hi S3 H3 μ3 g3 k3 h3 => by
    have rv3 := rv.gr (g2.trans g3)
    have lists : ∀ {v : V} {w : W}, Rp ⟨X.K, X.mg, δ⟩ H3 μ3 v w → Res ⟨X.K, X.mg, δ⟩ (E σ) H3 μ3 (match lstS S3 w with | some ws => newK kp (cutW ws lo hi) S3 | none => .bad) (fun w H' μ' _ => ∀ v, Rp ⟨X.K, X.mg, δ⟩ H' μ' v w → Q v H') → rSlL X.K v lo hi H3 Q := fun {v w} rv h3 => by
      cases e : lstS S3 w with
      | none => rw [e] at h3; exact h3.elim
      | some ws =>
        rw [e] at h3
        obtain ⟨p, xs, rfl, hx, l, r⟩ := rv.lstS k3 e
        exact ⟨p, xs, rfl, .inl (.inl hx), fun p hp => newK_ok kp k3 h3 hp (Nat.le_trans (cutV_length _ _ _) l) (rps_cut r lo hi)⟩
    cases rv3 with
    | @tup a xs ws ht l r =>
      have h3 : Res ⟨X.K, X.mg, δ⟩ (E σ) H3 μ3 (.ok (.tup (cutW ws lo hi)) S3) (fun w H' μ' _ => ∀ v, Rp ⟨X.K, X.mg, δ⟩ H' μ' v w → Q v H') := h3
      refine .inl ⟨a, xs, rfl, ht.sq, fun hw => ?_, fun hw p o ho hp => ?_⟩
      · have ew : cutW ws lo hi = ws := by
          rw [r.len] at hw
          unfold cutW
          rw [hw.1, hw.2, List.drop_zero, Nat.sub_zero, List.take_length]
        rw [ew] at h3
        exact Res.now k3 h3 _ (.tup ht l r)
      · obtain ⟨g, k4, r4⟩ := new_tup k3 hp ho (Nat.le_trans (cutV_length _ _ _) l) (rps_cut r lo hi)
        exact h3 _ _ g k4 _ r4
    | cl hh n m l r => exact .inr (lists (.cl hh n m l r) h3)
    | lst hh hq => exact .inr (lists (.lst hh hq) h3)
    | _ => exact h3.elim⟩⟩⟩
/-- xs[::-1] -/
def fRev (kp : Kp) (w : W) : Mo W := fun S => match w with
  | .tup ws => .ok (.tup ws.reverse) S
  | w => match lstS S w with
    | some ws => newK kp ws.reverse S
    | none => .bad
def dRev (kp : Kp) (d : DE) : DE := fun ρ => bnd (d ρ) (fRev kp)
theorem de_rev (kp : Kp) {d : DE} {kk : Nat} {p1 p2 p3 : Pos} (ha : PD X E a d) : PD X E (.Subscript a (.Slice none none (some (.UnaryOp .USub (.Constant (.int 1) kk p1) p2)) p3) pos) (dRev kp d) := pe_of (pe_revN ha) fun σ H Q ⟨δ, μ, S, ρ, k, s, h⟩ =>
  ⟨δ, μ, S, ρ, k, s, Res.step h fun w S1 H1 μ1 g1 k1 h1 v rv => by
    have lists : ∀ {v : V} {w : W}, Rp ⟨X.K, X.mg, δ⟩ H1 μ1 v w → Res ⟨X.K, X.mg, δ⟩ (E σ) H1 μ1 (match lstS S1 w with | some ws => newK kp ws.reverse S1 | none => .bad) (fun w H' μ' _ => ∀ v, Rp ⟨X.K, X.mg, δ⟩ H' μ' v w → Q v H') → ∃ a xs, v = .ref a ∧ (SqL X.K H1 a xs ∧ ∀ p, H1 p = none → Q (.ref p) (upd H1 p (.lst xs.reverse))) := fun {v w} rv h3 => by
      cases e : lstS S1 w with
      | none => rw [e] at h3; exact h3.elim
      | some ws =>
        rw [e] at h3
        obtain ⟨p, xs, rfl, hx, l, r⟩ := rv.lstS k1 e
        exact ⟨p, xs, rfl, .inl (.inl hx), fun p hp => newK_ok kp k1 h3 hp (by rw [List.length_reverse]; exact l) r.rev⟩
    cases rv with
    | @tup a xs ws ht l r =>
      have h1 : Res ⟨X.K, X.mg, δ⟩ (E σ) H1 μ1 (.ok (.tup ws.reverse) S1) (fun w H' μ' _ => ∀ v, Rp ⟨X.K, X.mg, δ⟩ H' μ' v w → Q v H') := h1
      refine ⟨a, xs, rfl, .inr ⟨ht.sq, fun p o ho hp => ?_⟩⟩
      obtain ⟨g, k4, r4⟩ := new_tup k1 hp ho (by rw [List.length_reverse]; exact l) r.rev
      exact h1 _ _ g k4 _ r4
    | cl hh n m l r => obtain ⟨a, xs, e, h⟩ := lists (.cl hh n m l r) h1; exact ⟨a, xs, e, .inl h⟩
    | lst hh hq => obtain ⟨a, xs, e, h⟩ := lists (.lst hh hq) h1; exact ⟨a, xs, e, .inl h⟩
    | _ => exact h1.elim⟩
end
end Den

namespace Den
open PySem PySem.Spec PyProof.Rows L2 Bal
/-! ### targets -/
inductive Tg where
  | nm (i : Nat) | tp (ts : List Tg)
mutual
def gT (K : PySem.W.Frag) : Tg → TG
  | .nm i => gName i
  | .tp ts => fun v σ H Q => gTup K ts.length (gTs K ts) v σ H Q ∨ gLst K ts.length (gTs K ts) v σ H Q
def gTs (K : PySem.W.Frag) : List Tg → TGs
  | [] => gNil
  | t :: ts => gCons (gT K t) (gTs K ts)
end
mutual
def setT (S : Store) : Tg → W → En → Option En
  | .nm i, w, ρ => some (ρ.set i (some w))
  | .tp ts, w, ρ => match itmsS S w with
    | some ws => setTs S ts ws ρ
    | none => none
def setTs (S : Store) : List Tg → List W → En → Option En
  | [], [], ρ => some ρ
  | t :: ts, w :: ws, ρ => match setT S t w ρ with
    | some ρ1 => setTs S ts ws ρ1
    | none => none
  | _, _, _ => none
end
mutual
def slt : Tg → List Nat
  | .nm i => [i]
  | .tp ts => slts ts
def slts : List Tg → List Nat
  | [] => []
  | t :: ts => slt t ++ slts ts
end
theorem wipe_set (σ : L2.St) (i : Nat) (x : Option V) : ∀ vs : List Nat, i ∈ vs → wipe (σ.set i x) vs = wipe σ vs
  | [], h => by simp at h
  | v :: vs, h => by
    unfold wipe
    by_cases hv : i ∈ vs
    · rw [wipe_set σ i x vs hv]
    · have e : i = v := by
        rcases List.mem_cons.mp h with h | h
        · exact h
        · exact absurd h hv
      subst e
      clear h
      have h2 : ∀ (us : List Nat) (τ : L2.St), i ∉ us → wipe (τ.set i x) us = (wipe τ us).set i x := by
        intro us
        induction us with
        | nil => intro τ _; rfl
        | cons u us ih =>
          intro τ hu
          unfold wipe
          rw [ih τ (fun z => hu (List.mem_cons_of_mem _ z)), List.set_comm _ _ (fun z => hu (by rw [z]; exact List.mem_cons_self ..))]
      rw [h2 vs σ hv, List.set_set]
theorem wipe_wipe (σ : L2.St) : ∀ vs : List Nat, wipe (wipe σ vs) vs = wipe σ vs := by
  intro vs
  apply List.ext_getElem?
  intro i
  by_cases hi : i ∈ vs
  · have h : ∀ (us : List Nat) (τ : L2.St), i ∈ us → (wipe τ us)[i]? = if i < τ.length then some none else none := by
      intro us
      induction us with
      | nil => intro τ h; simp at h
      | cons u us ih =>
        intro τ h
        unfold wipe
        by_cases hu : u = i
        · subst hu
          by_cases hl : u < τ.length
          · rw [if_pos hl, List.getElem?_set_self (by rw [wipe_length]; exact hl)]
          · rw [if_neg hl, List.getElem?_eq_none (by rw [List.length_set, wipe_length]; omega)]
        · rw [List.getElem?_set_ne hu]
          exact ih τ ((List.mem_cons.mp h).elim (fun z => absurd z.symm hu) id)
    rw [h vs _ hi, h vs _ hi, wipe_length]
  · have h : ∀ (us : List Nat) (τ : L2.St), i ∉ us → (wipe τ us)[i]? = τ[i]? := by
      intro us
      induction us with
      | nil => intro τ _; rfl
      | cons u us ih =>
        intro τ h
        unfold wipe
        rw [List.getElem?_set_ne (fun z => h (by rw [z]; exact List.mem_cons_self ..))]
        exact ih τ fun z => h (List.mem_cons_of_mem _ z)
    rw [h vs _ hi]
section
variable {Γ : Gm} {H : Hp} {μ : List Addr} {S : Store}
theorem setTs_len : ∀ (ts : List Tg) (ws : List W) (ρ ρ' : En), setTs S ts ws ρ = some ρ' → ws.length = ts.length
  | [], [], _, _, _ => rfl
  | [], _ :: _, _, _, e => by unfold setTs at e; cases e
  | _ :: _, [], _, _, e => by unfold setTs at e; cases e
  | t :: ts, w :: ws, ρ, ρ', e => by
    unfold setTs at e
    cases e1 : setT S t w ρ with
    | none => rw [e1] at e; cases e
    | some ρ1 =>
      rw [e1] at e
      exact congrArg (· + 1) (setTs_len ts ws ρ1 ρ' e)
mutual
theorem gT_ok (k : Ok Γ H μ S) : ∀ (t : Tg) {v : V} {w : W} {σ : L2.St} {ρ ρ' : En} {Q : L2.St → Hp → Prop}, Rp Γ H μ v w → Rσ Γ H μ σ ρ → setT S t w ρ = some ρ' →
    (∀ σ', Rσ Γ H μ σ' ρ' → (∀ vs : List Nat, (∀ i ∈ slt t, i ∈ vs) → wipe σ' vs = wipe σ vs) → Q σ' H) → gT Γ.K t v σ H Q
  | .nm i, v, w, σ, ρ, ρ', Q, r, s, e, q => by
    unfold gT
    unfold setT at e
    cases e
    exact q _ (rσ_set s r) fun vs h => wipe_set σ i _ vs (h i (by unfold slt; exact List.mem_singleton.mpr rfl))
  | .tp ts, v, w, σ, ρ, ρ', Q, r, s, e, q => by
    unfold gT
    unfold setT at e
    cases e1 : itmsS S w with
    | none => rw [e1] at e; cases e
    | some ws =>
      rw [e1] at e
      have e : setTs S ts ws ρ = some ρ' := e
      obtain ⟨p, xs, rfl, hq, l, rs⟩ := r.seq k e1
      have h := gTs_ok k ts rs s e (Q := Q) fun σ' h1 h2 => q σ' h1 fun vs h => h2 vs (by unfold slt at h; exact h)
      have hl : xs.length = ts.length := rs.len.trans (setTs_len ts ws ρ ρ' e)
      rcases hq with hq | hq
      · exact .inl ⟨p, xs, rfl, hq, hl, h⟩
      · exact .inr ⟨p, xs, rfl, hq, hl, h⟩
theorem gTs_ok (k : Ok Γ H μ S) : ∀ (ts : List Tg) {vs : List V} {ws : List W} {σ : L2.St} {ρ ρ' : En} {Q : L2.St → Hp → Prop}, Rps Γ H μ vs ws → Rσ Γ H μ σ ρ → setTs S ts ws ρ = some ρ' →
    (∀ σ', Rσ Γ H μ σ' ρ' → (∀ us : List Nat, (∀ i ∈ slts ts, i ∈ us) → wipe σ' us = wipe σ us) → Q σ' H) → gTs Γ.K ts vs σ H Q
  | [], vs, ws, σ, ρ, ρ', Q, rs, s, e, q => by
    cases rs with
    | nil =>
      unfold setTs at e
      cases e
      unfold gTs
      exact ⟨rfl, q σ s fun _ _ => rfl⟩
    | cons a b => unfold setTs at e; cases e
  | t :: ts, vs, ws, σ, ρ, ρ', Q, rs, s, e, q => by
    cases rs with
    | nil => unfold setTs at e; cases e
    | @cons v vs w ws a b =>
      unfold setTs at e
      cases e1 : setT S t w ρ with
      | none => rw [e1] at e; cases e
      | some ρ1 =>
        rw [e1] at e
        have e : setTs S ts ws ρ1 = some ρ' := e
        unfold gTs
        refine ⟨v, vs, rfl, gT_ok k t a s e1 fun σ' h1 h2 => ?_⟩
        exact gTs_ok k ts b h1 e fun σ2 h3 h4 => q σ2 h3 fun us h => by
          rw [h4 us (fun i hi => h i (by unfold slts; exact List.mem_append_right _ hi)), h2 us (fun i hi => h i (by unfold slts; exact List.mem_append_left _ hi))]
end
end
/-! ### the rules of targets -/
section
variable {X : Cx} {pos : Pos}
theorem PG.or {tg : Expr} {t t' : TG} (h : PG X tg t) (h' : PG X tg t') : PG X tg (fun v σ H Q => t v σ H Q ∨ t' v σ H Q) := ⟨fun pins s σ H v u Q I r hw => hw.elim (h.run pins s σ H v u Q I r) (h'.run pins s σ H v u Q I r)⟩
theorem pg_of {tg : Expr} {t t' : TG} (h : PG X tg t) (f : ∀ v σ H Q, t' v σ H Q → t v σ H Q) : PG X tg t' := ⟨fun pins s σ H v u Q I r hw => h.run pins s σ H v u Q I r (f _ _ _ _ hw)⟩
theorem pgs_of {tg : List Expr} {t t' : TGs} (h : PGs X tg t) (f : ∀ v σ H Q, t' v σ H Q → t v σ H Q) : PGs X tg t' := ⟨fun pins s σ H v u Q I r hw => h.run pins s σ H v u Q I r (f _ _ _ _ hw)⟩
theorem dg_nm (i : Nat) {x : Str} (hN : X.N.Nodup) (hi : X.N[i]? = some x := by rfl) (hx : Loc X.env.scope x := by first | exact .inl rfl | exact .inr rfl) (hf : X.fn x = true ∨ X.env.scope.names.lookup x = some .local := by first | exact .inl rfl | exact .inr rfl | assumption) : PG X (.Name x pos) (gT X.K (.nm i)) :=
  pg_of (pg_name hN hi hx hf) fun v σ H Q h => by unfold gT at h; exact h
theorem dgs_nil : PGs X [] (gTs X.K []) := pgs_of pgs_nil fun v σ H Q h => by unfold gTs at h; exact h
theorem dgs_cons {e : Expr} {es : List Expr} {t : Tg} {ts : List Tg} (h1 : PG X e (gT X.K t)) (h2 : PGs X es (gTs X.K ts)) (hs : (assignEach (e :: es) X.env).map (·.2) = assign e X.env :: (assignEach es X.env).map (·.2) := by rfl) : PGs X (e :: es) (gTs X.K (t :: ts)) :=
  pgs_of (pgs_cons h1 h2 hs) fun v σ H Q h => by unfold gTs at h; exact h
theorem dg_tp {es : List Expr} {k : Nat} {ts : List Tg} (hc : X.calm = true) (h : PGs X es (gTs X.K ts)) (hn : (assignEach es X.env).length = ts.length := by rfl) (hst : (assignEach es X.env).findIdx? (·.1) = none := by rfl) : PG X (.Tuple es k pos) (gT X.K (.tp ts)) :=
  pg_of (PG.or (pg_tup hc h hn hst) (pg_lst hc h hn hst)) fun v σ H Q h => by unfold gT at h; exact h
end
/-! ### equal values -/
mutual
def eqW : W → W → Bool
  | .non, .non => true
  | .bl a, .bl b => a == b
  | .int a, .int b => a == b
  | .str a, .str b => a == b
  | .tup a, .tup b => eqWs a b
  | .cl a, .cl b => eqWs a b
  | .sc a, .sc b => eqWs a b
  | .lst a, .lst b => a == b
  | .dct a, .dct b => a == b
  | .dtt a, .dtt b => a == b
  | .ins a, .ins b => a == b
  | .exn a b c, .exn d e f => a == d && (b == e && eqWs c f)
  | .lam a b c x y, .lam d e f z u => (a == d && (b == e && (c == f && x == z))) && eqWs y u
  | _, _ => false
def eqWs : List W → List W → Bool
  | [], [] => true
  | a :: r, b :: t => eqW a b && eqWs r t
  | _, _ => false
end
mutual
theorem eqW_to : ∀ (a b : W), eqW a b = true → a = b
  | .non, b, h => by cases b <;> simp [eqW] at h ⊢
  | .bl x, b, h => by cases b <;> simp [eqW] at h ⊢; exact h
  | .int x, b, h => by cases b <;> simp [eqW] at h ⊢; exact h
  | .str x, b, h => by cases b <;> simp [eqW] at h ⊢; exact h
  | .tup x, b, h => by cases b <;> simp [eqW] at h ⊢; exact eqWs_to _ _ h
  | .cl x, b, h => by cases b <;> simp [eqW] at h ⊢; exact eqWs_to _ _ h
  | .sc x, b, h => by cases b <;> simp [eqW] at h ⊢; exact eqWs_to _ _ h
  | .lst x, b, h => by cases b <;> simp [eqW] at h ⊢; exact h
  | .dct x, b, h => by cases b <;> simp [eqW] at h ⊢; exact h
  | .dtt x, b, h => by cases b <;> simp [eqW] at h ⊢; exact h
  | .ins x, b, h => by cases b <;> simp [eqW] at h ⊢; exact h
  | .exn x y z, b, h => by cases b <;> simp [eqW] at h ⊢; exact ⟨h.1, h.2.1, eqWs_to _ _ h.2.2⟩
  | .lam x y z u v, b, h => by cases b <;> simp [eqW] at h ⊢; exact ⟨h.1.1, h.1.2.1, h.1.2.2.1, h.1.2.2.2, eqWs_to _ _ h.2⟩
theorem eqWs_to : ∀ (a b : List W), eqWs a b = true → a = b
  | [], b, h => by cases b <;> simp [eqWs] at h ⊢
  | x :: r, b, h => by
    cases b with
    | nil => simp [eqWs] at h
    | cons y t =>
      simp [eqWs] at h
      rw [eqW_to _ _ h.1, eqWs_to _ _ h.2]
end
mutual
theorem eqW_rfl : ∀ a : W, eqW a a = true
  | .non => by simp [eqW]
  | .bl x => by simp [eqW]
  | .int x => by simp [eqW]
  | .str x => by simp [eqW]
  | .tup x => by simp [eqW, eqWs_rfl x]
  | .cl x => by simp [eqW, eqWs_rfl x]
  | .sc x => by simp [eqW, eqWs_rfl x]
  | .lst x => by simp [eqW]
  | .dct x => by simp [eqW]
  | .dtt x => by simp [eqW]
  | .ins x => by simp [eqW]
  | .exn x y z => by simp [eqW, eqWs_rfl z]
  | .lam x y z u v => by simp [eqW, eqWs_rfl v]
theorem eqWs_rfl : ∀ a : List W, eqWs a a = true
  | [] => by simp [eqWs]
  | x :: r => by simp [eqWs, eqW_rfl x, eqWs_rfl r]
end
/-- these lists of the store are as they were -/
def kept (S0 S : Store) : List Nat → Bool
  | [] => true
  | n :: ns => (match S0[n]?, S[n]? with
    | some a, some b => eqWs a b
    | _, _ => false) && kept S0 S ns
theorem kept_to {S0 S : Store} : ∀ {ns : List Nat}, kept S0 S ns = true → ∀ n ∈ ns, S[n]? = S0[n]?
  | [], _, n, h => by simp at h
  | m :: ns, e, n, h => by
    unfold kept at e
    obtain ⟨e1, e2⟩ := Bool.and_eq_true_iff.mp e
    rcases List.mem_cons.mp h with h | h
    · subst h
      cases h1 : S0[n]? with
      | none => rw [h1] at e1; cases e1
      | some a =>
        cases h2 : S[n]? with
        | none => rw [h1, h2] at e1; cases e1
        | some b => rw [h1, h2] at e1; rw [eqWs_to _ _ e1]
    · exact kept_to e2 n h
theorem kept_of {S0 S : Store} : ∀ {ns : List Nat}, (∀ n ∈ ns, n < S0.length ∧ S[n]? = S0[n]?) → kept S0 S ns = true
  | [], _ => rfl
  | m :: ns, h => by
    unfold kept
    obtain ⟨h1, h2⟩ := h m (List.mem_cons_self ..)
    rw [h2, List.getElem?_eq_getElem h1, kept_of fun n hn => h n (List.mem_cons_of_mem _ hn)]
    simp only [eqWs_rfl, Bool.and_self]
@[simp] theorem kept_nil {S0 S : Store} : kept S0 S [] = true := rfl
/-! ### what is walked -/
def Srv (Γ : Gm) (J : It) (ws : List W) (keep : List Nat) (H0 : Hp) (μ0 : List Addr) (S0 : Store) : Prop := ws.length ≤ sizeLine ∧ ∀ {Γ' : Gm} H μ S, Γ'.K = Γ.K → Gr H0 μ0 H μ → Ok Γ' H μ S → (∀ n ∈ keep, S[n]? = S0[n]?) → (∀ v w, Rp Γ H0 μ0 v w → Rp Γ' H μ v w) →
  (∀ i, i < ws.length → J.go i H ∧ ∀ x H', J.yld i H x H' → ∃ w, ws[i]? = some w ∧ Same H H' ∧ Rp Γ' H' μ x w) ∧ J.stop ws.length H
abbrev DI := En → Mo (List W × List Nat)
def iOf (K : PySem.W.Frag) (mg : Str → Option Value) (E : L2.St → XK) (d : DI) : TI := fun σ H R => ∃ δ μ S ρ, Ok ⟨K, mg, δ⟩ H μ S ∧ Rσ ⟨K, mg, δ⟩ H μ σ ρ ∧ Res ⟨K, mg, δ⟩ (E σ) H μ (d ρ S) fun x H' μ' S' => ∀ J, Srv ⟨K, mg, δ⟩ J x.1 x.2 H' μ' S' → R J H'
theorem pi_of {X : Cx} {tg it : Expr} {t t' : TI} (h : PI X tg it t) (f : ∀ σ H R, t' σ H R → t σ H R) : PI X tg it t' := ⟨fun pins s σ H R I q => h.run pins s σ H R I (f σ H R q)⟩
def seqI (S : Store) : W → Option (List W × List Nat)
  | .tup ws => some (ws, [])
  | .cl ws => some (ws, [])
  | .lst n => (S[n]?).map fun ws => (ws, [n])
  | _ => none
def rdI (g : Store → Option (List W × List Nat)) : Mo (List W × List Nat) := fun S => match g S with
  | some x => .ok x S
  | none => .bad
/-- a list or a tuple -/
def iSeq (d : DE) : DI := fun ρ => bnd (d ρ) fun w => rdI fun S => seqI S w
section
variable {X : Cx} {E : L2.St → XK} {tg a : Expr}
theorem srv_tup {Γ : Gm} {H0 : Hp} {μ0 : List Addr} {S0 : Store} {p : Addr} {xs : List V} {ws : List W} (h : TupAt Γ H0 μ0 p xs) (l : xs.length ≤ sizeLine) (r : Rps Γ H0 μ0 xs ws) : Srv Γ (Itt Γ.K p) ws [] H0 μ0 S0 := by
  refine ⟨by rw [← r.len]; exact l, fun {Γ'} H μ S hK g k _ up => ?_⟩
  have h1 : SqT Γ.K H p xs := by
    have h0 := up (.ref p) (.tup ws) (.tup h l r)
    have := h.gr g
    exact this.sq
  refine ⟨fun i hi => ⟨⟨xs, xs[i]'(by rw [r.len]; exact hi), h1, List.getElem?_eq_getElem _⟩, fun x H' y => ?_⟩, ⟨xs, h1, by rw [r.len]; exact Nat.le_refl _⟩⟩
  obtain ⟨e, y⟩ := y
  subst e
  obtain ⟨w, e1, r1⟩ := r.get (y xs h1)
  exact ⟨w, e1, Same.refl _, up _ _ r1⟩
theorem srv_cl {Γ : Gm} {H0 : Hp} {μ0 : List Addr} {S0 : Store} {p : Addr} {xs : List V} {ws : List W} (h : H0 p = some (.lst xs)) (n : p ∉ μ0) (l : xs.length ≤ sizeLine) (r : Rps Γ H0 μ0 xs ws) : Srv Γ (Itl Γ.K p) ws [] H0 μ0 S0 := by
  refine ⟨by rw [← r.len]; exact l, fun {Γ'} H μ S hK g k _ up => ?_⟩
  have h1 : SqL Γ.K H p xs := .inl (.inl (g.keep _ _ h n).1)
  refine ⟨fun i hi => ⟨⟨xs, xs[i]'(by rw [r.len]; exact hi), h1, List.getElem?_eq_getElem _⟩, fun x H' y => ?_⟩, ⟨xs, h1, by rw [r.len]; exact Nat.le_refl _⟩⟩
  obtain ⟨e, y⟩ := y
  subst e
  obtain ⟨w, e1, r1⟩ := r.get (y xs h1)
  exact ⟨w, e1, Same.refl _, up _ _ r1⟩
theorem srv_lst {Γ : Gm} {H0 : Hp} {μ0 : List Addr} {S0 : Store} {n : Nat} {p : Addr} {ws : List W} (e0 : μ0[n]? = some p) (hq : Kd_ H0 p 0) (es : S0[n]? = some ws) (hl : ws.length ≤ sizeLine) : Srv Γ (Itl Γ.K p) ws [n] H0 μ0 S0 := by
  refine ⟨hl, fun {Γ'} H μ S hK g k hk up => ?_⟩
  have en := g.get e0
  obtain ⟨xs, us, e1, e2, l, r⟩ := k.lat en (g.kind _ _ (List.mem_of_getElem? e0) hq)
  rw [hk n (List.mem_singleton.mpr rfl), es] at e1
  cases e1
  have h1 : SqL Γ.K H p xs := .inl (.inl e2)
  refine ⟨fun i hi => ⟨⟨xs, xs[i]'(by rw [r.len]; exact hi), h1, List.getElem?_eq_getElem _⟩, fun x H' y => ?_⟩, ⟨xs, h1, by rw [r.len]; exact Nat.le_refl _⟩⟩
  obtain ⟨e, y⟩ := y
  subst e
  obtain ⟨w, e1, r1⟩ := r.get (y xs h1)
  exact ⟨w, e1, Same.refl _, r1⟩
theorem di_seq {d : DE} (h : PD X E a d) : PI X tg a (iOf X.K X.mg E (iSeq d)) := pi_of (pi_ei h) fun σ H R ⟨δ, μ, S, ρ, k, s, h⟩ =>
  ⟨δ, μ, S, ρ, k, s, Res.step h fun w S1 H1 μ1 g1 k1 h1 v rv => by
    unfold rdI at h1
    cases rv with
    | tup hh l r => exact ⟨_, rfl, .inr ⟨⟨_, hh.sq⟩, Res.now k1 h1 _ (srv_tup hh l r)⟩⟩
    | cl hh n m l r => exact ⟨_, rfl, .inl ⟨⟨_, .inl (.inl hh)⟩, Res.now k1 h1 _ (srv_cl hh n l r)⟩⟩
    | @lst a n hh hq =>
      obtain ⟨xs, ws, e1, e2, l, r⟩ := k1.lat hh hq
      have es : seqI S1 (.lst n) = some (ws, [n]) := by
        show (S1[n]?).map _ = _
        rw [e1]
        rfl
      simp only [es] at h1
      exact ⟨_, rfl, .inl ⟨⟨_, .inl (.inl e2)⟩, Res.now k1 h1 _ (srv_lst hh hq e1 (by rw [← r.len]; exact l))⟩⟩
    | _ => exact h1.elim⟩
/-- range(n), range(m, n) -/
def rgW (lo n : Int) : List W := (List.range (n - lo).toNat).map fun i : Nat => .int (lo + i)
def iRg1 (d : DA) : DI := fun ρ => bnd (d ρ) fun ws => rdI fun _ => match ws with
  | [.int n] => if szB n.toNat && decide (-1000000000 ≤ n) then some (rgW 0 n, []) else none
  | _ => none
def iRg2 (d : DA) : DI := fun ρ => bnd (d ρ) fun ws => rdI fun _ => match ws with
  | [.int m, .int n] => if szB (n - m).toNat && decide (-1000000000 ≤ n ∧ n ≤ 1000000000 ∧ -1000000000 ≤ m ∧ m ≤ 1000000000) then some (rgW m n, []) else none
  | _ => none
theorem srv_rg {Γ : Gm} {H0 : Hp} {μ0 : List Addr} {S0 : Store} {lo n : Int} (hz : (n - lo).toNat ≤ sizeLine) : Srv Γ (Itr lo (n - lo).toNat) (rgW lo n) [] H0 μ0 S0 := by
  have hl : (rgW lo n).length = (n - lo).toNat := by unfold rgW; rw [List.length_map, List.length_range]
  refine ⟨by rw [hl]; exact hz, fun {Γ'} H μ S hK g k _ up => ?_⟩
  rw [hl]
  refine ⟨fun i hi => ⟨hi, fun x H' y => ?_⟩, Nat.le_refl _⟩
  obtain ⟨e, rfl⟩ := y
  subst e
  refine ⟨.int (lo + i), ?_, Same.refl _, .int _⟩
  unfold rgW
  rw [List.getElem?_map, List.getElem?_range hi]
  rfl
theorem di_rg1 {d : DA} {p pos : Pos} (hg : Gl X "range") (hm : X.mg "range" = none) (ha : PDA X E [a] d) (hs : starEach [a] X.env = [(false, eval a X.env)] := by rfl) : PI X tg (.Call (.Name "range" p) [a] [] pos) (iOf X.K X.mg E (iRg1 d)) := pi_of (pi_range1 hg hm ha hs) fun σ H R ⟨δ, μ, S, ρ, k, s, h⟩ =>
  ⟨δ, μ, S, ρ, k, s, Res.step h fun ws S1 H1 μ1 g1 k1 h1 vs rs => by
    unfold rdI at h1
    match ws, h1 with
    | [.int n], h1 =>
      obtain ⟨v, rfl, rx⟩ := rs.one rfl
      cases rx
      by_cases hz : (szB n.toNat && decide (-1000000000 ≤ n)) = true
      · simp only [hz, if_true] at h1
        obtain ⟨h2, h3⟩ := Bool.and_eq_true_iff.mp hz
        have h3 := of_decide_eq_true h3
        have h4 := of_decide_eq_true h2
        refine ⟨n, rfl, by omega, by omega, ?_⟩
        have q := Res.now k1 h1 (Itr 0 n.toNat) (by
          have z := srv_rg (Γ := ⟨X.K, X.mg, δ⟩) (H0 := H1) (μ0 := μ1) (S0 := S1) (lo := 0) (n := n) (by rw [Int.sub_zero]; exact sz_ok h2)
          rw [Int.sub_zero] at z
          exact z)
        exact q
      · simp only [hz] at h1
        exact h1.elim⟩
theorem di_rg2 {b : Expr} {d : DA} {p pos : Pos} (hg : Gl X "range") (hm : X.mg "range" = none) (ha : PDA X E [a, b] d) (hs : starEach [a, b] X.env = [(false, eval a X.env), (false, eval b X.env)] := by rfl) (hs2 : starEach [b] X.env = [(false, eval b X.env)] := by rfl) : PI X tg (.Call (.Name "range" p) [a, b] [] pos) (iOf X.K X.mg E (iRg2 d)) := pi_of (pi_range2 hg hm ha hs hs2) fun σ H R ⟨δ, μ, S, ρ, k, s, h⟩ =>
  ⟨δ, μ, S, ρ, k, s, Res.step h fun ws S1 H1 μ1 g1 k1 h1 vs rs => by
    unfold rdI at h1
    match ws, h1 with
    | [.int m, .int n], h1 =>
      obtain ⟨v, u, rfl, rx, ry⟩ := rs.two rfl
      cases rx; cases ry
      by_cases hz : (szB (n - m).toNat && decide (-1000000000 ≤ n ∧ n ≤ 1000000000 ∧ -1000000000 ≤ m ∧ m ≤ 1000000000)) = true
      · simp only [hz, if_true] at h1
        obtain ⟨h2, h3⟩ := Bool.and_eq_true_iff.mp hz
        have h3 := of_decide_eq_true h3
        exact ⟨m, n, rfl, ⟨by omega, by omega, by omega, by omega⟩, Res.now k1 h1 _ (srv_rg (sz_ok h2))⟩
      · simp only [hz] at h1
        exact h1.elim⟩
end
end Den

namespace Den
open PySem PySem.Spec PyProof.Rows L2 Bal
abbrev noE : L2.St → XK := fun _ _ _ _ => False
theorem not_app {a D : Addr} {μ δ : List Addr} (n : a ∉ μ) (m : a ∉ D :: δ) : a ∉ μ ++ [D] := fun z => by
  rcases List.mem_append.mp z with z | z
  · exact n z
  · rw [List.mem_singleton] at z
    exact m (by rw [z]; exact List.mem_cons_self ..)
mutual
theorem rp_put {Γ : Gm} {H : Hp} {μ : List Addr} {D : Addr} : ∀ {v : V} {w : W}, Rp (Γ.und D) H μ v w → Rp Γ H (μ ++ [D]) v w
  | _, _, .non => .non
  | _, _, .bl b => .bl b
  | _, _, .int i => .int i
  | _, _, .str x => .str x
  | _, _, .tup h l r => .tup (h.imp (fun ⟨e, n, m⟩ => ⟨e, not_app n m, fun z => m (List.mem_cons_of_mem _ z)⟩) id) l (rps_put r)
  | _, _, .cl h n m l r => .cl h (not_app n m) (fun z => m (List.mem_cons_of_mem _ z)) l (rps_put r)
  | _, _, .sc h r => .sc (h.imp (fun ⟨e, n, m⟩ => ⟨e, not_app n m, fun z => m (List.mem_cons_of_mem _ z)⟩) id) (rps_put r)
  | _, _, .lst h q => .lst (by rw [List.getElem?_append_left (List.getElem?_eq_some_iff.mp h).1]; exact h) q
  | _, _, .dct h q => .dct (by rw [List.getElem?_append_left (List.getElem?_eq_some_iff.mp h).1]; exact h) q
  | _, _, .dtt h q => .dtt (by rw [List.getElem?_append_left (List.getElem?_eq_some_iff.mp h).1]; exact h) q
  | _, _, .ins h q m => .ins (by rw [List.getElem?_append_left (List.getElem?_eq_some_iff.mp h).1]; exact h) q m
  | _, _, .exn m h n z hd nd zd l r => .exn m h (not_app n z) (fun y => z (List.mem_cons_of_mem _ y)) hd (not_app nd zd) (fun y => zd (List.mem_cons_of_mem _ y)) l (rps_put r)
  | _, _, .exn0 m h n z => .exn0 m h (not_app n z) (fun y => z (List.mem_cons_of_mem _ y))
  | _, _, .lam h n z r => .lam h (not_app n z) (fun y => z (List.mem_cons_of_mem _ y)) (rps_put r)
theorem rps_put {Γ : Gm} {H : Hp} {μ : List Addr} {D : Addr} : ∀ {vs : List V} {ws : List W}, Rps (Γ.und D) H μ vs ws → Rps Γ H (μ ++ [D]) vs ws
  | _, _, .nil => .nil
  | _, _, .cons a b => .cons (rp_put a) (rps_put b)
end
/-! ### comprehensions -/
def lcL (t : Tg) (tt : DT) (de : DE) (ρ : En) (S0 : Store) (keep : List Nat) : List W → Store → Out (List W)
  | [], S => .ok [] S
  | w :: ws, S => match setT S t w ρ with
    | none => .bad
    | some ρ1 => match tt ρ1 S with
      | .ok true S2 => match de ρ1 S2 with
        | .ok u S3 => if kept S0 S3 keep = true then (match lcL t tt de ρ S0 keep ws S3 with
            | .ok us S4 => .ok (u :: us) S4
            | _ => .bad) else .bad
        | _ => .bad
      | .ok false S2 => if kept S0 S2 keep = true then lcL t tt de ρ S0 keep ws S2 else .bad
      | _ => .bad
def dLc (kp : Kp) (vs : List Nat) (di : DI) (t : Tg) (tt : DT) (de : DE) : DE := fun ρ => bnd (di ρ) fun x => fun S1 => match lcL t tt de (wipeW ρ vs) S1 x.2 x.1 S1 with
  | .ok us S2 => newK kp us S2
  | _ => .bad
def dYes : DT := fun _ => ret true
section
variable {X : Cx} {E : L2.St → XK}
abbrev PDTs (X : Cx) (E : L2.St → XK) (es : List Expr) (d : DT) : Prop := PTs X es (ttOf X.K X.mg E d)
theorem dts_nil : PDTs X E [] dYes := ⟨fun pins s σ H Q I ⟨δ, μ, S, ρ, k, s', h⟩ => pts_nil.run pins s σ H Q I (Res.now k h)⟩
theorem dts_one {c : Expr} {d : DT} (h : PDT X E c d) : PDTs X E [c] d := pts_one h
theorem lc_ok {K : PySem.W.Frag} {mg : Str → Option Value} {kp : Kp} {vs : List Nat} {di : DI} {t : Tg} {tt : DT} {de : DE} {σ : L2.St} {H : Hp} {Q : VK} (hv : ∀ i ∈ slt t, i ∈ vs) (h : tOf K mg E (dLc kp vs di t tt de) σ H Q) :
    tLc (iOf K mg E di) (gT K t) (ttOf K mg noE tt) (tOf K mg noE de) vs σ H Q := by
  obtain ⟨δ, μ, S, ρ, k, s, h⟩ := h
  refine ⟨δ, μ, S, ρ, k, s, Res.step h fun x S1 H1 μ1 g1 k1 h1 J srv D nD => ?_⟩
  have s1 := rσ_gr g1 s
  obtain ⟨hlen, srv⟩ := srv
  cases e : lcL t tt de (wipeW ρ vs) S1 x.2 x.1 S1 with
  | bad => simp only [e] at h1; exact h1.elim
  | err _ _ _ _ => simp only [e] at h1; exact h1.elim
  | ok us S2 =>
    simp only [e] at h1
    have ΓD : Gm := (⟨K, mg, δ⟩ : Gm).und D
    -- the invariant: so many are done, their values in D; the rest is still to be gone through
    refine lc_gen (n := x.1.length) (fun i G => ∃ (μ2 : List Addr) (S3 : Store) (ys : List V) (done rest : List W), Ok ((⟨K, mg, δ⟩ : Gm).und D) G μ2 S3 ∧ Gr H1 μ1 G μ2 ∧ (∀ v w, Rp ⟨K, mg, δ⟩ H1 μ1 v w → Rp ((⟨K, mg, δ⟩ : Gm).und D) G μ2 v w) ∧ (∀ n ∈ x.2, S3[n]? = S1[n]?) ∧
        G D = some (.lst ys) ∧ Rps ((⟨K, mg, δ⟩ : Gm).und D) G μ2 ys done ∧ done.length ≤ i ∧ lcL t tt de (wipeW ρ vs) S1 x.2 (x.1.drop i) S3 = .ok rest S2 ∧ us = done ++ rest)
      ⟨μ1, S1, [], [], us, k1.into nD, ⟨⟨[], by simp⟩, fun a o ha hn _ => ⟨by rw [upd_ne (ne_of_none ha nD)]; exact ha, hn⟩, fun a k _ q => kd_new nD q, fun a o u _ e => by rw [upd_ne (ne_of_none e nD)]; exact e⟩, fun v w r => r.into nD, fun _ _ => rfl, upd_same, .nil, Nat.zero_le _, by rw [List.drop_zero]; exact e, rfl⟩
      (fun i G hi ⟨μ2, S3, ys, done, rest, k2, g2, up, hk, hD, rs, dl, e2, eu⟩ => ?_) (fun G ⟨μ2, S3, ys, done, rest, k2, g2, up, hk, hD, rs, dl, e2, eu⟩ => ?_) (fun i G v G2 hi ⟨μ2, S3, ys, done, rest, k2, g2, up, hk, hD, rs, dl, e2, eu⟩ hy => ?_) (fun G ⟨μ2, S3, ys, done, rest, k2, g2, up, hk, hD, rs, dl, e2, eu⟩ => ?_)
    · exact ((srv (Γ' := (⟨K, mg, δ⟩ : Gm).und D) G μ2 S3 rfl g2 k2 hk up).1 i hi).1
    · exact (srv (Γ' := (⟨K, mg, δ⟩ : Gm).und D) G μ2 S3 rfl g2 k2 hk up).2
    · obtain ⟨w, ew, sG, rw⟩ := ((srv (Γ' := (⟨K, mg, δ⟩ : Gm).und D) G μ2 S3 rfl g2 k2 hk up).1 i hi).2 v G2 hy
      have ed : x.1.drop i = w :: x.1.drop (i + 1) := by
        have := List.getElem?_eq_some_iff.mp ew
        rw [← this.2, List.drop_eq_getElem_cons hi]
      rw [ed] at e2
      unfold lcL at e2
      obtain ⟨k3, g3⟩ := k2.same sG
      have hD3 := sG _ _ hD
      cases e3 : setT S3 t w (wipeW ρ vs) with
      | none => simp only [e3] at e2; cases e2
      | some ρ1 =>
        simp only [e3] at e2
        have sw : Rσ ((⟨K, mg, δ⟩ : Gm).und D) G2 μ2 (wipe σ vs) (wipeW ρ vs) := rσ_wipeW ⟨s1.1, fun i w hw => let ⟨v, h1, h2⟩ := s1.2 i w hw; ⟨v, h1, (up v w h2).gr g3⟩⟩
        refine gT_ok (Γ := (⟨K, mg, δ⟩ : Gm).und D) k3 t rw sw e3 fun σ2 s2 hw => ⟨by rw [hw vs hv, wipe_wipe], ?_⟩
        -- what every way from here comes to
        have fin : ∀ (G4 : Hp) (μ4 : List Addr) (S4 : Store) (y : V) (u : W), Gr G2 μ2 G4 μ4 → Ok ((⟨K, mg, δ⟩ : Gm).und D) G4 μ4 S4 → Rp ((⟨K, mg, δ⟩ : Gm).und D) G4 μ4 y u → ∀ rest', lcL t tt de (wipeW ρ vs) S1 x.2 (x.1.drop (i + 1)) S4 = .ok rest' S2 → rest = u :: rest' → kept S1 S4 x.2 = true → ∃ acc, G4 D = some (.lst acc) ∧ acc.length < sizeLine ∧ ∃ (μ2 : List Addr) (S3 : Store) (ys : List V) (done rest : List W), Ok ((⟨K, mg, δ⟩ : Gm).und D) (upd G4 D (.lst (acc ++ [y]))) μ2 S3 ∧ Gr H1 μ1 (upd G4 D (.lst (acc ++ [y]))) μ2 ∧ (∀ v w, Rp ⟨K, mg, δ⟩ H1 μ1 v w → Rp ((⟨K, mg, δ⟩ : Gm).und D) (upd G4 D (.lst (acc ++ [y]))) μ2 v w) ∧ (∀ n ∈ x.2, S3[n]? = S1[n]?) ∧
            (upd G4 D (.lst (acc ++ [y]))) D = some (.lst ys) ∧ Rps ((⟨K, mg, δ⟩ : Gm).und D) (upd G4 D (.lst (acc ++ [y]))) μ2 ys done ∧ done.length ≤ i + 1 ∧ lcL t tt de (wipeW ρ vs) S1 x.2 (x.1.drop (i + 1)) S3 = .ok rest S2 ∧ us = done ++ rest := fun G4 μ4 S4 y u g4 k4 ry rest' e4 er hkp => by
          have mD : D ∈ ((⟨K, mg, δ⟩ : Gm).und D).δ := List.mem_cons_self ..
          have nDμ : D ∉ μ2 := (k2.dl D mD).2
          have hD4 := (g4.keep _ _ hD3 nDμ).1
          have nD4 := (g4.keep _ _ hD3 nDμ).2
          refine ⟨ys, hD4, ?_, μ4, S4, ys ++ [y], done ++ [u], rest', k4.at_D mD, ?_, fun v w r => Rp.at_ mD nD4 (((up v w r).gr g3).gr g4), fun n hn => kept_to hkp n hn, upd_same, ?_, by rw [List.length_append]; simp; omega, e4, by rw [eu, er, List.append_assoc]; rfl⟩
          · rw [rs.len]
            omega
          · have gg := g2.trans (g3.trans g4)
            exact ⟨gg.pre, fun a o ha hn nt => ⟨by rw [upd_ne (ne_of_none ha nD)]; exact (gg.keep a o ha hn nt).1, (gg.keep a o ha hn nt).2⟩, fun a k m ⟨u, eu, qu⟩ => let ⟨u', e', q'⟩ := gg.kind a k m ⟨u, eu, qu⟩; ⟨u', by rw [upd_ne (ne_of_none eu nD)]; exact e', q'⟩, fun a o u m eu => by rw [upd_ne (ne_of_none eu nD)]; exact gg.frz a o u m eu⟩
          · exact Rps.at_ mD nD4 (((rs.gr g3).gr g4).app (.cons ry .nil))
        cases e4 : tt ρ1 S3 with
        | bad => simp only [e4] at e2; cases e2
        | err _ _ _ _ => simp only [e4] at e2; cases e2
        | ok b S4 =>
          simp only [e4] at e2
          refine ⟨D :: δ, μ2, S3, ρ1, k3, s2, ?_⟩
          rw [e4]
          intro G4 μ4 g4 k4
          cases b with
          | true =>
            rw [if_pos rfl]
            cases e5 : de ρ1 S4 with
            | bad => simp only [e5] at e2; cases e2
            | err _ _ _ _ => simp only [e5] at e2; cases e2
            | ok u S5 =>
              simp only [e5] at e2
              refine ⟨D :: δ, μ4, S4, ρ1, k4, rσ_gr g4 s2, ?_⟩
              rw [e5]
              intro G5 μ5 g5 k5 y ry
              by_cases hkp : kept S1 S5 x.2 = true
              · rw [if_pos hkp] at e2
                cases e6 : lcL t tt de (wipeW ρ vs) S1 x.2 (x.1.drop (i + 1)) S5 with
                | bad => simp only [e6] at e2; cases e2
                | err _ _ _ _ => simp only [e6] at e2; cases e2
                | ok us' S6 =>
                  simp only [e6] at e2
                  cases e2
                  exact fin G5 μ5 S5 y u (g4.trans g5) k5 ry us' e6 rfl hkp
              · rw [if_neg hkp] at e2
                cases e2
          | false =>
            rw [if_neg (by decide)]
            by_cases hkp : kept S1 S4 x.2 = true
            · simp only [hkp, if_true] at e2
              have mD : D ∈ ((⟨K, mg, δ⟩ : Gm).und D).δ := List.mem_cons_self ..
              have nDμ : D ∉ μ2 := (k2.dl D mD).2
              exact ⟨μ4, S4, ys, done, rest, k4, g2.trans (g3.trans g4), fun v w r => ((up v w r).gr g3).gr g4, fun n hn => kept_to hkp n hn, (g4.keep _ _ hD3 nDμ).1, (rs.gr g3).gr g4, by omega, e2, eu⟩
            · simp only [hkp, if_false] at e2
              cases e2
    · rw [List.drop_length] at e2
      unfold lcL at e2
      cases e2
      rw [List.append_nil] at eu
      subst eu
      have mD : D ∈ ((⟨K, mg, δ⟩ : Gm).und D).δ := List.mem_cons_self ..
      have nDμ : D ∉ μ2 := (k2.dl D mD).2
      have nDδ : D ∉ δ := fun z => (k1.nδ nD) z
      have hl : ys.length ≤ sizeLine := by rw [rs.len]; omega
      cases kp with
      | cl => exact h1 _ _ g2 k2.out _ (.cl hD nDμ nDδ hl rs.out)
      | st =>
        -- D itself becomes the last list of the store
        have k4 : Ok ⟨K, mg, δ⟩ G (μ2 ++ [D]) (S2 ++ [us]) ∧ Gr H1 μ1 G (μ2 ++ [D]) := by
          have gD : ∀ v w, Rp ((⟨K, mg, δ⟩ : Gm).und D) G μ2 v w → Rp ⟨K, mg, δ⟩ G (μ2 ++ [D]) v w := fun v w r => rp_put r
          refine ⟨⟨by simp [k2.len], ?_, fun a ha => ?_, fun n a ea => ?_, k2.tb⟩, ⟨?_, fun a o ha hn nt => ?_, fun a k m h => g2.kind a k m h, fun a o u m h => g2.frz a o u m h⟩⟩
          · rw [List.nodup_append]
            refine ⟨k2.nd, by simp, fun a ha b hb => ?_⟩
            rw [List.mem_singleton] at hb
            subst hb
            exact fun z => nDμ (z ▸ ha)
          · obtain ⟨h1, h2⟩ := k2.dl a (List.mem_cons_of_mem _ ha)
            refine ⟨h1, fun z => ?_⟩
            rcases List.mem_append.mp z with z | z
            · exact h2 z
            · rw [List.mem_singleton] at z
              exact nDδ (z ▸ ha)
          · by_cases hn : n < μ2.length
            · rw [List.getElem?_append_left hn] at ea
              obtain ⟨ob, zs, qs, vs, e1, e2, en, l2, r2⟩ := k2.at_ n a ea
              exact ⟨ob, zs, qs, vs, by rw [List.getElem?_append_left (by rw [← k2.len]; exact hn)]; exact e1, e2, en, l2, rps_put r2⟩
            · rw [List.getElem?_append_right (by omega)] at ea
              have hn2 : n = μ2.length := by
                have := (List.getElem?_eq_some_iff.mp ea).1
                simp at this
                omega
              subst hn2
              simp at ea
              subst ea
              exact ⟨.lst ys, us, ys, us, by rw [k2.len, List.getElem?_append_right (Nat.le_refl _)]; simp, hD, ⟨rfl, rfl⟩, hl, rps_put rs⟩
          · obtain ⟨r, er⟩ := g2.pre
            exact ⟨r ++ [D], by rw [er, List.append_assoc]⟩
          · refine ⟨(g2.keep a o ha hn nt).1, fun z => ?_⟩
            rcases List.mem_append.mp z with z | z
            · exact (g2.keep a o ha hn nt).2 z
            · rw [List.mem_singleton] at z
              exact ne_of_none ha nD z
        refine h1 _ _ k4.2 k4.1 _ (.lst ?_ ⟨_, hD, rfl⟩)
        rw [← k2.len, List.getElem?_append_right (Nat.le_refl _), Nat.sub_self]
        rfl
variable {elt tg iter : Expr} {ifs : List Expr} {scope : Scope} {own : List (Str × Nat)} {pos : Pos} {di : DI} {t : Tg} {tt : DT} {de : DE}
theorem de_lc (kp : Kp) (hc : X.calm = true) (hN : X.N.Nodup) (hi : PI X tg iter (iOf X.K X.mg E di)) (ok : BlkOk X.N X.env.scope scope own)
    (hg : ∀ (s : Shared) (H : Hp) (C : Addr) (cl : List (Str × Addr)) (fp : List Addr), PG (X.blk s H scope (compEnvC scope cl C X.env) fp) tg (gT X.K t)) (ht : ∀ (s : Shared) (H : Hp) (C : Addr) (cl : List (Str × Addr)) (fp : List Addr), PDTs (X.blk s H scope (compEnvC scope cl C X.env) fp) noE ifs tt)
    (he : ∀ (s : Shared) (H : Hp) (C : Addr) (cl : List (Str × Addr)) (fp : List Addr), PD (X.blk s H scope (compEnvC scope cl C X.env) fp) noE elt de) (hv : ∀ i ∈ slt t, i ∈ own.map (·.2) := by decide) (hs : ∀ x, foldedSetIterable iter X.env x = pure x := by intro _; rfl) :
    PD X E (.ListComp elt [⟨tg, iter, ifs, 0⟩] scope pos) (dLc kp (own.map (·.2)) di t tt de) := pe_of (pe_lc hc hN hi ok hg ht he hs) fun _ _ _ h => lc_ok hv h
end
end Den

namespace Den
open PySem PySem.Spec PyProof.Rows L2 Bal
/-! ### statements -/
inductive Fl where
  | nx (ρ : En) | rt (w : W) | bk (ρ : En) | ct (ρ : En) | er (c f : Str) (ws : List W) (ρ : En)
abbrev DS := En → Mo Fl
def EndS (Γ : Gm) (E : L2.St → XK) (D : Ends) (H : Hp) (μ : List Addr) : Fl → Prop
  | .nx ρ => ∀ σ, Rσ Γ H μ σ ρ → D.nx σ H
  | .rt w => ∀ v, Rp Γ H μ v w → D.rt v H
  | .bk ρ => ∀ σ, Rσ Γ H μ σ ρ → D.bk σ H
  | .ct ρ => ∀ σ, Rσ Γ H μ σ ρ → D.ct σ H
  | .er c f ws ρ => ∀ σ, Rσ Γ H μ σ ρ → ∀ cls d, RpX Γ H μ cls d c f ws → E σ cls d H
def ResS (Γ : Gm) (E : L2.St → XK) (D : Ends) (H : Hp) (μ : List Addr) : Out Fl → Prop
  | .ok fl S' => ∀ H' μ', Gr H μ H' μ' → Ok Γ H' μ' S' → EndS Γ E D H' μ' fl
  | _ => False
def tsOf (K : PySem.W.Frag) (mg : Str → Option Value) (E : L2.St → XK) (d : DS) : TS := fun D σ H => ∃ δ μ S ρ, Ok ⟨K, mg, δ⟩ H μ S ∧ Rσ ⟨K, mg, δ⟩ H μ σ ρ ∧ ResS ⟨K, mg, δ⟩ E D H μ (d ρ S)
abbrev PDS (X : Cx) (E : L2.St → XK) (st : Stmt) (d : DS) : Prop := PS X st (tsOf X.K X.mg E d)
abbrev PDSs (X : Cx) (E : L2.St → XK) (st : List Stmt) (d : DS) : Prop := PSs X st (tsOf X.K X.mg E d)
theorem ps_of {X : Cx} {st : Stmt} {t t' : TS} (h : PS X st t) (f : ∀ D σ H, t' D σ H → t D σ H) : PS X st t' := ⟨fun pins s σ H D I q => h.run pins s σ H D I (f D σ H q)⟩
theorem pss_of {X : Cx} {st : List Stmt} {t t' : TS} (h : PSs X st t) (f : ∀ D σ H, t' D σ H → t D σ H) : PSs X st t' := ⟨fun pins s σ H D I q => h.run pins s σ H D I (f D σ H q)⟩
/-- an expression's value, then a statement's rest -/
def lft {α : Type} (m : Mo α) (ρ : En) (f : α → Mo Fl) : Mo Fl := fun S => match m S with
  | .ok a S' => f a S'
  | .err c g ws S' => .ok (.er c g ws ρ) S'
  | .bad => .bad
section
variable {Γ : Gm} {E : L2.St → XK} {D : Ends} {H H' : Hp} {μ μ' : List Addr} {S : Store}
theorem ResS.gr {o : Out Fl} (g : Gr H μ H' μ') (h : ResS Γ E D H μ o) : ResS Γ E D H' μ' o := by
  cases o with
  | ok a S' => exact fun H2 μ2 g2 k => h H2 μ2 (g.trans g2) k
  | err c f ws S' => exact h
  | bad => exact h
theorem ResS.step {α : Type} {m : Mo α} {f : α → Mo Fl} {σ : L2.St} {ρ : En} {q : α → Hp → List Addr → Store → Prop} (s : Rσ Γ H μ σ ρ) (h : ResS Γ E D H μ (lft m ρ f S))
    (n : ∀ a S' H' μ', Gr H μ H' μ' → Ok Γ H' μ' S' → ResS Γ E D H' μ' (f a S') → q a H' μ' S') : Res Γ (E σ) H μ (m S) q := by
  unfold lft at h
  cases e : m S with
  | ok a S' =>
    rw [e] at h
    exact fun H' μ' g k => n a S' H' μ' g k (ResS.gr g h)
  | err c g ws S' =>
    rw [e] at h
    exact fun H' μ' g k cls d r => h H' μ' g k σ (rσ_gr g s) cls d r
  | bad =>
    rw [e] at h
    exact h
theorem ResS.now {fl : Fl} (k : Ok Γ H μ S) (h : ResS Γ E D H μ (.ok fl S)) : EndS Γ E D H μ fl := h H μ Gr.refl k
end
section
variable {X : Cx} {E : L2.St → XK} {e a b c tg iter : Expr} {pos : Pos} {st : Stmt} {rest body els : List Stmt} {d : DE} {dt : DT} {s1 s2 : DS}
def sNil : DS := fun ρ => ret (.nx ρ)
def sSeq (s t : DS) : DS := fun ρ S => match s ρ S with
  | .ok (.nx ρ') S' => t ρ' S'
  | o => o
theorem dss_nil : PDSs X E [] sNil := pss_of pss_nil fun D σ H ⟨δ, μ, S, ρ, k, s, h⟩ => ResS.now k h σ s
theorem dss_one (h : PDS X E st s1) : PDSs X E [st] s1 := pss_one h
theorem dss_cons (h1 : PDS X E st s1) (h2 : PDSs X E rest s2) : PDSs X E (st :: rest) (sSeq s1 s2) := pss_of (pss_cons h1 h2) fun D σ H ⟨δ, μ, S, ρ, k, s, h⟩ => by
  refine ⟨δ, μ, S, ρ, k, s, ?_⟩
  unfold sSeq at h
  cases e1 : s1 ρ S with
  | bad => rw [e1] at h; exact h
  | err _ _ _ _ => rw [e1] at h; exact h
  | ok fl S1 =>
    rw [e1] at h
    intro H1 μ1 g1 k1
    cases fl with
    | nx ρ1 => exact fun σ1 q => ⟨δ, μ1, S1, ρ1, k1, q, ResS.gr g1 h⟩
    | rt w => exact h H1 μ1 g1 k1
    | bk ρ1 => exact h H1 μ1 g1 k1
    | ct ρ1 => exact h H1 μ1 g1 k1
    | er _ _ _ _ => exact h H1 μ1 g1 k1
def sRet (d : DE) : DS := fun ρ => lft (d ρ) ρ fun w => ret (.rt w)
theorem ds_ret (h : PD X E e d) : PDS X E (.Return (some e) pos) (sRet d) := ps_of (ps_ret h) fun D σ H ⟨δ, μ, S, ρ, k, s, h⟩ =>
  ⟨δ, μ, S, ρ, k, s, ResS.step s h fun w S1 H1 μ1 g1 k1 h1 v rv => ResS.now k1 h1 v rv⟩
def sDrop (d : DE) : DS := fun ρ => lft (d ρ) ρ fun _ => ret (.nx ρ)
theorem ds_expr (h : PD X E e d) (hs : swapsWith e none pos.line X.env = pure false := by rfl) : PDS X E (.Expr e pos) (sDrop d) := ps_of (ps_expr h hs) fun D σ H ⟨δ, μ, S, ρ, k, s, h⟩ =>
  ⟨δ, μ, S, ρ, k, s, ResS.step s h fun w S1 H1 μ1 g1 k1 h1 v rv => ResS.now k1 h1 σ (rσ_gr g1 s)⟩
def sIf (t : DT) (s u : DS) : DS := fun ρ => lft (t ρ) ρ fun b => if b = true then s ρ else u ρ
theorem ds_if (hc : PDT X E c dt) (ha : PDSs X E body s1) (hb : PDSs X E els s2) : PDS X E (.If c body els pos) (sIf dt s1 s2) := ps_of (ps_if hc ha hb) fun D σ H ⟨δ, μ, S, ρ, k, s, h⟩ =>
  ⟨δ, μ, S, ρ, k, s, ResS.step s h fun w S1 H1 μ1 g1 k1 h1 => by
    cases w with
    | true => rw [if_pos rfl] at h1 ⊢; exact ⟨δ, μ1, S1, ρ, k1, rσ_gr g1 s, h1⟩
    | false => rw [if_neg (by decide)] at h1 ⊢; exact ⟨δ, μ1, S1, ρ, k1, rσ_gr g1 s, h1⟩⟩
/-! ### assignments -/
def sAsg (t : Tg) (d : DE) : DS := fun ρ => lft (d ρ) ρ fun w S => match setT S t w ρ with
  | some ρ' => .ok (.nx ρ') S
  | none => .bad
abbrev sSet (i : Nat) (d : DE) : DS := sAsg (.nm i) d
theorem asg_ok {K : PySem.W.Frag} {mg : Str → Option Value} {t : Tg} {D : Ends} {σ : L2.St} {H : Hp} (h : tsOf K mg E (sAsg t d) D σ H) : tOf K mg E d σ H fun x H1 => gT K t x σ H1 D.nx := by
  obtain ⟨δ, μ, S, ρ, k, s, h⟩ := h
  refine ⟨δ, μ, S, ρ, k, s, ResS.step s h fun w S1 H1 μ1 g1 k1 h1 v rv => ?_⟩
  cases e1 : setT S1 t w ρ with
  | none => rw [e1] at h1; exact h1.elim
  | some ρ' =>
    rw [e1] at h1
    exact gT_ok (Γ := ⟨K, mg, δ⟩) k1 t rv (rσ_gr g1 s) e1 fun σ' s' _ => ResS.now k1 h1 σ' s'
theorem ds_set (i : Nat) {x : Str} {p' : Pos} (hN : X.N.Nodup) (h : PD X E e d) (hi : X.N[i]? = some x := by rfl) (hx : Loc X.env.scope x := by first | exact .inl rfl | exact .inr rfl) (hs : swapsWith e (some (.Name x p')) pos.line X.env = pure false := by rfl) (hf : X.fn x = true ∨ X.env.scope.names.lookup x = some .local := by first | exact .inl rfl | exact .inr rfl | assumption) :
    PDS X E (.Assign [.Name x p'] e pos) (sSet i d) := ps_of (ps_set (i := i) hN hi hx h hs hf) fun D σ H h => by
  have h := asg_ok h
  unfold gT at h
  exact h
theorem ds_asg {t : Tg} (h : PD X E e d) (hg : PG X tg (gT X.K t)) (hs : swapsWithSole [tg] e pos.line X.env = pure false := by rfl) (hw : swappedStores [tg] e X.env = pure none := by rfl)
    (h1 : (assignEach [tg] X.env).map (·.2) = [assign tg X.env] := by rfl) : PDS X E (.Assign [tg] e pos) (sAsg t d) := ps_of (ps_asg h hg hs hw h1) fun D σ H h => asg_ok h
/-- a, b = x, y -/
theorem ds_par {i j : Nat} {x y : Str} {da db : DE} {px py pt : Pos} {kt k2 pt2} (hc : X.calm = true) (hN : X.N.Nodup) (ha : PD X E a da) (hb : PD X E b db) (hi : X.N[i]? = some x := by rfl) (hj : X.N[j]? = some y := by rfl) (hij : i ≠ j := by decide)
    (hx : X.env.scope.names.lookup x = some .local := by rfl) (hy : X.env.scope.names.lookup y = some .local := by rfl) (hs1 : starEach [a, b] X.env = (false, eval a X.env) :: starEach [b] X.env := by rfl) (hs2 : starEach [b] X.env = (false, eval b X.env) :: starEach [] X.env := by rfl)
    (hw : swappedStores [.Tuple [.Name x px, .Name y py] kt pt] (.Tuple [a, b] k2 pt2) X.env = pure (some [x, y]) := by rfl)
    (hs : swapsWithSole [.Tuple [.Name x px, .Name y py] kt pt] (.Tuple [a, b] k2 pt2) pos.line X.env = pure false := by rfl) :
    PDS X E (.Assign [.Tuple [.Name x px, .Name y py] kt pt] (.Tuple [a, b] k2 pt2) pos) (sAsg (.tp [.nm i, .nm j]) (dTup (dCons da (dCons db dNil)))) :=
  ps_of (ps_par hc hN hi hj hij hx hy (da_cons ha (da_cons hb da_nil hs2) hs1) hw hs) fun D σ H ⟨δ, μ, S, ρ, k, s, h⟩ => by
    have h2 : ResS ⟨X.K, X.mg, δ⟩ E D H μ (lft (bnd (dCons da (dCons db dNil) ρ) mkT) ρ (fun w S => match setT S (.tp [.nm i, .nm j]) w ρ with | some ρ' => .ok (.nx ρ') S | none => .bad) S) := h
    refine ⟨δ, μ, S, ρ, k, s, Res.step (q := fun w H' μ' S' => ResS ⟨X.K, X.mg, δ⟩ E D H' μ' (match setT S' (.tp [.nm i, .nm j]) w ρ with | some ρ' => .ok (.nx ρ') S' | none => .bad)) (ResS.step s h2 fun w S1 H1 μ1 g1 k1 h1 => h1) fun ws S1 H1 μ1 g1 k1 h1 vs rs => ?_⟩
    unfold mkT at h1
    by_cases hz : szB ws.length = true
    · rw [if_pos hz] at h1
      have h1 := Res.now k1 h1
      match ws, rs, h1 with
      | [w1, w2], rs, h1 =>
        obtain ⟨v, u, rfl, rv, ru⟩ := rs.two rfl
        have e : setT S1 (.tp [.nm i, .nm j]) (.tup [w1, w2]) ρ = some ((ρ.set i (some w1)).set j (some w2)) := by
          simp [setT, setTs, itmsS]
        rw [e] at h1
        exact ⟨v, u, rfl, ResS.now k1 h1 _ (rσ_set (rσ_set (rσ_gr g1 s) rv) ru)⟩
      | [], rs, h1 => simp [setT, setTs, itmsS] at h1; exact h1.elim
      | [w1], rs, h1 => simp [setT, setTs, itmsS] at h1; exact h1.elim
      | w1 :: w2 :: w3 :: r, rs, h1 => simp [setT, setTs, itmsS] at h1; exact h1.elim
    · rw [if_neg hz] at h1
      exact h1.elim
/-- y = [..] on one line -/
theorem ds_setLc (kp : Kp) (i : Nat) {y : Str} {py spos : Pos} {elt : Expr} {ifs : List Expr} {scope : Scope} {own : List (Str × Nat)} {di : DI} {t : Tg} {tt : DT} {de : DE} (hc : X.calm = true) (hN : X.N.Nodup) (hsw : swapsWith (.ListComp elt [⟨tg, iter, ifs, 0⟩] scope pos) (some (.Name y py)) spos.line X.env = pure true) (hi : PI X tg iter (iOf X.K X.mg E di)) (ok : BlkOk X.N X.env.scope scope own)
    (hg : ∀ (s : Shared) (H : Hp) (C : Addr) (cl : List (Str × Addr)) (fp : List Addr), PG (X.blk s H scope (compEnvC scope cl C X.env) fp) tg (gT X.K t)) (ht : ∀ (s : Shared) (H : Hp) (C : Addr) (cl : List (Str × Addr)) (fp : List Addr), PDTs (X.blk s H scope (compEnvC scope cl C X.env) fp) noE ifs tt)
    (he : ∀ (s : Shared) (H : Hp) (C : Addr) (cl : List (Str × Addr)) (fp : List Addr), PD (X.blk s H scope (compEnvC scope cl C X.env) fp) noE elt de) (hy : X.N[i]? = some y := by rfl) (hyl : X.env.scope.names.lookup y = some .local := by rfl) (hv : ∀ i ∈ slt t, i ∈ own.map (·.2) := by decide) (hs : ∀ x, foldedSetIterable iter X.env x = pure x := by intro _; rfl) :
    PDS X E (.Assign [.Name y py] (.ListComp elt [⟨tg, iter, ifs, 0⟩] scope pos) spos) (sSet i (dLc kp (own.map (·.2)) di t tt de)) := ps_of (ps_setLc (i := i) hc hN hy hyl hsw hi ok hg ht he hs) fun D σ H h => by
  have h := asg_ok h
  unfold gT at h
  exact lc_ok hv h
/-! ### loops -/
def forL (t : Tg) (b : DS) (keep : List Nat) (S0 : Store) : List W → En → Store → Out Fl
  | [], ρ, S => .ok (.nx ρ) S
  | w :: ws, ρ, S => match setT S t w ρ with
    | none => .bad
    | some ρ1 => match b ρ1 S with
      | .ok (.nx ρ2) S2 => if kept S0 S2 keep = true then forL t b keep S0 ws ρ2 S2 else .bad
      | .ok (.ct ρ2) S2 => if kept S0 S2 keep = true then forL t b keep S0 ws ρ2 S2 else .bad
      | .ok (.bk ρ2) S2 => .ok (.nx ρ2) S2
      | .ok (.rt w) S2 => .ok (.rt w) S2
      | .ok (.er c f us ρ2) S2 => .ok (.er c f us ρ2) S2
      | _ => .bad
def sFor (di : DI) (t : Tg) (b : DS) : DS := fun ρ => lft (di ρ) ρ fun x S => forL t b x.2 S x.1 ρ S
theorem ds_for {di : DI} {t : Tg} {bd : DS} (hp : PassesOwn (model X.prog X.w) X.A X.env X.xe) (hc : X.calm = true) (hi : PI X tg iter (iOf X.K X.mg E di)) (hg : PG X tg (gT X.K t)) (hb : PDSs X E body bd)
    (hs : ∀ x, foldedSetIterable iter X.env x = pure x := by intro _; rfl) : PDS X E (.For tg iter body [] pos) (sFor di t bd) := ps_of (ps_for hp hc hi hg hb hs) fun D σ H ⟨δ, μ, S, ρ, k, s, h⟩ =>
  ⟨δ, μ, S, ρ, k, s, ResS.step s h fun x S1 H1 μ1 g1 k1 h1 J srv => by
    obtain ⟨hlen, srv⟩ := srv
    refine for_gen (n := x.1.length) (fun i τ G => ∃ (μ2 : List Addr) (S2 : Store) (ρ2 : En), Ok ⟨X.K, X.mg, δ⟩ G μ2 S2 ∧ Gr H1 μ1 G μ2 ∧ Rσ ⟨X.K, X.mg, δ⟩ G μ2 τ ρ2 ∧ (∀ n ∈ x.2, S2[n]? = S1[n]?) ∧ ResS ⟨X.K, X.mg, δ⟩ E D G μ2 (forL t bd x.2 S1 (x.1.drop i) ρ2 S2))
      ⟨μ1, S1, ρ, k1, Gr.refl, rσ_gr g1 s, fun _ _ => rfl, by rw [List.drop_zero]; exact h1⟩ (fun i τ G hi ⟨μ2, S2, ρ2, k2, g2, s2, hk, h2⟩ => ?_) (fun τ G ⟨μ2, S2, ρ2, k2, g2, s2, hk, h2⟩ => ?_) (fun i τ G v G2 hi ⟨μ2, S2, ρ2, k2, g2, s2, hk, h2⟩ hy => ?_) (fun τ G ⟨μ2, S2, ρ2, k2, g2, s2, hk, h2⟩ => ?_)
    · exact ((srv (Γ' := ⟨X.K, X.mg, δ⟩) G μ2 S2 rfl g2 k2 hk (fun v w r => r.gr g2)).1 i hi).1
    · exact (srv (Γ' := ⟨X.K, X.mg, δ⟩) G μ2 S2 rfl g2 k2 hk (fun v w r => r.gr g2)).2
    · obtain ⟨w, ew, sG, rw⟩ := ((srv (Γ' := ⟨X.K, X.mg, δ⟩) G μ2 S2 rfl g2 k2 hk (fun v w r => r.gr g2)).1 i hi).2 v G2 hy
      have ed : x.1.drop i = w :: x.1.drop (i + 1) := by
        have := List.getElem?_eq_some_iff.mp ew
        rw [← this.2, List.drop_eq_getElem_cons hi]
      rw [ed] at h2
      unfold forL at h2
      obtain ⟨k3, g3⟩ := k2.same sG
      cases e3 : setT S2 t w ρ2 with
      | none => simp only [e3] at h2; exact h2.elim
      | some ρ3 =>
        simp only [e3] at h2
        refine gT_ok (Γ := ⟨X.K, X.mg, δ⟩) k3 t rw (rσ_gr g3 s2) e3 fun σ4 s4 _ => ⟨δ, μ2, S2, ρ3, k3, s4, ?_⟩
        cases e4 : bd ρ3 S2 with
        | bad => simp only [e4] at h2; exact h2.elim
        | err _ _ _ _ => simp only [e4] at h2; exact h2.elim
        | ok fl S4 =>
          simp only [e4] at h2
          intro G5 μ5 g5 k5
          have h2 := ResS.gr (g3.trans g5) h2
          have again : ∀ (ρ6 : En), ResS ⟨X.K, X.mg, δ⟩ E D G5 μ5 (if kept S1 S4 x.2 = true then forL t bd x.2 S1 (x.1.drop (i + 1)) ρ6 S4 else .bad) → ∀ σ6, Rσ ⟨X.K, X.mg, δ⟩ G5 μ5 σ6 ρ6 → ∃ (μ2 : List Addr) (S2 : Store) (ρ2 : En), Ok ⟨X.K, X.mg, δ⟩ G5 μ2 S2 ∧ Gr H1 μ1 G5 μ2 ∧ Rσ ⟨X.K, X.mg, δ⟩ G5 μ2 σ6 ρ2 ∧ (∀ n ∈ x.2, S2[n]? = S1[n]?) ∧ ResS ⟨X.K, X.mg, δ⟩ E D G5 μ2 (forL t bd x.2 S1 (x.1.drop (i + 1)) ρ2 S2) := fun ρ6 h6 σ6 s6 => by
            by_cases hkp : kept S1 S4 x.2 = true
            · rw [if_pos hkp] at h6
              exact ⟨μ5, S4, ρ6, k5, g2.trans (g3.trans g5), s6, fun n hn => kept_to hkp n hn, h6⟩
            · rw [if_neg hkp] at h6
              exact h6.elim
          cases fl with
          | nx ρ6 => exact again ρ6 h2
          | ct ρ6 => exact again ρ6 h2
          | bk ρ6 => exact fun σ6 s6 => ResS.now k5 h2 σ6 s6
          | rt w => exact fun v r => ResS.now k5 h2 v r
          | er c f us ρ6 => exact fun σ6 s6 => ResS.now k5 h2 σ6 s6
    · rw [List.drop_length] at h2
      unfold forL at h2
      exact ResS.now k2 h2 τ s2⟩
end
end Den

namespace Den
open PySem PySem.Spec PyProof.Rows L2 Bal
/-! ### methods of lists -/
def MtW (K : PySem.W.Frag) (mg : Str → Option Value) (r : V → List V → Hp → VK → Prop) (f : Store → W → List W → Option (W × Store)) : Prop := ∀ {δ : List Addr} {H : Hp} {μ : List Addr} {S S' : Store} {v : V} {vs : List V} {x w : W} {ws : List W} {Q : VK}, Ok ⟨K, mg, δ⟩ H μ S → Rp ⟨K, mg, δ⟩ H μ v x → Rps ⟨K, mg, δ⟩ H μ vs ws → f S x ws = some (w, S') →
  (∀ z H', Gr H μ H' μ → Ok ⟨K, mg, δ⟩ H' μ S' → Rp ⟨K, mg, δ⟩ H' μ z w → Q z H') → r v vs H Q
def lsB : W → Bool
  | .cl _ => true
  | .lst _ => true
  | _ => false
def wrS (g : Store → Option (W × Store)) : Mo W := fun S => match g S with
  | some (w, S') => .ok w S'
  | none => .bad
def dMth (f : Store → W → List W → Option (W × Store)) (d : DE) (da : DA) : DE := fun ρ => bnd (d ρ) fun x => if lsB x = true then bnd (da ρ) fun ws => wrS fun S => f S x ws else bad
section
variable {X : Cx} {E : L2.St → XK} {o e a b : Expr} {es : List Expr} {name : Str} {apos cpos pos p : Pos} {idn : String} {K : PySem.W.Frag} {mg : Str → Option Value} {Γ : Gm} {H : Hp} {μ : List Addr} {S : Store}
theorem ls_ty (k : Ok Γ H μ S) {v : V} {x : W} (r : Rp Γ H μ v x) (h : lsB x = true) : tyV Γ.K "list" v H := by
  cases r with
  | cl hh n m l q => exact .inl ⟨rfl, _, .inl (.inl hh)⟩
  | lst hh hq =>
    obtain ⟨xs, ws, _, e2, _⟩ := k.lat hh hq
    exact .inl ⟨rfl, _, .inl (.inl e2)⟩
  | _ => cases h
theorem mth_ok {r : V → List V → Hp → VK → Prop} {f : Store → W → List W → Option (W × Store)} {d : DE} {da : DA} (hf : MtW K mg r f) {σ : L2.St} {Q : VK} (h : tOf K mg E (dMth f d da) σ H Q) : tBM K "list" r (tOf K mg E d) (taOf K mg E da) σ H Q := by
  obtain ⟨δ, μ, S, ρ, k, s, h⟩ := h
  refine ⟨δ, μ, S, ρ, k, s, Res.step h fun x S1 H1 μ1 g1 k1 h1 v rv => ?_⟩
  by_cases hb : lsB x = true
  · rw [if_pos hb] at h1
    refine ⟨ls_ty k1 rv hb, δ, μ1, S1, ρ, k1, rσ_gr g1 s, Res.step h1 fun ws S2 H2 μ2 g2 k2 h2 vs rs => ?_⟩
    unfold wrS at h2
    cases e1 : f S2 x ws with
    | none => simp only [e1] at h2; exact h2.elim
    | some y =>
      simp only [e1] at h2
      exact hf k2 (rv.gr g2) rs e1 fun z H' g k r => h2 H' μ2 g k z r
  · rw [if_neg hb] at h1
    exact h1.elim
theorem de_mth {r : V → List V → Hp → VK → Prop} {f : Store → W → List W → Option (W × Store)} {d : DE} {da : DA} (slot : Slot "list" name idn) (hty : typeOf (.builtin idn) = pure (.type "method_descriptor")) (hm : MtR X idn r) (hf : MtW X.K X.mg r f) (ho : PD X E o d) (ha : PDA X E (e :: es) da)
    (hbase : attributeBase o name X.env (eval o X.env) = eval o X.env := by rfl) (hfew : ((backTo cpos (starEach (e :: es) X.env)).all (fun x => !x.1) && (backToKw cpos (keywordEach [] X.env)).all (fun x => x.1.isSome) && decide ((e :: es).length + ([] : List Keyword).length + (if ([] : List Keyword).isEmpty then 0 else 1) < 30)) = true := by rfl) (hline : (apos.endLine == cpos.line) = true := by rfl) (hs : starEach (e :: es) X.env = (false, eval e X.env) :: starEach es X.env := by rfl) (hplain : (backTo cpos (starEach es X.env)).any (·.1) = false := by rfl) :
    PD X E (.Call (.Attribute o name apos) (e :: es) [] cpos) (dMth f d da) := pe_of (pe_bm PySem.F.plainAttrs_list slot hty hm ho ha hbase hfew hline hs hplain) fun _ _ _ h => mth_ok hf h
/-- the n-th list of the store changed -/
def chS (S : Store) (n : Nat) (g : List W → Option (W × List W)) : Option (W × Store) := match S[n]? with
  | some ws => match g ws with
    | some (w, us) => if szB us.length = true then some (w, S.set n us) else none
    | none => none
  | none => none
theorem chS_some {n : Nat} {g : List W → Option (W × List W)} {w : W} {S' : Store} (e : chS S n g = some (w, S')) : ∃ ws us, S[n]? = some ws ∧ g ws = some (w, us) ∧ us.length ≤ sizeLine ∧ S' = S.set n us := by
  unfold chS at e
  cases e1 : S[n]? with
  | none => rw [e1] at e; cases e
  | some ws =>
    rw [e1] at e
    cases e2 : g ws with
    | none => simp only [e2] at e; cases e
    | some y =>
      obtain ⟨w', us⟩ := y
      simp only [e2] at e
      by_cases hz : szB us.length = true
      · rw [if_pos hz] at e
        cases e
        exact ⟨ws, us, rfl, e2, sz_ok hz, rfl⟩
      · rw [if_neg hz] at e
        cases e
def fAppend (S : Store) : W → List W → Option (W × Store)
  | .lst n, [y] => chS S n fun ws => if szB (ws.length + 1) = true then some (.non, ws ++ [y]) else none
  | _, _ => none
theorem fAppend_ok : MtW K mg rAppend fAppend := by
  intro δ H μ S S' v vs x w ws Q k rx rs e q
  cases rx with
  | @lst a n hh hq =>
    match ws, rs, e with
    | [y], rs, e =>
      obtain ⟨u, rfl, ry⟩ := rs.one rfl
      obtain ⟨zs, us, e1, e2, l, rfl⟩ := chS_some (show chS S n _ = _ from e)
      obtain ⟨xs, zs', e3, e4, l4, r4⟩ := k.lat hh hq
      rw [e1] at e3
      cases e3
      by_cases hz : szB (zs.length + 1) = true
      · rw [if_pos hz] at e2
        cases e2
        have hl : xs.length + 1 ≤ sizeLine := by rw [r4.len]; exact sz_ok hz
        obtain ⟨k2, g2⟩ := k.set hh hq (xs := xs ++ [u]) (by rw [List.length_append]; exact hl) (r4.app (.cons ry .nil))
        exact ⟨a, xs, u, rfl, rfl, e4, by omega, q _ _ g2 k2 .non⟩
      · rw [if_neg hz] at e2
        cases e2
  | _ => cases e
def fExtend (S : Store) : W → List W → Option (W × Store)
  | .lst n, [y] => match lstS S y with
    | some ys => chS S n fun ws => if szB (ws.length + ys.length) = true then some (.non, ws ++ ys) else none
    | none => none
  | _, _ => none
theorem fExtend_ok : MtW K mg rExtend fExtend := by
  intro δ H μ S S' v vs x w ws Q k rx rs e q
  cases rx with
  | @lst a n hh hq =>
    match ws, rs, e with
    | [y], rs, e =>
      obtain ⟨u, rfl, ry⟩ := rs.one rfl
      have e : (match lstS S y with | some ys => chS S n fun ws => if szB (ws.length + ys.length) = true then some (W.non, ws ++ ys) else none | none => none) = some (w, S') := e
      cases e0 : lstS S y with
      | none => rw [e0] at e; cases e
      | some ys =>
        rw [e0] at e
        obtain ⟨zs, us, e1, e2, l, rfl⟩ := chS_some (show chS S n _ = _ from e)
        obtain ⟨p, ps, rfl, h5, l5, r5⟩ := ry.lstS k e0
        obtain ⟨xs, zs', e3, e4, l4, r4⟩ := k.lat hh hq
        rw [e1] at e3
        cases e3
        by_cases hz : szB (zs.length + ys.length) = true
        · rw [if_pos hz] at e2
          cases e2
          have hl : xs.length + ps.length ≤ sizeLine := by rw [r4.len, r5.len]; exact sz_ok hz
          obtain ⟨k2, g2⟩ := k.set hh hq (xs := xs ++ ps) (by rw [List.length_append]; exact hl) (r4.app r5)
          exact ⟨a, p, xs, ps, rfl, rfl, e4, h5, hl, q _ _ g2 k2 .non⟩
        · rw [if_neg hz] at e2
          cases e2
  | _ => cases e
end
end Den

namespace Den
open PySem PySem.Spec PyProof.Rows L2 Bal
/-! ### defs -/
def spD (K : PySem.W.Frag) (mg : Str → Option Value) (n : Nat) (g : List W → Mo W) : Sp := fun vs H Q E => vs.length = n ∧ ∃ δ μ S ws, Ok ⟨K, mg, δ⟩ H μ S ∧ Rps ⟨K, mg, δ⟩ H μ vs ws ∧ Res ⟨K, mg, δ⟩ E H μ (g ws S) fun w H' μ' _ => ∀ v, Rp ⟨K, mg, δ⟩ H' μ' v w → Q v H'
def fnW (N : Nat) (d : DS) : List W → Mo W := fun ws S => match d (ws.map some ++ List.replicate (N - ws.length) none) S with
  | .ok (.rt w) S' => .ok w S'
  | .ok (.nx _) S' => .ok .non S'
  | .ok (.er c f us _) S' => .err c f us S'
  | _ => .bad
theorem rσ_start {Γ : Gm} {H : Hp} {μ : List Addr} {vs : List V} {ws : List W} (r : Rps Γ H μ vs ws) (N : List Str) : Rσ Γ H μ (L2.start N vs) (ws.map some ++ List.replicate (N.length - ws.length) none) := by
  unfold L2.start
  refine ⟨by simp [r.len], fun i w e => ?_⟩
  by_cases hi : i < ws.length
  · rw [List.getElem?_append_left (by simpa using hi), List.getElem?_map] at e
    cases e1 : ws[i]? with
    | none => rw [e1] at e; cases e
    | some w' =>
      rw [e1] at e
      cases e
      obtain ⟨v, e2, r2⟩ := r.getW e1
      exact ⟨v, by rw [List.getElem?_append_left (by simp [r.len]; exact hi), List.getElem?_map, e2]; rfl, r2⟩
  · rw [List.getElem?_append_right (by simpa using hi)] at e
    have := List.mem_of_getElem? e
    rw [List.mem_replicate] at this
    cases this.2
/-- from a def's body to what it tells -/
theorem fn_den {P : Program} {w : World} {K : PySem.W.Frag} {mg : Str → Option Value} {base : Heap} {x qual : Str} {st : Stmt} {f : Addr} {fd : FuncData} {N ps : List Str} {k : Nat} {d : DS} (F : Fun K x qual st f fd) (S : FnScope N ps (defScope st))
    (hbody : ∀ (cdv : Value) (A : Around) (outer : List Env) (s : Shared) (H : Hp) (E : XK), Room k (A.deeper (envOfC qual (defScope st) s.heap.objs.size f cdv)) → PDSs (cxOf (L2.CX P w) P w K mg base N qual (defScope st) f cdv A outer s H E) (fun _ => E) (defBody st) d) :
    FnOk P w K mg base (L2.CX P w) (k + 1) f fd ps (spD K mg ps.length (fnW N.length d)) := by
  refine F.okX S (fun vs H Q E h => h.1) (fun cdv A outer s H vs Q E hr h => ?_)
  obtain ⟨_, δ, μ, T, ws, ok, rs, h⟩ := h
  refine ⟨_, hbody cdv A outer s H E hr, δ, μ, T, _, ok, rσ_start rs N, ?_⟩
  unfold fnW at h
  cases e : d (ws.map some ++ List.replicate (N.length - ws.length) none) T with
  | bad => rw [e] at h; exact h
  | err _ _ _ _ => rw [e] at h; exact h.elim
  | ok fl S' =>
    rw [e] at h
    intro H1 μ1 g1 k1
    cases fl with
    | nx ρ => exact fun σ s => h H1 μ1 g1 k1 _ .non
    | rt w => exact fun v r => h H1 μ1 g1 k1 v r
    | bk ρ => exact h.elim
    | ct ρ => exact h.elim
    | er c f us ρ => exact fun σ s cls d r => h H1 μ1 g1 k1 cls d r
section
variable {X : Cx} {E : L2.St → XK} {e a b o : Expr} {es : List Expr} {pos p p1 : Pos} {x : Str} {k n : Nat} {f : Addr} {fd : FuncData} {ps : List Str} {g : List W → Mo W}
abbrev PX (X : Cx) (E : L2.St → XK) : Prop := ∀ σ, PassesAt (L2.CX X.prog X.w) X σ (E σ)
theorem px0 : PX X noE := fun σ pins H s e s' I h => by
  obtain ⟨_, _, _, _, _, _, _, _, _, _, _, _, z⟩ := h
  exact z.elim
def dCall (n : Nat) (g : List W → Mo W) (d : DA) : DE := fun ρ => bnd (d ρ) fun ws => if ws.length = n then g ws else bad
theorem de_call {d : DA} (F : FnOk X.prog X.w X.K X.mg X.base (L2.CX X.prog X.w) k f fd ps (spD X.K X.mg n g)) (hr : Room k X.A) (hg : Gl X x) (hm : X.mg x = some (.ref f)) (hk : PySem.W.keepIn X.K (.ref f) = true) (hb : Binds X.K fd ps []) (hx : PX X E) (ha : PDA X E (e :: es) d) (hdb : (x == ("__debug__" : Str)) = false := by decide)
    (he : starEach (e :: es) X.env = (false, eval e X.env) :: starEach es X.env := by rfl) (hpl : (backTo pos (starEach es X.env)).any (·.1) = false := by rfl) : PD X E (.Call (.Name x p) (e :: es) [] pos) (dCall n g d) := pe_of (pe_callS F hr hg hm hk hb hx ha hdb he hpl) fun σ H Q ⟨δ, μ, S, ρ, k, s, h⟩ =>
  ⟨δ, μ, S, ρ, k, s, Res.step h fun ws S1 H1 μ1 g1 k1 h1 vs rs => by
    by_cases hn : ws.length = n
    · rw [if_pos hn] at h1
      exact ⟨rs.len.trans hn, δ, μ1, S1, ws, k1, rs, h1⟩
    · rw [if_neg hn] at h1
      exact h1.elim⟩
/-! ### .. by names -/
def gp {α : Type} (π : List Nat) (l : List α) : List α := π.filterMap fun i => l[i]?
theorem gp_vals {zs : List V} {ws : List Value} (r : Vals zs ws) : ∀ π : List Nat, Vals (gp π zs) (gp π ws)
  | [] => .nil
  | i :: π => by
    have ih := gp_vals r π
    unfold gp at ih ⊢
    cases e : zs[i]? with
    | none => rw [List.filterMap_cons_none e, List.filterMap_cons_none (r.none_of e)]; exact ih
    | some v =>
      obtain ⟨u, e2, r2⟩ := r.get e
      rw [List.filterMap_cons_some e, List.filterMap_cons_some e2]
      exact .cons r2 ih
theorem gp_rps {Γ : Gm} {H : Hp} {μ : List Addr} {zs : List V} {ws : List W} (r : Rps Γ H μ zs ws) : ∀ π : List Nat, Rps Γ H μ (gp π zs) (gp π ws)
  | [] => .nil
  | i :: π => by
    have ih := gp_rps r π
    unfold gp at ih ⊢
    cases e : zs[i]? with
    | none =>
      have e2 : ws[i]? = none := by rw [List.getElem?_eq_none_iff] at e ⊢; rw [← r.len]; exact e
      rw [List.filterMap_cons_none e, List.filterMap_cons_none e2]
      exact ih
    | some v =>
      obtain ⟨u, e2, r2⟩ := r.get e
      rw [List.filterMap_cons_some e, List.filterMap_cons_some e2]
      exact .cons r2 ih
theorem kb_gp {K : PySem.W.Frag} {x qual : Str} {st : Stmt} {f : Addr} {fd : FuncData} {ps ks : List Str} (π : List Nat) (F : Fun K x qual st f fd)
    (h : ∀ (kV doc pm : Value) (an : Option Addr) (cdv ct : Value) (us : List Value), us.length = ks.length → bindArgs (PySem.W.fnOf x qual (defArgs st) (defBody st) (defScope st) .none kV doc pm an cdv ct) ⟨[], ks.zip us⟩ = pure (ps.zip (gp π us))) : KB0 K fd ps ks (gp π) (gp π) := by
  obtain ⟨oc, od, kV, doc, pm, an, cdv, ct, osl, rfl, lk, hcd⟩ := F.ex
  exact ⟨fun s ws _ hl => .of_eq (h kV doc pm an cdv ct ws hl), fun _ r => gp_vals r π⟩
abbrev PDK (X : Cx) (E : L2.St → XK) (kws : List Keyword) (d : DA) : Prop := PK X kws (taOf X.K X.mg E d)
theorem pk_of {kws : List Keyword} {t t' : TA} (h : PK X kws t) (f : ∀ σ H Q, t' σ H Q → t σ H Q) : PK X kws t' := ⟨fun pos pins s σ H Q I q => h.run pos pins s σ H Q I (f σ H Q q)⟩
theorem dk_nil : PDK X E [] dNil := pk_of pk_nil fun σ H Q ⟨δ, μ, S, ρ, k, s, h⟩ => Res.now k h [] .nil
theorem dk_cons {kws : List Keyword} {d : DE} {r : DA} {nm : Option Str} {kpos : Pos} (ha : PD X E a d) (hr : PDK X E kws r) : PDK X E (⟨nm, a, kpos⟩ :: kws) (dCons d r) := pk_of (pk_cons ha hr) fun σ H Q ⟨δ, μ, S, ρ, k, s, h⟩ =>
  ⟨δ, μ, S, ρ, k, s, Res.step h fun x S1 H1 μ1 g1 k1 h1 v rv => ⟨δ, μ1, S1, ρ, k1, rσ_gr g1 s, Res.step h1 fun ws S2 H2 μ2 g2 k2 h2 vs rs => Res.now k2 h2 _ (.cons (rv.gr g2) rs)⟩⟩
def tCallKS (n : Nat) (sp : Sp) (gV : List V → List V) (E : L2.St → XK) (tk : TA) : TE := fun σ H Q => tk σ H fun zs H1 => zs.length = n ∧ sp (gV zs) H1 Q (E σ)
theorem pe_callKS {CX : CXT} {ks : List Str} {sp : Sp} {gl : List Value → List Value} {gV : List V → List V} {kws : List Keyword} {tk : TA} (F : FnOk X.prog X.w X.K X.mg X.base CX k f fd ps sp) (hr : Room k X.A) (hg : Gl X x) (hm : X.mg x = some (.ref f)) (hk : PySem.W.keepIn X.K (.ref f) = true) (hb : KB0 X.K fd ps ks gl gV) (hx : ∀ σ, PassesAt CX X σ (E σ)) (hkw : PK X kws tk)
    (hall : (backToKw pos (keywordEach kws X.env)).all (·.1.isSome) = true) (hks : (backToKw pos (keywordEach kws X.env)).filterMap (·.1) = ks) (hdb : (x == ("__debug__" : Str)) = false) (hpl : ((backTo pos (starEach [] X.env)).any (·.1) || (backToKw pos (keywordEach kws X.env)).any (·.1.isNone)) = false) : PE X (.Call (.Name x p) [] kws pos) (tCallKS ks.length sp gV E tk) := by
  refine ⟨fun pins s σ H Q I h => wpAny_Call_Name_kw (ld_glob I hg hm ?_ hdb)⟩
  refine PySem.W.callWith_KW0 (h₀ := X.base) I.ok.mod.kin hk hall (thn (hkw.run pos pins s σ H _ I h) fun ws s2 ⟨zs, H2, I2, rz, hz, q2⟩ => ⟨I2.kIn, ?_⟩) hpl
  rw [hks]
  refine wpAny_call (codeAny_mono (F.run X.A X.stack s2 H2 ⟨[], ks.zip ws⟩ (gl ws) (gV zs) Q (E σ) hr I2.env0 (hb.to s2 ws I2.kIn (by rw [← rz.length]; exact hz)) (hb.rel hz rz) q2) fun r s' hq => ?_)
  match r, hq with
  | .error e, hq => exact hx σ pins H2 s2 e s' I2 hq
  | .ok (.ret u), hq => exact I2.after hq
  | .ok .next, hq => exact False.elim hq
  | .ok .brk, hq => exact False.elim hq
  | .ok .cont, hq => exact False.elim hq
def dCallK (m n : Nat) (π : List Nat) (g : List W → Mo W) (d : DA) : DE := fun ρ => bnd (d ρ) fun ws => if ws.length = m ∧ (gp π ws).length = n then g (gp π ws) else bad
theorem de_callK {ks : List Str} {π : List Nat} {kws : List Keyword} {d : DA} (F : FnOk X.prog X.w X.K X.mg X.base (L2.CX X.prog X.w) k f fd ps (spD X.K X.mg n g)) (hr : Room k X.A) (hg : Gl X x) (hm : X.mg x = some (.ref f)) (hk : PySem.W.keepIn X.K (.ref f) = true) (hb : KB0 X.K fd ps ks (gp π) (gp π)) (hx : PX X E) (ha : PDK X E kws d)
    (hall : (backToKw pos (keywordEach kws X.env)).all (·.1.isSome) = true := by rfl) (hks : (backToKw pos (keywordEach kws X.env)).filterMap (·.1) = ks := by rfl) (hdb : (x == ("__debug__" : Str)) = false := by decide) (hpl : ((backTo pos (starEach [] X.env)).any (·.1) || (backToKw pos (keywordEach kws X.env)).any (·.1.isNone)) = false := by rfl) :
    PD X E (.Call (.Name x p) [] kws pos) (dCallK ks.length n π g d) := pe_of (pe_callKS F hr hg hm hk hb hx ha hall hks hdb hpl) fun σ H Q ⟨δ, μ, S, ρ, k, s, h⟩ =>
  ⟨δ, μ, S, ρ, k, s, Res.step h fun ws S1 H1 μ1 g1 k1 h1 vs rs => by
    by_cases hn : ws.length = ks.length ∧ (gp π ws).length = n
    · rw [if_pos hn] at h1
      have r2 := gp_rps rs π
      exact ⟨rs.len.trans hn.1, r2.len.trans hn.2, δ, μ1, S1, _, k1, r2, h1⟩
    · rw [if_neg hn] at h1
      exact h1.elim⟩
/-! ### targets that are places of lists -/
abbrev DG := W → En → Mo En
def tgOf (K : PySem.W.Frag) (mg : Str → Option Value) (g : DG) : TG := fun v σ H Q => ∃ δ μ S ρ w, Ok ⟨K, mg, δ⟩ H μ S ∧ Rσ ⟨K, mg, δ⟩ H μ σ ρ ∧ Rp ⟨K, mg, δ⟩ H μ v w ∧ Res ⟨K, mg, δ⟩ (fun _ _ _ => False) H μ (g w ρ S) fun ρ' H' μ' _ => ∀ σ', Rσ ⟨K, mg, δ⟩ H' μ' σ' ρ' → Q σ' H'
/-- o[i] = w -/
def putW (o i w : W) : Mo Unit := fun S => match o, i with
  | .lst n, .int j => match S[n]? with
    | some ws => match ixN ws.length j with
      | some m => .ok () (S.set n (ws.set m w))
      | none => .bad
    | none => .bad
  | _, _ => .bad
def gPut (d di : DE) : DG := fun w ρ => bnd (d ρ) fun o => bnd (di ρ) fun i => bnd (putW o i w) fun _ => ret ρ
theorem dm_put {d di : DE} {i : Expr} (ho : PD X noE o d) (hi : PD X noE i di)
    (ha : ∀ v, assign (.Subscript o i pos) X.env v = (do let ov ← holding [v] (eval o X.env); let iv ← holding [v, ov] (eval i X.env); standAt pos; holding [v, ov, iv] (setItem ov iv v); release [v, ov, iv] []) := by intro _; rfl) : PG X (.Subscript o i pos) (tgOf X.K X.mg (gPut d di)) :=
  pg_of (pg_sub ho hi set_list ha) fun v σ H Q ⟨δ, μ, S, ρ, w, k, s, r, h⟩ =>
    ⟨δ, μ, S, ρ, k, s, Res.step h fun ow S1 H1 μ1 g1 k1 h1 ov ro => ⟨δ, μ1, S1, ρ, k1, rσ_gr g1 s, Res.step h1 fun iw S2 H2 μ2 g2 k2 h2 iv ri => by
      have r2 := r.gr (g1.trans g2)
      have ro2 := ro.gr g2
      unfold bnd putW at h2
      cases ro2 with
      | @lst a n hh hq =>
        cases ri with
        | int j =>
          obtain ⟨xs, ws, e1, e2, l, rs⟩ := k2.lat hh hq
          simp only [e1] at h2
          cases e3 : ixN ws.length j with
          | none => simp only [e3] at h2; exact h2.elim
          | some m =>
            simp only [e3] at h2
            obtain ⟨k3, g3⟩ := k2.set hh hq (xs := xs.set m v) (by rw [List.length_set]; exact l) (rs.set m r2)
            exact ⟨a, xs, j, m, rfl, rfl, e2, by rw [rs.len]; exact e3, h2 _ _ g3 k3 _ (rσ_gr g3 (rσ_gr (g1.trans g2) s))⟩
        | _ => exact h2.elim
      | _ => exact h2.elim⟩⟩
def sAsgM (g : DG) (d : DE) : DS := fun ρ => lft (d ρ) ρ fun w S => match g w ρ S with
  | .ok ρ' S' => .ok (.nx ρ') S'
  | _ => .bad
theorem ds_asgM {tg : Expr} {g : DG} {d : DE} (h : PD X E e d) (hg : PG X tg (tgOf X.K X.mg g)) (hs : swapsWithSole [tg] e pos.line X.env = pure false := by rfl) (hw : swappedStores [tg] e X.env = pure none := by rfl)
    (h1 : (assignEach [tg] X.env).map (·.2) = [assign tg X.env] := by rfl) : PDS X E (.Assign [tg] e pos) (sAsgM g d) := ps_of (ps_asg h hg hs hw h1) fun D σ H ⟨δ, μ, S, ρ, k, s, h⟩ =>
  ⟨δ, μ, S, ρ, k, s, ResS.step s h fun w S1 H1 μ1 g1 k1 h1 v rv => by
    refine ⟨δ, μ1, S1, ρ, w, k1, rσ_gr g1 s, rv, ?_⟩
    cases e : g w ρ S1 with
    | bad => rw [e] at h1; exact h1
    | err _ _ _ _ => rw [e] at h1; exact h1.elim
    | ok ρ' S' =>
      rw [e] at h1
      exact fun H2 μ2 g2 k2 σ' s' => h1 H2 μ2 g2 k2 σ' s'⟩
/-- x op= e -/
def sAug (f : Store → W → W → Option W) (i : Nat) (d : DE) : DS := fun ρ => match ρ[i]? with
  | some (some x) => lft (bnd (d ρ) fun y => rdS fun S => f S x y) ρ fun w => ret (.nx (ρ.set i (some w)))
  | _ => bad
theorem ds_aug {op : Operator} {r : R2} {fo : Store → W → W → Option W} (i : Nat) {d : DE} {p' : Pos} (ho : OpR X (inplaceOp op) r) (hf : Op2 X.K X.mg r fo) (hN : X.N.Nodup) (h : PD X E e d) (hi : X.N[i]? = some x := by rfl) (hx : Loc X.env.scope x := by first | exact .inl rfl | exact .inr rfl) (hfn : X.fn x = true ∨ X.env.scope.names.lookup x = some .local := by first | exact .inl rfl | exact .inr rfl | assumption) :
    PDS X E (.AugAssign (.Name x p') op e pos) (sAug fo i d) := ps_of (ps_aug hN hi hx h ho hfn) fun D σ H ⟨δ, μ, S, ρ, k, s, h⟩ => by
  unfold sAug at h
  cases e1 : ρ[i]? with
  | none => rw [e1] at h; exact h.elim
  | some ow =>
    rw [e1] at h
    cases ow with
    | none => exact h.elim
    | some x0 =>
      obtain ⟨v0, e2, r0⟩ := s.2 i x0 e1
      refine ⟨v0, e2, δ, μ, S, ρ, k, s, Res.step (q := fun w H' μ' S' => ∀ z, Rp ⟨X.K, X.mg, δ⟩ H' μ' z w → D.nx (σ.set i (some z)) H') (ResS.step s h fun w S1 H1 μ1 g1 k1 h1 z rz => ResS.now k1 h1 _ (rσ_set (rσ_gr g1 s) rz)) fun y S1 H1 μ1 g1 k1 h1 v rv => ?_⟩
      obtain ⟨w, e3, q⟩ := rd_ok h1
      exact hf k1 (r0.gr g1) rv e3 q
end
end Den

namespace Den
open PySem PySem.Spec PyProof.Rows L2 Bal
/-! ### errors -/
/-- the errors of the program: what classes they are, none under another one -/
structure ErS (K : PySem.W.Frag) (mg : Str → Option Value) (all : List Str) : Prop where
  k : ∀ c ∈ all, ∃ C, ErK K mg c C
  ec : ∀ c ∈ all, ∀ C, mg c = some (.ref C) → ExcC K C
  sub : ∀ c ∈ all, ∀ d ∈ all, ∀ C D, mg c = some (.ref C) → mg d = some (.ref D) → PySem.W.subIn K (.ref C) (.ref D) = some (decide (c = d))
theorem ErS.at {K : PySem.W.Frag} {mg : Str → Option Value} {all : List Str} (T : ErS K mg all) {c : Str} (h : c ∈ all) {C : Addr} (e : mg c = some (.ref C)) : ErK K mg c C := by
  obtain ⟨D, k⟩ := T.k c h
  have := k.g
  rw [e] at this
  cases this
  exact k
section
variable {X : Cx} {E : L2.St → XK} {e a b : Expr} {es : List Expr} {pos p p1 : Pos} {x : Str} {k n i j : Nat} {all : List Str}
/-! ### what an error is -/
end
end Den

namespace Den
open PySem PySem.Spec PyProof.Rows L2 Bal
/-! ### zip of any number of lists and tuples -/
structure Zc where
  it : Addr
  l : Addr
  b : Bool
  xs : Array Value
def itS : Bool → Heap → Addr → Addr → Nat → Prop
  | true, h, it, l, k => h.IsListIter it l k
  | false, h, it, l, k => h.IsTupleIter it l k
def sqS : Bool → Heap → Addr → Array Value → Prop
  | true, h, l, xs => h.IsList l xs
  | false, h, l, xs => h.IsTuple l xs
def Zc.st (c : Zc) (i : Nat) (h : Heap) : Prop := itS c.b h c.it c.l i ∧ sqS c.b h c.l c.xs
theorem Zc.dr {prog : Program} {w : World} {A : Around} (hh : A.handled = none) (c : Zc) (ne : c.l ≠ c.it) : Draws prog w A c.it [c.it, c.l] c.xs.size (fun i v => c.xs[i]? = some v) c.st := by
  obtain ⟨it, l, b, xs⟩ := c
  cases b with
  | true => exact Draws.list hh it l ne xs
  | false => exact Draws.tuple hh it l ne xs
abbrev TupO (h : Heap) (T : Addr) (vs : List Value) : Prop := h.get? T = some { cls := .type "tuple", data := .seq vs.toArray }
structure ZSep (z TI TO : Addr) (cs : List Zc) : Prop where
  TIz : TI ≠ z
  TOz : TO ≠ z
  TITO : TI ≠ TO
  TIc : ∀ c ∈ cs, TI ≠ c.it
  zc : ∀ c ∈ cs, z ≠ c.it ∧ z ≠ c.l
  Tc : ∀ c ∈ cs, TO ≠ c.it ∧ TO ≠ c.l
  ne : ∀ c ∈ cs, c.l ≠ c.it
  pw : ∀ (j k : Nat) (c d : Zc), cs[j]? = some c → cs[k]? = some d → j ≠ k → c.it ≠ d.it ∧ c.it ≠ d.l
section
variable {prog : Program} {w : World} {A : Around} {E : Value → Shared → Prop} {s : Shared}
theorem updT {T : Addr} {vs : List Value} {x : Value} {k : Nat} {Q : Unit → Shared → Prop} (hT : TupO s.heap T vs) (hl : vs.length ≤ 1000) (h : ∀ h', TupO h' T (vs.set k x) → Heap.SameBut T s.heap h' → Q () { s with heap := h' }) : wpAny (model prog w) A (updateSeq T (·.setIfInBounds k x)) Q E s := by
  have hsz : vs.toArray.size ≤ sizeLine := by rw [List.size_toArray, sizeLine_eq]; omega
  have hsz' : (vs.toArray.setIfInBounds k x).size ≤ sizeLine + 1 := by rw [Array.size_setIfInBounds]; omega
  refine wpAny_updateSeq hT rfl (h _ ?_ (Heap.SameBut.update ..)) (by assumption) (by assumption)
  show Heap.get? _ T = _
  rw [Heap.get?_update_self _ hT rfl]
  simp [Obj.mapSeq]
theorem forIn_stp {β : Type} {M : Model} {f : Value × Nat → β → Sem (ForInStep β)} {b : β} {Q : β → Shared → Prop} (I : Nat → Shared → Prop) : ∀ (L : List (Value × Nat)) (n : Nat) {s : Shared}, (∀ (j : Nat) (p : Value × Nat) (s : Shared), L[j]? = some p → I (n + j) s → wpAny M A (f p b) (fun r s' => r = ForInStep.yield b ∧ I (n + j + 1) s') E s) → I n s →
    (∀ s', I (n + L.length) s' → Q b s') → wpAny M A (forIn L b f) Q E s
  | [], n, s, _, h0, hq => by
    rw [List.forIn_nil]
    exact wpAny_pure (hq s h0)
  | p :: L, n, s, hs, h0, hq => by
    rw [List.forIn_cons]
    refine wpAny_bind (wpAny_mono (hs 0 p s rfl h0) (fun r s' hr => ?_) fun _ _ x => x)
    obtain ⟨er, h1⟩ := hr
    rw [er]
    exact forIn_stp I L (n + 1) (fun j q s hj hi => by
      have := hs (j + 1) q s (by simpa using hj) (by rw [← Nat.add_assoc, Nat.add_right_comm]; exact hi)
      rw [← Nat.add_assoc, Nat.add_right_comm n j 1] at this
      exact this) h1 fun s' h => hq s' (by rw [List.length_cons, ← Nat.add_assoc, Nat.add_right_comm]; exact h)
/-- so far m of the iterators are drawn from -/
def ZAt (z TI TO : Addr) (cs : List Zc) (i : Nat) (s0 : Shared) (m : Nat) (s' : Shared) : Prop := ∃ h' tk' vs, s' = { s0 with heap := h', toks := tk' } ∧ IsZip h' z TI TO .ellipsis ∧ vs.length = cs.length ∧ TupO h' TO vs ∧ (∀ (j : Nat) (c : Zc) (v : Value), j < m → cs[j]? = some c → vs[j]? = some v → c.xs[i]? = some v) ∧
  (∀ (j : Nat) (c : Zc), cs[j]? = some c → c.st (if j < m then i + 1 else i) h') ∧ h'.objs.size = s0.heap.objs.size ∧ (∀ c o, c ≠ z → c ≠ TO → (∀ d ∈ cs, c ≠ d.it) → s0.heap.get? c = some o → h'.get? c = some o)
theorem zipN_item {z TI TO : Addr} {cs : List Zc} {i : Nat} {olds : List Value} {Q : Value → Shared → Prop} (hh : A.handled = none) (S : ZSep z TI TO cs) (h0 : cs ≠ []) (hz : IsZip s.heap z TI TO .none) (hTI : TupO s.heap TI (cs.map fun c => .ref c.it)) (hTO : TupO s.heap TO olds) (hl : olds.length = cs.length) (hc : cs.length ≤ 100) (st : ∀ c ∈ cs, c.st i s.heap) (lt : ∀ c ∈ cs, i < c.xs.size)
    (hQ : ∀ vs h' tk, vs.length = cs.length → (∀ (j : Nat) (c : Zc) (v : Value), cs[j]? = some c → vs[j]? = some v → c.xs[i]? = some v) → IsZip h' z TI TO (rawInt s.heap.objs.size) → TupO h' TO vs → (∀ c ∈ cs, c.st (i + 1) h') → TupO h' s.heap.objs.size vs → h'.objs.size = s.heap.objs.size + 1 →
      (∀ c o, c ≠ z → c ≠ TO → (∀ d ∈ cs, c ≠ d.it) → s.heap.get? c = some o → h'.get? c = some o) → Q (.ref s.heap.objs.size) { s with heap := h', toks := tk }) :
    wpAny (model prog w) A (Builtin.«zip.__next__» ⟨[.ref z], []⟩) (fun fin s' => ∃ v, fin = .done (.ret v) ∧ Q v s') E s := by
  obtain ⟨hp, g, d, tk0, os⟩ := s
  show wpAny _ _ (field (.ref z) 2 >>= _) _ _ _
  refine wpAny_bind (wpAny_field hz rfl (x := .bool false) rfl ?_)
  show wpAny _ _ (field (.ref z) 3 >>= _) _ _ _
  refine wpAny_bind (wpAny_field hz rfl (x := .ref TI) rfl (wpAny_bind (wpAny_seqItems hTI rfl ?_)))
  have hem : (cs.map fun c => Value.ref c.it).toArray.isEmpty = false := by
    cases cs with
    | nil => exact absurd rfl h0
    | cons c r => simp
  show wpAny _ _ (if (cs.map fun c => Value.ref c.it).toArray.isEmpty = true then _ else _) _ _ _
  rw [hem, if_neg (by decide)]
  show wpAny _ _ (Builtin.SmallTypes.ownedTupleIsFree (.ref z) >>= _) _ _ _
  refine wpAny_bind ?_
  unfold Builtin.SmallTypes.ownedTupleIsFree
  refine wpAny_bind (wpAny_field hz rfl (x := .none) rfl (wpAny_pure ?_))
  rw [if_pos rfl]
  refine wpAny_bind (wpAny_rule (wpAny_bind (wpAny_field hz rfl (x := .ref TO) rfl ?_)))
  refine wpAny_bind (wpAny_setField_rec hz (by simp) fun g0 hz0 hs0 => ?_)
  have hz0' : IsZip g0 z TI TO .ellipsis := hz0
  have hs0' : Heap.SameBut z hp g0 := hs0
  refine wpAny_bind (forIn_stp (ZAt z TI TO cs i ⟨hp, g, d, tk0, os⟩) _ 0 (fun j p s' hj hI => ?_) ?_ (fun s' hI => ?_))
  · obtain ⟨h1, tk1, vs, rfl, hz1, l1, hT1, hv1, hst1, hsz1, hk1⟩ := hI
    rw [Nat.zero_add] at hst1 hv1 ⊢
    obtain ⟨c, hcj, rfl⟩ : ∃ c, cs[j]? = some c ∧ p = (.ref c.it, j) := by
      rw [List.getElem?_zipIdx] at hj
      cases e : cs[j]? with
      | none => simp [e] at hj
      | some c => exact ⟨c, rfl, by simpa [e, eq_comm] using hj⟩
    have mc : c ∈ cs := List.mem_of_getElem? hcj
    have hjl : j < cs.length := (List.getElem?_eq_some_iff.mp hcj).1
    refine wpAny_bind (wpAny_onRaise ?_)
    show wpAny _ _ (Builtin.SmallTypes.nextOf (.ref c.it) >>= _) _ _ ⟨h1, g, d, tk1, os⟩
    have stc := hst1 j c hcj
    rw [if_neg (Nat.lt_irrefl j)] at stc
    refine wpAny_bind ((c.dr hh (S.ne c mc)).item i _ _ _ (lt c mc) stc fun x p1 tk2 hx sn hp1 => wpAny_pure ?_)
    have hp1' : Heap.SameBut c.it h1 p1 := hp1
    have hU1 : TupO p1 TO vs := hp1'.extBut _ _ (S.Tc c mc).1 hT1
    refine wpAny_bind (wpAny_seqItems (s := ⟨p1, g, d, tk2, os⟩) hU1 rfl ?_)
    refine wpAny_bind (updT (s := ⟨p1, g, d, tk2, os⟩) hU1 (by omega) fun g1 hT2 hs1 => ?_)
    have hs1' : Heap.SameBut TO p1 g1 := hs1
    refine wpAny_bind (wpAny_letGo (wpAny_pure ⟨rfl, g1, tk2, vs.set j x, rfl, ?_, by rw [List.length_set]; exact l1, hT2, fun j' c' v' hlt hc' hv' => ?_, fun j' c' hc' => ?_, ?_, fun a o az aT ac e => ?_⟩))
    · exact hs1'.extBut _ _ (Ne.symm S.TOz) (hp1'.extBut _ _ (S.zc c mc).1 hz1)
    · by_cases hjj : j = j'
      · subst hjj
        rw [hcj] at hc'
        cases hc'
        rw [List.getElem?_set_self (by rw [l1]; exact hjl)] at hv'
        cases hv'
        exact hx
      · rw [List.getElem?_set_ne hjj] at hv'
        exact hv1 j' c' v' (by omega) hc' hv'
    · have mc' : c' ∈ cs := List.mem_of_getElem? hc'
      have fr : ∀ k, c'.st k p1 → c'.st k g1 := fun k hk => (c'.dr (A := A) (prog := prog) (w := w) hh (S.ne c' mc')).over hk hs1' (by simp; exact S.Tc c' mc')
      refine fr _ ?_
      by_cases hjj : j = j'
      · subst hjj
        rw [hcj] at hc'
        cases hc'
        rw [if_pos (Nat.lt_succ_self j)]
        exact sn
      · have e : (if j' < j + 1 then i + 1 else i) = (if j' < j then i + 1 else i) := by
          by_cases hlt : j' < j
          · rw [if_pos hlt, if_pos (by omega)]
          · rw [if_neg hlt, if_neg (by omega)]
        rw [e]
        exact (c'.dr (A := A) (prog := prog) (w := w) hh (S.ne c' mc')).over (hst1 j' c' hc') hp1' (by simp; exact S.pw j j' c c' hcj hc' hjj)
    · rw [hs1'.1, hp1'.1]
      exact hsz1
    · exact hs1'.extBut _ _ aT (hp1'.extBut _ _ (ac c mc) (hk1 a o az aT ac e))
  · refine ⟨g0, tk0, olds, rfl, hz0', hl, hs0'.extBut _ _ S.TOz hTO, fun _ _ _ hlt => absurd hlt (Nat.not_lt_zero _), fun j c hcj => ?_, hs0'.1, fun a o az aT ac e => hs0'.extBut _ _ az e⟩
    rw [if_neg (Nat.not_lt_zero _)]
    have mc : c ∈ cs := List.mem_of_getElem? hcj
    exact (c.dr (A := A) (prog := prog) (w := w) hh (S.ne c mc)).over (st c mc) hs0' (by simp; exact S.zc c mc)
  · obtain ⟨h1, tk1, vs, rfl, hz1, l1, hT1, hv1, hst1, hsz1, hk1⟩ := hI
    rw [Nat.zero_add] at hst1 hv1
    have hlen : ((cs.map fun c => Value.ref c.it).toArray.toList.zipIdx).length = cs.length := by simp
    rw [hlen] at hst1 hv1
    have hst2 : ∀ c ∈ cs, c.st (i + 1) h1 := fun c mc => by
      obtain ⟨j, hj, e⟩ := List.getElem_of_mem mc
      have := hst1 j c (by rw [List.getElem?_eq_getElem hj, e])
      rw [if_pos hj] at this
      exact this
    refine wpAny_bind (wpAny_seqItems (s := ⟨h1, g, d, tk1, os⟩) hT1 rfl ?_)
    refine wpAny_bind (wpAny_newTuple ?_)
    have hzlt : z < h1.objs.size := Heap.lt_size hz1
    show wpAny _ _ (Builtin.SmallTypes.ownedTupleHandOut (.ref z) (.ref h1.objs.size) >>= _) _ _ ⟨h1.push { cls := .type "tuple", data := .seq vs.toArray }, g, d, tk1, os⟩
    refine wpAny_bind ?_
    unfold Builtin.SmallTypes.ownedTupleHandOut
    have hz6 : IsZip (h1.push { cls := .type "tuple", data := .seq vs.toArray }) z TI TO .ellipsis := Heap.get?_push_of_some _ hz1
    refine wpAny_bind (wpAny_setField_rec hz6 (by simp) fun h7 hz7 hs7 => ?_)
    have hz7' : IsZip h7 z TI TO (rawInt h1.objs.size) := hz7
    have hs7' : Heap.SameBut z (h1.push { cls := .type "tuple", data := .seq vs.toArray }) h7 := hs7
    refine wpAny_setField_rec hz7' (by simp) fun h8 hz8 hs8 => ?_
    have hz8' : IsZip h8 z TI TO (rawInt h1.objs.size) := hz8
    have hs8' : Heap.SameBut z h7 h8 := hs8
    have up : ∀ c o, c ≠ z → h1.get? c = some o → h8.get? c = some o := fun c o c1 e => hs8'.extBut _ _ c1 (hs7'.extBut _ _ c1 (Heap.get?_push_of_some _ e))
    have hT8 : TupO h8 h1.objs.size vs := hs8'.extBut _ _ (Nat.ne_of_gt hzlt) (hs7'.extBut _ _ (Nat.ne_of_gt hzlt) (Heap.get?_push_size _ rfl))
    have sz8 : h8.objs.size = h1.objs.size + 1 := by rw [hs8'.1, hs7'.1, Heap.size_push]
    have hsz1' : h1.objs.size = hp.objs.size := hsz1
    rw [hsz1'] at hz8' hT8 sz8
    refine wpAny_pure ⟨_, rfl, ?_⟩
    show Q (.ref h1.objs.size) ⟨h8, g, d, tk1, os⟩
    rw [hsz1']
    exact hQ vs h8 tk1 l1 (fun j c v hc hv => hv1 j c v (List.getElem?_eq_some_iff.mp hc).1 hc hv) hz8' (up _ _ S.TOz hT1) (fun c mc => (c.dr (A := A) (prog := prog) (w := w) hh (S.ne c mc)).frame _ _ _ (hst2 c mc) fun b hb o e => up b o (by
      rcases (by simpa using hb : b = c.it ∨ b = c.l) with q | q
      · rw [q]; exact Ne.symm (S.zc c mc).1
      · rw [q]; exact Ne.symm (S.zc c mc).2) e) hT8 sz8 fun c o cz cT cc e => up c o cz (hk1 c o cz cT cc e)
theorem zipN_end {z TI TO : Addr} {cs : List Zc} {i : Nat} {olds : List Value} {Q : Fin → Shared → Prop} (hh : A.handled = none) (S : ZSep z TI TO cs) (h0 : cs ≠ []) (hz : IsZip s.heap z TI TO .none) (hTI : TupO s.heap TI (cs.map fun c => .ref c.it)) (hTO : TupO s.heap TO olds) (hl : olds.length = cs.length) (hc : cs.length ≤ 100) (st : ∀ c ∈ cs, c.st i s.heap) (le : ∀ c ∈ cs, i ≤ c.xs.size)
    (m : Nat) (cm : Zc) (hm : cs[m]? = some cm) (em : i = cm.xs.size) (lt : ∀ (j : Nat) (c : Zc), j < m → cs[j]? = some c → i < c.xs.size)
    (hE : ∀ h' tk e, (∀ c o, c ≠ z → c ≠ TO → (∀ d ∈ cs, c ≠ d.it) → s.heap.get? c = some o → h'.get? c = some o) → (∃ o, h'.get? e = some o ∧ o.cls = .type "StopIteration") → E (.ref e) { s with heap := h', toks := tk }) :
    wpAny (model prog w) A (Builtin.«zip.__next__» ⟨[.ref z], []⟩) Q E s := by
  obtain ⟨hp, g, d, tk0, os⟩ := s
  show wpAny _ _ (field (.ref z) 2 >>= _) _ _ _
  refine wpAny_bind (wpAny_field hz rfl (x := .bool false) rfl ?_)
  show wpAny _ _ (field (.ref z) 3 >>= _) _ _ _
  refine wpAny_bind (wpAny_field hz rfl (x := .ref TI) rfl (wpAny_bind (wpAny_seqItems hTI rfl ?_)))
  have hem : (cs.map fun c => Value.ref c.it).toArray.isEmpty = false := by
    cases cs with
    | nil => exact absurd rfl h0
    | cons c r => simp
  show wpAny _ _ (if (cs.map fun c => Value.ref c.it).toArray.isEmpty = true then _ else _) _ _ _
  rw [hem, if_neg (by decide)]
  show wpAny _ _ (Builtin.SmallTypes.ownedTupleIsFree (.ref z) >>= _) _ _ _
  refine wpAny_bind ?_
  unfold Builtin.SmallTypes.ownedTupleIsFree
  refine wpAny_bind (wpAny_field hz rfl (x := .none) rfl (wpAny_pure ?_))
  rw [if_pos rfl]
  refine wpAny_bind (wpAny_rule (wpAny_bind (wpAny_field hz rfl (x := .ref TO) rfl ?_)))
  refine wpAny_bind (wpAny_setField_rec hz (by simp) fun g0 hz0 hs0 => ?_)
  have hz0' : IsZip g0 z TI TO .ellipsis := hz0
  have hs0' : Heap.SameBut z hp g0 := hs0
  refine wpAny_bind (forIn_stp (fun n s' => n ≤ m ∧ ZAt z TI TO cs i ⟨hp, g, d, tk0, os⟩ n s') _ 0 (fun j p s' hj hI => ?_) ?_ (fun s' hI => ?_))
  · obtain ⟨hjm, h1, tk1, vs, rfl, hz1, l1, hT1, hv1, hst1, hsz1, hk1⟩ := hI
    rw [Nat.zero_add] at hst1 hv1 hjm ⊢
    obtain ⟨c, hcj, rfl⟩ : ∃ c, cs[j]? = some c ∧ p = (.ref c.it, j) := by
      rw [List.getElem?_zipIdx] at hj
      cases e : cs[j]? with
      | none => simp [e] at hj
      | some c => exact ⟨c, rfl, by simpa [e, eq_comm] using hj⟩
    have mc : c ∈ cs := List.mem_of_getElem? hcj
    have hjl : j < cs.length := (List.getElem?_eq_some_iff.mp hcj).1
    refine wpAny_bind (wpAny_onRaise ?_)
    show wpAny _ _ (Builtin.SmallTypes.nextOf (.ref c.it) >>= _) _ _ ⟨h1, g, d, tk1, os⟩
    have stc := hst1 j c hcj
    rw [if_neg (Nat.lt_irrefl j)] at stc
    by_cases hend : j = m
    · subst hend
      rw [hm] at hcj
      cases hcj
      refine wpAny_bind ((cm.dr hh (S.ne cm mc)).done ⟨h1, g, d, tk1, os⟩ _ _ (by rw [← em]; exact stc) fun q e hq he => ?_)
      have hq' : Heap.ExtBut cm.it h1 q := hq
      obtain ⟨oe, hoe, hce⟩ := he
      have hoe' : q.get? e = some oe := hoe
      have hzq : IsZip q z TI TO .ellipsis := hq' _ _ (S.zc cm mc).1 hz1
      have hez : e ≠ z := fun x => by subst x; rw [hzq] at hoe'; cases hoe'; simp at hce
      refine wpAny_setField_rec (s := ⟨q, g, d, tk1, os⟩) hzq (by simp) fun q' _ hq2 => ?_
      have hq2' : Heap.SameBut z q q' := hq2
      exact hE q' tk1 e (fun a o az aT ac x => hq2'.extBut _ _ az (hq' _ _ (ac cm mc) (hk1 a o az aT ac x))) ⟨oe, hq2'.extBut _ _ hez hoe', hce⟩
    refine wpAny_bind ((c.dr hh (S.ne c mc)).item i _ _ _ (lt j c (by omega) hcj) stc fun x p1 tk2 hx sn hp1 => wpAny_pure ?_)
    have hp1' : Heap.SameBut c.it h1 p1 := hp1
    have hU1 : TupO p1 TO vs := hp1'.extBut _ _ (S.Tc c mc).1 hT1
    refine wpAny_bind (wpAny_seqItems (s := ⟨p1, g, d, tk2, os⟩) hU1 rfl ?_)
    refine wpAny_bind (updT (s := ⟨p1, g, d, tk2, os⟩) hU1 (by omega) fun g1 hT2 hs1 => ?_)
    have hs1' : Heap.SameBut TO p1 g1 := hs1
    refine wpAny_bind (wpAny_letGo (wpAny_pure ⟨rfl, by omega, g1, tk2, vs.set j x, rfl, ?_, by rw [List.length_set]; exact l1, hT2, fun j' c' v' hlt hc' hv' => ?_, fun j' c' hc' => ?_, ?_, fun a o az aT ac e => ?_⟩))
    · exact hs1'.extBut _ _ (Ne.symm S.TOz) (hp1'.extBut _ _ (S.zc c mc).1 hz1)
    · by_cases hjj : j = j'
      · subst hjj
        rw [hcj] at hc'
        cases hc'
        rw [List.getElem?_set_self (by rw [l1]; exact hjl)] at hv'
        cases hv'
        exact hx
      · rw [List.getElem?_set_ne hjj] at hv'
        exact hv1 j' c' v' (by omega) hc' hv'
    · have mc' : c' ∈ cs := List.mem_of_getElem? hc'
      have fr : ∀ k, c'.st k p1 → c'.st k g1 := fun k hk => (c'.dr (A := A) (prog := prog) (w := w) hh (S.ne c' mc')).over hk hs1' (by simp; exact S.Tc c' mc')
      refine fr _ ?_
      by_cases hjj : j = j'
      · subst hjj
        rw [hcj] at hc'
        cases hc'
        rw [if_pos (Nat.lt_succ_self j)]
        exact sn
      · have e : (if j' < j + 1 then i + 1 else i) = (if j' < j then i + 1 else i) := by
          by_cases hlt : j' < j
          · rw [if_pos hlt, if_pos (by omega)]
          · rw [if_neg hlt, if_neg (by omega)]
        rw [e]
        exact (c'.dr (A := A) (prog := prog) (w := w) hh (S.ne c' mc')).over (hst1 j' c' hc') hp1' (by simp; exact S.pw j j' c c' hcj hc' hjj)
    · rw [hs1'.1, hp1'.1]
      exact hsz1
    · exact hs1'.extBut _ _ aT (hp1'.extBut _ _ (ac c mc) (hk1 a o az aT ac e))
  · refine ⟨Nat.zero_le _, g0, tk0, olds, rfl, hz0', hl, hs0'.extBut _ _ S.TOz hTO, fun _ _ _ hlt => absurd hlt (Nat.not_lt_zero _), fun j c hcj => ?_, hs0'.1, fun a o az aT ac e => hs0'.extBut _ _ az e⟩
    rw [if_neg (Nat.not_lt_zero _)]
    have mc : c ∈ cs := List.mem_of_getElem? hcj
    exact (c.dr (A := A) (prog := prog) (w := w) hh (S.ne c mc)).over (st c mc) hs0' (by simp; exact S.zc c mc)
  · obtain ⟨hle, _⟩ := hI
    have hlen : ((cs.map fun c => Value.ref c.it).toArray.toList.zipIdx).length = cs.length := by simp
    rw [hlen] at hle
    have := (List.getElem?_eq_some_iff.mp hm).1
    omega
theorem in1_h (h : A.handled = none) : A.in1.handled = none := h
theorem nextN_item {z TI TO : Addr} {cs : List Zc} {i : Nat} {olds : List Value} {Q : Option Value → Shared → Prop} (hh : A.handled = none) (S : ZSep z TI TO cs) (h0 : cs ≠ []) (hz : IsZip s.heap z TI TO .none) (hTI : TupO s.heap TI (cs.map fun c => .ref c.it)) (hTO : TupO s.heap TO olds) (hl : olds.length = cs.length) (hc : cs.length ≤ 100) (st : ∀ c ∈ cs, c.st i s.heap) (lt : ∀ c ∈ cs, i < c.xs.size)
    (hQ : ∀ vs h' tk, vs.length = cs.length → (∀ (j : Nat) (c : Zc) (v : Value), cs[j]? = some c → vs[j]? = some v → c.xs[i]? = some v) → IsZip h' z TI TO (rawInt s.heap.objs.size) → TupO h' TO vs → (∀ c ∈ cs, c.st (i + 1) h') → TupO h' s.heap.objs.size vs → h'.objs.size = s.heap.objs.size + 1 →
      (∀ c o, c ≠ z → c ≠ TO → (∀ d ∈ cs, c ≠ d.it) → s.heap.get? c = some o → h'.get? c = some o) → Q (some (.ref s.heap.objs.size)) { s with heap := h', toks := tk }) : wpAny (model prog w) A (pyNext (.ref z)) Q E s := by
  have hT : s.TypeIs (.ref z) "zip" := ⟨_, hz, rfl⟩
  unfold pyNext
  exact wpAny_bind (wpAny_attempt (wpAny_callSpecial?_slot (name := Str.ofString "__next__") hT F.slot_zip_next (wpAny_call_entry F.slot_zip_next hT F.entry_zip_next (zipN_item (in1_h hh) S h0 hz hTI hTO hl hc st lt fun vs h' tk a1 a2 a3 a4 a5 a6 a7 a8 => wpAny_pure (hQ vs h' tk a1 a2 a3 a4 a5 a6 a7 a8)) (F.args_zip_next_1 _))))
theorem nextN_end {z TI TO : Addr} {cs : List Zc} {i : Nat} {olds : List Value} {Q : Option Value → Shared → Prop} (hh : A.handled = none) (S : ZSep z TI TO cs) (h0 : cs ≠ []) (hz : IsZip s.heap z TI TO .none) (hTI : TupO s.heap TI (cs.map fun c => .ref c.it)) (hTO : TupO s.heap TO olds) (hl : olds.length = cs.length) (hc : cs.length ≤ 100) (st : ∀ c ∈ cs, c.st i s.heap) (le : ∀ c ∈ cs, i ≤ c.xs.size) (he : ∃ c ∈ cs, i = c.xs.size)
    (hQ : ∀ h' tk, (∀ c o, c ≠ z → c ≠ TO → (∀ d ∈ cs, c ≠ d.it) → s.heap.get? c = some o → h'.get? c = some o) → Q none { s with heap := h', toks := tk }) : wpAny (model prog w) A (pyNext (.ref z)) Q E s := by
  have hT : s.TypeIs (.ref z) "zip" := ⟨_, hz, rfl⟩
  -- the first that is at its end
  have first : ∀ n : Nat, (∃ j c, j < n ∧ cs[j]? = some c ∧ i = c.xs.size) → ∃ m cm, cs[m]? = some cm ∧ i = cm.xs.size ∧ ∀ (j : Nat) (c : Zc), j < m → cs[j]? = some c → i < c.xs.size := by
    intro n
    induction n with
    | zero => rintro ⟨j, c, h, _⟩; exact absurd h (Nat.not_lt_zero _)
    | succ n ih =>
      rintro ⟨j, c, h1, h2, h3⟩
      by_cases hx : ∃ j c, j < n ∧ cs[j]? = some c ∧ i = c.xs.size
      · exact ih hx
      · have ej : j = n := by
          by_cases hj : j = n
          · exact hj
          · exact absurd ⟨j, c, by omega, h2, h3⟩ hx
        subst ej
        refine ⟨j, c, h2, h3, fun k d hk hd => ?_⟩
        have l1 := le d (List.mem_of_getElem? hd)
        by_cases hq : i = d.xs.size
        · exact absurd ⟨k, d, hk, hd, hq⟩ hx
        · omega
  obtain ⟨c0, mc0, e0⟩ := he
  obtain ⟨j0, hj0, ej0⟩ := List.getElem_of_mem mc0
  obtain ⟨m, cm, hm, em, hlt⟩ := first cs.length ⟨j0, c0, hj0, by rw [List.getElem?_eq_getElem hj0, ej0], e0⟩
  unfold pyNext
  refine wpAny_bind (wpAny_attempt (wpAny_callSpecial?_slot (name := Str.ofString "__next__") hT F.slot_zip_next (wpAny_call_entry F.slot_zip_next hT F.entry_zip_next (zipN_end (in1_h hh) S h0 hz hTI hTO hl hc st le m cm hm em hlt fun h' tk e hk hx => ?_) (F.args_zip_next_1 _))))
  obtain ⟨o, ho, hcl⟩ := hx
  exact wpAny_bind (wpAny_isInstance (T := "StopIteration") (b := true) ⟨o, ho, hcl⟩ isSubtype_stop (wpAny_pure (hQ _ _ hk)))
end
end Den

namespace Den
open PySem PySem.Spec PyProof.Rows L2 Bal
/-- a list, a tuple, read -/
def SqK (K : PySem.W.Frag) (H : Hp) : Bool × Addr → List V → Prop
  | (true, a), xs => SqL K H a xs
  | (false, a), xs => SqT K H a xs
def ItN (K : PySem.W.Frag) (ps : List (Bool × Addr)) : It :=
  ⟨fun i H => ∀ p ∈ ps, ∃ xs x, SqK K H p xs ∧ xs[i]? = some x,
    fun i H v H' => ∃ (T : Addr) (ys : List V) (o : Obj), v = .ref T ∧ H T = none ∧ o.dict = none ∧ H' = upd H T (.frz o (.tup ys)) ∧ ys.length = ps.length ∧ ∀ (j : Nat) (p : Bool × Addr) (y : V), ps[j]? = some p → ys[j]? = some y → ∀ xs, SqK K H p xs → xs[i]? = some y,
    fun i H => (∀ p ∈ ps, ∃ xs, SqK K H p xs ∧ i ≤ xs.length) ∧ ∃ p ∈ ps, ∃ xs, SqK K H p xs ∧ xs.length ≤ i⟩
section
variable {X : Cx} {pins : List (Addr × Obj)} {σ : L2.St} {H : Hp} {s : Shared}
theorem sqK_obj (I : Inv X pins σ H s) {p : Bool × Addr} {xs : List V} (h : SqK X.K H p xs) : ∃ its : List Value, Vals xs its ∧ sqS p.1 s.heap p.2 its.toArray ∧ p.2 < s.heap.objs.size := by
  obtain ⟨b, a⟩ := p
  cases b with
  | true =>
    obtain ⟨its, r, pl, _⟩ := I.list h
    exact ⟨its, r, pl.isList, pl.lt⟩
  | false =>
    obtain ⟨its, r, pl, _⟩ := I.tuple h
    exact ⟨its, r, (show s.heap.IsTuple a its.toArray from pl), pl.lt⟩
theorem sqK_inj (I : Inv X pins σ H s) {p : Bool × Addr} {xs ys : List V} (h : SqK X.K H p xs) (h' : SqK X.K H p ys) : xs = ys := by
  obtain ⟨b, a⟩ := p
  cases b with
  | true => exact I.list_inj h h'
  | false => exact I.tuple_inj h h'
/-- the iterators with what they walk, as it stands -/
theorem zcs (I : Inv X pins σ H s) (f : List V → Prop) : ∀ (ts : List Addr) (ps : List (Bool × Addr)), ts.length = ps.length → (∀ p ∈ ps, ∃ xs, SqK X.K H p xs ∧ f xs) →
    ∃ cs : List Zc, cs.map (·.it) = ts ∧ cs.map (fun c => (c.b, c.l)) = ps ∧ ∀ c ∈ cs, ∃ xs : List V, SqK X.K H (c.b, c.l) xs ∧ f xs ∧ Vals xs c.xs.toList ∧ sqS c.b s.heap c.l c.xs
  | [], [], _, _ => ⟨[], rfl, rfl, fun _ h => (nomatch h)⟩
  | t :: ts, p :: ps, hl, h => by
    obtain ⟨cs, e1, e2, h1⟩ := zcs I f ts ps (Nat.succ.inj hl) fun q hq => h q (List.mem_cons_of_mem _ hq)
    obtain ⟨xs, hs, hf⟩ := h p (List.mem_cons_self ..)
    obtain ⟨its, r, hq, _⟩ := sqK_obj I hs
    refine ⟨⟨t, p.2, p.1, its.toArray⟩ :: cs, by rw [List.map_cons, e1], by rw [List.map_cons, e2], fun c hc => ?_⟩
    rcases List.mem_cons.mp hc with rfl | hc
    · exact ⟨xs, hs, hf, by simpa using r, hq⟩
    · exact h1 c hc
theorem itS_keep {b : Bool} {h h' : Heap} {it l : Addr} {k : Nat} (x : itS b h it l k) (kp : ∀ o, h.get? it = some o → h'.get? it = some o) : itS b h' it l k := by
  cases b with
  | true => exact Heap.IsListIter.at x kp
  | false => exact Heap.IsTupleIter.at x kp
theorem itS_obj {b : Bool} {h : Heap} {it l : Addr} {k : Nat} (x : itS b h it l k) : ∃ o, h.get? it = some o ∧ ∀ v, o.data ≠ .cell v := by
  cases b with
  | true =>
    obtain ⟨o, e, _, d⟩ := x
    exact ⟨o, e, fun v q => by rw [d] at q; cases q⟩
  | false =>
    obtain ⟨o, e, _, d⟩ := x
    exact ⟨o, e, fun v q => by rw [d] at q; cases q⟩
end
/-- the cells lie apart -/
structure Apt (z TI TO : Addr) (ts : List Addr) (ps : List (Bool × Addr)) : Prop where
  len : ts.length = ps.length
  few : ts.length ≤ 100
  one : ts ≠ []
  TIz : TI ≠ z
  TOz : TO ≠ z
  TITO : TI ≠ TO
  zt : z ∉ ts
  It : TI ∉ ts
  Ot : TO ∉ ts
  nd : ts.Nodup
  pz : ∀ p ∈ ps, p.2 ≠ z ∧ p.2 ≠ TO ∧ p.2 ∉ ts
def ZTn (z TI TO : Addr) (ts : List Addr) (ps : List (Bool × Addr)) (i : Nat) (h : Heap) : Prop := IsZip h z TI TO .none ∧ TupO h TI (ts.map .ref) ∧ (∃ olds, olds.length = ts.length ∧ TupO h TO olds) ∧ ∀ (j : Nat) (t : Addr) (p : Bool × Addr), ts[j]? = some t → ps[j]? = some p → itS p.1 h t p.2 i
theorem apt_sep {z TI TO : Addr} {cs : List Zc} (D : Apt z TI TO (cs.map (·.it)) (cs.map fun c => (c.b, c.l))) : ZSep z TI TO cs where
  TIz := D.TIz
  TOz := D.TOz
  TITO := D.TITO
  TIc := fun c hc e => D.It (by rw [e]; exact List.mem_map.mpr ⟨c, hc, rfl⟩)
  zc := fun c hc => ⟨fun e => D.zt (by rw [e]; exact List.mem_map.mpr ⟨c, hc, rfl⟩), fun e => (D.pz (c.b, c.l) (List.mem_map.mpr ⟨c, hc, rfl⟩)).1 e.symm⟩
  Tc := fun c hc => ⟨fun e => D.Ot (by rw [e]; exact List.mem_map.mpr ⟨c, hc, rfl⟩), fun e => (D.pz (c.b, c.l) (List.mem_map.mpr ⟨c, hc, rfl⟩)).2.1 e.symm⟩
  ne := fun c hc e => (D.pz (c.b, c.l) (List.mem_map.mpr ⟨c, hc, rfl⟩)).2.2 (by show c.l ∈ _; rw [e]; exact List.mem_map.mpr ⟨c, hc, rfl⟩)
  pw := fun j k c d hj hk hjk => ⟨fun e => by
      have h1 : (cs.map (·.it))[j]? = some c.it := by rw [List.getElem?_map, hj]; rfl
      have h2 : (cs.map (·.it))[k]? = some c.it := by rw [List.getElem?_map, hk, e]; rfl
      obtain ⟨l1, e1⟩ := List.getElem?_eq_some_iff.mp h1
      obtain ⟨l2, e2⟩ := List.getElem?_eq_some_iff.mp h2
      exact hjk ((List.getElem_inj D.nd).mp (e1.trans e2.symm)), fun e => (D.pz (d.b, d.l) (List.mem_map.mpr ⟨d, List.mem_of_getElem? hk, rfl⟩)).2.2 (by show d.l ∈ _; rw [← e]; exact List.mem_map.mpr ⟨c, List.mem_of_getElem? hj, rfl⟩)⟩
theorem turnN {P : Program} {w : World} {K : PySem.W.Frag} {elts : List Expr} {kk : Nat} {tpos : Pos} {z TI TO : Addr} {ts : List Addr} {ps : List (Bool × Addr)} (D : Apt z TI TO ts ps) : Turn P w K (.Tuple elts kk tpos) (ItN K ps) (z :: TI :: TO :: ts) z (ZTn z TI TO ts ps) where
  mem := List.mem_cons_self ..
  obj := fun i h st c hc => by
    obtain ⟨hz, hTI, ⟨olds, _, hTO⟩, hi⟩ := st
    rcases List.mem_cons.mp hc with rfl | hc
    · exact ⟨_, hz, fun v q => nomatch q⟩
    rcases List.mem_cons.mp hc with rfl | hc
    · exact ⟨_, hTI, fun v q => nomatch q⟩
    rcases List.mem_cons.mp hc with rfl | hc
    · exact ⟨_, hTO, fun v q => nomatch q⟩
    obtain ⟨j, hj, e⟩ := List.getElem_of_mem hc
    exact itS_obj (hi j c _ (by rw [List.getElem?_eq_getElem hj, e]) (List.getElem?_eq_getElem (by rw [← D.len]; exact hj)))
  keep := fun i h h' st k => by
    obtain ⟨hz, hTI, ⟨olds, l, hTO⟩, hi⟩ := st
    refine ⟨k z (List.mem_cons_self ..) _ hz, k TI (List.mem_cons_of_mem _ (List.mem_cons_self ..)) _ hTI, ⟨olds, l, k TO (List.mem_cons_of_mem _ (List.mem_cons_of_mem _ (List.mem_cons_self ..))) _ hTO⟩, fun j t p hj hp => itS_keep (hi j t p hj hp) fun o q => ?_⟩
    exact k t (List.mem_cons_of_mem _ (List.mem_cons_of_mem _ (List.mem_cons_of_mem _ (List.mem_of_getElem? hj)))) o q
  item := by
    intro X hP hw hK hc i pins s σ H E I hf st hg
    subst hP hw hK
    obtain ⟨hz, hTI, ⟨olds, lo, hTO⟩, hi⟩ := st
    obtain ⟨cs, e1, e2, hcs⟩ := zcs I (fun xs => ∃ x, xs[i]? = some x) ts ps D.len fun p hp => let ⟨xs, x, h1, h2⟩ := hg p hp; ⟨xs, h1, x, h2⟩
    subst e1 e2
    have S := apt_sep D
    have hzl : z < s.heap.objs.size := Heap.lt_size hz
    have gc : ∀ (j : Nat) (c : Zc), cs[j]? = some c → (cs.map (·.it))[j]? = some c.it ∧ (cs.map fun c => (c.b, c.l))[j]? = some (c.b, c.l) := fun j c h => by
      rw [List.getElem?_map, List.getElem?_map, h]
      exact ⟨rfl, rfl⟩
    have sts : ∀ c ∈ cs, c.st i s.heap := fun c mc => by
      obtain ⟨j, hj, e⟩ := List.getElem_of_mem mc
      have hc : cs[j]? = some c := by rw [List.getElem?_eq_getElem hj, e]
      obtain ⟨xs, _, _, _, hq⟩ := hcs c mc
      exact ⟨hi j c.it (c.b, c.l) (gc j c hc).1 (gc j c hc).2, hq⟩
    have lts : ∀ c ∈ cs, i < c.xs.size := fun c mc => by
      obtain ⟨xs, _, ⟨x, hx⟩, r, _⟩ := hcs c mc
      have := (List.getElem?_eq_some_iff.mp hx).1
      have e : xs.length = c.xs.size := by rw [Vals.length r, Array.length_toList]
      omega
    have h0 : cs ≠ [] := fun e => D.one (by rw [e]; rfl)
    have hTI' : TupO s.heap TI (cs.map fun c => .ref c.it) := by rw [List.map_map] at hTI; exact hTI
    refine nextN_item (I.ok.hd hc) S h0 hz hTI' hTO (by rw [lo, List.length_map]) (by have := D.few; rw [List.length_map] at this; exact this) sts lts fun vs h' tk lv hv z' TO' sts' hT hsz hk => ?_
    refine ⟨_, rfl, wpAny_letOwnedTupleGo_zip (s := { s with heap := h', toks := tk }) z' fun h'' z'' sb => ?_⟩
    have sb' : Heap.SameBut z h' h'' := sb
    have hT2 : TupO h'' s.heap.objs.size vs := (sb'.2 _ (Nat.ne_of_gt hzl)).trans hT
    -- what was drawn, as values
    have drawn : ∀ (cs : List Zc) (vs : List Value), vs.length = cs.length → (∀ (j : Nat) (c : Zc) (v : Value), cs[j]? = some c → vs[j]? = some v → c.xs[i]? = some v) → (∀ c ∈ cs, ∃ xs : List V, SqK X.K H (c.b, c.l) xs ∧ (∃ x, xs[i]? = some x) ∧ Vals xs c.xs.toList ∧ sqS c.b s.heap c.l c.xs) → ∃ ys : List V, Vals ys vs ∧ ∀ (j : Nat) (c : Zc) (y : V), cs[j]? = some c → ys[j]? = some y → ∀ xs, SqK X.K H (c.b, c.l) xs → xs[i]? = some y := by
      intro cs
      induction cs with
      | nil => intro vs lv _ _; cases vs with | nil => exact ⟨[], .nil, fun j c y h => by simp at h⟩ | cons _ _ => simp at lv
      | cons c cs ih =>
        intro vs lv hv hcs
        cases vs with
        | nil => simp at lv
        | cons v vs =>
          obtain ⟨ys, r, hy⟩ := ih vs (Nat.succ.inj lv) (fun j c' v' h1 h2 => hv (j + 1) c' v' (by simpa using h1) (by simpa using h2)) fun c' hc' => hcs c' (List.mem_cons_of_mem _ hc')
          obtain ⟨xs, hs, ⟨x, hx⟩, rx, _⟩ := hcs c (List.mem_cons_self ..)
          obtain ⟨u, hu, ru⟩ := rx.get hx
          have e1 := hv 0 c v rfl rfl
          have eu : u = v := by
            rw [Array.getElem?_toList] at hu
            rw [hu] at e1
            exact Option.some.inj e1
          subst eu
          refine ⟨x :: ys, .cons ru r, fun j c' y h1 h2 xs' hs' => ?_⟩
          cases j with
          | zero =>
            simp at h1 h2
            subst h1 h2
            rw [sqK_inj I hs' hs]
            exact hx
          | succ j => exact hy j c' y (by simpa using h1) (by simpa using h2) xs' hs'
    obtain ⟨ys, ry, hy⟩ := drawn cs vs lv hv hcs
    have ly : ys.length = cs.length := ry.length.trans lv
    have fpm : ∀ {c : Addr}, c ∉ (z :: TI :: TO :: cs.map (·.it)) → c ≠ z ∧ c ≠ TO ∧ ∀ d ∈ cs, c ≠ d.it := fun {c} hc => ⟨fun e => hc (by rw [e]; exact List.mem_cons_self ..), fun e => hc (by rw [e]; exact List.mem_cons_of_mem _ (List.mem_cons_of_mem _ (List.mem_cons_self ..))), fun d hd e => hc (by rw [e]; exact List.mem_cons_of_mem _ (List.mem_cons_of_mem _ (List.mem_cons_of_mem _ (List.mem_map.mpr ⟨d, hd, rfl⟩))))⟩
    have I1 : Inv X pins σ (upd H s.heap.objs.size (.frz { cls := .type "tuple", data := .seq vs.toArray } (.tup ys))) { s with heap := h'', toks := tk } :=
      I.turnedNew (t' := tk) (ch := z :: TI :: TO :: cs.map (·.it)) (fun c o hb q => (sb'.2 c (fpm hb).1).trans (hk c o (fpm hb).1 (fpm hb).2.1 (fpm hb).2.2 q)) hf (Nat.le_refl _) (frz_tup (by rw [ly, sizeLine_eq]; have := D.few; rw [List.length_map] at this; omega) ry hT2)
    refine ⟨.ref s.heap.objs.size, _, I1, rfl, ⟨_, ys, _, rfl, I.hok.fresh (Nat.le_refl _), rfl, rfl, by rw [ly, List.length_map], fun j p y hp hy2 xs hs => ?_⟩, ⟨z'', ?_, ⟨vs, by rw [lv, List.length_map], (sb'.2 _ S.TOz).trans TO'⟩, fun j t p hj hp => ?_⟩, fun c hcm => ?_⟩
    · rw [List.getElem?_map] at hp
      cases ec : cs[j]? with
      | none => rw [ec] at hp; cases hp
      | some c =>
        rw [ec] at hp
        cases hp
        exact hy j c y ec hy2 xs hs
    · exact (sb'.2 _ S.TIz).trans (hk _ _ S.TIz S.TITO (fun d hd => S.TIc d hd) hTI)
    · rw [List.getElem?_map] at hj hp
      cases ec : cs[j]? with
      | none => rw [ec] at hj; cases hj
      | some c =>
        rw [ec] at hj hp
        cases hj
        cases hp
        have mc := List.mem_of_getElem? ec
        exact itS_keep (sts' c mc).1 fun o q => (sb'.2 _ (Ne.symm (S.zc c mc).1)).trans q
    · have hlt : c < s.heap.objs.size := by
        rcases List.mem_cons.mp hcm with rfl | hcm
        · exact hzl
        rcases List.mem_cons.mp hcm with rfl | hcm
        · exact Heap.lt_size hTI
        rcases List.mem_cons.mp hcm with rfl | hcm
        · exact Heap.lt_size hTO
        obtain ⟨d, hd, rfl⟩ := List.mem_map.mp hcm
        obtain ⟨o, e, _⟩ := itS_obj (sts d hd).1
        exact Heap.lt_size e
      rw [upd_ne (Nat.ne_of_lt hlt)]
      exact (hf c hcm).1
  done := by
    intro X hP hw hK hc i pins s σ H E I hf st hg
    subst hP hw hK
    obtain ⟨hz, hTI, ⟨olds, lo, hTO⟩, hi⟩ := st
    obtain ⟨hall, p0, hp0, xs0, hs0, hl0⟩ := hg
    obtain ⟨cs, e1, e2, hcs⟩ := zcs I (fun xs => i ≤ xs.length) ts ps D.len hall
    subst e1 e2
    have S := apt_sep D
    have gc : ∀ (j : Nat) (c : Zc), cs[j]? = some c → (cs.map (·.it))[j]? = some c.it ∧ (cs.map fun c => (c.b, c.l))[j]? = some (c.b, c.l) := fun j c h => by
      rw [List.getElem?_map, List.getElem?_map, h]
      exact ⟨rfl, rfl⟩
    have sts : ∀ c ∈ cs, c.st i s.heap := fun c mc => by
      obtain ⟨j, hj, e⟩ := List.getElem_of_mem mc
      have hc : cs[j]? = some c := by rw [List.getElem?_eq_getElem hj, e]
      obtain ⟨xs, _, _, _, hq⟩ := hcs c mc
      exact ⟨hi j c.it (c.b, c.l) (gc j c hc).1 (gc j c hc).2, hq⟩
    have les : ∀ c ∈ cs, i ≤ c.xs.size := fun c mc => by
      obtain ⟨xs, _, hx, r, _⟩ := hcs c mc
      have e : xs.length = c.xs.size := by rw [Vals.length r, Array.length_toList]
      omega
    have hend : ∃ c ∈ cs, i = c.xs.size := by
      obtain ⟨c, mc, rfl⟩ := List.mem_map.mp hp0
      obtain ⟨xs, hs, hx, r, _⟩ := hcs c mc
      have e : xs.length = c.xs.size := by rw [Vals.length r, Array.length_toList]
      rw [sqK_inj I hs0 hs] at hl0
      exact ⟨c, mc, by omega⟩
    have h0 : cs ≠ [] := fun e => D.one (by rw [e]; rfl)
    have hTI' : TupO s.heap TI (cs.map fun c => .ref c.it) := by rw [List.map_map] at hTI; exact hTI
    refine nextN_end (I.ok.hd hc) S h0 hz hTI' hTO (by rw [lo, List.length_map]) (by have := D.few; rw [List.length_map] at this; exact this) sts les hend fun h' tk hk => ⟨rfl, I.turnedL (t' := tk) (ch := z :: TI :: TO :: cs.map (·.it)) (fun c o hb q => hk c o (fun e => hb (by rw [e]; exact List.mem_cons_self ..)) (fun e => hb (by rw [e]; exact List.mem_cons_of_mem _ (List.mem_cons_of_mem _ (List.mem_cons_self ..)))) (fun d hd e => hb (by rw [e]; exact List.mem_cons_of_mem _ (List.mem_cons_of_mem _ (List.mem_cons_of_mem _ (List.mem_map.mpr ⟨d, hd, rfl⟩))))) q) hf⟩
  self := fun A i s Q E st h => wpAny_pyIter_zip st.1 h
end Den

namespace Den
open PySem PySem.Spec PyProof.Rows L2 Bal
/-! ### what zip tells -/
def minL : List (List W) → Nat
  | [] => 0
  | [l] => l.length
  | l :: r => min l.length (minL r)
def atR (i : Nat) : List (List W) → List W
  | [] => []
  | l :: r => (l[i]?.getD .non) :: atR i r
def zipL (ls : List (List W)) : List W := (List.range (minL ls)).map fun i => .tup (atR i ls)
theorem minL_le : ∀ {ls : List (List W)} {l : List W}, l ∈ ls → minL ls ≤ l.length
  | [l], _, h => by simp at h; subst h; exact Nat.le_refl _
  | l :: m :: r, k, h => by
    rcases List.mem_cons.mp h with rfl | h
    · exact Nat.min_le_left ..
    · exact Nat.le_trans (Nat.min_le_right ..) (minL_le (ls := m :: r) h)
theorem minL_eq : ∀ {ls : List (List W)}, ls ≠ [] → ∃ l ∈ ls, minL ls = l.length
  | [], h => absurd rfl h
  | [l], _ => ⟨l, List.mem_cons_self .., rfl⟩
  | l :: m :: r, _ => by
    obtain ⟨k, hk, e⟩ := minL_eq (ls := m :: r) (by simp)
    show ∃ l' : List W, l' ∈ l :: m :: r ∧ min l.length (minL (m :: r)) = l'.length
    rcases Nat.le_total l.length (minL (m :: r)) with h | h
    · exact ⟨l, List.mem_cons_self .., by rw [Nat.min_eq_left h]⟩
    · exact ⟨k, List.mem_cons_of_mem _ hk, by rw [Nat.min_eq_right h]; exact e⟩
/-- an argument of zip, as it is walked -/
def ArgSv (Γ : Gm) (p : Bool × Addr) (ws : List W) (keep : List Nat) (H0 : Hp) (μ0 : List Addr) (S0 : Store) : Prop := ws.length ≤ sizeLine ∧ ∀ {Γ' : Gm} H μ S, Γ'.K = Γ.K → Gr H0 μ0 H μ → Ok Γ' H μ S → (∀ n ∈ keep, S[n]? = S0[n]?) → (∀ v w, Rp Γ H0 μ0 v w → Rp Γ' H μ v w) → ∃ xs, SqK Γ.K H p xs ∧ Rps Γ' H μ xs ws
def sqI (S : Store) : List W → Option (List (List W) × List Nat)
  | [] => some ([], [])
  | w :: ws => match seqI S w, sqI S ws with
    | some (a, k), some (r, m) => some (a :: r, k ++ m)
    | _, _ => none
theorem arg_one {Γ : Gm} {H0 : Hp} {μ0 : List Addr} {S0 : Store} (k0 : Ok Γ H0 μ0 S0) {v : V} {w : W} {ws : List W} {keep : List Nat} (r : Rp Γ H0 μ0 v w) (e : seqI S0 w = some (ws, keep)) : ∃ p : Bool × Addr, v = .ref p.2 ∧ (∃ xs, SqK Γ.K H0 p xs) ∧ ArgSv Γ p ws keep H0 μ0 S0 := by
  have rsU : ∀ {Γ' : Gm} {H : Hp} {μ : List Addr}, (∀ v w, Rp Γ H0 μ0 v w → Rp Γ' H μ v w) → ∀ {xs : List V} {ws : List W}, Rps Γ H0 μ0 xs ws → Rps Γ' H μ xs ws := fun {Γ' H μ} up => by
    intro xs
    induction xs with
    | nil => intro ws r; cases r; exact .nil
    | cons x xs ih => intro ws r; cases r with | cons a b => exact .cons (up _ _ a) (ih b)
  cases r with
  | @tup a xs us h l q =>
    cases e
    exact ⟨(false, a), rfl, ⟨xs, h.sq⟩, by rw [← q.len]; exact l, fun {Γ'} H μ S hK g k _ up => ⟨xs, (h.gr g).sq, rsU up q⟩⟩
  | @cl a xs us h n m l q =>
    cases e
    exact ⟨(true, a), rfl, ⟨xs, .inl (.inl h)⟩, by rw [← q.len]; exact l, fun {Γ'} H μ S hK g k _ up => ⟨xs, .inl (.inl (g.keep _ _ h n).1), rsU up q⟩⟩
  | @lst a n h hq =>
    obtain ⟨xs, us, e1, e2, l, q⟩ := k0.lat h hq
    have e : (S0[n]?).map (fun ws => (ws, [n])) = some (ws, keep) := e
    rw [e1] at e
    cases e
    refine ⟨(true, a), rfl, ⟨xs, .inl (.inl e2)⟩, by rw [← q.len]; exact l, fun {Γ'} H μ S hK g k hk up => ?_⟩
    obtain ⟨ys, vs, e3, e4, l4, q4⟩ := k.lat (g.get h) (g.kind _ _ (List.mem_of_getElem? h) hq)
    rw [hk n (List.mem_singleton.mpr rfl), e1] at e3
    cases e3
    exact ⟨ys, .inl (.inl e4), q4⟩
  | _ => cases e
theorem args_all {Γ : Gm} {H0 : Hp} {μ0 : List Addr} {S0 : Store} (k0 : Ok Γ H0 μ0 S0) : ∀ {vs : List V} {ws : List W} {ls : List (List W)} {keep : List Nat}, Rps Γ H0 μ0 vs ws → sqI S0 ws = some (ls, keep) →
    ∃ ps : List (Bool × Addr), vs = ps.map (fun p => .ref p.2) ∧ ps.length = ls.length ∧ ∀ (j : Nat) (p : Bool × Addr) (l : List W), ps[j]? = some p → ls[j]? = some l → (∃ xs, SqK Γ.K H0 p xs) ∧ ArgSv Γ p l keep H0 μ0 S0
  | _, _, ls, keep, .nil, e => by
    cases e
    exact ⟨[], rfl, rfl, fun j p l h => by simp at h⟩
  | _, _, ls, keep, .cons (w := w) (ws := ws) a b, e => by
    unfold sqI at e
    cases e1 : seqI S0 w with
    | none => rw [e1] at e; cases e
    | some x =>
      cases e2 : sqI S0 ws with
      | none => rw [e1, e2] at e; cases e
      | some y =>
        obtain ⟨x1, x2⟩ := x
        obtain ⟨y1, y2⟩ := y
        rw [e1, e2] at e
        cases e
        obtain ⟨p, rfl, hp, sv⟩ := arg_one k0 a e1
        obtain ⟨ps, rfl, hl, hs⟩ := args_all k0 b e2
        refine ⟨p :: ps, rfl, by simp [hl], fun j q l hq hl => ?_⟩
        cases j with
        | zero =>
          simp at hq hl
          subst hq hl
          exact ⟨hp, sv.1, fun {Γ'} H μ S hK g k hk up => sv.2 H μ S hK g k (fun n hn => hk n (List.mem_append_left _ hn)) up⟩
        | succ j =>
          obtain ⟨h1, h2⟩ := hs j q l (by simpa using hq) (by simpa using hl)
          exact ⟨h1, h2.1, fun {Γ'} H μ S hK g k hk up => h2.2 H μ S hK g k (fun n hn => hk n (List.mem_append_right _ hn)) up⟩
/-- zip serves the rows -/
theorem srv_zip {Γ : Gm} {H0 : Hp} {μ0 : List Addr} {S0 : Store} {ps : List (Bool × Addr)} {ls : List (List W)} {keep : List Nat} (hl : ps.length = ls.length) (h0 : ps ≠ []) (hf : ps.length ≤ 100) (hs : ∀ (j : Nat) (p : Bool × Addr) (l : List W), ps[j]? = some p → ls[j]? = some l → ArgSv Γ p l keep H0 μ0 S0) : Srv Γ (ItN Γ.K ps) (zipL ls) keep H0 μ0 S0 := by
  have hz : (zipL ls).length = minL ls := by unfold zipL; rw [List.length_map, List.length_range]
  have h1 : ls ≠ [] := fun e => h0 (by rw [e] at hl; exact List.eq_nil_of_length_eq_zero hl)
  obtain ⟨l0, ml0, el0⟩ := minL_eq h1
  have pl : ∀ p ∈ ps, ∃ l ∈ ls, ArgSv Γ p l keep H0 μ0 S0 := fun p mp => by
    obtain ⟨j, hj, e⟩ := List.getElem_of_mem mp
    have hj2 : j < ls.length := by omega
    exact ⟨ls[j], List.getElem_mem hj2, hs j p ls[j] (by rw [List.getElem?_eq_getElem hj, e]) (List.getElem?_eq_getElem hj2)⟩
  have lp : ∀ l ∈ ls, ∃ p ∈ ps, ArgSv Γ p l keep H0 μ0 S0 := fun l ml => by
    obtain ⟨j, hj, e⟩ := List.getElem_of_mem ml
    have hj2 : j < ps.length := by omega
    exact ⟨ps[j], List.getElem_mem hj2, hs j ps[j] l (List.getElem?_eq_getElem hj2) (by rw [List.getElem?_eq_getElem hj, e])⟩
  refine ⟨?_, fun {Γ'} H μ S hK g k hk up => ?_⟩
  · rw [hz, el0]
    obtain ⟨p, _, sv⟩ := lp l0 ml0
    exact sv.1
  rw [hz]
  refine ⟨fun i hi => ⟨fun p mp => ?_, fun x H' y => ?_⟩, fun p mp => ?_, ?_⟩
  · obtain ⟨l, ml, sv⟩ := pl p mp
    obtain ⟨xs, h2, r⟩ := sv.2 H μ S hK g k hk up
    have hlt : i < xs.length := by
      rw [r.len]
      exact Nat.lt_of_lt_of_le hi (minL_le ml)
    exact ⟨xs, xs[i], h2, List.getElem?_eq_getElem hlt⟩
  · obtain ⟨T, ys, o, rfl, nT, ho, rfl, ly, hy⟩ := y
    refine ⟨.tup (atR i ls), ?_, sm_upd nT, ?_⟩
    · unfold zipL
      rw [List.getElem?_map, List.getElem?_range hi]
      rfl
    · have rr : ∀ (ps : List (Bool × Addr)) (ls : List (List W)) (ys : List V), ps.length = ls.length → ys.length = ps.length → (∀ l ∈ ls, i < l.length) → (∀ (j : Nat) (p : Bool × Addr) (l : List W), ps[j]? = some p → ls[j]? = some l → ArgSv Γ p l keep H0 μ0 S0) → (∀ (j : Nat) (p : Bool × Addr) (y : V), ps[j]? = some p → ys[j]? = some y → ∀ xs, SqK Γ.K H p xs → xs[i]? = some y) → Rps Γ' H μ ys (atR i ls) := by
        intro ps
        induction ps with
        | nil =>
          intro ls ys h1 h2 _ _ _
          cases ls with
          | nil => cases ys with | nil => exact .nil | cons _ _ => simp at h2
          | cons _ _ => simp at h1
        | cons p ps ih =>
          intro ls ys h1 h2 hlt hs hy
          cases ls with
          | nil => simp at h1
          | cons l ls =>
            cases ys with
            | nil => simp at h2
            | cons y ys =>
              obtain ⟨xs, h3, r⟩ := (hs 0 p l rfl rfl).2 H μ S hK g k hk up
              have e := hy 0 p y rfl rfl xs h3
              obtain ⟨w, e2, r2⟩ := r.get e
              refine .cons ?_ (ih ls ys (Nat.succ.inj h1) (Nat.succ.inj h2) (fun l hl => hlt l (List.mem_cons_of_mem _ hl)) (fun j p l a b => hs (j + 1) p l (by simpa using a) (by simpa using b)) (fun j p y a b => hy (j + 1) p y (by simpa using a) (by simpa using b)))
              rw [e2]
              exact r2
      have r := rr ps ls ys hl ly (fun l ml => Nat.lt_of_lt_of_le hi (minL_le ml)) hs hy
      exact (new_tup k nT ho (by rw [ly, sizeLine_eq]; omega) r).2.2
  · obtain ⟨l, ml, sv⟩ := pl p mp
    obtain ⟨xs, h2, r⟩ := sv.2 H μ S hK g k hk up
    exact ⟨xs, h2, by rw [r.len]; exact minL_le ml⟩
  · obtain ⟨p, mp, sv⟩ := lp l0 ml0
    obtain ⟨xs, h2, r⟩ := sv.2 H μ S hK g k hk up
    exact ⟨p, mp, xs, h2, by rw [r.len, el0]; exact Nat.le_refl _⟩
def zipI (n : Nat) (S : Store) (ws : List W) : Option (List W × List Nat) := if ws.length = n then (match sqI S ws with
  | some (ls, keep) => some (zipL ls, keep)
  | none => none) else none
def iZip (n : Nat) (d : DA) : DI := fun ρ => bnd (d ρ) fun ws => rdI fun S => zipI n S ws
/-! ### zip is made -/
def itO : Bool × Addr → Obj
  | (true, l) => { cls := .type "list_iterator", data := .fields #[.ref l, .int 0 0] }
  | (false, l) => { cls := .type "tuple_iterator", data := .fields #[.ref l, .int 0 0] }
theorem beg (p : Bool × Addr) (items : Array Value) : Begins (.ref p.2) (itO p) fun h => sqS p.1 h p.2 items := by
  obtain ⟨b, a⟩ := p
  cases b with
  | true => exact begins_list a items
  | false => exact begins_tuple a items
theorem itO_at {p : Bool × Addr} {h : Heap} {t : Addr} (e : h.get? t = some (itO p)) : itS p.1 h t p.2 0 := by
  obtain ⟨b, a⟩ := p
  cases b with
  | true => exact ⟨_, e, rfl, rfl⟩
  | false => exact ⟨_, e, rfl, rfl⟩
section
variable {X : Cx} {pins : List (Addr × Obj)} {σ : L2.St} {H : Hp} {s : Shared}
theorem adn {a b : Nat} (h : a < b ∨ b < a) : (show Addr from a) ≠ (show Addr from b) := fun e => by
  have e : a = b := e
  omega
theorem apt_new {N : Nat} {ps : List (Bool × Addr)} (h : ∀ p ∈ ps, p.2 < N) (h0 : ps ≠ []) (hf : ps.length ≤ 100) : Apt (N + ps.length + 2) (N + ps.length) (N + ps.length + 1) ((List.range ps.length).map (N + ·)) ps where
  len := by simp
  few := by simpa using hf
  one := fun e => h0 (by
    have := congrArg List.length e
    simp at this
    exact this)
  TIz := adn (.inl (by omega))
  TOz := adn (.inl (by omega))
  TITO := adn (.inl (by omega))
  zt := fun e => by
    obtain ⟨j, hj, e⟩ := List.mem_map.mp e
    have := List.mem_range.mp hj
    exact adn (.inl (by omega)) e
  It := fun e => by
    obtain ⟨j, hj, e⟩ := List.mem_map.mp e
    have := List.mem_range.mp hj
    exact adn (.inl (by omega)) e
  Ot := fun e => by
    obtain ⟨j, hj, e⟩ := List.mem_map.mp e
    have := List.mem_range.mp hj
    exact adn (.inl (by omega)) e
  nd := by
    rw [List.nodup_iff_pairwise_ne]
    exact List.Pairwise.map _ (fun a b h e => h (Nat.add_left_cancel (show (N + a : Nat) = N + b from e))) List.nodup_range
  pz := fun p hp => by
    have h1 := h p hp
    refine ⟨adn (.inl (Nat.lt_of_lt_of_le h1 (by omega))), adn (.inl (Nat.lt_of_lt_of_le h1 (by omega))), fun e => ?_⟩
    obtain ⟨j, hj, e⟩ := List.mem_map.mp e
    exact adn (.inr (Nat.lt_of_lt_of_le h1 (Nat.le_add_right ..))) e
theorem pie_zip {elts : List Expr} {kk : Nat} {tpos : Pos} {R : It → Hp → Prop} {E : Value → Shared → Prop} {ps : List (Bool × Addr)} {h' : Heap} (I : Inv X pins σ H s) (hp : ∀ p ∈ ps, ∃ xs, SqK X.K H p xs) (h0 : ps ≠ []) (hf : ps.length ≤ 100) (hz : IsZip h' (s.heap.objs.size + ps.length + 2) (s.heap.objs.size + ps.length) (s.heap.objs.size + ps.length + 1) .none)
    (hTI : TupO h' (s.heap.objs.size + ps.length) (((List.range ps.length).map (s.heap.objs.size + ·)).map .ref)) (hTO : TupO h' (s.heap.objs.size + ps.length + 1) (List.replicate ps.length .none)) (hi : ∀ (j : Nat) (p : Bool × Addr), ps[j]? = some p → h'.get? (s.heap.objs.size + j) = some (itO p)) (kp : ∀ c o, s.heap.get? c = some o → h'.get? c = some o) (q : R (ItN X.K ps) H) :
    wpAny (model X.prog X.w) X.A (pyIter (.ref (s.heap.objs.size + ps.length + 2))) (PIE X pins σ (.Tuple elts kk tpos) R) E { s with heap := h' } := by
  refine wpAny_pyIter_zip hz ?_
  have I2 : Inv X pins σ H { s with heap := h' } := I.kept (t' := s.toks) kp
  refine ⟨_, _, _, _, H, rfl, I2, turnN (apt_new (fun p mp => let ⟨xs, hx⟩ := hp p mp; (sqK_obj I hx).choose_spec.2.2) h0 hf), ⟨hz, hTI, ⟨_, by simp, hTO⟩, fun j t p hj hpj => ?_⟩, fun b hb => ?_, q⟩
  · rw [List.getElem?_map] at hj
    have hjl : j < ps.length := (List.getElem?_eq_some_iff.mp hpj).1
    rw [List.getElem?_range hjl] at hj
    cases hj
    exact itO_at (hi j p hpj)
  · have hle : s.heap.objs.size ≤ b := by
      rcases List.mem_cons.mp hb with rfl | hb
      · omega
      rcases List.mem_cons.mp hb with rfl | hb
      · omega
      rcases List.mem_cons.mp hb with rfl | hb
      · omega
      obtain ⟨j, _, rfl⟩ := List.mem_map.mp hb
      exact Nat.le_add_right ..
    exact I.fpOk hle (I.hok.fresh hle)
end
section
variable {X : Cx} {E : L2.St → XK} {e1 e2 e3 e4 : Expr} {p pos tpos : Pos} {elts : List Expr} {kk : Nat} {d : DA}
theorem zip_go {σ : L2.St} {δ : List Addr} {H1 : Hp} {μ1 : List Addr} {S1 : Store} {ws : List W} {vs : List V} {R : It → Hp → Prop} {n : Nat} (k1 : Ok ⟨X.K, X.mg, δ⟩ H1 μ1 S1) (rs : Rps ⟨X.K, X.mg, δ⟩ H1 μ1 vs ws) (h0 : 0 < n) (hf : n ≤ 100)
    (h1 : Res ⟨X.K, X.mg, δ⟩ (E σ) H1 μ1 (rdI (fun S => zipI n S ws) S1) fun x H' μ' S' => ∀ J, Srv ⟨X.K, X.mg, δ⟩ J x.1 x.2 H' μ' S' → R J H') :
    ∃ ps : List (Bool × Addr), vs = ps.map (fun p => .ref p.2) ∧ ps.length = n ∧ (∀ p ∈ ps, ∃ xs, SqK X.K H1 p xs) ∧ R (ItN X.K ps) H1 := by
  unfold rdI zipI at h1
  by_cases hn : ws.length = n
  · simp only [hn, if_true] at h1
    cases e : sqI S1 ws with
    | none => simp only [e] at h1; exact h1.elim
    | some y =>
      obtain ⟨ls, keep⟩ := y
      simp only [e] at h1
      obtain ⟨ps, ev, hl, hs⟩ := args_all k1 rs e
      have hpn : ps.length = n := by rw [← hn, ← rs.len, ev, List.length_map]
      refine ⟨ps, ev, hpn, fun q mq => ?_, Res.now k1 h1 _ (srv_zip hl (fun z => by rw [z] at hpn; simp at hpn; omega) (by omega) fun j p l hp hl2 => (hs j p l hp hl2).2)⟩
      obtain ⟨j, hj, ej⟩ := List.getElem_of_mem mq
      have hj2 : j < ls.length := by omega
      exact (hs j q ls[j] (by rw [List.getElem?_eq_getElem hj, ej]) (List.getElem?_eq_getElem hj2)).1
  · simp only [hn, if_false] at h1
    exact h1.elim
def ZQ (X : Cx) (n : Nat) (R : It → Hp → Prop) (vs : List V) (H1 : Hp) : Prop := ∃ ps : List (Bool × Addr), vs = ps.map (fun p => .ref p.2) ∧ ps.length = n ∧ (∀ p ∈ ps, ∃ xs, SqK X.K H1 p xs) ∧ R (ItN X.K ps) H1
theorem zip_args {n : Nat} (h0 : 0 < n) (hf : n ≤ 100) {σ : L2.St} {H : Hp} {R : It → Hp → Prop} (h : iOf X.K X.mg E (iZip n d) σ H R) : taOf X.K X.mg E d σ H (ZQ X n R) := by
  obtain ⟨δ, μ, S, ρ, k, sσ, h⟩ := h
  exact ⟨δ, μ, S, ρ, k, sσ, Res.step h fun ws S1 H1 μ1 g1 k1 h1 vs rs => zip_go k1 rs h0 hf h1⟩
/-- zip(a, b) -/
theorem di_zip2 (hg : Gl X "zip") (hm : X.mg "zip" = none) (ha : PDA X E [e1, e2] d) (hs : starEach [e1, e2] X.env = (false, eval e1 X.env) :: starEach [e2] X.env := by rfl) (hpl : (backTo pos (starEach [e2] X.env)).any (·.1) = false := by rfl) : PI X (.Tuple elts kk tpos) (.Call (.Name "zip" p) [e1, e2] [] pos) (iOf X.K X.mg E (iZip 2 d)) := by
  refine ⟨fun pins s σ H R I h => ?_⟩
  refine Call_ (ld_blt I hg hm PyProof.Rows.boot_zip (PyProof.Rows.callWith_type1 (thn (ha.run pos pins s σ H (ZQ X 2 R) I (zip_args (by decide) (by decide) h)) fun us s1 ⟨vs, H1, I1, r1, ps, ev, hl, hp, q⟩ => ?_) hs hpl))
  match ps, hl with
  | [p1, p2], _ =>
    subst ev
    cases r1 with
    | cons r rr =>
      cases rr with
      | cons r' rr =>
        cases rr
        cases r
        cases r'
        obtain ⟨xs1, h1⟩ := hp p1 (by simp)
        obtain ⟨xs2, h2⟩ := hp p2 (by simp)
        obtain ⟨i1, _, q1, _⟩ := sqK_obj I1 h1
        obtain ⟨i2, _, q2, _⟩ := sqK_obj I1 h2
        refine zip_begins2 (beg p1 _) (beg p2 _) q1 q2 fun h' hz hTI hTO g1 g2 _ kp => ?_
        exact pie_zip (ps := [p1, p2]) I1 hp (by simp) (by show 2 ≤ 100; decide) hz hTI hTO (fun j p hj => match j, hj with | 0, hj => by cases hj; exact g1 | 1, hj => by cases hj; exact g2 | n + 2, hj => by simp at hj) kp q
end
end Den

namespace Den
open PySem PySem.Spec PyProof.Rows L2 Bal
/-! ### zip of two, its rows kept -/
end Den

namespace Den
open PySem PySem.Spec PyProof.Rows L2 Bal
/-! ### list(zip(a, b)) -/
end Den

namespace Den
open PySem PySem.Spec PyProof.Rows L2 Bal
/-! ### many new things seen at once -/
end Den

namespace Den
open PySem PySem.Spec PyProof.Rows L2 Bal
/-! ### zip of four -/
end Den

namespace Den
open PySem PySem.Spec PyProof.Rows L2 Bal
/-! ### max, min of numbers in a row -/
section
variable {K : PySem.W.Frag} {mg : Str → Option Value}
def fMaxS (S : Store) : List W → Option W
  | [w] => match intsOf S w with
    | some (n :: ns) => some (.int (ns.foldl max n))
    | _ => none
  | _ => none
theorem fMaxS_ok : OpN K mg (fun xs H Q => rMaxT K xs H Q ∨ rMax K xs H Q) fMaxS := by
  intro δ H μ S vs xs w Q k rs e q
  match xs, e with
  | [x], e =>
    obtain ⟨v, rfl, rx⟩ := rs.one rfl
    have e : (match intsOf S x with | some (n :: ns) => some (W.int (ns.foldl max n)) | _ => none) = some w := e
    cases e1 : intsOf S x with
    | none => rw [e1] at e; cases e
    | some ns =>
      rw [e1] at e
      cases ns with
      | nil => cases e
      | cons n ns =>
        cases e
        unfold intsOf at e1
        cases e2 : itmsS S x with
        | none => rw [e2] at e1; cases e1
        | some ws =>
          rw [e2] at e1
          obtain ⟨p, ys, rfl, h, l, r⟩ := rx.seq k e2
          obtain ⟨rfl, _⟩ := inT_ok r e1
          obtain ⟨m1, m2⟩ := Bal.fold_max ns n
          have fin : ∀ m, m ∈ n :: ns → (∀ y, y ∈ n :: ns → y ≤ m) → Q (.int m) H := fun m h1 h2 => by
            have : m = ns.foldl max n := Int.le_antisymm (m2 m h1) (h2 _ m1)
            rw [this]
            exact q _ _ Gr.refl k (.int _)
          rcases h with h | h
          · exact .inl ⟨p, n :: ns, rfl, h, by simp, fin⟩
          · exact .inr ⟨p, n :: ns, rfl, h, by simp, fin⟩
end
section
variable {X : Cx}
theorem cr_maxS (hc : X.calm = true) (hu : X.A.units + 1 < cLine) : CallR X (.builtin "max") (fun xs H Q => rMaxT X.K xs H Q ∨ rMax X.K xs H Q) := CallR.or (cr_maxT hc hu) (cr_max hc)
end
end Den

namespace Den
open PySem PySem.Spec PyProof.Rows L2 Bal
theorem un65 {k : Nat} {A : Around} (r : Room k A) : A.units + 65 < cLine := by have := r.un; omega
theorem passes {X : Cx} {K : Value → Shared → Prop} {E₁ : Value → Shared → Prop} (hx : X.xe = fun e s' => wpAny (model X.prog X.w) X.A (leaving X.env e) (fun _ s'' => K e s'') E₁ s') : PassesOwn (model X.prog X.w) X.A X.env X.xe := passes_of hx
theorem pt_wordAnd {X : Cx} {e : Expr} {t : TT} (h : PW X e t) : PT X e t := h.pt
theorem pt_wordOr {X : Cx} {e : Expr} {t : TT} (h : PW X e t) : PT X e t := h.pt
/-- nothing is said of what it tells -/
theorem fn_bad {P : Program} {w : World} {K : PySem.W.Frag} {mg : Str → Option Value} {base : Heap} {x qual : Str} {st : Stmt} {f : Addr} {fd : FuncData} {N ps : List Str} {k : Nat} (F : Fun K x qual st f fd) (S : FnScope N ps (defScope st)) : FnOk P w K mg base (L2.CX P w) (k + 1) f fd ps (spD K mg ps.length fun _ _ => .bad) :=
  F.okX S (fun vs H Q E h => h.1) fun cdv A outer s H vs Q E hr h => by
    obtain ⟨_, δ, μ, T, ws, ok, rs, h⟩ := h
    exact h.elim
end Den

namespace Den
open PySem PySem.Spec PyProof.Rows L2 Bal
/-! ### how functions are worked out -/
theorem srt_eq {ns ms : List Int} (p : ms.Perm ns) (h : ms.Pairwise (· ≤ ·)) : srt ns = ms := (srt_uniq p h).symm
theorem pGt_ap (i j : Int) : pGt i j = decide (j < i) := rfl
theorem pLt_ap (i j : Int) : pLt i j = decide (i < j) := rfl
theorem pGe_ap (i j : Int) : pGe i j = decide (j ≤ i) := rfl
end Den

namespace Den
open PySem PySem.Spec PyProof.Rows L2 Bal
def iW (ns : List Int) : List W := ns.map .int
@[simp] theorem fil_yes {α : Type} : ∀ l : List α, l.filter (fun _ => true) = l
  | [] => rfl
  | x :: l => by rw [List.filter_cons_of_pos rfl, fil_yes l]
theorem iW_cons (n : Int) (ns : List Int) : iW (n :: ns) = .int n :: iW ns := rfl
@[simp] theorem iW_len (ns : List Int) : (iW ns).length = ns.length := by simp [iW]
@[simp] theorem iW_rev (ns : List Int) : (iW ns).reverse = iW ns.reverse := by simp [iW]
@[simp] theorem inT_iW : ∀ ns : List Int, inT (iW ns) = some ns
  | [] => rfl
  | n :: ns => by
    have ih := inT_iW ns
    show (inT (iW ns)).map (n :: ·) = _
    rw [ih]
    rfl
theorem lc_iW {i : Nat} {tt : DT} {de : DE} {ρ : En} {S : Store} (p : Int → Bool) (f : Int → W) : ∀ ns : List Int, (∀ n ∈ ns, tt (ρ.set i (some (.int n))) S = .ok (p n) S ∧ (p n = true → de (ρ.set i (some (.int n))) S = .ok (f n) S)) → lcL (.nm i) tt de ρ S [] (iW ns) S = .ok ((ns.filter p).map f) S
  | [], _ => rfl
  | n :: ns, h => by
    have e : iW (n :: ns) = .int n :: iW ns := rfl
    rw [e]
    have ih := lc_iW p f ns fun m hm => h m (List.mem_cons_of_mem _ hm)
    obtain ⟨h1, h2⟩ := h n (List.mem_cons_self ..)
    cases hp : p n with
    | true =>
      have h2 := h2 hp
      rw [hp] at h1
      simp [lcL, setT, h1, h2, ih, hp]
    | false =>
      rw [hp] at h1
      simp [lcL, setT, h1, ih, hp]
theorem in_iW (S : Store) (w : Int) (r : List Int) : inW S (.int w) (.tup (iW r)) = some (decide (w ∈ r)) := by
  have h1 : flWs (iW r) = some (r.map V.int) := by
    induction r with
    | nil => rfl
    | cons x r ih =>
      have ih : flWs (List.map W.int r) = some (List.map V.int r) := ih
      show (match flW (.int x), flWs (List.map W.int r) with | some v, some vs => some (v :: vs) | _, _ => none) = _
      simp [flW, ih]
  have h2 : inV (.int w) (r.map V.int) = decide (w ∈ r) := by
    clear h1
    induction r with
    | nil => rfl
    | cons x r ih =>
      unfold inV at ih ⊢
      rw [List.map_cons, List.any_cons, ih]
      by_cases hx : x = w
      · subst hx
        simp [eqV]
      · have hw : ¬ w = x := fun z => hx z.symm
        simp [eqV, hx, hw]
  unfold inW
  simp only [itmsS, h1, flW, h2]
theorem cut_to (r : List Int) (k : Nat) (h : k ≤ r.length) : cutW (iW r) none (some (k : Int)) = iW (r.take k) := by
  unfold cutW
  rw [HT.sIx_nat, HT.sIx_none]
  simp [iW, Nat.min_eq_left h]
theorem cut_from (r : List Int) (k : Nat) (h : k ≤ r.length) : cutW (iW r) (some (k : Int)) none = iW (r.drop k) := by
  unfold cutW
  rw [HT.sIx_nat, HT.sIx_none]
  simp [iW, Nat.min_eq_left h, List.take_of_length_le]
end Den

namespace Den
open PySem PySem.Spec PyProof.Rows L2 Bal
theorem lc_all {t : Tg} {de : DE} {ρ : En} {S : Store} {keep : List Nat} (hk : kept S S keep = true) (u : W) : ∀ ws : List W, (∀ w ∈ ws, ∃ ρ1, setT S t w ρ = some ρ1 ∧ de ρ1 S = .ok u S) → lcL t dYes de ρ S keep ws S = .ok (List.replicate ws.length u) S
  | [], _ => rfl
  | w :: ws, h => by
    have ih := lc_all hk u ws fun m hm => h m (List.mem_cons_of_mem _ hm)
    obtain ⟨ρ1, h0, h2⟩ := h w (List.mem_cons_self ..)
    simp [lcL, h0, h2, ih, dYes, ret, hk, List.replicate_succ]
def all2 (f : W → W → Bool) : List W → List W → Bool
  | [], [] => true
  | x :: xs, y :: ys => f x y && all2 f xs ys
  | _, _ => false
theorem all2_len {f : W → W → Bool} : ∀ {xs ys : List W}, all2 f xs ys = true → xs.length = ys.length
  | [], [], _ => rfl
  | _ :: _, _ :: _, h => by
    unfold all2 at h
    rw [Bool.and_eq_true] at h
    exact congrArg (· + 1) (all2_len h.2)
theorem all2_at {f : W → W → Bool} : ∀ {xs ys : List W}, all2 f xs ys = true → ∀ (i : Nat), i < xs.length → f (xs[i]?.getD .non) (ys[i]?.getD .non) = true
  | [], [], _, i, hi => by simp at hi
  | x :: xs, y :: ys, h, i, hi => by
    unfold all2 at h
    rw [Bool.and_eq_true] at h
    cases i with
    | zero => simpa using h.1
    | succ i => simpa using all2_at h.2 i (by simpa using hi)
/-- alike, kind by kind, lists by what they hold -/
def likeB (S : Store) : Nat → W → W → Bool
  | 0, _, _ => false
  | _ + 1, .int i, .int j => decide (i = j)
  | _ + 1, .bl i, .bl j => decide (i = j)
  | _ + 1, .str i, .str j => decide (i = j) && PyData.canLay0 (.str i)
  | n + 1, .tup xs, .tup ys => all2 (likeB S n) xs ys
  | n + 1, x, y => match lstS S x, lstS S y with
    | some xs, some ys => all2 (likeB S n) xs ys
    | _, _ => false
theorem zipL_two {xs ys : List W} (h : xs.length = ys.length) : zipL [xs, ys] = (List.range xs.length).map fun i => W.tup [xs[i]?.getD .non, ys[i]?.getD .non] := by
  unfold zipL
  have : minL [xs, ys] = xs.length := by simp [minL, h]
  rw [this]
  rfl
end Den

namespace Den
open PySem PySem.Spec PyProof.Rows L2 Bal
/-! ### dicts by numbers and texts, in the store by their pairs -/
/-- whether a dict is being walked -/
def fzB : List W → Bool
  | .tup [] :: _ => true
  | _ => false
def dgetW : List W → W → Option W
  | [], _ => none
  | .tup [k, u] :: r, y => if eqW k y = true then some u else dgetW r y
  | _ :: r, y => dgetW r y
def dsetW (y u : W) : W → W
  | .tup [k, x] => if eqW k y = true then .tup [k, u] else .tup [k, x]
  | p => p
def dputW (ws : List W) (y u : W) : List W := if (dgetW ws y).isSome = true then ws.map (dsetW y u) else ws ++ [.tup [y, u]]
section
variable {Γ : Gm} {H : Hp} {μ : List Addr} {S : Store}
theorem dget_pre {u : HO} {a : Addr} {pre ws : List W} {y : W} (h : Lk H a u pre) : dgetW (pre ++ ws) y = dgetW ws y := by
  rcases h with ⟨rfl, _⟩ | ⟨rfl, _⟩ <;> rfl
theorem DGet.rd {a : Addr} {kvs : List (Key × V)} {k : Key} (e : Rd H a (.dK kvs)) : DGet H a (kV k) (valV kvs k) := .inl ⟨kvs, k, e, rfl, rfl⟩
end
end Den

namespace Den
open PySem PySem.Spec PyProof.Rows L2 Bal
/-! ### where one belongs among those ahead -/
def tb (l : List Int) (x : Int) : Nat := (l.filter (fun i => decide (x < i))).length
abbrev Desc (l : List Int) : Prop := l.Pairwise (· > ·)
theorem tb_nil (x : Int) : tb [] x = 0 := rfl
theorem tb_cons (a : Int) (l : List Int) (x : Int) : tb (a :: l) x = (if x < a then 1 else 0) + tb l x := by
  unfold tb
  by_cases h : x < a
  · simp [List.filter_cons, h]; omega
  · simp [List.filter_cons, h]
end Den

namespace Den
open PySem PySem.Spec PyProof.Rows L2 Bal
/-! ### the dict of how many taller ones each has ahead -/
abbrev aT : DT := dTst (dBin (fCmp pLt) (dVar 4) (dVar 5))
end Den

namespace Den
open PySem PySem.Spec PyProof.Rows L2 Bal
/-! ### the end -/
def spLaw (K : PySem.W.Frag) (mg : Str → Option Value) : Sp := fun vs H Q _ => ∃ (a : Addr) (ns : List Int), vs = [.ref a] ∧ SqL K H a (ns.map V.int) ∧ ns.length ≤ 63 ∧ LamX.Tabs (tabsOf K mg) H ∧ ∀ H', Q (.bl true) H'
theorem law_end {P : Program} {w : World} {K : PySem.W.Frag} {mg : Str → Option Value} {base : Heap} {k : Nat} {f : Addr} {fd : FuncData} {ps : List Str} {g : List W → Mo W} (hg : ∀ ns : List Int, ns.length ≤ 63 → ∃ S', g [.sc (iW ns)] [] = .ok (.bl true) S') (F : FnOk P w K mg base (L2.CX P w) k f fd ps (spD K mg 1 g)) : FnOk P w K mg base (L2.CX P w) k f fd ps (spLaw K mg) :=
  F.imp fun vs H Q E ⟨a, ns, e, hS, hl, tb, q⟩ => by
    subst e
    obtain ⟨S', e⟩ := hg ns hl
    refine ⟨rfl, [], [], [], [.sc (iW ns)], ⟨rfl, List.nodup_nil, fun _ h => (nomatch h), fun n b h => by simp at h, tb⟩, .cons (.sc (hS.imp (fun z => ⟨z, by simp, by simp⟩) id) (rps_ints ns)) .nil, ?_⟩
    rw [e]
    intro H' μ' _ _ v r
    cases r
    exact q H'
theorem cx_no {P : Program} {w : World} {l : List Env} {H : Hp} {s : Shared} {e : Value} {s' : Shared} (h : L2.CX P w l H s (fun _ _ _ => False) e s') : False := by
  obtain ⟨_, _, _, _, _, _, _, _, _, _, _, _, z⟩ := h
  exact z.elim
end Den

namespace Bal
/-! ### rows and their codes, in plain words -/
/-- how many taller ones x has ahead in l -/
def ahead (l : List Int) (x : Int) : Nat := ((l.take (l.idxOf x)).filter (fun y => decide (x < y))).length
def behind (l : List Int) (x : Int) : Nat := ((l.drop (l.idxOf x)).filter (fun y => decide (x < y))).length
/-- the same, by going along -/
def frn : List Int → Int → Nat
  | [], _ => 0
  | y :: r, x => if y = x then 0 else (if x < y then 1 else 0) + frn r x
theorem frn_ahead : ∀ (l : List Int) (x : Int), frn l x = ahead l x
  | [], x => rfl
  | y :: r, x => by
    unfold ahead
    by_cases h : y = x
    · subst h
      simp [frn]
    · have ih := frn_ahead r x
      unfold ahead at ih
      have e : (y :: r).idxOf x = r.idxOf x + 1 := by
        rw [List.idxOf_cons, beq_eq_false_iff_ne.mpr h]
        rfl
      rw [e, List.take_succ_cons, List.filter_cons]
      by_cases h2 : x < y
      · simp [frn, h, h2, ih]
        omega
      · simp [frn, h, h2, ih]
theorem split_at : ∀ {l : List Int} {x : Int}, x ∈ l → ∃ pre post, l = pre ++ x :: post ∧ x ∉ pre ∧ l.idxOf x = pre.length
  | [], x, h => by simp at h
  | y :: r, x, h => by
    by_cases e : y = x
    · subst e
      exact ⟨[], r, rfl, by simp, by simp⟩
    · have hx : x ∈ r := by
        rcases List.mem_cons.mp h with z | z
        · exact absurd z.symm e
        · exact z
      obtain ⟨pre, post, h1, h2, h3⟩ := split_at hx
      refine ⟨y :: pre, post, by rw [h1]; rfl, ?_, ?_⟩
      · intro z
        rcases List.mem_cons.mp z with z | z
        · exact e z.symm
        · exact h2 z
      · rw [List.idxOf_cons, h3, beq_eq_false_iff_ne.mpr e]
        rfl
theorem frn_app : ∀ (a b : List Int) (x : Int), x ∉ a → frn (a ++ x :: b) x = (a.filter (fun y => decide (x < y))).length
  | [], b, x, _ => by simp [frn]
  | y :: a, b, x, h => by
    have hy : y ≠ x := fun e => h (by rw [e]; exact List.mem_cons_self ..)
    have ih := frn_app a b x (fun z => h (List.mem_cons_of_mem _ z))
    show (if y = x then 0 else (if x < y then 1 else 0) + frn (a ++ x :: b) x) = _
    rw [if_neg hy, ih, List.filter_cons]
    by_cases h2 : x < y
    · simp [h2]
      omega
    · simp [h2]
theorem frn_rev {l : List Int} {x : Int} (hn : l.Nodup) (hx : x ∈ l) : frn l.reverse x = behind l x := by
  obtain ⟨pre, post, h1, h2, h3⟩ := split_at hx
  have hp : x ∉ post := by
    rw [h1] at hn
    have := (List.nodup_append.mp hn).2.1
    exact (List.nodup_cons.mp this).1
  unfold behind
  rw [h3, h1, List.drop_left, List.reverse_append, List.reverse_cons, List.append_assoc]
  show frn (post.reverse ++ x :: pre.reverse) x = _
  rw [frn_app _ _ _ (by rw [List.mem_reverse]; exact hp), List.filter_reverse, List.length_reverse, List.filter_cons]
  simp
/-- x put in at place i -/
def ins (acc : List Int) (i : Nat) (x : Int) : List Int := acc.take i ++ [x] ++ acc.drop i
/-- those of the row who are among the first i -/
def part (l F : List Int) (i : Nat) : List Int := l.filter (fun y => decide (y ∈ F.take i))
end Bal

namespace Den
open PySem PySem.Spec PyProof.Rows L2 Bal
/-! ### classes named in a row -/
end Den

namespace Den
open PySem PySem.Spec PyProof.Rows L2 Bal
/-! ### enumerate of a list or a tuple -/
/-! ### what is walked -/
end Den

namespace Den
open PySem PySem.Spec PyProof.Rows L2 Bal
/-! ### three names at once -/
section
variable {X : Cx} {E : L2.St → XK} {a b c : Expr} {pos : Pos}
theorem Rps.three {Γ : Gm} {H : Hp} {μ : List Addr} {vs : List V} {w1 w2 w3 : W} (r : Rps Γ H μ vs [w1, w2, w3]) : ∃ v1 v2 v3, vs = [v1, v2, v3] ∧ Rp Γ H μ v1 w1 ∧ Rp Γ H μ v2 w2 ∧ Rp Γ H μ v3 w3 := by
  cases r with
  | cons a r =>
    obtain ⟨v, u, rfl, b, c⟩ := r.two rfl
    exact ⟨_, v, u, rfl, a, b, c⟩
end
end Den

namespace Den
open PySem PySem.Spec PyProof.Rows L2 Bal
/-! ### repr, of small data, and the defs that ask it -/
section
variable {X : Cx} {e : Expr} {es : List Expr} {pos p : Pos} {x : Str} {k n : Nat} {f : Addr} {fd : FuncData} {ps : List Str} {g : List W → Mo W}
theorem un70 {k : Nat} {A : Around} (r : Room k A) : A.units + 70 < cLine := by have := r.un; omega
end
theorem _root_.Bal.FnG.mono {P : Program} {w : World} {K : PySem.W.Frag} {mg : Str → Option Value} {base : Heap} {k k' : Nat} {f : Addr} {fd : FuncData} {ps : List Str} {sp : Sp} (F : FnG P w K mg base k f fd ps sp) (h : k ≤ k') : FnG P w K mg base k' f fd ps sp := ⟨F.lenG, fun A outer s H args us vs Q E hg hr => F.runG A outer s H args us vs Q E hg (hr.mono h)⟩
end Den

namespace Den
open PySem PySem.Spec PyProof.Rows L2 Bal
/-! ### list(range(a, b)) -/
/-! ### sorted of pairs -/
abbrev Pr := Int × Int
end Den

namespace Den
open PySem PySem.Spec PyProof.Rows L2 Bal
/-! ### sorted(set(..)) of pairs -/
abbrev pl (p : Pr) : List Int := [p.1, p.2]
end Den

namespace Den
open PySem PySem.Spec PyProof.Rows L2 Bal
/-! ### numbers rising, each once -/
/-! ### pairs of any numbers, in their order -/
end Den

namespace Den
open PySem PySem.Spec PyProof.Rows L2 Bal
section
variable {P : Program} {w : World} {A : Around} {E : Value → Shared → Prop} {s : Shared}
/-- the bare set that set(..) starts with -/
abbrev bare (w : World) : Obj := { cls := .type "set", dict := none, data := .set #[] 0 (.fresh 0 0 (!w.params.followText "set-order")) }
end
end Den

namespace Den
open PySem PySem.Spec PyProof.Rows L2 Bal
/-! ### sorted(set(..)) of ints -/
def nT : List W → Option (List Int)
  | [] => some []
  | .int a :: ws => (nT ws).map (a :: ·)
  | _ :: _ => none
def nW (ns : List Int) : List W := ns.map .int
theorem nT_nW : ∀ ns : List Int, nT (nW ns) = some ns
  | [] => rfl
  | n :: ns => by
    show (nT (nW ns)).map (n :: ·) = _
    rw [nT_nW ns]
    rfl
theorem nT_is : ∀ {ws : List W} {ns : List Int}, nT ws = some ns → ws = nW ns
  | [], ns, e => by cases e; rfl
  | .int a :: ws, ns, e => by
    have e : (nT ws).map (a :: ·) = some ns := e
    cases e1 : nT ws with
    | none => rw [e1] at e; cases e
    | some qs =>
      rw [e1] at e
      cases e
      rw [nT_is e1]
      rfl
  | .non :: _, _, e => by cases e
  | .bl _ :: _, _, e => by cases e
  | .str _ :: _, _, e => by cases e
  | .tup _ :: _, _, e => by cases e
  | .cl _ :: _, _, e => by cases e
  | .sc _ :: _, _, e => by cases e
  | .lst _ :: _, _, e => by cases e
  | .dct _ :: _, _, e => by cases e
  | .dtt _ :: _, _, e => by cases e
  | .ins _ :: _, _, e => by cases e
  | .exn _ _ _ :: _, _, e => by cases e
theorem rps_nW {Γ : Gm} {H : Hp} {μ : List Addr} : ∀ {ys : List V} {ns : List Int}, Rps Γ H μ ys (nW ns) → ys = ns.map V.int := by
  intro ys
  induction ys with
  | nil => intro ns r; cases ns with | nil => rfl | cons _ _ => cases r
  | cons y ys ih =>
    intro ns r
    cases ns with
    | nil => cases r
    | cons n ns =>
      cases r with
      | cons a b =>
        cases a
        rw [ih b]
        rfl
/-! ### sorted of pairs of any numbers -/
end Den

namespace Den
open PySem PySem.Spec PyProof.Rows L2 Bal
end Den

namespace Den
open PySem PySem.Spec PyProof.Rows L2 Bal
section
variable {X : Cx} {K : PySem.W.Frag} {mg : Str → Option Value}
/-- x *= n, x += n -/
def fMulI (_ : Store) : W → W → Option W
  | .int i, .int j => if mulB i j = true then some (.int (i * j)) else none
  | _, _ => none
theorem fMulI_ok : Op2 K mg (rI CMul fun i j => .int (i * j)) fMulI := by
  intro δ H μ S v u x y w Q k rx ry e q
  cases rx <;> first | (cases e; done) | skip
  cases ry <;> first | (cases e; done) | skip
  rename_i i j
  have e : (if mulB i j = true then some (W.int (i * j)) else none) = some w := e
  by_cases hz : mulB i j = true
  · rw [if_pos hz] at e
    cases e
    refine ⟨i, j, rfl, rfl, ?_, q _ _ Gr.refl k (.int _)⟩
    rcases (Bool.or_eq_true _ _).mp hz with h | h
    · have h := Bool.and_eq_true_iff.mp h
      exact .inl ⟨of_decide_eq_true h.1, of_decide_eq_true h.2⟩
    · have h := Bool.and_eq_true_iff.mp h
      exact .inr ⟨of_decide_eq_true h.1, of_decide_eq_true h.2⟩
  · rw [if_neg hz] at e
    cases e
end
end Den

namespace Bal
open PySem PySem.Spec PyProof.Rows L2
/-! ### one class named in an except -/
end Bal
namespace Den
open PySem PySem.Spec PyProof.Rows L2 Bal
end Den

namespace Den
open PySem PySem.Spec PyProof.Rows L2 Bal
section
variable {K : PySem.W.Frag} {mg : Str → Option Value}
/-! ### x -= n, sum of a list of numbers -/
end
end Den

namespace Den
open PySem PySem.Spec PyProof.Rows L2 Bal
/-! ### f(a, b, k = c) -/
/-! ### list(range(b)) -/
end Den

namespace Den
open PySem PySem.Spec PyProof.Rows L2 Bal
/-! ### xs.pop() -/
/-! ### continue, break -/
end Den

namespace Den
open PySem PySem.Spec PyProof.Rows L2 Bal
/-! ### tables may grow -/
/-! ### the slots of the maker, as they are handed on -/
/-! ### what was handed in, called -/
def dAct (i : Nat) (f c : Addr) (q : Str) (xs : List V) (qd : List W → Mo W) : DE := fun ρ S => match ρ[i]? with
  | some (some (.lam f' c' q' xs' ws)) => if f' = f ∧ c' = c ∧ q' = q ∧ xs' = xs then qd ws S else .bad
  | _ => .bad
def ActOk (Z : Cx) (a : Str) (d : DE) : Prop := ∀ (W : WX) (pn : List (Addr × Obj)) (xe : Value → Shared → Prop) (p1 p2 : Pos), Takes (Z.tr pn xe) W → PD (Z.tr pn xe) (WE W) (.Call (.Name a p1) [] [] p2) d
/-- a def that gets such a thing, and calls it in a try: what it tells of what that tells -/
def LamFn (P : Program) (w : World) (K : PySem.W.Frag) (mg : Str → Option Value) (base : Heap) (k : Nat) (x : Str) (st : Stmt) (g : Addr) (a : Str) (Ng : List Str) (n : Nat) (G : Mo W → List W → Mo W) : Prop :=
  ∃ d : Addr → Addr → Str → List V → (List W → Mo W) → DS,
    (∀ f c q xs qd ws us S, us.length = n → fnW Ng.length (d f c q xs qd) (.lam f c q xs ws :: us) S = G (qd ws) us S) ∧
    ∀ (f c : Addr) (q : Str) (xs : List V) (qd : List W → Mo W) (cdv : Value) (A : Around) (outer : List Env) (s : Shared) (H : Hp) (E : XK), Room k (A.deeper (envOfC x (defScope st) s.heap.objs.size g cdv)) →
      ActOk (cxOf (L2.CX P w) P w K mg base Ng x (defScope st) g cdv A outer s H E) a (dAct 0 f c q xs qd) → PDSs (cxOf (L2.CX P w) P w K mg base Ng x (defScope st) g cdv A outer s H E) (fun _ => E) (defBody st) (d f c q xs qd)
theorem LamFn.mono {P : Program} {w : World} {K : PySem.W.Frag} {mg : Str → Option Value} {base : Heap} {k k' : Nat} {x : Str} {st : Stmt} {g : Addr} {a : Str} {Ng : List Str} {n : Nat} {G : Mo W → List W → Mo W} (h : LamFn P w K mg base k x st g a Ng n G) (hk : k ≤ k') : LamFn P w K mg base k' x st g a Ng n G :=
  let ⟨d, h1, h2⟩ := h
  ⟨d, h1, fun f c q xs qd cdv A outer s H E r => h2 f c q xs qd cdv A outer s H E (r.mono hk)⟩
end Den

namespace Den
open PySem PySem.Spec PyProof.Rows L2 Bal
/-! ### the end, with tables -/
/-- the code object of the def at f is written, its table is bare -/
def OwnT (K : PySem.W.Frag) (f : Addr) (h : Heap) : Prop := ∀ (c P : Addr) (o : Obj) (fd : FuncData) (e : Value) (dd : Option Addr) (vs : Array Value) (sl : Array (Option Value)), K.lookup f = some o → o.data = .func fd → fd.code = .ref c →
  K.lookup c = some ⟨e, dd, .fields vs, sl⟩ → vs[11]? = some (.ref P) → h.get? P = some (PySem.W.tabObj #[]) ∧ PySem.W.CodeHd h c P
theorem walk_tab {l : PySem.W.OpenLaw} {n k : Nat} {q : Program} {loose : List Str} {XP : (Str → Option Value) → Heap → Prop} {YP : World → Heap → Prop} {d : DefRec} {K : Params → PySem.W.Frag} {CX : World → CXT} {x : Str}
    (hn : l.most = some n) (hn2 : n ≤ sizeLine) (hdf : d.params.defaults = []) (hr : Room k callerA) (hY : ∀ (w : World) (h : Heap), YP w h → (K w.params).In h)
    (F : ∀ (w : World) (mg : Str → Option Value) (fa : Addr) (h : Heap), (K w.params).In h → h.Ns mainGlobals mg → mg d.name = some (.ref fa) → (∀ (nm : Str) (f : Addr), ((recsOf q).any fun e => e.name == nm) = true → mg nm = some (.ref f) → OwnT (K w.params) f h) → LamX.LawAtS l w (K w.params) (CX w) k n x mg fa h)
    (hCX : ∀ (w : World) (H : Hp) (s : Shared) (e : Value) (s' : Shared), CX w [] H s (fun _ _ _ => False) e s' → False) : PySem.W.WalkO q loose XP YP l.row.toRowW d [] (fun f vs => PySem.call f vs) := by
  refine Att.attach_callB hn hdf fun w s₀ s₁ mg mb fa o pm cd doc a vs ns G Y ho hd hcd hmg hobj hints hlen hbits hg => ?_
  have KX := hY w _ Y
  have own : ∀ (nm : Str) (f : Addr), ((recsOf q).any fun e => e.name == nm) = true → mg nm = some (.ref f) → OwnT (K w.params) f s₁.heap := fun nm f hrec hf c P o1 fd1 e dd vs1 sl k1 k2 k3 k4 k5 => by
    obtain ⟨dL, mL, nL⟩ := List.any_eq_true.mp hrec
    obtain ⟨a', o', fd', c', P', h1, h2, h3, h4, h5, h6⟩ := G.T.tab dL mL
    rw [beq_iff_eq.mp nL, hf] at h1
    cases h1
    rw [KX _ _ k1] at h2
    cases h2
    rw [k2] at h3
    cases h3
    rw [k3] at h4
    cases h4
    obtain ⟨⟨oc, vc, e1, e2, e3, e4⟩, hP⟩ := id h6
    rw [KX _ _ k4] at e1
    cases e1
    cases e3
    rw [k5] at e4
    cases e4
    exact ⟨hP, PySem.W.CodeHd.of h5 h6⟩
  obtain ⟨fd, cs, sp, hT, nT, C, hb, hsp, hF⟩ := F w mg fa _ KX G.T.g hmg own
  exact LamX.law_callTs KX G.T.g G.T.b G.T.builtins G.T.nolimit hg hT nT C G.T.bmain hobj hints (Nat.le_trans hlen hn2) hr hF hb (fun H hH hS => hsp H a ns hlen hbits hH hS) fun H e s' => hCX w H s₁ e s'
theorem tab_of {K : PySem.W.Frag} {mg : Str → Option Value} {nm : Str} {f c P : Addr} {oc : Value} {od : Option Addr} {fd : FuncData} {osl : Array (Option Value)} {e : Value} {dd : Option Addr} {vs : Array Value} {sl : Array (Option Value)} (g : mg nm = some (.ref f)) (l : K.lookup f = some ⟨oc, od, .func fd, osl⟩) (o : fd.code = .ref c) (v : K.lookup c = some ⟨e, dd, .fields vs, sl⟩) (p : vs[11]? = some (.ref P)) :
    tabOf K mg nm = some (P, (nm ++ ".<locals>.") ++ "<lambda>") := by
  unfold tabOf
  simp only [g, l, o, v, p]
theorem tab_no {K : PySem.W.Frag} {mg : Str → Option Value} {nm : Str} (g : mg nm = none) : tabOf K mg nm = none := by
  unfold tabOf
  simp only [g]
/-- what is known at the head, from a promise of the law over such tables -/
theorem at_head {l : PySem.W.OpenLaw} {w : World} {K : PySem.W.Frag} {CX : CXT} {k : Nat} {x : Str} {mg : Str → Option Value} {fa : Addr} {h : Heap} {fd : FuncData} {cs : List (Addr × Addr)} (hT : ∀ p ∈ cs, h.get? p.2 = some (PySem.W.tabObj #[])) (nT : ∀ p ∈ cs, K.lookup p.2 = none) (C : ∀ p ∈ cs, PySem.W.CodeHd h p.1 p.2) (hc : ∀ p ∈ tabsOf K mg, ∃ c, (c, p.1) ∈ cs)
    (hb : ∀ (s : Shared) (u : Value), BindsTo s fd ⟨[u], []⟩ [(x, u)]) (F : ∀ base : Heap, (∀ p ∈ cs, LamX.TabB base mg p.1 p.2) → FnOk l.prog w K mg base CX k fa fd [x] (spLaw K mg)) : LamX.LawAtS l w K CX k 63 x mg fa h :=
  ⟨fd, cs, spLaw K mg, hT, nT, C, hb, fun H a ns hl _ hH hS => ⟨a, ns, rfl, hS, hl, fun p hp => let ⟨c, m⟩ := hc p hp; LamX.TabS.nil (hH _ m), fun _ => rfl⟩, fun base _ _ TB => F base TB⟩
/-! ### a def whose code object is known -/
/-! ### what a def tells does not hang on which thing it got, but on what that tells -/
end Den

namespace Den
open PySem PySem.Spec PyProof.Rows L2 Bal
/-! ### an own error that has no field, raised -/
/-! ### the end, with tables, where the law asks repr -/
end Den

namespace Den
open PySem PySem.Spec PyProof.Rows L2 Bal
/-! ### {k: v for x in xs} -/
end Den

namespace Den
open PySem PySem.Spec PyProof.Rows L2 Bal
/-! ### a list or a tuple as a test -/
end Den

namespace Den
open PySem PySem.Spec PyProof.Rows L2 Bal
/-! ### division by great numbers -/
/-! ### a op1 b op2 c op3 d -/
end Den

namespace Den
open PySem PySem.Spec PyProof.Rows L2 Bal
/-! ### sorted of any data that are alike: numbers, texts, tuples and lists of them -/
end Den

namespace Den
open PySem PySem.Spec PyProof.Rows L2 Bal
/-! ### == and != of data that lie deep -/
end Den

namespace Den
open PySem PySem.Spec PyProof.Rows L2 Bal
/-! ### a try in which nothing is raised -/
end Den

namespace Den
open PySem PySem.Spec PyProof.Rows L2 Bal
/-! ### list(range(a, b, -1)) -/
end Den

namespace Den
open PySem PySem.Spec PyProof.Rows L2 Bal
/-! ### sorted(set(t)), t a tuple of ints -/
end Den

namespace Den
open PySem PySem.Spec PyProof.Rows L2 Bal
/-! ### dicts by tuples of numbers: as the machine has them -/
abbrev tK (P : Program) (w : World) := PySem.nestedKind P w
def nestI (s : List Int) : NestedKey := .tup (s.map .num)
def nestS (w : List (List Int)) : NestedKey := .tup (w.map nestI)
def nestK (k : TKy) : NestedKey := .tup (k.map nestS)
theorem map_inj {α β : Type} {f : α → β} (h : ∀ a b, f a = f b → a = b) : ∀ {l m : List α}, l.map f = m.map f → l = m
  | [], [], _ => rfl
  | [], _ :: _, e => by cases e
  | _ :: _, [], e => by cases e
  | a :: l, b :: m, e => by
    rw [List.map_cons, List.map_cons] at e
    injection e with e1 e2
    rw [h a b e1, map_inj h e2]
theorem nestI_inj (a b : List Int) (h : nestI a = nestI b) : a = b := by
  unfold nestI at h
  injection h with h
  exact map_inj (fun x y e => by injection e) h
theorem nestS_inj (a b : List (List Int)) (h : nestS a = nestS b) : a = b := by
  unfold nestS at h
  injection h with h
  exact map_inj nestI_inj h
theorem nestK_inj {a b : TKy} (h : nestK a = nestK b) : a = b := by
  unfold nestK at h
  injection h with h
  exact map_inj nestS_inj h
theorem hashes_map (w : World) {α : Type} (f : α → NestedKey) (g : α → Int) (h : ∀ a, NestedKey.hash w (f a) = g a) : ∀ l : List α, NestedKey.hashes w (l.map f) = l.map g
  | [] => by simp [NestedKey.hashes]
  | a :: l => by rw [List.map_cons, List.map_cons, NestedKey.hashes, h a, hashes_map w f g h l]
theorem hash_nestI (w : World) (s : List Int) : NestedKey.hash w (nestI s) = hashI s := by
  unfold nestI hashI
  rw [NestedKey.hash, hashes_map w _ hashInt (fun a => by rw [NestedKey.hash])]
theorem hash_nestS (w : World) (s : List (List Int)) : NestedKey.hash w (nestS s) = hashS s := by
  unfold nestS hashS
  rw [NestedKey.hash, hashes_map w _ hashI (hash_nestI w)]
theorem hash_nest (w : World) (k : TKy) : NestedKey.hash w (nestK k) = hashV k := by
  unfold nestK hashV
  rw [NestedKey.hash, hashes_map w _ hashS (hash_nestS w)]
theorem depth_map {α : Type} (f : α → NestedKey) (n : Nat) (h : ∀ a, NestedKey.depth (f a) ≤ n) : ∀ l : List α, NestedKey.depthAll (l.map f) ≤ n
  | [] => by simp [NestedKey.depthAll]
  | a :: l => by
    have h1 := h a
    have h2 := depth_map f n h l
    rw [List.map_cons, NestedKey.depthAll]
    omega
theorem depth_nest (k : TKy) : NestedKey.depth (nestK k) ≤ 8 := by
  have hI : ∀ s : List Int, NestedKey.depth (nestI s) ≤ 1 := fun s => by
    have := depth_map NestedKey.num 0 (fun a => by simp [NestedKey.depth]) s
    unfold nestI
    rw [NestedKey.depth]
    omega
  have hS : ∀ s : List (List Int), NestedKey.depth (nestS s) ≤ 2 := fun s => by
    have := depth_map nestI 1 hI s
    unfold nestS
    rw [NestedKey.depth]
    omega
  have := depth_map nestS 2 hS k
  unfold nestK
  rw [NestedKey.depth]
  omega
/-- a value that is such a key -/
def KyI (K : PySem.W.Frag) (H : Hp) (v : V) (s : List Int) : Prop := ∃ b, v = .ref b ∧ SqT K H b (s.map V.int)
def KyS (K : PySem.W.Frag) (H : Hp) (v : V) (w : List (List Int)) : Prop := ∃ b vs, v = .ref b ∧ SqT K H b vs ∧ Paired (KyI K H) vs w
def KyV (K : PySem.W.Frag) (H : Hp) (b : Addr) (k : TKy) : Prop := ∃ vs, SqT K H b vs ∧ Paired (KyS K H) vs k
abbrev KVs := List ((Addr × TKy) × V)
def valA (kvs : KVs) (k : TKy) : Option V := (kvs.find? fun p => decide (p.1.2 = k)).map (·.2)
def putA (kvs : KVs) (b : Addr) (k : TKy) (v : V) : KVs := if (valA kvs k).isSome = true then kvs.map (fun p => if p.1.2 = k then (p.1, v) else p) else kvs ++ [((b, k), v)]
def XQ (p : (Addr × TKy) × V) (q : NestedKey × Addr × Value) : Prop := nestK p.1.2 = q.1 ∧ p.1.1 = q.2.1 ∧ RelV p.2 q.2.2
theorem ents_xs {P : Program} {w : World} {kvs : KVs} {es : List DictEntry} (r : Paired DTe kvs es) : ∃ xs : List (NestedKey × Addr × Value), es = xs.map (entryOfKey (tK P w)) ∧ Paired XQ kvs xs := by
  induction r with
  | nil => exact ⟨[], rfl, .nil⟩
  | @cons p e ps es h t ih =>
    obtain ⟨xs, e1, q⟩ := ih
    obtain ⟨h1, h2, h3⟩ := h
    refine ⟨(nestK p.1.2, p.1.1, e.val) :: xs, ?_, .cons ⟨rfl, rfl, h3⟩ q⟩
    rw [List.map_cons, ← e1]
    congr 1
    obtain ⟨eh, ek, ev⟩ := e
    dsimp only at h1 h2
    subst h1
    subst h2
    show DictEntry.mk _ _ _ = DictEntry.mk (NestedKey.hash w (nestK p.1.2)) _ _
    rw [hash_nest]
theorem xs_ents {P : Program} {w : World} {kvs : KVs} {xs : List (NestedKey × Addr × Value)} (r : Paired XQ kvs xs) : Paired DTe kvs (xs.map (entryOfKey (tK P w))) := by
  induction r with
  | nil => exact .nil
  | @cons p q ps qs h t ih =>
    obtain ⟨h1, h2, h3⟩ := h
    refine .cons ⟨?_, ?_, h3⟩ ih
    · show NestedKey.hash w q.1 = _
      rw [← h1, hash_nest]
    · rw [h2]; rfl
theorem xq_keys {kvs : KVs} {xs : List (NestedKey × Addr × Value)} (r : Paired XQ kvs xs) : kvs.map (fun p => nestK p.1.2) = xs.map (·.1) := by
  induction r with
  | nil => rfl
  | cons h t ih => rw [List.map_cons, List.map_cons, ih, h.1]
theorem xq_val {kvs : KVs} {xs : List (NestedKey × Addr × Value)} (r : Paired XQ kvs xs) (k : TKy) : RelO (valA kvs k) ((atKey xs (nestK k)).map (·.2)) := by
  induction r with
  | nil => exact True.intro
  | @cons p q ps qs h t ih =>
    obtain ⟨h1, _, h2⟩ := h
    by_cases e : p.1.2 = k
    · have e' : q.1 = nestK k := h1.symm.trans (congrArg nestK e)
      have a : valA (p :: ps) k = some p.2 := by simp [valA, List.find?_cons, e]
      have b : atKey (q :: qs) (nestK k) = some q.2 := by simp [atKey, List.find?_cons, e']
      rw [a, b]; exact h2
    · have e' : ¬ q.1 = nestK k := fun z => e (nestK_inj (h1.trans z))
      have a : valA (p :: ps) k = valA ps k := by simp [valA, List.find?_cons, e]
      have b : atKey (q :: qs) (nestK k) = atKey qs (nestK k) := by simp [atKey, List.find?_cons, e']
      rw [a, b]; exact ih
theorem xq_put {kvs : KVs} {xs : List (NestedKey × Addr × Value)} (r : Paired XQ kvs xs) (k : TKy) {b : Addr} {y : V} {u : Value} (ry : RelV y u) : Paired XQ (putA kvs b k y) (storedH xs (nestK k) b u) := by
  have e : (valA kvs k).isSome = (atKey xs (nestK k)).isSome := by rw [(xq_val r k).isSome_eq, Option.isSome_map]
  unfold putA storedH
  rw [e]
  by_cases q : (atKey xs (nestK k)).isSome = true
  · rw [if_pos q, if_pos q]
    clear e q
    induction r with
    | nil => exact .nil
    | @cons p q ps qs h t ih =>
      rw [List.map_cons, List.map_cons]
      refine .cons ?_ ih
      obtain ⟨h1, h2, h3⟩ := h
      unfold putAt
      by_cases e : p.1.2 = k
      · rw [if_pos e, if_pos (h1.symm.trans (congrArg nestK e))]; exact ⟨h1, h2, ry⟩
      · rw [if_neg e, if_neg (fun z => e (nestK_inj (h1.trans z)))]; exact ⟨h1, h2, h3⟩
  · rw [if_neg q, if_neg q]; exact Paired.snoc r ⟨rfl, rfl, ry⟩
section
variable {X : Cx} {pins : List (Addr × Obj)} {σ : L2.St} {H : Hp} {s : Shared} {a b : Addr} {kvs : KVs} {ks : TKy} {A : Around} {E : Value → Shared → Prop}
def KeysAt (K : PySem.W.Frag) (H : Hp) (kvs : KVs) : Prop := ∀ p ∈ kvs, KyV K H p.1.1 p.1.2
theorem nums_all {h : Heap} : ∀ {ks : List Int} {us : List Value}, Vals (ks.map V.int) us → NestedAll h (ks.map NestedKey.num) us
  | [], _, r => by rw [List.map_nil] at r; cases r; exact .nil
  | k :: ks, _, r => by
    rw [List.map_cons] at r
    cases r with
    | cons h t =>
      obtain ⟨tk, rfl⟩ := h
      exact .cons (.int _ _) (nums_all t)
theorem keys_all {h : Heap} {α : Type} {F : V → α → Prop} {f : α → NestedKey} (hF : ∀ v a u, F v a → RelV v u → NestedIs h (f a) u) : ∀ {vs : List V} {ks : List α} {us : List Value}, Paired F vs ks → Vals vs us → NestedAll h (ks.map f) us
  | _, _, _, .nil, r => by cases r; exact .nil
  | _, _, _, .cons p q, r => by
    cases r with
    | cons h t => exact .cons (hF _ _ _ p h) (keys_all hF q t)
theorem ky_i (I : Inv X pins σ H s) {v : V} {u : Value} {k : List Int} (h : KyI X.K H v k) (r : RelV v u) : NestedIs s.heap (nestI k) u := by
  obtain ⟨b, rfl, h⟩ := h
  obtain rfl : u = Value.ref b := r
  obtain ⟨its, r, ⟨o, h1, h2, n, h3⟩, _⟩ := I.tuple h
  exact .tup h1 h2 h3 (by simpa using nums_all r)
theorem ky_s (I : Inv X pins σ H s) {v : V} {u : Value} {k : List (List Int)} (h : KyS X.K H v k) (r : RelV v u) : NestedIs s.heap (nestS k) u := by
  obtain ⟨b, vs, rfl, h, p⟩ := h
  obtain rfl : u = Value.ref b := r
  obtain ⟨its, r, ⟨o, h1, h2, n, h3⟩, _⟩ := I.tuple h
  exact .tup h1 h2 h3 (by simpa using keys_all (f := nestI) (fun v a u h r => ky_i I h r) p r)
theorem key_int (I : Inv X pins σ H s) (h : KyV X.K H b ks) : (tK X.prog X.w).is s.heap (nestK ks) b := by
  obtain ⟨vs, h, p⟩ := h
  obtain ⟨its, r, ⟨o, h1, h2, n, h3⟩, _⟩ := I.tuple h
  exact ⟨.tup h1 h2 h3 (by simpa using keys_all (f := nestS) (fun v a u h r => ky_s I h r) p r), depth_nest ks⟩
theorem room_in (hu : A.units + 70 < cLine) (P : Program) (w : World) : (tK P w).room A.in1 := by
  show A.in1.units + 8 < cLine
  rw [Around.in1_units]
  omega
theorem dt_raw (I : Inv X pins σ H s) (e : Rd H a (DTo a kvs)) (hk : KeysAt X.K H kvs) : (a == sysModules) = false ∧ ∃ xs, s.heap.DictOfH (tK X.prog X.w) a xs ∧ Paired XQ kvs xs := by
  obtain ⟨⟨hs, o, es, ep, ho, hx, hd, pr, nd⟩, hst⟩ := (show ObjOk X.prog X.w H s.heap a (DTo a kvs) from e.elim (fun e => I.hok a _ e) fun ⟨o, e⟩ => (I.hok a _ e).2)
  clear hst
  obtain ⟨xs, he, q⟩ := ents_xs (P := X.prog) (w := X.w) pr
  refine ⟨hs, xs, ⟨o, es, ep, ho, hx, hd, he, ?_, by rw [← xq_keys q, show (kvs.map fun p => nestK p.1.2) = (kvs.map fun p => p.1.2).map nestK by rw [List.map_map]; rfl]; exact nd.map nestK fun a b h e => h (nestK_inj e)⟩, q⟩
  clear he nd pr e
  induction q with
  | nil => intro x hx; exact nomatch hx
  | @cons p q ps qs hq t ih =>
    intro x hx
    rcases List.mem_cons.mp hx with e | hx
    · subst e
      obtain ⟨h1, h2, _⟩ := hq
      rw [← h1, ← h2]
      exact key_int I (hk p (List.mem_cons_self ..))
    · exact ih (fun z hz => hk z (List.mem_cons_of_mem _ hz)) x hx
theorem dt_ok {P : Program} {w : World} {H' : Hp} {h' : Heap} {xs : List (NestedKey × Addr × Value)} (hs : (a == sysModules) = false) (d : h'.DictOfH (tK P w) a xs) (q : Paired XQ kvs xs) : ObjOk P w H' h' a (DTo a kvs) := by
  obtain ⟨o, es, ep, ho, hx, hd, he, _, hn⟩ := d
  refine ⟨⟨hs, o, es, ep, ho, hx, hd, by rw [he]; exact xs_ents q, by
    rw [← xq_keys q, show (kvs.map fun p => nestK p.1.2) = (kvs.map fun p => p.1.2).map nestK by rw [List.map_map]; rfl] at hn
    exact List.Pairwise.of_map nestK (fun a b h e => h (congrArg nestK e)) hn⟩, ⟨o, ho⟩, ?_⟩
  rintro h1 h2 ⟨hs, o, es, ep, ho, r⟩ k
  exact ⟨hs, o, es, ep, k o ho, r⟩
theorem t_get {v : V} {Q : Value → Shared → Prop} (hu : A.units + 70 < cLine) (I : Inv X pins σ H s) (e : Rd H a (DTo a kvs)) (hk : KeysAt X.K H kvs) (hb : KyV X.K H b ks) (l : valA kvs ks = some v) (h : ∀ w' s', Inv X pins σ H s' → RelV v w' → Q w' s') :
    wpAny (model X.prog X.w) A (getItem (.ref a) (.ref b)) Q E s := by
  obtain ⟨hd, xs, dd, rel⟩ := dt_raw I e hk
  obtain ⟨w', hw, rw'⟩ := RelO.some_of (v := v) (o := (atKey xs (nestK ks)).map (·.2)) (by rw [← l]; exact xq_val rel ks)
  obtain ⟨p, hp, hp2⟩ := Option.map_eq_some_iff.mp hw
  refine wpAny_getItem_heap (room_in hu _ _) (key_int I hb) dd hp ?_
  rw [hp2]
  exact h w' _ (I.tok _) rw'
theorem dt_mut : Mut (some (DTo a kvs)) := True.intro
theorem t_put {v : V} {r : Value} {Q : Unit → Shared → Prop} (hu : A.units + 70 < cLine) (I : Inv X pins σ H s) (e : H a = some (DTo a kvs)) (hk : KeysAt X.K H kvs) (hb : KyV X.K H b ks) (hl : kvs.length ≤ sizeLine) (rv : RelV v r) (h : ∀ s', Inv X pins σ (upd H a (DTo a (putA kvs b ks v))) s' → Q () s') :
    wpAny (model X.prog X.w) A (setItem (.ref a) (.ref b) r) Q E s := by
  obtain ⟨hd, xs, dd, rel⟩ := dt_raw I (.inl e) hk
  have hz : xs.length ≤ sizeLine := by rw [← Paired.length rel]; exact hl
  refine wpAny_setItem_heap (hsz := hz) (room_in hu _ _) (key_int I hb) dd fun h' dd' hs => h _ ?_
  have he : ∃ q, h'.get? a = some q := let ⟨q, _, _, hq, _⟩ := dd'; ⟨q, hq⟩
  exact d_write I (by rw [e]; exact dt_mut) hs he (dt_ok hd dd' (xq_put rel ks rv))
end
end Den

namespace Den
open PySem PySem.Spec PyProof.Rows L2 Bal
/-! ### dicts by tuples of numbers: in the store, by their pairs -/
def dtW (kvs : KVs) (uv : List W) : List W := List.zipWith pairW (kvs.map fun p => tkW p.1.2) uv
section
variable {Γ : Gm} {H : Hp} {μ : List Addr} {S : Store}
theorem tkI_inj (a b : List Int) (h : tkI a = tkI b) : a = b := by
  unfold tkI at h
  injection h with h
  exact map_inj (fun x y e => by injection e) h
theorem tkS_inj (a b : List (List Int)) (h : tkS a = tkS b) : a = b := by
  unfold tkS at h
  injection h with h
  exact map_inj tkI_inj h
theorem tkW_inj {j k : TKy} (h : tkW j = tkW k) : j = k := by
  unfold tkW at h
  injection h with h
  exact map_inj tkS_inj h
theorem tkW_eq {j k : TKy} : eqW (tkW j) (tkW k) = true ↔ j = k := ⟨fun h => tkW_inj (eqW_to _ _ h), fun h => by rw [h]; exact eqW_rfl _⟩
theorem rps_split : ∀ {xs ys : List V} {us vs : List W}, xs.length = us.length → Rps Γ H μ (xs ++ ys) (us ++ vs) → Rps Γ H μ xs us ∧ Rps Γ H μ ys vs
  | [], _, [], _, _, r => ⟨.nil, r⟩
  | [], _, _ :: _, _, h, _ => by simp at h
  | _ :: _, _, [], _, h, _ => by simp at h
  | _ :: xs, _, _ :: us, _, h, r => by
    cases r with
    | cons a b =>
      obtain ⟨h1, h2⟩ := rps_split (by simpa using h) b
      exact ⟨.cons a h1, h2⟩
theorem rp_i {v : V} {k : List Int} (r : Rp Γ H μ v (tkI k)) : KyI Γ.K H v k := by
  cases r with
  | tup h l q =>
    have hs := h.sq
    rw [rps_nW (ns := k) q] at hs
    exact ⟨_, rfl, hs⟩
theorem rps_ky {α : Type} {f : α → W} {F : V → α → Prop} (hF : ∀ v a, Rp Γ H μ v (f a) → F v a) : ∀ {ks : List α} {vs : List V}, Rps Γ H μ vs (ks.map f) → Paired F vs ks
  | [], _, r => by rw [List.map_nil] at r; cases r; exact .nil
  | k :: ks, _, r => by
    rw [List.map_cons] at r
    cases r with
    | cons a b => exact .cons (hF _ _ a) (rps_ky hF b)
theorem rp_s {v : V} {k : List (List Int)} (r : Rp Γ H μ v (tkS k)) : KyS Γ.K H v k := by
  cases r with
  | tup h l q => exact ⟨_, _, rfl, h.sq, rps_ky (F := KyI Γ.K H) (fun v a r => rp_i r) q⟩
theorem tk_rp {v : V} {k : TKy} (r : Rp Γ H μ v (tkW k)) : ∃ b, v = .ref b ∧ KyV Γ.K H b k := by
  cases r with
  | tup h l q => exact ⟨_, rfl, _, h.sq, rps_ky (F := KyS Γ.K H) (fun v a r => rp_s r) q⟩
theorem keysAtT : ∀ {kvs : KVs}, Rps Γ H μ (kvs.map fun p => V.ref p.1.1) (kvs.map fun p => tkW p.1.2) → KeysAt Γ.K H kvs
  | [], _, p, hp => by simp at hp
  | q :: kvs, r, p, hp => by
    rw [List.map_cons, List.map_cons] at r
    cases r with
    | cons a b =>
      rcases List.mem_cons.mp hp with rfl | hp
      · obtain ⟨c, e, h⟩ := tk_rp a
        cases e
        exact h
      · exact keysAtT b p hp
theorem valA_pos {kvs : KVs} {p : (Addr × TKy) × V} {k : TKy} (e : p.1.2 = k) : valA (p :: kvs) k = some p.2 := by simp [valA, List.find?_cons, e]
theorem valA_neg {kvs : KVs} {p : (Addr × TKy) × V} {k : TKy} (e : ¬ p.1.2 = k) : valA (p :: kvs) k = valA kvs k := by simp [valA, List.find?_cons, e]
theorem tget_is (k : TKy) : ∀ {kvs : KVs} {uv : List W}, Rps Γ H μ (kvs.map (·.2)) uv →
    (valA kvs k = none ∧ dgetW (dtW kvs uv) (tkW k) = none) ∨ ∃ v u, valA kvs k = some v ∧ dgetW (dtW kvs uv) (tkW k) = some u ∧ Rp Γ H μ v u
  | [], _, .nil => .inl ⟨rfl, rfl⟩
  | p :: kvs, _, .cons (w := w) (ws := ws) a b => by
    have ih := tget_is k b
    unfold dtW at ih ⊢
    simp only [List.map_cons, List.zipWith_cons_cons, pairW, dgetW]
    by_cases e : p.1.2 = k
    · rw [valA_pos e, if_pos (tkW_eq.mpr e)]
      exact .inr ⟨_, _, rfl, rfl, a⟩
    · rw [valA_neg e, if_neg (fun z => e (tkW_eq.mp z))]
      exact ih
theorem tget_some (k : TKy) {kvs : KVs} {uv : List W} (r : Rps Γ H μ (kvs.map (·.2)) uv) : (valA kvs k).isSome = (dgetW (dtW kvs uv) (tkW k)).isSome := by
  rcases tget_is k r with ⟨h1, h2⟩ | ⟨v, u, h1, h2, _⟩ <;> rw [h1, h2] <;> rfl
theorem tput_is (b : Addr) (k : TKy) {v : V} {u : W} (rb : Rp Γ H μ (.ref b) (tkW k)) (ru : Rp Γ H μ v u) {kvs : KVs} {uv : List W} (rk : Rps Γ H μ (kvs.map fun p => V.ref p.1.1) (kvs.map fun p => tkW p.1.2)) (r : Rps Γ H μ (kvs.map (·.2)) uv) :
    ∃ uv', dputW (dtW kvs uv) (tkW k) u = dtW (putA kvs b k v) uv' ∧ Rps Γ H μ ((putA kvs b k v).map fun p => V.ref p.1.1) ((putA kvs b k v).map fun p => tkW p.1.2) ∧ Rps Γ H μ ((putA kvs b k v).map (·.2)) uv' := by
  have e := tget_some k r
  have hl : uv.length = kvs.length := by have := r.len; simpa using this.symm
  unfold dputW putA
  rw [e]
  by_cases c : (dgetW (dtW kvs uv) (tkW k)).isSome = true
  · rw [if_pos c, if_pos c]
    clear e c
    have key : ∀ {kvs : KVs} {uv : List W}, Rps Γ H μ (kvs.map (·.2)) uv → ∃ uv', (dtW kvs uv).map (dsetW (tkW k) u) = dtW (kvs.map fun p => if p.1.2 = k then (p.1, v) else p) uv' ∧ Rps Γ H μ ((kvs.map fun p => if p.1.2 = k then (p.1, v) else p).map (·.2)) uv' := by
      intro kvs
      induction kvs with
      | nil => intro uv r; exact ⟨[], by cases r; rfl, .nil⟩
      | cons p kvs ih =>
        intro uv r
        cases r with
        | @cons _ _ w ws a b =>
          obtain ⟨uv', e1, r1⟩ := ih b
          unfold dtW at e1 ⊢
          by_cases e : p.1.2 = k
          · refine ⟨u :: uv', ?_, ?_⟩
            · simp only [List.map_cons, List.zipWith_cons_cons, e1, if_pos e]
              simp only [pairW, dsetW, if_pos (tkW_eq.mpr e)]
            · simp only [List.map_cons, if_pos e]
              exact .cons ru r1
          · refine ⟨w :: uv', ?_, ?_⟩
            · simp only [List.map_cons, List.zipWith_cons_cons, e1, if_neg e]
              simp only [pairW, dsetW, if_neg (fun z => e (tkW_eq.mp z))]
            · simp only [List.map_cons, if_neg e]
              exact .cons a r1
    obtain ⟨uv', e1, r1⟩ := key r
    have k1 : (kvs.map fun p => if p.1.2 = k then (p.1, v) else p).map (fun p => V.ref p.1.1) = kvs.map fun p => V.ref p.1.1 := by
      rw [List.map_map]
      exact List.map_congr_left fun p _ => by simp only [Function.comp]; split <;> rfl
    have k2 : (kvs.map fun p => if p.1.2 = k then (p.1, v) else p).map (fun p => tkW p.1.2) = kvs.map fun p => tkW p.1.2 := by
      rw [List.map_map]
      exact List.map_congr_left fun p _ => by simp only [Function.comp]; split <;> rfl
    exact ⟨uv', e1, by rw [k1, k2]; exact rk, r1⟩
  · rw [if_neg c, if_neg c]
    refine ⟨uv ++ [u], ?_, ?_, ?_⟩
    · unfold dtW
      rw [List.map_append, List.zipWith_append (by simpa using hl.symm)]
      rfl
    · rw [List.map_append, List.map_append]
      exact rk.app (.cons rb .nil)
    · rw [List.map_append]
      exact r.app (.cons ru .nil)
end
def keyR : W → Option (List Int)
  | .tup ys => nT ys
  | _ => none
def allT {α : Type} (f : W → Option α) : List W → Option (List α)
  | [] => some []
  | y :: ys => match f y, allT f ys with
    | some a, some l => some (a :: l)
    | _, _ => none
theorem allT_is {α : Type} {f : W → Option α} {g : α → W} (h : ∀ y a, f y = some a → y = g a) : ∀ {ys : List W} {l : List α}, allT f ys = some l → ys = l.map g
  | [], l, e => by cases e; rfl
  | y :: ys, l, e => by
    unfold allT at e
    cases e1 : f y with
    | none => rw [e1] at e; cases e
    | some a =>
      cases e2 : allT f ys with
      | none => rw [e1, e2] at e; cases e
      | some m =>
        rw [e1, e2] at e
        cases e
        rw [h y a e1, allT_is h e2]
        rfl
theorem allT_of {α : Type} {f : W → Option α} {g : α → W} (h : ∀ a, f (g a) = some a) : ∀ l : List α, allT f (l.map g) = some l
  | [] => rfl
  | a :: l => by
    rw [List.map_cons]
    unfold allT
    rw [h a, allT_of h l]
def keyS : W → Option (List (List Int))
  | .tup ys => allT keyR ys
  | _ => none
def keyT : W → Option TKy
  | .tup ys => allT keyS ys
  | _ => none
theorem keyR_is (y : W) (k : List Int) (h : keyR y = some k) : y = tkI k := by
  cases y <;> first | (cases h; done) | skip
  rw [nT_is h]
  rfl
theorem keyS_is (y : W) (k : List (List Int)) (h : keyS y = some k) : y = tkS k := by
  cases y <;> first | (cases h; done) | skip
  rw [allT_is keyR_is h]
  rfl
theorem keyT_is {y : W} {k : TKy} (h : keyT y = some k) : y = tkW k := by
  cases y <;> first | (cases h; done) | skip
  rw [allT_is keyS_is h]
  rfl
def rTGet (K : PySem.W.Frag) : R2 := fun x y H Q => ∃ a kvs b ks v, x = .ref a ∧ Rd H a (DTo a kvs) ∧ KeysAt K H kvs ∧ y = .ref b ∧ KyV K H b ks ∧ valA kvs ks = some v ∧ Q v H
def fTGet (S : Store) : W → W → Option W
  | .dtt n, y => match keyT y, S[n]? with
    | some _, some ws => dgetW ws y
    | _, _ => none
  | _, _ => none
section
variable {X : Cx} {E : L2.St → XK} {o e a b i : Expr} {pos : Pos} {K : PySem.W.Frag} {mg : Str → Option Value} {da db : DE} {td ty : TE}
/-- what is known of such a dict in the store -/
theorem dt_st {δ : List Addr} {H : Hp} {μ : List Addr} {S : Store} {n : Nat} {a : Addr} (k : Ok ⟨K, mg, δ⟩ H μ S) (e : μ[n]? = some a) (q : Kd_ H a 2) : ∃ (kvs : KVs) (uv : List W) (pre : List W), S[n]? = some (pre ++ dtW kvs uv) ∧ Lk H a (DTo a kvs) pre ∧ uv.length = kvs.length ∧ kvs.length + kvs.length ≤ sizeLine ∧ Rps ⟨K, mg, δ⟩ H μ (kvs.map fun p => V.ref p.1.1) (kvs.map fun p => tkW p.1.2) ∧ Rps ⟨K, mg, δ⟩ H μ (kvs.map (·.2)) uv := by
  obtain ⟨kvs, uv, pre, e1, e2, hl, l, r⟩ := k.dat2 e q
  obtain ⟨r1, r2⟩ := rps_split (by simp) r
  exact ⟨kvs, uv, pre, e1, e2, hl, l, r1, r2⟩
/-- o[i] = w -/
def putT (o i w : W) : Mo Unit := fun S => match o with
  | .dtt n => match keyT i, S[n]? with
    | some _, some ws => if (szB (ws.length + 1 + (ws.length + 1)) && !fzB ws) = true then .ok () (S.set n (dputW ws i w)) else .bad
    | _, _ => .bad
  | _ => .bad
def gPutT (d di : DE) : DG := fun w ρ => bnd (d ρ) fun o => bnd (di ρ) fun i => bnd (putT o i w) fun _ => ret ρ
theorem putA_le {kvs : KVs} {b : Addr} {k : TKy} {v : V} : (putA kvs b k v).length ≤ kvs.length + 1 := by
  unfold putA
  split
  · rw [List.length_map]; omega
  · rw [List.length_append]; simp
def rSetT (K : PySem.W.Frag) : TSet := fun o i v H Q => ∃ a kvs b ks, o = .ref a ∧ H a = some (DTo a kvs) ∧ KeysAt K H kvs ∧ i = .ref b ∧ KyV K H b ks ∧ kvs.length ≤ sizeLine ∧ Q (upd H a (DTo a (putA kvs b ks v)))
theorem set_dT (hu : X.A.units + 70 < cLine) : PSet X (rSetT X.K) := by
  intro pins s σ H o i v ov iv u Q I ro ri rv h
  obtain ⟨a, kvs, b, ks, eo, e, hk, ei, hb, hl, q⟩ := h
  subst eo
  subst ei
  cases (show ov = Value.ref a from ro)
  cases (show iv = Value.ref b from ri)
  exact t_put hu I e hk hb hl rv fun s' I' => ⟨_, I', q⟩
theorem dm_putT {d di : DE} {i : Expr} (hu : X.A.units + 70 < cLine) (ho : PD X noE o d) (hi : PD X noE i di)
    (ha : ∀ v, assign (.Subscript o i pos) X.env v = (do let ov ← holding [v] (eval o X.env); let iv ← holding [v, ov] (eval i X.env); standAt pos; holding [v, ov, iv] (setItem ov iv v); release [v, ov, iv] []) := by intro _; rfl) : PG X (.Subscript o i pos) (tgOf X.K X.mg (gPutT d di)) :=
  pg_of (pg_sub ho hi (set_dT hu) ha) fun v σ H Q ⟨δ, μ, S, ρ, w, k, s, r, h⟩ =>
    ⟨δ, μ, S, ρ, k, s, Res.step h fun ow S1 H1 μ1 g1 k1 h1 ov ro => ⟨δ, μ1, S1, ρ, k1, rσ_gr g1 s, Res.step h1 fun iw S2 H2 μ2 g2 k2 h2 iv ri => by
      have r2 := r.gr (g1.trans g2)
      have ro2 := ro.gr g2
      unfold bnd putT at h2
      cases ro2 with
      | @dtt a n hh hq =>
        cases hy : keyT iw with
        | none => simp only [hy] at h2; exact h2.elim
        | some ks =>
          obtain ⟨kvs, uv, pre, e1, e2, hl, l, q1, q2⟩ := dt_st k2 hh hq
          have hx := keyT_is hy
          subst hx
          simp only [hy, e1] at h2
          by_cases hz : (szB ((pre ++ dtW kvs uv).length + 1 + ((pre ++ dtW kvs uv).length + 1)) && !fzB (pre ++ dtW kvs uv)) = true
          · simp only [hz, if_true] at h2
            obtain ⟨hz, hz2⟩ := Bool.and_eq_true_iff.mp hz
            have hp : pre = [] := by
              rcases e2 with ⟨z, _⟩ | ⟨z, _⟩
              · exact z
              · subst z; cases hz2
            subst hp
            have e2 := e2.nil
            rw [List.nil_append] at h2 hz
            have hdl : (dtW kvs uv).length = kvs.length := by unfold dtW; rw [List.length_zipWith, List.length_map, hl, Nat.min_self]
            have hl2 : kvs.length + 1 + (kvs.length + 1) ≤ sizeLine := by have := sz_ok hz; rw [hdl] at this; exact this
            obtain ⟨b, rfl, hb⟩ := tk_rp ri
            obtain ⟨uv', e3, r3, r4⟩ := tput_is b ks ri r2 q1 q2
            rw [e3] at h2
            have hl4 : uv'.length = (putA kvs b ks v).length := by have := r4.len; simpa using this.symm
            have hle := putA_le (kvs := kvs) (b := b) (k := ks) (v := v)
            obtain ⟨k3, g3⟩ := k2.setO hh (o := DTo a (putA kvs b ks v)) (ws := dtW (putA kvs b ks v) uv') (xs := (putA kvs b ks v).map (fun p => V.ref p.1.1) ++ (putA kvs b ks v).map (·.2)) (us := (putA kvs b ks v).map (fun p => tkW p.1.2) ++ uv') (by rw [kd_dt]; exact hq) (fun ob u z => by rw [e2] at z; cases z) ⟨_, uv', rfl, rfl, rfl, hl4, rfl⟩ (by rw [List.length_append, List.length_map, List.length_map]; omega) (r3.app r4)
            exact ⟨a, kvs, b, ks, rfl, e2, keysAtT q1, rfl, hb, by omega, h2 _ _ g3 k3 _ (rσ_gr g3 (rσ_gr (g1.trans g2) s))⟩
          · simp only [hz, if_false] at h2
            exact h2.elim
      | _ => exact h2.elim⟩⟩
end
end Den

namespace Den
open PySem PySem.Spec PyProof.Rows L2 Bal
/-! ### {k: v}, k a tuple of numbers -/
end Den



namespace Den
open PySem PySem.Spec PyProof.Rows L2 Bal
def fstW : W → W
  | .tup (k :: _) => k
  | _ => .non
theorem keyR_tk (s : List Int) : keyR (tkI s) = some s := nT_nW s
theorem keyS_tk (w : List (List Int)) : keyS (tkS w) = some w := allT_of keyR_tk w
theorem keyT_tk (k : TKy) : keyT (tkW k) = some k := allT_of keyS_tk k
theorem fst_dt : ∀ (kvs : KVs) (uv : List W), uv.length = kvs.length → (dtW kvs uv).map fstW = kvs.map fun p => tkW p.1.2
  | [], [], _ => rfl
  | [], _ :: _, h => by simp at h
  | _ :: _, [], h => by simp at h
  | p :: kvs, u :: uv, h => by
    have ih := fst_dt kvs uv (by simpa using h)
    unfold dtW at ih ⊢
    simp only [List.map_cons, List.zipWith_cons_cons, ih]
    rfl
end Den

namespace Den
open PySem PySem.Spec PyProof.Rows L2 Bal
/-! ### len(set(xs)), xs a list of ints -/
end Den

namespace Den
open PySem PySem.Spec PyProof.Rows L2 Bal
/-! ### a dict is locked while it is walked -/
section
variable {Γ : Gm} {H H' : Hp} {μ : List Addr} {S : Store}
mutual
theorem Rp.th (g1 : ∀ a o, H a = some o → a ∉ μ → H' a = some o) (g2 : ∀ a k, a ∈ μ → Kd_ H a k → Kd_ H' a k) : ∀ {v : V} {w : W}, Rp Γ H μ v w → Rp Γ H' μ v w
  | _, _, .non => .non
  | _, _, .bl b => .bl b
  | _, _, .int i => .int i
  | _, _, .str x => .str x
  | _, _, .tup h l r => .tup (h.imp (fun ⟨⟨ob, hd, e⟩, n, m⟩ => ⟨⟨ob, hd, g1 _ _ e n⟩, n, m⟩) id) l (Rps.th g1 g2 r)
  | _, _, .cl h n m l r => .cl (g1 _ _ h n) n m l (Rps.th g1 g2 r)
  | _, _, .sc h r => .sc (h.imp (fun ⟨e, n, m⟩ => ⟨e.imp (fun e => g1 _ _ e n) (fun ⟨ob, e⟩ => ⟨ob, g1 _ _ e n⟩), n, m⟩) id) (Rps.th g1 g2 r)
  | _, _, .lst h q => .lst h (g2 _ _ (List.mem_of_getElem? h) q)
  | _, _, .dct h q => .dct h (g2 _ _ (List.mem_of_getElem? h) q)
  | _, _, .dtt h q => .dtt h (g2 _ _ (List.mem_of_getElem? h) q)
  | _, _, .ins h q m => .ins h (g2 _ _ (List.mem_of_getElem? h) q) m
  | _, _, .exn m h n z hd nd zd l r => .exn m (g1 _ _ h n) n z (g1 _ _ hd nd) nd zd l (Rps.th g1 g2 r)
  | _, _, .exn0 m h n z => .exn0 m (g1 _ _ h n) n z
  | _, _, .lam h n z r => .lam (g1 _ _ h n) n z (Rps.th g1 g2 r)
theorem Rps.th (g1 : ∀ a o, H a = some o → a ∉ μ → H' a = some o) (g2 : ∀ a k, a ∈ μ → Kd_ H a k → Kd_ H' a k) : ∀ {vs : List V} {ws : List W}, Rps Γ H μ vs ws → Rps Γ H' μ vs ws
  | _, _, .nil => .nil
  | _, _, .cons a b => .cons (Rp.th g1 g2 a) (Rps.th g1 g2 b)
end
theorem kd_kdf {d : Addr} {u : HO} {ws us : List W} {xs : List V} (h : EntD d u ws xs us) : kd u = kdf u := by
  cases u <;> first | rfl | exact h.elim
theorem EntD.ent {d : Addr} {u : HO} {ws us : List W} {xs : List V} (h : EntD d u ws xs us) : Ent d u ws xs us := by
  cases u <;> first | exact h | exact h.elim
theorem EntD.nf {d : Addr} {u : HO} {ws us : List W} {xs : List V} (h : EntD d u ws xs us) : ∀ q v, u ≠ .frz q v := fun q v z => by
  subst z
  exact h
theorem EntD.mut {d : Addr} {u : HO} {ws us : List W} {xs : List V} (h : EntD d u ws xs us) : Mut (some u) := by
  cases u <;> first | exact True.intro | exact h.elim
/-- what a dict of the store is, when nobody walks it -/
theorem Ok.dict {n : Nat} {d : Addr} {ws : List W} (k : Ok Γ H μ S) (e : μ[n]? = some d) (q : Kd_ H d 1 ∨ Kd_ H d 2) (es : S[n]? = some ws) (hz : fzB ws = false) : ∃ (u : HO) (xs : List V) (us : List W), H d = some u ∧ EntD d u ws xs us ∧ xs.length ≤ sizeLine ∧ Rps Γ H μ xs us := by
  obtain ⟨o, ws', xs, us, e1, e2, en, l, r⟩ := k.at_ n d e
  rw [es] at e1
  cases e1
  refine ⟨o, xs, us, e2, ?_, l, r⟩
  cases o with
  | lst ys =>
    exfalso
    rcases q with ⟨o', e3, q⟩ | ⟨o', e3, q⟩ <;> (rw [e2] at e3; cases e3; cases q)
  | frz ob u =>
    obtain ⟨ws0, rfl, _⟩ := en
    cases hz
  | ins C dx fs =>
    exfalso
    rcases q with ⟨o', e3, q⟩ | ⟨o', e3, q⟩ <;> (rw [e2] at e3; cases e3; have hk : 4 ≤ kd (HO.ins C dx fs) := Nat.le_add_left 4 C; rw [q] at hk; exact absurd hk (by decide))
  | dK kvs => exact en
  | ext φ => exact en
  | _ => exact en.elim
theorem Ok.lock {n : Nat} {d : Addr} {u : HO} {ws us : List W} {xs : List V} (od : Obj) (k : Ok Γ H μ S) (e : μ[n]? = some d) (hd : H d = some u) (en : EntD d u ws xs us) (l : xs.length ≤ sizeLine) (r : Rps Γ H μ xs us) : Ok Γ (upd H d (.frz od u)) μ (S.set n (mkW :: ws)) ∧ Gr H μ (upd H d (.frz od u)) μ :=
  k.setO e (o := .frz od u) ⟨u, hd, kd_kdf en⟩ (fun q v z => by rw [hd] at z; cases z; exact en.nf q v rfl) ⟨ws, rfl, en⟩ l r
theorem Ok.unlock {n : Nat} {d : Addr} {u : HO} {od : Obj} {m : W} {ws : List W} (k : Ok Γ H μ S) (e : μ[n]? = some d) (hd : H d = some (.frz od u)) (hs : S[n]? = some (m :: ws)) : Ok Γ (upd H d u) μ (S.set n ws) ∧ (∀ v w, Rp Γ H μ v w → Rp Γ (upd H d u) μ v w) ∧ kd u ≠ 3 ∧ kd u = kdf u := by
  obtain ⟨o, ws', xs, us, e1, e2, en, l, r⟩ := k.at_ n d e
  rw [hs] at e1
  cases e1
  rw [hd] at e2
  cases e2
  have md : d ∈ μ := List.mem_of_getElem? e
  have nk := en.kd
  obtain ⟨ws0, ew, en⟩ := en
  cases ew
  have kk := kd_kdf en
  have nk : kd u ≠ 3 := by rw [kk]; exact nk
  have g1 : ∀ a o, H a = some o → a ∉ μ → upd H d u a = some o := fun a o h na => by rw [upd_ne (show a ≠ d from fun z => na (z ▸ md))]; exact h
  have g2 : ∀ a k, a ∈ μ → Kd_ H a k → Kd_ (upd H d u) a k := fun a j _ ⟨o, h, q⟩ => by
    by_cases ha : a = d
    · subst ha
      rw [hd] at h
      cases h
      exact ⟨u, upd_same, by rw [kk]; exact q⟩
    · exact ⟨o, by rw [upd_ne ha]; exact h, q⟩
  refine ⟨⟨by rw [List.length_set]; exact k.len, k.nd, fun a ha => ?_, fun j a ea => ?_, tabs_upd k.tb fun o' e' => ?_⟩, fun v w h => h.th g1 g2, nk, kk⟩
  · obtain ⟨⟨o, h, q⟩, na⟩ := k.dl a ha
    exact ⟨⟨o, g1 a o h na, q⟩, na⟩
  · by_cases hj : j = n
    · subst hj
      rw [e] at ea
      cases ea
      have hl : j < S.length := (List.getElem?_eq_some_iff.mp hs).1
      exact ⟨u, ws, xs, us, by rw [List.getElem?_set_self hl], upd_same, en.ent, l, Rps.th g1 g2 r⟩
    · obtain ⟨o2, ws2, ys, zs, f1, f2, en2, l2, r2⟩ := k.at_ j a ea
      have ha : a ≠ d := fun z => by
        subst z
        obtain ⟨i1, j1⟩ := List.getElem?_eq_some_iff.mp ea
        obtain ⟨i2, j2⟩ := List.getElem?_eq_some_iff.mp e
        exact hj ((List.getElem_inj k.nd).mp (j1.trans j2.symm))
      exact ⟨o2, ws2, ys, zs, by rw [List.getElem?_set_ne (Ne.symm hj)]; exact f1, by rw [upd_ne ha]; exact f2, en2, l2, Rps.th g1 g2 r2⟩
  · rw [hd] at e'
    cases e'
    show kdf u ≠ 3
    rw [← kk]
    exact nk
theorem gr_unlock {H2 : Hp} {μ2 : List Addr} {d : Addr} {u : HO} (hd : H d = some u) (md : d ∈ μ) (nf : ∀ q v, u ≠ .frz q v) (g : Gr H μ H2 μ2) : Gr H μ (upd H2 d u) μ2 :=
  ⟨g.pre, fun a o h na nt => ⟨by rw [upd_ne (show a ≠ d from fun z => na (z ▸ md))]; exact (g.keepN a o h na nt).1, (g.keepN a o h na nt).2⟩, fun a j ma q => by
    by_cases ha : a = d
    · subst ha
      obtain ⟨o, h, q⟩ := q
      rw [hd] at h
      cases h
      exact ⟨u, upd_same, q⟩
    · obtain ⟨o, h, q⟩ := g.kind a j ma q
      exact ⟨o, by rw [upd_ne ha]; exact h, q⟩, fun a o v ma h => by
    have ha : a ≠ d := fun z => by
      subst z
      rw [hd] at h
      cases h
      exact nf o v rfl
    rw [upd_ne ha]
    exact g.frz a o v ma h⟩
end
/-! ### a statement, a value, while a dict is locked -/
def dcN : Option (Option W) → Option Nat
  | some (some (.dct n)) => some n
  | some (some (.dtt n)) => some n
  | _ => none
def unS (n : Nat) (fl : Fl) (S : Store) : Out Fl := match fl with
  | .er c f us ρ => .ok (.er c f us ρ) S
  | fl => match S[n]? with
    | some (_ :: ws) => .ok fl (S.set n ws)
    | _ => .bad
def sLock (i : Nat) (s : DS) : DS := fun ρ S => match dcN ρ[i]? with
  | some n => match S[n]? with
    | some ws => if fzB ws = false then (match s ρ (S.set n (mkW :: ws)) with
      | .ok fl S' => unS n fl S'
      | _ => .bad) else .bad
    | none => .bad
  | none => .bad
section
variable {X : Cx} {E : L2.St → XK} {e : Expr} {st : Stmt} {s : DS} {d : DE} {i : Nat}
theorem dcn_at {Γ : Gm} {H : Hp} {μ : List Addr} {σ : L2.St} {ρ : En} {n : Nat} (h : Rσ Γ H μ σ ρ) (e : dcN ρ[i]? = some n) : ∃ d, μ[n]? = some d ∧ (Kd_ H d 1 ∨ Kd_ H d 2) := by
  cases h1 : ρ[i]? with
  | none => rw [h1] at e; cases e
  | some o => cases o with
    | none => rw [h1] at e; cases e
    | some w =>
      rw [h1] at e
      obtain ⟨v, hv, r⟩ := h.2 i w h1
      cases r <;> first | (cases e; done) | skip
      · rename_i h2 q; cases e; exact ⟨_, h2, .inl q⟩
      · rename_i h2 q; cases e; exact ⟨_, h2, .inr q⟩
theorem ds_lock (h : PDS X E st s) : PDS X E st (sLock i s) := ps_of (ps_lock h) fun D σ H ⟨δ, μ, S, ρ, k, sr, hr⟩ => by
  unfold sLock at hr
  cases en : dcN ρ[i]? with
  | none => rw [en] at hr; exact hr.elim
  | some n =>
    rw [en] at hr
    cases es : S[n]? with
    | none => simp only [es] at hr; exact hr.elim
    | some ws =>
      simp only [es] at hr
      by_cases hz : fzB ws = false
      · rw [if_pos hz] at hr
        obtain ⟨d, e1, q⟩ := dcn_at sr en
        obtain ⟨u, xs, us, hd, ent, l, r⟩ := k.dict e1 q es hz
        have md : d ∈ μ := List.mem_of_getElem? e1
        refine ⟨d, u, hd, ent.mut, fun od => ?_⟩
        obtain ⟨k1, g1⟩ := k.lock od e1 hd ent l r
        refine ⟨δ, μ, _, ρ, k1, rσ_gr g1 sr, ?_⟩
        cases e3 : s ρ (S.set n (mkW :: ws)) with
        | bad => rw [e3] at hr; exact hr.elim
        | err _ _ _ _ => rw [e3] at hr; exact hr.elim
        | ok fl S2 =>
          rw [e3] at hr
          have hr : ResS ⟨X.K, X.mg, δ⟩ E D H μ (unS n fl S2) := hr
          intro H2 μ2 g2 k2
          have hf : H2 d = some (.frz od u) := g2.frz d od u md upd_same
          have gg := g1.trans g2
          have gu := gr_unlock hd md ent.nf gg
          have e2 := g2.get e1
          have key : ∀ fl', (∀ c f us ρ, fl' ≠ Fl.er c f us ρ) → ResS ⟨X.K, X.mg, δ⟩ E D H μ (match S2[n]? with | some (_ :: ws) => .ok fl' (S2.set n ws) | _ => .bad) → EndS ⟨X.K, X.mg, δ⟩ E D (upd H2 d u) μ2 fl' ∧ ∀ v w, Rp ⟨X.K, X.mg, δ⟩ H2 μ2 v w → Rp ⟨X.K, X.mg, δ⟩ (upd H2 d u) μ2 v w := fun fl' _ hh => by
            cases e5 : S2[n]? with
            | none => rw [e5] at hh; exact hh.elim
            | some zs => cases zs with
              | nil => rw [e5] at hh; exact hh.elim
              | cons m zs =>
                rw [e5] at hh
                obtain ⟨k3, tr, _, _⟩ := k2.unlock e2 hf e5
                exact ⟨hh _ _ gu k3, tr⟩
          have rs : ∀ {σ' : L2.St} {ρ' : En}, (∀ v w, Rp ⟨X.K, X.mg, δ⟩ H2 μ2 v w → Rp ⟨X.K, X.mg, δ⟩ (upd H2 d u) μ2 v w) → Rσ ⟨X.K, X.mg, δ⟩ H2 μ2 σ' ρ' → Rσ ⟨X.K, X.mg, δ⟩ (upd H2 d u) μ2 σ' ρ' := fun tr h => ⟨h.1, fun i w e => let ⟨v, e1, r⟩ := h.2 i w e; ⟨v, e1, tr _ _ r⟩⟩
          cases fl with
          | nx ρ' =>
            obtain ⟨a, tr⟩ := key (.nx ρ') (fun _ _ _ _ z => nomatch z) hr
            exact fun σ' s' => ⟨hf, a σ' (rs tr s')⟩
          | rt w =>
            obtain ⟨a, tr⟩ := key (.rt w) (fun _ _ _ _ z => nomatch z) hr
            exact fun v rv => ⟨hf, a v (tr _ _ rv)⟩
          | bk ρ' =>
            obtain ⟨a, tr⟩ := key (.bk ρ') (fun _ _ _ _ z => nomatch z) hr
            exact fun σ' s' => ⟨hf, a σ' (rs tr s')⟩
          | ct ρ' =>
            obtain ⟨a, tr⟩ := key (.ct ρ') (fun _ _ _ _ z => nomatch z) hr
            exact fun σ' s' => ⟨hf, a σ' (rs tr s')⟩
          | er c f vs ρ' => exact fun σ' s' cls dd rx => hr _ _ gg k2 σ' s' cls dd rx
      · rw [if_neg hz] at hr; exact hr.elim
end
/-! ### its keys -/
end Den

namespace Den
open PySem PySem.Spec PyProof.Rows L2 Bal
/-! ### list(d.values()), sorted(d), len(d), d.setdefault(k, []) -/
end Den

namespace Den
open PySem PySem.Spec PyProof.Rows L2 Bal
/-! ### len(d), for x, y in d.items() -/
end Den

namespace Den
open PySem PySem.Spec PyProof.Rows L2 Bal
/-! ### dict(xs) of a list of pairs -/
end Den

namespace Den
open PySem PySem.Spec PyProof.Rows L2 Bal
/-! ### d.items() of a dict by tuples of numbers, d.get(k, z) -/
/-- what stands where a locked one stands -/
theorem frz_dt {X : Cx} {pins : List (Addr × Obj)} {σ : L2.St} {H : Hp} {s : Shared} {d : Addr} {o : Obj} {kvs : KVs} (I : Inv X pins σ H s) (h : H d = some (.frz o (DTo d kvs))) :
    (d == sysModules) = false ∧ s.heap.get? d = some o ∧ o.ExactDict ∧ ∃ es ep, o.data = .dict es ep ∧ Paired DTe kvs es.toList := by
  have hh := I.hok d _ h
  obtain ⟨h1, h2⟩ := hh
  obtain ⟨⟨hs, o', es, ep, ho, hx, hd, pr, nd⟩, _⟩ := (show ObjOk X.prog X.w H s.heap d (DTo d kvs) from h2)
  have e : o' = o := by
    have h1 : s.heap.get? d = some o := h1
    rw [h1] at ho
    exact (Option.some.inj ho).symm
  subst e
  exact ⟨hs, ho, hx, es, ep, hd, pr⟩
theorem paired_at {α β : Type} {F : α → β → Prop} {l₁ : List α} {l₂ : List β} (h : Paired F l₁ l₂) : ∀ {j : Nat} {x : α}, l₁[j]? = some x → ∃ y, l₂[j]? = some y ∧ F x y := by
  induction h with
  | nil => intro j x e; simp at e
  | cons hf _ ih =>
    intro j x e
    cases j with
    | zero =>
      have e := Option.some.inj e
      subst e
      exact ⟨_, rfl, hf⟩
    | succ j => exact ih (j := j) (by simpa using e)
/-! d.get(k, z) -/
section
variable {X : Cx} {pins : List (Addr × Obj)} {σ : L2.St} {H : Hp} {s : Shared} {a b : Addr} {kvs : KVs} {ks : TKy} {A : Around} {E : Value → Shared → Prop}
theorem t_get2 {z : V} {r : Value} {Q : Value → Shared → Prop} (hu : A.units + 70 < cLine) (I : Inv X pins σ H s) (e : Rd H a (DTo a kvs)) (hk : KeysAt X.K H kvs) (hb : KyV X.K H b ks) (rz : RelV z r) (h : ∀ w' s', Inv X pins σ H s' → RelV ((valA kvs ks).getD z) w' → Q w' s') :
    wpAny (model X.prog X.w) A (call (.builtin "dict.get") [.ref a, .ref b, r]) Q E s := by
  obtain ⟨hd, xs, dd, rel⟩ := dt_raw I e hk
  refine call_meetsIn PySem.F.slot_dict_get dd.typeIs PySem.F.entry_dict_get (PySem.F.args_dict_get_3 _ _ _) (meetsH_dict_get_default (tK X.prog X.w) a b hd r) ⟨room_in hu _ _, nestK ks, xs, key_int I hb, dd, h _ _ (I.tok _) ?_⟩
  exact (xq_val rel ks).getD rz
end
def tTGet2 (K : PySem.W.Frag) (td ty tx : TE) : TE := fun σ H Q => td σ H fun x H1 => ∃ a, x = .ref a ∧ (∃ kvs, Rd H1 a (DTo a kvs)) ∧ ty σ H1 fun y H2 => tx σ H2 fun z H3 => ∃ kvs b ks, Rd H3 a (DTo a kvs) ∧ KeysAt K H3 kvs ∧ y = .ref b ∧ KyV K H3 b ks ∧ Q ((valA kvs ks).getD z) H3
section
variable {X : Cx} {o e f : Expr} {apos cpos : Pos} {td ty tx : TE}
theorem dtt_at {pins : List (Addr × Obj)} {σ : L2.St} {H : Hp} {s : Shared} {a : Addr} {kvs : KVs} (I : Inv X pins σ H s) (e : Rd H a (DTo a kvs)) : s.TypeIs (.ref a) "dict" ∧ (∀ b, Value.ref a = .ref b → ∃ ob, s.heap.get? b = some ob ∧ ob.dict = none) := by
  obtain ⟨⟨hs, o, es, ep, ho, hx, hd, pr, nd⟩, _⟩ := (show ObjOk X.prog X.w H s.heap a (DTo a kvs) from e.elim (fun e => I.hok a _ e) fun ⟨o, e⟩ => (I.hok a _ e).2)
  exact ⟨⟨o, ho, hx.1⟩, fun b q => by cases q; exact ⟨o, ho, hx.2.1⟩⟩
theorem pe_tget2 (hu : X.A.units + 70 < cLine) (ho : PE X o td) (he : PE X e ty) (hf : PE X f tx) (m : M2 X o "get" apos e f cpos) : PE X (.Call (.Attribute o "get" apos) [e, f] [] cpos) (tTGet2 X.K td ty tx) := by
  refine ⟨fun pins s σ H Q I h => ?_⟩
  refine wpAny_Call_method m.base m.few m.line PySem.F.plainAttrs_dict PySem.F.slot_dict_get PySem.F.type_dict_get (thn (ho.run pins s σ H _ I h) fun u s1 ⟨x, H1, I1, rx, a, ex, ⟨kvs0, d⟩, q1⟩ => ?_)
  subst ex
  obtain rfl : u = Value.ref a := rx
  obtain ⟨t1, t2⟩ := dtt_at I1 d
  refine ⟨t1, t2, ?_⟩
  rw [m.trees]
  refine Calls.callWith_builtin rfl (Calls.evalArgs_plain (Calls.spliced_cons (thn (he.run pins s1 σ H1 _ I1 q1) fun iv s2 ⟨y, H2, I2, ry, q2⟩ =>
    Calls.spliced_cons (thn (hf.run pins s2 σ H2 _ I2 q2) fun fv s3 ⟨z, H3, I3, rz, kvs, b, ks, g, hk, ey, hb, q3⟩ => Calls.spliced_nil ?_))))
  subst ey
  cases (show iv = Value.ref b from ry)
  exact t_get2 hu I3 g hk hb rz fun w' s4 I4 rw' => ⟨_, H3, I4, rw', q3⟩
end
def getT2 (n : Nat) (y z : W) : Mo W := fun S => match keyT y, S[n]? with
  | some _, some ws => .ok ((dgetW ws y).getD z) S
  | _, _ => .bad
def dTGet2 (d dy dz : DE) : DE := fun ρ => bnd (d ρ) fun w => match w with
  | .dtt n => bnd (dy ρ) fun y => bnd (dz ρ) fun z => getT2 n y z
  | _ => bad
section
variable {X : Cx} {E : L2.St → XK} {o e f : Expr} {apos cpos : Pos} {d dy dz : DE}
theorem de_tget2 (hu : X.A.units + 70 < cLine) (ho : PD X E o d) (he : PD X E e dy) (hf : PD X E f dz) (m : M2 X o "get" apos e f cpos) : PD X E (.Call (.Attribute o "get" apos) [e, f] [] cpos) (dTGet2 d dy dz) := pe_of (pe_tget2 hu ho he hf m) fun σ H Q ⟨δ, μ, S, ρ, k, s, h⟩ =>
  ⟨δ, μ, S, ρ, k, s, Res.step h fun w S1 H1 μ1 g1 k1 h1 v rv => by
    cases w with
    | dtt n =>
      cases rv with
      | @dtt a n hh hq =>
        obtain ⟨kvs0, uv0, pre0, _, e20, _⟩ := dt_st k1 hh hq
        refine ⟨a, rfl, ⟨kvs0, e20.rd⟩, δ, μ1, S1, ρ, k1, rσ_gr g1 s, Res.step h1 fun y S2 H2 μ2 g2 k2 h2 yv ry => ⟨δ, μ2, S2, ρ, k2, rσ_gr g2 (rσ_gr g1 s), Res.step h2 fun z S3 H3 μ3 g3 k3 h3 zv rz => ?_⟩⟩
        have hh3 := g3.get (g2.get hh)
        have hq3 : Kd_ H3 a 2 := g3.kind _ _ (List.mem_of_getElem? (g2.get hh)) (g2.kind _ _ (List.mem_of_getElem? hh) hq)
        obtain ⟨kvs, uv, pre, e1, e2, hl, l, r1, r2⟩ := dt_st k3 hh3 hq3
        have h3 : Res ⟨X.K, X.mg, δ⟩ (E σ) H3 μ3 (getT2 n y z S3) _ := h3
        unfold getT2 at h3
        cases hy : keyT y with
        | none => simp only [hy] at h3; exact h3.elim
        | some ks =>
          simp only [hy, e1] at h3
          have hx := keyT_is hy
          subst hx
          obtain ⟨b, rfl, hb⟩ := tk_rp (ry.gr g3)
          rw [dget_pre e2] at h3
          refine ⟨kvs, b, ks, e2.rd, keysAtT r1, rfl, hb, ?_⟩
          rcases tget_is ks r2 with ⟨z1, z2⟩ | ⟨v', u', z1, z2, rr⟩
          · rw [z2] at h3
            rw [z1]
            exact Res.now k3 h3 _ rz
          · rw [z2] at h3
            rw [z1]
            exact Res.now k3 h3 _ rr
    | _ => exact h1.elim⟩
end
end Den

namespace Den
open PySem PySem.Spec PyProof.Rows L2 Bal
/-! ### {}, to be a dict by tuples of numbers -/
def tTNew : TE := fun _ H Q => ∀ p, H p = none → Q (.ref p) (upd H p (DTo p []))
section
variable {X : Cx} {pos : Pos}
theorem dtt_empty {P : Program} {w : World} {H : Hp} (h : Heap) (hb : sysModules < h.objs.size) : ObjOk P w H (h.push { cls := .type "dict", data := .dict #[] }) h.objs.size (DTo h.objs.size []) :=
  dt_ok (P := P) (w := w) (xs := []) (beq_eq_false_iff_ne.mpr (Ne.symm (Nat.ne_of_lt hb))) (Heap.DictOfH.new h) .nil
theorem pe_tnew : PE X (.Dict [] [] pos) tTNew := ⟨fun pins s σ H Q I h =>
  wpAny_Dict_empty ⟨.ref s.heap.objs.size, _, I.laid (a := s.heap.objs.size) (o := DTo s.heap.objs.size []) (t' := s.toks) (fun _ _ q => Heap.get?_push_of_some _ q) (Nat.le_refl _) (dtt_empty s.heap I.big), rfl, h _ (I.hok.fresh (Nat.le_refl _))⟩⟩
end
def dTNew0 : DE := fun _ S => .ok (.dtt S.length) (S ++ [[]])
section
variable {X : Cx} {E : L2.St → XK} {pos : Pos}
theorem de_tnew : PD X E (.Dict [] [] pos) dTNew0 := pe_of pe_tnew fun σ H Q ⟨δ, μ, S, ρ, k, s, h⟩ => fun p hp => by
  obtain ⟨k2, g⟩ := k.allocO hp (o := DTo p []) (ws := []) (xs := []) (us := []) ⟨[], [], rfl, rfl, rfl, rfl, rfl⟩ (Nat.zero_le _) .nil
  refine h _ _ g k2 _ (.dtt ?_ ⟨_, upd_same, kd_dt _ _⟩)
  rw [← k.len, List.getElem?_append_right (Nat.le_refl _), Nat.sub_self]
  rfl
end
/-! d[k] -/
section
variable {X : Cx} {E : L2.St → XK} {a b : Expr} {pos : Pos} {K : PySem.W.Frag} {mg : Str → Option Value} {da db : DE} {ta tb : TE}
theorem pe_ttget (hu : X.A.units + 70 < cLine) (ha : PE X a ta) (hb : PE X b tb) (hs : NoSl b := by exact fun _ _ => rfl) : PE X (.Subscript a b pos) (fun σ H Q => ta σ H fun x H1 => tb σ H1 fun y H2 => rTGet X.K x y H2 Q) := by
  refine ⟨fun pins s σ H Q I h => ?_⟩
  refine subD_of PySem.F.slot_dict_getitem.lookup hs (thn (ha.run pins s σ H _ I h) fun u s1 ⟨x, H1, I1, rx, q1⟩ => thn (hb.run pins s1 σ H1 _ I1 q1) fun iv s2 ⟨y, H2, I2, ry, d, kvs, b, ks, v, ex, e, hk, ey, hb', l, q2⟩ => ?_)
  subst ex
  subst ey
  obtain rfl : u = Value.ref d := rx
  obtain rfl : iv = Value.ref b := ry
  exact ⟨(dtt_at I2 e).1, t_get hu I2 e hk hb' l fun w' s3 I3 rw' => ⟨v, H2, I3, rw', q2⟩⟩
theorem fTGet_ok : Op2 K mg (rTGet K) fTGet := by
  intro δ H μ S v u x y w Q k rx ry e q
  cases rx with
  | @dtt a n hh hq =>
    have e : (match keyT y, S[n]? with | some _, some ws => dgetW ws y | _, _ => none) = some w := e
    cases hy : keyT y with
    | none => rw [hy] at e; cases e
    | some ks =>
      rw [hy] at e
      obtain ⟨kvs, uv, pre, e1, e2, hl, l, r1, r2⟩ := dt_st k hh hq
      have hx := keyT_is hy
      subst hx
      obtain ⟨b, rfl, hb⟩ := tk_rp ry
      rw [e1] at e
      have e : dgetW (pre ++ dtW kvs uv) (tkW ks) = some w := e
      rw [dget_pre e2] at e
      rcases tget_is ks r2 with ⟨_, z2⟩ | ⟨v', u', z1, z2, rr⟩
      · rw [z2] at e; cases e
      · rw [z2] at e
        cases e
        exact ⟨a, kvs, b, ks, v', rfl, e2.rd, keysAtT r1, rfl, hb, z1, q _ _ Gr.refl k rr⟩
  | _ => cases e
theorem de_tget (hu : X.A.units + 70 < cLine) (ha : PD X E a da) (hb : PD X E b db) (hs : NoSl b := by exact fun _ _ => rfl) : PD X E (.Subscript a b pos) (dBin fTGet da db) := pe_of (pe_ttget hu ha hb hs) fun _ _ _ h => bin_ok fTGet_ok h
end
end Den

namespace Den
open PySem PySem.Spec PyProof.Rows L2 Bal
/-! ### xs[i] += n, xs.count(n) -/
section
variable {X : Cx}
theorem get_listD : PGet X (rIxL X.K) := by
  intro pins s σ H x y v u Q I rx ry h
  obtain ⟨p, xs, i, z, rfl, rfl, hq, he, q⟩ := h
  cases rx
  obtain ⟨t, rfl⟩ := ry
  obtain ⟨its, r, pl, hz⟩ := I.list hq
  obtain ⟨j, h1, h2, h3, h4, h5⟩ := atI_get he
  obtain ⟨w, ew, rw'⟩ := r.get h2
  have hl := r.length
  have hn := line63
  have fin : EP X pins σ Q w s := ⟨z, H, I, rw', q⟩
  by_cases h0 : 0 ≤ i
  · have hj : i.toNat = j := by
      rw [seqIndex_of h0 h5] at h1
      exact Option.some.inj h1
    exact wpAny_getItem_list pl.isList h0 (by omega) (by rw [hj]; simpa using ew) fin
  · have hj : (i + (its.toArray.size : Int)).toNat = j := by
      rw [seqIndex_neg (by omega) h4] at h1
      rw [List.size_toArray, ← hl]
      exact Option.some.inj h1
    exact wpAny_getItem_list_neg (Q := EP X pins σ Q) pl.isList (by omega) (by rw [List.size_toArray] <;> omega) (by omega) (by rw [hj]; simpa using ew) fin
end
def augPut (ρ : En) (n : Nat) (j x : Int) (y : W) : Mo Fl := fun S => match y with
  | .int b => match S[n]? with
    | some ws => match ixN ws.length j with
      | some m => .ok (.nx ρ) (S.set n (ws.set m (.int (x + b))))
      | none => .bad
    | none => .bad
  | _ => .bad
def augGo (ρ : En) (dv : DE) (o i : W) : Mo Fl := fun S => match o, i with
  | .lst n, .int j => match S[n]? with
    | some ws => match atI ws j with
      | some (.int x) => lft (dv ρ) ρ (augPut ρ n j x) S
      | _ => .bad
    | none => .bad
  | _, _ => .bad
def sAugIx (d di dv : DE) : DS := fun ρ => lft (d ρ) ρ fun o => lft (di ρ) ρ fun i => augGo ρ dv o i
section
variable {X : Cx} {E : L2.St → XK} {o i e : Expr} {tpos pos : Pos} {d di dv : DE}
theorem ds_augIx (ho : PD X E o d) (hi : PD X E i di) (he : PD X E e dv)
    (ha : ∀ ov iv new, augStore i ov iv new = (do holding [new, ov, iv] (setItem ov iv new); release [new, ov, iv] []; pure .next) := by intros; rfl) : PDS X E (.AugAssign (.Subscript o i tpos) .Add e pos) (sAugIx d di dv) := ps_of (ps_augS ho hi get_listD he ip_add set_list ha) fun D σ H ⟨δ, μ, S, ρ, k, s, h⟩ =>
  ⟨δ, μ, S, ρ, k, s, ResS.step s h fun ow S1 H1 μ1 g1 k1 h1 ov ro => ⟨δ, μ1, S1, ρ, k1, rσ_gr g1 s, ResS.step (rσ_gr g1 s) h1 fun iw S2 H2 μ2 g2 k2 h2 iv ri => by
    have s2 := rσ_gr g2 (rσ_gr g1 s)
    have ro2 := ro.gr g2
    unfold augGo at h2
    cases ro2 with
    | @lst a n hh hq =>
      cases ri with
      | int j =>
        obtain ⟨xs, ws, f1, f2, l, rs⟩ := k2.lat hh hq
        simp only [f1] at h2
        cases e3 : atI ws j with
        | none => simp only [e3] at h2; exact h2.elim
        | some xw =>
          obtain ⟨z, z1, z2⟩ := atI_rps rs e3
          cases z2 <;> first | (simp only [e3] at h2; exact h2.elim; done) | skip
          rename_i x
          simp only [e3] at h2
          refine ⟨a, xs, j, .int x, rfl, rfl, .inl (.inl f2), z1, δ, μ2, S2, ρ, k2, s2, ResS.step s2 h2 fun yw S4 H4 μ4 g4 k4 h4 yv ry => ?_⟩
          unfold augPut at h4
          cases ry <;> first | (exact h4.elim; done) | skip
          rename_i b
          refine ⟨x, b, rfl, rfl, ?_⟩
          have hh4 := g4.get hh
          have hq4 : Kd_ H4 a 0 := g4.kind _ _ (List.mem_of_getElem? hh) hq
          obtain ⟨xs4, ws4, f3, f4, l4, rs4⟩ := k4.lat hh4 hq4
          simp only [f3] at h4
          cases e7 : ixN ws4.length j with
          | none => simp only [e7] at h4; exact h4.elim
          | some m =>
            simp only [e7] at h4
            obtain ⟨k5, g5⟩ := k4.set hh4 hq4 (xs := xs4.set m (.int (x + b))) (by rw [List.length_set]; exact l4) (rs4.set m (.int _))
            exact ⟨a, xs4, j, m, rfl, rfl, f4, by rw [rs4.len]; exact e7, (ResS.now k5 (ResS.gr g5 h4)) σ (rσ_gr g5 (rσ_gr g4 s2))⟩
      | _ => exact h2.elim
    | _ => exact h2.elim⟩⟩
end
/-! xs.count(n) -/
def cntW (S : Store) (x : W) (k : Int) : Option (W × Store) := match lstS S x with
  | some ws => match nT ws with
    | some ns => some (.int ((ns.count k : Nat) : Int), S)
    | none => none
  | none => none
def cntY (S : Store) (x y : W) : Option (W × Store) := match y with
  | .int k => cntW S x k
  | _ => none
def fCount (S : Store) (x : W) : List W → Option (W × Store)
  | [y] => cntY S x y
  | _ => none
section
variable {K : PySem.W.Frag} {mg : Str → Option Value}
theorem fCount_ok : MtW K mg (rCntI K) fCount := by
  intro δ H μ S S' v vs x w ws Q k rx rs e q
  match ws, rs, e with
  | [y], rs, e =>
    obtain ⟨u, rfl, ry⟩ := rs.one rfl
    have e : cntY S x y = some (w, S') := e
    cases ry with
    | int kk =>
      have e : cntW S x kk = some (w, S') := e
      unfold cntW at e
      cases e1 : lstS S x with
      | none => simp only [e1] at e; cases e
      | some zs =>
        simp only [e1] at e
        cases e2 : nT zs with
        | none => simp only [e2] at e; cases e
        | some ns =>
          simp only [e2] at e
          cases e
          obtain ⟨l, ys, rfl, hh, _, r⟩ := rx.lstS k e1
          rw [nT_is e2] at r
          rw [rps_nW r] at hh
          exact ⟨l, ns, kk, rfl, rfl, .inl (.inl hh), q _ _ Gr.refl k (.int _)⟩
    | _ => cases e
end
/-! x * n of lists, kept in the store -/
end Den

namespace Den
open PySem PySem.Spec PyProof.Rows L2 Bal
/-! ### for x in d, d a locked dict by tuples -/
def ItKT (d : Addr) (o : Obj) (kvs : KVs) : It :=
  ⟨fun i H => H d = some (.frz o (DTo d kvs)) ∧ i < kvs.length, fun i H x H' => H' = H ∧ ∃ p, kvs[i]? = some p ∧ x = .ref p.1.1, fun i H => H d = some (.frz o (DTo d kvs)) ∧ kvs.length ≤ i⟩
section
variable {P : Program} {w : World} {K : PySem.W.Frag} {tg : Expr} {d : Addr} {o : Obj} {es : Array DictEntry} {ep : Nat}
theorem turn_keysV {kvs : KVs} (it : Addr) (hod : o.data = .dict es ep) : Turn P w K tg (ItKT d o kvs) [it] it (fun i h => h.IsKeyIter it d i kvs.length ep) where
  mem := by simp
  obj := fun i h st b hb => by
    have e : b = it := by simpa using hb
    subst e
    obtain ⟨oi, e, c, dd⟩ := st
    exact ⟨oi, e, fun v z => by rw [dd] at z; cases z⟩
  keep := fun i h h' st k => st.at fun oi e => k it (by simp) oi e
  item := by
    intro X hP hw hK hc i pins s σ H E I hf st hg
    subst hP hw hK
    obtain ⟨hd, hi⟩ := hg
    obtain ⟨f0, f1, f2, f3, f4, f5⟩ := hf it (by simp)
    obtain ⟨hs, hgd, hx, es', ep', hdt, pr⟩ := frz_dt I hd
    obtain ⟨rfl, rfl⟩ := dict_ep hod hdt
    have hl : kvs.length = es'.size := by rw [Paired.length pr]; simp
    obtain ⟨p, hkv⟩ : ∃ p, kvs[i]? = some p := ⟨kvs[i], List.getElem?_eq_getElem hi⟩
    obtain ⟨en, hen, _, h2, h3⟩ := paired_at pr hkv
    have hen' : es'[i]? = some en := by rw [← Array.getElem?_toList]; exact hen
    refine next_key_item st hgd hdt hl.symm hen' fun h' st' sb => ?_
    have I1 : Inv X pins σ H { s with heap := h' } := I.turned (t' := s.toks) (fun b ob hb e => (sb.2 b hb).trans e) f0 f1 f3 f4 f5
    obtain ⟨oi, e, c, dd⟩ := id st'
    exact ⟨en.key, rfl, go_of (s := { s with heap := h' }) e c dd (by decide) ⟨.ref p.1.1, H, I1, h2, ⟨rfl, p, hkv, rfl⟩, st', fun b hb => (hf b hb).1⟩⟩
  done := by
    intro X hP hw hK hc i pins s σ H E I hf st hg
    subst hP hw hK
    obtain ⟨hd, hi⟩ := hg
    obtain ⟨f0, f1, f2, f3, f4, f5⟩ := hf it (by simp)
    obtain ⟨hs, hgd, hx, es', ep', hdt, pr⟩ := frz_dt I hd
    obtain ⟨rfl, rfl⟩ := dict_ep hod hdt
    have hl : kvs.length = es'.size := by rw [Paired.length pr]; simp
    exact next_key_end (I.ok.hd hc) st hgd hdt hl.symm hi fun h' eb => ⟨rfl, I.turned (t' := s.toks) (fun b ob hb e => eb b ob hb e) f0 f1 f3 f4 f5⟩
  self := fun A i s Q E st h => wpAny_pyIter_keyiter st h
end
def iKeyT (td : TE) : TI := fun σ H R => td σ H fun x H1 => ∃ d o kvs, x = .ref d ∧ H1 d = some (.frz o (DTo d kvs)) ∧ R (ItKT d o kvs) H1
section
variable {X : Cx} {tg e : Expr} {td : TE}
theorem pi_keysV (he : PE X e td) : PI X tg e (iKeyT td) := by
  refine ⟨fun pins s σ H R I h => ?_⟩
  refine thn (he.run pins s σ H _ I h) fun u s1 ⟨x, H1, I1, rx, d, o, kvs, ex, hd, q⟩ => ?_
  subst ex
  obtain rfl : u = Value.ref d := rx
  obtain ⟨hs, hgd, hx, es, ep, hdt, pr⟩ := frz_dt I1 hd
  have hl : kvs.length = es.size := by rw [Paired.length pr]; simp
  refine iter_keys hs hgd hx hdt (pi_one (tk := s1.toks) I1 _ (turn_keysV _ hdt) ⟨_, Heap.get?_push_size _ rfl, rfl, ?_⟩ q)
  rw [hl] <;> rfl
end
/-- its keys, when it is locked -/
def keysV (S : Store) : W → Option (List W × List Nat)
  | .dtt n => match S[n]? with
    | some (.tup [] :: ws) => some (ws.map fstW, [])
    | _ => none
  | _ => none
def iKeysV (d : DE) : DI := fun ρ => bnd (d ρ) fun w => rdI fun S => keysV S w
theorem srv_keysV {Γ : Gm} {H0 : Hp} {μ0 : List Addr} {S0 : Store} {d : Addr} {o : Obj} {kvs : KVs} (hd : H0 d = some (.frz o (DTo d kvs))) (md : d ∈ μ0) (r1 : Rps Γ H0 μ0 (kvs.map fun p => V.ref p.1.1) (kvs.map fun p => tkW p.1.2)) (l : kvs.length ≤ sizeLine) : Srv Γ (ItKT d o kvs) (kvs.map fun p => tkW p.1.2) [] H0 μ0 S0 := by
  refine ⟨by rw [List.length_map]; exact l, fun {Γ'} H μ S hK g k _ up => ?_⟩
  have h1 := g.frz d o _ md hd
  rw [List.length_map]
  refine ⟨fun i hi => ⟨⟨h1, hi⟩, fun x H' y => ?_⟩, h1, Nat.le_refl _⟩
  obtain ⟨e, p, ek, ex⟩ := y
  subst e
  subst ex
  obtain ⟨wk, ewk, rwk⟩ := r1.get (i := i) (v := .ref p.1.1) (by rw [List.getElem?_map, ek]; rfl)
  have ewk2 : wk = tkW p.1.2 := by
    rw [List.getElem?_map, ek] at ewk
    exact (Option.some.inj ewk).symm
  subst ewk2
  exact ⟨tkW p.1.2, by rw [List.getElem?_map, ek]; rfl, Same.refl _, up _ _ rwk⟩
section
variable {X : Cx} {E : L2.St → XK} {tg a : Expr}
theorem di_keysV {d : DE} (h : PD X E a d) : PI X tg a (iOf X.K X.mg E (iKeysV d)) := pi_of (pi_keysV h) fun σ H R ⟨δ, μ, S, ρ, k, s, h⟩ =>
  ⟨δ, μ, S, ρ, k, s, Res.step h fun w S1 H1 μ1 g1 k1 h1 v rv => by
    unfold rdI at h1
    cases rv with
    | @dtt a n hh hq =>
      obtain ⟨kvs, us, pre, e1, e2, hl, l, r1, r2⟩ := dt_st k1 hh hq
      rcases e2 with ⟨rfl, _⟩ | ⟨rfl, ob, e2⟩
      · exfalso
        have : keysV S1 (.dtt n) = none := by
          simp only [keysV, e1]
          cases kvs with
          | nil => rfl
          | cons p kvs => cases us with
            | nil => simp at hl
            | cons u us => rfl
        simp only [this] at h1
        exact h1.elim
      · have es : keysV S1 (.dtt n) = some (kvs.map (fun p => tkW p.1.2), []) := by
          simp only [keysV, e1]
          show some ((dtW kvs us).map fstW, ([] : List Nat)) = _
          rw [fst_dt kvs us hl]
        simp only [es] at h1
        exact ⟨a, ob, kvs, rfl, e2, Res.now k1 h1 _ (srv_keysV e2 (List.mem_of_getElem? hh) r1 (by omega))⟩
    | _ => exact h1.elim⟩
end
end Den

namespace Den
open PySem PySem.Spec PyProof.Rows L2 Bal
def topS (i : Nat) : Stmt := PySem.Challenge.pw_balconyrow_k48_how_many_views_there_are.main.body.getD i (.Pass ⟨0, 0, 0, 0⟩)
def d_law_take (rec_ : List W → Mo W) : DS := (sSeq (sIf (dTst (dBin (fCmp pGt) (dBin fIx (dVar 0) (dC (.int 0))) (dC (.int 0)))) (sSeq (sSet 2 (dBin fMod (dBin fIx (dVar 0) (dC (.int 0))) (dVar 1))) (sSeq (sAsgM (gPut (dVar 0) (dC (.int 0))) (dBin fDiv (dBin fIx (dVar 0) (dC (.int 0))) (dVar 1))) (sRet (dVar 2)))) sNil) (sSeq (sIf (dTst (dBin (fCmp pGt) (dVar 1) (dBin fPow (dC (.int 10)) (dC (.int 7))))) (sRet (dBin fMod (dBin fAdd (dCall 2 rec_ (dCons (dVar 0) (dCons (dBin fPow (dC (.int 10)) (dC (.int 7))) dNil))) (dBin fMul (dBin fPow (dC (.int 10)) (dC (.int 7))) (dCall 2 rec_ (dCons (dVar 0) (dCons (dBin fAdd (dBin fDiv (dVar 1) (dBin fPow (dC (.int 10)) (dC (.int 7)))) (dC (.int 1))) dNil))))) (dVar 1))) sNil) (sSeq (sAsgM (gPut (dVar 0) (dC (.int 2))) (dBin fAdd (dBin fIx (dVar 0) (dC (.int 2))) (dC (.int 1)))) (sSeq (sSet 3 (dBin fMod (dBin fPow (dBin fAdd (dBin fIx (dVar 0) (dC (.int 1))) (dBin fMul (dC (.int 52774)) (dBin fIx (dVar 0) (dC (.int 2))))) (dC (.int 3))) (dC (.int 2147483563)))) (sRet (dBin fMod (dBin fDiv (dBin fMod (dBin fAdd (dBin fMul (dVar 3) (dBin fAdd (dBin fMod (dVar 3) (dC (.int 40013))) (dC (.int 11)))) (dBin fMul (dBin fIx (dVar 0) (dC (.int 2))) (dC (.int 6089)))) (dC (.int 2147483647))) (dC (.int 32))) (dVar 1)))))))
def g_law_take : Nat → List W → Mo W
  | 0 => fun _ _ => .bad
  | n + 1 => fnW 4 (d_law_take (g_law_take n))
def d_law_floors : DS := (sSeq (sAsg (.tp [.nm 2, .nm 3]) (dTup (dCons (dCall 2 (g_law_take 6) (dCons (dVar 0) (dCons (dC (.int 5)) dNil))) (dCons (dLst dNil) dNil)))) (sSeq (sIf (dTst (dBin fEq (dVar 2) (dC (.int 1)))) (sRet (dCl (dCons (dBin fAdd (dC (.int 1)) (dCall 2 (g_law_take 6) (dCons (dVar 0) (dCons (dVar 1) dNil)))) dNil))) sNil) (sSeq (sFor (iRg2 (dCons (dC (.int 1)) (dCons (dBin fAdd (dVar 1) (dC (.int 1))) dNil))) (.nm 4) (sIf (dOrT (dTst (dBin fEq (dVar 2) (dC (.int 4)))) (dAndT (dTst (dBin (fCmp pGt) (dVar 2) (dC (.int 1)))) (dTst (dBin fEq (dCall 2 (g_law_take 6) (dCons (dVar 0) (dCons (dVar 2) dNil))) (dC (.int 0)))))) (sDrop (dMth fAppend (dVar 3) (dCons (dVar 4) dNil))) sNil)) (sRet (dVar 3)))))
def g_law_floors : List W → Mo W := fnW 5 d_law_floors
def d_law_homes : DS := (sRet (dTup (dCons (dCallN fTuple (dCons (dCall 2 g_law_floors (dCons (dVar 0) (dCons (dVar 1) dNil))) dNil)) (dCons (dCallN fTuple (dCons (dCall 2 g_law_floors (dCons (dVar 0) (dCons (dVar 1) dNil))) dNil)) dNil))))
def g_law_homes : List W → Mo W := fnW 2 d_law_homes
def d_law_built : DS := (sSeq (sSet 2 (dCl dNil)) (sSeq (sFor (iZip 2 (dCons (dVar 0) (dCons (dVar 1) dNil))) (.tp [(.nm 3), (.nm 4)]) (sSet 2 (dBin fAdd (dBin fAdd (dCut .cl (dVar 2) oNone (oSome (dVar 4))) (dCl (dCons (dVar 3) dNil))) (dCut .cl (dVar 2) (oSome (dVar 4)) oNone)))) (sRet (dCallN fTuple (dCons (dVar 2) dNil)))))
def g_law_built : List W → Mo W := fnW 5 d_law_built
def d_law_every : DS := (sSeq (sSet 1 (dCl (dCons (dCl dNil) dNil))) (sSeq (sFor (iSeq (dVar 0)) (.tp [(.nm 2), (.nm 3), (.nm 4)]) (sSeq (sSet 5 (dLst dNil)) (sSeq (sFor (iSeq (dVar 1)) (.nm 6) (sDrop (dMth fExtend (dVar 5) (dCons (dLc .cl [7] (iRg2 (dCons (dVar 3) (dCons (dBin fAdd (dVar 4) (dC (.int 1))) dNil))) (.nm 7) dYes (dBin fAdd (dVar 6) (dCl (dCons (dVar 7) dNil)))) dNil)))) (sSet 1 (dVar 5))))) (sRet (dLc .cl [6] (iSeq (dVar 1)) (.nm 6) dYes (dCall 2 g_law_built (dCons (dLc .cl [8] (iSeq (dVar 0)) (.nm 8) dYes (dBin fIx (dVar 8) (dC (.int 0)))) (dCons (dVar 6) dNil)))))))
def g_law_every : List W → Mo W := fnW 9 d_law_every
def d_law_front : DS := (sSeq (sSet 2 (dC (.int 0))) (sSeq (sFor (iSeq (dVar 0)) (.nm 3) (sSeq (sIf (dTst (dBin fEq (dVar 3) (dVar 1))) (sRet (dVar 2)) sNil) (sSet 2 (dBin fAdd (dVar 2) (dCallN fInt (dCons (dBin (fCmp pGt) (dVar 3) (dVar 1)) dNil)))))) (sRet (dVar 2))))
def g_law_front : List W → Mo W := fnW 4 d_law_front
def d_law_sees : DS := (sSeq (sSet 2 (dLst dNil)) (sSeq (sFor (iZip 2 (dCons (dVar 1) (dCons (dTup (dCons (dVar 0) (dCons (dRev .cl (dVar 0)) dNil))) dNil))) (.tp [(.nm 3), (.nm 4)]) (sSeq (sSet 5 (dLst dNil)) (sSeq (sFor (iSeq (dVar 3)) (.nm 6) (sDrop (dMth fAppend (dVar 5) (dCons (dCallN fTuple (dCons (dCallF .cl fSorted (dCons (dLc .cl [7] (iSeq (dVar 4)) (.nm 7) (dTst (dBin (fCmp pLt) (dCall 2 g_law_front (dCons (dVar 4) (dCons (dVar 7) dNil))) (dVar 6))) (dVar 7)) dNil)) dNil)) dNil)))) (sDrop (dMth fAppend (dVar 2) (dCons (dCallN fTuple (dCons (dVar 5) dNil)) dNil)))))) (sRet (dTup (dCons (dBin fIx (dVar 2) (dC (.int 0))) (dCons (dBin fIx (dVar 2) (dC (.int 1))) dNil))))))
def g_law_sees : List W → Mo W := fnW 8 d_law_sees
def d_stretch_sizes : DS := (sSeq (sAsg (.tp [(.nm 2), (.nm 3)]) (dVar 1)) (sSeq (sSet 4 (dLst (dCons (dC (.int 1)) dNil))) (sSeq (sFor (iRg1 (dCons (dVar 0) dNil)) (.nm 5) (sIf (dOrT (dTst (dBin fIn (dBin fAdd (dVar 5) (dC (.int 1))) (dVar 2))) (dTst (dBin fIn (dBin fSub (dVar 0) (dVar 5)) (dVar 3)))) (sDrop (dMth fAppend (dVar 4) (dCons (dC (.int 1)) dNil))) (sAugIx (dVar 4) (dUn fNeg (dC (.int 1))) (dC (.int 1))))) (sRet (dVar 4)))))
def g_stretch_sizes : List W → Mo W := fnW 6 d_stretch_sizes
def d_views_many : DS := (sSeq (sSet 2 (dC (.int 1))) (sSeq (sFor (iRg1 (dCons (dVar 0) dNil)) (.nm 3) (sAug fMulI 2 (dCallN fLen (dCons (dCall 2 g_stretch_sizes (dCons (dVar 3) (dCons (dVar 1) dNil))) dNil)))) (sRet (dVar 2))))
def g_views_many : List W → Mo W := fnW 4 d_views_many
def d_most_rows : DS := (sSeq (sSet 2 (dC (.int 1))) (sSeq (sFor (iRg1 (dCons (dVar 0) dNil)) (.nm 3) (sAug fMulI 2 (dCallN fMaxS (dCons (dCall 2 g_stretch_sizes (dCons (dVar 3) (dCons (dVar 1) dNil))) dNil)))) (sRet (dVar 2))))
def g_most_rows : List W → Mo W := fnW 4 d_most_rows
def d_known_rows : DS := (sSeq (sSet 2 (dC (.int 1))) (sSeq (sFor (iRg1 (dCons (dVar 0) dNil)) (.nm 3) (sAug fMulI 2 (dMth fCount (dCall 2 g_stretch_sizes (dCons (dVar 3) (dCons (dVar 1) dNil))) (dCons (dC (.int 1)) dNil)))) (sRet (dVar 2))))
def g_known_rows : List W → Mo W := fnW 4 d_known_rows
def d_law_lists (rec_ : List W → Mo W) : DS := (sRet (dIf (dTst (dIs kSeq (dVar 0))) (dLc .cl [1] (iSeq (dVar 0)) (.nm 1) dYes (dCall 1 rec_ (dCons (dVar 1) dNil))) (dVar 0)))
def g_law_lists : Nat → List W → Mo W
  | 0 => fun _ _ => .bad
  | n + 1 => fnW 2 (d_law_lists (g_law_lists n))
def d_law_same (rec_ : List W → Mo W) : DS := (sSeq (sIf (dTst (dIs kSeq (dVar 1))) (sSeq (sIf (dOrT (dTst (dBin fNe (dIs kLst (dVar 0)) (dIs kLst (dVar 1)))) (dTst (dBin fNe (dIs kTup (dVar 0)) (dIs kTup (dVar 1))))) (sRet (dC (.bl false))) sNil) (sRet (dAnd (dBin fEq (dCallN fLen (dCons (dVar 0) dNil)) (dCallN fLen (dCons (dVar 1) dNil))) (dCallN fAll (dCons (dLc .cl [2, 3] (iZip 2 (dCons (dVar 0) (dCons (dVar 1) dNil))) (.tp [(.nm 2), (.nm 3)]) dYes (dCall 2 rec_ (dCons (dVar 2) (dCons (dVar 3) dNil)))) dNil))))) sNil) (sSeq (sIf (dOrT (dTst (dBin fIs (dVar 1) (dC .non))) (dTst (dIs kStr (dVar 1)))) (sRet (dAnd (dBin fEq (dVar 0) (dVar 1)) (dBin fEq (dIs kStr (dVar 0)) (dIs kStr (dVar 1))))) sNil) (sRet (dAnd (dIs kInt (dVar 0)) (dAnd (dBin fEq (dIs kBool (dVar 0)) (dIs kBool (dVar 1))) (dBin fEq (dVar 0) (dVar 1)))))))
def g_law_same : Nat → List W → Mo W
  | 0 => fun _ _ => .bad
  | n + 1 => fnW 4 (d_law_same (g_law_same n))
def d_law_right : DS := (sSeq (sAsg (.tp [(.nm 1), (.nm 2)]) (dTup (dCons (dBin fAdd (dC (.int 1)) (dCall 2 (g_law_take 6) (dCons (dVar 0) (dCons (dC (.int 5)) dNil)))) (dCons dTNew0 dNil)))) (sSeq (sSet 3 (dCall 2 g_law_homes (dCons (dVar 0) (dCons (dC (.int 6)) dNil)))) (sSeq (sFor (iSeq (dCall 1 g_law_every (dCons (dLc .cl [5] (iRg1 (dCons (dVar 1) dNil)) (.nm 5) dYes (dTup (dCons (dBin fSub (dC (.int 0)) (dVar 5)) (dCons (dC (.int 0)) (dCons (dVar 5) dNil))))) dNil))) (.nm 4) (sSeq (sSet 6 (dCall 2 g_law_sees (dCons (dVar 4) (dCons (dVar 3) dNil)))) (sAsgM (gPutT (dVar 2) (dVar 6)) (dBin fAdd (dTGet2 (dVar 2) (dVar 6) (dC (.int 0))) (dC (.int 1)))))) (sSeq (sLock 2 (sSet 7 (dLc .st [6] (iKeysV (dVar 2)) (.nm 6) dYes (dBin fTGet (dVar 2) (dVar 6))))) (sSeq (sSet 8 (dCl (dCons (dCallN fLen (dCons (dVar 7) dNil)) (dCons (dCallN fMaxS (dCons (dVar 7) dNil)) (dCons (dMth fCount (dVar 7) (dCons (dC (.int 1)) dNil)) dNil))))) (sSeq (sSet 9 (dCl (dCons (dCall 2 g_views_many (dCons (dVar 1) (dCons (dVar 3) dNil))) (dCons (dCall 2 g_most_rows (dCons (dVar 1) (dCons (dVar 3) dNil))) (dCons (dCall 2 g_known_rows (dCons (dVar 1) (dCons (dVar 3) dNil))) dNil))))) (sSeq (sSet 10 (dCall 1 (g_law_lists 6) (dCons (dVar 3) dNil))) (sSeq (sSet 9 (dBin fAdd (dVar 9) (dCl (dCons (dCallK 2 2 [1, 0] g_views_many (dCons (dVar 10) (dCons (dVar 1) dNil))) (dCons (dCallK 2 2 [1, 0] g_most_rows (dCons (dVar 10) (dCons (dVar 1) dNil))) dNil))))) (sRet (dCall 2 (g_law_same 16) (dCons (dBin fAdd (dVar 9) (dCl (dCons (dCallK 2 2 [1, 0] g_known_rows (dCons (dVar 10) (dCons (dVar 1) dNil))) dNil))) (dCons (dBin fAdd (dVar 8) (dVar 8)) dNil))))))))))))
def g_law_right : List W → Mo W := fnW 11 d_law_right
def d_law_pot : DS := (sSeq (sSet 2 (dC (.int 0))) (sSeq (sIf (dTst (dBin (fCmp pLt) (dVar 1) (dCallN fLen (dCons (dVar 0) dNil)))) (sSet 2 (dBin fIx (dVar 0) (dVar 1))) sNil) (sRet (dLst (dCons (dBin fMul (dCallN fAbs (dCons (dVar 2) dNil)) (dCallN fInt (dCons (dBin (fCmp pGe) (dCallN fAbs (dCons (dVar 2) dNil)) (dBin fPow (dC (.int 10)) (dC (.int 18)))) dNil))) (dCons (dBin fMod (dBin fMul (dBin fAdd (dBin fAdd (dBin fMod (dVar 2) (dC (.int 2147483587))) (dBin fMul (dC (.int 104729)) (dVar 1))) (dC (.int 29))) (dC (.int 40692))) (dC (.int 2147483399))) (dCons (dC (.int 0)) dNil)))))))
def g_law_pot : List W → Mo W := fnW 3 d_law_pot
def d_law : DS := (sRet (dCallN fAll (dCons (dLc .cl [1] (iRg1 (dCons (dCallN fMax2 (dCons (dC (.int 1)) (dCons (dCallN fMin2 (dCons (dC (.int 3)) (dCons (dCallN fLen (dCons (dVar 0) dNil)) dNil))) dNil))) dNil)) (.nm 1) dYes (dCall 1 g_law_right (dCons (dCall 2 g_law_pot (dCons (dVar 0) (dCons (dVar 1) dNil))) dNil))) dNil)))
def g_law : List W → Mo W := fnW 2 d_law
end Den

namespace Den
open PySem PySem.Spec PyProof.Rows L2 Bal
section
variable {S : Store}
def Rw (w : W) (r : List Int) : Prop := w = .tup (iW r) ∨ w = .cl (iW r)
theorem Rw.t (r : List Int) : Rw (.tup (iW r)) r := .inl rfl
theorem Rw.l (r : List Int) : Rw (.cl (iW r)) r := .inr rfl
theorem Rw.sq {w : W} {r : List Int} (h : Rw w r) (S : Store) : seqI S w = some (iW r, []) := by rcases h with rfl | rfl <;> rfl
def ahead (r : List Int) (w : Int) : Nat := tb (r.take (r.idxOf w)) w
def behind (r : List Int) (w : Int) : Nat := tb (r.drop (r.idxOf w)) w
/-- whom a floor at the left sees, rising -/
def sight (r : List Int) (k : Int) : List Int := (srt r).filter fun w => decide ((ahead r w : Int) < k)
def wing (r fl : List Int) : W := .tup (fl.map fun k => .tup (iW (sight r k)))
abbrev homes (fl fr : List Int) : W := .tup [.tup (iW fl), .tup (iW fr)]
def Hm (w : W) (fl fr : List Int) : Prop := ∃ x y, (w = .tup [x, y] ∨ w = .cl [x, y]) ∧ Rw x fl ∧ Rw y fr
theorem Hm.t (fl fr : List Int) : Hm (homes fl fr) fl fr := ⟨_, _, .inl rfl, .t fl, .t fr⟩
end

section
variable {S : Store} {k : Bool}
/-- a tuple, or a list -/
def sq (k : Bool) (ws : List W) : W := match k with
  | true => .tup ws
  | false => .cl ws
@[simp] theorem sq_it (ws : List W) : itmsS S (sq k ws) = some ws := by cases k <;> rfl
@[simp] theorem sq_ix (ws : List W) : ixW S (sq k ws) = some ws := by cases k <;> rfl
@[simp] theorem sq_seq (ws : List W) : seqI S (sq k ws) = some (ws, []) := by cases k <;> rfl
@[simp] theorem sq_cut (ws : List W) (lo hi : Option Int) : fCut .cl (sq k ws) lo hi S = .ok (sq k (cutW ws lo hi)) S := by cases k <;> rfl
/-- who, least, greatest -/
abbrev Bx := Int × Int × Int
def bP (k : Bool) (p : Bx) : W := sq k [.int p.1, .int p.2.1, .int p.2.2]
@[simp] theorem bP_it (p : Bx) : itmsS S (bP k p) = some [.int p.1, .int p.2.1, .int p.2.2] := sq_it _
def bW (k : Bool) (b : List Bx) : List W := b.map (bP k)
def whos (b : List Bx) : List Int := b.map (·.1)
def frs (l g : Int) : List Int := (List.range (g + 1 - l).toNat).map fun i : Nat => l + i
theorem rg_frs (l g : Int) : rgW l (g + 1) = iW (frs l g) := by simp [rgW, frs, iW]
theorem addC (x y : List W) (h : x.length + y.length < 1000) : fAdd S (.cl x) (.cl y) = some (.cl (x ++ y)) := by
  have hz : szB (x.length + y.length) = true := decide_eq_true (by omega)
  simp [fAdd, lstS, hz]
end

/-! ### rows of a box gone through, and places -/
section
/-- one more comes, to place a -/
def ins1 (r : List Int) (a w : Int) : List Int := r.take a.toNat ++ [w] ++ r.drop a.toNat
def bldN : List Int → List Int → List Int → List Int
  | acc, w :: ws, a :: as => bldN (ins1 acc a w) ws as
  | acc, _, _ => acc
def keysN : List Bx → List (List Int) → List (List Int)
  | [], ks => ks
  | p :: ps, ks => keysN ps (ks.flatMap fun k => (frs p.2.1 p.2.2).map fun a => k ++ [a])
def linesN (b : List Bx) : List (List Int) := (keysN b [[]]).map (bldN [] (whos b))
/-- numbers within the stretches -/
inductive Cd : List Bx → List Int → Prop
  | nil : Cd [] []
  | cons {p : Bx} {ps : List Bx} {a : Int} {as : List Int} : p.2.1 ≤ a → a ≤ p.2.2 → Cd ps as → Cd (p :: ps) (a :: as)
/-- stretches from 0 on, none bare, none beyond the place -/
def okB : Nat → List Bx → Prop
  | _, [] => True
  | k, p :: ps => (0 ≤ p.2.1 ∧ p.2.1 ≤ p.2.2 ∧ p.2.2 ≤ (k : Int)) ∧ okB (k + 1) ps
theorem mem_frs {l g x : Int} : x ∈ frs l g ↔ l ≤ x ∧ x ≤ g := by
  simp only [frs, List.mem_map, List.mem_range]
  constructor
  · rintro ⟨i, hi, rfl⟩; omega
  · rintro ⟨h1, h2⟩; exact ⟨(x - l).toNat, by omega, by omega⟩
theorem mem_keysN : ∀ (b : List Bx) (ks : List (List Int)) (k : List Int), k ∈ keysN b ks ↔ ∃ k0 ∈ ks, ∃ as, Cd b as ∧ k = k0 ++ as
  | [], ks, k => by
    constructor
    · intro h; exact ⟨k, h, [], .nil, by simp⟩
    · rintro ⟨k0, h, as, c, rfl⟩
      cases c
      rw [List.append_nil]
      exact h
  | p :: ps, ks, k => by
    show k ∈ keysN ps _ ↔ _
    rw [mem_keysN ps]
    constructor
    · rintro ⟨k1, h1, as, c, rfl⟩
      obtain ⟨k0, h0, h2⟩ := List.mem_flatMap.mp h1
      obtain ⟨a, ha, rfl⟩ := List.mem_map.mp h2
      have := mem_frs.mp ha
      exact ⟨k0, h0, a :: as, .cons this.1 this.2 c, by simp⟩
    · rintro ⟨k0, h0, as, c, rfl⟩
      cases c with
      | @cons _ _ a as h1 h2 c => exact ⟨k0 ++ [a], List.mem_flatMap.mpr ⟨k0, h0, List.mem_map.mpr ⟨a, mem_frs.mpr ⟨h1, h2⟩, rfl⟩⟩, as, c, by simp⟩
/-! one more come -/
theorem ins1_len (r : List Int) (a w : Int) : (ins1 r a w).length = r.length + 1 := by
  unfold ins1
  rw [List.length_append, List.length_append, List.length_take, List.length_drop, List.length_singleton]
  omega
theorem ins1_perm (r : List Int) (a w : Int) : (ins1 r a w).Perm (w :: r) := by
  unfold ins1
  rw [List.append_assoc]
  refine (List.perm_middle (a := w) (l₁ := r.take a.toNat) (l₂ := r.drop a.toNat)).trans ?_
  rw [List.take_append_drop]
/-! short lists -/
/-! how many rows -/
def prodN : List Bx → Nat
  | [] => 1
  | p :: ps => (p.2.2 + 1 - p.2.1).toNat * prodN ps
theorem frs_len (l g : Int) : (frs l g).length = (g + 1 - l).toNat := by simp [frs]
theorem flat_len (ks : List (List Int)) (l g : Int) : (ks.flatMap fun k => (frs l g).map fun a => k ++ [a]).length = ks.length * (g + 1 - l).toNat := by
  induction ks with
  | nil => simp
  | cons k ks ih => rw [List.flatMap_cons, List.length_append, ih, List.length_map, frs_len, List.length_cons, Nat.succ_mul, Nat.add_comm]
theorem keysN_len : ∀ (b : List Bx) (ks : List (List Int)), (keysN b ks).length = ks.length * prodN b
  | [], ks => by simp [keysN, prodN]
  | p :: ps, ks => by
    show (keysN ps _).length = ks.length * ((p.2.2 + 1 - p.2.1).toNat * prodN ps)
    rw [keysN_len ps, flat_len, Nat.mul_assoc]
theorem prodN_pos : ∀ {b : List Bx} {k : Nat}, okB k b → 0 < prodN b
  | [], _, _ => Nat.one_pos
  | p :: ps, k, ok => Nat.mul_pos (by have := ok.1.2.1; omega) (prodN_pos ok.2)
end

end Den

namespace Den
open PySem PySem.Spec PyProof.Rows L2 Bal
section
variable {S : Store}
theorem iW_at (r : List Int) (k : Nat) (h : k < r.length) : atI (iW r) (k : Int) = some (.int (r[k]?.getD 0)) := by
  unfold atI ixN
  rw [iW_len, if_pos (by omega), if_pos (by omega)]
  simp [iW, List.getElem?_eq_getElem h]
/-- what is drawn from -/
def PotL (p : List W) (c : Int) : Prop := ∃ x0 x1 x2 : Int, p = [.int x0, .int x1, .int x2] ∧ 0 ≤ x0 ∧ 0 ≤ x1 ∧ x1 < 2147483399 ∧ 0 ≤ x2 ∧ x2 ≤ c
theorem PotL.mono {p : List W} {c d : Int} (h : PotL p c) (hcd : c ≤ d) : PotL p d := by
  obtain ⟨x0, x1, x2, e, h0, h1, h2, h3, h4⟩ := h
  exact ⟨x0, x1, x2, e, h0, h1, h2, h3, by omega⟩
def fnR : Out Fl → Out W
  | .ok (.rt w) S' => .ok w S'
  | .ok (.nx _) S' => .ok .non S'
  | .ok (.er c f us _) S' => .err c f us S'
  | _ => .bad
theorem fnW_R (N : Nat) (d : DS) (ws : List W) : fnW N d ws S = fnR (d (ws.map some ++ List.replicate (N - ws.length) none) S) := rfl
theorem mulL {i j : Int} (h1 : -(2 ^ 64) < i) (h2 : i < 2 ^ 64) : fMul S (.int i) (.int j) = some (.int (i * j)) := by
  have : mulB i j = true := by
    unfold mulB
    rw [decide_eq_true h1, decide_eq_true h2]
    rfl
  simp [fMul, this]
theorem mulR {i j : Int} (h1 : -(2 ^ 64) < j) (h2 : j < 2 ^ 64) : fMul S (.int i) (.int j) = some (.int (i * j)) := by
  have : mulB i j = true := by
    unfold mulB
    rw [decide_eq_true h1, decide_eq_true h2]
    simp
  simp [fMul, this]
theorem modP {i j : Int} (h : 0 < j) : fMod S (.int i) (.int j) = some (.int (i % j)) := by simp [fMod, h]
theorem divP {i j : Int} (h : 0 < j) (h2 : j < 1073741824) : fDiv S (.int i) (.int j) = some (.int (i / j)) := by simp [fDiv, h, h2]
theorem pow3 {i : Int} (h : i.natAbs < 2 ^ 64) : fPow S (.int i) (.int 3) = some (.int (i ^ 3)) := by
  have : decide ((0 : Int) ≤ 3 ∧ (3 : Int) ≤ 1000000 ∧ i.natAbs < 2 ^ 64) = true := decide_eq_true ⟨by decide, by decide, h⟩
  show (if decide ((0 : Int) ≤ 3 ∧ (3 : Int) ≤ 1000000 ∧ i.natAbs < 2 ^ 64) = true then some (W.int (i ^ (3 : Int).toNat)) else none) = _
  rw [if_pos this]
  rfl
theorem pow7 : fPow S (.int 10) (.int 7) = some (.int 10000000) := rfl
theorem pow18 : fPow S (.int 10) (.int 18) = some (.int 1000000000000000000) := rfl
theorem at0 (x y z : W) : atI [x, y, z] 0 = some x := rfl
theorem at1 (x y z : W) : atI [x, y, z] 1 = some y := rfl
theorem at2 (x y z : W) : atI [x, y, z] 2 = some z := rfl
theorem v_take {n : Nat} {c b : Int} {p : List W} (e : S[n]? = some p) (hp : PotL p c) (hc : c ≤ 1000000) (h0 : 0 < b) (h1 : b ≤ 10000000) (m : Nat) : ∃ (r : Int) (p' : List W), g_law_take (m + 1) [.lst n, .int b] S = .ok (.int r) (S.set n p') ∧ 0 ≤ r ∧ r < b ∧ PotL p' (c + 1) := by
  obtain ⟨x0, x1, x2, ep, p0, p1, p2, p3, p4⟩ := hp
  subst ep
  have hn : n < S.length := (List.getElem?_eq_some_iff.mp e).1
  have nb : ¬ (10000000 : Int) < b := by omega
  have i0 : ixN 3 0 = some 0 := rfl
  have i2 : ixN 3 2 = some 2 := rfl
  show ∃ (r : Int) (p' : List W), fnW 4 (d_law_take (g_law_take m)) [.lst n, .int b] S = _ ∧ _
  by_cases hx : 0 < x0
  · refine ⟨x0 % b, [.int (x0 / b), .int x1, .int x2], ?_, Int.emod_nonneg _ (by omega), Int.emod_lt_of_pos _ h0, ⟨x0 / b, x1, x2, rfl, Int.ediv_nonneg p0 (by omega), p1, p2, p3, by omega⟩⟩
    simp [d_law_take, fnW, sSeq, sIf, sRet, sSet, sAsg, sNil, lft, dTst, dBin, dVar, dC, bnd, ret, rdS, fCmp, pGt_ap, toB, fIx, ixW, itmsS, e, at0, hx, modP h0, divP h0 (show b < 1073741824 by omega), setT, sAsgM, gPut, putW, i0]
  · have hw : (x1 + 52774 * (x2 + 1)).natAbs < 2 ^ 64 := by omega
    generalize hq : (x1 + 52774 * (x2 + 1)) ^ 3 % 2147483563 = q
    have q0 : 0 ≤ q := by rw [← hq]; exact Int.emod_nonneg _ (by decide)
    have q1 : q < 2147483563 := by rw [← hq]; exact Int.emod_lt_of_pos _ (by decide)
    refine ⟨(q * (q % 40013 + 11) + (x2 + 1) * 6089) % 2147483647 / 32 % b, [.int x0, .int x1, .int (x2 + 1)], ?_, Int.emod_nonneg _ (by omega), Int.emod_lt_of_pos _ h0, ⟨x0, x1, x2 + 1, rfl, p0, p1, p2, by omega, by omega⟩⟩
    have e2 : (S.set n [.int x0, .int x1, .int (x2 + 1)])[n]? = some [.int x0, .int x1, .int (x2 + 1)] := by rw [List.getElem?_set_self hn]
    simp [d_law_take, fnW, sSeq, sIf, sRet, sSet, sAsg, sNil, lft, dTst, dBin, dVar, dC, bnd, ret, rdS, fCmp, pGt_ap, toB, fIx, ixW, itmsS, e, e2, at0, at1, at2, hx, nb, pow7, fAdd, setT, sAsgM, gPut, putW, i2, mulL (S := S.set n [.int x0, .int x1, .int (x2 + 1)]) (i := 52774) (j := x2 + 1) (by decide) (by decide), pow3 hw, modP (show (0 : Int) < 2147483563 by decide), modP (show (0 : Int) < 40013 by decide), modP (show (0 : Int) < 2147483647 by decide), divP (show (0 : Int) < 32 by decide) (show (32 : Int) < 1073741824 by decide), modP h0, hq, mulL (S := S.set n [.int x0, .int x1, .int (x2 + 1)]) (i := q) (j := q % 40013 + 11) (by omega) (by omega), mulR (S := S.set n [.int x0, .int x1, .int (x2 + 1)]) (i := x2 + 1) (j := 6089) (by decide) (by decide)]
theorem v_pot (ns : List Int) (k : Nat) : ∃ p, g_law_pot [.sc (iW ns), .int (k : Int)] S = .ok (.lst S.length) (S ++ [p]) ∧ PotL p 0 := by
  have key : ∀ cell : Int, ∃ x0 x1 : Int, 0 ≤ x0 ∧ 0 ≤ x1 ∧ x1 < 2147483399 ∧ (sRet (dLst (dCons (dBin fMul (dCallN fAbs (dCons (dVar 2) dNil)) (dCallN fInt (dCons (dBin (fCmp pGe) (dCallN fAbs (dCons (dVar 2) dNil)) (dBin fPow (dC (.int 10)) (dC (.int 18)))) dNil))) (dCons (dBin fMod (dBin fMul (dBin fAdd (dBin fAdd (dBin fMod (dVar 2) (dC (.int 2147483587))) (dBin fMul (dC (.int 104729)) (dVar 1))) (dC (.int 29))) (dC (.int 40692))) (dC (.int 2147483399))) (dCons (dC (.int 0)) dNil))))) [some (.sc (iW ns)), some (.int (k : Int)), some (.int cell)] S = .ok (.rt (.lst S.length)) (S ++ [[.int x0, .int x1, .int 0]]) := fun cell => by
    refine ⟨(if cell < 0 then -cell else cell) * (if decide ((1000000000000000000 : Int) ≤ (if cell < 0 then -cell else cell)) = true then 1 else 0), (cell % 2147483587 + 104729 * (k : Int) + 29) * 40692 % 2147483399, ?_, Int.emod_nonneg _ (by decide), Int.emod_lt_of_pos _ (by decide), ?_⟩
    · refine Int.mul_nonneg ?_ ?_
      · split <;> omega
      · split <;> omega
    · have m1 : ∀ b : Bool, fMul S (.int (if cell < 0 then -cell else cell)) (.int (if b = true then 1 else 0)) = some (.int ((if cell < 0 then -cell else cell) * (if b = true then 1 else 0))) := fun b => by cases b <;> exact mulR (by decide) (by decide)
      simp only [sRet, lft, dLst, dCons, dNil, dBin, dCallN, dVar, dC, bnd, ret, rdS, fAbs, fInt, fCmp, pGe_ap, pow18, m1, fAdd, mulL (S := S) (i := 104729) (j := (k : Int)) (by decide) (by decide), mulR (S := S) (i := cell % 2147483587 + 104729 * (k : Int) + 29) (j := 40692) (by decide) (by decide), modP (show (0 : Int) < 2147483587 by decide), modP (show (0 : Int) < 2147483399 by decide), List.getElem?_cons_zero, List.getElem?_cons_succ]
      rfl
  have fin : ∀ cell : Int, g_law_pot [.sc (iW ns), .int (k : Int)] S = fnR ((sRet (dLst (dCons (dBin fMul (dCallN fAbs (dCons (dVar 2) dNil)) (dCallN fInt (dCons (dBin (fCmp pGe) (dCallN fAbs (dCons (dVar 2) dNil)) (dBin fPow (dC (.int 10)) (dC (.int 18)))) dNil))) (dCons (dBin fMod (dBin fMul (dBin fAdd (dBin fAdd (dBin fMod (dVar 2) (dC (.int 2147483587))) (dBin fMul (dC (.int 104729)) (dVar 1))) (dC (.int 29))) (dC (.int 40692))) (dC (.int 2147483399))) (dCons (dC (.int 0)) dNil))))) [some (.sc (iW ns)), some (.int (k : Int)), some (.int cell)] S) → ∃ p, g_law_pot [.sc (iW ns), .int (k : Int)] S = .ok (.lst S.length) (S ++ [p]) ∧ PotL p 0 := fun cell h => by
    obtain ⟨x0, x1, h0, h1, h2, e⟩ := key cell
    rw [h, e]
    exact ⟨_, rfl, ⟨x0, x1, 0, rfl, h0, h1, h2, by decide, by decide⟩⟩
  by_cases hk : k < ns.length
  · refine fin (ns[k]?.getD 0) ?_
    have c1 : (k : Int) < (ns.length : Int) := by omega
    simp [g_law_pot, d_law_pot, fnW_R, sSeq, sIf, sSet, sAsg, sNil, lft, dTst, dBin, dVar, dC, dCallN, dCons, dNil, bnd, ret, rdS, fCmp, pLt_ap, toB, fLen, ixW, fIx, iW_at ns k hk, setT, hk]
  · refine fin 0 ?_
    have c1 : ¬ (k : Int) < (ns.length : Int) := by omega
    simp [g_law_pot, d_law_pot, fnW_R, sSeq, sIf, sSet, sAsg, sNil, lft, dTst, dBin, dVar, dC, dCallN, dCons, dNil, bnd, ret, rdS, fCmp, pLt_ap, toB, fLen, ixW, fIx, setT, hk]
end

section
variable {S : Store}
theorem set_app {α : Type} {T g : List α} {n : Nat} (h : n < T.length) (p : α) : (T ++ g).set n p = T.set n p ++ g := List.set_append_left _ _ h
theorem get_app {α : Type} {T g : List α} {n : Nat} {p : α} (h : T[n]? = some p) : (T ++ g)[n]? = some p := by
  rw [List.getElem?_append_left (List.getElem?_eq_some_iff.mp h).1]
  exact h
theorem get_lt {α : Type} {T : List α} {n : Nat} {p : α} (h : T[n]? = some p) : n < T.length := (List.getElem?_eq_some_iff.mp h).1
theorem get_set {α : Type} {T : List α} {n : Nat} {p : α} (h : T[n]? = some p) (q : α) : (T.set n q)[n]? = some q := List.getElem?_set_self (get_lt h)
theorem eq_int (i j : Int) : fEq S (.int i) (.int j) = some (.bl (decide (i = j))) := by
  by_cases h : i = j <;> simp [fEq, eqD, datS, dat, SeqAt.shaped, PyData.eqv, PyData.canLay0, PyData.depth, h]
end

section
variable {S : Store}
/-- the store behind draws: what was there is, but for the pot; some more -/
def Aft (S S' : Store) (n : Nat) (c : Int) : Prop := ∃ p g, S' = S.set n p ++ g ∧ PotL p c
theorem Aft.pot {S S' : Store} {n : Nat} {c : Int} (h : Aft S S' n c) (hn : n < S.length) : ∃ p, S'[n]? = some p ∧ PotL p c := by
  obtain ⟨p, g, rfl, hp⟩ := h
  exact ⟨p, by rw [List.getElem?_append_left (by simpa using hn), List.getElem?_set_self hn], hp⟩
theorem Aft.len {S S' : Store} {n : Nat} {c : Int} (h : Aft S S' n c) (hn : n < S.length) : n < S'.length := by
  obtain ⟨p, g, rfl, hp⟩ := h
  simp; omega
theorem Aft.trans {S S1 S2 : Store} {n : Nat} {c d : Int} (hn : n < S.length) (h : Aft S S1 n c) (h2 : Aft S1 S2 n d) : Aft S S2 n d := by
  obtain ⟨p, g, rfl, _⟩ := h
  obtain ⟨q, g2, rfl, hq⟩ := h2
  refine ⟨q, g ++ g2, ?_, hq⟩
  rw [set_app (by simpa using hn), List.set_set, List.append_assoc]
theorem Aft.more {S S1 : Store} {n : Nat} {c : Int} (h : Aft S S1 n c) (g : Store) : Aft S (S1 ++ g) n c := by
  obtain ⟨p, g1, rfl, hp⟩ := h
  exact ⟨p, g1 ++ g, by rw [List.append_assoc], hp⟩
theorem Aft.mono {S S1 : Store} {n : Nat} {c d : Int} (h : Aft S S1 n c) (hd : c ≤ d) : Aft S S1 n d := by
  obtain ⟨p, g1, rfl, hp⟩ := h
  exact ⟨p, g1, rfl, hp.mono hd⟩
theorem Aft.same {S S1 : Store} {n : Nat} {c : Int} {i : Nat} {x : List W} (h : Aft S S1 n c) (hi : S[i]? = some x) (hne : i ≠ n) : S1[i]? = some x := by
  obtain ⟨p, g1, rfl, hp⟩ := h
  rw [List.getElem?_append_left (by simpa using get_lt hi), List.getElem?_set_ne (Ne.symm hne)]
  exact hi
theorem v_takeA {n : Nat} {c b : Int} {p : List W} (e : S[n]? = some p) (hp : PotL p c) (hc : c ≤ 1000000) (h0 : 0 < b) (h1 : b ≤ 10000000) : ∃ (r : Int) (S' : Store), g_law_take 6 [.lst n, .int b] S = .ok (.int r) S' ∧ 0 ≤ r ∧ r < b ∧ Aft S S' n (c + 1) := by
  obtain ⟨r, p', h, r0, r1, hp'⟩ := v_take e hp hc h0 h1 5
  exact ⟨r, _, h, r0, r1, p', [], by simp, hp'⟩
end

section
variable {S : Store}
abbrev flB : DS := (sIf (dOrT (dTst (dBin fEq (dVar 2) (dC (.int 4)))) (dAndT (dTst (dBin (fCmp pGt) (dVar 2) (dC (.int 1)))) (dTst (dBin fEq (dCall 2 (g_law_take 6) (dCons (dVar 0) (dCons (dVar 2) dNil))) (dC (.int 0)))))) (sDrop (dMth fAppend (dVar 3) (dCons (dVar 4) dNil))) sNil)
theorem floors_loop {n : Nat} {way : Int} (w0 : 0 ≤ way) (w1 : way < 5) {S0 : Store} {x1 : Option W} (ks : List Int) : ∀ (T : Store) (p : List W) (c : Int) (fl : List Int) (x4 : Option W), T[n]? = some p → PotL p c → c + ks.length ≤ 1000000 → fl.length + ks.length ≤ 1000 →
    ∃ (fl' : List Int) (p' : List W) (y4 : Option W), forL (.nm 4) flB [] S0 (iW ks) [some (.lst n), x1, some (.int way), some (.lst T.length), x4] (T ++ [iW fl]) = .ok (.nx [some (.lst n), x1, some (.int way), some (.lst T.length), y4]) (T.set n p' ++ [iW (fl ++ fl')]) ∧ fl'.Sublist ks ∧ PotL p' (c + ks.length) := by
  induction ks with
  | nil =>
    intro T p c fl x4 e hp _ _
    have ts : T.set n p = T := by
      apply List.ext_getElem?
      intro j
      by_cases hj : n = j
      · subst hj; rw [List.getElem?_set_self (get_lt e), e]
      · rw [List.getElem?_set_ne hj]
    exact ⟨[], p, x4, by simp [forL, iW, ts], .slnil, by simpa using hp⟩
  | cons k ks ihk =>
    intro T p c fl x4 e hp hc hl
    have hn := get_lt e
    simp only [List.length_cons] at hc hl
    have e4 : c + 1 + (ks.length : Int) = c + ((ks.length + 1 : Nat) : Int) := by omega
    have ts : T.set n p = T := by
      apply List.ext_getElem?
      intro j
      by_cases hj : n = j
      · subst hj; rw [List.getElem?_set_self (get_lt e), e]
      · rw [List.getElem?_set_ne hj]
    have c4 : fl.length ≤ 16777215 := by omega
    have eA : iW fl ++ [W.int k] = iW (fl ++ [k]) := by simp [iW]
    -- what is left, whether it was taken or not
    have go : ∀ (p1 : List W) (tk : Bool), PotL p1 (c + 1) → flB [some (.lst n), x1, some (.int way), some (.lst T.length), some (.int k)] (T ++ [iW fl]) = .ok (.nx [some (.lst n), x1, some (.int way), some (.lst T.length), some (.int k)]) (T.set n p1 ++ [iW (if tk = true then fl ++ [k] else fl)]) →
        ∃ (fl' : List Int) (p' : List W) (y4 : Option W), forL (.nm 4) flB [] S0 (iW (k :: ks)) [some (.lst n), x1, some (.int way), some (.lst T.length), x4] (T ++ [iW fl]) = .ok (.nx [some (.lst n), x1, some (.int way), some (.lst T.length), y4]) (T.set n p' ++ [iW (fl ++ fl')]) ∧ fl'.Sublist (k :: ks) ∧ PotL p' (c + (k :: ks).length) := by
      intro p1 tk hp1 hb
      have e2 : (T.set n p1)[n]? = some p1 := get_set e _
      obtain ⟨fl', p', y4, ih, h1, h2⟩ := ihk (T.set n p1) p1 (c + 1) (if tk = true then fl ++ [k] else fl) (some (.int k)) e2 hp1 (by omega) (by cases tk <;> simp <;> omega)
      refine ⟨(if tk = true then [k] else []) ++ fl', p', y4, ?_, ?_, by simp only [List.length_cons]; rw [← e4]; exact h2⟩
      · rw [iW_cons]
        unfold forL
        simp only [setT, List.set_cons_succ, List.set_cons_zero, hb, kept_nil, if_true]
        rw [List.length_set] at ih
        rw [ih]
        cases tk <;> simp [List.set_set]
      · cases tk
        · exact h1.cons k
        · exact h1.cons_cons k
    by_cases h4 : way = 4
    · subst h4
      refine go p true (hp.mono (by omega)) ?_
      rw [ts]
      simp [flB, sIf, dOrT, dTst, dBin, dVar, dC, bnd, ret, rdS, eq_int, toB, sDrop, lft, dMth, dCons, dNil, lsB, wrS, fAppend, chS, szB, c4, eA]
    · by_cases h1 : 1 < way
      · obtain ⟨r, p1, ht, r0, r1, hp1⟩ := v_take (get_app (g := [iW fl]) e) hp (by omega) (b := way) (by omega) (by omega) 5
        rw [set_app hn] at ht
        have a1 : (T.set n p1 ++ [iW fl])[T.length]? = some (iW fl) := by rw [List.getElem?_append_right (by simp)]; simp
        have a2 : ∀ x : List W, (T.set n p1 ++ [iW fl]).set T.length x = T.set n p1 ++ [x] := fun x => by rw [List.set_append_right _ _ (by simp)]; simp
        by_cases hr : r = 0
        · refine go p1 true hp1 ?_
          subst hr
          simp [flB, sIf, dOrT, dAndT, dTst, dBin, dVar, dC, bnd, ret, rdS, eq_int, toB, h4, fCmp, pGt_ap, h1, dCall, dCons, dNil, ht, sDrop, lft, dMth, lsB, wrS, fAppend, chS, szB, c4, eA, a1, a2]
        · refine go p1 false hp1 ?_
          simp [flB, sIf, dOrT, dAndT, dTst, dBin, dVar, dC, bnd, ret, rdS, eq_int, toB, h4, fCmp, pGt_ap, h1, dCall, dCons, dNil, ht, hr, sNil, lft]
      · refine go p false (hp.mono (by omega)) ?_
        rw [ts]
        simp [flB, sIf, dOrT, dAndT, dTst, dBin, dVar, dC, bnd, ret, rdS, eq_int, toB, h4, fCmp, pGt_ap, h1, sNil, lft]
/-- floors: rising, from 1 to the most -/
def Flr (fl : List Int) (m : Nat) : Prop := fl.Pairwise (· < ·) ∧ (∀ f ∈ fl, 1 ≤ f ∧ f ≤ m) ∧ fl.length ≤ m
theorem v_floors {n m : Nat} {c : Int} {p : List W} (e : S[n]? = some p) (hp : PotL p c) (m0 : 0 < m) (m1 : m ≤ 60) (hc : c + m + 2 ≤ 1000000) : ∃ (fl : List Int) (w : W) (S' : Store), g_law_floors [.lst n, .int (m : Int)] S = .ok w S' ∧ itmsS S' w = some (iW fl) ∧ Flr fl m ∧ Aft S S' n (c + m + 2) := by
  have hn := get_lt e
  obtain ⟨way, p1, t1, w0, w1, hp1⟩ := v_take e hp (by omega) (b := 5) (by decide) (by decide) 5
  have e1 := get_set e p1
  have it : ∀ (T : Store) (ws : List W), itmsS T (.tup ws) = some ws := fun _ _ => rfl
  have a1 : sAsg (.tp [.nm 2, .nm 3]) (dTup (dCons (dCall 2 (g_law_take 6) (dCons (dVar 0) (dCons (dC (.int 5)) dNil))) (dCons (dLst dNil) dNil))) [some (.lst n), some (.int (m : Int)), none, none, none] S = .ok (.nx [some (.lst n), some (.int (m : Int)), some (.int way), some (.lst S.length), none]) (S.set n p1 ++ [[]]) := by
    simp [sAsg, lft, dTup, dCons, dNil, dCall, dVar, dC, bnd, ret, t1, dLst, mkL, mkT, szB, setT, setTs, it]
  by_cases hw : way = 1
  · subst hw
    have e2 : (S.set n p1 ++ [[]])[n]? = some p1 := get_app e1
    obtain ⟨r, p2, t2, r0, r1, hp2⟩ := v_take e2 hp1 (by omega) (b := (m : Int)) (by omega) (by omega) 5
    rw [set_app (by simpa using hn), List.set_set] at t2
    refine ⟨[1 + r], .cl [.int (1 + r)], S.set n p2 ++ [[]], ?_, rfl, ⟨by simp, fun f hf => ?_, by simp; omega⟩, p2, [[]], rfl, hp2.mono (by omega)⟩
    · have b1 : (sSeq (sIf (dTst (dBin fEq (dVar 2) (dC (.int 1)))) (sRet (dCl (dCons (dBin fAdd (dC (.int 1)) (dCall 2 (g_law_take 6) (dCons (dVar 0) (dCons (dVar 1) dNil)))) dNil))) sNil) (sSeq (sFor (iRg2 (dCons (dC (.int 1)) (dCons (dBin fAdd (dVar 1) (dC (.int 1))) dNil))) (.nm 4) flB) (sRet (dVar 3)))) [some (.lst n), some (.int (m : Int)), some (.int 1), some (.lst S.length), none] (S.set n p1 ++ [[]]) = .ok (.rt (.cl [.int (1 + r)])) (S.set n p2 ++ [[]]) := by
        simp [sSeq, sIf, sRet, lft, dTst, dBin, dVar, dC, bnd, ret, rdS, eq_int, toB, dCl, dCons, dNil, dCall, t2, fAdd, mkC, szB]
      show fnR (d_law_floors [some (.lst n), some (.int (m : Int)), none, none, none] S) = _
      unfold d_law_floors
      rw [sSeq, a1]
      exact congrArg fnR b1
    · have := List.mem_singleton.mp hf
      omega
  · have lr : rgW 1 ((m : Int) + 1) = iW ((List.range m).map fun i : Nat => (1 : Int) + i) := by
      have : ((m : Int) + 1 - 1).toNat = m := by omega
      simp [rgW, iW, this, Function.comp_def]
    have hl : ((List.range m).map fun i : Nat => (1 : Int) + i).length = m := by simp
    obtain ⟨fl', p', y4, ih, h1, h2⟩ := floors_loop (n := n) w0 w1 (S0 := S.set n p1 ++ [[]]) (x1 := some (.int (m : Int))) ((List.range m).map fun i : Nat => (1 : Int) + i) (S.set n p1) p1 (c + 1) [] none e1 hp1 (by rw [hl]; omega) (by rw [hl]; simp; omega)
    rw [List.length_set, List.set_set] at ih
    have ih : forL (.nm 4) flB [] (S.set n p1 ++ [[]]) (iW ((List.range m).map fun i : Nat => (1 : Int) + i)) [some (.lst n), some (.int (m : Int)), some (.int way), some (.lst S.length), none] (S.set n p1 ++ [[]]) = .ok (.nx [some (.lst n), some (.int (m : Int)), some (.int way), some (.lst S.length), y4]) (S.set n p' ++ [iW fl']) := ih
    refine ⟨fl', .lst S.length, S.set n p' ++ [iW fl'], ?_, ?_, ⟨?_, fun f hf => ?_, by have := h1.length_le; rw [hl] at this; exact this⟩, p', _, rfl, ?_⟩
    · have sz : (szB ((m : Int) + 1 - 1).toNat && decide (-1000000000 ≤ (m : Int) + 1 ∧ (m : Int) + 1 ≤ 1000000000 ∧ -1000000000 ≤ (1 : Int) ∧ (1 : Int) ≤ 1000000000)) = true := by
        rw [Bool.and_eq_true]
        exact ⟨decide_eq_true (by omega), decide_eq_true (by omega)⟩
      have i1 : iRg2 (dCons (dC (.int 1)) (dCons (dBin fAdd (dVar 1) (dC (.int 1))) dNil)) [some (.lst n), some (.int (m : Int)), some (.int way), some (.lst S.length), none] (S.set n p1 ++ [[]]) = .ok (iW ((List.range m).map fun i : Nat => (1 : Int) + i), []) (S.set n p1 ++ [[]]) := by
        have q : rdI (fun _ => match [W.int 1, W.int ((m : Int) + 1)] with
          | [.int m, .int n] => if szB (n - m).toNat && decide (-1000000000 ≤ n ∧ n ≤ 1000000000 ∧ -1000000000 ≤ m ∧ m ≤ 1000000000) then some (rgW m n, []) else none
          | _ => none) (S.set n p1 ++ [[]]) = .ok (iW ((List.range m).map fun i : Nat => (1 : Int) + i), []) (S.set n p1 ++ [[]]) := by
          simp only [rdI, sz, if_true, lr]
        simpa [iRg2, dCons, dNil, dC, dBin, dVar, bnd, ret, rdS, fAdd] using q
      have b1 : (sSeq (sIf (dTst (dBin fEq (dVar 2) (dC (.int 1)))) (sRet (dCl (dCons (dBin fAdd (dC (.int 1)) (dCall 2 (g_law_take 6) (dCons (dVar 0) (dCons (dVar 1) dNil)))) dNil))) sNil) (sSeq (sFor (iRg2 (dCons (dC (.int 1)) (dCons (dBin fAdd (dVar 1) (dC (.int 1))) dNil))) (.nm 4) flB) (sRet (dVar 3)))) [some (.lst n), some (.int (m : Int)), some (.int way), some (.lst S.length), none] (S.set n p1 ++ [[]]) = .ok (.rt (.lst S.length)) (S.set n p' ++ [iW fl']) := by
        have s1 : sIf (dTst (dBin fEq (dVar 2) (dC (.int 1)))) (sRet (dCl (dCons (dBin fAdd (dC (.int 1)) (dCall 2 (g_law_take 6) (dCons (dVar 0) (dCons (dVar 1) dNil)))) dNil))) sNil [some (.lst n), some (.int (m : Int)), some (.int way), some (.lst S.length), none] (S.set n p1 ++ [[]]) = .ok (.nx [some (.lst n), some (.int (m : Int)), some (.int way), some (.lst S.length), none]) (S.set n p1 ++ [[]]) := by
          simp [sIf, lft, dTst, dBin, dVar, dC, bnd, ret, rdS, eq_int, hw, toB, sNil]
        rw [sSeq, s1]
        show sSeq _ _ _ _ = _
        rw [sSeq, sFor, lft, i1]
        show (match forL _ _ _ _ _ _ _ with | .ok (.nx ρ') S' => _ | o => o) = _
        rw [ih]
        simp [sRet, lft, dVar, ret]
      show fnR (d_law_floors [some (.lst n), some (.int (m : Int)), none, none, none] S) = _
      unfold d_law_floors
      rw [sSeq, a1]
      exact congrArg fnR b1
    · simp [itmsS]
    · refine List.Pairwise.sublist h1 ?_
      rw [List.pairwise_map]
      exact List.pairwise_lt_range.imp fun h => by omega
    · obtain ⟨i, hi, rfl⟩ := List.mem_map.mp (h1.subset hf)
      have := List.mem_range.mp hi
      omega
    · rw [hl] at h2
      exact h2.mono (by omega)
theorem v_homes {n m : Nat} {c : Int} {p : List W} (e : S[n]? = some p) (hp : PotL p c) (m0 : 0 < m) (m1 : m ≤ 60) (hc : c + 2 * m + 4 ≤ 1000000) : ∃ (fl fr : List Int) (S' : Store), g_law_homes [.lst n, .int (m : Int)] S = .ok (homes fl fr) S' ∧ Flr fl m ∧ Flr fr m ∧ Aft S S' n (c + 2 * m + 4) := by
  have hn := get_lt e
  obtain ⟨fl, w, S1, t1, i1, f1, a1⟩ := v_floors e hp m0 m1 (by omega)
  obtain ⟨p1, e1, hp1⟩ := a1.pot hn
  obtain ⟨fr, u, S2, t2, i2, f2, a2⟩ := v_floors e1 hp1 m0 m1 (by omega)
  refine ⟨fl, fr, S2, ?_, f1, f2, (a1.trans hn a2).mono (by omega)⟩
  have q1 : fTuple S1 [w] = some (.tup (iW fl)) := by simp [fTuple, i1]
  have q2 : fTuple S2 [u] = some (.tup (iW fr)) := by simp [fTuple, i2]
  simp [g_law_homes, d_law_homes, fnW, sRet, lft, dTup, dCallN, dCons, dNil, dCall, dVar, bnd, ret, t1, t2, rdS, q1, q2, mkT, szB]
end

end Den

namespace Den
open PySem PySem.Spec PyProof.Rows L2 Bal
section
variable {S : Store}
theorem ahead_cons (y : Int) (r : List Int) (x : Int) : ahead (y :: r) x = if y = x then 0 else (if x < y then 1 else 0) + ahead r x := by
  unfold ahead
  by_cases h : y = x
  · subst h
    simp [tb_nil]
  · have nb : (y == x) = false := by simp [h]
    rw [List.idxOf_cons, nb, if_neg h]
    simp [tb_cons]
theorem v_front {w : W} {r : List Int} (hw : Rw w r) {x : Int} (hx : x ∈ r) : g_law_front [w, .int x] S = .ok (.int (ahead r x : Nat)) S := by
  have key : ∀ (r : List Int) (acc : Nat) (m : Option W), x ∈ r → forL (.nm 3) (sSeq (sIf (dTst (dBin fEq (dVar 3) (dVar 1))) (sRet (dVar 2)) sNil) (sSet 2 (dBin fAdd (dVar 2) (dCallN fInt (dCons (dBin (fCmp pGt) (dVar 3) (dVar 1)) dNil))))) [] S (iW r) [some w, some (.int x), some (.int (acc : Nat)), m] S = .ok (.rt (.int ((acc + ahead r x : Nat) : Int))) S := by
    intro r
    induction r with
    | nil => intro acc m h; simp at h
    | cons y r ih =>
      intro acc m h
      rw [iW_cons, ahead_cons]
      by_cases hy : y = x
      · subst hy
        simp [forL, setT, sSeq, sIf, sRet, lft, dTst, dBin, dVar, bnd, ret, rdS, eq_int, toB]
      · have hr : x ∈ r := by
          rcases List.mem_cons.mp h with z | z
          · exact absurd z.symm hy
          · exact z
        have ih := ih (acc + if x < y then 1 else 0) (some (.int y)) hr
        have ei : ((acc + (if x < y then 1 else 0) : Nat) : Int) = (acc : Int) + (if x < y then 1 else 0) := by split <;> simp
        rw [ei] at ih
        rw [if_neg hy, ← Nat.add_assoc]
        by_cases hz : x < y
        · simp only [if_pos hz] at ih ⊢
          simp [forL, setT, sSeq, sIf, sNil, sAsg, lft, dTst, dBin, dVar, bnd, ret, rdS, eq_int, toB, hy, dCallN, dCons, dNil, fCmp, pGt_ap, fInt, hz, fAdd, ih]
        · simp only [if_neg hz] at ih ⊢
          simp [forL, setT, sSeq, sIf, sNil, sAsg, lft, dTst, dBin, dVar, bnd, ret, rdS, eq_int, toB, hy, dCallN, dCons, dNil, fCmp, pGt_ap, fInt, hz, fAdd]
          simpa using ih
  have k := key r 0 none hx
  have k : forL (.nm 3) (sSeq (sIf (dTst (dBin fEq (dVar 3) (dVar 1))) (sRet (dVar 2)) sNil) (sSet 2 (dBin fAdd (dVar 2) (dCallN fInt (dCons (dBin (fCmp pGt) (dVar 3) (dVar 1)) dNil))))) [] S (iW r) [some w, some (.int x), some (.int 0), none] S = .ok (.rt (.int ((0 + ahead r x : Nat) : Int))) S := k
  simp [g_law_front, d_law_front, fnW, sSeq, sAsg, lft, dC, ret, setT, sFor, iSeq, bnd, dVar, rdI, hw.sq]
  simp [sSeq] at k
  simp [k]
theorem srt_filter (r : List Int) (p : Int → Bool) : srt (r.filter p) = (srt r).filter p := by
  refine srt_eq ((srt_perm r).filter p) ?_
  exact (srt_le r).sublist List.filter_sublist
abbrev seB : DS := (sDrop (dMth fAppend (dVar 5) (dCons (dCallN fTuple (dCons (dCallF .cl fSorted (dCons (dLc .cl [7] (iSeq (dVar 4)) (.nm 7) (dTst (dBin (fCmp pLt) (dCall 2 g_law_front (dCons (dVar 4) (dCons (dVar 7) dNil))) (dVar 6))) (dVar 7)) dNil)) dNil)) dNil)))
theorem sees_loop {w : W} {r : List Int} (hw : Rw w r) {x0 x1 x2 x3 : Option W} {S0 : Store} (fl : List Int) : ∀ (T : Store) (done : List W) (x6 : Option W), done.length + fl.length ≤ 1000 →
    ∃ y6, forL (.nm 6) seB [] S0 (iW fl) [x0, x1, x2, x3, some w, some (.lst T.length), x6, none] (T ++ [done]) = .ok (.nx [x0, x1, x2, x3, some w, some (.lst T.length), y6, none]) (T ++ [done ++ fl.map fun k => .tup (iW (sight r k))]) := by
  induction fl with
  | nil => intro T done x6 _; exact ⟨x6, by simp [forL, iW]⟩
  | cons k fl ih =>
    intro T done x6 hl
    simp only [List.length_cons] at hl
    obtain ⟨y6, ih⟩ := ih T (done ++ [.tup (iW (sight r k))]) (some (.int k)) (by simp; omega)
    refine ⟨y6, ?_⟩
    have key := lc_iW (i := 7) (tt := dTst (dBin (fCmp pLt) (dCall 2 g_law_front (dCons (dVar 4) (dCons (dVar 7) dNil))) (dVar 6))) (de := dVar 7) (ρ := [x0, x1, x2, x3, some w, some (.lst T.length), some (.int k), none]) (S := T ++ [done]) (fun n => decide ((ahead r n : Int) < k)) (fun n => .int n) r fun n hn => by
      have hd := v_front (S := T ++ [done]) hw hn
      exact ⟨by simp [dTst, dBin, dVar, dCall, dCons, dNil, bnd, ret, rdS, hd, fCmp, toB, pLt_ap], fun _ => by simp [dVar]⟩
    have es : (srt (r.filter fun n => decide ((ahead r n : Int) < k))).map W.int = iW (sight r k) := by rw [srt_filter]; rfl
    have em : (r.filter fun n => decide ((ahead r n : Int) < k)).map W.int = iW (r.filter fun n => decide ((ahead r n : Int) < k)) := rfl
    have c4 : done.length ≤ 16777215 := by omega
    have step : seB [x0, x1, x2, x3, some w, some (.lst T.length), some (.int k), none] (T ++ [done]) = .ok (.nx [x0, x1, x2, x3, some w, some (.lst T.length), some (.int k), none]) (T ++ [done ++ [.tup (iW (sight r k))]]) := by
      rw [em] at key
      simp [seB, sDrop, lft, dMth, dVar, dCons, dNil, bnd, ret, lsB, dCallN, dCallF, dLc, iSeq, rdI, hw.sq, wipeW, key, newK, fSorted, intsOf, itmsS, rdS, fTuple, es, wrS, fAppend, chS, szB, c4]
    rw [iW_cons]
    unfold forL
    simp only [setT, List.set_cons_succ, List.set_cons_zero, step, kept_nil, if_true]
    rw [ih]
    simp
theorem v_sees {r fl fr : List Int} (h1 : fl.length ≤ 500) (h2 : fr.length ≤ 500) : ∃ g, g_law_sees [.tup (iW r), homes fl fr] S = .ok (.tup [wing r fl, wing r.reverse fr]) (S ++ g) := by
  have z2 : zipL [[.tup (iW fl), .tup (iW fr)], [.tup (iW r), .tup (iW r.reverse)]] = [W.tup [.tup (iW fl), .tup (iW r)], W.tup [.tup (iW fr), .tup (iW r.reverse)]] := rfl
  obtain ⟨y, l1⟩ := sees_loop (.t r) (x0 := some (.tup (iW r))) (x1 := some (homes fl fr)) (x2 := some (.lst S.length)) (x3 := some (.tup (iW fl))) (S0 := S ++ [[], []]) fl (S ++ [[]]) [] none (by simp; omega)
  obtain ⟨z, l2⟩ := sees_loop (.t r.reverse) (x0 := some (.tup (iW r))) (x1 := some (homes fl fr)) (x2 := some (.lst S.length)) (x3 := some (.tup (iW fr))) (S0 := S ++ [[wing r fl], fl.map fun k => .tup (iW (sight r k)), []]) fr (S ++ [[wing r fl], fl.map fun k => .tup (iW (sight r k))]) [] y (by simp; omega)
  simp only [List.length_append, List.length_cons, List.length_nil, List.append_assoc, List.cons_append, List.nil_append] at l1 l2
  refine ⟨[[wing r fl, wing r.reverse fr], fl.map fun k => .tup (iW (sight r k)), fr.map fun k => .tup (iW (sight r.reverse k))], ?_⟩
  have g0 : ∀ (x : List W) (l : List (List W)), (S ++ x :: l)[S.length]? = some x := fun x l => by simp
  have g1 : ∀ (x y : List W) (l : List (List W)), (S ++ x :: y :: l)[S.length + 1]? = some y := fun x y l => by simp
  have g2 : ∀ (x y z : List W) (l : List (List W)), (S ++ x :: y :: z :: l)[S.length + 2]? = some z := fun x y z l => by simp
  have s0 : ∀ (x y : List W) (l : List (List W)), (S ++ x :: l).set S.length y = S ++ y :: l := fun x y l => by simp
  have at0 : ∀ x y : W, atI [x, y] 0 = some x := fun x y => rfl
  have at1 : ∀ x y : W, atI [x, y] 1 = some y := fun x y => rfl
  have bd : (sSeq (sSet 5 (dLst dNil)) (sSeq (sFor (iSeq (dVar 3)) (.nm 6) seB) (sDrop (dMth fAppend (dVar 2) (dCons (dCallN fTuple (dCons (dVar 5) dNil)) dNil))))) [some (.tup (iW r)), some (homes fl fr), some (.lst S.length), some (.tup (iW fl)), some (.tup (iW r)), none, none, none] (S ++ [[]]) = .ok (.nx [some (.tup (iW r)), some (homes fl fr), some (.lst S.length), some (.tup (iW fl)), some (.tup (iW r)), some (.lst (S.length + 1)), y, none]) (S ++ [[wing r fl], fl.map fun k => .tup (iW (sight r k))]) := by
    have a1 : sSet 5 (dLst dNil) [some (.tup (iW r)), some (homes fl fr), some (.lst S.length), some (.tup (iW fl)), some (.tup (iW r)), none, none, none] (S ++ [[]]) = .ok (.nx [some (.tup (iW r)), some (homes fl fr), some (.lst S.length), some (.tup (iW fl)), some (.tup (iW r)), some (.lst (S.length + 1)), none, none]) (S ++ [[], []]) := by
      simp [sAsg, lft, dLst, dNil, bnd, ret, mkL, szB, setT]
    have a2 : sFor (iSeq (dVar 3)) (.nm 6) seB [some (.tup (iW r)), some (homes fl fr), some (.lst S.length), some (.tup (iW fl)), some (.tup (iW r)), some (.lst (S.length + 1)), none, none] (S ++ [[], []]) = .ok (.nx [some (.tup (iW r)), some (homes fl fr), some (.lst S.length), some (.tup (iW fl)), some (.tup (iW r)), some (.lst (S.length + 1)), y, none]) (S ++ [[], fl.map fun k => .tup (iW (sight r k))]) := by
      have i1 : iSeq (dVar 3) [some (.tup (iW r)), some (homes fl fr), some (.lst S.length), some (.tup (iW fl)), some (.tup (iW r)), some (.lst (S.length + 1)), none, none] (S ++ [[], []]) = .ok (iW fl, []) (S ++ [[], []]) := by simp [iSeq, dVar, bnd, rdI, seqI]
      rw [sFor, lft, i1]
      exact l1
    simp only [sSeq, a1, a2]
    simp [sDrop, lft, dMth, dVar, dCons, dNil, bnd, ret, lsB, dCallN, rdS, fTuple, itmsS, g1, wrS, fAppend, chS, g0, s0, szB, wing]
  have bd2 : (sSeq (sSet 5 (dLst dNil)) (sSeq (sFor (iSeq (dVar 3)) (.nm 6) seB) (sDrop (dMth fAppend (dVar 2) (dCons (dCallN fTuple (dCons (dVar 5) dNil)) dNil))))) [some (.tup (iW r)), some (homes fl fr), some (.lst S.length), some (.tup (iW fr)), some (.tup (iW r.reverse)), some (.lst (S.length + 1)), y, none] (S ++ [[wing r fl], fl.map fun k => .tup (iW (sight r k))]) = .ok (.nx [some (.tup (iW r)), some (homes fl fr), some (.lst S.length), some (.tup (iW fr)), some (.tup (iW r.reverse)), some (.lst (S.length + 2)), z, none]) (S ++ [[wing r fl, wing r.reverse fr], fl.map fun k => .tup (iW (sight r k)), fr.map fun k => .tup (iW (sight r.reverse k))]) := by
    have a1 : sSet 5 (dLst dNil) [some (.tup (iW r)), some (homes fl fr), some (.lst S.length), some (.tup (iW fr)), some (.tup (iW r.reverse)), some (.lst (S.length + 1)), y, none] (S ++ [[wing r fl], fl.map fun k => .tup (iW (sight r k))]) = .ok (.nx [some (.tup (iW r)), some (homes fl fr), some (.lst S.length), some (.tup (iW fr)), some (.tup (iW r.reverse)), some (.lst (S.length + 2)), y, none]) (S ++ [[wing r fl], fl.map fun k => .tup (iW (sight r k)), []]) := by
      simp [sAsg, lft, dLst, dNil, bnd, ret, mkL, szB, setT]
    have a2 : sFor (iSeq (dVar 3)) (.nm 6) seB [some (.tup (iW r)), some (homes fl fr), some (.lst S.length), some (.tup (iW fr)), some (.tup (iW r.reverse)), some (.lst (S.length + 2)), y, none] (S ++ [[wing r fl], fl.map fun k => .tup (iW (sight r k)), []]) = .ok (.nx [some (.tup (iW r)), some (homes fl fr), some (.lst S.length), some (.tup (iW fr)), some (.tup (iW r.reverse)), some (.lst (S.length + 2)), z, none]) (S ++ [[wing r fl], fl.map fun k => .tup (iW (sight r k)), fr.map fun k => .tup (iW (sight r.reverse k))]) := by
      have i1 : iSeq (dVar 3) [some (.tup (iW r)), some (homes fl fr), some (.lst S.length), some (.tup (iW fr)), some (.tup (iW r.reverse)), some (.lst (S.length + 2)), y, none] (S ++ [[wing r fl], fl.map fun k => .tup (iW (sight r k)), []]) = .ok (iW fr, []) (S ++ [[wing r fl], fl.map fun k => .tup (iW (sight r k)), []]) := by simp [iSeq, dVar, bnd, rdI, seqI]
      rw [sFor, lft, i1]
      exact l2
    simp only [sSeq, a1, a2]
    simp [sDrop, lft, dMth, dVar, dCons, dNil, bnd, ret, lsB, dCallN, rdS, fTuple, itmsS, g2, wrS, fAppend, chS, g0, s0, szB, wing]
  have a0 : sSet 2 (dLst dNil) [some (.tup (iW r)), some (homes fl fr), none, none, none, none, none, none] S = .ok (.nx [some (.tup (iW r)), some (homes fl fr), some (.lst S.length), none, none, none, none, none]) (S ++ [[]]) := by
    simp [sAsg, lft, dLst, dNil, bnd, ret, mkL, szB, setT]
  have f0 : sFor (iZip 2 (dCons (dVar 1) (dCons (dTup (dCons (dVar 0) (dCons (dRev .cl (dVar 0)) dNil))) dNil))) (.tp [(.nm 3), (.nm 4)]) (sSeq (sSet 5 (dLst dNil)) (sSeq (sFor (iSeq (dVar 3)) (.nm 6) seB) (sDrop (dMth fAppend (dVar 2) (dCons (dCallN fTuple (dCons (dVar 5) dNil)) dNil))))) [some (.tup (iW r)), some (homes fl fr), some (.lst S.length), none, none, none, none, none] (S ++ [[]]) = .ok (.nx [some (.tup (iW r)), some (homes fl fr), some (.lst S.length), some (.tup (iW fr)), some (.tup (iW r.reverse)), some (.lst (S.length + 2)), z, none]) (S ++ [[wing r fl, wing r.reverse fr], fl.map fun k => .tup (iW (sight r k)), fr.map fun k => .tup (iW (sight r.reverse k))]) := by
    have i0 : iZip 2 (dCons (dVar 1) (dCons (dTup (dCons (dVar 0) (dCons (dRev .cl (dVar 0)) dNil))) dNil)) [some (.tup (iW r)), some (homes fl fr), some (.lst S.length), none, none, none, none, none] (S ++ [[]]) = .ok ([W.tup [.tup (iW fl), .tup (iW r)], W.tup [.tup (iW fr), .tup (iW r.reverse)]], []) (S ++ [[]]) := by
      simp [iZip, zipI, dCons, dNil, dVar, dTup, dRev, fRev, bnd, ret, mkT, szB, sqI, seqI, rdI, z2]
    rw [sFor, lft, i0]
    show forL _ _ _ _ _ _ _ = _
    have t1 : setT (S ++ [[]]) (.tp [(.nm 3), (.nm 4)]) (W.tup [.tup (iW fl), .tup (iW r)]) [some (.tup (iW r)), some (homes fl fr), some (.lst S.length), none, none, none, none, none] = some [some (.tup (iW r)), some (homes fl fr), some (.lst S.length), some (.tup (iW fl)), some (.tup (iW r)), none, none, none] := rfl
    unfold forL
    rw [t1]
    simp only [bd, kept_nil, if_true]
    have t2 : ∀ T : Store, setT T (.tp [(.nm 3), (.nm 4)]) (W.tup [.tup (iW fr), .tup (iW r.reverse)]) [some (.tup (iW r)), some (homes fl fr), some (.lst S.length), some (.tup (iW fl)), some (.tup (iW r)), some (.lst (S.length + 1)), y, none] = some [some (.tup (iW r)), some (homes fl fr), some (.lst S.length), some (.tup (iW fr)), some (.tup (iW r.reverse)), some (.lst (S.length + 1)), y, none] := fun _ => rfl
    unfold forL
    rw [t2]
    simp only [bd2, kept_nil, if_true]
    rfl
  show fnR (d_law_sees [some (.tup (iW r)), some (homes fl fr), none, none, none, none, none, none] S) = _
  unfold d_law_sees
  rw [sSeq, a0]
  show fnR (sSeq _ _ _ _) = _
  rw [sSeq, f0]
  simp [sRet, lft, dTup, dCons, dNil, dBin, dVar, dC, bnd, ret, rdS, fIx, ixW, itmsS, g0, at0, at1, mkT, szB, fnR]
end

/-! ### all rows of a box -/
section
variable {S : Store} {k : Bool}
theorem zip_cons (w a : Int) (ws as : List Int) (h : ws.length = as.length) : zipL [iW (w :: ws), iW (a :: as)] = .tup [.int w, .int a] :: zipL [iW ws, iW as] := by
  rw [zipL_two (by simp [h]), zipL_two (by simp [h])]
  rw [iW_len, iW_len, List.length_cons, List.range_succ_eq_map, List.map_cons, List.map_map]
  rfl
theorem cd_len : ∀ {b : List Bx} {as : List Int}, Cd b as → as.length = b.length
  | _, _, .nil => rfl
  | _, _, .cons _ _ c => by rw [List.length_cons, List.length_cons, cd_len c]
abbrev buB : DS := (sSet 2 (dBin fAdd (dBin fAdd (dCut .cl (dVar 2) oNone (oSome (dVar 4))) (dCl (dCons (dVar 3) dNil))) (dCut .cl (dVar 2) (oSome (dVar 4)) oNone)))
theorem bu_loop {S0 : Store} {x0 x1 : Option W} : ∀ (ps : List Bx) (as acc : List Int) (x3 x4 : Option W), Cd ps as → okB acc.length ps → acc.length + ps.length ≤ 100 → ∃ y3 y4, forL (.tp [(.nm 3), (.nm 4)]) buB [] S0 (zipL [iW (whos ps), iW as]) [x0, x1, some (.cl (iW acc)), x3, x4] S = .ok (.nx [x0, x1, some (.cl (iW (bldN acc (whos ps) as))), y3, y4]) S
  | [], as, acc, x3, x4, c, _, _ => by
    cases c
    exact ⟨x3, x4, rfl⟩
  | p :: ps, _, acc, x3, x4, .cons (a := a) (as := as) h1 h2 c, ok, hl => by
    rw [List.length_cons] at hl
    have ha : 0 ≤ a ∧ a ≤ (acc.length : Int) := ⟨by have := ok.1.1; omega, by have := ok.1.2.2; omega⟩
    obtain ⟨y3, y4, ih⟩ := bu_loop (S0 := S0) (x0 := x0) (x1 := x1) ps as (ins1 acc a p.1) (some (.int p.1)) (some (.int a)) c (by rw [ins1_len]; exact ok.2) (by rw [ins1_len]; omega)
    refine ⟨y3, y4, ?_⟩
    obtain ⟨j, rfl⟩ := Int.eq_ofNat_of_zero_le ha.1
    have hj : j ≤ acc.length := by omega
    have c1 : cutW (iW acc) none (some (j : Int)) = iW (acc.take j) := cut_to acc j hj
    have c2 : cutW (iW acc) (some (j : Int)) none = iW (acc.drop j) := cut_from acc j hj
    have f1 : fAdd S (.cl (iW (acc.take j))) (.cl [.int p.1]) = some (.cl (iW (acc.take j ++ [p.1]))) := by
      rw [addC _ _ (by rw [iW_len, List.length_take]; simp; omega)]
      simp [iW]
    have f2 : fAdd S (.cl (iW (acc.take j ++ [p.1]))) (.cl (iW (acc.drop j))) = some (.cl (iW (ins1 acc (j : Int) p.1))) := by
      rw [addC _ _ (by rw [iW_len, iW_len, List.length_append, List.length_take, List.length_drop]; simp; omega)]
      simp [iW, ins1]
    have st : buB [x0, x1, some (.cl (iW acc)), some (.int p.1), some (.int (j : Int))] S = .ok (.nx [x0, x1, some (.cl (iW (ins1 acc (j : Int) p.1))), some (.int p.1), some (.int (j : Int))]) S := by
      simp [buB, sSet, sAsg, setT, lft, dBin, dCut, dVar, bnd, ret, oNone, oSome, fCut, lstS, newK, c1, c2, dCl, dCons, dNil, mkC, szB, rdS, f1, f2]

    rw [show whos (p :: ps) = p.1 :: whos ps from rfl, zip_cons _ _ _ _ (by rw [cd_len c]; simp [whos])]
    unfold forL
    simp only [setT, setTs, itmsS, List.set_cons_succ, List.set_cons_zero, st, kept_nil, if_true]
    exact ih
theorem v_built (b : List Bx) (as : List Int) (c : Cd b as) (ok : okB 0 b) (hl : b.length ≤ 100) : g_law_built [.cl (iW (whos b)), .cl (iW as)] S = .ok (.tup (iW (bldN [] (whos b) as))) S := by
  obtain ⟨y3, y4, lp⟩ := bu_loop (S := S) (S0 := S) (x0 := some (.cl (iW (whos b)))) (x1 := some (.cl (iW as))) b as [] none none c ok (by simpa using hl)
  have lp : forL (.tp [(.nm 3), (.nm 4)]) buB [] S (zipL [iW (whos b), iW as]) [some (.cl (iW (whos b))), some (.cl (iW as)), some (.cl []), none, none] S = _ := lp
  have ed : d_law_built = (sSeq (sSet 2 (dCl dNil)) (sSeq (sFor (iZip 2 (dCons (dVar 0) (dCons (dVar 1) dNil))) (.tp [(.nm 3), (.nm 4)]) buB) (sRet (dCallN fTuple (dCons (dVar 2) dNil))))) := rfl
  show fnW 5 d_law_built _ S = _
  rw [ed]
  generalize buB = B at lp ⊢
  simp [fnW, sSeq, sSet, sAsg, setT, sFor, sRet, lft, dVar, bnd, ret, dCl, dNil, mkC, szB, dCons, iZip, zipI, sqI, rdI, seqI, lp, dCallN, rdS, fTuple, itmsS]
def kyW (l : List Int) : W := .cl (iW l)
abbrev evB : DS := (sDrop (dMth fExtend (dVar 5) (dCons (dLc .cl [7] (iRg2 (dCons (dVar 3) (dCons (dBin fAdd (dVar 4) (dC (.int 1))) dNil))) (.nm 7) dYes (dBin fAdd (dVar 6) (dCl (dCons (dVar 7) dNil)))) dNil)))
theorem ev_inner {T S0 : Store} {x0 x1 x2 x8 : Option W} {keep : List Nat} {l g : Int} (h0 : 0 ≤ l) (hg : g ≤ 100) (hlg : l ≤ g) (hk : ∀ j ∈ keep, j < T.length ∧ j < S0.length ∧ S0[j]? = T[j]?) : ∀ (ks acc : List (List Int)) (x6 : Option W), (∀ q ∈ ks, q.length ≤ 100) → acc.length + ks.length * (g + 1 - l).toNat ≤ 1000 →
    ∃ y6, forL (.nm 6) evB keep S0 (ks.map kyW) [x0, x1, x2, some (.int l), some (.int g), some (.lst T.length), x6, none, x8] (T ++ [acc.map kyW]) = .ok (.nx [x0, x1, x2, some (.int l), some (.int g), some (.lst T.length), y6, none, x8]) (T ++ [(acc ++ ks.flatMap fun q => (frs l g).map fun a => q ++ [a]).map kyW])
  | [], acc, x6, _, _ => ⟨x6, by simp [forL]⟩
  | q :: ks, acc, x6, hq, hl => by
    rw [List.length_cons, Nat.succ_mul] at hl
    have q1 := hq q (List.mem_cons_self ..)
    obtain ⟨y6, ih⟩ := ev_inner (T := T) (S0 := S0) (x0 := x0) (x1 := x1) (x2 := x2) (x8 := x8) h0 hg hlg hk ks (acc ++ (frs l g).map fun a => q ++ [a]) (some (kyW q)) (fun z hz => hq z (List.mem_cons_of_mem _ hz)) (by rw [List.length_append, List.length_map, frs_len]; omega)
    refine ⟨y6, ?_⟩
    have rb : (szB (g + 1 - l).toNat && decide (-1000000000 ≤ g + 1 ∧ g + 1 ≤ 1000000000 ∧ -1000000000 ≤ l ∧ l ≤ 1000000000)) = true := by
      rw [show szB (g + 1 - l).toNat = true from decide_eq_true (by omega), decide_eq_true (by omega)]
      rfl
    have fa : ∀ (S' : Store) (a : Int), fAdd S' (kyW q) (.cl [.int a]) = some (kyW (q ++ [a])) := fun S' a => by
      unfold kyW
      rw [addC _ _ (by rw [iW_len]; simp; omega)]
      simp [iW]
    have lc := lc_iW (i := 7) (tt := dYes) (de := dBin fAdd (dVar 6) (dCl (dCons (dVar 7) dNil))) (ρ := [x0, x1, x2, some (.int l), some (.int g), some (.lst T.length), some (kyW q), none, x8]) (S := T ++ [acc.map kyW]) (fun _ => true) (fun a => kyW (q ++ [a])) (frs l g) fun n _ => ⟨rfl, fun _ => by simp [dBin, dVar, dCl, dCons, dNil, bnd, ret, mkC, szB, rdS, fa]⟩
    rw [fil_yes] at lc
    have z1 : (acc.map kyW).length + ((frs l g).map fun a => kyW (q ++ [a])).length ≤ 16777216 := by rw [List.length_map, List.length_map, frs_len]; omega
    have ap : acc.map kyW ++ ((frs l g).map fun a => kyW (q ++ [a])) = (acc ++ (frs l g).map fun a => q ++ [a]).map kyW := by simp
    have z2 : ((acc ++ (frs l g).map fun a => q ++ [a]).map kyW).length ≤ 16777216 := by rw [← ap, List.length_append]; exact z1
    have st : evB [x0, x1, x2, some (.int l), some (.int g), some (.lst T.length), some (kyW q), none, x8] (T ++ [acc.map kyW]) = .ok (.nx [x0, x1, x2, some (.int l), some (.int g), some (.lst T.length), some (kyW q), none, x8]) (T ++ [(acc ++ (frs l g).map fun a => q ++ [a]).map kyW]) := by
      unfold evB
      generalize (acc ++ (frs l g).map fun a => q ++ [a]).map kyW = Z2 at ap z2 ⊢
      generalize (frs l g).map (fun a => kyW (q ++ [a])) = Z1 at lc z1 ap
      generalize acc.map kyW = Z0 at lc z1 ap ⊢
      have ir : iRg2 (dCons (dVar 3) (dCons (dBin fAdd (dVar 4) (dC (.int 1))) dNil)) [x0, x1, x2, some (.int l), some (.int g), some (.lst T.length), some (kyW q), none, x8] (T ++ [Z0]) = .ok (iW (frs l g), []) (T ++ [Z0]) := by
        simp only [iRg2, dCons, dVar, dBin, dC, bnd, ret, rdS, rdI, fAdd, dNil, List.getElem?_cons_zero, List.getElem?_cons_succ, rb, if_true, rg_frs]
      generalize (iRg2 (dCons (dVar 3) (dCons (dBin fAdd (dVar 4) (dC (.int 1))) dNil))) = RR at ir
      generalize (dBin fAdd (dVar 6) (dCl (dCons (dVar 7) dNil))) = DD at lc
      simp [sDrop, lft, dMth, dVar, bnd, ret, lsB, dCons, dNil, dLc, ir, wipeW, lc, newK, wrS, fExtend, lstS, chS, szB, z1, z2, ap]
    have kp : kept S0 (T ++ [(acc ++ (frs l g).map fun a => q ++ [a]).map kyW]) keep = true := kept_of fun j hj => by
      obtain ⟨a1, a2, a3⟩ := hk j hj
      exact ⟨a2, by rw [a3, List.getElem?_append_left a1]⟩
    show forL _ _ _ _ (kyW q :: ks.map kyW) _ _ = _
    unfold forL
    simp only [setT, List.set_cons_succ, List.set_cons_zero, st, kp, if_true]
    rw [ih, List.flatMap_cons, List.append_assoc]
abbrev eoB : DS := (sSeq (sSet 5 (dLst dNil)) (sSeq (sFor (iSeq (dVar 1)) (.nm 6) evB) (sSet 1 (dVar 5))))
/-- the numbers so far -/
def Ks (T : Store) (f : W) (ks : List (List Int)) : Prop := f = .cl (ks.map kyW) ∨ ∃ m, f = .lst m ∧ T[m]? = some (ks.map kyW)
theorem Ks.seq {T : Store} {f : W} {ks : List (List Int)} (h : Ks T f ks) : ∃ keep, seqI T f = some (ks.map kyW, keep) ∧ ∀ j ∈ keep, j < T.length := by
  rcases h with rfl | ⟨m, rfl, e⟩
  · exact ⟨[], rfl, fun j hj => by simp at hj⟩
  · exact ⟨[m], by simp [seqI, e], fun j hj => by rw [List.mem_singleton.mp hj]; exact get_lt e⟩
theorem Ks.more {T : Store} {f : W} {ks : List (List Int)} (h : Ks T f ks) (J : Store) : Ks (T ++ J) f ks := by
  rcases h with rfl | ⟨m, rfl, e⟩
  · exact .inl rfl
  · exact .inr ⟨m, rfl, get_app e⟩
theorem ev_loop {S0 : Store} {x0 x8 : Option W} : ∀ (ps : List Bx) (d : Nat) (T : Store) (f : W) (ks : List (List Int)) (x2 x3 x4 x5 x6 : Option W), Ks T f ks → okB d ps → d + ps.length ≤ 100 → (∀ q ∈ ks, q.length = d) → ks.length * prodN ps ≤ 1000 →
    ∃ J f' y2 y3 y4 y5 y6, forL (.tp [(.nm 2), (.nm 3), (.nm 4)]) eoB [] S0 (bW k ps) [x0, some f, x2, x3, x4, x5, x6, none, x8] T = .ok (.nx [x0, some f', y2, y3, y4, y5, y6, none, x8]) (T ++ J) ∧ Ks (T ++ J) f' (keysN ps ks)
  | [], d, T, f, ks, x2, x3, x4, x5, x6, h, _, _, _, _ => ⟨[], f, x2, x3, x4, x5, x6, by simp [bW, forL], by rw [List.append_nil]; exact h⟩
  | p :: ps, d, T, f, ks, x2, x3, x4, x5, x6, h, ok, hd, hq, hl => by
    rw [List.length_cons] at hd
    have hp := ok.1
    have pp := prodN_pos ok.2
    have hl2 : ks.length * (p.2.2 + 1 - p.2.1).toNat * prodN ps ≤ 1000 := by rw [Nat.mul_assoc]; exact hl
    have hl3 : ks.length * (p.2.2 + 1 - p.2.1).toNat ≤ 1000 := Nat.le_trans (Nat.le_mul_of_pos_right _ pp) hl2
    obtain ⟨keep, sk, kj⟩ := (h.more [[]]).seq
    have kj : ∀ j ∈ keep, j < T.length := by
      rcases h with rfl | ⟨m, rfl, e⟩
      · cases sk; intro j hj; simp at hj
      · have e' : (T ++ [[]])[m]? = some (ks.map kyW) := get_app e
        simp [seqI, e'] at sk
        intro j hj
        rw [← sk] at hj
        rw [List.mem_singleton.mp hj]
        exact get_lt e
    obtain ⟨y6, lp⟩ := ev_inner (T := T) (S0 := T ++ [[]]) (x0 := x0) (x1 := some f) (x2 := some (.int p.1)) (x8 := x8) (keep := keep) (l := p.2.1) (g := p.2.2) hp.1 (by omega) hp.2.1 (fun j hj => ⟨kj j hj, by have := kj j hj; simp; omega, by rw [List.getElem?_append_left (kj j hj)]⟩) ks [] x6 (fun q hq' => by rw [hq q hq']; omega) (by simpa using hl3)
    rw [List.nil_append] at lp
    generalize hks : (ks.flatMap fun q => (frs p.2.1 p.2.2).map fun a => q ++ [a]) = ks' at lp
    have hlen : ks'.length = ks.length * (p.2.2 + 1 - p.2.1).toNat := by rw [← hks, flat_len]
    have hq' : ∀ q ∈ ks', q.length = d + 1 := fun q hz => by
      rw [← hks] at hz
      obtain ⟨q0, h0, h1⟩ := List.mem_flatMap.mp hz
      obtain ⟨a, _, rfl⟩ := List.mem_map.mp h1
      simp [hq q0 h0]
    obtain ⟨J, f', z2, z3, z4, z5, z6, ih, hk⟩ := ev_loop (S0 := S0) (x0 := x0) (x8 := x8) ps (d + 1) (T ++ [ks'.map kyW]) (.lst T.length) ks' (some (.int p.1)) (some (.int p.2.1)) (some (.int p.2.2)) (some (.lst T.length)) y6 (.inr ⟨T.length, rfl, by simp⟩) ok.2 (by omega) hq' (by rw [hlen]; exact hl2)
    refine ⟨[ks'.map kyW] ++ J, f', z2, z3, z4, z5, z6, ?_, by
      rw [← List.append_assoc]
      show Ks _ _ (keysN ps (ks.flatMap fun q => (frs p.2.1 p.2.2).map fun a => q ++ [a]))
      rw [hks]
      exact hk⟩
    have lp : forL (.nm 6) evB keep (T ++ [[]]) (ks.map kyW) [x0, some f, some (.int p.1), some (.int p.2.1), some (.int p.2.2), some (.lst T.length), x6, none, x8] (T ++ [[]]) = .ok (.nx [x0, some f, some (.int p.1), some (.int p.2.1), some (.int p.2.2), some (.lst T.length), y6, none, x8]) (T ++ [ks'.map kyW]) := lp
    have st : eoB [x0, some f, some (.int p.1), some (.int p.2.1), some (.int p.2.2), x5, x6, none, x8] T = .ok (.nx [x0, some (.lst T.length), some (.int p.1), some (.int p.2.1), some (.int p.2.2), some (.lst T.length), y6, none, x8]) (T ++ [ks'.map kyW]) := by
      unfold eoB
      generalize evB = B at lp ⊢
      simp [sSeq, sSet, sAsg, setT, lft, dLst, dNil, bnd, ret, mkL, szB, sFor, iSeq, dVar, rdI, sk, lp]
    show forL _ _ [] S0 (bP k p :: bW k ps) _ T = _
    unfold forL
    simp only [setT, setTs, bP_it, List.set_cons_succ, List.set_cons_zero, st, kept_nil, if_true]
    rw [ih, List.append_assoc]
def rW (r : List Int) : W := .tup (iW r)
theorem ab_lc {i : Nat} {ρ : En} (h : (∀ w : W, (ρ.set i (some w))[i]? = some (some w))) : ∀ b : List Bx, lcL (.nm i) dYes (dBin fIx (dVar i) (dC (.int 0))) ρ S [] (bW k b) S = .ok (iW (whos b)) S
  | [] => rfl
  | p :: b => by
    have ih := ab_lc h b
    have e2 : fIx S (bP k p) (.int 0) = some (.int p.1) := by
      have : ixW S (bP k p) = some [.int p.1, .int p.2.1, .int p.2.2] := sq_ix _
      simp [fIx, this, atI, ixN]
    show lcL _ _ _ _ _ _ (bP k p :: bW k b) _ = .ok (.int p.1 :: iW (whos b)) S
    simp [lcL, setT, dYes, ret, dBin, dVar, dC, bnd, h, rdS, e2, ih]
theorem ev_last {x0 x2 x3 x4 x5 : Option W} {f box : W} {keep : List Nat} (b : List Bx) (hbx : ∀ S : Store, seqI S box = some (bW k b, [])) (hb : x0 = some box) (ok : okB 0 b) (hl : b.length ≤ 100) (hk : kept S S keep = true) : ∀ (ks : List (List Int)), (∀ q ∈ ks, Cd b q) → lcL (.nm 6) dYes (dCall 2 g_law_built (dCons (dLc .cl [8] (iSeq (dVar 0)) (.nm 8) dYes (dBin fIx (dVar 8) (dC (.int 0)))) (dCons (dVar 6) dNil))) [x0, some f, x2, x3, x4, x5, none, none, none] S keep (ks.map kyW) S = .ok (ks.map fun q => rW (bldN [] (whos b) q)) S
  | [], _ => rfl
  | q :: ks, h => by
    have ih := ev_last (x0 := x0) (x2 := x2) (x3 := x3) (x4 := x4) (x5 := x5) (f := f) (box := box) b hbx hb ok hl hk ks fun z hz => h z (List.mem_cons_of_mem _ hz)
    have e1 := v_built (S := S) b q (h q (List.mem_cons_self ..)) ok hl
    have e2 := ab_lc (S := S) (k := k) (i := 8) (ρ := [x0, some f, x2, x3, x4, x5, some (kyW q), none, none]) (fun w => rfl) b
    subst hb
    have de : (dCall 2 g_law_built (dCons (dLc .cl [8] (iSeq (dVar 0)) (.nm 8) dYes (dBin fIx (dVar 8) (dC (.int 0)))) (dCons (dVar 6) dNil))) [some box, some f, x2, x3, x4, x5, some (kyW q), none, none] S = .ok (rW (bldN [] (whos b) q)) S := by
      generalize (dBin fIx (dVar 8) (dC (.int 0))) = DD at e2 ⊢
      simp [dCall, dCons, dNil, dLc, iSeq, dVar, bnd, ret, rdI, hbx, wipeW, e2, newK]
      show g_law_built [.cl (iW (whos b)), .cl (iW q)] S = _
      rw [e1]
      rfl
    show lcL _ _ _ _ _ _ (kyW q :: ks.map kyW) _ = _
    unfold lcL
    simp only [setT, List.set_cons_succ, List.set_cons_zero, show ∀ ρ S, dYes ρ S = .ok true S from fun _ _ => rfl, de, hk, if_true]
    have ih : lcL (.nm 6) dYes (dCall 2 g_law_built (dCons (dLc .cl [8] (iSeq (dVar 0)) (.nm 8) dYes (dBin fIx (dVar 8) (dC (.int 0)))) (dCons (dVar 6) dNil))) [some box, some f, x2, x3, x4, x5, none, none, none] S keep (ks.map kyW) S = _ := ih
    rw [ih]
    rfl
theorem v_everyG {box : W} (b : List Bx) (hbx : ∀ S : Store, seqI S box = some (bW k b, [])) (ok : okB 0 b) (hl : b.length ≤ 100) (hp : prodN b ≤ 1000) : ∃ J, g_law_every [box] S = .ok (.cl ((linesN b).map rW)) (S ++ J) := by
  obtain ⟨J, f', y2, y3, y4, y5, y6, lp, hk⟩ := ev_loop (S0 := S) (k := k) (x0 := some box) (x8 := none) b 0 S (.cl [kyW []]) [[]] none none none none none (.inl rfl) ok (by omega) (by simp) (by simpa using hp)
  refine ⟨J, ?_⟩
  obtain ⟨keep, sk, kj⟩ := hk.seq
  have la := ev_last (S := S ++ J) (k := k) (x0 := some box) (x2 := y2) (x3 := y3) (x4 := y4) (x5 := y5) (f := f') (box := box) (keep := keep) b hbx rfl ok hl (kept_of fun j hj => ⟨kj j hj, rfl⟩) (keysN b [[]]) fun q hq => by
    obtain ⟨k0, h0, as, c, rfl⟩ := (mem_keysN b _ _).mp hq
    rw [List.mem_singleton.mp h0]
    exact c
  have ed : d_law_every = (sSeq (sSet 1 (dCl (dCons (dCl dNil) dNil))) (sSeq (sFor (iSeq (dVar 0)) (.tp [(.nm 2), (.nm 3), (.nm 4)]) eoB) (sRet (dLc .cl [6] (iSeq (dVar 1)) (.nm 6) dYes (dCall 2 g_law_built (dCons (dLc .cl [8] (iSeq (dVar 0)) (.nm 8) dYes (dBin fIx (dVar 8) (dC (.int 0)))) (dCons (dVar 6) dNil))))))) := rfl
  have hm : (linesN b).map rW = (keysN b [[]]).map fun q => rW (bldN [] (whos b) q) := by simp [linesN]
  show fnW 9 d_law_every _ S = _
  rw [ed, hm]
  have k0 : kyW [] = .cl [] := rfl
  rw [k0] at lp
  generalize eoB = B at lp ⊢
  generalize (dCall 2 g_law_built (dCons (dLc .cl [8] (iSeq (dVar 0)) (.nm 8) dYes (dBin fIx (dVar 8) (dC (.int 0)))) (dCons (dVar 6) dNil))) = DD at la ⊢
  simp [fnW, sSeq, sSet, sAsg, setT, sFor, sRet, lft, dVar, bnd, ret, dCl, dNil, mkC, szB, dCons, iSeq, rdI, hbx, lp, dLc, sk, wipeW, la, newK]
end

end Den

namespace Den
open PySem PySem.Spec PyProof.Rows L2 Bal
section
variable {S : Store}
theorem same_seq {g : List W → Mo W} {x y : W} {xs ys : List W} {keep : List Nat} {k : Kd} (hk : kSeq k = true) (h1 : kdW x = some k) (h2 : kdW y = some k) (hq : sqI S [x, y] = some ([xs, ys], keep)) (kp : kept S S keep = true) (e1 : ixW S x = some xs) (e2 : ixW S y = some ys) (hl : xs.length = ys.length)
    (h : ∀ i, i < xs.length → g [xs[i]?.getD .non, ys[i]?.getD .non] S = .ok (.bl true) S) : fnW 4 (d_law_same g) [x, y] S = .ok (.bl true) S := by
  have key := lc_all (t := .tp [.nm 2, .nm 3]) (de := dCall 2 g (dCons (dVar 2) (dCons (dVar 3) dNil))) (ρ := [some x, some y, none, none]) (S := S) kp (.bl true) ((List.range xs.length).map fun i => W.tup [xs[i]?.getD .non, ys[i]?.getD .non]) fun w hw => by
    obtain ⟨i, hi, rfl⟩ := List.mem_map.mp hw
    have := h i (List.mem_range.mp hi)
    exact ⟨[some x, some y, some (xs[i]?.getD .non), some (ys[i]?.getD .non)], by simp [setT, setTs, itmsS], by simp [dCall, dCons, dNil, dVar, bnd, ret, this]⟩
  have bt : ∀ n : Nat, blT (List.replicate n (W.bl true)) = some (List.replicate n true) := fun n => by
    induction n with
    | zero => rfl
    | succ n ih => simp [List.replicate_succ, blT, ih]
  have eb : ∀ b : Bool, eqD S (.bl b) (.bl b) = some true := fun b => by cases b <;> simp [eqD, datS, dat, SeqAt.shaped, PyData.eqv, PyData.canLay0, PyData.depth]
  have ei : ∀ i : Int, eqD S (.int i) (.int i) = some true := fun i => by simp [eqD, datS, dat, SeqAt.shaped, PyData.eqv, PyData.canLay0, PyData.depth]
  rw [← zipL_two hl] at key
  simp [d_law_same, fnW, sSeq, sIf, sRet, sNil, lft, dTst, dIs, dVar, bnd, ret, h1, h2, hk, toB, dOrT, dBin, rdS, fNe, eb, dAnd, fEq, dCallN, dCons, dNil, fLen, e1, e2, hl, ei, dLc, iZip, zipI, hq, rdI, wipeW, key, newK, fAll, lstS, bt]
theorem kept_sq {x y : W} {xs ys : List W} {keep : List Nat} (h : sqI S [x, y] = some ([xs, ys], keep)) : kept S S keep = true := by
  refine kept_of fun n hn => ⟨?_, rfl⟩
  have one : ∀ {w : W} {ws : List W} {k : List Nat}, seqI S w = some (ws, k) → ∀ n ∈ k, n < S.length := fun {w ws k} e n hn => by
    cases w with
    | tup us => cases e; simp at hn
    | cl us => cases e; simp at hn
    | lst m =>
      have e : (S[m]?).map (fun ws => (ws, [m])) = some (ws, k) := e
      cases e1 : S[m]? with
      | none => rw [e1] at e; cases e
      | some us =>
        rw [e1] at e
        cases e
        rw [List.mem_singleton.mp hn]
        exact (List.getElem?_eq_some_iff.mp e1).1
    | _ => cases e
  simp only [sqI] at h
  cases e1 : seqI S x with
  | none => rw [e1] at h; cases h
  | some p =>
    cases e2 : seqI S y with
    | none => rw [e1, e2] at h; cases h
    | some q =>
      rw [e1, e2] at h
      cases h
      rcases List.mem_append.mp hn with hn | hn
      · exact one e1 n hn
      · rw [List.append_nil] at hn
        exact one e2 n hn
theorem same_true : ∀ (n : Nat) (x y : W), likeB S n x y = true → g_law_same n [x, y] S = .ok (.bl true) S
  | 0, _, _, h => by simp [likeB] at h
  | n + 1, x, y, h => by
    have eb : ∀ b : Bool, eqD S (.bl b) (.bl b) = some true := fun b => by cases b <;> simp [eqD, datS, dat, SeqAt.shaped, PyData.eqv, PyData.canLay0, PyData.depth]
    show fnW 4 (d_law_same (g_law_same n)) [x, y] S = _
    have lists : ∀ {x y : W} {xs ys : List W}, lstS S x = some xs → lstS S y = some ys → all2 (likeB S n) xs ys = true → fnW 4 (d_law_same (g_law_same n)) [x, y] S = .ok (.bl true) S := fun {x y xs ys} e1 e2 h => by
      have q1 : ∃ k, seqI S x = some (xs, k) ∧ kdW x = some .lst ∧ ixW S x = some xs := by
        cases x with
        | cl us => cases e1; exact ⟨_, rfl, rfl, rfl⟩
        | lst m =>
          have e1 : S[m]? = some xs := e1
          exact ⟨[m], by simp [seqI, e1], rfl, by simp [ixW, itmsS, e1]⟩
        | _ => cases e1
      have q2 : ∃ k, seqI S y = some (ys, k) ∧ kdW y = some .lst ∧ ixW S y = some ys := by
        cases y with
        | cl us => cases e2; exact ⟨_, rfl, rfl, rfl⟩
        | lst m =>
          have e2 : S[m]? = some ys := e2
          exact ⟨[m], by simp [seqI, e2], rfl, by simp [ixW, itmsS, e2]⟩
        | _ => cases e2
      obtain ⟨k1, s1, d1, i1⟩ := q1
      obtain ⟨k2, s2, d2, i2⟩ := q2
      have hq : sqI S [x, y] = some ([xs, ys], k1 ++ (k2 ++ [])) := by simp [sqI, s1, s2]
      exact same_seq (k := .lst) rfl d1 d2 hq (kept_sq hq) i1 i2 (all2_len h) fun i hi => same_true n _ _ (all2_at h i hi)
    cases x with
    | int i =>
      cases y with
      | int j =>
        have h : decide (i = j) = true := h
        have h := of_decide_eq_true h
        subst h
        simp [d_law_same, fnW, sSeq, sIf, sRet, sNil, lft, dTst, dIs, dVar, dC, bnd, ret, kdW, kSeq, kStr, kInt, kBool, toB, dOrT, dBin, rdS, fIs, isN, eb, dAnd, fEq, eqD, datS, dat, SeqAt.shaped, PyData.eqv, PyData.canLay0, PyData.depth]
      | _ => simp [likeB, lstS] at h
    | bl i =>
      cases y with
      | bl j =>
        have h : decide (i = j) = true := h
        have h := of_decide_eq_true h
        subst h
        simp [d_law_same, fnW, sSeq, sIf, sRet, sNil, lft, dTst, dIs, dVar, dC, bnd, ret, kdW, kSeq, kStr, kInt, kBool, toB, dOrT, dBin, rdS, fIs, isN, eb, dAnd, fEq]
      | _ => simp [likeB, lstS] at h
    | str i =>
      cases y with
      | str j =>
        have h : (decide (i = j) && PyData.canLay0 (.str i)) = true := h
        rw [Bool.and_eq_true] at h
        have h1 := of_decide_eq_true h.1
        subst h1
        simp [d_law_same, fnW, sSeq, sIf, sRet, sNil, lft, dTst, dIs, dVar, dC, bnd, ret, kdW, kSeq, kStr, kInt, kBool, toB, dOrT, dBin, rdS, fIs, isN, dAnd, fEq, eqD, datS, dat, SeqAt.shaped, PyData.eqv, PyData.depth, h.2]
        simp [PyData.canLay0, PyData.eqv]
      | _ => simp [likeB, lstS] at h
    | tup xs =>
      cases y with
      | tup ys =>
        have h : all2 (likeB S n) xs ys = true := h
        have hq : sqI S [.tup xs, .tup ys] = some ([xs, ys], []) := rfl
        exact same_seq (k := .tup) rfl rfl rfl hq (kept_sq hq) rfl rfl (all2_len h) fun i hi => same_true n _ _ (all2_at h i hi)
      | _ => simp [likeB, lstS] at h
    | cl xs =>
      cases y with
      | cl ys => exact lists rfl rfl h
      | lst m =>
        cases e : S[m]? with
        | none => simp [likeB, lstS, e] at h
        | some ys => exact lists rfl e (by simpa [likeB, lstS, e] using h)
      | _ => simp [likeB, lstS] at h
    | lst k =>
      cases e : S[k]? with
      | none => cases y <;> simp [likeB, lstS, e] at h
      | some xs =>
        cases y with
        | cl ys => exact lists e rfl (by simpa [likeB, lstS, e] using h)
        | lst m =>
          cases e2 : S[m]? with
          | none => simp [likeB, lstS, e, e2] at h
          | some ys => exact lists e e2 (by simpa [likeB, lstS, e, e2] using h)
        | _ => simp [likeB, lstS, e] at h
    | _ => cases y <;> simp [likeB, lstS] at h
end


section
variable {S : Store}
theorem lists_int (i : Int) (m : Nat) : g_law_lists (m + 1) [.int i] S = .ok (.int i) S := by
  show fnW 2 (d_law_lists (g_law_lists m)) [.int i] S = _
  simp [d_law_lists, fnW, sRet, lft, dIf, dTst, dIs, dVar, bnd, ret, kdW, kSeq, toB]
theorem lists_row (r : List Int) (m : Nat) : g_law_lists (m + 2) [.tup (iW r)] S = .ok (.cl (iW r)) S := by
  show fnW 2 (d_law_lists (g_law_lists (m + 1))) [.tup (iW r)] S = _
  have key := lc_iW (i := 1) (tt := dYes) (de := dCall 1 (g_law_lists (m + 1)) (dCons (dVar 1) dNil)) (ρ := [some (.tup (iW r)), none]) (S := S) (fun _ => true) (fun n => .int n) r fun n _ => ⟨rfl, fun _ => by simp [dCall, dCons, dNil, dVar, bnd, ret, lists_int]⟩
  simp [d_law_lists, fnW, sRet, lft, dIf, dTst, dIs, dVar, bnd, ret, kdW, kSeq, toB, dLc, iSeq, rdI, seqI, wipeW, key, newK]
  rfl
theorem lists_homes (fl fr : List Int) : g_law_lists 6 [homes fl fr] S = .ok (.cl [.cl (iW fl), .cl (iW fr)]) S := by
  show fnW 2 (d_law_lists (g_law_lists 5)) [homes fl fr] S = _
  simp [d_law_lists, fnW, sRet, lft, dIf, dTst, dIs, dVar, bnd, ret, kdW, kSeq, toB, dLc, iSeq, rdI, seqI, wipeW, lcL, setT, dYes, dCall, dCons, dNil, lists_row, kept, newK]
theorem Hm.l (fl fr : List Int) : Hm (.cl [.cl (iW fl), .cl (iW fr)]) fl fr := ⟨_, _, .inr rfl, .l fl, .l fr⟩
end

end Den

namespace Den
open PySem PySem.Spec PyProof.Rows L2 Bal
section
variable {S : Store} {k : Bool}
theorem bldN_perm : ∀ {ps : List Bx} {as : List Int} (acc : List Int), Cd ps as → (bldN acc (whos ps) as).Perm (acc ++ whos ps)
  | _, _, acc, .nil => by simp [bldN, whos]
  | p :: ps, _, acc, .cons (a := a) (as := as) h1 h2 c => by
    have ih := bldN_perm (ins1 acc a p.1) c
    show (bldN (ins1 acc a p.1) (whos ps) as).Perm (acc ++ p.1 :: whos ps)
    exact ih.trans (((ins1_perm acc a p.1).append_right _).trans (List.perm_middle.symm))
theorem lines_len (b : List Bx) : (linesN b).length = prodN b := by
  unfold linesN
  rw [List.length_map, keysN_len]
  simp
theorem desc_nd {l : List Int} (h : Desc l) : l.Nodup := h.imp fun h e => by omega
end

/-! ### rows by their numbers, codes of rows built -/
section
theorem ahead_frn (r : List Int) (x : Int) : ahead r x = Bal.frn r x := (Bal.frn_ahead r x).symm
theorem frn_more {w x : Int} (h : w < x) : ∀ (t d : List Int), Bal.frn (t ++ [w] ++ d) x = Bal.frn (t ++ d) x
  | [], d => by
    show (if w = x then 0 else (if x < w then 1 else 0) + Bal.frn d x) = Bal.frn d x
    rw [if_neg (by omega), if_neg (by omega), Nat.zero_add]
  | y :: t, d => by
    show (if y = x then 0 else (if x < y then 1 else 0) + Bal.frn (t ++ [w] ++ d) x) = (if y = x then 0 else (if x < y then 1 else 0) + Bal.frn (t ++ d) x)
    rw [frn_more h t d]
theorem frn_self {w : Int} : ∀ (t d : List Int), (∀ y ∈ t, w < y) → Bal.frn (t ++ [w] ++ d) w = t.length
  | [], d, _ => by
    show (if w = w then 0 else _) = 0
    rw [if_pos rfl]
  | y :: t, d, h => by
    have hy := h y (List.mem_cons_self ..)
    show (if y = w then 0 else (if w < y then 1 else 0) + Bal.frn (t ++ [w] ++ d) w) = t.length + 1
    rw [if_neg (by omega), if_pos hy, frn_self t d fun z hz => h z (List.mem_cons_of_mem _ hz), Nat.add_comm]
theorem ins1_frn {r : List Int} {a w x : Int} (h : w < x) : Bal.frn (ins1 r a w) x = Bal.frn r x := by
  unfold ins1
  rw [frn_more h, List.take_append_drop]
theorem ins1_frn_self {r : List Int} {a w : Int} (h : ∀ y ∈ r, w < y) (h0 : 0 ≤ a) (h1 : a ≤ r.length) : (Bal.frn (ins1 r a w) w : Int) = a := by
  unfold ins1
  rw [frn_self _ _ fun y hy => h y (List.mem_of_mem_take hy), List.length_take]
  omega
theorem bldN_frn : ∀ (ps : List Bx) (as acc : List Int) (x : Int), Cd ps as → (∀ w ∈ whos ps, w < x) → Bal.frn (bldN acc (whos ps) as) x = Bal.frn acc x
  | [], as, acc, x, c, _ => by cases c; rfl
  | p :: ps, _, acc, x, .cons (a := a) (as := as) h1 h2 c, h => by
    show Bal.frn (bldN (ins1 acc a p.1) (whos ps) as) x = _
    rw [bldN_frn ps as (ins1 acc a p.1) x c fun w hw => h w (List.mem_cons_of_mem _ hw), ins1_frn (h p.1 (List.mem_cons_self ..))]
theorem bldN_code : ∀ (ps : List Bx) (as acc : List Int), Cd ps as → okB acc.length ps → (whos ps).Pairwise (· > ·) → (∀ y ∈ acc, ∀ w ∈ whos ps, w < y) → (whos ps).map (fun w => (Bal.frn (bldN acc (whos ps) as) w : Int)) = as
  | [], as, acc, c, _, _, _ => by cases c; rfl
  | p :: ps, _, acc, .cons (a := a) (as := as) h1 h2 c, ok, hd, h => by
    have hd := List.pairwise_cons.mp hd
    have ha : 0 ≤ a ∧ a ≤ (acc.length : Int) := ⟨by have := ok.1.1; omega, by have := ok.1.2.2; omega⟩
    have hp : ∀ y ∈ acc, p.1 < y := fun y hy => h y hy p.1 (List.mem_cons_self ..)
    have ih := bldN_code ps as (ins1 acc a p.1) c (by rw [ins1_len]; exact ok.2) hd.2 fun y hy w hw => by
      rcases List.mem_cons.mp ((ins1_perm acc a p.1).mem_iff.mp hy) with rfl | hy
      · exact hd.1 w hw
      · exact h y hy w (List.mem_cons_of_mem _ hw)
    show (Bal.frn (bldN (ins1 acc a p.1) (whos ps) as) p.1 : Int) :: (whos ps).map (fun w => (Bal.frn (bldN (ins1 acc a p.1) (whos ps) as) w : Int)) = a :: as
    rw [ih, bldN_frn ps as _ p.1 c fun w hw => hd.1 w hw, ins1_frn_self hp ha.1 ha.2]
/-! numbers -/
end

end Den

namespace Den
open PySem PySem.Spec PyProof.Rows L2 Bal
section
variable {K : Type} [DecidableEq K]
/-! ### how often each of some keys stands -/
def cntE (l : List K) (x : K) : Nat := l.countP fun y => decide (y = x)
theorem cntE_app (l m : List K) (x : K) : cntE (l ++ m) x = cntE l x + cntE m x := List.countP_append
theorem cntE_cons (a : K) (l : List K) (x : K) : cntE (a :: l) x = cntE l x + if a = x then 1 else 0 := by
  unfold cntE
  rw [List.countP_cons]
  simp
theorem cntE_zero {l : List K} {x : K} (h : x ∉ l) : cntE l x = 0 := by
  unfold cntE
  rw [List.countP_eq_zero]
  intro a ha
  simp
  exact fun e => h (e ▸ ha)
theorem cntE_one (a x : K) : cntE [a] x = if a = x then 1 else 0 := by
  rw [cntE_cons]
  simp [cntE]
def firsts : List K → List K → List K
  | [], D => D
  | k :: ks, D => firsts ks (if k ∈ D then D else D ++ [k])
def getN (T : List (K × Nat)) (k : K) : Option Nat := (T.find? fun p => decide (p.1 = k)).map (·.2)
def bump (T : List (K × Nat)) (k : K) : List (K × Nat) := if (getN T k).isSome = true then T.map (fun p => if p.1 = k then (p.1, (getN T k).getD 0 + 1) else p) else T ++ [(k, (getN T k).getD 0 + 1)]
def tal (ks : List K) : List (K × Nat) := ks.foldl bump []
def fst1 (ks : List K) : List K := firsts ks []
theorem firsts_app : ∀ (xs ys : List K) (D : List K), firsts (xs ++ ys) D = firsts ys (firsts xs D)
  | [], _, _ => rfl
  | x :: xs, ys, D => by
    show firsts (xs ++ ys) (if x ∈ D then D else D ++ [x]) = firsts ys (firsts xs (if x ∈ D then D else D ++ [x]))
    exact firsts_app xs ys _
theorem fst1_snoc (ks : List K) (k : K) : fst1 (ks ++ [k]) = if k ∈ fst1 ks then fst1 ks else fst1 ks ++ [k] := by
  unfold fst1
  rw [firsts_app]
  rfl
theorem snoc_ind {P : List K → Prop} (h0 : P []) (h1 : ∀ ks k, P ks → P (ks ++ [k])) (ks : List K) : P ks := by
  have : ∀ l : List K, P l.reverse := fun l => by
    induction l with
    | nil => exact h0
    | cons a l ih => rw [List.reverse_cons]; exact h1 _ _ ih
  have := this ks.reverse
  rwa [List.reverse_reverse] at this
theorem mem_fst1 (ks : List K) : ∀ x, x ∈ fst1 ks ↔ x ∈ ks := by
  refine snoc_ind (P := fun ks => ∀ x, x ∈ fst1 ks ↔ x ∈ ks) (fun x => Iff.rfl) (fun ks k ih x => ?_) ks
  rw [fst1_snoc]
  by_cases h : k ∈ fst1 ks
  · rw [if_pos h, ih, List.mem_append, List.mem_singleton]
    constructor
    · exact .inl
    · rintro (h2 | rfl)
      · exact h2
      · exact (ih x).mp h
  · rw [if_neg h, List.mem_append, List.mem_append, ih]
theorem nodup_fst1 (ks : List K) : (fst1 ks).Nodup := by
  refine snoc_ind (P := fun ks => (fst1 ks).Nodup) List.nodup_nil (fun ks k ih => ?_) ks
  rw [fst1_snoc]
  by_cases h : k ∈ fst1 ks
  · rw [if_pos h]; exact ih
  · rw [if_neg h, List.nodup_append]
    exact ⟨ih, by simp, fun a ha b hb e => h (by rw [List.mem_singleton] at hb; rw [← hb, ← e]; exact ha)⟩
theorem getN_map (D : List K) (f : K → Nat) (k : K) : getN (D.map fun x => (x, f x)) k = if k ∈ D then some (f k) else none := by
  unfold getN
  induction D with
  | nil => rfl
  | cons a D ih =>
    rw [List.map_cons, List.find?_cons]
    by_cases h : a = k
    · subst h
      simp
    · have h2 : decide ((a, f a).1 = k) = false := decide_eq_false h
      rw [h2]
      rw [ih]
      have : (k ∈ a :: D) ↔ k ∈ D := by
        rw [List.mem_cons]
        exact ⟨fun z => z.elim (fun e => absurd e.symm h) id, .inr⟩
      by_cases h3 : k ∈ D
      · rw [if_pos h3, if_pos (this.mpr h3)]
      · rw [if_neg h3, if_neg fun z => h3 (this.mp z)]
theorem tal_is (ks : List K) : tal ks = (fst1 ks).map fun x => (x, cntE ks x) := by
  refine snoc_ind (P := fun ks => tal ks = (fst1 ks).map fun x => (x, cntE ks x)) rfl (fun ks k ih => ?_) ks
  have e : tal (ks ++ [k]) = bump (tal ks) k := by
    unfold tal
    rw [List.foldl_append]
    rfl
  rw [e, ih, fst1_snoc]
  unfold bump
  rw [getN_map]
  by_cases h : k ∈ fst1 ks
  · rw [if_pos h, if_pos h, if_pos (show (some (cntE ks k)).isSome = true from rfl), List.map_map]
    refine List.map_congr_left fun x hx => ?_
    show (if x = k then (x, cntE ks k + 1) else (x, cntE ks x)) = _
    rw [cntE_app, cntE_one]
    by_cases h2 : x = k
    · subst h2
      rw [if_pos rfl, if_pos rfl]
    · rw [if_neg h2, if_neg fun z => h2 z.symm]
      rfl
  · rw [if_neg h, if_neg h, if_neg (by simp), List.map_append]
    have hk : k ∉ ks := fun z => h ((mem_fst1 ks k).mpr z)
    congr 1
    · refine List.map_congr_left fun x hx => ?_
      have : x ≠ k := fun e => h (e ▸ hx)
      rw [cntE_app, cntE_one, if_neg fun z => this z.symm]
      rfl
    · rw [List.map_singleton, cntE_app, cntE_zero hk, cntE_one, if_pos rfl]
      rfl
def szs (ks : List K) : List Nat := (fst1 ks).map fun x => cntE ks x
theorem tal_snd (ks : List K) : (tal ks).map (·.2) = szs ks := by
  rw [tal_is, List.map_map]
  rfl
end
section
/-- what counts is which are alike -/
theorem szs_like {α K M : Type} [DecidableEq K] [DecidableEq M] (f : α → K) (g : α → M) (l : List α) (h : ∀ x ∈ l, ∀ y ∈ l, f x = f y ↔ g x = g y) : szs (l.map f) = szs (l.map g) := by
  have key : ∃ R : List α, (∀ x ∈ R, x ∈ l) ∧ fst1 (l.map f) = R.map f ∧ fst1 (l.map g) = R.map g := by
    have gen : ∀ l' : List α, (∀ x ∈ l', x ∈ l) → ∃ R : List α, (∀ x ∈ R, x ∈ l) ∧ fst1 (l'.map f) = R.map f ∧ fst1 (l'.map g) = R.map g := by
      intro l'
      have : ∀ m : List α, (∀ x ∈ m.reverse, x ∈ l) → ∃ R : List α, (∀ x ∈ R, x ∈ l) ∧ fst1 (m.reverse.map f) = R.map f ∧ fst1 (m.reverse.map g) = R.map g := fun m => by
        induction m with
        | nil => exact fun _ => ⟨[], fun x hx => absurd hx List.not_mem_nil, rfl, rfl⟩
        | cons a m ih =>
          intro hm
          rw [List.reverse_cons] at hm ⊢
          obtain ⟨R, h1, h2, h3⟩ := ih fun x hx => hm x (List.mem_append_left _ hx)
          have ha : a ∈ l := hm a (by simp)
          have hh : f a ∈ R.map f ↔ g a ∈ R.map g := by
            rw [List.mem_map, List.mem_map]
            constructor
            · rintro ⟨x, hx, e⟩
              exact ⟨x, hx, (h x (h1 x hx) a ha).mp e⟩
            · rintro ⟨x, hx, e⟩
              exact ⟨x, hx, (h x (h1 x hx) a ha).mpr e⟩
          rw [List.map_append, List.map_append, List.map_singleton, List.map_singleton, fst1_snoc, fst1_snoc, h2, h3]
          by_cases c : f a ∈ R.map f
          · rw [if_pos c, if_pos (hh.mp c)]
            exact ⟨R, h1, rfl, rfl⟩
          · rw [if_neg c, if_neg fun z => c (hh.mpr z)]
            exact ⟨R ++ [a], fun x hx => by
              rcases List.mem_append.mp hx with hx | hx
              · exact h1 x hx
              · rw [List.mem_singleton.mp hx]; exact ha, by simp, by simp⟩
      intro hl
      have := this l'.reverse (by rw [List.reverse_reverse]; exact hl)
      rwa [List.reverse_reverse] at this
    exact gen l fun x hx => hx
  obtain ⟨R, h1, h2, h3⟩ := key
  unfold szs
  rw [h2, h3, List.map_map, List.map_map]
  refine List.map_congr_left fun x hx => ?_
  show cntE (l.map f) (f x) = cntE (l.map g) (g x)
  unfold cntE
  rw [List.countP_map, List.countP_map]
  refine List.countP_congr fun y hy => ?_
  have := h y hy x (h1 x hx)
  simp only [Function.comp, decide_eq_true_eq]
  exact this
end
section
variable {K : Type} [DecidableEq K]
theorem count_one {a : K} : ∀ {l : List K}, l.Nodup → l.count a = if a ∈ l then 1 else 0
  | [], _ => by simp
  | b :: l, h => by
    have hb := (List.nodup_cons.mp h).1
    have ih := count_one (a := a) (List.nodup_cons.mp h).2
    rw [List.count_cons, ih]
    by_cases e : b = a
    · subst e
      rw [if_neg hb]
      simp
    · have e2 : (b == a) = false := by simpa using e
      have : (a ∈ b :: l) ↔ a ∈ l := by
        rw [List.mem_cons]
        exact ⟨fun z => z.elim (fun q => absurd q.symm e) id, .inr⟩
      by_cases h3 : a ∈ l
      · rw [if_pos h3, if_pos (this.mpr h3)]
        simp [e]
      · rw [if_neg h3, if_neg fun z => h3 (this.mp z)]
        simp [e]
theorem perm_nodup {l m : List K} (h1 : l.Nodup) (h2 : m.Nodup) (h : ∀ x, x ∈ l ↔ x ∈ m) : l.Perm m := by
  rw [List.perm_iff_count]
  intro a
  rw [count_one h1, count_one h2]
  by_cases c : a ∈ l
  · rw [if_pos c, if_pos ((h a).mp c)]
  · rw [if_neg c, if_neg fun z => c ((h a).mpr z)]
/-- each of some, with each of others behind it -/
def prodL (A : List (List K)) (B : List K) : List (List K) := A.flatMap fun v => B.map fun x => v ++ [x]
theorem mem_prodL {A : List (List K)} {B : List K} {v : List K} {x : K} : v ++ [x] ∈ prodL A B ↔ v ∈ A ∧ x ∈ B := by
  unfold prodL
  rw [List.mem_flatMap]
  constructor
  · rintro ⟨u, hu, h⟩
    obtain ⟨y, hy, e⟩ := List.mem_map.mp h
    have := List.append_inj' e rfl
    rw [← this.1, ← (List.cons.inj this.2).1]
    exact ⟨hu, hy⟩
  · rintro ⟨h1, h2⟩
    exact ⟨v, h1, List.mem_map.mpr ⟨x, h2, rfl⟩⟩
theorem prodL_form {A : List (List K)} {B : List K} {u : List K} (h : u ∈ prodL A B) : ∃ v x, u = v ++ [x] := by
  unfold prodL at h
  rw [List.mem_flatMap] at h
  obtain ⟨v, _, h⟩ := h
  obtain ⟨y, _, e⟩ := List.mem_map.mp h
  exact ⟨v, y, e.symm⟩
theorem count_snoc (B : List K) (u v : List K) (x : K) : cntE (B.map fun y => u ++ [y]) (v ++ [x]) = if u = v then cntE B x else 0 := by
  by_cases e : u = v
  · subst e
    rw [if_pos rfl]
    unfold cntE
    rw [List.countP_map]
    refine List.countP_congr fun y _ => ?_
    simp [Function.comp]
  · rw [if_neg e]
    refine cntE_zero fun h => ?_
    obtain ⟨y, _, q⟩ := List.mem_map.mp h
    exact e (List.append_inj' q rfl).1
theorem count_prodL (B : List K) (v : List K) (x : K) : ∀ A : List (List K), cntE (prodL A B) (v ++ [x]) = cntE A v * cntE B x
  | [] => by simp [prodL, cntE]
  | u :: A => by
    have ih := count_prodL B v x A
    have h1 := count_snoc B u v x
    unfold prodL at ih ⊢
    rw [List.flatMap_cons, cntE_app, ih, h1, cntE_cons]
    by_cases e : u = v
    · rw [if_pos e, if_pos e, Nat.add_mul]
      omega
    · simp [e]
theorem nodup_prodL {B : List K} (hB : B.Nodup) : ∀ {A : List (List K)}, A.Nodup → (prodL A B).Nodup
  | [], _ => List.nodup_nil
  | u :: A, hA => by
    have h1 := List.nodup_cons.mp hA
    have ih := nodup_prodL hB h1.2
    unfold prodL at ih ⊢
    rw [List.flatMap_cons, List.nodup_append]
    refine ⟨hB.map _ fun a b h e => h (List.cons.inj (List.append_inj' e rfl).2).1, ih, fun a ha b hb e => ?_⟩
    obtain ⟨y, _, rfl⟩ := List.mem_map.mp ha
    subst e
    exact h1.1 (mem_prodL.mp hb).1
def mulX (X Y : List Nat) : List Nat := X.flatMap fun s => Y.map fun t => s * t
theorem szs_prod (A : List (List K)) (B : List K) : (szs (prodL A B)).Perm (mulX (szs A) (szs B)) := by
  have p : (fst1 (prodL A B)).Perm (prodL (fst1 A) (fst1 B)) := perm_nodup (nodup_fst1 _) (nodup_prodL (nodup_fst1 B) (nodup_fst1 A)) fun u => by
    rw [mem_fst1]
    constructor
    · intro h
      obtain ⟨v, x, rfl⟩ := prodL_form h
      have h := mem_prodL.mp h
      exact mem_prodL.mpr ⟨(mem_fst1 A v).mpr h.1, (mem_fst1 B x).mpr h.2⟩
    · intro h
      obtain ⟨v, x, rfl⟩ := prodL_form h
      have h := mem_prodL.mp h
      exact mem_prodL.mpr ⟨(mem_fst1 A v).mp h.1, (mem_fst1 B x).mp h.2⟩
  have e : (prodL (fst1 A) (fst1 B)).map (fun u => cntE (prodL A B) u) = mulX (szs A) (szs B) := by
    unfold mulX szs
    generalize fst1 A = D
    generalize hE : fst1 B = E
    induction D with
    | nil => rfl
    | cons v D ih =>
      rw [List.map_cons, List.flatMap_cons, ← ih]
      show ((E.map fun x => v ++ [x]) ++ prodL D E).map _ = _
      rw [List.map_append]
      congr 1
      rw [List.map_map, List.map_map]
      exact List.map_congr_left fun x _ => count_prodL B v x A
  have := p.map fun u => cntE (prodL A B) u
  rw [e] at this
  exact this
end
section
theorem len_mulX (X Y : List Nat) : (mulX X Y).length = X.length * Y.length := by
  unfold mulX
  induction X with
  | nil => simp
  | cons s X ih =>
    rw [List.flatMap_cons, List.length_append, ih, List.length_map, List.length_cons, Nat.add_mul]
    omega
theorem one_mulX (Y : List Nat) : ∀ X : List Nat, cntE (mulX X Y) 1 = cntE X 1 * cntE Y 1
  | [] => by simp [mulX, cntE]
  | s :: X => by
    have ih := one_mulX Y X
    unfold mulX at ih ⊢
    rw [List.flatMap_cons, cntE_app, ih, cntE_cons]
    have h : cntE (Y.map fun t => s * t) 1 = if s = 1 then cntE Y 1 else 0 := by
      by_cases e : s = 1
      · subst e
        rw [if_pos rfl]
        simp
      · rw [if_neg e]
        refine cntE_zero fun h => ?_
        obtain ⟨t, _, q⟩ := List.mem_map.mp h
        exact e (Nat.eq_one_of_mul_eq_one_right q)
    rw [h]
    by_cases e : s = 1
    · rw [if_pos e, if_pos e, Nat.add_mul]
      omega
    · simp [e]
def IsMx (m : Nat) (l : List Nat) : Prop := m ∈ l ∧ ∀ y ∈ l, y ≤ m
theorem IsMx.perm {m : Nat} {l k : List Nat} (h : IsMx m l) (p : l.Perm k) : IsMx m k := ⟨p.mem_iff.mp h.1, fun y hy => h.2 y (p.mem_iff.mpr hy)⟩
theorem IsMx.mul {m n : Nat} {X Y : List Nat} (h : IsMx m X) (g : IsMx n Y) : IsMx (m * n) (mulX X Y) := by
  refine ⟨List.mem_flatMap.mpr ⟨m, h.1, List.mem_map.mpr ⟨n, g.1, rfl⟩⟩, fun y hy => ?_⟩
  obtain ⟨s, hs, hy⟩ := List.mem_flatMap.mp hy
  obtain ⟨t, ht, rfl⟩ := List.mem_map.mp hy
  exact Nat.mul_le_mul (h.2 s hs) (g.2 t ht)
end

end Den

namespace Den
open PySem PySem.Spec PyProof.Rows L2 Bal
section
variable (fl fr : List Int)
/-- is there a border between so many ahead and one more -/
def bdr (k j : Nat) : Bool := decide (((j : Int) + 1) ∈ fl) || decide (((k : Int) - j) ∈ fr)
def cls (k : Nat) : Nat → Nat
  | 0 => 0
  | a + 1 => cls k a + if bdr fl fr k a = true then 1 else 0
def incL (l : List Nat) : List Nat := l.dropLast ++ [l.getLast?.getD 0 + 1]
def szN (k : Nat) : Nat → List Nat
  | 0 => [1]
  | t + 1 => if bdr fl fr k t = true then szN k t ++ [1] else incL (szN k t)
def clsL (k : Nat) : List Nat := (List.range (k + 1)).map (cls fl fr k)
theorem incL_snoc (l : List Nat) (x : Nat) : incL (l ++ [x]) = l ++ [x + 1] := by simp [incL]
theorem cls_all (k t : Nat) : fst1 ((List.range (t + 1)).map (cls fl fr k)) = List.range (cls fl fr k t + 1) ∧ szs ((List.range (t + 1)).map (cls fl fr k)) = szN fl fr k t := by
  induction t with
  | zero => exact ⟨rfl, rfl⟩
  | succ t ih =>
    obtain ⟨h1, h2⟩ := ih
    have e : (List.range (t + 1 + 1)).map (cls fl fr k) = (List.range (t + 1)).map (cls fl fr k) ++ [cls fl fr k (t + 1)] := by
      rw [List.range_succ, List.map_append]
      rfl
    have hm : ∀ x, x ∈ (List.range (t + 1)).map (cls fl fr k) ↔ x < cls fl fr k t + 1 := fun x => by
      rw [← mem_fst1, h1, List.mem_range]
    rw [e]
    generalize (List.range (t + 1)).map (cls fl fr k) = B at *
    by_cases c : bdr fl fr k t = true
    · have ex : cls fl fr k (t + 1) = cls fl fr k t + 1 := by
        show cls fl fr k t + (if bdr fl fr k t = true then 1 else 0) = _
        rw [if_pos c]
      rw [ex]
      have hx : cls fl fr k t + 1 ∉ B := fun z => by have := (hm _).mp z; omega
      have f1 : fst1 (B ++ [cls fl fr k t + 1]) = List.range (cls fl fr k t + 1 + 1) := by
        rw [fst1_snoc, if_neg fun z => hx ((mem_fst1 _ _).mp z), h1]
        exact List.range_succ.symm
      refine ⟨f1, ?_⟩
      have h2' : (List.range (cls fl fr k t + 1)).map (fun x => cntE B x) = szN fl fr k t := by rw [← h1]; exact h2
      show (fst1 (B ++ [cls fl fr k t + 1])).map _ = if bdr fl fr k t = true then szN fl fr k t ++ [1] else _
      rw [f1, if_pos c, List.range_succ, List.map_append, ← h2']
      congr 1
      · refine List.map_congr_left fun x hx2 => ?_
        have : x < cls fl fr k t + 1 := List.mem_range.mp hx2
        rw [cntE_app, cntE_one, if_neg (by omega)]
        rfl
      · rw [List.map_singleton, cntE_app, cntE_zero hx, cntE_one, if_pos rfl]
    · have ex : cls fl fr k (t + 1) = cls fl fr k t := by
        show cls fl fr k t + (if bdr fl fr k t = true then 1 else 0) = _
        rw [if_neg c]
        rfl
      rw [ex]
      have hx : cls fl fr k t ∈ B := (hm _).mpr (by omega)
      have f1 : fst1 (B ++ [cls fl fr k t]) = List.range (cls fl fr k t + 1) := by
        rw [fst1_snoc, if_pos ((mem_fst1 _ _).mpr hx), h1]
      refine ⟨f1, ?_⟩
      have h2' : (List.range (cls fl fr k t + 1)).map (fun x => cntE B x) = szN fl fr k t := by rw [← h1]; exact h2
      show (fst1 (B ++ [cls fl fr k t])).map _ = if bdr fl fr k t = true then _ else incL (szN fl fr k t)
      rw [f1, if_neg c, ← h2', List.range_succ, List.map_append, List.map_append, List.map_singleton, List.map_singleton, incL_snoc]
      congr 1
      · refine List.map_congr_left fun x hx2 => ?_
        have : x < cls fl fr k t := List.mem_range.mp hx2
        rw [cntE_app, cntE_one, if_neg (by omega)]
        rfl
      · rw [cntE_app, cntE_one, if_pos rfl]
theorem szs_cls (k : Nat) : szs (clsL fl fr k) = szN fl fr k k := (cls_all fl fr k k).2
def vecs : Nat → List (List Nat)
  | 0 => [[]]
  | n + 1 => prodL (vecs n) (clsL fl fr n)
def proF (f : Nat → Nat) : Nat → Nat
  | 0 => 1
  | n + 1 => proF f n * f n
theorem vecs_len (n : Nat) : (szs (vecs fl fr n)).length = proF (fun k => (szN fl fr k k).length) n := by
  induction n with
  | zero => rfl
  | succ n ih =>
    have p := szs_prod (vecs fl fr n) (clsL fl fr n)
    show (szs (prodL _ _)).length = _
    rw [p.length_eq, len_mulX, ih, szs_cls]
    rfl
theorem vecs_one (n : Nat) : cntE (szs (vecs fl fr n)) 1 = proF (fun k => cntE (szN fl fr k k) 1) n := by
  induction n with
  | zero => rfl
  | succ n ih =>
    have p := szs_prod (vecs fl fr n) (clsL fl fr n)
    have e : cntE (szs (prodL (vecs fl fr n) (clsL fl fr n))) 1 = cntE (mulX (szs (vecs fl fr n)) (szs (clsL fl fr n))) 1 := p.countP_eq _
    show cntE (szs (prodL _ _)) 1 = _
    rw [e, one_mulX, ih, szs_cls]
    rfl
theorem vecs_max {m : Nat → Nat} (hm : ∀ k, IsMx (m k) (szN fl fr k k)) (n : Nat) : IsMx (proF m n) (szs (vecs fl fr n)) := by
  induction n with
  | zero => exact ⟨List.mem_singleton.mpr rfl, fun y hy => by rw [List.mem_singleton.mp hy]; exact Nat.le_refl _⟩
  | succ n ih =>
    have p := szs_prod (vecs fl fr n) (clsL fl fr n)
    have h := hm n
    rw [← szs_cls] at h
    exact (ih.mul h).perm p.symm
/-- the class of a number of taller ones ahead tells which floors see -/
theorem cls_mono (k : Nat) : ∀ d a : Nat, cls fl fr k a ≤ cls fl fr k (a + d)
  | 0, _ => Nat.le_refl _
  | d + 1, a => Nat.le_trans (cls_mono k d a) (Nat.le_add_right _ _)
theorem cls_same (k : Nat) : ∀ d a : Nat, cls fl fr k (a + d) = cls fl fr k a → ∀ j, a ≤ j → j < a + d → bdr fl fr k j = false
  | 0, a, _, j, h1, h2 => by omega
  | d + 1, a, h, j, h1, h2 => by
    have m := cls_mono fl fr k d a
    have s : cls fl fr k (a + d) + (if bdr fl fr k (a + d) = true then 1 else 0) = cls fl fr k a := h
    have hb : bdr fl fr k (a + d) = false := by
      cases hb : bdr fl fr k (a + d) with
      | false => rfl
      | true => rw [hb, if_pos rfl] at s; omega
    rw [hb] at s
    by_cases e : j = a + d
    · rw [e]; exact hb
    · exact cls_same k d a (by simpa using s) j h1 (by omega)
theorem cls_none (k : Nat) : ∀ d a : Nat, (∀ j, a ≤ j → j < a + d → bdr fl fr k j = false) → cls fl fr k (a + d) = cls fl fr k a
  | 0, _, _ => rfl
  | d + 1, a, h => by
    have ih := cls_none k d a fun j h1 h2 => h j h1 (by omega)
    show cls fl fr k (a + d) + (if bdr fl fr k (a + d) = true then 1 else 0) = _
    rw [h (a + d) (by omega) (by omega), ih]
    rfl
def SeeLike (k a b : Nat) : Prop := (∀ f ∈ fl, ((a : Int) < f ↔ (b : Int) < f)) ∧ ∀ g ∈ fr, ((k : Int) - a < g ↔ (k : Int) - b < g)
theorem cls_see {k a d : Nat} (h : a + d ≤ k) : cls fl fr k (a + d) = cls fl fr k a ↔ SeeLike fl fr k a (a + d) := by
  constructor
  · intro e
    have hn := cls_same fl fr k d a e
    refine ⟨fun f hf => ⟨fun h1 => ?_, fun h1 => by omega⟩, fun g hg => ⟨fun h1 => by omega, fun h1 => ?_⟩⟩
    · by_cases c : ((a + d : Nat) : Int) < f
      · exact c
      · exfalso
        have := hn (f - 1).toNat (by omega) (by omega)
        unfold bdr at this
        rw [Bool.or_eq_false_iff] at this
        exact absurd (by rw [show (((f - 1).toNat : Nat) : Int) + 1 = f by omega]; exact hf) (of_decide_eq_false this.1)
    · by_cases c : (k : Int) - a < g
      · exact c
      · exfalso
        have := hn ((k : Int) - g).toNat (by omega) (by omega)
        unfold bdr at this
        rw [Bool.or_eq_false_iff] at this
        exact absurd (by rw [show (k : Int) - ((((k : Int) - g).toNat : Nat) : Int) = g by omega]; exact hg) (of_decide_eq_false this.2)
  · rintro ⟨h1, h2⟩
    refine cls_none fl fr k d a fun j j1 j2 => ?_
    unfold bdr
    rw [Bool.or_eq_false_iff]
    refine ⟨decide_eq_false fun z => ?_, decide_eq_false fun z => ?_⟩
    · have := (h1 _ z).mp (by omega)
      omega
    · have := (h2 _ z).mpr (by omega)
      omega
theorem SeeLike.symm {k a b : Nat} (h : SeeLike fl fr k a b) : SeeLike fl fr k b a := ⟨fun f hf => (h.1 f hf).symm, fun g hg => (h.2 g hg).symm⟩
theorem cls_iff {k a b : Nat} (ha : a ≤ k) (hb : b ≤ k) : cls fl fr k a = cls fl fr k b ↔ SeeLike fl fr k a b := by
  by_cases h : a ≤ b
  · obtain ⟨d, rfl⟩ := Nat.exists_eq_add_of_le h
    rw [← cls_see fl fr hb]
    exact eq_comm
  · obtain ⟨d, rfl⟩ := Nat.exists_eq_add_of_le (Nat.le_of_lt (Nat.lt_of_not_le h))
    rw [cls_see fl fr ha]
    exact ⟨SeeLike.symm fl fr, SeeLike.symm fl fr⟩
end

end Den

namespace Den
open PySem PySem.Spec PyProof.Rows L2 Bal
section
theorem keysN_snoc (p : Bx) : ∀ (b : List Bx) (ks : List (List Int)), keysN (b ++ [p]) ks = (keysN b ks).flatMap fun k => (frs p.2.1 p.2.2).map fun a => k ++ [a]
  | [], _ => rfl
  | q :: b, ks => keysN_snoc p b _
def fbx (n : Nat) : List Bx := (List.range n).map fun k : Nat => (-(k : Int), 0, (k : Int))
theorem fbx_succ (n : Nat) : fbx (n + 1) = fbx n ++ [(-(n : Int), 0, (n : Int))] := by
  unfold fbx
  rw [List.range_succ, List.map_append]
  rfl
theorem whos_fbx (n : Nat) : whos (fbx n) = (List.range n).map fun k : Nat => -(k : Int) := by
  unfold whos fbx
  rw [List.map_map]
  rfl
theorem len_fbx (n : Nat) : (fbx n).length = n := by simp [fbx]
theorem cdl_len : ∀ {b : List Bx} {as : List Int}, Cd b as → as.length = b.length
  | _, _, .nil => rfl
  | _, _, .cons _ _ h => by rw [List.length_cons, List.length_cons, cdl_len h]
theorem cd_at : ∀ {b : List Bx} {as : List Int}, Cd b as → ∀ i (h : i < as.length) (h2 : i < b.length), b[i].2.1 ≤ as[i] ∧ as[i] ≤ b[i].2.2
  | _, _, .nil, i, h, _ => absurd h (Nat.not_lt_zero i)
  | _, _, .cons h1 h2 _, 0, _, _ => ⟨h1, h2⟩
  | _, _, .cons _ _ h, i + 1, h3, h4 => cd_at h i (by simpa using h3) (by simpa using h4)
theorem okB_fbx : ∀ (n : Nat), okB 0 (fbx n) := by
  have gen : ∀ (m k : Nat), okB k ((List.range m).map fun i : Nat => (-((k + i : Nat) : Int), (0 : Int), ((k + i : Nat) : Int))) := by
    intro m
    induction m with
    | zero => intro k; trivial
    | succ m ih =>
      intro k
      rw [List.range_succ_eq_map, List.map_cons, List.map_map]
      refine ⟨⟨Int.le_refl _, by show (0 : Int) ≤ ((k + 0 : Nat) : Int); omega, by show ((k + 0 : Nat) : Int) ≤ (k : Int); omega⟩, ?_⟩
      have := ih (k + 1)
      have e : ((fun i : Nat => (-((k + i : Nat) : Int), (0 : Int), ((k + i : Nat) : Int))) ∘ Nat.succ) = fun i : Nat => (-((k + 1 + i : Nat) : Int), (0 : Int), ((k + 1 + i : Nat) : Int)) := by
        funext i
        show (-((k + (i + 1) : Nat) : Int), (0 : Int), ((k + (i + 1) : Nat) : Int)) = _
        rw [show k + (i + 1) = k + 1 + i by omega]
      rw [e]
      exact this
  intro n
  have := gen n 0
  unfold fbx
  simpa using this
theorem desc_fbx (n : Nat) : (whos (fbx n)).Pairwise (· > ·) := by
  rw [whos_fbx, List.pairwise_map]
  exact List.pairwise_lt_range.imp fun h => by omega
variable (fl fr : List Int)
def cvF : Nat → List Int → List Nat
  | _, [] => []
  | k, a :: as => cls fl fr k a.toNat :: cvF (k + 1) as
theorem cvF_snoc (a : Int) : ∀ (as : List Int) (k : Nat), cvF fl fr k (as ++ [a]) = cvF fl fr k as ++ [cls fl fr (k + as.length) a.toNat]
  | [], k => rfl
  | b :: as, k => by
    have ih := cvF_snoc a as (k + 1)
    show cls fl fr k b.toNat :: cvF fl fr (k + 1) (as ++ [a]) = _
    rw [ih, show k + 1 + as.length = k + (b :: as).length by rw [List.length_cons]; omega]
    rfl
theorem frs_cls (n : Nat) : (frs 0 (n : Int)).map (fun a => cls fl fr n a.toNat) = clsL fl fr n := by
  unfold frs clsL
  rw [List.map_map, show ((n : Int) + 1 - 0).toNat = n + 1 by omega]
  refine List.map_congr_left fun i _ => ?_
  show cls fl fr n (0 + (i : Int)).toNat = _
  rw [show (0 + (i : Int)).toNat = i by omega]
theorem keys_len {n : Nat} {as : List Int} (h : as ∈ keysN (fbx n) [[]]) : Cd (fbx n) as := by
  obtain ⟨k0, h0, as', hc, rfl⟩ := (mem_keysN _ _ _).mp h
  rw [List.mem_singleton.mp h0]
  exact hc
theorem keys_vecs : ∀ n : Nat, (keysN (fbx n) [[]]).map (cvF fl fr 0) = vecs fl fr n
  | 0 => rfl
  | n + 1 => by
    have ih := keys_vecs n
    have hl : ∀ k ∈ keysN (fbx n) [[]], k.length = n := fun k hk => by rw [cdl_len (keys_len hk), len_fbx]
    show _ = prodL (vecs fl fr n) (clsL fl fr n)
    rw [fbx_succ, keysN_snoc, ← ih, ← frs_cls]
    unfold prodL
    generalize keysN (fbx n) [[]] = L at *
    clear ih
    induction L with
    | nil => rfl
    | cons k L ih =>
      have h1 := hl k (List.mem_cons_self ..)
      rw [List.flatMap_cons, List.map_append, List.map_cons, List.flatMap_cons, ih fun x hx => hl x (List.mem_cons_of_mem _ hx)]
      congr 1
      rw [List.map_map, List.map_map]
      refine List.map_congr_left fun a _ => ?_
      show cvF fl fr 0 (k ++ [a]) = cvF fl fr 0 k ++ [cls fl fr n a.toNat]
      rw [cvF_snoc, h1, Nat.zero_add]
theorem cvF_eq : ∀ (as bs : List Int) (k : Nat), as.length = bs.length → (cvF fl fr k as = cvF fl fr k bs ↔ ∀ i, i < as.length → cls fl fr (k + i) (as[i]?.getD 0).toNat = cls fl fr (k + i) (bs[i]?.getD 0).toNat)
  | [], [], k, _ => ⟨fun _ i h => absurd h (Nat.not_lt_zero i), fun _ => rfl⟩
  | a :: as, b :: bs, k, hl => by
    have ih := cvF_eq as bs (k + 1) (by simpa using hl)
    show cls fl fr k a.toNat :: cvF fl fr (k + 1) as = cls fl fr k b.toNat :: cvF fl fr (k + 1) bs ↔ _
    rw [List.cons.injEq, ih]
    constructor
    · rintro ⟨h1, h2⟩ i hi
      cases i with
      | zero => simpa using h1
      | succ i =>
        have := h2 i (by simpa using hi)
        rw [show k + 1 + i = k + (i + 1) by omega] at this
        simpa using this
    · intro h
      refine ⟨by simpa using h 0 (by simp), fun i hi => ?_⟩
      have := h (i + 1) (by simpa using hi)
      rw [show k + 1 + i = k + (i + 1) by omega]
      simpa using this
  | [], _ :: _, _, h => by simp at h
  | _ :: _, [], _, h => by simp at h
/-- what houses see of a row -/
def keyV (r : List Int) : TKy := [fl.map (sight r), fr.map (sight r.reverse)]
def rowN (n : Nat) (as : List Int) : List Int := bldN [] (whos (fbx n)) as
theorem row_perm {n : Nat} {as : List Int} (c : Cd (fbx n) as) : (rowN n as).Perm (whos (fbx n)) := by
  have := bldN_perm (ps := fbx n) (as := as) [] c
  simpa [rowN] using this
theorem row_nd {n : Nat} {as : List Int} (c : Cd (fbx n) as) : (rowN n as).Nodup := ((row_perm c).nodup_iff).mpr (desc_nd (desc_fbx n))
theorem mem_whos {n : Nat} {w : Int} : w ∈ whos (fbx n) ↔ ∃ i, i < n ∧ w = -(i : Int) := by
  rw [whos_fbx, List.mem_map]
  constructor
  · rintro ⟨i, hi, rfl⟩
    exact ⟨i, List.mem_range.mp hi, rfl⟩
  · rintro ⟨i, hi, rfl⟩
    exact ⟨i, List.mem_range.mpr hi, rfl⟩
theorem row_ahead {n : Nat} {as : List Int} (c : Cd (fbx n) as) {i : Nat} (hi : i < n) : (ahead (rowN n as) (-(i : Int)) : Int) = as[i]?.getD 0 ∧ 0 ≤ as[i]?.getD 0 ∧ as[i]?.getD 0 ≤ i := by
  have h := bldN_code (fbx n) as [] c (okB_fbx n) (desc_fbx n) fun y hy => absurd hy List.not_mem_nil
  have hl : as.length = n := by rw [cdl_len c, len_fbx]
  have h1 := congrArg (fun l : List Int => l[i]?) h
  have e : (whos (fbx n))[i]? = some (-(i : Int)) := by
    rw [whos_fbx, List.getElem?_map, List.getElem?_range hi]
    rfl
  have h1 : ((whos (fbx n)).map fun w => (Bal.frn (bldN [] (whos (fbx n)) as) w : Int))[i]? = as[i]? := h1
  rw [List.getElem?_map, e] at h1
  have hb := cd_at c i (by omega) (by rw [len_fbx]; exact hi)
  have e2 : (fbx n)[i]'(by rw [len_fbx]; exact hi) = (-(i : Int), 0, (i : Int)) := by
    unfold fbx
    simp
  rw [e2] at hb
  have e3 : as[i]? = some as[i] := List.getElem?_eq_getElem (by omega)
  rw [e3] at h1 ⊢
  have h1 := Option.some.inj h1
  refine ⟨?_, hb.1, hb.2⟩
  rw [ahead_frn]
  exact h1
theorem taller_count (n i : Nat) (hi : i ≤ n) : ((whos (fbx n)).filter fun y => decide (-(i : Int) < y)).length = i := by
  induction n generalizing i with
  | zero =>
    have : i = 0 := by omega
    subst this
    rfl
  | succ n ih =>
    have e : whos (fbx (n + 1)) = whos (fbx n) ++ [-(n : Int)] := by
      rw [fbx_succ]
      simp [whos]
    rw [e, List.filter_append, List.length_append]
    by_cases c : i ≤ n
    · rw [ih i c]
      have : decide (-(i : Int) < -(n : Int)) = false := decide_eq_false (by omega)
      simp [this]
      omega
    · have : i = n + 1 := by omega
      subst this
      have h2 : ((whos (fbx n)).filter fun y => decide (-((n + 1 : Nat) : Int) < y)) = whos (fbx n) := by
        rw [List.filter_eq_self]
        intro y hy
        obtain ⟨j, hj, rfl⟩ := mem_whos.mp hy
        exact decide_eq_true (by omega)
      have h3 : decide (-((n + 1 : Nat) : Int) < -(n : Int)) = true := decide_eq_true (by omega)
      have h4 : ([-(n : Int)].filter fun y => decide (-((n + 1 : Nat) : Int) < y)) = [-(n : Int)] := by rw [List.filter_cons, h3]; rfl
      rw [h2, h4]
      simp [whos_fbx]
theorem row_behind {n : Nat} {as : List Int} (c : Cd (fbx n) as) {i : Nat} (hi : i < n) : (ahead (rowN n as).reverse (-(i : Int)) : Int) = i - as[i]?.getD 0 := by
  have h1 := (row_ahead c hi).1
  have hm : -(i : Int) ∈ rowN n as := (row_perm c).mem_iff.mpr (mem_whos.mpr ⟨i, hi, rfl⟩)
  have h2 := Bal.frn_rev (row_nd c) hm
  have h3 : Bal.ahead (rowN n as) (-(i : Int)) + Bal.behind (rowN n as) (-(i : Int)) = i := by
    have := taller_count n i (by omega)
    have p := ((row_perm c).filter fun y => decide (-(i : Int) < y)).length_eq
    rw [this] at p
    unfold Bal.ahead Bal.behind
    rw [← List.length_append, ← List.filter_append, List.take_append_drop]
    exact p
  rw [ahead_frn, h2]
  rw [ahead_frn, Bal.frn_ahead] at h1
  omega
theorem filt_eq {α : Type} {p q : α → Bool} {l : List α} : l.filter p = l.filter q ↔ ∀ x ∈ l, p x = q x := by
  constructor
  · intro h x hx
    have h1 : x ∈ l.filter p ↔ x ∈ l.filter q := by rw [h]
    rw [List.mem_filter, List.mem_filter] at h1
    rw [Bool.eq_iff_iff]
    exact ⟨fun z => (h1.mp ⟨hx, z⟩).2, fun z => (h1.mpr ⟨hx, z⟩).2⟩
  · exact List.filter_congr
theorem srt_alike {r q : List Int} (h : r.Perm q) : srt r = srt q := srt_eq ((srt_perm q).trans h.symm) (srt_le q)
theorem key_iff {n : Nat} {as bs : List Int} (c : Cd (fbx n) as) (d : Cd (fbx n) bs) : keyV fl fr (rowN n as) = keyV fl fr (rowN n bs) ↔ cvF fl fr 0 as = cvF fl fr 0 bs := by
  have la : as.length = n := by rw [cdl_len c, len_fbx]
  have lb : bs.length = n := by rw [cdl_len d, len_fbx]
  have e1 : srt (rowN n as) = srt (rowN n bs) := srt_alike ((row_perm c).trans (row_perm d).symm)
  have e2 : srt (rowN n as).reverse = srt (rowN n bs).reverse := srt_alike ((List.reverse_perm _).trans (((row_perm c).trans (row_perm d).symm).trans (List.reverse_perm _).symm))
  have m1 : ∀ w, w ∈ srt (rowN n bs) ↔ ∃ i, i < n ∧ w = -(i : Int) := fun w => by rw [(srt_perm _).mem_iff, (row_perm d).mem_iff, mem_whos]
  have m2 : ∀ w, w ∈ srt (rowN n bs).reverse ↔ ∃ i, i < n ∧ w = -(i : Int) := fun w => by rw [(srt_perm _).mem_iff, List.mem_reverse, (row_perm d).mem_iff, mem_whos]
  have k1 : fl.map (sight (rowN n as)) = fl.map (sight (rowN n bs)) ↔ ∀ i, i < n → ∀ f ∈ fl, ((as[i]?.getD 0) < f ↔ (bs[i]?.getD 0) < f) := by
    rw [List.map_inj_left]
    constructor
    · intro h i hi f hf
      have := h f hf
      unfold sight at this
      rw [e1, filt_eq] at this
      have := this (-(i : Int)) ((m1 _).mpr ⟨i, hi, rfl⟩)
      rw [(row_ahead c hi).1, (row_ahead d hi).1, decide_eq_decide] at this
      exact this
    · intro h f hf
      unfold sight
      rw [e1, filt_eq]
      intro w hw
      obtain ⟨i, hi, rfl⟩ := (m1 w).mp hw
      rw [(row_ahead c hi).1, (row_ahead d hi).1, decide_eq_decide]
      exact h i hi f hf
  have k2 : fr.map (sight (rowN n as).reverse) = fr.map (sight (rowN n bs).reverse) ↔ ∀ i, i < n → ∀ g ∈ fr, ((i : Int) - (as[i]?.getD 0) < g ↔ (i : Int) - (bs[i]?.getD 0) < g) := by
    rw [List.map_inj_left]
    constructor
    · intro h i hi f hf
      have := h f hf
      unfold sight at this
      rw [e2, filt_eq] at this
      have := this (-(i : Int)) ((m2 _).mpr ⟨i, hi, rfl⟩)
      rw [row_behind c hi, row_behind d hi, decide_eq_decide] at this
      exact this
    · intro h f hf
      unfold sight
      rw [e2, filt_eq]
      intro w hw
      obtain ⟨i, hi, rfl⟩ := (m2 w).mp hw
      rw [row_behind c hi, row_behind d hi, decide_eq_decide]
      exact h i hi f hf
  have hk : keyV fl fr (rowN n as) = keyV fl fr (rowN n bs) ↔ (fl.map (sight (rowN n as)) = fl.map (sight (rowN n bs)) ∧ fr.map (sight (rowN n as).reverse) = fr.map (sight (rowN n bs).reverse)) := by
    unfold keyV
    constructor
    · intro h
      injection h with h1 h2
      injection h2 with h2 _
      exact ⟨h1, h2⟩
    · rintro ⟨h1, h2⟩
      rw [h1, h2]
  rw [hk, k1, k2, cvF_eq fl fr as bs 0 (by omega), la]
  have each : ∀ i, i < n → (cls fl fr (0 + i) (as[i]?.getD 0).toNat = cls fl fr (0 + i) (bs[i]?.getD 0).toNat ↔ ((∀ f ∈ fl, ((as[i]?.getD 0) < f ↔ (bs[i]?.getD 0) < f)) ∧ ∀ g ∈ fr, ((i : Int) - (as[i]?.getD 0) < g ↔ (i : Int) - (bs[i]?.getD 0) < g))) := fun i hi => by
    have h1 := (row_ahead c hi).2
    have h2 := (row_ahead d hi).2
    rw [Nat.zero_add, cls_iff fl fr (by omega) (by omega)]
    unfold SeeLike
    rw [show (((as[i]?.getD 0).toNat : Nat) : Int) = as[i]?.getD 0 by omega, show (((bs[i]?.getD 0).toNat : Nat) : Int) = bs[i]?.getD 0 by omega]
  constructor
  · rintro ⟨h1, h2⟩ i hi
    exact (each i hi).mpr ⟨h1 i hi, h2 i hi⟩
  · intro h
    exact ⟨fun i hi => ((each i hi).mp (h i hi)).1, fun i hi => ((each i hi).mp (h i hi)).2⟩
/-- how great the groups of rows are that are seen alike -/
theorem szs_key (n : Nat) : szs ((linesN (fbx n)).map (keyV fl fr)) = szs (vecs fl fr n) := by
  unfold linesN
  rw [List.map_map, ← keys_vecs fl fr n]
  exact szs_like _ _ _ fun x hx y hy => key_iff fl fr (keys_len hx) (keys_len hy)
end

end Den

namespace Den
open PySem PySem.Spec PyProof.Rows L2 Bal
section
abbrev SZI : DI := (iRg1 (dCons (dVar 0) dNil))
abbrev SZT : Tg := (.nm 5)
abbrev SZ1 : DS := (sIf (dOrT (dTst (dBin fIn (dBin fAdd (dVar 5) (dC (.int 1))) (dVar 2))) (dTst (dBin fIn (dBin fSub (dVar 0) (dVar 5)) (dVar 3)))) (sDrop (dMth fAppend (dVar 4) (dCons (dC (.int 1)) dNil))) (sAugIx (dVar 4) (dUn fNeg (dC (.int 1))) (dC (.int 1))))
abbrev SZB : DS := SZ1
abbrev SI1 : DS := (sAsg (.tp [(.nm 2), (.nm 3)]) (dVar 1))
abbrev SI2 : DS := (sSet 4 (dLst (dCons (dC (.int 1)) dNil)))
abbrev SI3 : DS := (sFor (iRg1 (dCons (dVar 0) dNil)) (.nm 5) (sIf (dOrT (dTst (dBin fIn (dBin fAdd (dVar 5) (dC (.int 1))) (dVar 2))) (dTst (dBin fIn (dBin fSub (dVar 0) (dVar 5)) (dVar 3)))) (sDrop (dMth fAppend (dVar 4) (dCons (dC (.int 1)) dNil))) (sAugIx (dVar 4) (dUn fNeg (dC (.int 1))) (dC (.int 1)))))
abbrev SI4 : DS := (sRet (dVar 4))
theorem SI_is : d_stretch_sizes = (sSeq SI1 (sSeq SI2 (sSeq SI3 SI4))) := rfl
abbrev VM1 : DS := (sSet 2 (dC (.int 1)))
abbrev VM2 : DS := (sFor (iRg1 (dCons (dVar 0) dNil)) (.nm 3) (sAug fMulI 2 (dCallN fLen (dCons (dCall 2 g_stretch_sizes (dCons (dVar 3) (dCons (dVar 1) dNil))) dNil))))
abbrev VM3 : DS := (sRet (dVar 2))
theorem VM_is : d_views_many = (sSeq VM1 (sSeq VM2 VM3)) := rfl
abbrev MR1 : DS := (sSet 2 (dC (.int 1)))
abbrev MR2 : DS := (sFor (iRg1 (dCons (dVar 0) dNil)) (.nm 3) (sAug fMulI 2 (dCallN fMaxS (dCons (dCall 2 g_stretch_sizes (dCons (dVar 3) (dCons (dVar 1) dNil))) dNil))))
abbrev MR3 : DS := (sRet (dVar 2))
theorem MR_is : d_most_rows = (sSeq MR1 (sSeq MR2 MR3)) := rfl
abbrev KR1 : DS := (sSet 2 (dC (.int 1)))
abbrev KR2 : DS := (sFor (iRg1 (dCons (dVar 0) dNil)) (.nm 3) (sAug fMulI 2 (dMth fCount (dCall 2 g_stretch_sizes (dCons (dVar 3) (dCons (dVar 1) dNil))) (dCons (dC (.int 1)) dNil))))
abbrev KR3 : DS := (sRet (dVar 2))
theorem KR_is : d_known_rows = (sSeq KR1 (sSeq KR2 KR3)) := rfl
end

section
variable {S : Store}
def ni (l : List Nat) : List Int := l.map fun n : Nat => (n : Int)
theorem ni_len (l : List Nat) : (ni l).length = l.length := by simp [ni]
theorem fl_iW8 (r : List Int) : flWs (iW r) = some (r.map V.int) := by
  induction r with
  | nil => rfl
  | cons x r ih =>
    have ih : flWs (List.map W.int r) = some (List.map V.int r) := ih
    show (match flW (.int x), flWs (List.map W.int r) with | some v, some vs => some (v :: vs) | _, _ => none) = _
    simp [flW, ih]
theorem in_rw {w : W} {r : List Int} (h : Rw w r) (x : Int) : fIn S (.int x) w = some (.bl (decide (x ∈ r))) := by
  have e : inW S (.int x) w = some (decide (x ∈ r)) := by
    rcases h with rfl | rfl
    · exact in_iW S x r
    · rw [← in_iW S x r]
      simp [inW, itmsS, fl_iW8, flW]
  simp only [fIn, e, Option.map_some]
theorem app_lst {m : Nat} {ws : List W} (e : S[m]? = some ws) (y : W) (hl : ws.length ≤ 1000000) : fAppend S (.lst m) [y] = some (.non, S.set m (ws ++ [y])) := by
  have z : szB (ws.length + 1) = true := decide_eq_true (by omega)
  have z2 : szB (ws ++ [y]).length = true := decide_eq_true (by simp; omega)
  show (match S[m]? with | some ws => (match (if szB (ws.length + 1) = true then some (W.non, ws ++ [y]) else none) with | some (w, us) => if szB us.length = true then some (w, S.set m us) else none | none => none) | none => none) = _
  rw [e]
  dsimp only
  rw [if_pos z]
  dsimp only
  rw [if_pos z2]
theorem at_lastW (xs : List W) (x : W) : ixN (xs ++ [x]).length (-1) = some xs.length ∧ atI (xs ++ [x]) (-1) = some x := by
  have h : ixN (xs ++ [x]).length (-1) = some xs.length := by
    unfold ixN
    rw [if_neg (by omega), if_pos (by simp only [List.length_append, List.length_cons, List.length_nil]; omega)]
    congr 1
    simp only [List.length_append, List.length_cons, List.length_nil]
    omega
  refine ⟨h, ?_⟩
  unfold atI
  rw [h, Option.bind_some]
  simp
theorem szN_ne (fl fr : List Int) (k : Nat) : ∀ t, ∃ L x, szN fl fr k t = L ++ [x]
  | 0 => ⟨[], 1, rfl⟩
  | t + 1 => by
    obtain ⟨L, x, e⟩ := szN_ne fl fr k t
    show ∃ L' x', (if bdr fl fr k t = true then szN fl fr k t ++ [1] else incL (szN fl fr k t)) = L' ++ [x']
    by_cases c : bdr fl fr k t = true
    · rw [if_pos c]; exact ⟨_, _, rfl⟩
    · rw [if_neg c, e, incL_snoc]; exact ⟨_, _, rfl⟩
theorem szN_len (fl fr : List Int) (k : Nat) : ∀ t, (szN fl fr k t).length ≤ t + 1
  | 0 => Nat.le_refl _
  | t + 1 => by
    have ih := szN_len fl fr k t
    obtain ⟨L, x, e⟩ := szN_ne fl fr k t
    show (if bdr fl fr k t = true then szN fl fr k t ++ [1] else incL (szN fl fr k t)).length ≤ _
    by_cases c : bdr fl fr k t = true
    · rw [if_pos c, List.length_append, List.length_singleton]; omega
    · rw [e] at ih
      rw [if_neg c, e, incL_snoc, List.length_append, List.length_singleton]
      rw [List.length_append, List.length_singleton] at ih
      omega
theorem sz_step {T : Store} {hs a b : W} {fl fr : List Int} (ha : Rw a fl) (hb : Rw b fr) (k t : Nat) (ht : t ≤ 1000) : SZB [some (.int (k : Int)), some hs, some a, some b, some (.lst T.length), some (.int (t : Int))] (T ++ [iW (ni (szN fl fr k t))]) = .ok (.nx [some (.int (k : Int)), some hs, some a, some b, some (.lst T.length), some (.int (t : Int))]) (T ++ [iW (ni (szN fl fr k (t + 1)))]) := by
  have e0 : (T ++ [iW (ni (szN fl fr k t))])[T.length]? = some (iW (ni (szN fl fr k t))) := by simp
  have st : ∀ y : List W, (T ++ [iW (ni (szN fl fr k t))]).set T.length y = T ++ [y] := fun y => by simp
  have i1 := in_rw (S := T ++ [iW (ni (szN fl fr k t))]) ha ((t : Int) + 1)
  have i2 := in_rw (S := T ++ [iW (ni (szN fl fr k t))]) hb ((k : Int) - (t : Int))
  have a1 : fAdd (T ++ [iW (ni (szN fl fr k t))]) (.int (t : Int)) (.int 1) = some (.int ((t : Int) + 1)) := rfl
  have a2 : fSub (T ++ [iW (ni (szN fl fr k t))]) (.int (k : Int)) (.int (t : Int)) = some (.int ((k : Int) - (t : Int))) := rfl
  have sl := szN_len fl fr k t
  have ap := app_lst e0 (.int 1) (by rw [iW_len, ni_len]; omega)
  rw [st] at ap
  have hb2 : bdr fl fr k t = (decide (((t : Int) + 1) ∈ fl) || decide (((k : Int) - (t : Int)) ∈ fr)) := rfl
  by_cases c : bdr fl fr k t = true
  · have e1 : szN fl fr k (t + 1) = szN fl fr k t ++ [1] := by
      show (if bdr fl fr k t = true then _ else _) = _
      rw [if_pos c]
    have e2 : iW (ni (szN fl fr k t)) ++ [W.int 1] = iW (ni (szN fl fr k (t + 1))) := by rw [e1]; simp [iW, ni]
    rw [e2] at ap
    generalize iW (ni (szN fl fr k (t + 1))) = R at *
    generalize T ++ [iW (ni (szN fl fr k t))] = TT at *
    generalize ((t : Int) + 1) = t1 at *
    generalize ((k : Int) - (t : Int)) = t2 at *
    rw [hb2] at c
    by_cases c1 : t1 ∈ fl
    · rw [decide_eq_true c1] at i1
      simp [SZB, SZ1, sIf, sDrop, lft, dOrT, dTst, dBin, dVar, dC, bnd, ret, rdS, a1, i1, toB, dMth, dCons, dNil, lsB, wrS, ap]
    · rw [decide_eq_false c1, Bool.false_or] at c
      rw [decide_eq_false c1] at i1
      rw [c] at i2
      simp [SZB, SZ1, sIf, sDrop, lft, dOrT, dTst, dBin, dVar, dC, bnd, ret, rdS, a1, a2, i1, i2, toB, dMth, dCons, dNil, lsB, wrS, ap]
  · have c : bdr fl fr k t = false := by simpa using c
    obtain ⟨L, x, e⟩ := szN_ne fl fr k t
    have e1 : szN fl fr k (t + 1) = L ++ [x + 1] := by
      show (if bdr fl fr k t = true then _ else incL (szN fl fr k t)) = _
      rw [if_neg (by rw [c]; simp), e, incL_snoc]
    rw [hb2, Bool.or_eq_false_iff] at c
    rw [c.1] at i1
    rw [c.2] at i2
    rw [e1]
    have q1 : iW (ni (L ++ [x])) = iW (ni L) ++ [W.int (x : Int)] := by simp [iW, ni]
    have q2 : iW (ni (L ++ [x + 1])) = iW (ni L) ++ [W.int ((x : Int) + 1)] := by simp [iW, ni]
    rw [e, q1] at e0 st i1 i2 a1 a2 ⊢
    rw [q2]
    obtain ⟨l1, l2⟩ := at_lastW (iW (ni L)) (W.int (x : Int))
    have l3 : (iW (ni L) ++ [W.int (x : Int)]).set (iW (ni L)).length (W.int ((x : Int) + 1)) = iW (ni L) ++ [W.int ((x : Int) + 1)] := by simp
    have go : sAugIx (dVar 4) (dUn fNeg (dC (.int 1))) (dC (.int 1)) [some (.int (k : Int)), some hs, some a, some b, some (.lst T.length), some (.int (t : Int))] (T ++ [iW (ni L) ++ [W.int (x : Int)]]) = .ok (.nx [some (.int (k : Int)), some hs, some a, some b, some (.lst T.length), some (.int (t : Int))]) (T ++ [iW (ni L) ++ [W.int ((x : Int) + 1)]]) := by
      have ng : ∀ ρ S, dUn fNeg (dC (.int 1)) ρ S = .ok (.int (-1)) S := fun _ _ => rfl
      have s4 := st (iW (ni L) ++ [W.int ((x : Int) + 1)])
      generalize iW (ni L) ++ [W.int ((x : Int) + 1)] = R2 at *
      generalize iW (ni L) ++ [W.int (x : Int)] = R1 at *
      generalize (iW (ni L)).length = LL at *
      generalize hTT : T ++ [R1] = TT at *
      simp [sAugIx, lft, dVar, bnd, ret, ng, augGo, e0, l2, augPut, l1, l3, s4, dC]
    generalize iW (ni L) ++ [W.int ((x : Int) + 1)] = R2 at *
    generalize T ++ [iW (ni L) ++ [W.int (x : Int)]] = TT at *
    generalize ((t : Int) + 1) = t1 at *
    generalize ((k : Int) - (t : Int)) = t2 at *
    unfold SZB SZ1
    rw [sIf, lft]
    have tt : dOrT (dTst (dBin fIn (dBin fAdd (dVar 5) (dC (.int 1))) (dVar 2))) (dTst (dBin fIn (dBin fSub (dVar 0) (dVar 5)) (dVar 3))) [some (.int (k : Int)), some hs, some a, some b, some (.lst T.length), some (.int (t : Int))] TT = .ok false TT := by
      simp [dOrT, dTst, dBin, dVar, dC, bnd, ret, rdS, a1, a2, i1, i2, toB]
    rw [tt]
    exact go
theorem sz_loop {T S0 : Store} {hs a b : W} {fl fr : List Int} (ha : Rw a fl) (hb : Rw b fr) (k : Nat) : ∀ (d t : Nat) (x5 : Option W), t + d ≤ 1000 → ∃ y5, forL SZT SZB [] S0 ((List.range' t d).map fun i : Nat => W.int (i : Int)) [some (.int (k : Int)), some hs, some a, some b, some (.lst T.length), x5] (T ++ [iW (ni (szN fl fr k t))]) = .ok (.nx [some (.int (k : Int)), some hs, some a, some b, some (.lst T.length), y5]) (T ++ [iW (ni (szN fl fr k (t + d)))])
  | 0, t, x5, _ => ⟨x5, rfl⟩
  | d + 1, t, x5, h => by
    obtain ⟨y5, ih⟩ := sz_loop (S0 := S0) ha hb k d (t + 1) (some (.int (t : Int))) (by omega)
    refine ⟨y5, ?_⟩
    rw [List.range'_succ, List.map_cons]
    have st : setT (T ++ [iW (ni (szN fl fr k t))]) SZT (W.int (t : Int)) [some (.int (k : Int)), some hs, some a, some b, some (.lst T.length), x5] = some [some (.int (k : Int)), some hs, some a, some b, some (.lst T.length), some (.int (t : Int))] := rfl
    have bd := sz_step (T := T) (hs := hs) ha hb k t (by omega)
    unfold forL
    rw [st]
    simp only [bd, kept_nil, if_true]
    rw [show t + (d + 1) = t + 1 + d by omega]
    exact ih
theorem rg_nat (k : Nat) (hk : k ≤ 1000) (ρ : En) (i : Nat) (h : ρ[i]? = some (some (.int (k : Int)))) : iRg1 (dCons (dVar i) dNil) ρ S = .ok ((List.range' 0 k).map fun i : Nat => W.int (i : Int), []) S := by
  have sz : szB k = true := decide_eq_true (by omega)
  have rm : rgW 0 (k : Int) = (List.range' 0 k).map fun i : Nat => W.int (i : Int) := by simp [rgW, List.range_eq_range']
  have sm : (szB (k : Int).toNat && decide (-1000000000 ≤ (k : Int))) = true := by
    rw [Int.toNat_natCast, sz, decide_eq_true (by omega)]
    rfl
  simp only [iRg1, dCons, dNil, dVar, h, bnd, ret, rdI, sm, rm, if_true]
theorem v_sizes {hs : W} {fl fr : List Int} (hh : Hm hs fl fr) (k : Nat) (hk : k ≤ 1000) : g_stretch_sizes [.int (k : Int), hs] S = .ok (.lst S.length) (S ++ [iW (ni (szN fl fr k k))]) := by
  obtain ⟨a, b, hab, ha, hb⟩ := hh
  have it : itmsS S hs = some [a, b] := by rcases hab with rfl | rfl <;> rfl
  have s1 : SI1 [some (.int (k : Int)), some hs, none, none, none, none] S = .ok (.nx [some (.int (k : Int)), some hs, some a, some b, none, none]) S := by
    simp [SI1, sAsg, lft, dVar, bnd, ret, setT, setTs, it]
  have s2 : SI2 [some (.int (k : Int)), some hs, some a, some b, none, none] S = .ok (.nx [some (.int (k : Int)), some hs, some a, some b, some (.lst S.length), none]) (S ++ [[W.int 1]]) := by
    simp [SI2, sSet, sAsg, setT, lft, dLst, dCons, dNil, dC, mkL, szB, bnd, ret]
  obtain ⟨y5, lp⟩ := sz_loop (T := S) (S0 := S ++ [[W.int 1]]) (hs := hs) ha hb k k 0 none (by omega)
  have s3 : SI3 [some (.int (k : Int)), some hs, some a, some b, some (.lst S.length), none] (S ++ [[W.int 1]]) = .ok (.nx [some (.int (k : Int)), some hs, some a, some b, some (.lst S.length), y5]) (S ++ [iW (ni (szN fl fr k k))]) := by
    show sFor SZI SZT SZB _ _ = _
    rw [sFor, lft, show SZI = iRg1 (dCons (dVar 0) dNil) from rfl, rg_nat k hk _ 0 rfl]
    rw [Nat.zero_add] at lp
    exact lp
  show fnR (d_stretch_sizes [some (.int (k : Int)), some hs, none, none, none, none] S) = _
  rw [SI_is]
  simp [sSeq, s1, s2, s3, SI4, sRet, lft, dVar, bnd, ret, fnR]
/-! ### the products -/
def mxN (l : List Nat) : Nat := l.foldl max 0
theorem mx_gen : ∀ (l : List Nat) (a : Nat), (l.foldl max a = a ∨ l.foldl max a ∈ l) ∧ a ≤ l.foldl max a ∧ ∀ y ∈ l, y ≤ l.foldl max a
  | [], a => ⟨.inl rfl, Nat.le_refl _, fun y hy => absurd hy List.not_mem_nil⟩
  | x :: l, a => by
    obtain ⟨h1, h2, h3⟩ := mx_gen l (max a x)
    rw [List.foldl_cons]
    refine ⟨?_, by omega, fun y hy => ?_⟩
    · rcases h1 with h1 | h1
      · rw [h1]
        by_cases c : a ≤ x
        · exact .inr (by rw [Nat.max_eq_right c]; exact List.mem_cons_self ..)
        · exact .inl (Nat.max_eq_left (by omega))
      · exact .inr (List.mem_cons_of_mem _ h1)
    · rcases List.mem_cons.mp hy with rfl | hy
      · omega
      · exact h3 y hy
theorem mx_is {l : List Nat} (h : l ≠ []) : IsMx (mxN l) l := by
  obtain ⟨h1, h2, h3⟩ := mx_gen l 0
  refine ⟨?_, h3⟩
  rcases h1 with h1 | h1
  · cases l with
    | nil => exact absurd rfl h
    | cons x l =>
      have := h3 x (List.mem_cons_self ..)
      rw [h1] at this
      have : x = 0 := by omega
      show (x :: l).foldl max 0 ∈ _
      rw [h1, ← this]
      exact List.mem_cons_self ..
  · exact h1
theorem max_at {m : Nat} {l : List Nat} (e : S[m]? = some (iW (ni l))) {x : Nat} (h : IsMx x l) : fMaxS S [.lst m] = some (.int (x : Int)) := by
  cases l with
  | nil => exact absurd h.1 List.not_mem_nil
  | cons a l =>
    have i : intsOf S (.lst m) = some (ni (a :: l)) := by
      unfold intsOf
      show (match S[m]? with | some ws => inT ws | none => none) = _
      rw [e]
      exact inT_iW _
    have f := Bal.fold_max (ni l) (a : Int)
    show (match intsOf S (.lst m) with | some (n :: ns) => some (W.int (ns.foldl max n)) | _ => none) = _
    rw [i]
    show some (W.int ((ni l).foldl max (a : Int))) = _
    congr 2
    have h1 : ((x : Nat) : Int) ∈ (a : Int) :: ni l := by
      rcases List.mem_cons.mp h.1 with rfl | h1
      · exact List.mem_cons_self ..
      · exact List.mem_cons_of_mem _ (List.mem_map.mpr ⟨x, h1, rfl⟩)
    refine Int.le_antisymm ?_ (f.2 _ h1)
    have f1 := f.1
    generalize (ni l).foldl max (a : Int) = M at *
    rcases List.mem_cons.mp f1 with e | f1
    · have := h.2 a (List.mem_cons_self ..)
      omega
    · obtain ⟨y, hy, e⟩ := List.mem_map.mp f1
      have := h.2 y (List.mem_cons_of_mem _ hy)
      omega
theorem len_at {m : Nat} {l : List Nat} (e : S[m]? = some (iW (ni l))) : fLen S [.lst m] = some (.int (l.length : Nat)) := by
  simp [fLen, ixW, itmsS, e, ni_len]
theorem cnt_at {m : Nat} {l : List Nat} (e : S[m]? = some (iW (ni l))) : fCount S (.lst m) [.int 1] = some (.int ((cntE l 1 : Nat) : Int), S) := by
  have h : nT (iW (ni l)) = some (ni l) := nT_nW _
  have c : (ni l).count 1 = cntE l 1 := by
    unfold ni cntE
    rw [List.count_eq_countP, List.countP_map]
    refine List.countP_congr fun y _ => ?_
    simp only [Function.comp, beq_iff_eq, decide_eq_true_eq]
    omega
  show cntW S (.lst m) 1 = _
  unfold cntW
  show (match S[m]? with | some ws => (match nT ws with | some ns => some (W.int ((ns.count 1 : Nat) : Int), S) | none => none) | none => none) = _
  rw [e]
  dsimp only
  rw [h]
  dsimp only
  rw [c]
theorem mulI8 {i j : Int} (h1 : 0 ≤ j) (h2 : j ≤ 2000) : fMulI S (.int i) (.int j) = some (.int (i * j)) := by
  have a1 : -(2 ^ 64) < j := Int.lt_of_lt_of_le (by decide) h1
  have a2 : j < 2 ^ 64 := Int.lt_of_le_of_lt h2 (by decide)
  have : mulB i j = true := by
    unfold mulB
    rw [decide_eq_true a1, decide_eq_true a2]
    simp
  simp [fMulI, this]
theorem aug_step {E : DE} {x0 x1 x3 : Option W} {P Q R : Int} {S S2 : Store} (e : E [x0, x1, some (.int P), x3] S = .ok (.int Q) S2) (ml : fMulI S2 (.int P) (.int Q) = some (.int R)) : sAug fMulI 2 E [x0, x1, some (.int P), x3] S = .ok (.nx [x0, x1, some (.int R), x3]) S2 := by
  simp [sAug, lft, bnd, ret, rdS, e, ml]
end

end Den

namespace Den
open PySem PySem.Spec PyProof.Rows L2 Bal
section
variable {S : Store}
theorem prod_loop {S0 : Store} {E : DE} {f : Nat → Nat} {hs : W} {n : Nat} (hf : ∀ t, f t ≤ 2000) (hE : ∀ (t : Nat) (S : Store) (x2 : Option W), t < n → ∃ g, E [some (.int (n : Int)), some hs, x2, some (.int (t : Int))] S = .ok (.int (f t : Int)) (S ++ g)) : ∀ (d t : Nat) (S : Store) (x3 : Option W), t + d ≤ n → ∃ y3 g, forL (.nm 3) (sAug fMulI 2 E) [] S0 ((List.range' t d).map fun i : Nat => W.int (i : Int)) [some (.int (n : Int)), some hs, some (.int (proF f t : Int)), x3] S = .ok (.nx [some (.int (n : Int)), some hs, some (.int (proF f (t + d) : Int)), y3]) (S ++ g) := by
  intro d
  induction d with
  | zero =>
    intro t S x3 _
    exact ⟨x3, [], by rw [List.append_nil]; rfl⟩
  | succ d ihd =>
    intro t S x3 h
    obtain ⟨g, e⟩ := hE t S (some (.int (proF f t : Int))) (by omega)
    obtain ⟨y3, g2, ih⟩ := ihd (t + 1) (S ++ g) (some (.int (t : Int))) (by omega)
    refine ⟨y3, g ++ g2, ?_⟩
    rw [List.range'_succ, List.map_cons]
    have st : setT S (.nm 3) (W.int (t : Int)) [some (.int (n : Int)), some hs, some (.int (proF f t : Int)), x3] = some [some (.int (n : Int)), some hs, some (.int (proF f t : Int)), some (.int (t : Int))] := rfl
    have hft := hf t
    have ml : fMulI (S ++ g) (.int (proF f t : Int)) (.int (f t : Int)) = some (.int (proF f (t + 1) : Int)) := by
      rw [mulI8 (by omega) (by omega)]
      show some (W.int ((proF f t : Int) * (f t : Int))) = some (W.int ((proF f t * f t : Nat) : Int))
      rw [Int.natCast_mul]
    have bd : sAug fMulI 2 E [some (.int (n : Int)), some hs, some (.int (proF f t : Int)), some (.int (t : Int))] S = .ok (.nx [some (.int (n : Int)), some hs, some (.int (proF f (t + 1) : Int)), some (.int (t : Int))]) (S ++ g) := aug_step e ml
    unfold forL
    rw [st]
    simp only [bd, kept_nil, if_true]
    rw [show t + (d + 1) = t + 1 + d by omega, ← List.append_assoc]
    exact ih
theorem v_manyN {hs : W} {fl fr : List Int} (hh : Hm hs fl fr) (n : Nat) (hn : n ≤ 1000) : ∃ g, g_views_many [.int (n : Int), hs] S = .ok (.int (proF (fun k => (szN fl fr k k).length) n : Int)) (S ++ g) := by
  have s1 : VM1 [some (.int (n : Int)), some hs, none, none] S = .ok (.nx [some (.int (n : Int)), some hs, some (.int 1), none]) S := rfl
  obtain ⟨y3, g, lp⟩ := prod_loop (S0 := S) (E := dCallN fLen (dCons (dCall 2 g_stretch_sizes (dCons (dVar 3) (dCons (dVar 1) dNil))) dNil)) (f := fun k => min (szN fl fr k k).length 2000) (hs := hs) (n := n) (fun t => Nat.min_le_right _ _) (fun t S x2 ht => by
    have v := v_sizes (S := S) hh t (by omega)
    have l := len_at (S := S ++ [iW (ni (szN fl fr t t))]) (m := S.length) (l := szN fl fr t t) (by simp)
    have sl := szN_len fl fr t t
    refine ⟨[iW (ni (szN fl fr t t))], ?_⟩
    rw [Nat.min_eq_left (by omega)]
    generalize ((szN fl fr t t).length : Int) = LL at *
    generalize iW (ni (szN fl fr t t)) = R at *
    simp [dCallN, dCall, dCons, dNil, dVar, bnd, ret, rdS, v, l]) n 0 S none (by omega)
  have ef : ∀ m, m ≤ n → proF (fun k => min (szN fl fr k k).length 2000) m = proF (fun k => (szN fl fr k k).length) m := fun m => by
    induction m with
    | zero => exact fun _ => rfl
    | succ m ih =>
      intro hm
      have sl := szN_len fl fr m m
      show proF _ m * min _ 2000 = proF _ m * _
      rw [ih (by omega), Nat.min_eq_left (by omega)]
  rw [Nat.zero_add, ef n (Nat.le_refl _)] at lp
  refine ⟨g, ?_⟩
  have s2 : VM2 [some (.int (n : Int)), some hs, some (.int 1), none] S = .ok (.nx [some (.int (n : Int)), some hs, some (.int (proF (fun k => (szN fl fr k k).length) n : Int)), y3]) (S ++ g) := by
    unfold VM2
    rw [sFor, lft, rg_nat n hn _ 0 rfl]
    exact lp
  show fnR (d_views_many [some (.int (n : Int)), some hs, none, none] S) = _
  rw [VM_is]
  simp [sSeq, s1, s2, VM3, sRet, lft, dVar, bnd, ret, fnR]
theorem v_oneN {hs : W} {fl fr : List Int} (hh : Hm hs fl fr) (n : Nat) (hn : n ≤ 1000) : ∃ g, g_known_rows [.int (n : Int), hs] S = .ok (.int (proF (fun k => cntE (szN fl fr k k) 1) n : Int)) (S ++ g) := by
  have s1 : KR1 [some (.int (n : Int)), some hs, none, none] S = .ok (.nx [some (.int (n : Int)), some hs, some (.int 1), none]) S := rfl
  have cl : ∀ t, cntE (szN fl fr t t) 1 ≤ t + 1 := fun t => Nat.le_trans List.countP_le_length (szN_len fl fr t t)
  obtain ⟨y3, g, lp⟩ := prod_loop (S0 := S) (E := dMth fCount (dCall 2 g_stretch_sizes (dCons (dVar 3) (dCons (dVar 1) dNil))) (dCons (dC (.int 1)) dNil)) (f := fun k => min (cntE (szN fl fr k k) 1) 2000) (hs := hs) (n := n) (fun t => Nat.min_le_right _ _) (fun t S x2 ht => by
    have v := v_sizes (S := S) hh t (by omega)
    have l := cnt_at (S := S ++ [iW (ni (szN fl fr t t))]) (m := S.length) (l := szN fl fr t t) (by simp)
    have sl := cl t
    refine ⟨[iW (ni (szN fl fr t t))], ?_⟩
    rw [Nat.min_eq_left (by omega)]
    generalize ((cntE (szN fl fr t t) 1 : Nat) : Int) = LL at *
    generalize iW (ni (szN fl fr t t)) = R at *
    simp [dMth, dCall, dCons, dNil, dVar, dC, bnd, ret, rdS, v, lsB, wrS, l]) n 0 S none (by omega)
  have ef : ∀ m, m ≤ n → proF (fun k => min (cntE (szN fl fr k k) 1) 2000) m = proF (fun k => cntE (szN fl fr k k) 1) m := fun m => by
    induction m with
    | zero => exact fun _ => rfl
    | succ m ih =>
      intro hm
      have sl := cl m
      show proF _ m * min _ 2000 = proF _ m * _
      rw [ih (by omega), Nat.min_eq_left (by omega)]
  rw [Nat.zero_add, ef n (Nat.le_refl _)] at lp
  refine ⟨g, ?_⟩
  have s2 : KR2 [some (.int (n : Int)), some hs, some (.int 1), none] S = .ok (.nx [some (.int (n : Int)), some hs, some (.int (proF (fun k => cntE (szN fl fr k k) 1) n : Int)), y3]) (S ++ g) := by
    unfold KR2
    rw [sFor, lft, rg_nat n hn _ 0 rfl]
    exact lp
  show fnR (d_known_rows [some (.int (n : Int)), some hs, none, none] S) = _
  rw [KR_is]
  simp [sSeq, s1, s2, KR3, sRet, lft, dVar, bnd, ret, fnR]
theorem sz_sum (fl fr : List Int) (k : Nat) : ∀ t, ∀ y ∈ szN fl fr k t, y ≤ t + 1
  | 0, y, hy => by rw [List.mem_singleton.mp hy]; exact Nat.le_refl _
  | t + 1, y, hy => by
    have ih := sz_sum fl fr k t
    obtain ⟨L, x, e⟩ := szN_ne fl fr k t
    have hy : y ∈ (if bdr fl fr k t = true then szN fl fr k t ++ [1] else incL (szN fl fr k t)) := hy
    by_cases c : bdr fl fr k t = true
    · rw [if_pos c] at hy
      rcases List.mem_append.mp hy with hy | hy
      · have := ih y hy; omega
      · rw [List.mem_singleton.mp hy]; omega
    · rw [if_neg c, e, incL_snoc] at hy
      rw [e] at ih
      rcases List.mem_append.mp hy with hy | hy
      · have := ih y (List.mem_append_left _ hy); omega
      · have := ih x (by simp)
        rw [List.mem_singleton.mp hy]
        omega
theorem sz_mx (fl fr : List Int) (k t : Nat) : IsMx (mxN (szN fl fr k t)) (szN fl fr k t) := mx_is (by
  obtain ⟨L, x, e⟩ := szN_ne fl fr k t
  rw [e]
  simp)
theorem v_mostN {hs : W} {fl fr : List Int} (hh : Hm hs fl fr) (n : Nat) (hn : n ≤ 1000) : ∃ g, g_most_rows [.int (n : Int), hs] S = .ok (.int (proF (fun k => mxN (szN fl fr k k)) n : Int)) (S ++ g) := by
  have s1 : MR1 [some (.int (n : Int)), some hs, none, none] S = .ok (.nx [some (.int (n : Int)), some hs, some (.int 1), none]) S := rfl
  have cl : ∀ t, mxN (szN fl fr t t) ≤ t + 1 := fun t => sz_sum fl fr t t _ (sz_mx fl fr t t).1
  obtain ⟨y3, g, lp⟩ := prod_loop (S0 := S) (E := dCallN fMaxS (dCons (dCall 2 g_stretch_sizes (dCons (dVar 3) (dCons (dVar 1) dNil))) dNil)) (f := fun k => min (mxN (szN fl fr k k)) 2000) (hs := hs) (n := n) (fun t => Nat.min_le_right _ _) (fun t S x2 ht => by
    have v := v_sizes (S := S) hh t (by omega)
    have l := max_at (S := S ++ [iW (ni (szN fl fr t t))]) (m := S.length) (l := szN fl fr t t) (by simp) (sz_mx fl fr t t)
    have sl := cl t
    refine ⟨[iW (ni (szN fl fr t t))], ?_⟩
    rw [Nat.min_eq_left (by omega)]
    generalize ((mxN (szN fl fr t t) : Nat) : Int) = LL at *
    generalize iW (ni (szN fl fr t t)) = R at *
    simp [dCallN, dCall, dCons, dNil, dVar, bnd, ret, rdS, v, l]) n 0 S none (by omega)
  have ef : ∀ m, m ≤ n → proF (fun k => min (mxN (szN fl fr k k)) 2000) m = proF (fun k => mxN (szN fl fr k k)) m := fun m => by
    induction m with
    | zero => exact fun _ => rfl
    | succ m ih =>
      intro hm
      have sl := cl m
      show proF _ m * min _ 2000 = proF _ m * _
      rw [ih (by omega), Nat.min_eq_left (by omega)]
  rw [Nat.zero_add, ef n (Nat.le_refl _)] at lp
  refine ⟨g, ?_⟩
  have s2 : MR2 [some (.int (n : Int)), some hs, some (.int 1), none] S = .ok (.nx [some (.int (n : Int)), some hs, some (.int (proF (fun k => mxN (szN fl fr k k)) n : Int)), y3]) (S ++ g) := by
    unfold MR2
    rw [sFor, lft, rg_nat n hn _ 0 rfl]
    exact lp
  show fnR (d_most_rows [some (.int (n : Int)), some hs, none, none] S) = _
  rw [MR_is]
  simp [sSeq, s1, s2, MR3, sRet, lft, dVar, bnd, ret, fnR]
end

end Den

namespace Den
open PySem PySem.Spec PyProof.Rows L2 Bal
section
abbrev LRI : DI := (iSeq (dCall 1 g_law_every (dCons (dLc .cl [5] (iRg1 (dCons (dVar 1) dNil)) (.nm 5) dYes (dTup (dCons (dBin fSub (dC (.int 0)) (dVar 5)) (dCons (dC (.int 0)) (dCons (dVar 5) dNil))))) dNil)))
abbrev LRT : Tg := (.nm 4)
abbrev LR1 : DS := (sSet 6 (dCall 2 g_law_sees (dCons (dVar 4) (dCons (dVar 3) dNil))))
abbrev LR2 : DS := (sAsgM (gPutT (dVar 2) (dVar 6)) (dBin fAdd (dTGet2 (dVar 2) (dVar 6) (dC (.int 0))) (dC (.int 1))))
abbrev LRB : DS := (sSeq LR1 LR2)
abbrev RT1 : DS := (sAsg (.tp [(.nm 1), (.nm 2)]) (dTup (dCons (dBin fAdd (dC (.int 1)) (dCall 2 (g_law_take 6) (dCons (dVar 0) (dCons (dC (.int 5)) dNil)))) (dCons dTNew0 dNil))))
abbrev RT2 : DS := (sSet 3 (dCall 2 g_law_homes (dCons (dVar 0) (dCons (dC (.int 6)) dNil))))
abbrev RT3 : DS := (sFor (iSeq (dCall 1 g_law_every (dCons (dLc .cl [5] (iRg1 (dCons (dVar 1) dNil)) (.nm 5) dYes (dTup (dCons (dBin fSub (dC (.int 0)) (dVar 5)) (dCons (dC (.int 0)) (dCons (dVar 5) dNil))))) dNil))) (.nm 4) (sSeq (sSet 6 (dCall 2 g_law_sees (dCons (dVar 4) (dCons (dVar 3) dNil)))) (sAsgM (gPutT (dVar 2) (dVar 6)) (dBin fAdd (dTGet2 (dVar 2) (dVar 6) (dC (.int 0))) (dC (.int 1))))))
abbrev RT4 : DS := (sLock 2 (sSet 7 (dLc .st [6] (iKeysV (dVar 2)) (.nm 6) dYes (dBin fTGet (dVar 2) (dVar 6)))))
abbrev RT5 : DS := (sSet 8 (dCl (dCons (dCallN fLen (dCons (dVar 7) dNil)) (dCons (dCallN fMaxS (dCons (dVar 7) dNil)) (dCons (dMth fCount (dVar 7) (dCons (dC (.int 1)) dNil)) dNil)))))
abbrev RT6 : DS := (sSet 9 (dCl (dCons (dCall 2 g_views_many (dCons (dVar 1) (dCons (dVar 3) dNil))) (dCons (dCall 2 g_most_rows (dCons (dVar 1) (dCons (dVar 3) dNil))) (dCons (dCall 2 g_known_rows (dCons (dVar 1) (dCons (dVar 3) dNil))) dNil)))))
abbrev RT7 : DS := (sSet 10 (dCall 1 (g_law_lists 6) (dCons (dVar 3) dNil)))
abbrev RT8 : DS := (sSet 9 (dBin fAdd (dVar 9) (dCl (dCons (dCallK 2 2 [1, 0] g_views_many (dCons (dVar 10) (dCons (dVar 1) dNil))) (dCons (dCallK 2 2 [1, 0] g_most_rows (dCons (dVar 10) (dCons (dVar 1) dNil))) dNil)))))
abbrev RT9 : DS := (sRet (dCall 2 (g_law_same 16) (dCons (dBin fAdd (dVar 9) (dCl (dCons (dCallK 2 2 [1, 0] g_known_rows (dCons (dVar 10) (dCons (dVar 1) dNil))) dNil))) (dCons (dBin fAdd (dVar 8) (dVar 8)) dNil))))
theorem RT_is : d_law_right = (sSeq RT1 (sSeq RT2 (sSeq RT3 (sSeq RT4 (sSeq RT5 (sSeq RT6 (sSeq RT7 (sSeq RT8 RT9)))))))) := rfl
end

section
variable {S : Store}
def tlW (T : List (TKy × Nat)) : List W := T.map fun p => W.tup [tkW p.1, .int (p.2 : Int)]
theorem dget_tl (k : TKy) : ∀ T : List (TKy × Nat), dgetW (tlW T) (tkW k) = (getN T k).map fun c : Nat => W.int (c : Int)
  | [] => rfl
  | p :: T => by
    have ih := dget_tl k T
    show (if eqW (tkW p.1) (tkW k) = true then some (W.int (p.2 : Int)) else dgetW (tlW T) (tkW k)) = _
    unfold getN at ih ⊢
    rw [List.find?_cons]
    by_cases e : p.1 = k
    · rw [if_pos (tkW_eq.mpr e), decide_eq_true e]
      rfl
    · rw [if_neg (fun z => e (tkW_eq.mp z)), decide_eq_false e, ih]
theorem dput_tl (k : TKy) (T : List (TKy × Nat)) : dputW (tlW T) (tkW k) (.int (((getN T k).getD 0 + 1 : Nat) : Int)) = tlW (bump T k) := by
  unfold dputW bump
  rw [dget_tl, Option.isSome_map]
  by_cases c : (getN T k).isSome = true
  · rw [if_pos c, if_pos c]
    unfold tlW
    rw [List.map_map, List.map_map]
    refine List.map_congr_left fun p _ => ?_
    show (if eqW (tkW p.1) (tkW k) = true then W.tup [tkW p.1, .int (((getN T k).getD 0 + 1 : Nat) : Int)] else W.tup [tkW p.1, .int (p.2 : Int)]) = W.tup [tkW (if p.1 = k then (p.1, (getN T k).getD 0 + 1) else p).1, .int ((if p.1 = k then (p.1, (getN T k).getD 0 + 1) else p).2 : Int)]
    by_cases e : p.1 = k
    · rw [if_pos (tkW_eq.mpr e), if_pos e]
    · rw [if_neg (fun z => e (tkW_eq.mp z)), if_neg e]
  · rw [if_neg c, if_neg c]
    unfold tlW
    rw [List.map_append]
    rfl
theorem fz_tl (T : List (TKy × Nat)) : fzB (tlW T) = false := by
  cases T <;> rfl
theorem bump_len (T : List (TKy × Nat)) (k : TKy) : (bump T k).length ≤ T.length + 1 := by
  unfold bump
  split
  · rw [List.length_map]; omega
  · simp
theorem views_tk (fl fr r : List Int) : W.tup [wing r fl, wing r.reverse fr] = tkW (keyV fl fr r) := by
  simp [tkW, tkS, tkI, keyV, wing, iW]
theorem lr_step {A g : Store} {x0 x1 x5 x6 x7 x8 x9 x10 : Option W} {fl fr r : List Int} {T : List (TKy × Nat)} (h1 : fl.length ≤ 500) (h2 : fr.length ≤ 500) (hT : T.length ≤ 10000) : ∃ g', LRB [x0, x1, some (.dtt A.length), some (homes fl fr), some (rW r), x5, x6, x7, x8, x9, x10] (A ++ [tlW T] ++ g) = .ok (.nx [x0, x1, some (.dtt A.length), some (homes fl fr), some (rW r), x5, some (tkW (keyV fl fr r)), x7, x8, x9, x10]) (A ++ [tlW (bump T (keyV fl fr r))] ++ g') := by
  obtain ⟨g2, v⟩ := v_sees (S := A ++ [tlW T] ++ g) (r := r) h1 h2
  refine ⟨g ++ g2, ?_⟩
  rw [views_tk, List.append_assoc (A ++ [tlW T]) g g2] at v
  have v : g_law_sees [rW r, homes fl fr] (A ++ [tlW T] ++ g) = .ok (tkW (keyV fl fr r)) (A ++ [tlW T] ++ (g ++ g2)) := v
  have kt := keyT_tk (keyV fl fr r)
  generalize keyV fl fr r = K at *
  have at0 : (A ++ [tlW T] ++ (g ++ g2))[A.length]? = some (tlW T) := by simp
  have st0 : (A ++ [tlW T] ++ (g ++ g2)).set A.length (tlW (bump T K)) = A ++ [tlW (bump T K)] ++ (g ++ g2) := by
    rw [List.append_assoc, List.append_assoc]
    simp
  have gt : getT2 A.length (tkW K) (.int 0) (A ++ [tlW T] ++ (g ++ g2)) = .ok (.int (((getN T K).getD 0 : Nat) : Int)) (A ++ [tlW T] ++ (g ++ g2)) := by
    unfold getT2
    rw [kt, at0]
    dsimp only
    rw [dget_tl]
    cases getN T K <;> rfl
  have ad : fAdd (A ++ [tlW T] ++ (g ++ g2)) (.int (((getN T K).getD 0 : Nat) : Int)) (.int 1) = some (.int (((getN T K).getD 0 + 1 : Nat) : Int)) := rfl
  have pt : putT (.dtt A.length) (tkW K) (.int (((getN T K).getD 0 + 1 : Nat) : Int)) (A ++ [tlW T] ++ (g ++ g2)) = .ok () (A ++ [tlW (bump T K)] ++ (g ++ g2)) := by
    unfold putT
    dsimp only
    rw [kt, at0]
    dsimp only
    have z : (szB ((tlW T).length + 1 + ((tlW T).length + 1)) && !fzB (tlW T)) = true := by
      rw [fz_tl, show szB ((tlW T).length + 1 + ((tlW T).length + 1)) = true from decide_eq_true (by unfold tlW; rw [List.length_map]; omega)]
      rfl
    rw [if_pos z, dput_tl, st0]
  generalize (((getN T K).getD 0 + 1 : Nat) : Int) = c1 at *
  generalize (((getN T K).getD 0 : Nat) : Int) = c0 at *
  generalize A ++ [tlW (bump T K)] ++ (g ++ g2) = S3 at *
  generalize A ++ [tlW T] ++ (g ++ g2) = S2 at *
  generalize A ++ [tlW T] ++ g = S1 at *
  generalize tkW K = KW at *
  generalize homes fl fr = H at *
  generalize A.length = n at *
  simp [LRB, LR1, LR2, sSeq, sSet, sAsg, setT, lft, dCall, dCons, dNil, dVar, bnd, ret, v, sAsgM, gPutT, dBin, dTGet2, dC, rdS, gt, ad, pt]
theorem lr_loop {A S0 : Store} {x0 x1 x5 x7 x8 x9 x10 : Option W} {fl fr : List Int} (h1 : fl.length ≤ 500) (h2 : fr.length ≤ 500) (rs : List (List Int)) : ∀ (T : List (TKy × Nat)) (g : Store) (x4 x6 : Option W), T.length + rs.length ≤ 10000 → ∃ g' y4 y6, forL LRT LRB [] S0 (rs.map rW) [x0, x1, some (.dtt A.length), some (homes fl fr), x4, x5, x6, x7, x8, x9, x10] (A ++ [tlW T] ++ g) = .ok (.nx [x0, x1, some (.dtt A.length), some (homes fl fr), y4, x5, y6, x7, x8, x9, x10]) (A ++ [tlW ((rs.map (keyV fl fr)).foldl bump T)] ++ g') := by
  induction rs with
  | nil => exact fun T g x4 x6 _ => ⟨g, x4, x6, rfl⟩
  | cons r rs ih =>
    intro T g x4 x6 h
    rw [List.length_cons] at h
    obtain ⟨g1, bd⟩ := lr_step (A := A) (g := g) (x0 := x0) (x1 := x1) (x5 := x5) (x6 := x6) (x7 := x7) (x8 := x8) (x9 := x9) (x10 := x10) (r := r) (T := T) h1 h2 (by omega)
    have bl := bump_len T (keyV fl fr r)
    obtain ⟨g2, y4, y6, e⟩ := ih (bump T (keyV fl fr r)) g1 (some (rW r)) (some (tkW (keyV fl fr r))) (by omega)
    refine ⟨g2, y4, y6, ?_⟩
    rw [List.map_cons, List.map_cons, List.foldl_cons]
    have st : ∀ S : Store, setT S LRT (rW r) [x0, x1, some (.dtt A.length), some (homes fl fr), x4, x5, x6, x7, x8, x9, x10] = some [x0, x1, some (.dtt A.length), some (homes fl fr), some (rW r), x5, x6, x7, x8, x9, x10] := fun _ => rfl
    unfold forL
    rw [st]
    simp only [bd, kept_nil, if_true]
    exact e
/-- the counts, told by the keys of the dict -/
theorem cnt_lc {n : Nat} {T : List (TKy × Nat)} {S0 : Store} (e : S[n]? = some (mkW :: tlW T)) {ρ : En} (h2 : ρ[2]? = some (some (.dtt n))) (h6 : 6 < ρ.length) : ∀ ps : List (TKy × Nat), (∀ p ∈ ps, getN T p.1 = some p.2) → lcL (.nm 6) dYes (dBin fTGet (dVar 2) (dVar 6)) ρ S0 [] (ps.map fun p => tkW p.1) S = .ok (ps.map fun p => W.int (p.2 : Int)) S
  | [], _ => rfl
  | p :: ps, h => by
    have ih := cnt_lc (S0 := S0) e h2 h6 ps fun q hq => h q (List.mem_cons_of_mem _ hq)
    have st : setT S (.nm 6) (tkW p.1) ρ = some (ρ.set 6 (some (tkW p.1))) := by simp [setT, h6]
    have g6 : (ρ.set 6 (some (tkW p.1)))[6]? = some (some (tkW p.1)) := List.getElem?_set_self h6
    have g2 : (ρ.set 6 (some (tkW p.1)))[2]? = some (some (.dtt n)) := by rw [List.getElem?_set_ne (by decide)]; exact h2
    have gt : fTGet S (.dtt n) (tkW p.1) = some (.int (p.2 : Int)) := by
      unfold fTGet
      dsimp only
      rw [keyT_tk, e]
      dsimp only
      show dgetW (tlW T) (tkW p.1) = _
      rw [dget_tl, h p (List.mem_cons_self ..)]
      rfl
    have de : dBin fTGet (dVar 2) (dVar 6) (ρ.set 6 (some (tkW p.1))) S = .ok (.int (p.2 : Int)) S := by
      generalize tkW p.1 = KW at *
      simp [dBin, dVar, g2, g6, bnd, ret, rdS, gt]
    rw [List.map_cons, List.map_cons]
    unfold lcL
    rw [st]
    simp only [show ∀ ρ S, dYes ρ S = .ok true S from fun _ _ => rfl, de, kept_nil, if_true, ih]
theorem tal_get (ks : List TKy) : ∀ p ∈ tal ks, getN (tal ks) p.1 = some p.2 := by
  intro p hp
  rw [tal_is] at hp ⊢
  obtain ⟨x, hx, rfl⟩ := List.mem_map.mp hp
  rw [getN_map, if_pos hx]
end

end Den

namespace Den
open PySem PySem.Spec PyProof.Rows L2 Bal
section
theorem set_same8 {S : Store} {m : Nat} {x : List W} (e : S[m]? = some x) : S.set m x = S := by
  apply List.ext_getElem?
  intro j
  by_cases hj : m = j
  · subst hj; rw [List.getElem?_set_self (get_lt e), e]
  · rw [List.getElem?_set_ne hj]
theorem lock_counts {S : Store} {m : Nat} {T : List (TKy × Nat)} (hT : ∀ p ∈ T, getN T p.1 = some p.2) (e : S[m]? = some (tlW T)) {x0 x1 x3 x4 x5 x6 x7 x8 x9 x10 : Option W} : RT4 [x0, x1, some (.dtt m), x3, x4, x5, x6, x7, x8, x9, x10] S = .ok (.nx [x0, x1, some (.dtt m), x3, x4, x5, x6, some (.lst S.length), x8, x9, x10]) (S ++ [T.map fun p => W.int (p.2 : Int)]) := by
  have hm := get_lt e
  have e2 : (S.set m (mkW :: tlW T))[m]? = some (mkW :: tlW T) := List.getElem?_set_self hm
  have cl := cnt_lc (S := S.set m (mkW :: tlW T)) (n := m) (T := T) (S0 := S.set m (mkW :: tlW T)) e2 (ρ := [x0, x1, some (.dtt m), x3, x4, x5, none, x7, x8, x9, x10]) rfl (by simp) T hT
  have kv : keysV (S.set m (mkW :: tlW T)) (.dtt m) = some (T.map fun p => tkW p.1, []) := by
    unfold keysV
    dsimp only
    rw [e2]
    show some ((tlW T).map fstW, ([] : List Nat)) = _
    unfold tlW
    rw [List.map_map]
    rfl
  have lS : (S.set m (mkW :: tlW T)).length = S.length := by simp
  have b1 : (S.set m (mkW :: tlW T) ++ [T.map fun p => W.int (p.2 : Int)])[m]? = some (mkW :: tlW T) := get_app e2
  have b2 : (S.set m (mkW :: tlW T) ++ [T.map fun p => W.int (p.2 : Int)]).set m (tlW T) = S ++ [T.map fun p => W.int (p.2 : Int)] := by
    rw [List.set_append_left _ _ (by simpa using hm), List.set_set, set_same8 e]
  have inner : sSet 7 (dLc .st [6] (iKeysV (dVar 2)) (.nm 6) dYes (dBin fTGet (dVar 2) (dVar 6))) [x0, x1, some (.dtt m), x3, x4, x5, x6, x7, x8, x9, x10] (S.set m (mkW :: tlW T)) = .ok (.nx [x0, x1, some (.dtt m), x3, x4, x5, x6, some (.lst S.length), x8, x9, x10]) (S.set m (mkW :: tlW T) ++ [T.map fun p => W.int (p.2 : Int)]) := by
    have wp : wipeW [x0, x1, some (.dtt m), x3, x4, x5, x6, x7, x8, x9, x10] [6] = [x0, x1, some (.dtt m), x3, x4, x5, none, x7, x8, x9, x10] := rfl
    rw [← lS]
    generalize (T.map fun p => W.int (p.2 : Int)) = CW at *
    generalize (T.map fun p => tkW p.1) = KW at *
    generalize (dBin fTGet (dVar 2) (dVar 6) : DE) = D at *
    generalize S.set m (mkW :: tlW T) = S2 at *
    simp [sSet, sAsg, setT, lft, dLc, iKeysV, dVar, bnd, ret, rdI, kv, wp, cl, newK]
  show sLock 2 _ _ _ = _
  unfold sLock
  rw [show dcN [x0, x1, some (.dtt m), x3, x4, x5, x6, x7, x8, x9, x10][2]? = some m from rfl]
  dsimp only
  rw [e]
  dsimp only
  rw [if_pos (fz_tl T), inner]
  dsimp only
  unfold unS
  dsimp only
  rw [b1]
  dsimp only
  rw [b2]
end

end Den

namespace Den
open PySem PySem.Spec PyProof.Rows L2 Bal

section
variable {S : Store}
theorem prod_fbx (N : Nat) (h : N ≤ 5) : prodN (fbx N) ≤ 1000 := by
  have : ∀ m : Fin 6, prodN (fbx m.1) ≤ 1000 := by decide +kernel
  exact this ⟨N, by omega⟩
theorem box_lc {ρ : En} (h5 : 5 < ρ.length) : ∀ ks : List Nat, lcL (.nm 5) dYes (dTup (dCons (dBin fSub (dC (.int 0)) (dVar 5)) (dCons (dC (.int 0)) (dCons (dVar 5) dNil)))) ρ S [] (ks.map fun k : Nat => W.int (k : Int)) S = .ok (ks.map fun k : Nat => bP true (-(k : Int), 0, (k : Int))) S
  | [] => rfl
  | k :: ks => by
    have ih := box_lc h5 ks
    have st : setT S (.nm 5) (W.int (k : Int)) ρ = some (ρ.set 5 (some (.int (k : Int)))) := by simp [setT, h5]
    have g5 : (ρ.set 5 (some (W.int (k : Int))))[5]? = some (some (.int (k : Int))) := List.getElem?_set_self h5
    have sb : fSub S (.int 0) (.int (k : Int)) = some (.int (-(k : Int))) := by
      show some (W.int (0 - (k : Int))) = _
      rw [Int.zero_sub]
    have de : dTup (dCons (dBin fSub (dC (.int 0)) (dVar 5)) (dCons (dC (.int 0)) (dCons (dVar 5) dNil))) (ρ.set 5 (some (.int (k : Int)))) S = .ok (bP true (-(k : Int), 0, (k : Int))) S := by
      show _ = Out.ok (W.tup [.int (-(k : Int)), .int 0, .int (k : Int)]) S
      generalize -(k : Int) = mk at *
      generalize (k : Int) = kk at *
      simp [dTup, dCons, dNil, dBin, dVar, g5, dC, bnd, ret, rdS, sb, mkT, szB]
    rw [List.map_cons, List.map_cons]
    unfold lcL
    rw [st]
    simp only [show ∀ ρ S, dYes ρ S = .ok true S from fun _ _ => rfl, de, kept_nil, if_true, ih]
theorem v_right {n : Nat} {c : Int} {p : List W} (e : S[n]? = some p) (hp : PotL p c) (hc : c ≤ 900000) : ∃ S', g_law_right [.lst n] S = .ok (.bl true) S' := by
  have hn := get_lt e
  obtain ⟨a, S1, t1, a0, a1, f1⟩ := v_takeA (b := 5) e hp (by omega) (by omega) (by omega)
  obtain ⟨p1, e1, hp1⟩ := f1.pot hn
  have hn1 := f1.len hn
  obtain ⟨k, rfl⟩ : ∃ k : Nat, a = (k : Int) := Int.eq_ofNat_of_zero_le a0
  obtain ⟨fl, fr, S2, t2, hF, hG, f2⟩ := v_homes (S := S1 ++ [[]]) (m := 6) (get_app e1) hp1 (by omega) (by omega) (by omega)
  obtain ⟨p2, g2, eS2, hp2⟩ := f2
  have eS2 : S2 = S1.set n p2 ++ [tlW []] ++ g2 := by
    rw [eS2, List.set_append_left _ _ hn1]
    rfl
  have lA : (S1.set n p2).length = S1.length := by simp
  have l1 := hF.2.2
  have l2 := hG.2.2
  obtain ⟨N, hN⟩ : ∃ N : Nat, N = 1 + k := ⟨_, rfl⟩
  have hN5 : N ≤ 5 := by omega
  -- the box and its rows
  have bx : dLc .cl [5] (iRg1 (dCons (dVar 1) dNil)) (.nm 5) dYes (dTup (dCons (dBin fSub (dC (.int 0)) (dVar 5)) (dCons (dC (.int 0)) (dCons (dVar 5) dNil)))) [some (.lst n), some (.int (N : Int)), some (.dtt S1.length), some (homes fl fr), none, none, none, none, none, none, none] S2 = .ok (.cl (bW true (fbx N))) S2 := by
    have lc := box_lc (S := S2) (ρ := [some (.lst n), some (.int (N : Int)), some (.dtt S1.length), some (homes fl fr), none, none, none, none, none, none, none]) (by simp) (List.range' 0 N)
    have rg := rg_nat (S := S2) N (by omega) [some (.lst n), some (.int (N : Int)), some (.dtt S1.length), some (homes fl fr), none, none, none, none, none, none, none] 1 rfl
    have eb : ((List.range' 0 N).map fun k : Nat => bP true (-(k : Int), 0, (k : Int))) = bW true (fbx N) := by
      unfold bW fbx
      rw [List.map_map, List.range_eq_range']
      rfl
    rw [eb] at lc
    have wp : wipeW [some (.lst n), some (.int (N : Int)), some (.dtt S1.length), some (homes fl fr), none, none, none, none, none, none, none] [5] = [some (.lst n), some (.int (N : Int)), some (.dtt S1.length), some (homes fl fr), none, none, none, none, none, none, none] := rfl
    generalize (dTup (dCons (dBin fSub (dC (.int 0)) (dVar 5)) (dCons (dC (.int 0)) (dCons (dVar 5) dNil))) : DE) = D at *
    generalize (iRg1 (dCons (dVar 1) dNil) : DI) = J at *
    generalize bW true (fbx N) = BW at *
    generalize (List.range' 0 N).map (fun i : Nat => W.int (i : Int)) = RG at *
    simp [dLc, bnd, rg, wp, lc, newK]
  obtain ⟨J, ev⟩ := v_everyG (S := S2) (k := true) (box := .cl (bW true (fbx N))) (fbx N) (fun _ => rfl) (okB_fbx N) (by rw [len_fbx]; omega) (prod_fbx N hN5)
  have ll : (linesN (fbx N)).length ≤ 1000 := by rw [lines_len]; exact prod_fbx N hN5
  obtain ⟨g3, y4, y6, lp⟩ := lr_loop (A := S1.set n p2) (S0 := S1.set n p2 ++ [tlW []] ++ (g2 ++ J)) (x0 := some (.lst n)) (x1 := some (.int (N : Int))) (x5 := none) (x7 := none) (x8 := none) (x9 := none) (x10 := none) (fl := fl) (fr := fr) (by omega) (by omega) (linesN (fbx N)) [] (g2 ++ J) none none (by simp; omega)
  rw [lA] at lp
  obtain ⟨ks, hks⟩ : ∃ ks, ks = (linesN (fbx N)).map (keyV fl fr) := ⟨_, rfl⟩
  have hT : ((linesN (fbx N)).map (keyV fl fr)).foldl bump [] = tal ks := by rw [hks]; rfl
  rw [hT] at lp
  have hz : szs ks = szs (vecs fl fr N) := by rw [hks]; exact szs_key fl fr N
  have hts : (tal ks).map (fun p => W.int (p.2 : Int)) = iW (ni (szs (vecs fl fr N))) := by
    rw [← hz, ← tal_snd]
    simp [iW, ni]

  obtain ⟨Z, hZ⟩ : ∃ Z, Z = szs (vecs fl fr N) := ⟨_, rfl⟩
  rw [← hZ] at hts
  have m1 : IsMx (proF (fun k => mxN (szN fl fr k k)) N) Z := by rw [hZ]; exact vecs_max fl fr (fun k => sz_mx fl fr k k) N
  have m2 : Z.length = proF (fun k => (szN fl fr k k).length) N := by rw [hZ]; exact vecs_len fl fr N
  have m3 : cntE Z 1 = proF (fun k => cntE (szN fl fr k k) 1) N := by rw [hZ]; exact vecs_one fl fr N
  -- behind the loop
  obtain ⟨S3, hS3⟩ : ∃ S3, S3 = S1.set n p2 ++ [tlW (tal ks)] ++ g3 := ⟨_, rfl⟩
  have at3 : S3[S1.length]? = some (tlW (tal ks)) := by rw [hS3, ← lA]; simp
  have hl3 : S1.length < S3.length := get_lt at3
  have s4 := lock_counts (tal_get ks) at3 (x0 := some (.lst n)) (x1 := some (.int (N : Int))) (x3 := some (homes fl fr)) (x4 := y4) (x5 := none) (x6 := y6) (x7 := none) (x8 := none) (x9 := none) (x10 := none)
  rw [hts] at s4
  have at4 : (S3 ++ [iW (ni Z)])[S3.length]? = some (iW (ni Z)) := by simp
  have d1 := len_at at4
  have d2 := max_at at4 m1
  have d3 := cnt_at at4
  rw [m2] at d1
  rw [m3] at d3
  obtain ⟨q1, w1⟩ := v_manyN (S := S3 ++ [iW (ni Z)]) (Hm.t fl fr) N (by omega)
  obtain ⟨q2, w2⟩ := v_mostN (S := S3 ++ [iW (ni Z)] ++ q1) (Hm.t fl fr) N (by omega)
  obtain ⟨q3, w3⟩ := v_oneN (S := S3 ++ [iW (ni Z)] ++ q1 ++ q2) (Hm.t fl fr) N (by omega)
  have ql := lists_homes (S := S3 ++ [iW (ni Z)] ++ q1 ++ q2 ++ q3) fl fr
  obtain ⟨q4, w4⟩ := v_manyN (S := S3 ++ [iW (ni Z)] ++ q1 ++ q2 ++ q3) (Hm.l fl fr) N (by omega)
  obtain ⟨q5, w5⟩ := v_mostN (S := S3 ++ [iW (ni Z)] ++ q1 ++ q2 ++ q3 ++ q4) (Hm.l fl fr) N (by omega)
  obtain ⟨q6, w6⟩ := v_oneN (S := S3 ++ [iW (ni Z)] ++ q1 ++ q2 ++ q3 ++ q4 ++ q5) (Hm.l fl fr) N (by omega)
  generalize (proF (fun k => (szN fl fr k k).length) N : Int) = A1 at *
  generalize (proF (fun k => mxN (szN fl fr k k)) N : Int) = A2 at *
  generalize (proF (fun k => cntE (szN fl fr k k) 1) N : Int) = A3 at *
  generalize S3 ++ [iW (ni Z)] ++ q1 ++ q2 ++ q3 ++ q4 ++ q5 ++ q6 = U7 at *
  generalize S3 ++ [iW (ni Z)] ++ q1 ++ q2 ++ q3 ++ q4 ++ q5 = U6 at *
  generalize S3 ++ [iW (ni Z)] ++ q1 ++ q2 ++ q3 ++ q4 = U5 at *
  generalize S3 ++ [iW (ni Z)] ++ q1 ++ q2 ++ q3 = U4 at *
  generalize S3 ++ [iW (ni Z)] ++ q1 ++ q2 = U3 at *
  generalize S3 ++ [iW (ni Z)] ++ q1 = U2 at *
  generalize S3 ++ [iW (ni Z)] = U1 at *
  have s5 : RT5 [some (.lst n), some (.int (N : Int)), some (.dtt S1.length), some (homes fl fr), y4, none, y6, some (.lst S3.length), none, none, none] U1 = .ok (.nx [some (.lst n), some (.int (N : Int)), some (.dtt S1.length), some (homes fl fr), y4, none, y6, some (.lst S3.length), some (.cl [.int A1, .int A2, .int A3]), none, none]) U1 := by
    generalize homes fl fr = H at *
    simp [RT5, sSet, sAsg, setT, lft, dCl, dCallN, dMth, dCons, dNil, dVar, dC, bnd, ret, rdS, d1, d2, d3, lsB, wrS, mkC, szB]
  have s6 : RT6 [some (.lst n), some (.int (N : Int)), some (.dtt S1.length), some (homes fl fr), y4, none, y6, some (.lst S3.length), some (.cl [.int A1, .int A2, .int A3]), none, none] U1 = .ok (.nx [some (.lst n), some (.int (N : Int)), some (.dtt S1.length), some (homes fl fr), y4, none, y6, some (.lst S3.length), some (.cl [.int A1, .int A2, .int A3]), some (.cl [.int A1, .int A2, .int A3]), none]) U4 := by
    generalize homes fl fr = H at *
    simp [RT6, sSet, sAsg, setT, lft, dCl, dCall, dCons, dNil, dVar, bnd, ret, w1, w2, w3, mkC, szB]
  have s7 : RT7 [some (.lst n), some (.int (N : Int)), some (.dtt S1.length), some (homes fl fr), y4, none, y6, some (.lst S3.length), some (.cl [.int A1, .int A2, .int A3]), some (.cl [.int A1, .int A2, .int A3]), none] U4 = .ok (.nx [some (.lst n), some (.int (N : Int)), some (.dtt S1.length), some (homes fl fr), y4, none, y6, some (.lst S3.length), some (.cl [.int A1, .int A2, .int A3]), some (.cl [.int A1, .int A2, .int A3]), some (.cl [.cl (iW fl), .cl (iW fr)])]) U4 := by
    generalize homes fl fr = H at *
    simp [RT7, sSet, sAsg, setT, lft, dCall, dCons, dNil, dVar, bnd, ret, ql]
  have ad1 : fAdd U6 (.cl [.int A1, .int A2, .int A3]) (.cl [.int A1, .int A2]) = some (.cl [.int A1, .int A2, .int A3, .int A1, .int A2]) := rfl
  have s8 : RT8 [some (.lst n), some (.int (N : Int)), some (.dtt S1.length), some (homes fl fr), y4, none, y6, some (.lst S3.length), some (.cl [.int A1, .int A2, .int A3]), some (.cl [.int A1, .int A2, .int A3]), some (.cl [.cl (iW fl), .cl (iW fr)])] U4 = .ok (.nx [some (.lst n), some (.int (N : Int)), some (.dtt S1.length), some (homes fl fr), y4, none, y6, some (.lst S3.length), some (.cl [.int A1, .int A2, .int A3]), some (.cl [.int A1, .int A2, .int A3, .int A1, .int A2]), some (.cl [.cl (iW fl), .cl (iW fr)])]) U6 := by
    generalize homes fl fr = H at *
    generalize W.cl [.cl (iW fl), .cl (iW fr)] = HL at *
    simp [RT8, sSet, sAsg, setT, lft, dCl, dCallK, gp, dBin, dCons, dNil, dVar, bnd, ret, rdS, w4, w5, mkC, szB, ad1]
  have ad2 : fAdd U7 (.cl [.int A1, .int A2, .int A3, .int A1, .int A2]) (.cl [.int A3]) = some (.cl [.int A1, .int A2, .int A3, .int A1, .int A2, .int A3]) := rfl
  have ad3 : fAdd U7 (.cl [.int A1, .int A2, .int A3]) (.cl [.int A1, .int A2, .int A3]) = some (.cl [.int A1, .int A2, .int A3, .int A1, .int A2, .int A3]) := rfl
  have sm : g_law_same 16 [.cl [.int A1, .int A2, .int A3, .int A1, .int A2, .int A3], .cl [.int A1, .int A2, .int A3, .int A1, .int A2, .int A3]] U7 = .ok (.bl true) U7 := same_true 16 _ _ (by simp [likeB, lstS, all2])
  have s9 : RT9 [some (.lst n), some (.int (N : Int)), some (.dtt S1.length), some (homes fl fr), y4, none, y6, some (.lst S3.length), some (.cl [.int A1, .int A2, .int A3]), some (.cl [.int A1, .int A2, .int A3, .int A1, .int A2]), some (.cl [.cl (iW fl), .cl (iW fr)])] U6 = .ok (.rt (.bl true)) U7 := by
    generalize homes fl fr = H at *
    generalize W.cl [.cl (iW fl), .cl (iW fr)] = HL at *
    simp [RT9, sRet, lft, dCl, dCall, dCallK, gp, dBin, dCons, dNil, dVar, bnd, ret, rdS, w6, mkC, szB, ad2, ad3, sm]
  refine ⟨U7, ?_⟩
  have s1 : RT1 [some (.lst n), none, none, none, none, none, none, none, none, none, none] S = .ok (.nx [some (.lst n), some (.int (N : Int)), some (.dtt S1.length), none, none, none, none, none, none, none, none]) (S1 ++ [[]]) := by
    have ad : fAdd S1 (.int 1) (.int (k : Int)) = some (.int (N : Int)) := by
      show some (W.int (1 + (k : Int))) = _
      rw [hN, Int.natCast_add]
      rfl
    have it : ∀ (T : Store) (ws : List W), itmsS T (.tup ws) = some ws := fun _ _ => rfl
    clear lp ev bx
    generalize (N : Int) = NN at *
    simp [RT1, sAsg, lft, dTup, dCall, dCons, dNil, dVar, dBin, dC, bnd, ret, rdS, t1, ad, dTNew0, mkT, szB, setT, setTs, it]
  have s2 : RT2 [some (.lst n), some (.int (N : Int)), some (.dtt S1.length), none, none, none, none, none, none, none, none] (S1 ++ [[]]) = .ok (.nx [some (.lst n), some (.int (N : Int)), some (.dtt S1.length), some (homes fl fr), none, none, none, none, none, none, none]) S2 := by
    clear lp ev bx
    have t2 : g_law_homes [.lst n, .int 6] (S1 ++ [[]]) = .ok (homes fl fr) S2 := t2
    generalize homes fl fr = H at *
    simp [RT2, sSet, sAsg, setT, lft, dCall, dCons, dNil, dVar, dC, bnd, ret, t2]
  have s3 : RT3 [some (.lst n), some (.int (N : Int)), some (.dtt S1.length), some (homes fl fr), none, none, none, none, none, none, none] S2 = .ok (.nx [some (.lst n), some (.int (N : Int)), some (.dtt S1.length), some (homes fl fr), y4, none, y6, none, none, none, none]) S3 := by
    have it : LRI [some (.lst n), some (.int (N : Int)), some (.dtt S1.length), some (homes fl fr), none, none, none, none, none, none, none] S2 = .ok ((linesN (fbx N)).map rW, []) (S1.set n p2 ++ [tlW []] ++ (g2 ++ J)) := by
      have e2 : S2 ++ J = S1.set n p2 ++ [tlW []] ++ (g2 ++ J) := by rw [eS2, List.append_assoc]
      rw [← e2]
      unfold LRI
      clear lp
      generalize (dLc .cl [5] (iRg1 (dCons (dVar 1) dNil)) (.nm 5) dYes (dTup (dCons (dBin fSub (dC (.int 0)) (dVar 5)) (dCons (dC (.int 0)) (dCons (dVar 5) dNil)))) : DE) = D at *
      generalize (linesN (fbx N)).map rW = LW at *
      have sq : seqI (S2 ++ J) (.cl LW) = some (LW, []) := rfl
      simp [iSeq, dCall, dCons, dNil, bnd, ret, bx, ev, rdI, sq]
    show sFor LRI LRT LRB _ _ = _
    rw [sFor, lft, it, hS3]
    exact lp
  show fnR (d_law_right [some (.lst n), none, none, none, none, none, none, none, none, none, none] S) = _
  rw [RT_is]
  simp only [sSeq, s1, s2, s3, s4, s5, s6, s7, s8, s9, fnR]
end

end Den

namespace Den
open PySem PySem.Spec PyProof.Rows L2 Bal
section
variable {S : Store}
theorem v_law (ns : List Int) (hl : ns.length ≤ 63) : ∃ S', g_law [.sc (iW ns)] S = .ok (.bl true) S' := by
  have key : ∀ (ks : List Nat) (S0 S : Store), ∃ S', lcL (.nm 1) dYes (dCall 1 g_law_right (dCons (dCall 2 g_law_pot (dCons (dVar 0) (dCons (dVar 1) dNil))) dNil)) [some (.sc (iW ns)), none] S0 [] (ks.map fun k : Nat => W.int (k : Int)) S = .ok (List.replicate ks.length (.bl true)) S' := by
    intro ks
    induction ks with
    | nil => intro S0 S; exact ⟨S, rfl⟩
    | cons k ks ih =>
      intro S0 S
      obtain ⟨p, e1, hp⟩ := v_pot (S := S) ns k
      obtain ⟨S2, e2⟩ := v_right (S := S ++ [p]) (n := S.length) (by simp) hp (by decide)
      obtain ⟨S3, e3⟩ := ih S0 S2
      exact ⟨S3, by simp [lcL, setT, dYes, ret, dCall, dCons, dNil, dVar, bnd, e1, e2, e3, kept, List.replicate_succ]⟩
  have bt : ∀ n : Nat, blT (List.replicate n (W.bl true)) = some (List.replicate n true) := fun n => by
    induction n with
    | zero => rfl
    | succ n ih => simp [List.replicate_succ, blT, ih]
  obtain ⟨m, hm, hm4⟩ : ∃ m : Nat, (if (if (ns.length : Int) < 3 then (ns.length : Int) else 3) > 1 then (if (ns.length : Int) < 3 then (ns.length : Int) else 3) else 1) = (m : Int) ∧ m ≤ 3 := by
    by_cases h1 : (ns.length : Int) < 3
    · rw [if_pos h1]
      by_cases h2 : (ns.length : Int) > 1
      · rw [if_pos h2]; exact ⟨ns.length, rfl, by omega⟩
      · rw [if_neg h2]; exact ⟨1, rfl, by omega⟩
    · rw [if_neg h1, if_pos (by decide)]; exact ⟨3, rfl, by omega⟩
  have rm : rgW 0 (m : Int) = (List.range m).map fun k : Nat => W.int (k : Int) := by simp [rgW]
  have sz : szB m = true := decide_eq_true (by omega)
  obtain ⟨S', e⟩ := key (List.range m) S S
  refine ⟨S', ?_⟩
  show fnW 2 d_law [.sc (iW ns)] S = _
  have mx : fMax2 S [.int 1, .int (if (ns.length : Int) < 3 then (ns.length : Int) else 3)] = some (.int m) := by simp only [fMax2, hm]
  have mn : fMin2 S [.int 3, .int (ns.length : Int)] = some (.int (if (ns.length : Int) < 3 then (ns.length : Int) else 3)) := rfl
  have ln : fLen S [.sc (iW ns)] = some (.int (ns.length : Nat)) := by simp [fLen, ixW]
  have ir : iRg1 (dCons (dCallN fMax2 (dCons (dC (.int 1)) (dCons (dCallN fMin2 (dCons (dC (.int 3)) (dCons (dCallN fLen (dCons (dVar 0) dNil)) dNil))) dNil))) dNil) [some (.sc (iW ns)), none] S = .ok ((List.range m).map fun k : Nat => W.int (k : Int), []) S := by
    have sm : (szB (m : Int).toNat && decide (-1000000000 ≤ (m : Int))) = true := by
      rw [Int.toNat_natCast, sz, decide_eq_true (by omega)]
      rfl
    simp only [iRg1, dCons, dNil, dCallN, dC, dVar, bnd, ret, rdS, rdI, ln, mn, mx, sm, rm, if_true, List.getElem?_cons_zero]
  have fa : fAll S' [.cl (List.replicate (List.range m).length (.bl true))] = some (.bl true) := by simp [fAll, lstS, bt]
  simp only [d_law, fnW_R]
  show fnR ((sRet _) [some (.sc (iW ns)), none] S) = _
  simp only [sRet, lft, dCallN, dCons, dNil, dLc, bnd, ret, ir, wipeW]
  show fnR _ = _
  simp only [List.set_cons_succ, List.set_cons_zero, e, newK, rdS, fa]
  rfl
end

end Den

namespace Den
open PySem PySem.Spec PyProof.Rows L2 Bal
section
variable {P : Program} {w : World} {K : PySem.W.Frag} {mg : Str → Option Value} {base : Heap}
/-! ### _law_take -/
abbrev s_law_take : Stmt := topS 7
theorem sc_law_take : FnScope ["_law_pot_here", "_law_bound", "_law_found", "_law_once"] ["_law_pot_here", "_law_bound"] (defScope s_law_take) := ⟨rfl, rfl, rfl, by decide +kernel, rfl, by decide +kernel, by decide +kernel⟩
theorem ok_law_take {f : Addr} {fd : FuncData} (F : Fun K "_law_take" "_law_take" s_law_take f fd) (bS : Binds K fd ["_law_pot_here", "_law_bound"] []) (gS : mg "_law_take" = some (.ref f))  : ∀ n : Nat, FnOk P w K mg base (L2.CX P w) (n + 1) f fd ["_law_pot_here", "_law_bound"] (spD K mg 2 (g_law_take n))
  | 0 => fn_bad F sc_law_take
  | n + 1 => by
    have ih := ok_law_take F bS gS  n
    exact fn_den (k := n + 1) F sc_law_take fun cdv A outer s H E hr => (dss_cons (ds_if (dt_cmp op_gt fCmp_ok (de_ix (ix_list.or ix_tup) fIx_ok (de_var 0) de_int) de_int) (dss_cons (ds_set 2 sc_law_take.nd (de_bin op_mod fMod_ok (de_ix (ix_list.or ix_tup) fIx_ok (de_var 0) de_int) (de_var 1))) (dss_cons (ds_asgM (de_bin op_fdiv fDiv_ok (de_ix (ix_list.or ix_tup) fIx_ok (de_var 0) de_int) (de_var 1)) (dm_put (de_var 0) de_int)) (dss_one (ds_ret (de_var 2))))) dss_nil) (dss_cons (ds_if (dt_cmp op_gt fCmp_ok (de_var 1) (de_bin op_pow fPow_ok de_int de_int)) (dss_one (ds_ret (de_bin op_mod fMod_ok (de_bin op_addW fAdd_ok (de_call ih hr (by rfl) gS F.kp bS (fun σ => passAt (W := fun cls d _ H => E cls d H) (takes_of rfl rfl rfl rfl) σ) (da_cons (de_var 0) (da_cons (de_bin op_pow fPow_ok de_int de_int) da_nil))) (de_bin (OpR.or op_mul op_rep) fMul_ok (de_bin op_pow fPow_ok de_int de_int) (de_call ih hr (by rfl) gS F.kp bS (fun σ => passAt (W := fun cls d _ H => E cls d H) (takes_of rfl rfl rfl rfl) σ) (da_cons (de_var 0) (da_cons (de_bin op_addW fAdd_ok (de_bin op_fdiv fDiv_ok (de_var 1) (de_bin op_pow fPow_ok de_int de_int)) de_int) da_nil))))) (de_var 1)))) dss_nil) (dss_cons (ds_asgM (de_bin op_addW fAdd_ok (de_ix (ix_list.or ix_tup) fIx_ok (de_var 0) de_int) de_int) (dm_put (de_var 0) de_int)) (dss_cons (ds_set 3 sc_law_take.nd (de_bin op_mod fMod_ok (de_bin op_pow fPow_ok (de_bin op_addW fAdd_ok (de_ix (ix_list.or ix_tup) fIx_ok (de_var 0) de_int) (de_bin (OpR.or op_mul op_rep) fMul_ok de_int (de_ix (ix_list.or ix_tup) fIx_ok (de_var 0) de_int))) de_int) de_int)) (dss_one (ds_ret (de_bin op_mod fMod_ok (de_bin op_fdiv fDiv_ok (de_bin op_mod fMod_ok (de_bin op_addW fAdd_ok (de_bin (OpR.or op_mul op_rep) fMul_ok (de_var 3) (de_bin op_addW fAdd_ok (de_bin op_mod fMod_ok (de_var 3) de_int) de_int)) (de_bin (OpR.or op_mul op_rep) fMul_ok (de_ix (ix_list.or ix_tup) fIx_ok (de_var 0) de_int) de_int)) de_int) de_int) (de_var 1))))))))
/-! ### _law_floors -/
abbrev s_law_floors : Stmt := topS 12
theorem sc_law_floors : FnScope ["_law_pot_here", "_law_most", "_law_way", "_law_found", "_law_storey"] ["_law_pot_here", "_law_most"] (defScope s_law_floors) := ⟨rfl, rfl, rfl, by decide +kernel, rfl, by decide +kernel, by decide +kernel⟩
theorem ok_law_floors {f : Addr} {fd : FuncData} (F : Fun K "_law_floors" "_law_floors" s_law_floors f fd) {f_law_take : Addr} {fd_law_take : FuncData} (F_law_take : Fun K "_law_take" "_law_take" s_law_take f_law_take fd_law_take) (b_law_take : Binds K fd_law_take ["_law_pot_here", "_law_bound"] []) (g_m_law_take : mg "_law_take" = some (.ref f_law_take)) (G_law_take : FnOk P w K mg base (L2.CX P w) 7 f_law_take fd_law_take ["_law_pot_here", "_law_bound"] (spD K mg 2 (g_law_take 6))) (m_range : mg "range" = none) : FnOk P w K mg base (L2.CX P w) 8 f fd ["_law_pot_here", "_law_most"] (spD K mg 2 g_law_floors) :=
  fn_den (k := 7) F sc_law_floors fun cdv A outer s H E hr => (dss_cons (ds_par (i := 2) (j := 3) rfl sc_law_floors.nd (de_call G_law_take hr (by rfl) g_m_law_take F_law_take.kp b_law_take (fun σ => passAt (W := fun cls d _ H => E cls d H) (takes_of rfl rfl rfl rfl) σ) (da_cons (de_var 0) (da_cons de_int da_nil))) (de_lst da_nil)) (dss_cons (ds_if (dt_cmp (op_eqD hr.units) fEq_ok (de_var 2) de_int) (dss_one (ds_ret (de_cl (da_cons (de_bin op_addW fAdd_ok de_int (de_call G_law_take hr (by rfl) g_m_law_take F_law_take.kp b_law_take (fun σ => passAt (W := fun cls d _ H => E cls d H) (takes_of rfl rfl rfl rfl) σ) (da_cons (de_var 0) (da_cons (de_var 1) da_nil)))) da_nil)))) dss_nil) (dss_cons (ds_for (passes rfl) rfl (di_rg2 (by rfl) m_range (da_cons de_int (da_cons (de_bin op_addW fAdd_ok (de_var 1) de_int) da_nil))) (dg_nm 4 sc_law_floors.nd) (dss_one (ds_if (pt_wordOr (dw_or (dt_cmp (op_eqD hr.units) fEq_ok (de_var 2) de_int) (dw_or1 (pt_wordAnd (dw_and (dt_cmp op_gt fCmp_ok (de_var 2) de_int) (dw_and1 (dt_cmp (op_eqD hr.units) fEq_ok (de_call G_law_take hr (by rfl) g_m_law_take F_law_take.kp b_law_take (fun σ => passAt (W := fun cls d _ H => E cls d H) (takes_of rfl rfl rfl rfl) σ) (da_cons (de_var 0) (da_cons (de_var 2) da_nil))) de_int))))))) (dss_one (ds_expr (de_mth PySem.F.slot_list_append PySem.F.type_list_append mt_append fAppend_ok (de_var 3) (da_cons (de_var 4) da_nil)))) dss_nil))) (dss_one (ds_ret (de_var 3))))))
/-! ### _law_homes -/
abbrev s_law_homes : Stmt := topS 13
theorem sc_law_homes : FnScope ["_law_pot_here", "_law_most"] ["_law_pot_here", "_law_most"] (defScope s_law_homes) := ⟨rfl, rfl, rfl, by decide +kernel, rfl, by decide +kernel, by decide +kernel⟩
theorem ok_law_homes {f : Addr} {fd : FuncData} (F : Fun K "_law_homes" "_law_homes" s_law_homes f fd) {f_law_floors : Addr} {fd_law_floors : FuncData} (F_law_floors : Fun K "_law_floors" "_law_floors" s_law_floors f_law_floors fd_law_floors) (b_law_floors : Binds K fd_law_floors ["_law_pot_here", "_law_most"] []) (g_m_law_floors : mg "_law_floors" = some (.ref f_law_floors)) (G_law_floors : FnOk P w K mg base (L2.CX P w) 8 f_law_floors fd_law_floors ["_law_pot_here", "_law_most"] (spD K mg 2 g_law_floors)) (m_tuple : mg "tuple" = none) : FnOk P w K mg base (L2.CX P w) 9 f fd ["_law_pot_here", "_law_most"] (spD K mg 2 g_law_homes) :=
  fn_den (k := 8) F sc_law_homes fun cdv A outer s H E hr => (dss_one (ds_ret (de_tup (da_cons (de_callTy call_tupN fTuple_ok (by rfl) m_tuple (by decide +kernel) (da_cons (de_call G_law_floors hr (by rfl) g_m_law_floors F_law_floors.kp b_law_floors (fun σ => passAt (W := fun cls d _ H => E cls d H) (takes_of rfl rfl rfl rfl) σ) (da_cons (de_var 0) (da_cons (de_var 1) da_nil))) da_nil)) (da_cons (de_callTy call_tupN fTuple_ok (by rfl) m_tuple (by decide +kernel) (da_cons (de_call G_law_floors hr (by rfl) g_m_law_floors F_law_floors.kp b_law_floors (fun σ => passAt (W := fun cls d _ H => E cls d H) (takes_of rfl rfl rfl rfl) σ) (da_cons (de_var 0) (da_cons (de_var 1) da_nil))) da_nil)) da_nil)))))
/-! ### _law_built -/
abbrev s_law_built : Stmt := topS 11
theorem sc_law_built : FnScope ["_law_tall", "_law_numbers", "_law_found", "_law_soul", "_law_ahead"] ["_law_tall", "_law_numbers"] (defScope s_law_built) := ⟨rfl, rfl, rfl, by decide +kernel, rfl, by decide +kernel, by decide +kernel⟩
theorem ok_law_built {f : Addr} {fd : FuncData} (F : Fun K "_law_built" "_law_built" s_law_built f fd) (m_zip : mg "zip" = none) (m_tuple : mg "tuple" = none) : FnOk P w K mg base (L2.CX P w) 1 f fd ["_law_tall", "_law_numbers"] (spD K mg 2 g_law_built) :=
  fn_den (k := 0) F sc_law_built fun cdv A outer s H E hr => (dss_cons (ds_set 2 sc_law_built.nd (de_cl da_nil)) (dss_cons (ds_for (passes rfl) rfl (di_zip2 (by rfl) m_zip (da_cons (de_var 0) (da_cons (de_var 1) da_nil))) (dg_tp rfl (dgs_cons (dg_nm 3 sc_law_built.nd) (dgs_cons (dg_nm 4 sc_law_built.nd) dgs_nil))) (dss_one (ds_set 2 sc_law_built.nd (de_bin op_addW fAdd_ok (de_bin op_addW fAdd_ok (de_cut .cl (de_var 2) do_none (do_some (de_var 4))) (de_cl (da_cons (de_var 3) da_nil))) (de_cut .cl (de_var 2) (do_some (de_var 4)) do_none))))) (dss_one (ds_ret (de_callTy call_tupN fTuple_ok (by rfl) m_tuple (by decide +kernel) (da_cons (de_var 2) da_nil))))))
/-! ### _law_every -/
abbrev s_law_every : Stmt := topS 15
theorem sc_law_every : FnScope ["_law_cage", "_law_found", "_law_soul", "_law_least", "_law_greatest", "_law_longer", "_law_key", "_law_ahead", "_law_part"] ["_law_cage"] (defScope s_law_every) := ⟨rfl, rfl, rfl, by decide +kernel, rfl, by decide +kernel, by decide +kernel⟩
theorem ok_law_every {f : Addr} {fd : FuncData} (F : Fun K "_law_every" "_law_every" s_law_every f fd) {f_law_built : Addr} {fd_law_built : FuncData} (F_law_built : Fun K "_law_built" "_law_built" s_law_built f_law_built fd_law_built) (b_law_built : Binds K fd_law_built ["_law_tall", "_law_numbers"] []) (g_m_law_built : mg "_law_built" = some (.ref f_law_built)) (G_law_built : FnOk P w K mg base (L2.CX P w) 1 f_law_built fd_law_built ["_law_tall", "_law_numbers"] (spD K mg 2 g_law_built)) (m_range : mg "range" = none) : FnOk P w K mg base (L2.CX P w) 2 f fd ["_law_cage"] (spD K mg 1 g_law_every) :=
  fn_den (k := 1) F sc_law_every fun cdv A outer s H E hr => (dss_cons (ds_set 1 sc_law_every.nd (de_cl (da_cons (de_cl da_nil) da_nil))) (dss_cons (ds_for (passes rfl) rfl (di_seq (de_var 0)) (dg_tp rfl (dgs_cons (dg_nm 2 sc_law_every.nd) (dgs_cons (dg_nm 3 sc_law_every.nd) (dgs_cons (dg_nm 4 sc_law_every.nd) dgs_nil)))) (dss_cons (ds_set 5 sc_law_every.nd (de_lst da_nil)) (dss_cons (ds_for (passes rfl) rfl (di_seq (de_var 1)) (dg_nm 6 sc_law_every.nd) (dss_one (ds_expr (de_mth PySem.F.slot_list_extend PySem.F.type_list_extend mt_extend fExtend_ok (de_var 5) (da_cons (by exact (de_lc (own := [("_law_ahead", 7)]) .cl rfl sc_law_every.nd (di_rg2 (by rfl) m_range (da_cons (de_var 3) (da_cons (de_bin op_addW fAdd_ok (de_var 4) de_int) da_nil))) (blkOk_by (own := [("_law_ahead", 7)]) (N := ["_law_cage", "_law_found", "_law_soul", "_law_least", "_law_greatest", "_law_longer", "_law_key", "_law_ahead", "_law_part"]) (sc := defScope s_law_every) (by decide +kernel)) (fun _ _ _ _ _ => (dg_nm 7 sc_law_every.nd)) (fun _ _ _ _ _ => dts_nil) (fun _ _ _ _ _ => (de_bin op_addW fAdd_ok (de_var 6) (de_cl (da_cons (de_var 7) da_nil)))))) da_nil))))) (dss_one (ds_set 1 sc_law_every.nd (de_var 5)))))) (dss_one (ds_ret (by exact (de_lc (own := [("_law_key", 6)]) .cl rfl sc_law_every.nd (di_seq (de_var 1)) (blkOk_by (own := [("_law_key", 6)]) (N := ["_law_cage", "_law_found", "_law_soul", "_law_least", "_law_greatest", "_law_longer", "_law_key", "_law_ahead", "_law_part"]) (sc := defScope s_law_every) (by decide +kernel)) (fun _ _ _ _ _ => (dg_nm 6 sc_law_every.nd)) (fun _ _ _ _ _ => dts_nil) (fun _ _ _ _ _ => (de_call G_law_built hr (by rfl) g_m_law_built F_law_built.kp b_law_built px0 (da_cons (by exact (de_lc (own := [("_law_part", 8)]) .cl rfl sc_law_every.nd (di_seq (de_var 0)) (blkOk_by (own := [("_law_part", 8)]) (N := ["_law_cage", "_law_found", "_law_soul", "_law_least", "_law_greatest", "_law_longer", "_law_key", "_law_ahead", "_law_part"]) (by first | decide +kernel | (dsimp only [Cx.blk, compEnvC]; decide +kernel) | rfl)) (fun _ _ _ _ _ => (dg_nm 8 sc_law_every.nd)) (fun _ _ _ _ _ => dts_nil) (fun _ _ _ _ _ => (de_ix (ix_list.or ix_tup) fIx_ok (de_var 8) de_int)))) (da_cons (de_var 6) da_nil))))))))))
/-! ### _law_front -/
abbrev s_law_front : Stmt := topS 10
theorem sc_law_front : FnScope ["_law_line", "_law_soul", "_law_found", "_law_mate"] ["_law_line", "_law_soul"] (defScope s_law_front) := ⟨rfl, rfl, rfl, by decide +kernel, rfl, by decide +kernel, by decide +kernel⟩
theorem ok_law_front {f : Addr} {fd : FuncData} (F : Fun K "_law_front" "_law_front" s_law_front f fd) (m_int : mg "int" = none) : FnOk P w K mg base (L2.CX P w) 1 f fd ["_law_line", "_law_soul"] (spD K mg 2 g_law_front) :=
  fn_den (k := 0) F sc_law_front fun cdv A outer s H E hr => (dss_cons (ds_set 2 sc_law_front.nd de_int) (dss_cons (ds_for (passes rfl) rfl (di_seq (de_var 0)) (dg_nm 3 sc_law_front.nd) (dss_cons (ds_if (dt_cmp (op_eqD hr.units) fEq_ok (de_var 3) (de_var 1)) (dss_one (ds_ret (de_var 2))) dss_nil) (dss_one (ds_set 2 sc_law_front.nd (de_bin op_addW fAdd_ok (de_var 2) (de_callTy call_int1 fInt_ok (by rfl) m_int (by decide +kernel) (da_cons (de_cmp op_gt fCmp_ok (de_var 3) (de_var 1)) da_nil))))))) (dss_one (ds_ret (de_var 2)))))
/-! ### _law_sees -/
abbrev s_law_sees : Stmt := topS 14
theorem sc_law_sees : FnScope ["_law_line", "_law_homes_here", "_law_found", "_law_wing", "_law_rank", "_law_sights", "_law_storey", "_law_soul"] ["_law_line", "_law_homes_here"] (defScope s_law_sees) := ⟨rfl, rfl, rfl, by decide +kernel, rfl, by decide +kernel, by decide +kernel⟩
theorem ok_law_sees {f : Addr} {fd : FuncData} (F : Fun K "_law_sees" "_law_sees" s_law_sees f fd) {f_law_front : Addr} {fd_law_front : FuncData} (F_law_front : Fun K "_law_front" "_law_front" s_law_front f_law_front fd_law_front) (b_law_front : Binds K fd_law_front ["_law_line", "_law_soul"] []) (g_m_law_front : mg "_law_front" = some (.ref f_law_front)) (G_law_front : FnOk P w K mg base (L2.CX P w) 1 f_law_front fd_law_front ["_law_line", "_law_soul"] (spD K mg 2 g_law_front)) (m_zip : mg "zip" = none) (m_sorted : mg "sorted" = none) (m_tuple : mg "tuple" = none) : FnOk P w K mg base (L2.CX P w) 2 f fd ["_law_line", "_law_homes_here"] (spD K mg 2 g_law_sees) :=
  fn_den (k := 1) F sc_law_sees fun cdv A outer s H E hr => (dss_cons (ds_set 2 sc_law_sees.nd (de_lst da_nil)) (dss_cons (ds_for (passes rfl) rfl (di_zip2 (by rfl) m_zip (da_cons (de_var 1) (da_cons (de_tup (da_cons (de_var 0) (da_cons (de_rev .cl (de_var 0)) da_nil))) da_nil))) (dg_tp rfl (dgs_cons (dg_nm 3 sc_law_sees.nd) (dgs_cons (dg_nm 4 sc_law_sees.nd) dgs_nil))) (dss_cons (ds_set 5 sc_law_sees.nd (de_lst da_nil)) (dss_cons (ds_for (passes rfl) rfl (di_seq (de_var 3)) (dg_nm 6 sc_law_sees.nd) (dss_one (ds_expr (de_mth PySem.F.slot_list_append PySem.F.type_list_append mt_append fAppend_ok (de_var 5) (da_cons (de_callTy call_tupN fTuple_ok (by rfl) m_tuple (by decide +kernel) (da_cons (de_callFB .cl cr_srt fSorted_ok (by rfl) m_sorted (by decide +kernel) (da_cons (by exact (de_lc (own := [("_law_soul", 7)]) .cl rfl sc_law_sees.nd (di_seq (de_var 4)) (blkOk_by (own := [("_law_soul", 7)]) (N := ["_law_line", "_law_homes_here", "_law_found", "_law_wing", "_law_rank", "_law_sights", "_law_storey", "_law_soul"]) (sc := defScope s_law_sees) (by decide +kernel)) (fun _ _ _ _ _ => (dg_nm 7 sc_law_sees.nd)) (fun _ _ _ _ _ => (dts_one (dt_cmp op_lt fCmp_ok (de_call G_law_front hr (by rfl) g_m_law_front F_law_front.kp b_law_front px0 (da_cons (de_var 4) (da_cons (de_var 7) da_nil))) (de_var 6)))) (fun _ _ _ _ _ => (de_var 7)))) da_nil)) da_nil)) da_nil))))) (dss_one (ds_expr (de_mth PySem.F.slot_list_append PySem.F.type_list_append mt_append fAppend_ok (de_var 2) (da_cons (de_callTy call_tupN fTuple_ok (by rfl) m_tuple (by decide +kernel) (da_cons (de_var 5) da_nil)) da_nil))))))) (dss_one (ds_ret (de_tup (da_cons (de_ix (ix_list.or ix_tup) fIx_ok (de_var 2) de_int) (da_cons (de_ix (ix_list.or ix_tup) fIx_ok (de_var 2) de_int) da_nil)))))))
/-! ### stretch_sizes -/
abbrev s_stretch_sizes : Stmt := topS 4
theorem sc_stretch_sizes : FnScope ["taller", "houses", "left", "right", "sizes", "ahead"] ["taller", "houses"] (defScope s_stretch_sizes) := ⟨rfl, rfl, rfl, by decide +kernel, rfl, by decide +kernel, by decide +kernel⟩
theorem ok_stretch_sizes {f : Addr} {fd : FuncData} (F : Fun K "stretch_sizes" "stretch_sizes" s_stretch_sizes f fd) (m_range : mg "range" = none) : FnOk P w K mg base (L2.CX P w) 1 f fd ["taller", "houses"] (spD K mg 2 g_stretch_sizes) :=
  fn_den (k := 0) F sc_stretch_sizes fun cdv A outer s H E hr => (dss_cons (ds_asg (de_var 1) (dg_tp rfl (dgs_cons (dg_nm 2 sc_stretch_sizes.nd) (dgs_cons (dg_nm 3 sc_stretch_sizes.nd) dgs_nil)))) (dss_cons (ds_set 4 sc_stretch_sizes.nd (de_lst (da_cons de_int da_nil))) (dss_cons (ds_for (passes rfl) rfl (di_rg1 (by rfl) m_range (da_cons (de_var 0) da_nil)) (dg_nm 5 sc_stretch_sizes.nd) (dss_one (ds_if (pt_wordOr (dw_or (dt_cmp (OpR.or op_in_seq (op_inD (un65 hr))) fIn_ok (de_bin op_addW fAdd_ok (de_var 5) de_int) (de_var 2)) (dw_or1 (dt_cmp (OpR.or op_in_seq (op_inD (un65 hr))) fIn_ok (de_bin op_sub fSub_ok (de_var 0) (de_var 5)) (de_var 3))))) (dss_one (ds_expr (de_mth PySem.F.slot_list_append PySem.F.type_list_append mt_append fAppend_ok (de_var 4) (da_cons de_int da_nil)))) (dss_one (ds_augIx (de_var 4) (de_un un_neg fNeg_ok de_int) de_int))))) (dss_one (ds_ret (de_var 4))))))
/-! ### views_many -/
abbrev s_views_many : Stmt := topS 1
theorem sc_views_many : FnScope ["many", "houses", "told", "taller"] ["many", "houses"] (defScope s_views_many) := ⟨rfl, rfl, rfl, by decide +kernel, rfl, by decide +kernel, by decide +kernel⟩
theorem ok_views_many {f : Addr} {fd : FuncData} (F : Fun K "views_many" "views_many" s_views_many f fd) {f_stretch_sizes : Addr} {fd_stretch_sizes : FuncData} (F_stretch_sizes : Fun K "stretch_sizes" "stretch_sizes" s_stretch_sizes f_stretch_sizes fd_stretch_sizes) (b_stretch_sizes : Binds K fd_stretch_sizes ["taller", "houses"] []) (g_m_stretch_sizes : mg "stretch_sizes" = some (.ref f_stretch_sizes)) (G_stretch_sizes : FnOk P w K mg base (L2.CX P w) 1 f_stretch_sizes fd_stretch_sizes ["taller", "houses"] (spD K mg 2 g_stretch_sizes)) (m_range : mg "range" = none) (m_len : mg "len" = none) : FnOk P w K mg base (L2.CX P w) 2 f fd ["many", "houses"] (spD K mg 2 g_views_many) :=
  fn_den (k := 1) F sc_views_many fun cdv A outer s H E hr => (dss_cons (ds_set 2 sc_views_many.nd de_int) (dss_cons (ds_for (passes rfl) rfl (di_rg1 (by rfl) m_range (da_cons (de_var 0) da_nil)) (dg_nm 3 sc_views_many.nd) (dss_one (ds_aug 2 iop_mul fMulI_ok sc_views_many.nd (de_callB call_len_seq fLen_ok (by rfl) m_len PySem.boot_len (da_cons (de_call G_stretch_sizes hr (by rfl) g_m_stretch_sizes F_stretch_sizes.kp b_stretch_sizes (fun σ => passAt (W := fun cls d _ H => E cls d H) (takes_of rfl rfl rfl rfl) σ) (da_cons (de_var 3) (da_cons (de_var 1) da_nil))) da_nil))))) (dss_one (ds_ret (de_var 2)))))
/-! ### most_rows -/
abbrev s_most_rows : Stmt := topS 2
theorem sc_most_rows : FnScope ["many", "houses", "told", "taller"] ["many", "houses"] (defScope s_most_rows) := ⟨rfl, rfl, rfl, by decide +kernel, rfl, by decide +kernel, by decide +kernel⟩
theorem ok_most_rows {f : Addr} {fd : FuncData} (F : Fun K "most_rows" "most_rows" s_most_rows f fd) {f_stretch_sizes : Addr} {fd_stretch_sizes : FuncData} (F_stretch_sizes : Fun K "stretch_sizes" "stretch_sizes" s_stretch_sizes f_stretch_sizes fd_stretch_sizes) (b_stretch_sizes : Binds K fd_stretch_sizes ["taller", "houses"] []) (g_m_stretch_sizes : mg "stretch_sizes" = some (.ref f_stretch_sizes)) (G_stretch_sizes : FnOk P w K mg base (L2.CX P w) 1 f_stretch_sizes fd_stretch_sizes ["taller", "houses"] (spD K mg 2 g_stretch_sizes)) (m_range : mg "range" = none) (m_max : mg "max" = none) : FnOk P w K mg base (L2.CX P w) 2 f fd ["many", "houses"] (spD K mg 2 g_most_rows) :=
  fn_den (k := 1) F sc_most_rows fun cdv A outer s H E hr => (dss_cons (ds_set 2 sc_most_rows.nd de_int) (dss_cons (ds_for (passes rfl) rfl (di_rg1 (by rfl) m_range (da_cons (de_var 0) da_nil)) (dg_nm 3 sc_most_rows.nd) (dss_one (ds_aug 2 iop_mul fMulI_ok sc_most_rows.nd (de_callB (cr_maxS rfl (hu_of hr)) fMaxS_ok (by rfl) m_max (by decide +kernel) (da_cons (de_call G_stretch_sizes hr (by rfl) g_m_stretch_sizes F_stretch_sizes.kp b_stretch_sizes (fun σ => passAt (W := fun cls d _ H => E cls d H) (takes_of rfl rfl rfl rfl) σ) (da_cons (de_var 3) (da_cons (de_var 1) da_nil))) da_nil))))) (dss_one (ds_ret (de_var 2)))))
/-! ### known_rows -/
abbrev s_known_rows : Stmt := topS 3
theorem sc_known_rows : FnScope ["many", "houses", "told", "taller"] ["many", "houses"] (defScope s_known_rows) := ⟨rfl, rfl, rfl, by decide +kernel, rfl, by decide +kernel, by decide +kernel⟩
theorem ok_known_rows {f : Addr} {fd : FuncData} (F : Fun K "known_rows" "known_rows" s_known_rows f fd) {f_stretch_sizes : Addr} {fd_stretch_sizes : FuncData} (F_stretch_sizes : Fun K "stretch_sizes" "stretch_sizes" s_stretch_sizes f_stretch_sizes fd_stretch_sizes) (b_stretch_sizes : Binds K fd_stretch_sizes ["taller", "houses"] []) (g_m_stretch_sizes : mg "stretch_sizes" = some (.ref f_stretch_sizes)) (G_stretch_sizes : FnOk P w K mg base (L2.CX P w) 1 f_stretch_sizes fd_stretch_sizes ["taller", "houses"] (spD K mg 2 g_stretch_sizes)) (m_range : mg "range" = none) : FnOk P w K mg base (L2.CX P w) 2 f fd ["many", "houses"] (spD K mg 2 g_known_rows) :=
  fn_den (k := 1) F sc_known_rows fun cdv A outer s H E hr => (dss_cons (ds_set 2 sc_known_rows.nd de_int) (dss_cons (ds_for (passes rfl) rfl (di_rg1 (by rfl) m_range (da_cons (de_var 0) da_nil)) (dg_nm 3 sc_known_rows.nd) (dss_one (ds_aug 2 iop_mul fMulI_ok sc_known_rows.nd (de_mth PySem.F.slot_list_count PySem.F.type_list_count mt_lcount fCount_ok (de_call G_stretch_sizes hr (by rfl) g_m_stretch_sizes F_stretch_sizes.kp b_stretch_sizes (fun σ => passAt (W := fun cls d _ H => E cls d H) (takes_of rfl rfl rfl rfl) σ) (da_cons (de_var 3) (da_cons (de_var 1) da_nil))) (da_cons de_int da_nil))))) (dss_one (ds_ret (de_var 2)))))
/-! ### _law_lists -/
abbrev s_law_lists : Stmt := topS 9
theorem sc_law_lists : FnScope ["_law_matter", "_law_part"] ["_law_matter"] (defScope s_law_lists) := ⟨rfl, rfl, rfl, by decide +kernel, rfl, by decide +kernel, by decide +kernel⟩
theorem ok_law_lists {f : Addr} {fd : FuncData} (F : Fun K "_law_lists" "_law_lists" s_law_lists f fd) (bS : Binds K fd ["_law_matter"] []) (gS : mg "_law_lists" = some (.ref f)) (m_isinstance : mg "isinstance" = none) (m_list : mg "list" = none) (m_tuple : mg "tuple" = none) : ∀ n : Nat, FnOk P w K mg base (L2.CX P w) (n + 1) f fd ["_law_matter"] (spD K mg 1 (g_law_lists n))
  | 0 => fn_bad F sc_law_lists
  | n + 1 => by
    have ih := ok_law_lists F bS gS m_isinstance m_list m_tuple n
    exact fn_den (k := n + 1) F sc_law_lists fun cdv A outer s H E hr => (dss_one (ds_ret (de_if (dt_val (de_isSeq (by rfl) m_isinstance (by rfl) m_list (by rfl) m_tuple (de_var 0))) (by exact (de_lc (own := [("_law_part", 1)]) .cl rfl sc_law_lists.nd (di_seq (de_var 0)) (blkOk_by (own := [("_law_part", 1)]) (N := ["_law_matter", "_law_part"]) (sc := defScope s_law_lists) (by decide +kernel)) (fun _ _ _ _ _ => (dg_nm 1 sc_law_lists.nd)) (fun _ _ _ _ _ => dts_nil) (fun _ _ _ _ _ => (de_call ih hr (by rfl) gS F.kp bS px0 (da_cons (de_var 1) da_nil))))) (de_var 0))))
/-! ### _law_same -/
abbrev s_law_same : Stmt := topS 8
theorem sc_law_same : FnScope ["_law_found", "_law_due", "_law_lone", "_law_mate"] ["_law_found", "_law_due"] (defScope s_law_same) := ⟨rfl, rfl, rfl, by decide +kernel, rfl, by decide +kernel, by decide +kernel⟩
theorem ok_law_same {f : Addr} {fd : FuncData} (F : Fun K "_law_same" "_law_same" s_law_same f fd) (bS : Binds K fd ["_law_found", "_law_due"] []) (gS : mg "_law_same" = some (.ref f)) (m_isinstance : mg "isinstance" = none) (m_list : mg "list" = none) (m_tuple : mg "tuple" = none) (m_len : mg "len" = none) (m_zip : mg "zip" = none) (m_all : mg "all" = none) (m_str : mg "str" = none) (m_int : mg "int" = none) (m_bool : mg "bool" = none) : ∀ n : Nat, FnOk P w K mg base (L2.CX P w) (n + 1) f fd ["_law_found", "_law_due"] (spD K mg 2 (g_law_same n))
  | 0 => fn_bad F sc_law_same
  | n + 1 => by
    have ih := ok_law_same F bS gS m_isinstance m_list m_tuple m_len m_zip m_all m_str m_int m_bool n
    exact fn_den (k := n + 1) F sc_law_same fun cdv A outer s H E hr => (dss_cons (ds_if (dt_val (de_isSeq (by rfl) m_isinstance (by rfl) m_list (by rfl) m_tuple (de_var 1))) (dss_cons (ds_if (pt_wordOr (dw_or (dt_cmp (op_neD hr.units) fNe_ok (de_is is_lst (by rfl) m_isinstance (by rfl) m_list (by decide +kernel) (de_var 0)) (de_is is_lst (by rfl) m_isinstance (by rfl) m_list (by decide +kernel) (de_var 1))) (dw_or1 (dt_cmp (op_neD hr.units) fNe_ok (de_is is_tup (by rfl) m_isinstance (by rfl) m_tuple (by decide +kernel) (de_var 0)) (de_is is_tup (by rfl) m_isinstance (by rfl) m_tuple (by decide +kernel) (de_var 1)))))) (dss_one (ds_ret de_bl)) dss_nil) (dss_one (ds_ret (de_and (de_cmp (op_eqD hr.units) fEq_ok (de_callB call_len_seq fLen_ok (by rfl) m_len PySem.boot_len (da_cons (de_var 0) da_nil)) (de_callB call_len_seq fLen_ok (by rfl) m_len PySem.boot_len (da_cons (de_var 1) da_nil))) (de_one (de_callB (cr_all rfl) fAll_ok (by rfl) m_all (by decide +kernel) (da_cons (by exact (de_lc (own := [("_law_lone", 2), ("_law_mate", 3)]) .cl rfl sc_law_same.nd (di_zip2 (by rfl) m_zip (da_cons (de_var 0) (da_cons (de_var 1) da_nil))) (blkOk_by (own := [("_law_lone", 2), ("_law_mate", 3)]) (N := ["_law_found", "_law_due", "_law_lone", "_law_mate"]) (sc := defScope s_law_same) (by decide +kernel)) (fun _ _ _ _ _ => (dg_tp rfl (dgs_cons (dg_nm 2 sc_law_same.nd) (dgs_cons (dg_nm 3 sc_law_same.nd) dgs_nil)))) (fun _ _ _ _ _ => dts_nil) (fun _ _ _ _ _ => (de_call ih hr (by rfl) gS F.kp bS px0 (da_cons (de_var 2) (da_cons (de_var 3) da_nil)))))) da_nil))))))) dss_nil) (dss_cons (ds_if (pt_wordOr (dw_or (dt_cmp op_isN fIs_ok (de_var 1) de_non) (dw_or1 (dt_val (de_is is_str (by rfl) m_isinstance (by rfl) m_str (by decide +kernel) (de_var 1)))))) (dss_one (ds_ret (de_and (de_cmp (op_eqD hr.units) fEq_ok (de_var 0) (de_var 1)) (de_one (de_cmp (op_eqD hr.units) fEq_ok (de_is is_str (by rfl) m_isinstance (by rfl) m_str (by decide +kernel) (de_var 0)) (de_is is_str (by rfl) m_isinstance (by rfl) m_str (by decide +kernel) (de_var 1))))))) dss_nil) (dss_one (ds_ret (de_and (de_is is_int (by rfl) m_isinstance (by rfl) m_int (by decide +kernel) (de_var 0)) (de_and (de_cmp (op_eqD hr.units) fEq_ok (de_is is_bool (by rfl) m_isinstance (by rfl) m_bool (by decide +kernel) (de_var 0)) (de_is is_bool (by rfl) m_isinstance (by rfl) m_bool (by decide +kernel) (de_var 1))) (de_one (de_cmp (op_eqD hr.units) fEq_ok (de_var 0) (de_var 1)))))))))
/-! ### _law_right -/
abbrev s_law_right : Stmt := topS 16
theorem sc_law_right : FnScope ["_law_pot_here", "_law_count", "_law_tally", "_law_homes_here", "_law_line", "_law_k", "_law_sights", "_law_sizes", "_law_due", "_law_told", "_law_lists_here"] ["_law_pot_here"] (defScope s_law_right) := ⟨rfl, rfl, rfl, by decide +kernel, rfl, by decide +kernel, by decide +kernel⟩
theorem ok_law_right {f : Addr} {fd : FuncData} (F : Fun K "_law_right" "_law_right" s_law_right f fd) {f_law_take : Addr} {fd_law_take : FuncData} (F_law_take : Fun K "_law_take" "_law_take" s_law_take f_law_take fd_law_take) (b_law_take : Binds K fd_law_take ["_law_pot_here", "_law_bound"] []) (g_m_law_take : mg "_law_take" = some (.ref f_law_take)) (G_law_take : FnOk P w K mg base (L2.CX P w) 17 f_law_take fd_law_take ["_law_pot_here", "_law_bound"] (spD K mg 2 (g_law_take 6))) {f_law_homes : Addr} {fd_law_homes : FuncData} (F_law_homes : Fun K "_law_homes" "_law_homes" s_law_homes f_law_homes fd_law_homes) (b_law_homes : Binds K fd_law_homes ["_law_pot_here", "_law_most"] []) (g_m_law_homes : mg "_law_homes" = some (.ref f_law_homes)) (G_law_homes : FnOk P w K mg base (L2.CX P w) 17 f_law_homes fd_law_homes ["_law_pot_here", "_law_most"] (spD K mg 2 g_law_homes)) {f_law_every : Addr} {fd_law_every : FuncData} (F_law_every : Fun K "_law_every" "_law_every" s_law_every f_law_every fd_law_every) (b_law_every : Binds K fd_law_every ["_law_cage"] []) (g_m_law_every : mg "_law_every" = some (.ref f_law_every)) (G_law_every : FnOk P w K mg base (L2.CX P w) 17 f_law_every fd_law_every ["_law_cage"] (spD K mg 1 g_law_every)) {f_law_sees : Addr} {fd_law_sees : FuncData} (F_law_sees : Fun K "_law_sees" "_law_sees" s_law_sees f_law_sees fd_law_sees) (b_law_sees : Binds K fd_law_sees ["_law_line", "_law_homes_here"] []) (g_m_law_sees : mg "_law_sees" = some (.ref f_law_sees)) (G_law_sees : FnOk P w K mg base (L2.CX P w) 17 f_law_sees fd_law_sees ["_law_line", "_law_homes_here"] (spD K mg 2 g_law_sees)) {f_views_many : Addr} {fd_views_many : FuncData} (F_views_many : Fun K "views_many" "views_many" s_views_many f_views_many fd_views_many) (b_views_many : Binds K fd_views_many ["many", "houses"] []) (g_m_views_many : mg "views_many" = some (.ref f_views_many)) (G_views_many : FnOk P w K mg base (L2.CX P w) 17 f_views_many fd_views_many ["many", "houses"] (spD K mg 2 g_views_many)) {f_most_rows : Addr} {fd_most_rows : FuncData} (F_most_rows : Fun K "most_rows" "most_rows" s_most_rows f_most_rows fd_most_rows) (b_most_rows : Binds K fd_most_rows ["many", "houses"] []) (g_m_most_rows : mg "most_rows" = some (.ref f_most_rows)) (G_most_rows : FnOk P w K mg base (L2.CX P w) 17 f_most_rows fd_most_rows ["many", "houses"] (spD K mg 2 g_most_rows)) {f_known_rows : Addr} {fd_known_rows : FuncData} (F_known_rows : Fun K "known_rows" "known_rows" s_known_rows f_known_rows fd_known_rows) (b_known_rows : Binds K fd_known_rows ["many", "houses"] []) (g_m_known_rows : mg "known_rows" = some (.ref f_known_rows)) (G_known_rows : FnOk P w K mg base (L2.CX P w) 17 f_known_rows fd_known_rows ["many", "houses"] (spD K mg 2 g_known_rows)) {f_law_lists : Addr} {fd_law_lists : FuncData} (F_law_lists : Fun K "_law_lists" "_law_lists" s_law_lists f_law_lists fd_law_lists) (b_law_lists : Binds K fd_law_lists ["_law_matter"] []) (g_m_law_lists : mg "_law_lists" = some (.ref f_law_lists)) (G_law_lists : FnOk P w K mg base (L2.CX P w) 17 f_law_lists fd_law_lists ["_law_matter"] (spD K mg 1 (g_law_lists 6))) {f_law_same : Addr} {fd_law_same : FuncData} (F_law_same : Fun K "_law_same" "_law_same" s_law_same f_law_same fd_law_same) (b_law_same : Binds K fd_law_same ["_law_found", "_law_due"] []) (g_m_law_same : mg "_law_same" = some (.ref f_law_same)) (G_law_same : FnOk P w K mg base (L2.CX P w) 17 f_law_same fd_law_same ["_law_found", "_law_due"] (spD K mg 2 (g_law_same 16))) (k_views_many_houses_many : KB0 K fd_views_many ["many", "houses"] ["houses", "many"] (gp [1, 0]) (gp [1, 0])) (k_most_rows_houses_many : KB0 K fd_most_rows ["many", "houses"] ["houses", "many"] (gp [1, 0]) (gp [1, 0])) (k_known_rows_houses_many : KB0 K fd_known_rows ["many", "houses"] ["houses", "many"] (gp [1, 0]) (gp [1, 0])) (m_range : mg "range" = none) (m_len : mg "len" = none) (m_max : mg "max" = none) : FnOk P w K mg base (L2.CX P w) 18 f fd ["_law_pot_here"] (spD K mg 1 g_law_right) :=
  fn_den (k := 17) F sc_law_right fun cdv A outer s H E hr => (dss_cons (ds_asg (de_tup (da_cons (de_bin op_addW fAdd_ok de_int (de_call G_law_take hr (by rfl) g_m_law_take F_law_take.kp b_law_take (fun σ => passAt (W := fun cls d _ H => E cls d H) (takes_of rfl rfl rfl rfl) σ) (da_cons (de_var 0) (da_cons de_int da_nil)))) (da_cons de_tnew da_nil))) (dg_tp rfl (dgs_cons (dg_nm 1 sc_law_right.nd) (dgs_cons (dg_nm 2 sc_law_right.nd) dgs_nil)))) (dss_cons (ds_set 3 sc_law_right.nd (de_call G_law_homes hr (by rfl) g_m_law_homes F_law_homes.kp b_law_homes (fun σ => passAt (W := fun cls d _ H => E cls d H) (takes_of rfl rfl rfl rfl) σ) (da_cons (de_var 0) (da_cons de_int da_nil)))) (dss_cons (ds_for (passes rfl) rfl (di_seq (de_call G_law_every hr (by rfl) g_m_law_every F_law_every.kp b_law_every (fun σ => passAt (W := fun cls d _ H => E cls d H) (takes_of rfl rfl rfl rfl) σ) (da_cons (by exact (de_lc (own := [("_law_k", 5)]) .cl rfl sc_law_right.nd (di_rg1 (by rfl) m_range (da_cons (de_var 1) da_nil)) (blkOk_by (own := [("_law_k", 5)]) (N := ["_law_pot_here", "_law_count", "_law_tally", "_law_homes_here", "_law_line", "_law_k", "_law_sights", "_law_sizes", "_law_due", "_law_told", "_law_lists_here"]) (sc := defScope s_law_right) (by decide +kernel)) (fun _ _ _ _ _ => (dg_nm 5 sc_law_right.nd)) (fun _ _ _ _ _ => dts_nil) (fun _ _ _ _ _ => (de_tup (da_cons (de_bin op_sub fSub_ok de_int (de_var 5)) (da_cons de_int (da_cons (de_var 5) da_nil))))))) da_nil))) (dg_nm 4 sc_law_right.nd) (dss_cons (ds_set 6 sc_law_right.nd (de_call G_law_sees hr (by rfl) g_m_law_sees F_law_sees.kp b_law_sees (fun σ => passAt (W := fun cls d _ H => E cls d H) (takes_of rfl rfl rfl rfl) σ) (da_cons (de_var 4) (da_cons (de_var 3) da_nil)))) (dss_one (ds_asgM (de_bin op_addW fAdd_ok (de_tget2 (un70 hr) (de_var 2) (de_var 6) de_int ⟨rfl, by rfl, by rfl, by rfl⟩) de_int) (dm_putT (un70 hr) (de_var 2) (de_var 6)))))) (dss_cons (ds_lock (i := 2) (ds_setLc (own := [("_law_sights", 6)]) .st 7 rfl sc_law_right.nd (by rfl) (di_keysV (de_var 2)) (blkOk_by (own := [("_law_sights", 6)]) (N := ["_law_pot_here", "_law_count", "_law_tally", "_law_homes_here", "_law_line", "_law_k", "_law_sights", "_law_sizes", "_law_due", "_law_told", "_law_lists_here"]) (sc := defScope s_law_right) (by decide +kernel)) (fun _ _ _ _ _ => (dg_nm 6 sc_law_right.nd)) (fun _ _ _ _ _ => dts_nil) (fun _ _ _ _ _ => (de_tget (un70 hr) (de_var 2) (de_var 6))))) (dss_cons (ds_set 8 sc_law_right.nd (de_cl (da_cons (de_callB call_len_seq fLen_ok (by rfl) m_len PySem.boot_len (da_cons (de_var 7) da_nil)) (da_cons (de_callB (cr_maxS rfl (hu_of hr)) fMaxS_ok (by rfl) m_max (by decide +kernel) (da_cons (de_var 7) da_nil)) (da_cons (de_mth PySem.F.slot_list_count PySem.F.type_list_count mt_lcount fCount_ok (de_var 7) (da_cons de_int da_nil)) da_nil))))) (dss_cons (ds_set 9 sc_law_right.nd (de_cl (da_cons (de_call G_views_many hr (by rfl) g_m_views_many F_views_many.kp b_views_many (fun σ => passAt (W := fun cls d _ H => E cls d H) (takes_of rfl rfl rfl rfl) σ) (da_cons (de_var 1) (da_cons (de_var 3) da_nil))) (da_cons (de_call G_most_rows hr (by rfl) g_m_most_rows F_most_rows.kp b_most_rows (fun σ => passAt (W := fun cls d _ H => E cls d H) (takes_of rfl rfl rfl rfl) σ) (da_cons (de_var 1) (da_cons (de_var 3) da_nil))) (da_cons (de_call G_known_rows hr (by rfl) g_m_known_rows F_known_rows.kp b_known_rows (fun σ => passAt (W := fun cls d _ H => E cls d H) (takes_of rfl rfl rfl rfl) σ) (da_cons (de_var 1) (da_cons (de_var 3) da_nil))) da_nil))))) (dss_cons (ds_set 10 sc_law_right.nd (de_call G_law_lists hr (by rfl) g_m_law_lists F_law_lists.kp b_law_lists (fun σ => passAt (W := fun cls d _ H => E cls d H) (takes_of rfl rfl rfl rfl) σ) (da_cons (de_var 3) da_nil))) (dss_cons (ds_set 9 sc_law_right.nd (de_bin op_addW fAdd_ok (de_var 9) (de_cl (da_cons (de_callK (ks := ["houses", "many"]) (π := [1, 0]) G_views_many hr (by rfl) g_m_views_many F_views_many.kp k_views_many_houses_many (fun σ => passAt (W := fun cls d _ H => E cls d H) (takes_of rfl rfl rfl rfl) σ) (dk_cons (de_var 10) (dk_cons (de_var 1) dk_nil))) (da_cons (de_callK (ks := ["houses", "many"]) (π := [1, 0]) G_most_rows hr (by rfl) g_m_most_rows F_most_rows.kp k_most_rows_houses_many (fun σ => passAt (W := fun cls d _ H => E cls d H) (takes_of rfl rfl rfl rfl) σ) (dk_cons (de_var 10) (dk_cons (de_var 1) dk_nil))) da_nil))))) (dss_one (ds_ret (de_call G_law_same hr (by rfl) g_m_law_same F_law_same.kp b_law_same (fun σ => passAt (W := fun cls d _ H => E cls d H) (takes_of rfl rfl rfl rfl) σ) (da_cons (de_bin op_addW fAdd_ok (de_var 9) (de_cl (da_cons (de_callK (ks := ["houses", "many"]) (π := [1, 0]) G_known_rows hr (by rfl) g_m_known_rows F_known_rows.kp k_known_rows_houses_many (fun σ => passAt (W := fun cls d _ H => E cls d H) (takes_of rfl rfl rfl rfl) σ) (dk_cons (de_var 10) (dk_cons (de_var 1) dk_nil))) da_nil))) (da_cons (de_bin op_addW fAdd_ok (de_var 8) (de_var 8)) da_nil)))))))))))))
/-! ### _law_pot -/
abbrev s_law_pot : Stmt := topS 6
theorem sc_law_pot : FnScope ["_law_script", "_law_k", "_law_cell"] ["_law_script", "_law_k"] (defScope s_law_pot) := ⟨rfl, rfl, rfl, by decide +kernel, rfl, by decide +kernel, by decide +kernel⟩
theorem ok_law_pot {f : Addr} {fd : FuncData} (F : Fun K "_law_pot" "_law_pot" s_law_pot f fd) (m_len : mg "len" = none) (m_abs : mg "abs" = none) (m_int : mg "int" = none) : FnOk P w K mg base (L2.CX P w) 1 f fd ["_law_script", "_law_k"] (spD K mg 2 g_law_pot) :=
  fn_den (k := 0) F sc_law_pot fun cdv A outer s H E hr => (dss_cons (ds_set 2 sc_law_pot.nd de_int) (dss_cons (ds_if (dt_cmp op_lt fCmp_ok (de_var 1) (de_callB call_len_seq fLen_ok (by rfl) m_len PySem.boot_len (da_cons (de_var 0) da_nil))) (dss_one (ds_set 2 sc_law_pot.nd (de_ix (ix_list.or ix_tup) fIx_ok (de_var 0) (de_var 1)))) dss_nil) (dss_one (ds_ret (de_lst (da_cons (de_bin (OpR.or op_mul op_rep) fMul_ok (de_callB call_abs fAbs_ok (by rfl) m_abs (by decide +kernel) (da_cons (de_var 2) da_nil)) (de_callTy call_int1 fInt_ok (by rfl) m_int (by decide +kernel) (da_cons (de_cmp op_ge fCmp_ok (de_callB call_abs fAbs_ok (by rfl) m_abs (by decide +kernel) (da_cons (de_var 2) da_nil)) (de_bin op_pow fPow_ok de_int de_int)) da_nil))) (da_cons (de_bin op_mod fMod_ok (de_bin (OpR.or op_mul op_rep) fMul_ok (de_bin op_addW fAdd_ok (de_bin op_addW fAdd_ok (de_bin op_mod fMod_ok (de_var 2) de_int) (de_bin (OpR.or op_mul op_rep) fMul_ok de_int (de_var 1))) de_int) de_int) de_int) (da_cons de_int da_nil))))))))
/-! ### law -/
abbrev s_law : Stmt := topS 17
theorem sc_law : FnScope ["_law_script", "_law_k"] ["_law_script"] (defScope s_law) := ⟨rfl, rfl, rfl, by decide +kernel, rfl, by decide +kernel, by decide +kernel⟩
theorem ok_law {f : Addr} {fd : FuncData} (F : Fun K "law" "law" s_law f fd) {f_law_right : Addr} {fd_law_right : FuncData} (F_law_right : Fun K "_law_right" "_law_right" s_law_right f_law_right fd_law_right) (b_law_right : Binds K fd_law_right ["_law_pot_here"] []) (g_m_law_right : mg "_law_right" = some (.ref f_law_right)) (G_law_right : FnOk P w K mg base (L2.CX P w) 18 f_law_right fd_law_right ["_law_pot_here"] (spD K mg 1 g_law_right)) {f_law_pot : Addr} {fd_law_pot : FuncData} (F_law_pot : Fun K "_law_pot" "_law_pot" s_law_pot f_law_pot fd_law_pot) (b_law_pot : Binds K fd_law_pot ["_law_script", "_law_k"] []) (g_m_law_pot : mg "_law_pot" = some (.ref f_law_pot)) (G_law_pot : FnOk P w K mg base (L2.CX P w) 18 f_law_pot fd_law_pot ["_law_script", "_law_k"] (spD K mg 2 g_law_pot)) (m_len : mg "len" = none) (m_min : mg "min" = none) (m_max : mg "max" = none) (m_range : mg "range" = none) (m_all : mg "all" = none) : FnOk P w K mg base (L2.CX P w) 19 f fd ["_law_script"] (spD K mg 1 g_law) :=
  fn_den (k := 18) F sc_law fun cdv A outer s H E hr => (dss_one (ds_ret (de_callB (cr_all rfl) fAll_ok (by rfl) m_all (by decide +kernel) (da_cons (by exact (de_lc (own := [("_law_k", 1)]) .cl rfl sc_law.nd (di_rg1 (by rfl) m_range (da_cons (de_callB (call_max2 rfl) fMax2_ok (by rfl) m_max (by decide +kernel) (da_cons de_int (da_cons (de_callB (call_min2 rfl) fMin2_ok (by rfl) m_min (by decide +kernel) (da_cons de_int (da_cons (de_callB call_len_seq fLen_ok (by rfl) m_len PySem.boot_len (da_cons (de_var 0) da_nil)) da_nil))) da_nil))) da_nil)) (blkOk_by (own := [("_law_k", 1)]) (N := ["_law_script", "_law_k"]) (sc := defScope s_law) (by decide +kernel)) (fun _ _ _ _ _ => (dg_nm 1 sc_law.nd)) (fun _ _ _ _ _ => dts_nil) (fun _ _ _ _ _ => (de_call G_law_right hr (by rfl) g_m_law_right F_law_right.kp b_law_right px0 (da_cons (de_call G_law_pot hr (by rfl) g_m_law_pot F_law_pot.kp b_law_pot px0 (da_cons (de_var 0) (da_cons (de_var 1) da_nil))) da_nil))))) da_nil))))
end
end Den

namespace Den
open PySem PySem.Spec PyProof.Rows L2 Bal
/-! ### what the top has written -/
theorem all_mk {l : PySem.W.OpenLaw} {w : World} {K : PySem.W.Frag} {h : Heap} {mg : Str → Option Value} {fa : Addr} (X : K.In h) (G : h.Ns mainGlobals mg) (hfa : mg "law" = some (.ref fa)) (OTD13 : ∀ f, mg "_law_right" = some (.ref f) → Den.OwnT K f h)
    {fD0 : Addr} {odD0 anD0 : Option Addr} {slD0 : Array (Option Value)} {ocD0 kVD0 dcD0 pmD0 cdD0 ctD0 : Value}
    {fD1 : Addr} {odD1 anD1 : Option Addr} {slD1 : Array (Option Value)} {ocD1 kVD1 dcD1 pmD1 cdD1 ctD1 : Value}
    {fD2 : Addr} {odD2 anD2 : Option Addr} {slD2 : Array (Option Value)} {ocD2 kVD2 dcD2 pmD2 cdD2 ctD2 : Value}
    {fD3 : Addr} {odD3 anD3 : Option Addr} {slD3 : Array (Option Value)} {ocD3 kVD3 dcD3 pmD3 cdD3 ctD3 : Value}
    {fD4 : Addr} {odD4 anD4 : Option Addr} {slD4 : Array (Option Value)} {ocD4 kVD4 dcD4 pmD4 cdD4 ctD4 : Value}
    {fD5 : Addr} {odD5 anD5 : Option Addr} {slD5 : Array (Option Value)} {ocD5 kVD5 dcD5 pmD5 cdD5 ctD5 : Value}
    {fD6 : Addr} {odD6 anD6 : Option Addr} {slD6 : Array (Option Value)} {ocD6 kVD6 dcD6 pmD6 cdD6 ctD6 : Value}
    {fD7 : Addr} {odD7 anD7 : Option Addr} {slD7 : Array (Option Value)} {ocD7 kVD7 dcD7 pmD7 cdD7 ctD7 : Value}
    {fD8 : Addr} {odD8 anD8 : Option Addr} {slD8 : Array (Option Value)} {ocD8 kVD8 dcD8 pmD8 cdD8 ctD8 : Value}
    {fD9 : Addr} {odD9 anD9 : Option Addr} {slD9 : Array (Option Value)} {ocD9 kVD9 dcD9 pmD9 cdD9 ctD9 : Value}
    {fD10 : Addr} {odD10 anD10 : Option Addr} {slD10 : Array (Option Value)} {ocD10 kVD10 dcD10 pmD10 cdD10 ctD10 : Value}
    {fD11 : Addr} {odD11 anD11 : Option Addr} {slD11 : Array (Option Value)} {ocD11 kVD11 dcD11 pmD11 cdD11 ctD11 : Value}
    {fD12 : Addr} {odD12 anD12 : Option Addr} {slD12 : Array (Option Value)} {ocD12 kVD12 dcD12 pmD12 cdD12 ctD12 : Value}
    {fD13 : Addr} {odD13 anD13 : Option Addr} {slD13 : Array (Option Value)} {ocD13 kVD13 dcD13 pmD13 cdD13 ctD13 : Value}
    {fD14 : Addr} {odD14 anD14 : Option Addr} {slD14 : Array (Option Value)} {ocD14 kVD14 dcD14 pmD14 cdD14 ctD14 : Value}
    {fD15 : Addr} {odD15 anD15 : Option Addr} {slD15 : Array (Option Value)} {ocD15 kVD15 dcD15 pmD15 cdD15 ctD15 : Value}
    {cTD13 PTD13 : Addr} {eTD13 : Value} {dTD13 : Option Addr} {vTD13 : Array Value} {sTD13 : Array (Option Value)}
    (aD0 : PySem.W.nsIn K mainGlobals "_law_take" = some (some (.ref fD0))) (lD0 : K.lookup fD0 = some ⟨ocD0, odD0, .func (PySem.W.fnOf "_law_take" "_law_take" (defArgs s_law_take) (defBody s_law_take) (defScope s_law_take) .none kVD0 dcD0 pmD0 anD0 cdD0 ctD0), slD0⟩) (cD0 : PySem.W.codeIn K cdD0 "_law_take" = true) (kD0 : PySem.W.keepIn K (.ref fD0) = true)
    (aD1 : PySem.W.nsIn K mainGlobals "_law_floors" = some (some (.ref fD1))) (lD1 : K.lookup fD1 = some ⟨ocD1, odD1, .func (PySem.W.fnOf "_law_floors" "_law_floors" (defArgs s_law_floors) (defBody s_law_floors) (defScope s_law_floors) .none kVD1 dcD1 pmD1 anD1 cdD1 ctD1), slD1⟩) (cD1 : PySem.W.codeIn K cdD1 "_law_floors" = true) (kD1 : PySem.W.keepIn K (.ref fD1) = true)
    (aD2 : PySem.W.nsIn K mainGlobals "_law_homes" = some (some (.ref fD2))) (lD2 : K.lookup fD2 = some ⟨ocD2, odD2, .func (PySem.W.fnOf "_law_homes" "_law_homes" (defArgs s_law_homes) (defBody s_law_homes) (defScope s_law_homes) .none kVD2 dcD2 pmD2 anD2 cdD2 ctD2), slD2⟩) (cD2 : PySem.W.codeIn K cdD2 "_law_homes" = true) (kD2 : PySem.W.keepIn K (.ref fD2) = true)
    (aD3 : PySem.W.nsIn K mainGlobals "_law_built" = some (some (.ref fD3))) (lD3 : K.lookup fD3 = some ⟨ocD3, odD3, .func (PySem.W.fnOf "_law_built" "_law_built" (defArgs s_law_built) (defBody s_law_built) (defScope s_law_built) .none kVD3 dcD3 pmD3 anD3 cdD3 ctD3), slD3⟩) (cD3 : PySem.W.codeIn K cdD3 "_law_built" = true) (kD3 : PySem.W.keepIn K (.ref fD3) = true)
    (aD4 : PySem.W.nsIn K mainGlobals "_law_every" = some (some (.ref fD4))) (lD4 : K.lookup fD4 = some ⟨ocD4, odD4, .func (PySem.W.fnOf "_law_every" "_law_every" (defArgs s_law_every) (defBody s_law_every) (defScope s_law_every) .none kVD4 dcD4 pmD4 anD4 cdD4 ctD4), slD4⟩) (cD4 : PySem.W.codeIn K cdD4 "_law_every" = true) (kD4 : PySem.W.keepIn K (.ref fD4) = true)
    (aD5 : PySem.W.nsIn K mainGlobals "_law_front" = some (some (.ref fD5))) (lD5 : K.lookup fD5 = some ⟨ocD5, odD5, .func (PySem.W.fnOf "_law_front" "_law_front" (defArgs s_law_front) (defBody s_law_front) (defScope s_law_front) .none kVD5 dcD5 pmD5 anD5 cdD5 ctD5), slD5⟩) (cD5 : PySem.W.codeIn K cdD5 "_law_front" = true) (kD5 : PySem.W.keepIn K (.ref fD5) = true)
    (aD6 : PySem.W.nsIn K mainGlobals "_law_sees" = some (some (.ref fD6))) (lD6 : K.lookup fD6 = some ⟨ocD6, odD6, .func (PySem.W.fnOf "_law_sees" "_law_sees" (defArgs s_law_sees) (defBody s_law_sees) (defScope s_law_sees) .none kVD6 dcD6 pmD6 anD6 cdD6 ctD6), slD6⟩) (cD6 : PySem.W.codeIn K cdD6 "_law_sees" = true) (kD6 : PySem.W.keepIn K (.ref fD6) = true)
    (aD7 : PySem.W.nsIn K mainGlobals "stretch_sizes" = some (some (.ref fD7))) (lD7 : K.lookup fD7 = some ⟨ocD7, odD7, .func (PySem.W.fnOf "stretch_sizes" "stretch_sizes" (defArgs s_stretch_sizes) (defBody s_stretch_sizes) (defScope s_stretch_sizes) .none kVD7 dcD7 pmD7 anD7 cdD7 ctD7), slD7⟩) (cD7 : PySem.W.codeIn K cdD7 "stretch_sizes" = true) (kD7 : PySem.W.keepIn K (.ref fD7) = true)
    (aD8 : PySem.W.nsIn K mainGlobals "views_many" = some (some (.ref fD8))) (lD8 : K.lookup fD8 = some ⟨ocD8, odD8, .func (PySem.W.fnOf "views_many" "views_many" (defArgs s_views_many) (defBody s_views_many) (defScope s_views_many) .none kVD8 dcD8 pmD8 anD8 cdD8 ctD8), slD8⟩) (cD8 : PySem.W.codeIn K cdD8 "views_many" = true) (kD8 : PySem.W.keepIn K (.ref fD8) = true)
    (aD9 : PySem.W.nsIn K mainGlobals "most_rows" = some (some (.ref fD9))) (lD9 : K.lookup fD9 = some ⟨ocD9, odD9, .func (PySem.W.fnOf "most_rows" "most_rows" (defArgs s_most_rows) (defBody s_most_rows) (defScope s_most_rows) .none kVD9 dcD9 pmD9 anD9 cdD9 ctD9), slD9⟩) (cD9 : PySem.W.codeIn K cdD9 "most_rows" = true) (kD9 : PySem.W.keepIn K (.ref fD9) = true)
    (aD10 : PySem.W.nsIn K mainGlobals "known_rows" = some (some (.ref fD10))) (lD10 : K.lookup fD10 = some ⟨ocD10, odD10, .func (PySem.W.fnOf "known_rows" "known_rows" (defArgs s_known_rows) (defBody s_known_rows) (defScope s_known_rows) .none kVD10 dcD10 pmD10 anD10 cdD10 ctD10), slD10⟩) (cD10 : PySem.W.codeIn K cdD10 "known_rows" = true) (kD10 : PySem.W.keepIn K (.ref fD10) = true)
    (aD11 : PySem.W.nsIn K mainGlobals "_law_lists" = some (some (.ref fD11))) (lD11 : K.lookup fD11 = some ⟨ocD11, odD11, .func (PySem.W.fnOf "_law_lists" "_law_lists" (defArgs s_law_lists) (defBody s_law_lists) (defScope s_law_lists) .none kVD11 dcD11 pmD11 anD11 cdD11 ctD11), slD11⟩) (cD11 : PySem.W.codeIn K cdD11 "_law_lists" = true) (kD11 : PySem.W.keepIn K (.ref fD11) = true)
    (aD12 : PySem.W.nsIn K mainGlobals "_law_same" = some (some (.ref fD12))) (lD12 : K.lookup fD12 = some ⟨ocD12, odD12, .func (PySem.W.fnOf "_law_same" "_law_same" (defArgs s_law_same) (defBody s_law_same) (defScope s_law_same) .none kVD12 dcD12 pmD12 anD12 cdD12 ctD12), slD12⟩) (cD12 : PySem.W.codeIn K cdD12 "_law_same" = true) (kD12 : PySem.W.keepIn K (.ref fD12) = true)
    (aD13 : PySem.W.nsIn K mainGlobals "_law_right" = some (some (.ref fD13))) (lD13 : K.lookup fD13 = some ⟨ocD13, odD13, .func (PySem.W.fnOf "_law_right" "_law_right" (defArgs s_law_right) (defBody s_law_right) (defScope s_law_right) .none kVD13 dcD13 pmD13 anD13 cdD13 ctD13), slD13⟩) (cD13 : PySem.W.codeIn K cdD13 "_law_right" = true) (kD13 : PySem.W.keepIn K (.ref fD13) = true)
    (aD14 : PySem.W.nsIn K mainGlobals "_law_pot" = some (some (.ref fD14))) (lD14 : K.lookup fD14 = some ⟨ocD14, odD14, .func (PySem.W.fnOf "_law_pot" "_law_pot" (defArgs s_law_pot) (defBody s_law_pot) (defScope s_law_pot) .none kVD14 dcD14 pmD14 anD14 cdD14 ctD14), slD14⟩) (cD14 : PySem.W.codeIn K cdD14 "_law_pot" = true) (kD14 : PySem.W.keepIn K (.ref fD14) = true)
    (aD15 : PySem.W.nsIn K mainGlobals "law" = some (some (.ref fD15))) (lD15 : K.lookup fD15 = some ⟨ocD15, odD15, .func (PySem.W.fnOf "law" "law" (defArgs s_law) (defBody s_law) (defScope s_law) .none kVD15 dcD15 pmD15 anD15 cdD15 ctD15), slD15⟩) (cD15 : PySem.W.codeIn K cdD15 "law" = true) (kD15 : PySem.W.keepIn K (.ref fD15) = true)
    (oTD13 : cdD13 = .ref cTD13) (kTD13 : K.lookup cTD13 = some ⟨eTD13, dTD13, .fields vTD13, sTD13⟩) (pTD13 : vTD13[11]? = some (.ref PTD13)) (nTD13 : K.lookup PTD13 = none)
    (bT__law_all_right : PySem.W.nsIn K mainGlobals "_law_all_right" = some none)
    (b_range : PySem.W.nsIn K mainGlobals "range" = some none)
    (b_tuple : PySem.W.nsIn K mainGlobals "tuple" = some none)
    (b_zip : PySem.W.nsIn K mainGlobals "zip" = some none)
    (b_int : PySem.W.nsIn K mainGlobals "int" = some none)
    (b_sorted : PySem.W.nsIn K mainGlobals "sorted" = some none)
    (b_len : PySem.W.nsIn K mainGlobals "len" = some none)
    (b_max : PySem.W.nsIn K mainGlobals "max" = some none)
    (b_isinstance : PySem.W.nsIn K mainGlobals "isinstance" = some none)
    (b_list : PySem.W.nsIn K mainGlobals "list" = some none)
    (b_all : PySem.W.nsIn K mainGlobals "all" = some none)
    (b_str : PySem.W.nsIn K mainGlobals "str" = some none)
    (b_bool : PySem.W.nsIn K mainGlobals "bool" = some none)
    (b_abs : PySem.W.nsIn K mainGlobals "abs" = some none)
    (b_min : PySem.W.nsIn K mainGlobals "min" = some none) :
    LamX.LawAtS l w K (L2.CX l.prog w) 19 63 "_law_script" mg fa h := by
  have e := hfa.symm.trans (PySem.W.mg_of X G aD15)
  cases e
  have FD0 := fun_mk (st := s_law_take) lD0 cD0 kD0
  have gD0 := PySem.W.mg_of X G aD0
  have FD1 := fun_mk (st := s_law_floors) lD1 cD1 kD1
  have gD1 := PySem.W.mg_of X G aD1
  have FD2 := fun_mk (st := s_law_homes) lD2 cD2 kD2
  have gD2 := PySem.W.mg_of X G aD2
  have FD3 := fun_mk (st := s_law_built) lD3 cD3 kD3
  have gD3 := PySem.W.mg_of X G aD3
  have FD4 := fun_mk (st := s_law_every) lD4 cD4 kD4
  have gD4 := PySem.W.mg_of X G aD4
  have FD5 := fun_mk (st := s_law_front) lD5 cD5 kD5
  have gD5 := PySem.W.mg_of X G aD5
  have FD6 := fun_mk (st := s_law_sees) lD6 cD6 kD6
  have gD6 := PySem.W.mg_of X G aD6
  have FD7 := fun_mk (st := s_stretch_sizes) lD7 cD7 kD7
  have gD7 := PySem.W.mg_of X G aD7
  have FD8 := fun_mk (st := s_views_many) lD8 cD8 kD8
  have gD8 := PySem.W.mg_of X G aD8
  have FD9 := fun_mk (st := s_most_rows) lD9 cD9 kD9
  have gD9 := PySem.W.mg_of X G aD9
  have FD10 := fun_mk (st := s_known_rows) lD10 cD10 kD10
  have gD10 := PySem.W.mg_of X G aD10
  have FD11 := fun_mk (st := s_law_lists) lD11 cD11 kD11
  have gD11 := PySem.W.mg_of X G aD11
  have FD12 := fun_mk (st := s_law_same) lD12 cD12 kD12
  have gD12 := PySem.W.mg_of X G aD12
  have FD13 := fun_mk (st := s_law_right) lD13 cD13 kD13
  have gD13 := PySem.W.mg_of X G aD13
  have FD14 := fun_mk (st := s_law_pot) lD14 cD14 kD14
  have gD14 := PySem.W.mg_of X G aD14
  have FD15 := fun_mk (st := s_law) lD15 cD15 kD15
  have gD15 := PySem.W.mg_of X G aD15
  have m_range := PySem.W.mg_none_of X G b_range
  have m_tuple := PySem.W.mg_none_of X G b_tuple
  have m_zip := PySem.W.mg_none_of X G b_zip
  have m_int := PySem.W.mg_none_of X G b_int
  have m_sorted := PySem.W.mg_none_of X G b_sorted
  have m_len := PySem.W.mg_none_of X G b_len
  have m_max := PySem.W.mg_none_of X G b_max
  have m_isinstance := PySem.W.mg_none_of X G b_isinstance
  have m_list := PySem.W.mg_none_of X G b_list
  have m_all := PySem.W.mg_none_of X G b_all
  have m_str := PySem.W.mg_none_of X G b_str
  have m_bool := PySem.W.mg_none_of X G b_bool
  have m_abs := PySem.W.mg_none_of X G b_abs
  have m_min := PySem.W.mg_none_of X G b_min
  have tbD13 := Den.tab_of (nm := "_law_right") gD13 lD13 oTD13 kTD13 pTD13
  have owD13 := OTD13 _ gD13 cTD13 PTD13 _ _ _ _ _ _ lD13 rfl oTD13 kTD13 pTD13
  have tb__law_all_right := Den.tab_no (K := K) (nm := "_law_all_right") (PySem.W.mg_none_of X G bT__law_all_right)
  have hTs : Den.tabsOf K mg = [(PTD13, ((("_law_right" : Str) ++ ".<locals>.") ++ "<lambda>" : Str))] := by
    unfold Den.tabsOf Den.lamNames
    simp only [List.filterMap_cons, List.filterMap_nil, tbD13, tb__law_all_right]
  have bD0 := FD0.binds (ps := ["_law_pot_here", "_law_bound"]) fun _ _ _ _ _ _ us hl => match us, hl with | [_, _], _ => rfl
  have bD1 := FD1.binds (ps := ["_law_pot_here", "_law_most"]) fun _ _ _ _ _ _ us hl => match us, hl with | [_, _], _ => rfl
  have bD2 := FD2.binds (ps := ["_law_pot_here", "_law_most"]) fun _ _ _ _ _ _ us hl => match us, hl with | [_, _], _ => rfl
  have bD3 := FD3.binds (ps := ["_law_tall", "_law_numbers"]) fun _ _ _ _ _ _ us hl => match us, hl with | [_, _], _ => rfl
  have bD4 := FD4.binds (ps := ["_law_cage"]) fun _ _ _ _ _ _ us hl => match us, hl with | [_], _ => rfl
  have bD5 := FD5.binds (ps := ["_law_line", "_law_soul"]) fun _ _ _ _ _ _ us hl => match us, hl with | [_, _], _ => rfl
  have bD6 := FD6.binds (ps := ["_law_line", "_law_homes_here"]) fun _ _ _ _ _ _ us hl => match us, hl with | [_, _], _ => rfl
  have bD7 := FD7.binds (ps := ["taller", "houses"]) fun _ _ _ _ _ _ us hl => match us, hl with | [_, _], _ => rfl
  have bD8 := FD8.binds (ps := ["many", "houses"]) fun _ _ _ _ _ _ us hl => match us, hl with | [_, _], _ => rfl
  have bD9 := FD9.binds (ps := ["many", "houses"]) fun _ _ _ _ _ _ us hl => match us, hl with | [_, _], _ => rfl
  have bD10 := FD10.binds (ps := ["many", "houses"]) fun _ _ _ _ _ _ us hl => match us, hl with | [_, _], _ => rfl
  have bD11 := FD11.binds (ps := ["_law_matter"]) fun _ _ _ _ _ _ us hl => match us, hl with | [_], _ => rfl
  have bD12 := FD12.binds (ps := ["_law_found", "_law_due"]) fun _ _ _ _ _ _ us hl => match us, hl with | [_, _], _ => rfl
  have bD13 := FD13.binds (ps := ["_law_pot_here"]) fun _ _ _ _ _ _ us hl => match us, hl with | [_], _ => rfl
  have bD14 := FD14.binds (ps := ["_law_script", "_law_k"]) fun _ _ _ _ _ _ us hl => match us, hl with | [_, _], _ => rfl
  have bD15 := FD15.binds (ps := ["_law_script"]) fun _ _ _ _ _ _ us hl => match us, hl with | [_], _ => rfl
  have kD8_houses_many := kb_gp (ks := ["houses", "many"]) (ps := ["many", "houses"]) [1, 0] FD8 fun _ _ _ _ _ _ us hl => match us, hl with | [_, _], _ => rfl
  have kD9_houses_many := kb_gp (ks := ["houses", "many"]) (ps := ["many", "houses"]) [1, 0] FD9 fun _ _ _ _ _ _ us hl => match us, hl with | [_, _], _ => rfl
  have kD10_houses_many := kb_gp (ks := ["houses", "many"]) (ps := ["many", "houses"]) [1, 0] FD10 fun _ _ _ _ _ _ us hl => match us, hl with | [_, _], _ => rfl
  have fin : ∀ base : Heap, (∀ p ∈ ([(cTD13, PTD13)] : List (Addr × Addr)), LamX.TabB base mg p.1 p.2) → FnOk l.prog w K mg base (L2.CX l.prog w) 19 fa _ ["_law_script"] (spLaw K mg) := fun base TB => by
    have HD0 : FnOk l.prog w K mg base (L2.CX l.prog w) 7 _ _ ["_law_pot_here", "_law_bound"] (spD K mg 2 (Den.g_law_take 6)) := ok_law_take FD0 bD0 gD0 6
    have HD1 : FnOk l.prog w K mg base (L2.CX l.prog w) 8 _ _ ["_law_pot_here", "_law_most"] (spD K mg 2 Den.g_law_floors) := ok_law_floors FD1 FD0 bD0 gD0 (HD0.mono (by decide)) m_range
    have HD2 : FnOk l.prog w K mg base (L2.CX l.prog w) 9 _ _ ["_law_pot_here", "_law_most"] (spD K mg 2 Den.g_law_homes) := ok_law_homes FD2 FD1 bD1 gD1 (HD1.mono (by decide)) m_tuple
    have HD3 : FnOk l.prog w K mg base (L2.CX l.prog w) 1 _ _ ["_law_tall", "_law_numbers"] (spD K mg 2 Den.g_law_built) := ok_law_built FD3 m_zip m_tuple
    have HD4 : FnOk l.prog w K mg base (L2.CX l.prog w) 2 _ _ ["_law_cage"] (spD K mg 1 Den.g_law_every) := ok_law_every FD4 FD3 bD3 gD3 (HD3.mono (by decide)) m_range
    have HD5 : FnOk l.prog w K mg base (L2.CX l.prog w) 1 _ _ ["_law_line", "_law_soul"] (spD K mg 2 Den.g_law_front) := ok_law_front FD5 m_int
    have HD6 : FnOk l.prog w K mg base (L2.CX l.prog w) 2 _ _ ["_law_line", "_law_homes_here"] (spD K mg 2 Den.g_law_sees) := ok_law_sees FD6 FD5 bD5 gD5 (HD5.mono (by decide)) m_zip m_sorted m_tuple
    have HD7 : FnOk l.prog w K mg base (L2.CX l.prog w) 1 _ _ ["taller", "houses"] (spD K mg 2 Den.g_stretch_sizes) := ok_stretch_sizes FD7 m_range
    have HD8 : FnOk l.prog w K mg base (L2.CX l.prog w) 2 _ _ ["many", "houses"] (spD K mg 2 Den.g_views_many) := ok_views_many FD8 FD7 bD7 gD7 (HD7.mono (by decide)) m_range m_len
    have HD9 : FnOk l.prog w K mg base (L2.CX l.prog w) 2 _ _ ["many", "houses"] (spD K mg 2 Den.g_most_rows) := ok_most_rows FD9 FD7 bD7 gD7 (HD7.mono (by decide)) m_range m_max
    have HD10 : FnOk l.prog w K mg base (L2.CX l.prog w) 2 _ _ ["many", "houses"] (spD K mg 2 Den.g_known_rows) := ok_known_rows FD10 FD7 bD7 gD7 (HD7.mono (by decide)) m_range
    have HD11 : FnOk l.prog w K mg base (L2.CX l.prog w) 7 _ _ ["_law_matter"] (spD K mg 1 (Den.g_law_lists 6)) := ok_law_lists FD11 bD11 gD11 m_isinstance m_list m_tuple 6
    have HD12 : FnOk l.prog w K mg base (L2.CX l.prog w) 17 _ _ ["_law_found", "_law_due"] (spD K mg 2 (Den.g_law_same 16)) := ok_law_same FD12 bD12 gD12 m_isinstance m_list m_tuple m_len m_zip m_all m_str m_int m_bool 16
    have HD13 : FnOk l.prog w K mg base (L2.CX l.prog w) 18 _ _ ["_law_pot_here"] (spD K mg 1 Den.g_law_right) := ok_law_right FD13 FD0 bD0 gD0 (HD0.mono (by decide)) FD2 bD2 gD2 (HD2.mono (by decide)) FD4 bD4 gD4 (HD4.mono (by decide)) FD6 bD6 gD6 (HD6.mono (by decide)) FD8 bD8 gD8 (HD8.mono (by decide)) FD9 bD9 gD9 (HD9.mono (by decide)) FD10 bD10 gD10 (HD10.mono (by decide)) FD11 bD11 gD11 (HD11.mono (by decide)) FD12 bD12 gD12 (HD12.mono (by decide)) kD8_houses_many kD9_houses_many kD10_houses_many m_range m_len m_max
    have HD14 : FnOk l.prog w K mg base (L2.CX l.prog w) 1 _ _ ["_law_script", "_law_k"] (spD K mg 2 Den.g_law_pot) := ok_law_pot FD14 m_len m_abs m_int
    have HD15 : FnOk l.prog w K mg base (L2.CX l.prog w) 19 _ _ ["_law_script"] (spD K mg 1 Den.g_law) := ok_law FD15 FD13 bD13 gD13 (HD13.mono (by decide)) FD14 bD14 gD14 (HD14.mono (by decide)) m_len m_min m_max m_range m_all
    exact law_end (fun ns hl => v_law ns hl) HD15
  refine Den.at_head (cs := [(cTD13, PTD13)]) (fun p hp => by
      simp only [List.mem_cons, List.not_mem_nil, or_false] at hp
      rcases hp with rfl
      · exact owD13.1
      ) (fun p hp => by
      simp only [List.mem_cons, List.not_mem_nil, or_false] at hp
      rcases hp with rfl
      · exact nTD13
      ) (fun p hp => by
      simp only [List.mem_cons, List.not_mem_nil, or_false] at hp
      rcases hp with rfl
      · exact owD13.2
      ) (fun p hp => by
      rw [hTs] at hp
      simp only [List.mem_cons, List.not_mem_nil, or_false] at hp
      rcases hp with rfl
      · exact ⟨cTD13, by simp⟩
      ) (fun s v => .of_eq rfl) fin
end Den
open PySem PySem.W PyProof.Rows
set_option maxHeartbeats 0 in
theorem PySem.Challenge.cw_balconyrow_k48_how_many_views_there_are_holds : PySem.Challenge.rw_balconyrow_k48_how_many_views_there_are.Holds := by
  w_on; o_law; k_head; (case hw => w_witness2)
  k_fill
  refine Den.walk_tab (l := PySem.Challenge.rw_balconyrow_k48_how_many_views_there_are) (n := 63) (k := 19) (x := "_law_script") (CX := fun w => L2.CX (PySem.Challenge.rw_balconyrow_k48_how_many_views_there_are).prog w) rfl (by decide) rfl ⟨rfl, by decide, by decide⟩ (fun w h Y => PySem.W.kIn_of Y) ?F (fun _ _ _ _ _ h => Den.cx_no h)
  case F =>
    intro w mg fa h KX G hmg tabs
    refine' Den.all_mk KX G hmg (fun f e => tabs "_law_right" f (by decide +kernel) e) ?aD0 ?lD0 ?cD0 ?kD0 ?aD1 ?lD1 ?cD1 ?kD1 ?aD2 ?lD2 ?cD2 ?kD2 ?aD3 ?lD3 ?cD3 ?kD3 ?aD4 ?lD4 ?cD4 ?kD4 ?aD5 ?lD5 ?cD5 ?kD5 ?aD6 ?lD6 ?cD6 ?kD6 ?aD7 ?lD7 ?cD7 ?kD7 ?aD8 ?lD8 ?cD8 ?kD8 ?aD9 ?lD9 ?cD9 ?kD9 ?aD10 ?lD10 ?cD10 ?kD10 ?aD11 ?lD11 ?cD11 ?kD11 ?aD12 ?lD12 ?cD12 ?kD12 ?aD13 ?lD13 ?cD13 ?kD13 ?aD14 ?lD14 ?cD14 ?kD14 ?aD15 ?lD15 ?cD15 ?kD15 ?oTD13 ?kTD13 ?pTD13 ?nTD13 ?bT__law_all_right ?b_range ?b_tuple ?b_zip ?b_int ?b_sorted ?b_len ?b_max ?b_isinstance ?b_list ?b_all ?b_str ?b_bool ?b_abs ?b_min
    (case aD0 => k_is); (case lD0 => k_is); (case cD0 => k_is); (case kD0 => k_is); (case aD1 => k_is); (case lD1 => k_is); (case cD1 => k_is); (case kD1 => k_is)
    (case aD2 => k_is); (case lD2 => k_is); (case cD2 => k_is); (case kD2 => k_is); (case aD3 => k_is); (case lD3 => k_is); (case cD3 => k_is); (case kD3 => k_is)
    (case aD4 => k_is); (case lD4 => k_is); (case cD4 => k_is); (case kD4 => k_is); (case aD5 => k_is); (case lD5 => k_is); (case cD5 => k_is); (case kD5 => k_is)
    (case aD6 => k_is); (case lD6 => k_is); (case cD6 => k_is); (case kD6 => k_is); (case aD7 => k_is); (case lD7 => k_is); (case cD7 => k_is); (case kD7 => k_is)
    (case aD8 => k_is); (case lD8 => k_is); (case cD8 => k_is); (case kD8 => k_is); (case aD9 => k_is); (case lD9 => k_is); (case cD9 => k_is); (case kD9 => k_is)
    (case aD10 => k_is); (case lD10 => k_is); (case cD10 => k_is); (case kD10 => k_is); (case aD11 => k_is); (case lD11 => k_is); (case cD11 => k_is); (case kD11 => k_is)
    (case aD12 => k_is); (case lD12 => k_is); (case cD12 => k_is); (case kD12 => k_is); (case aD13 => k_is); (case lD13 => k_is); (case cD13 => k_is); (case kD13 => k_is)
    (case aD14 => k_is); (case lD14 => k_is); (case cD14 => k_is); (case kD14 => k_is); (case aD15 => k_is); (case lD15 => k_is); (case cD15 => k_is); (case kD15 => k_is)
    (case oTD13 => rfl); (case kTD13 => k_is); (case pTD13 => rfl); (case nTD13 => kernel_rfl); (case bT__law_all_right => k_is); (case b_range => k_is); (case b_tuple => k_is); (case b_zip => k_is)
    (case b_int => k_is); (case b_sorted => k_is); (case b_len => k_is); (case b_max => k_is); (case b_isinstance => k_is); (case b_list => k_is); (case b_all => k_is); (case b_str => k_is)
    (case b_bool => k_is); (case b_abs => k_is); (case b_min => k_is)
