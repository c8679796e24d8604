import PyProof.Rows.All
import Wide.All
import OpenK.AllK
import Wide.FinOn
import HandS.ForMost
import HandS.ForExc
import HandS.Zip
import HandS.IsInst
import HandS.TupAny
import HandS.Style
import HandS.Flow
import HandS.Defaults
import HandS.ExcField
import HandS.ExcIs
import HandS.TryMany
import HandS.ExcInit
import HandS.ExcValue
import KE.KExcInit
import KE.KTryMore
import KE.KExcIs
import HandS.SortKw
import HandS.SortInts
import HandS.More
import KE.KIndexOf
import KE.DatumOrd
import PyProof.ReprRoads
import KE.GoesMore
import KE.GoesEnum
import HandS.TupMul
import HandS.Conv
import HandS.SetFor
import HandS.RaiseMore
import PyProof.Rows.IntBool
import PyProof.Rows.EqBoolInt
import HandS.TupSets
import HandS.Star
import PySem.Challenge.RW_balconyrow_k10_what_boxes_are
set_option Elab.async false
set_option linter.all false
set_option maxRecDepth 100000
set_option maxHeartbeats 4000000
namespace Bal
open PySem PySem.Spec PyProof.Rows L2
/-! ### heaps -/
theorem sm_upd {H : Hp} {p : Addr} {o : HO} (h : H p = none) : Same H (upd H p o) := fun b x e => by
  rw [upd_ne (ne_of_none e h)]
  exact e
/-- the draws' pot: three numbers, the last one at most c -/
def PotO (c : Nat) (o : HO) : Prop := ∃ x0 x1 x2 : Int, o = .lst [.int x0, .int x1, .int x2] ∧ 0 ≤ x0 ∧ 0 ≤ x1 ∧ x1 < 2147483648 ∧ 0 ≤ x2 ∧ x2 ≤ c
def Pot (H : Hp) (p : Addr) (c : Nat) : Prop := ∃ o, H p = some o ∧ PotO c o
/-- all that stood, but p, stands -/
def But (p : Addr) (H H' : Hp) : Prop := ∀ q o, q ≠ p → H q = some o → H' q = some o
theorem But.refl (p : Addr) (H : Hp) : But p H H := fun _ _ _ e => e
theorem But.trans {p : Addr} {H H1 H2 : Hp} (a : But p H H1) (b : But p H1 H2) : But p H H2 := fun q o n e => b q o n (a q o n e)
theorem But.same {p : Addr} {H H1 : Hp} (a : Same H H1) : But p H H1 := fun q o _ e => a q o e
theorem But.of_upd {p : Addr} {H : Hp} {o : HO} : But p H (upd H p o) := fun q o' n e => by rw [upd_ne n]; exact e
theorem But.sqL {K : PySem.W.Frag} {p a : Addr} {H H' : Hp} {xs : List V} (b : But p H H') (n : a ≠ p) (h : SqL K H a xs) : SqL K H' a xs := by
  rcases h with (h | ⟨o, h⟩) | h
  · exact .inl (.inl (b _ _ n h))
  · exact .inl (.inr ⟨o, b _ _ n h⟩)
  · exact .inr h
theorem But.sqT {K : PySem.W.Frag} {p a : Addr} {H H' : Hp} {xs : List V} (b : But p H H') (n : a ≠ p) (h : SqT K H a xs) : SqT K H' a xs := by
  rcases h with (h | ⟨o, h⟩) | h
  · exact .inl (.inl (b _ _ n h))
  · exact .inl (.inr ⟨o, b _ _ n h⟩)
  · exact .inr h
theorem Same.sqT {K : PySem.W.Frag} {a : Addr} {H H' : Hp} {xs : List V} (b : Same H H') (h : SqT K H a xs) : SqT K H' a xs := by
  rcases h with (h | ⟨o, h⟩) | h
  · exact .inl (.inl (b _ _ h))
  · exact .inl (.inr ⟨o, b _ _ h⟩)
  · exact .inr h
theorem Pot.mono {H : Hp} {p : Addr} {c d : Nat} (h : Pot H p c) (l : c ≤ d) : Pot H p d := by
  obtain ⟨o, e, x0, x1, x2, a, h0, h1, h2, h3, h4⟩ := h
  exact ⟨o, e, x0, x1, x2, a, h0, h1, h2, h3, by omega⟩
theorem Pot.same {H H' : Hp} {p : Addr} {c : Nat} (h : Pot H p c) (s : Same H H') : Pot H' p c := by
  obtain ⟨o, e, r⟩ := h
  exact ⟨o, s _ _ e, r⟩
theorem Pot.ne {H : Hp} {p q : Addr} {c : Nat} (h : Pot H p c) (n : H q = none) : q ≠ p := fun e => by
  obtain ⟨o, z, _⟩ := h
  rw [← e, n] at z
  cases z
theorem sqL_pot {K : PySem.W.Frag} {H : Hp} {a p : Addr} {xs : List V} {c : Nat} (h : Pot H p c) (n : xs.length ≠ 3) (ha : H a = some (.lst xs)) : a ≠ p := fun e => by
  obtain ⟨o, z, x0, x1, x2, r, _⟩ := h
  rw [← e, ha, r] at z
  have z := HO.lst.inj (Option.some.inj z)
  rw [z] at n
  exact n rfl
theorem But.none {p a : Addr} {H H' : Hp} (b : But p H H') (n : a ≠ p) (h : H' a = none) : H a = none := by
  cases e : H a with
  | none => rfl
  | some o =>
    rw [b a o n e] at h
    cases h
theorem But.put {p a : Addr} {H H' : Hp} {o : HO} (b : But p H H') (h : H a = Option.none) : But p H (upd H' a o) := fun q o' n e => by
  rw [upd_ne (ne_of_none e h)]
  exact b q o' n e
theorem But.putP {p : Addr} {H H' : Hp} {o : HO} (b : But p H H') : But p H (upd H' p o) := fun q o' n e => by
  rw [upd_ne n]
  exact b q o' n e
theorem Same.put {a : Addr} {H H' : Hp} {o : HO} (b : Same H H') (h : H a = Option.none) : Same H (upd H' a o) := fun q o' e => by
  rw [upd_ne (ne_of_none e h)]
  exact b q o' e
theorem Pot.upd {H : Hp} {p a : Addr} {c : Nat} {o : HO} (h : Pot H p c) (n : a ≠ p) : Pot (upd H a o) p c := by
  obtain ⟨o', e, r⟩ := h
  exact ⟨o', by rw [upd_ne (Ne.symm n)]; exact e, r⟩
theorem ixN_nat {n i : Nat} (h : i < n) : ixN n (i : Int) = some i := by
  unfold ixN
  rw [if_pos (by omega), if_pos (by omega)]
  simp
theorem sq_nat {n i : Nat} (h : i < n) : seqIndex? (i : Int) n = some i := (ixN_seq (ixN_nat h)).1
theorem map_erase {α β : Type} (f : α → β) : ∀ (l : List α) (i : Nat), (l.map f).eraseIdx i = (l.eraseIdx i).map f
  | [], _ => rfl
  | _ :: _, 0 => rfl
  | a :: l, i + 1 => by
    show f a :: (l.map f).eraseIdx i = f a :: (l.eraseIdx i).map f
    rw [map_erase f l i]
theorem len_ers {α : Type} : ∀ (l : List α) (i : Nat), i < l.length → (l.eraseIdx i).length + 1 = l.length
  | [], _, h => by simp at h
  | _ :: _, 0, _ => rfl
  | a :: l, i + 1, h => by
    show ((l.eraseIdx i).length + 1) + 1 = l.length + 1
    rw [len_ers l i (Nat.lt_of_succ_lt_succ h)]
theorem perm_ers {α : Type} : ∀ (l : List α) (i : Nat) (h : i < l.length), (l[i] :: l.eraseIdx i).Perm l
  | [], _, h => by simp at h
  | _ :: _, 0, _ => List.Perm.refl _
  | a :: l, i + 1, h => by
    show (l[i]'(Nat.lt_of_succ_lt_succ h) :: a :: l.eraseIdx i).Perm (a :: l)
    exact (List.Perm.swap _ _ _).trans ((perm_ers l i (Nat.lt_of_succ_lt_succ h)).cons a)
theorem fmod_lt {a b : Int} (h : 0 < b) : 0 ≤ a % b ∧ a % b < b := ⟨Int.emod_nonneg _ (by omega), Int.emod_lt_of_pos _ h⟩
theorem q_eq {Q : VK} {v v' : V} {H : Hp} (e : v = v') (h : Q v' H) : Q v H := e ▸ h
theorem one_bd (b : Bool) : -(2 ^ 64) < (if b = true then (1 : Int) else 0) ∧ (if b = true then (1 : Int) else 0) < 2 ^ 64 := by cases b <;> exact ⟨by decide, by decide⟩
theorem one_nn (b : Bool) : 0 ≤ (if b = true then (1 : Int) else 0) := by cases b <;> decide
theorem abs_nn (c : Int) : 0 ≤ (if c < 0 then -c else c) := by split <;> omega
/-! ### comprehensions over anything -/
theorem lc_gen {J : It} {n : Nat} {g : TG} {tt : TT} {te : TE} {vs : List Nat} {σ : L2.St} {H1 : Hp} {D : Addr} {Qd : Hp → Prop} (Pv : Nat → Hp → Prop) (h0 : Pv 0 (upd H1 D (.lst [])))
    (hgo : ∀ i H, i < n → Pv i H → J.go i H) (hst : ∀ H, Pv n H → J.stop n H)
    (hs : ∀ i H x H', i < n → Pv i H → J.yld i H x H' → g x (wipe σ vs) H' fun σ2 H2 => wipe σ2 vs = wipe σ vs ∧ tt σ2 H2 fun b H3 =>
      if b = true then te σ2 H3 fun y H4 => ∃ acc, H4 D = some (.lst acc) ∧ acc.length < sizeLine ∧ Pv (i + 1) (upd H4 D (.lst (acc ++ [y]))) else Pv (i + 1) H3) (hd : ∀ H, Pv n H → Qd H) :
    ∃ W : Nat → Nat → Hp → Prop, (∃ m, W 0 m (upd H1 D (.lst []))) ∧ ∀ i m H, W i m H →
      (J.stop i H ∧ Qd H) ∨ (J.go i H ∧ ∃ Nx : Hp → Prop, (∀ H', Nx H' → ∃ m', m' < m ∧ W (i + 1) m' H') ∧ ∀ x H', J.yld i H x H' → g x (wipe σ vs) H' fun σ2 H2 => wipe σ2 vs = wipe σ vs ∧ tt σ2 H2 fun b H3 =>
        if b = true then te σ2 H3 fun y H4 => ∃ acc, H4 D = some (.lst acc) ∧ acc.length < sizeLine ∧ Nx (upd H4 D (.lst (acc ++ [y]))) else Nx H3) := by
  refine ⟨fun i m H => m = n - i ∧ i ≤ n ∧ Pv i H, ⟨n, by simp, Nat.zero_le _, h0⟩, ?_⟩
  rintro i m H ⟨rfl, hi, p⟩
  by_cases hlt : i < n
  · exact .inr ⟨hgo i H hlt p, Pv (i + 1), fun H' p' => ⟨n - (i + 1), by omega, rfl, hlt, p'⟩, fun x H' y => hs i H x H' hlt p y⟩
  · have e : i = n := by omega
    subst e
    exact .inl ⟨hst H p, hd H p⟩
/-! ### data -/
theorem dps_ints {K : PySem.W.Frag} {H : Hp} : ∀ ns : List Int, DpAll K H (ns.map V.int) (ns.map PyData.int)
  | [] => .nil
  | n :: ns => .cons (.int n) (dps_ints ns)
theorem lay_ints : ∀ ns : List Int, PyData.canLayAll0 (ns.map PyData.int) = true
  | [] => rfl
  | n :: ns => by
    show (PyData.canLay0 (.int n) && PyData.canLayAll0 (ns.map PyData.int)) = true
    rw [lay_ints ns]
    rfl
theorem dep_ints : ∀ ns : List Int, PyData.depthAll (ns.map PyData.int) = 0
  | [] => rfl
  | n :: ns => by
    show max 0 (PyData.depthAll (ns.map PyData.int)) = 0
    rw [dep_ints ns]
    rfl
theorem shp_lst (ns : List Int) : SeqAt.shaped (.list (ns.map PyData.int)) = true := by
  unfold SeqAt.shaped
  show (PyData.canLayAll0 (ns.map PyData.int) && decide (PyData.depthAll (ns.map PyData.int) + 1 ≤ 64)) = true
  rw [lay_ints, dep_ints]
  rfl
theorem shp_tup (ns : List Int) : SeqAt.shaped (.tuple (ns.map PyData.int)) = true := by
  unfold SeqAt.shaped
  show (PyData.canLayAll0 (ns.map PyData.int) && decide (PyData.depthAll (ns.map PyData.int) + 1 ≤ 64)) = true
  rw [lay_ints, dep_ints]
  rfl
theorem eqv_ints : ∀ ns ms : List Int, PyData.eqvAll (ns.map PyData.int) (ms.map PyData.int) = decide (ns = ms)
  | [], [] => rfl
  | [], m :: ms => rfl
  | n :: ns, [] => rfl
  | n :: ns, m :: ms => by
    show (PyData.eqv (.int n) (.int m) && PyData.eqvAll (ns.map PyData.int) (ms.map PyData.int)) = _
    rw [eqv_ints ns ms]
    show ((n == m) && decide (ns = ms)) = decide (n :: ns = m :: ms)
    by_cases h : n = m
    · subst h
      simp
    · simp [h]
theorem eqv_lst (ns ms : List Int) : PyData.eqv (.list (ns.map PyData.int)) (.list (ms.map PyData.int)) = decide (ns = ms) := eqv_ints ns ms
theorem eqv_tup (ns ms : List Int) : PyData.eqv (.tuple (ns.map PyData.int)) (.tuple (ms.map PyData.int)) = decide (ns = ms) := eqv_ints ns ms
def kD : PyData → String
  | .none => "NoneType" | .bool _ => "bool" | .int _ => "int" | .str _ => "str" | .list _ => "list" | .tuple _ => "tuple" | .dict _ => "dict"
theorem ty_lst {K : PySem.W.Frag} {H : Hp} {a : Addr} {xs : List V} (h : SqL K H a xs) : TyX K H (.ref a) (.type "list") := by
  rcases h with (h | ⟨o, h⟩) | ⟨o, its, n, h, c, _⟩
  · exact .base (.lst h)
  · exact .base (.frz h)
  · exact .kList h c
theorem ty_tup {K : PySem.W.Frag} {H : Hp} {a : Addr} {xs : List V} (h : SqT K H a xs) : TyX K H (.ref a) (.type "tuple") := by
  rcases h with (h | ⟨o, h⟩) | ⟨o, its, n, h, c, _⟩
  · exact .base (.tup h)
  · exact .fTuple h
  · exact .kTuple h c
theorem dp_ty {K : PySem.W.Frag} {H : Hp} {x : V} {d : PyData} (h : Dp K H x d) : TyX K H x (.type (kD d)) := by
  cases h with
  | non => exact .base .non
  | bl b => exact .base (.bl b)
  | int i => exact .base (.int i)
  | str x => exact .base (.str x)
  | lst h _ => exact ty_lst h
  | tup h _ => exact ty_tup h
mutual
/-- no list or tuple within is longer than 100000 -/
def smallD : PyData → Bool
  | .list xs => decide (xs.length ≤ 100000) && smallA xs
  | .tuple xs => decide (xs.length ≤ 100000) && smallA xs
  | _ => true
def smallA : List PyData → Bool
  | [] => true
  | x :: xs => smallD x && smallA xs
end
theorem small_get : ∀ {ds : List PyData} {i : Nat} {d : PyData}, smallA ds = true → ds[i]? = some d → smallD d = true
  | [], i, d, _, h => by simp at h
  | a :: r, 0, d, s, h => by
    have e := Option.some.inj h
    subst e
    exact (Bool.and_eq_true_iff.mp s).1
  | a :: r, i + 1, d, s, h => small_get (ds := r) (i := i) (Bool.and_eq_true_iff.mp s).2 h
theorem small_ints : ∀ ns : List Int, smallA (ns.map PyData.int) = true
  | [] => rfl
  | n :: ns => by
    show (true && smallA (ns.map PyData.int)) = true
    rw [small_ints ns]
    rfl
theorem line_lt {n : Nat} (h : n ≤ 100000) : n < sizeLine := Nat.lt_of_le_of_lt h (by decide)
theorem iteD {c A B : Prop} [Decidable c] (hc : c) (h : A) : if decide c = true then A else B := by
  rw [if_pos (decide_eq_true hc)]
  exact h
theorem cls2 {a b : String} : Paired ClsV [.ty a, .ty b] [.type a, .type b] := .cons (.ty _) (.cons (.ty _) .nil)
theorem kA_no {K : PySem.W.Frag} {a : String} (h1 : kitB a "list" = some false) (h2 : kitB a "tuple" = some false) : PySem.W.kitAny K (.type a) [.type "list", .type "tuple"] = some false :=
  kitAny_cons (b := false) (kit_ty h1) (fun _ => kitAny_cons (b := false) (kit_ty h2) (fun _ => rfl) (fun z => Bool.noConfusion z)) (fun z => Bool.noConfusion z)
theorem kA_lst {K : PySem.W.Frag} : PySem.W.kitAny K (.type "list") [.type "list", .type "tuple"] = some true :=
  kitAny_cons (b := true) (kit_ty (by decide +kernel)) (fun z => Bool.noConfusion z) (fun _ => rfl)
theorem kA_tup {K : PySem.W.Frag} : PySem.W.kitAny K (.type "tuple") [.type "list", .type "tuple"] = some true :=
  kitAny_cons (b := false) (kit_ty (by decide +kernel)) (fun _ => kitAny_cons (b := true) (kit_ty (by decide +kernel)) (fun z => Bool.noConfusion z) (fun _ => rfl)) (fun z => Bool.noConfusion z)
theorem rep_add {α : Type} (x : α) : ∀ i : Nat, List.replicate (i + 1) x = List.replicate i x ++ [x]
  | 0 => rfl
  | i + 1 => by
    show x :: List.replicate (i + 1) x = x :: (List.replicate i x ++ [x])
    rw [rep_add x i]
theorem all_rep : ∀ n : Nat, (List.replicate n true).all id = true
  | 0 => rfl
  | n + 1 => by
    show (id true && (List.replicate n true).all id) = true
    rw [all_rep n]
    rfl
mutual
theorem dp_same {K : PySem.W.Frag} {H H' : Hp} (s : Same H H') : ∀ {d : PyData} {x : V}, Dp K H x d → Dp K H' x d
  | _, _, .non => .non
  | _, _, .bl b => .bl b
  | _, _, .int b => .int b
  | _, _, .str b => .str b
  | _, _, .lst h a => .lst (s.seq h) (dps_same s a)
  | _, _, .tup h a => .tup (Same.sqT s h) (dps_same s a)
theorem dps_same {K : PySem.W.Frag} {H H' : Hp} (s : Same H H') : ∀ {ds : List PyData} {xs : List V}, DpAll K H xs ds → DpAll K H' xs ds
  | _, _, .nil => .nil
  | _, _, .cons a b => .cons (dp_same s a) (dps_same s b)
end
theorem dps_len {K : PySem.W.Frag} {H : Hp} : ∀ {ds : List PyData} {xs : List V}, DpAll K H xs ds → xs.length = ds.length
  | _, _, .nil => rfl
  | _, _, .cons _ b => by rw [List.length_cons, List.length_cons, dps_len b]
theorem dps_get {K : PySem.W.Frag} {H : Hp} : ∀ {ds : List PyData} {xs : List V} {i : Nat} {x : V}, DpAll K H xs ds → xs[i]? = some x → ∃ d, ds[i]? = some d ∧ Dp K H x d
  | _, _, i, x, .nil, h => by simp at h
  | _, _, 0, x, .cons a _, h => by
    have e := Option.some.inj h
    subst e
    exact ⟨_, rfl, a⟩
  | _, _, i + 1, x, .cons _ b, h => dps_get (i := i) b h
theorem dep_get : ∀ {ds : List PyData} {i : Nat} {d : PyData}, ds[i]? = some d → d.depth ≤ PyData.depthAll ds
  | [], i, d, h => by simp at h
  | a :: r, 0, d, h => by
    have e := Option.some.inj h
    subst e
    exact Nat.le_max_left _ _
  | a :: r, i + 1, d, h => Nat.le_trans (dep_get (ds := r) (i := i) h) (Nat.le_max_right _ _)
end Bal

namespace Bal
open PySem PySem.Spec PyProof.Rows L2
/-! ### own errors over any of Python's own, each with one field -/
/-- what is asked of the base -/
structure BaseX (newId : String) (tail : List Value) : Prop where
  ex : ∃ B initId, ExcBaseFacts B newId initId tail
  pass : ∀ self, refuseLoop self "__setattr__" tail = pure ()
  ob : tail.contains (.type "object") = true
theorem bx_lookup : BaseX "LookupError.__new__" [.type "LookupError", .type "Exception", .type "BaseException", .type "object"] := ⟨⟨_, _, PySem.F.excBase_LookupError⟩, PySem.F.store_LookupError.passes, by decide +kernel⟩
theorem bx_value : BaseX "ValueError.__new__" [.type "ValueError", .type "Exception", .type "BaseException", .type "object"] := ⟨⟨_, _, PySem.F.excBase_ValueError⟩, PySem.F.store_ValueError.passes, by decide +kernel⟩
theorem bx_runtime : BaseX "RuntimeError.__new__" [.type "RuntimeError", .type "Exception", .type "BaseException", .type "object"] := ⟨⟨_, _, PySem.F.excBase_RuntimeError⟩, PySem.F.store_RuntimeError.passes, by decide +kernel⟩
theorem bx_overflow : BaseX "OverflowError.__new__" [.type "OverflowError", .type "ArithmeticError", .type "Exception", .type "BaseException", .type "object"] := ⟨⟨_, _, PySem.F.excBase_OverflowError⟩, PySem.F.store_OverflowError.passes, by decide +kernel⟩
/-- what the written part says of such a class at C -/
structure ErC (K : PySem.W.Frag) (C : Addr) (newId : String) (tail : List Value) : Prop where
  bx : BaseX newId tail
  cls : ∃ nm q N bs sn sub ab col dd k0 k1 k2 k3 k5, K.lookup C = some (excClassObj nm q C N bs tail true sn sub ab col dd k0 k1 k2 k3 k5 newId)
  sa : PySem.W.findIn K (.ref C) "__setattr__" = some (some (.builtin "object.__setattr__"))
  exC : PySem.W.subIn K (.ref C) (.type "BaseException") = some true
  tyC : PySem.W.typeIn K (.ref C) = some (.type "type")
  kC : PySem.W.keepIn K (.ref C) = true
section
open PySem.W PySem.Calls PySem.HandSPX Builtin Builtin.ObjectAttr
variable {prog : Program} {w : World} {A : Around} {E : Value → Shared → Prop} {R : Result → Shared → Prop} {hp : Heap} {g : Array GenState} {d : Drawn} {t : Nat} {os : OsState}
/-- the first field of a new error, whatever its base -/
theorem osaG {K : W.Frag} {name : Str} {tk : Tok} {v : Value} {x C : Addr} {fv : Array Value} {cd : ClassData} (X : K.In hp) (hx : hp.get? x = some { cls := .ref C, data := .fields fv }) (hcd : W.clsIn K C = some cd)
    (ne : cd.mro.isEmpty = false) (hob : cd.mro.contains (.type "object") = true) (hps : refuseLoop (.ref x) "__setattr__" cd.mro = pure ()) (hh : cd.hasDict = true) (ha : W.findIn K (.ref C) name = some none)
    (hq : ∀ h' tk' dx, (∀ b o, b ≠ x → hp.get? b = some o → h'.get? b = some o) → hp.objs.size ≤ dx → dx ≠ x → h'.get? x = some { cls := .ref C, dict := some dx, data := .fields fv } → h'.Ns1 dx (fun y => if y = name then some v else none) → R (.ok (.ret .none)) ⟨h', g, d, tk', os⟩) :
    codeAny (model prog w) A (.call (.builtin "object.__setattr__") ⟨[.ref x, .str name tk, v], []⟩) R ⟨hp, g, d, t, os⟩ := by
  have I : W.InstAt hp x { cls := .ref C, data := .fields fv } C none := ⟨hx, rfl, rfl, trivial⟩
  have hxs : x ≠ hp.objs.size := Nat.ne_of_lt (Heap.lt_size hx); have SF := F.store_object
  have sub : W.Looks (model prog w) hp (isInstance (.ref x) (.type "object")) true := I.type.andThen (W.looks_mroIn X (by unfold W.mroIn; rw [hcd, Option.bind_some, if_neg (by rw [ne]; decide), hob]))
  refine codeAny_call_builtin SF.slot.plain SF.entry (@W.check_slot (model prog w) _ _ ⟨hp, g, d, t, os⟩ "object.__setattr__" "object" "__setattr__" (.ref x) [.str name tk, v] [] _ SF.kind SF.split sub (SF.args (.ref x) (.str name tk) v) ?_)
  have hmr : W.Looks (model prog w) hp (mroOf (.ref C)) cd.mro := (W.looks_clsIn X hcd).andThen .now; have L3 : W.Looks (model prog w) hp (storeTaker? none) none := .now; have hcls : W.Looks (model prog w) hp (classData C) cd := W.looks_clsIn X hcd
  rw [W.osa_eq, refuse_eq]; refine wpAny_bind (wpAny_bind (I.type.at (wpAny_bind (hmr.at ?_)))); rw [hps]
  refine wpAny_pure (wpAny_bind (I.type.at (wpAny_bind ((W.looks_findIn X ha).at (wpAny_bind (L3.at ?_)))))); show wpAny _ _ (storeInOwnDict (.ref x) (.ref C) (.str name tk) name v false) _ _ _
  obtain ⟨nm, bs, mro, ns, qn, hd, sn, sb, ab, col, del⟩ := cd; dsimp only at hh; subst hh; unfold storeInOwnDict ownDictForStores
  repeat (first | with_reducible refine store_in_new ?_ ?_ | with_reducible refine wpAny_loadPart_at hx ?_ | with_reducible refine hcls.at ?_ | wp_step)
  · exact ⟨_, #[], _, (Heap.get?_update_ne _ _ _ _ hxs.symm).trans (Heap.get?_push_at rfl rfl), rfl, fun e he => absurd he (by simp), fun _ => rfl⟩
  · intro h' tk' hn' hs; have hx₁ : (hp.push { cls := .type "dict", data := .dict #[] }).get? x = some { cls := .ref C, data := .fields fv } := Heap.get?_push_of_some _ hx
    refine hq h' tk' hp.objs.size (fun b o hb ho => ?_) (Nat.le_refl _) hxs.symm ?_ hn'
    · exact (hs.2 b (Nat.ne_of_lt (Heap.lt_size ho))).trans ((Heap.get?_update_ne _ _ _ _ hb).trans (Heap.get?_push_of_some _ ho))
    · exact (hs.2 x hxs).trans (Heap.get?_update_self _ hx₁ rfl)
end
section
variable {X : Cx} {pins : List (Addr × Obj)} {σ : L2.St} {H : Hp} {s : Shared} {a C : Addr} {f : Str} {y : V} {u : Value} {Q : Unit → Shared → Prop} {E : Value → Shared → Prop} {A : Around} {newId : String} {tail : List Value}
theorem er_store (T : ErC X.K C newId tail) (I : Inv X pins σ H s) (e : H a = some (exo a C none)) (hno : PySem.W.findIn X.K (.ref C) f = some none) (ry : RelV y u)
    (h : ∀ dx s', H dx = none → dx ≠ a → Inv X pins σ (upd (upd H dx (exd dx [(f, y)])) a (exo a C (some dx))) s' → Q () s') : wpAny (model X.prog X.w) A (setAttr (.ref a) f u) Q E s := by
  obtain ⟨nm, q, N, bs, sn, sub, ab, col, dd, k0, k1, k2, k3, k5, hC⟩ := T.cls
  have hcl : PySem.W.clsIn X.K C = some { name := nm, bases := bs, mro := .ref C :: tail, ns := N, qualname := q, hasDict := true, slotNames := sn, subclasses := sub, abstract := ab, collection := col, hasDel := false } := by unfold PySem.W.clsIn; rw [hC] <;> rfl
  obtain ⟨t1, ho⟩ := exo_at I.hok e; obtain ⟨hp, g, d, t, os⟩ := s
  refine PySem.W.set_plain I.kIn (ox := { cls := .ref C, dict := none, data := .fields #[.ref t1, .none, .none, .none, .bool false, .none] }) (od := none) ⟨ho, rfl, rfl, trivial⟩ T.sa ?_
  refine osaG I.kIn ho hcl rfl (by show (Value.ref C :: tail).contains (.type "object") = true; rw [List.contains_cons, T.bx.ob, Bool.or_true]) (by show refuseLoop (.ref a) "__setattr__" (.ref C :: tail) = pure (); rw [refuseLoop_ref]; exact T.bx.pass _) rfl hno (fun h' tk' dx k dn dne hx hn => ?_)
  have hnd : H dx = none := I.hok.fresh dn; have nd : ∀ {b : Addr} {o : Obj}, hp.get? b = some o → b ≠ dx := fun {b o} q => Nat.ne_of_lt (Nat.lt_of_lt_of_le (Heap.lt_size q) dn)
  have na : ∀ {b : Addr}, H b = none → b ≠ a := fun {b} n z => by rw [z, e] at n; cases n
  have U : Un X.fs [] H (upd (upd H dx (exd dx [(f, y)])) a (exo a C (some dx))) hp h' := { keep := fun b o q n _ _ => k b o (na n) q, slot := fun b o q n _ _ => ⟨o.slots, k b o (na n) q⟩, free := fun b o q n _ => by rw [upd_ne (na n), upd_ne (nd q)]; exact n, there := fun b o q _ => if hb : b = a then ⟨_, (congrArg h'.get? hb).trans hx⟩ else ⟨o, k b o hb q⟩, tups := fun b xs q => by rw [upd_ne (at_ne e q exo_tup), upd_ne (ne_of_none q hnd)]; exact q, frzs := fun b o v q => by rw [upd_ne (at_ne e q exo_frz), upd_ne (ne_of_none q hnd)]; exact q, tbls := fun b ps q => ⟨#[], by rw [upd_ne (at_ne e q exo_tbl), upd_ne (ne_of_none q hnd), q]; simp⟩ }
  refine h dx _ hnd dne (I.un (t' := tk') U fun b o q => ?_)
  by_cases hb : b = a
  · subst hb; rw [upd_same] at q; cases q; exact exo_ok hx
  · rw [upd_ne hb] at q
    by_cases hd : b = dx
    · subst hd; rw [upd_same] at q; cases q; exact exd_ok hn (relO_put (fs := []) ry fun g => True.intro)
    · rw [upd_ne hd] at q
      refine (I.hok b o q).stay (fun c v hc z => k c v ?_ z) (fun c hc => by rw [upd_ne (at_ne e hc exo_own), upd_ne (ne_of_none hc hnd)]; exact hc) (fun c xs hc => by rw [upd_ne (at_ne e hc exo_tup), upd_ne (ne_of_none hc hnd)]; exact hc)
      rcases hc with hc | hc
      · rw [hc]; exact hb
      · exact at_ne e hc exo_own
/-- self.f = e within the __init__ of such a class -/
def tEst (K : PySem.W.Frag) (f : Str) (to te : TE) : TS := fun D σ H => te σ H fun y H1 => to σ H1 fun x H2 => ∃ (a C : Addr) (newId : String) (tail : List Value), x = .ref a ∧ ErC K C newId tail ∧ PySem.W.findIn K (.ref C) f = some none ∧
  H2 a = some (exo a C none) ∧ ∀ dx, H2 dx = none → dx ≠ a → D.nx σ (upd (upd H2 dx (exd dx [(f, y)])) a (exo a C (some dx)))
theorem ps_est {o e : Expr} {to te : TE} {p' pos : Pos} (ho : PE X o to) (he : PE X e te) (hs : swapsWith e (some (.Attribute o f p')) pos.line X.env = pure false := by rfl) : PS X (.Assign [.Attribute o f p'] e pos) (tEst X.K f to te) := by
  refine ⟨fun pins s σ H D I h => ?_⟩
  refine plainObj_wpAny_Assign_Attribute (thn (he.run pins s σ H _ I h) fun v s1 ⟨y, H1, I1, r1, q1⟩ => thn (ho.run pins s1 σ H1 _ I1 q1) fun u s2 ⟨x, H2, I2, r2, a, C, nw, tl, ex, T, hno, ea, q⟩ => ?_) hs
  subst ex; obtain rfl : u = Value.ref a := r2; exact er_store T I2 ea hno r1 fun dx s' n ne J => ⟨σ, _, J, q dx n ne⟩
/-- C(e, ..): such an error is made -/
theorem pmk_er {CX : CXT} {x : Str} {C fI : Addr} {k : Nat} {fd : FuncData} {ps : List Str} {sp : Sp} {ds : List Value} {dvs : List V} {e : Expr} {es : List Expr} {ta : TA} {p pos : Pos} (T : ErC X.K C newId tail) (iC : PySem.W.findIn X.K (.ref C) "__init__" = some (some (.ref fI))) (tI : PySem.W.typeIn X.K (.ref fI) = some (.type "function"))
    (F1 : FnOk X.prog X.w X.K X.mg X.base CX k fI fd ps sp) (hr : Room (k + 1) X.A) (hb : Binds X.K fd ps ds) (hd : Vals dvs ds) (hx : Passes CX X (fun _ _ _ => False)) (hg : Gl X x) (hm : X.mg x = some (.ref C)) (ha : PA X (e :: es) ta)
    (hdb : (x == ("__debug__" : Str)) = false := by decide) (he : starEach (e :: es) X.env = (false, eval e X.env) :: starEach es X.env := by rfl) (hpl : (backTo pos (starEach es X.env)).any (·.1) = false := by rfl) : PMk X (.Call (.Name x p) (e :: es) [] pos) (tMkO C sp dvs ta) := by
  intro pins s σ H Q I h; obtain ⟨nm, q, N, bs, sn, sub, ab, col, dd, k0, k1, k2, k3, k5, hC⟩ := T.cls; obtain ⟨B, ini, FB⟩ := T.bx.ex
  refine wpAny_Call_Name_kw (ld_glob I hg hm ?_ hdb)
  refine PySem.W.callWith_K (h₀ := X.base) I.ok.mod.kin T.kC (thn (ha.run pos pins s σ H _ I h) fun us s1 ⟨vs, H1, I1, r1, hz, q1⟩ => ⟨I1.kIn, ?_⟩) he hpl
  show wpAny _ _ (call (.ref C) us) _ _ _; obtain ⟨hp, g, dr, tk, os⟩ := s1
  have hsz : hp.objs.size ≤ hp.objs.size + 1 := Nat.le_succ _; have hn : H1 (hp.objs.size + 1) = none := I1.hok.fresh hsz; have hq := q1 (hp.objs.size + 1) hn
  have kk : ∀ b o, hp.get? b = some o → ((hp.push (PySem.W.kdv_tup us)).push (PySem.HandSPX.excO C hp.objs.size)).get? b = some o := fun b o e => Heap.get?_push_of_some _ (Heap.get?_push_of_some _ e)
  have hget : ((hp.push (PySem.W.kdv_tup us)).push (PySem.HandSPX.excO C hp.objs.size)).get? (hp.objs.size + 1) = some (PySem.HandSPX.excO C hp.objs.size) := by heap_get
  have I2 : Inv X pins σ (upd H1 (hp.objs.size + 1) (exo (hp.objs.size + 1) C none)) ⟨(hp.push (PySem.W.kdv_tup us)).push (PySem.HandSPX.excO C hp.objs.size), g, dr, tk, os⟩ := I1.laid (t' := tk) (a := hp.objs.size + 1) (o := exo (hp.objs.size + 1) C none) (h' := (hp.push (PySem.W.kdv_tup us)).push (PySem.HandSPX.excO C hp.objs.size)) kk hsz (exo_ok hget)
  have r2 : Vals (V.ref (hp.objs.size + 1) :: (vs ++ dvs)) (Value.ref (hp.objs.size + 1) :: (us ++ ds)) := .cons rfl (r1.append hd)
  have hl : (Value.ref (hp.objs.size + 1) :: us ++ ds).length = ps.length := by have e := r2.length; rw [F1.len _ _ _ _ hq] at e; exact e.symm
  have hus : us.length ≤ sizeLine := by rw [← Paired.length r1, sizeLine_eq]; omega
  refine wpAny_call (PySem.HandSPX.call_own FB (fun _ => rfl) (I1.kIn _ _ hC) (PySem.W.looks_findIn I1.kIn iC) (fun self => PySem.W.bind_fn I1.kIn self tI) hus (codeAny_mono (F1.run _ X.stack _ _ ⟨Value.ref (hp.objs.size + 1) :: us, []⟩ (Value.ref (hp.objs.size + 1) :: (us ++ ds)) _ _ (fun _ _ _ => False) (hr.make C us []) (I2.env0.make C us []) (hb _ (Value.ref (hp.objs.size + 1) :: us) I2.kIn hl) r2 hq) fun r s' hq' => ?_))
  cases r with
  | error er => exact hx pins σ _ _ er s' I2 hq'
  | ok fl =>
    cases fl with
    | ret u =>
      obtain ⟨v, H2, os2, bare2, un2, hok2, rv, ev, d, fs, ea, ed, hd1, q2⟩ := hq'; subst ev; obtain ⟨h2, g2, d2, t2, os'⟩ := s'
      exact ⟨rv, mk_end (raises_own T.exC T.tyC) I1 hsz kk un2 hok2 os2 bare2 ea ed hd1 q2⟩
    | next => exact False.elim hq'
    | brk => exact False.elim hq'
    | cont => exact False.elim hq'
end
end Bal

namespace Bal
open PySem PySem.Spec PyProof.Rows L2
section
open PySem.W PySem.Calls
variable {M : Model} {K : Frag} {A : Around} {E : Value → Shared → Prop} {s : Shared}
theorem forIn_skip {f : Value → PUnit → Sem (ForInStep PUnit)} {Q : PUnit → Shared → Prop} : ∀ cs : List Value, (∀ c ∈ cs, ∀ R : ForInStep PUnit → Shared → Prop, R (ForInStep.yield ⟨⟩) s → wpAny M A (f c ⟨⟩) R E s) → Q ⟨⟩ s → wpAny M A (forIn cs PUnit.unit f) Q E s
  | [], _, hq => by rw [List.forIn_nil]; exact wpAny_pure hq
  | c :: cs, h, hq => by
    rw [List.forIn_cons]
    exact wpAny_bind (h c (List.mem_cons_self ..) _ (forIn_skip cs (fun d hd => h d (List.mem_cons_of_mem _ hd)) hq))
theorem forIn_find {β : Type} {f : Value → β → Sem (ForInStep β)} {y0 x1 : β} (b : Value → Bool) {Q : β → Shared → Prop} : ∀ cs : List Value, (∀ c ∈ cs, ∀ R : ForInStep β → Shared → Prop, R (if b c = true then ForInStep.done x1 else ForInStep.yield y0) s → wpAny M A (f c y0) R E s) →
    Q (if cs.any b = true then x1 else y0) s → wpAny M A (forIn cs y0 f) Q E s
  | [], _, hq => by rw [List.forIn_nil]; exact wpAny_pure hq
  | c :: cs, h, hq => by
    rw [List.forIn_cons]
    refine wpAny_bind (h c (List.mem_cons_self ..) _ ?_)
    rw [List.any_cons] at hq
    cases hb : b c with
    | true =>
      rw [hb, Bool.true_or] at hq
      exact wpAny_pure hq
    | false =>
      rw [hb, Bool.false_or] at hq
      exact forIn_find b cs (fun d hd => h d (List.mem_cons_of_mem _ hd)) hq
theorem exmAny_each {cls : Value} : ∀ {us : List Value} {b : Bool}, exmAny K cls us = some b → (∀ c ∈ us, ∃ d, exmOne K cls c = some d) ∧ b = us.any fun c => exmOne K cls c == some true
  | [], b, h => by
    have e : some false = some b := h
    cases e
    exact ⟨fun _ h => (nomatch h), rfl⟩
  | c :: us, b, h => by
    obtain ⟨b1, d1, h1, h2, rfl⟩ := exmAny_cons h
    obtain ⟨i1, i2⟩ := exmAny_each h2
    refine ⟨fun x hx => ?_, ?_⟩
    · rcases List.mem_cons.mp hx with rfl | hx
      · exact ⟨b1, h1⟩
      · exact i1 x hx
    · rw [List.any_cons, ← i2, h1]
      cases b1 <;> rfl
/-- except (C1, .., Cn): does it name the class of e -/
theorem exm_any {cls : Value} {us : List Value} {tp e : Addr} {b : Bool} {h : Heap} (X : K.In h) (LT : Looks M h (typeOf (.ref e)) cls) (hp : h.get? tp = some { cls := .type "tuple", data := .seq us.toArray }) (hx : exmAny K cls us = some b) : Looks M h (excMatches (.ref e) (.ref tp)) b := by
  intro A Q E s k₀ q
  obtain ⟨hh, g, d, tk, os⟩ := s
  have k : ∀ b o, h.get? b = some o → hh.get? b = some o := k₀
  have LT0 : Looks M h (isInstance (.ref tp) (.type "tuple")) true := ((Looks.ld hp).andThen .now).andThen (Looks.of_pure isSubtype_tuple_tuple)
  obtain ⟨each, eb⟩ := exmAny_each hx
  have LT' := LT.keeps k; have LT0' := LT0.keeps k; have hp' := k _ _ hp
  unfold excMatches
  refine wpAny_bind (LT0'.at ?_); dsimp only; rw [if_pos rfl]
  first
    | refine wpAny_bind (wpAny_seqItems hp' rfl ?_)
    | refine wpAny_bind (wpAny_bind (wpAny_seqItems hp' rfl (wpAny_pure ?_)))
  dsimp only [Option.getD_some, Option.getD]
  refine wpAny_bind (wpAny_pure (wpAny_bind (forIn_skip us (fun c hc R hR => ?_) ?_)))
  · obtain ⟨dc, h1⟩ := each c hc
    obtain ⟨e1, _⟩ := exm_cls (M := M) X h1
    refine wpAny_bind ((e1.keeps k).at ?_)
    simp only [Bool.not_true, Bool.false_eq_true, if_false]
    exact wpAny_pure hR
  · refine wpAny_bind (LT'.at ?_)
    refine wpAny_bind (forIn_find (x1 := (some true, ())) (fun c => exmOne K cls c == some true) us (fun c hc R hR => ?_) ?_)
    · obtain ⟨dc, h1⟩ := each c hc
      obtain ⟨_, e2⟩ := exm_cls (M := M) X h1
      refine wpAny_bind ((e2.keeps k).at ?_)
      rw [h1] at hR
      cases dc with
      | true => exact wpAny_pure hR
      | false => exact wpAny_pure hR
    · rw [← eb]
      cases b with
      | true => exact wpAny_pure q
      | false => exact wpAny_pure q
end
end Bal

namespace Bal
open PySem PySem.Spec PyProof.Rows L2
/-! ### an error that was caught and is kept -/
/-- at a: an error of the class cls, its dict d -/
def ErV (cls : Value) (d : Option Addr) (a : Addr) : HO := .ext fun h => ∃ (oe : Obj) (vs : Array Value), h.get? a = some oe ∧ Zc cls d oe ∧ oe.data = .fields vs
theorem erV_ok {P : Program} {w : World} {H : Hp} {h : Heap} {a : Addr} {cls : Value} {d : Option Addr} {oe : Obj} {vs : Array Value} (e : h.get? a = some oe) (z : Zc cls d oe) (hd : oe.data = .fields vs) : ObjOk P w H h a (ErV cls d a) :=
  ⟨⟨oe, vs, e, z, hd⟩, ⟨oe, e⟩, fun _ _ ⟨o, v, q, r⟩ k => ⟨o, v, k o q, r⟩⟩
theorem erV_at {P : Program} {w : World} {H : Hp} {h : Heap} {a : Addr} {cls : Value} {d : Option Addr} (hok : HOk P w H h) (e : H a = some (ErV cls d a)) : ∃ (oe : Obj) (vs : Array Value), h.get? a = some oe ∧ Zc cls d oe ∧ oe.data = .fields vs := by
  have x : ObjOk P w H h a (.ext fun h => ∃ (oe : Obj) (vs : Array Value), h.get? a = some oe ∧ Zc cls d oe ∧ oe.data = .fields vs) := hok a _ e
  exact x.1
section
variable {X : Cx} {pins : List (Addr × Obj)} {σ : L2.St} {H : Hp} {s : Shared} {a : Addr} {oe : Obj}
/-- out of the suite, the error still in hand -/
theorem unsuiteK {pn' : List (Addr × Obj)} (I : Inv (X.suite a ((a, oe) :: (X.pn ++ pins))) pn' σ H s) (ok : X.Ok) : Inv X ((a, oe) :: pins) σ H s :=
  ⟨ok, I.os, I.bare, I.base, I.loc, I.cell, I.free, I.freeC, fun p hp => I.pin p (List.mem_append_left _ (by
    rcases List.mem_append.mp hp with h | h
    · exact List.mem_cons_of_mem _ (List.mem_append_left _ h)
    · rcases List.mem_cons.mp h with h | h
      · rw [h]; exact List.mem_cons_self ..
      · exact List.mem_cons_of_mem _ (List.mem_append_right _ h))), I.hok, I.len⟩
/-- what is in hand is put down, tracked -/
theorem putDown {cls : Value} {d : Option Addr} {vs : Array Value} (I : Inv X ((a, oe) :: pins) σ H s) (hz : Zc cls d oe) (hd : oe.data = .fields vs) (n0 : X.s_0.heap.get? a = none) (np : ∀ p ∈ X.pn ++ pins, p.1 ≠ a) :
    Inv X pins σ (upd H a (ErV cls d a)) s := by
  obtain ⟨ha, na, nL, nF, nc⟩ := I.pin (a, oe) (List.mem_append_right _ (List.mem_cons_self ..))
  have ne : ∀ {b : Addr} {o : HO}, H b = some o → b ≠ a := fun {b o} q z => by rw [z, na] at q; cases q
  refine ⟨I.ok, I.os, I.bare, ⟨I.base.keep, I.base.slot, fun b o e n hx => ?_, I.base.there, fun b xs e => ?_, fun b o u e => ?_, fun b ps e => ?_⟩, I.loc, I.cell, ?_, fun x c e => ?_, fun p hp => ?_, fun b u e => ?_, I.len⟩
  · rw [upd_ne (fun z => by rw [z, n0] at e; cases e)]
    exact I.base.free b o e n hx
  · have q := I.base.tups b xs e
    rw [upd_ne (ne q)]; exact q
  · have q := I.base.frzs b o u e
    rw [upd_ne (ne q)]; exact q
  · obtain ⟨m, q⟩ := I.base.tbls b ps e
    exact ⟨m, by rw [upd_ne (ne q)]; exact q⟩
  · rw [upd_ne (Ne.symm nL)]; exact I.free
  · have hc : c ≠ a := fun z => by
      obtain ⟨v, oc, h1, h2⟩ := I.cell x c e
      have ha' : s.heap.get? a = some oe := ha
      rw [z, ha'] at h1
      cases h1
      exact nc _ h2
    rw [upd_ne hc]; exact I.freeC x c e
  · have hp' : p ∈ X.pn ++ ((a, oe) :: pins) := by
      rcases List.mem_append.mp hp with h | h
      · exact List.mem_append_left _ h
      · exact List.mem_append_right _ (List.mem_cons_of_mem _ h)
    obtain ⟨q1, q2, q3⟩ := I.pin p hp'
    exact ⟨q1, by rw [upd_ne (np p hp)]; exact q2, q3⟩
  · by_cases hb : b = a
    · subst hb
      rw [upd_same] at e
      cases e
      exact erV_ok ha hz hd
    · rw [upd_ne hb] at e
      exact (I.hok b u e).stay (fun _ _ _ q => q) (fun c q => by rw [upd_ne (ne q)]; exact q) (fun c xs q => by rw [upd_ne (ne q)]; exact q)
end
/-- names of classes, told by their values -/
inductive NmAll (X : Cx) : List Expr → List Value → Prop
  | nil : NmAll X [] []
  | cons {x : Str} {c : Value} {np : Pos} {es : List Expr} {us : List Value} (h : Names X x c) (r : NmAll X es us) : NmAll X (.Name x np :: es) (c :: us)
theorem nm_run {X : Cx} {a : Addr} {pn : List (Addr × Obj)} {σ : L2.St} {H : Hp} {s : Shared} {pos : Pos} {E : Value → Shared → Prop} (S : Inv (X.suite a pn) [] σ H s) : ∀ {es : List Expr} {us : List Value} {Q : List Value → Shared → Prop}, NmAll X es us → Q us s →
    wpAny (model X.prog X.w) (X.A.mark (some (.ref a))) (spliced (backTo pos (starEach es X.env))) Q E s
  | _, _, _, .nil, h => Calls.spliced_nil h
  | _, _, Q, .cons (x := x) (c := c) (np := np) (es := es) (us := us) hc r, h => by
    show wpAny _ _ (spliced ((false, eval (.Name x np) X.env) :: backTo pos (starEach es X.env))) _ _ s
    refine Calls.spliced_cons ?_
    have go : wpAny (model X.prog X.w) (X.A.mark (some (.ref a))) (spliced (backTo pos (starEach es X.env))) (fun us s' => Q (c :: us) s') E s := nm_run S r h
    obtain ⟨hg, hdbg, hm | ⟨hm, hv, hnn⟩⟩ := hc
    · exact ld_glob (X := X.suite a pn) S hg hm go hdbg
    · exact ld_blt (X := X.suite a pn) S hg hm hv go hnn hdbg
theorem fl_keep {B h h' : Heap} {l : List Env} {a : Addr} {Z : Obj → Prop} (fl : HandSPX.FlyingZ B l a Z h) (k : ∀ b o, h.get? b = some o → h'.get? b = some o) : HandSPX.FlyingZ B l a Z h' := by
  obtain ⟨f1, f2, f3, oe, vs, T, oT, ts, g1, g2, g3, g4, g5, g6, g7, g8⟩ := fl
  exact ⟨fun b o e => k b o (f1 b o e), f2, Heap.FunFrames.of_keeps (fun b o e _ => ⟨o, k b o e, rfl⟩) f3, oe, vs, T, oT, ts, k _ _ g1, g2, g3, g4, g5, g6, k _ _ g7, g8⟩
/-- what 'except (C1, ..) as n' wishes, where the suite may keep the error: behind it the error stands in the heap -/
def wKeep (K : PySem.W.Frag) (us : List Value) (i : Nat) (ts : Addr → Value → Option Addr → TS) (Wout : WX) (D : Ends) : WX := fun cls d σ H =>
  ∃ b, PySem.W.exmAny K cls us = some b ∧ (b = true → ∀ a, H a = none → ts a cls d { nx := fun σ' H' => D.nx (σ'.set i none) (upd H' a (ErV cls d a)), rt := fun _ _ => False, bk := fun _ _ => False, ct := fun _ _ => False } (σ.set i (some (.ref a))) H) ∧ (b = false → Wout cls d σ H)
section
variable {X : Cx} {n : Str} {us : List Value} {es : List Expr} {i : Nat} {body suite : List Stmt} {b₀ : Stmt} {kx : Nat} {np pos pos' : Pos} {tb : WX → TS} {ts : Addr → Value → Option Addr → TS} {Wout : WX}
theorem ps_try_keep (hs : X.stack = X.env :: X.outer) (hf : X.env.frame = some X.env.locals) (hex : X.ex = []) (hN : X.N.Nodup) (hi : X.N[i]? = some n) (hln : X.env.kindOf n = some .local) (hc : NmAll X es us) (hel : us.length ≤ 1000) (tk : Takes X Wout)
    (hb : ∀ (W : WX) (pn : List (Addr × Obj)) (xe : Value → Shared → Prop), Takes (X.tr pn xe) W → PassesOwn (model X.prog X.w) X.A X.env xe → PSs (X.tr pn xe) body (tb W))
    (hsu : ∀ (a : Addr) (oe : Obj) (cls : Value) (d : Option Addr) (pn : List (Addr × Obj)), Zc cls d oe → (∃ vs, oe.data = .fields vs) → PSs (X.suite a ((a, oe) :: pn)) (b₀ :: suite) (ts a cls d)) :
    PS X (.Try body [.ExceptHandler (some (.Tuple es kx np)) (some n) (b₀ :: suite) pos'] [] [] pos) (fun D σ H => tb (wKeep X.K us i ts Wout D) D σ H) := by
  refine ⟨fun pins s σ H D I h => ?_⟩
  have ok := I.ok; have hfr : X.A.frames = some (X.env :: X.outer) := by rw [ok.frames, hs]
  have hloc : Loc X.env.scope n := .inl hln
  refine wpAny_Try_except ?_
  refine wpAny_mono ((hb (wKeep X.K us i ts Wout D) (X.pn ++ pins) (fun e s₁ => wpAny (model X.prog X.w) X.A (noteFrame e X.env) (fun _ s₂ => wpAny (model X.prog X.w) X.A (setFlight e none) (fun _ s₃ => wpAny (model X.prog X.w) X.A (handleBy e X.env [.ExceptHandler (some (.Tuple es kx np)) (some n) (b₀ :: suite) pos']) (SP X pins D) X.xe s₃) X.xe s₂) X.xe s₁) (fun u s' xx => ?_) PassesOwn.looking).run [] s σ H D (I.toTry _) h) (fun f s1 hsp => ?_) (fun e s1 he => he)
  · obtain ⟨a, B, sI, pins', σ', H', cls, d, rfl, J', nb, up, sky, na, os, ag, b, hb1, hyes, hno⟩ := xx
    have J : Inv X pins σ' H' sI := J'.ofTry ok
    have sky' : Sky B (X.env :: X.outer) a (Zc cls d) X.env.locals s'.heap := by rw [← hs]; exact sky
    show wpAny (model X.prog X.w) X.A (noteFrame (.ref a) X.env) _ _ _
    refine Sky.land Zc.steady hfr hf sky' fun h2 fl2 up2 => ?_
    have J2 : Inv X pins σ' H' { s' with heap := h2 } := J.landed nb fl2.1 (up.trans up2) os ag
    obtain ⟨oe2, vs2, he2, hz2, hd2⟩ := fl2.there
    have nfr : a ∉ frs (X.env :: X.outer) := fun hm => by
      obtain ⟨_, o', e', hnf⟩ := fl2.2.2.1.mem hm
      rw [he2] at e'; cases e'; exact hnf _ hd2
    have nL : a ≠ X.env.locals := fun z => nfr (List.mem_filterMap.mpr ⟨X.env, List.mem_cons_self, by rw [hf, z]⟩)
    have nF : a ∉ X.fs := fun hm => by
      obtain ⟨e, he, q⟩ := List.mem_filterMap.mp hm
      exact nfr (List.mem_filterMap.mpr ⟨e, List.mem_cons_of_mem _ he, q⟩)
    have noB : ∀ o, sI.heap.get? a ≠ some o := fun o q => by
      have z := nb a o q (by rw [hs]; exact nfr)
      have z' : B.get? a = none := fl2.2.1
      rw [z'] at z; cases z
    have n0 : X.s_0.heap.get? a = none := by
      cases q : X.s_0.heap.get? a with
      | none => rfl
      | some o =>
        obtain ⟨o', z⟩ := J.base.there a o q (by rw [hex]; exact fun y => nomatch y)
        exact absurd z (noB o')
    have npn : ∀ p ∈ X.pn ++ pins, p.1 ≠ a := fun p hp z => by
      obtain ⟨q, _⟩ := J.pin p hp
      rw [z] at q; exact noB _ q
    have S2 := J2.suite he2 hd2 na nL nF
    refine wpAny_handleBy_cons (codeAny_handlers_test ?_) (by intro q; cases q)
    refine Tuple_ (nm_run S2 hc ?_)
    refine wpAny_newObj_type ?_ (by show us.toArray.size ≤ sizeLine; rw [List.size_toArray]; exact Nat.le_of_lt (small1000 hel))
    have kp : ∀ b o, h2.get? b = some o → (h2.push { cls := .type "tuple", data := .seq us.toArray }).get? b = some o := fun b o e => Heap.get?_push_of_some _ e
    have htp : (h2.push { cls := .type "tuple", data := .seq us.toArray }).get? h2.objs.size = some { cls := .type "tuple", data := .seq us.toArray } := Heap.get?_push_size _ rfl
    have fl3 := fl_keep fl2 kp; have up3 := (up.trans up2).trans (Heap.UpToSlots.of_keeps kp)
    show wpAny _ _ (excMatches (.ref a) (.ref h2.objs.size)) _ _ { s' with heap := h2.push { cls := .type "tuple", data := .seq us.toArray } }
    generalize h2.push { cls := .type "tuple", data := .seq us.toArray } = h3 at kp htp fl3 up3 ⊢
    have J3 : Inv X pins σ' H' { s' with heap := h3 } := J.landed nb fl3.1 up3 os ag
    have LT : PySem.W.Looks (model X.prog X.w) h3 (typeOf (.ref a)) cls := fun A Q E s k q => wpAny_typeOf_ref (k _ _ (kp _ _ he2)) (by rw [hz2.1]; exact q)
    have LM := exm_any (M := model X.prog X.w) (J3.kIn) LT htp hb1
    refine LM.here ?_
    cases b with
    | true =>
      refine codeAny_handlers_suite_as ?_
      refine HandSPX.lands_againZ fl3 fun h4 fl4 up4 => ?_
      have J4 : Inv X pins σ' H' { s' with heap := h4 } := J.landed nb fl4.1 (up3.trans up4) os ag
      obtain ⟨oe4, vs4, he4, hz4, hd4⟩ := fl4.there
      have S4 := J4.suite he4 hd4 na nL nF
      refine store_ok (X := X.suite a ((a, oe4) :: (X.pn ++ pins))) (v := .ref a) S4 hN hi hloc rfl (fun s5 S5 => ?_) (.inr hln)
      refine wpAny_mono ((hsu a oe4 cls d (X.pn ++ pins) hz4 ⟨_, hd4⟩).run [] s5 _ H' _ S5 (hyes rfl a na)) (fun f s6 hsp => ?_) (fun _ _ z => False.elim z)
      cases f with
      | next =>
        obtain ⟨σ6, H6, S6, q6⟩ := hsp
        exact gone_ok (unsuiteK S6 ok) hN hi hln fun s7 J7 => ⟨_, _, putDown J7 hz4 hd4 n0 npn, q6⟩
      | brk => obtain ⟨_, _, _, q6⟩ := hsp; exact q6.elim
      | cont => obtain ⟨_, _, _, q6⟩ := hsp; exact q6.elim
      | ret u => obtain ⟨_, _, _, _, _, q6⟩ := hsp; exact q6.elim
    | false =>
      show wpAny _ X.A (handleBy (.ref a) X.env []) _ _ _
      refine wpAny_handleBy_nil ?_
      obtain ⟨k1, k2, k3, oe, vs, T, oT, ts', he, hz, hd, h1, hr⟩ := id fl3
      unfold PySem.passOn
      refine wpAny_bind (wpAny_field he hd h1 ?_)
      rw [if_neg (show ¬ ((Value.ref T == Value.none) = true) from by simp)]
      have fin : wpAny (model X.prog X.w) X.A (setFlight (.ref a) X.env.frame) (fun _ s4 => wpAny (model X.prog X.w) X.A (throw (.ref a) : Sem Flow) (SP X pins D) X.xe s4) X.xe { s' with heap := h3 } := by
        rw [hf]
        refine HandSPX.setFlight_upZ fl3 fun h4 hh4 up4 => wpAny_throw (tk _ _ ?_)
        exact ⟨a, B, sI, pins, σ', H', cls, d, rfl, J, nb, up3.trans up4, .inr (.inr (by rw [hs]; exact hh4)), na, os, ag, hno rfl⟩
      first
        | exact wpAny_bind (wpAny_pure (wpAny_bind fin))
        | exact wpAny_bind fin
  · cases f with
    | next => obtain ⟨σ', H', J', q⟩ := hsp; exact wpAny_execs_nil ⟨σ', H', J'.ofTry ok, q⟩
    | brk => obtain ⟨σ', H', J', q⟩ := hsp; exact ⟨σ', H', J'.ofTry ok, q⟩
    | cont => obtain ⟨σ', H', J', q⟩ := hsp; exact ⟨σ', H', J'.ofTry ok, q⟩
    | ret u => obtain ⟨v, σ', H', J', r, q⟩ := hsp; exact ⟨v, σ', H', J'.ofTry ok, r, q⟩
end
end Bal

namespace Bal
open PySem PySem.Spec PyProof.Rows L2
/-- the dict of a kept error, where it has one, stands -/
def DcOk (H : Hp) (d : Option Addr) : Prop := ∀ dd, d = some dd → ∃ fs, H dd = some (.xd fs)
theorem DcOk.none {H : Hp} : DcOk H Option.none := fun _ e => nomatch e
theorem DcOk.some {H : Hp} {dd : Addr} {fs : List (Str × V)} (h : H dd = some (.xd fs)) : DcOk H (Option.some dd) := fun _ e => by cases e; exact ⟨fs, h⟩
section
variable {X : Cx} {pins : List (Addr × Obj)} {σ : L2.St} {H : Hp} {s : Shared} {a D : Addr} {d : Option Addr}
theorem erV_inst (I : Inv X pins σ H s) (e : H a = some (ErV (.ref D) d a)) (k : DcOk H d) : ∃ ox od, PySem.W.InstAt s.heap a ox D od := by
  obtain ⟨oe, vs, hg, hz, hd⟩ := erV_at I.hok e
  cases d with
  | none => exact ⟨oe, Option.none, hg, hz.1, by unfold PySem.W.notCls; rw [hd], by rw [hz.2]; trivial⟩
  | some dd =>
    obtain ⟨fs, h⟩ := k dd rfl
    obtain ⟨mA, hns, _⟩ := (show ObjOk X.prog X.w H s.heap dd (.xd fs) from I.hok dd _ h)
    obtain ⟨od, ho, _⟩ := lookIn_ns hns
    exact ⟨oe, Option.some od, hg, hz.1, by unfold PySem.W.notCls; rw [hd], by rw [hz.2]; exact ho⟩
theorem kitV (C : ExcC X.K D) {ox : Obj} {od : Option Obj} : PySem.W.KitX X.K (.ref a) (.ref D) (fun h => PySem.W.InstAt h a ox D od) :=
  PySem.W.kitx_exc (by obtain ⟨cd, hc, _⟩ := PySem.W.any_some C.hd; rw [hc]; rfl) C.hg C.hk C.hs C.ha C.hn C.ht C.hm
/-- isinstance(e, C), e a kept error -/
def rIsV (K : PySem.W.Frag) : List V → Hp → VK → Prop := fun xs H Q => ∃ (a D : Addr) (d : Option Addr) (c : V) (u : Value) (b : Bool), xs = [.ref a, c] ∧ H a = some (ErV (.ref D) d a) ∧ ExcC K D ∧ DcOk H d ∧ ClsV c u ∧ PySem.W.kitOne K (.ref D) u = some b ∧ Q (.bl b) H
theorem call_isV : CallR X (.builtin "isinstance") (rIsV X.K) := by
  intro pins s σ H xs us Q I r h
  obtain ⟨a, D, d, c, u, b, rfl, e, C, dk, k, ek, q⟩ := h
  obtain ⟨u1, u2, rfl, r1, r2⟩ := vals2 r
  have e2 := k.eq r2
  subst e2
  cases (show u1 = Value.ref a from r1)
  obtain ⟨ox, od, J⟩ := erV_inst I e dk
  exact PySem.W.kia_one (kitV C) I.kIn J ek (fun z => nomatch z) fun tk => ⟨.bl b, H, I.tok tk, rfl, q⟩
/-- isinstance(e, (C1, ..)) -/
def rIsVT (K : PySem.W.Frag) : List V → Hp → VK → Prop := fun xs H Q => ∃ (a D : Addr) (d : Option Addr) (tp : Addr) (cs : List V) (us : List Value) (b : Bool), xs = [.ref a, .ref tp] ∧ H a = some (ErV (.ref D) d a) ∧ ExcC K D ∧ DcOk H d ∧ H tp = some (.tup cs) ∧ Paired ClsV cs us ∧ PySem.W.kitAny K (.ref D) us = some b ∧ Q (.bl b) H
theorem call_isVT : CallR X (.builtin "isinstance") (rIsVT X.K) := by
  intro pins s σ H xs us Q I r h
  obtain ⟨a, D, d, tp, cs, ws, b, rfl, e, C, dk, hT, k, ek, q⟩ := h
  obtain ⟨u1, u2, rfl, r1, r2⟩ := vals2 r
  cases (show u1 = Value.ref a from r1)
  cases (show u2 = Value.ref tp from r2)
  obtain ⟨ox, od, J⟩ := erV_inst I e dk
  obtain ⟨_, its, rv, o, h1, h2, n, h3⟩ := (show ObjOk X.prog X.w H s.heap tp (.tup cs) from I.hok tp _ hT)
  have e3 := ClsV.all k rv
  subst e3
  obtain ⟨oc, od', dt, sl⟩ := o
  simp only at h2 h3
  subst h2 h3
  exact PySem.W.kia_tup (kitV C) I.kIn J h1 ek (fun z => nomatch z) fun tk => ⟨.bl b, H, I.tok tk, rfl, q⟩
/-- e.f, e a kept error -/
def tFV (K : PySem.W.Frag) (f : Str) (te : TE) : TE := fun σ H Q => te σ H fun x H1 => ∃ (a D dd : Addr) (fs : List (Str × V)) (v : V), x = .ref a ∧ H1 a = some (ErV (.ref D) (some dd) a) ∧ ExcC K D ∧ PySem.W.findIn K (.ref D) f = some none ∧ H1 dd = some (.xd fs) ∧ fs.lookup f = some v ∧ Q v H1
theorem pe_fV {e : Expr} {te : TE} {pos : Pos} {n : Str} (he : PE X e te) (hb : attributeBase e n X.env (eval e X.env) = eval e X.env := by rfl) : PE X (.Attribute e n pos) (tFV X.K n te) := by
  refine ⟨fun pins s σ H Q I h => ?_⟩
  refine attr_of hb (thn (he.run pins s σ H _ I h) fun u s1 ⟨x, H1, I1, rx, a, D, dd, fs, v, ex, ea, C, hno, ed, l, q⟩ => ?_)
  subst ex
  obtain rfl : u = Value.ref a := rx
  obtain ⟨oe, vs, hg, hz, hd⟩ := erV_at I1.hok ea
  obtain ⟨mA, hns, hr⟩ := (show ObjOk X.prog X.w H1 s1.heap dd (.xd fs) from I1.hok dd _ ed)
  obtain ⟨od, ho, hl⟩ := lookIn_ns hns
  obtain ⟨u, hu, ru⟩ := RelO.some_of (v := v) (o := mA n) (by rw [← l]; exact hr n)
  have J : PySem.W.InstAt s1.heap a oe D (some od) := ⟨hg, hz.1, by unfold PySem.W.notCls; rw [hd], by rw [hz.2]; exact ho⟩
  exact HandSPX.exc_get I1.kIn J C.hg C.hk C.hs (PySem.W.findObj_own C.hd hno rfl (by rw [hl, hu])) (handed_of ru) ⟨v, H1, I1.tok _, ru, q⟩
/-! ### calls by names alone -/
/-- how such a call binds: g puts the values ws of the names ks in the parameters' order -/
structure KB0 (K : PySem.W.Frag) (fd : FuncData) (ps ks : List Str) (g : List Value → List Value) (gV : List V → List V) : Prop where
  to : ∀ (s : Shared) (ws : List Value), K.In s.heap → ws.length = ks.length → BindsTo s fd ⟨[], ks.zip ws⟩ (ps.zip (g ws))
  rel : ∀ {zs : List V} {ws : List Value}, zs.length = ks.length → Vals zs ws → Vals (gV zs) (g ws)
section
variable {CX : CXT} {x : Str} {f : Addr} {k : Nat} {fd : FuncData} {ps ks : List Str} {sp : Sp} {g : List Value → List Value} {gV : List V → List V} {E : XK} {kws : List Keyword} {tk : TA} {p pos : Pos}
def tCallK0 (n : Nat) (sp : Sp) (gV : List V → List V) (E : XK) (tk : TA) : TE := fun σ H Q => tk σ H fun zs H1 => zs.length = n ∧ sp (gV zs) H1 Q E
theorem pe_callK0 (F : FnOk X.prog X.w X.K X.mg X.base CX k f fd ps sp) (hr : Room k X.A) (hg : Gl X x) (hm : X.mg x = some (.ref f)) (hk : PySem.W.keepIn X.K (.ref f) = true) (hb : KB0 X.K fd ps ks g gV) (hx : Passes CX X E) (hkw : PK X kws tk)
    (hall : (backToKw pos (keywordEach kws X.env)).all (·.1.isSome) = true := by rfl) (hks : (backToKw pos (keywordEach kws X.env)).filterMap (·.1) = ks := by rfl) (hdb : (x == ("__debug__" : Str)) = false := by decide)
    (hpl : ((backTo pos (starEach [] X.env)).any (·.1) || (backToKw pos (keywordEach kws X.env)).any (·.1.isNone)) = false := by rfl) : PE X (.Call (.Name x p) [] kws pos) (tCallK0 ks.length sp gV E tk) := by
  refine ⟨fun pins s σ H Q I h => ?_⟩
  refine wpAny_Call_Name_kw (ld_glob I hg hm ?_ hdb)
  refine PySem.W.callWith_KW0 (h₀ := X.base) I.ok.mod.kin hk hall (thn (hkw.run pos pins s σ H _ I h) fun ws s2 ⟨zs, H2, I2, rz, hz, q2⟩ => ⟨I2.kIn, ?_⟩) hpl
  rw [hks]
  refine wpAny_call (codeAny_mono (F.run X.A X.stack s2 H2 ⟨[], ks.zip ws⟩ (g ws) (gV zs) Q E hr I2.env0 (hb.to s2 ws I2.kIn (by rw [← rz.length]; exact hz)) (hb.rel hz rz) q2) fun r s' hq => ?_)
  cases r with
  | error e => exact hx pins σ H2 s2 e s' I2 hq
  | ok fl =>
    cases fl with
    | ret u => exact I2.after hq
    | next => exact False.elim hq
    | brk => exact False.elim hq
    | cont => exact False.elim hq
end
/-- one name -/
theorem kb_one {K : PySem.W.Frag} {x qual : Str} {st : Stmt} {f : Addr} {fd : FuncData} {a : Str} (F : Fun K x qual st f fd)
    (h : ∀ (kV doc pm : Value) (an : Option Addr) (cdv ct : Value) (u : Value), bindArgs (PySem.W.fnOf x qual (defArgs st) (defBody st) (defScope st) .none kV doc pm an cdv ct) ⟨[], [(a, u)]⟩ = pure [(a, u)]) : KB0 K fd [a] [a] (fun w => w) (fun w => w) := by
  obtain ⟨oc, od, kV, doc, pm, an, cdv, ct, osl, rfl, lk, hcd⟩ := F.ex
  exact ⟨fun s ws _ hl => match ws, hl with | [u], _ => .of_eq (h kV doc pm an cdv ct u), fun _ r => r⟩
/-- two names, the other way about -/
def flip2 {α : Type} : List α → List α
  | [a, b] => [b, a]
  | l => l
theorem kb_flip {K : PySem.W.Frag} {x qual : Str} {st : Stmt} {f : Addr} {fd : FuncData} {a b : Str} (F : Fun K x qual st f fd)
    (h : ∀ (kV doc pm : Value) (an : Option Addr) (cdv ct : Value) (u v : Value), bindArgs (PySem.W.fnOf x qual (defArgs st) (defBody st) (defScope st) .none kV doc pm an cdv ct) ⟨[], [(b, u), (a, v)]⟩ = pure [(a, v), (b, u)]) : KB0 K fd [a, b] [b, a] flip2 flip2 := by
  obtain ⟨oc, od, kV, doc, pm, an, cdv, ct, osl, rfl, lk, hcd⟩ := F.ex
  refine ⟨fun s ws _ hl => match ws, hl with | [u, v], _ => .of_eq (h kV doc pm an cdv ct u v), fun {zs ws} hz r => ?_⟩
  match zs, hz with
  | [z1, z2], _ =>
    cases r with
    | cons r1 r =>
      cases r with
      | cons r2 r =>
        cases r
        exact .cons r2 (.cons r1 .nil)
end
/-! ### xs[::-1] of a list or a tuple -/
theorem rg_rev (n : Nat) : (List.range n).map (fun m => n - 1 - m) = (List.range n).reverse := by
  apply List.ext_getElem
  · simp
  · intro i h1 h2
    simp
theorem rev_pick (xs : Array Value) : ((List.range xs.size).filterMap fun (m : Nat) => xs[(((xs.size : Int) - 1) + (m : Int) * (-1)).toNat]?).toArray = xs.toList.reverse.toArray := by
  have e : (fun (m : Nat) => xs[(((xs.size : Int) - 1) + (m : Int) * (-1)).toNat]?) = (fun k : Nat => xs[k]?) ∘ fun m => xs.size - 1 - m := by
    funext m
    have : (((xs.size : Int) - 1) + (m : Int) * (-1)).toNat = xs.size - 1 - m := by omega
    show xs[(((xs.size : Int) - 1) + (m : Int) * (-1)).toNat]? = xs[xs.size - 1 - m]?
    rw [this]
  rw [e, ← List.filterMap_map, rg_rev, List.filterMap_reverse, PySem.W.krv_all]
section
variable {prog : Program} {w : World} {A : Around} {E : Value → Shared → Prop} {s : Shared}
theorem sl_rev {sl : Addr} {vk : Value} {n : Nat} {Q : Int × Int × Nat → Shared → Prop} (hs : s.heap.IsSliceOf sl .none .none vk) (pk : IsPart vk (some (-1))) (h : Q ((n : Int) - 1, -1, n) s) : wpAny (model prog w) A (Builtin.Slice.sliceApplied (.ref sl) (pure (n : Int))) Q E s := by
  obtain ⟨os, hos, hcs, hds⟩ := id hs
  unfold Builtin.Slice.sliceApplied Builtin.Slice.sliceFields
  refine wpAny_bind (wpAny_bind (wpAny_field hos hds (x := .none) rfl (wpAny_bind (wpAny_field hos hds (x := .none) rfl (wpAny_bind (wpAny_field hos hds (x := vk) rfl (wpAny_pure ?_)))))))
  refine wpAny_bind (HT.slicePart_ pk ?_)
  show wpAny _ _ (if ((-1 : Int) == 0) = true then _ else _) _ _ s
  rw [if_neg (by decide)]
  refine wpAny_bind (slicePart_none (wpAny_bind (slicePart_none (wpAny_bind (wpAny_pure ?_)))))
  show wpAny _ _ (pure ((n : Int) - 1, (-1 : Int), Builtin.Slice.slicePlaces ((n : Int) - 1) (-1) (-1))) _ _ s
  have e : Builtin.Slice.slicePlaces ((n : Int) - 1) (-1) (-1) = n := by
    unfold Builtin.Slice.slicePlaces
    rw [if_neg (by decide), show (-(-1 : Int)) = 1 from rfl, Int.ediv_one]
    split <;> omega
  rw [e]
  exact wpAny_pure h
theorem getItem_tup_rev {t sl : Addr} {items : Array Value} {vk : Value} {Q : Value → Shared → Prop} (ht : IsTup s.heap t items) (hs : s.heap.IsSliceOf sl .none .none vk) (pk : IsPart vk (some (-1)))
    (h : Q (.ref s.heap.objs.size) { s with heap := s.heap.push { cls := .type "tuple", data := .seq items.toList.reverse.toArray } }) (hsz : items.size ≤ sizeLine) : wpAny (model prog w) A (getItem (.ref t) (.ref sl)) Q E s := by
  have hok : sizeOk (.seq items.toList.reverse.toArray) := by
    show items.toList.reverse.toArray.size ≤ sizeLine
    rw [List.size_toArray, List.length_reverse, Array.length_toList]
    exact hsz
  obtain ⟨os, hos, hcs, hds⟩ := id hs; have hTs : s.TypeIs (.ref sl) "slice" := ⟨os, hos, hcs⟩
  unfold getItem
  try with_reducible refine wpAny_holding ?_
  first | refine wpAny_bind (wpAny_pure ?_) | skip
  refine wpAny_bind (wpAny_sequenceKey ht.typeIs (by decide) ?_)
  refine wpAny_bind (wpAny_callSpecial?_slot (name := Str.ofString "__getitem__") ht.typeIs PyProof.Rows.slot_tuple_getitem (wpAny_call_entry PyProof.Rows.slot_tuple_getitem ht.typeIs entry_tuple_getitem ?_ (args_tuple_getitem _ _)))
  show wpAny _ _ (Builtin.Tuple.tupleItemsOf (.ref t) >>= _) _ _ s
  refine wpAny_bind (tupleItemsOf_ ht ?_)
  refine wpAny_bind (wpAny_typeOf hTs ?_)
  rw [if_pos (by decide)]
  refine wpAny_bind (sl_rev hs pk ?_)
  have hno : ¬ ((((items.size : Int) - 1) == 0 && (-1 : Int) == 1 && items.size == items.size) = true) := by
    rw [show ((-1 : Int) == 1) = false from rfl, Bool.and_false, Bool.false_and]
    exact Bool.false_ne_true
  show wpAny _ _ (if (((items.size : Int) - 1) == 0 && (-1 : Int) == 1 && items.size == items.size) = true then _ else _) _ _ s
  rw [if_neg hno, rev_pick]
  first
    | exact wpAny_bind (m := Builtin.Tuple.tupleExact _) (wpAny_newObj_type (wpAny_pure ⟨_, rfl, wpAny_pure h⟩) hok)
    | exact wpAny_bind (m := Builtin.Tuple.tupleExact _) (wpAny_newObj_type (wpAny_bind (wpAny_pure (wpAny_pure ⟨_, rfl, wpAny_pure h⟩))) hok)
    | exact wpAny_bind (wpAny_bind (m := Builtin.Tuple.tupleExact _) (wpAny_newObj_type (wpAny_pure (wpAny_pure ⟨_, rfl, wpAny_pure h⟩)) hok))
    | exact wpAny_bind (wpAny_bind (m := Builtin.Tuple.tupleExact _) (wpAny_newObj_type (wpAny_pure ⟨_, rfl, wpAny_pure h⟩) hok))
end
section
variable {X : Cx}
/-- xs[::-1]: a new list, a new tuple -/
def tRevA (K : PySem.W.Frag) (te : TE) : TE := fun σ H Q => te σ H fun x H1 => ∃ a xs, x = .ref a ∧ ((SqL K H1 a xs ∧ ∀ p, H1 p = none → Q (.ref p) (upd H1 p (.lst xs.reverse))) ∨ (SqT K H1 a xs ∧ ∀ p, H1 p = none → Q (.ref p) (upd H1 p (.tup xs.reverse))))
theorem pe_revA {e : Expr} {te : TE} {k : Nat} {p1 p2 p3 pos : Pos} (he : PE X e te) : PE X (.Subscript e (.Slice none none (some (.UnaryOp .USub (.Constant (.int 1) k p1) p2)) p3) pos) (tRevA X.K te) := by
  refine ⟨fun pins s σ H Q I h => ?_⟩
  refine Subscript_ (thn (he.run pins s σ H _ I h) fun v s1 ⟨x, H1, I1, r1, a, xs, ex, q1⟩ => ?_)
  subst ex; cases r1
  have hst : PO X (some (.UnaryOp .USub (.Constant (.int 1) k p1) p2)) (tPart (tUn (rU fun i => .int (-i)) (tC (.int 1)))) := po_some (pe_un un_neg pe_int)
  refine wpAny_Slice (thn (po_none.run pins s1 σ H1 (fun o H2 => o = none ∧ H2 = H1) I1 ⟨rfl, rfl⟩) fun vl s2 ⟨l, H2, I2, pl, el, e2⟩ => ?_)
  subst el e2
  refine thn (po_none.run pins s2 σ H2 (fun o H3 => o = none ∧ H3 = H2) I2 ⟨rfl, rfl⟩) fun vu s3 ⟨u, H3, I3, pu, eu, e3⟩ => ?_
  subst eu e3
  refine thn (hst.run pins s3 σ H3 (fun o H4 => o = some (-1) ∧ H4 = H3) I3 ⟨1, rfl, -1, rfl, rfl, rfl⟩) fun vs s4 ⟨o, H4, I4, ps, eo, e4⟩ => ?_
  subst eo e4
  have I5 : Inv X pins σ H4 { s4 with heap := s4.heap.push { cls := .type "slice", data := .fields #[vl, vu, vs] } } := I4.kept (t' := s4.toks) fun b ob q => Heap.get?_push_of_some _ q
  show wpAny (model X.prog X.w) X.A (subscriptTail e (.Slice none none (some (.UnaryOp .USub (.Constant (.int 1) k p1) p2)) p3) (.ref a) (.ref s4.heap.objs.size)) (EP X pins σ Q) X.xe { s4 with heap := s4.heap.push { cls := .type "slice", data := .fields #[vl, vu, vs] } }
  rcases q1 with ⟨hx, q⟩ | ⟨hx, q⟩
  · obtain ⟨its, r, ht, hz⟩ := I5.list hx
    have hlen := r.length
    refine tail_any (ops := [.ref a, .ref s4.heap.objs.size]) ht.isList.typeIs (PySem.slot_list_getitem.lookup) ?_ (by with_unfolding_all rfl)
    refine wpAny_getItem_list_slice ht.isList (Heap.IsSliceOf.new _ vl vu vs) pl pu ps (by decide) ?_ (by rw [List.size_toArray]; omega)
    rw [PySem.W.krv_pick]
    exact ⟨.ref _, _, I5.laid (t' := s4.toks) (o := .lst xs.reverse) (fun b ob q => Heap.get?_push_of_some _ q) (Nat.le_refl _) ⟨by rw [List.length_reverse]; exact hz, _, 0, r.reverse, Heap.get?_push_size _ rfl⟩, rfl, q _ (I5.hok.fresh (Nat.le_refl _))⟩
  · obtain ⟨its, r, ht, hz⟩ := I5.tuple hx
    have hlen := r.length
    cases pl; cases pu
    refine tail_any (ops := [.ref a, .ref s4.heap.objs.size]) ht.typeIs (PyProof.Rows.slot_tuple_getitem.lookup) ?_ (by with_unfolding_all rfl)
    refine getItem_tup_rev ht (Heap.IsSliceOf.new _ _ _ vs) ps ?_ (by rw [List.size_toArray]; omega)
    exact ⟨.ref _, _, I5.laid (t' := s4.toks) (o := .tup xs.reverse) (fun b ob q => Heap.get?_push_of_some _ q) (Nat.le_refl _) ⟨by rw [List.length_reverse]; exact hz, _, r.reverse, IsTup.new _ _⟩, rfl, q _ (I5.hok.fresh (Nat.le_refl _))⟩
end
/-! ### what classes are to one another -/
theorem kit_self {K : PySem.W.Frag} {D : Addr} : PySem.W.kitOne K (.ref D) (.ref D) = some true := by
  unfold PySem.W.kitOne
  rw [if_pos (beq_self_eq_true _)]
theorem kit_no {K : PySem.W.Frag} {D C : Addr} (hd : PySem.W.hasDictIn K C = true) (ht : PySem.W.typeIn K (.ref C) = some (.type "type")) (hs : PySem.W.subIn K (.ref D) (.ref D) = some true) (h : PySem.W.subIn K (.ref D) (.ref C) = some false) : PySem.W.kitOne K (.ref D) (.ref C) = some false := by
  unfold PySem.W.kitOne
  have ne : ((Value.ref D == Value.ref C) = true) = False := by
    refine eq_false fun z => ?_
    have e : D = C := Value.ref.inj (beq_iff_eq.mp z)
    rw [e] at hs h
    rw [hs] at h
    cases h
  obtain ⟨cd, hc, _⟩ := PySem.W.any_some hd
  rw [if_neg (by rw [ne]; exact id)]
  show (if ((PySem.W.clsIn K C).isSome && PySem.W.typeIn K (.ref C) == some (.type "type")) = true then PySem.W.subIn K (.ref D) (.ref C) else none) = some false
  rw [hc, ht, if_pos (by rfl)]
  exact h
theorem kit_up {K : PySem.W.Frag} {D : Addr} {T : String} {b : Bool} (hm : PySem.W.kitMeta T = true) (h : PySem.W.subIn K (.ref D) (.type T) = some b) : PySem.W.kitOne K (.ref D) (.type T) = some b := by
  unfold PySem.W.kitOne
  have ne : ¬ (Value.ref D == Value.type T) = true := fun z => by
    have z := beq_iff_eq.mp z
    cases z
  rw [if_neg ne]
  show (if PySem.W.kitMeta T = true then PySem.W.subIn K (.ref D) (.type T) else none) = some b
  rw [if_pos hm]
  exact h
theorem kits_no {K : PySem.W.Frag} {t : Value} : ∀ {us : List Value}, (∀ u ∈ us, PySem.W.kitOne K t u = some false) → PySem.W.kitAny K t us = some false
  | [], _ => rfl
  | u :: us, h => by
    unfold PySem.W.kitAny
    rw [h u (List.mem_cons_self ..)]
    exact kits_no fun v hv => h v (List.mem_cons_of_mem _ hv)
theorem exms_yes {K : PySem.W.Frag} {cls : Value} : ∀ {us : List Value}, (∀ u ∈ us, ∃ b, PySem.W.exmOne K cls u = some b) → (∃ u ∈ us, PySem.W.exmOne K cls u = some true) → PySem.W.exmAny K cls us = some true := by
  have all : ∀ {us : List Value}, (∀ u ∈ us, ∃ b, PySem.W.exmOne K cls u = some b) → ∃ b, PySem.W.exmAny K cls us = some b := by
    intro us
    induction us with
    | nil => exact fun _ => ⟨false, rfl⟩
    | cons u us ih =>
      intro h
      obtain ⟨b, hb⟩ := h u (List.mem_cons_self ..)
      obtain ⟨d, hd⟩ := ih fun v hv => h v (List.mem_cons_of_mem _ hv)
      exact ⟨b || d, by unfold PySem.W.exmAny; rw [hb, hd]⟩
  intro us h ⟨u, hu, e⟩
  obtain ⟨b, hb⟩ := all h
  obtain ⟨_, eb⟩ := exmAny_each hb
  rw [hb, eb]
  have : (us.any fun c => PySem.W.exmOne K cls c == some true) = true := List.any_eq_true.mpr ⟨u, hu, by rw [e]; rfl⟩
  rw [this]
/-- a class of one's own among the errors: what is asked of it -/
structure ErK (K : PySem.W.Frag) (mg : Str → Option Value) (x : Str) (C : Addr) : Prop where
  g : mg x = some (.ref C)
  ex : PySem.W.subIn K (.ref C) (.type "BaseException") = some true
  hd : PySem.W.hasDictIn K C = true
  ty : PySem.W.typeIn K (.ref C) = some (.type "type")
theorem ErK.one {K : PySem.W.Frag} {mg : Str → Option Value} {x : Str} {C : Addr} (h : ErK K mg x C) {cls : Value} {b : Bool} (s : PySem.W.subIn K cls (.ref C) = some b) : PySem.W.exmOne K cls (.ref C) = some b := PySem.W.exm_ref h.ex h.hd h.ty s
/-- .. one with a field f, told by its __init__, and what makes its instances -/
structure ErT (K : PySem.W.Frag) (mg : Str → Option Value) (x f qual : Str) (st : Stmt) (C fI : Addr) (fdI : FuncData) (newId : String) (tail : List Value) : Prop where
  k : ErK K mg x C
  c : ErC K C newId tail
  i : ExcC K C
  iC : PySem.W.findIn K (.ref C) "__init__" = some (some (.ref fI))
  tI : PySem.W.typeIn K (.ref fI) = some (.type "function")
  F : Fun K "__init__" qual st fI fdI
  no : PySem.W.findIn K (.ref C) f = some none
  me : PySem.W.subIn K (.ref C) (.ref C) = some true
theorem mk_heap {H : Hp} {a dx : Addr} {o1 o2 o3 o4 : HO} (ha : H a = none) (ne : dx ≠ a) : upd (del (upd (upd (upd H a o1) dx o2) a o3) a) dx o4 = upd H dx o4 := by
  funext b
  by_cases h1 : b = dx
  · rw [h1, upd_same, upd_same]
  · rw [upd_ne h1, upd_ne h1]
    by_cases h2 : b = a
    · rw [h2, del_same, ha]
    · rw [del_ne h2, upd_ne h2, upd_ne h1, upd_ne h2]
/-- __init__(self, f): self.f = f -/
def spInit (K : PySem.W.Frag) (C : Addr) (f : Str) : Sp := fun vs H Q _ => ∃ (a : Addr) (v : V), vs = [.ref a, v] ∧ H a = some (exo a C none) ∧ ∀ dx, H dx = none → dx ≠ a → Q .non (upd (upd H dx (exd dx [(f, v)])) a (exo a C (some dx)))
/-- an error of the class at C is made of v -/
theorem made_er {K : PySem.W.Frag} {C : Addr} {f : Str} {v : V} {H : Hp} {Q : XK} (q : ∀ d, H d = none → Q (.ref C) (some d) (upd H d (.xd [(f, v)]))) : [v].length ≤ 1000 ∧ ∀ a, H a = none → spInit K C f (.ref a :: ([v] ++ [])) (upd H a (exo a C none))
    (fun v H2 => v = .non ∧ ∃ (d : Addr) (fs : List (Str × V)), H2 a = some (exo a C (some d)) ∧ H2 d = some (exd d fs) ∧ H d = none ∧ Q (.ref C) (some d) (upd (del H2 a) d (.xd fs))) (fun _ _ _ => False) := by
  refine ⟨by show 1 ≤ 1000; decide, fun a ha => ⟨a, v, rfl, upd_same, fun dx ndx ne => ⟨rfl, dx, [(f, v)], upd_same, ?_, ?_, ?_⟩⟩⟩
  · rw [upd_ne ne, upd_same]
  · rw [upd_ne ne] at ndx
    exact ndx
  · rw [mk_heap ha ne]
    rw [upd_ne ne] at ndx
    exact q dx ndx
theorem erT_mk {K : PySem.W.Frag} {mg : Str → Option Value} {x f qual : Str} {st : Stmt} {C fI : Addr} {fdI : FuncData} {newId : String} {tail : List Value} {nm qn : Str} {N : Addr} {bs : List Value} {sn : List Str} {sub : List Value} {ab : Bool} {col : Option Bool} {dd : Option Addr} {m0 m1 m2 m3 m5 : Option Value}
    (g : mg x = some (.ref C)) (xl : K.lookup C = some (excClassObj nm qn C N bs tail true sn sub ab col dd m0 m1 m2 m3 m5 newId)) (sa : PySem.W.findIn K (.ref C) "__setattr__" = some (some (.builtin "object.__setattr__"))) (ga : PySem.W.findIn K (.ref C) "__getattribute__" = some (some (.builtin "BaseException.__getattribute__")))
    (gg : PySem.W.findIn K (.ref C) "__getattr__" = some none) (no : PySem.W.findIn K (.ref C) f = some none) (iC : PySem.W.findIn K (.ref C) "__init__" = some (some (.ref fI))) (tI : PySem.W.typeIn K (.ref fI) = some (.type "function")) (F : Fun K "__init__" qual st fI fdI)
    (kC : PySem.W.keepIn K (.ref C) = true) (ex : PySem.W.subIn K (.ref C) (.type "BaseException") = some true) (ty : PySem.W.typeIn K (.ref C) = some (.type "type")) (hd : PySem.W.hasDictIn K C = true) (me : PySem.W.subIn K (.ref C) (.ref C) = some true)
    (ha : PySem.W.findIn K (.ref C) "__class__" = some (some (.builtin "object.__class__"))) (hm : PySem.W.mroIn K C (.type "object") = some true) (hn : PySem.W.specialIn K (.builtin "object.__class__") "__get__" = some (some (.builtin "getset_descriptor.__get__"))) (ht : PySem.W.takesIn K (.builtin "object.__class__") = some true) (bx : BaseX newId tail) :
    ErT K mg x f qual st C fI fdI newId tail := ⟨⟨g, ex, hd, ty⟩, ⟨bx, ⟨nm, qn, N, bs, sn, sub, ab, col, dd, m0, m1, m2, m3, m5, xl⟩, sa, ex, ty, kC⟩, ⟨ga, gg, ex, hd, ha, hn, ht, hm⟩, iC, tI, F, no, me⟩
end Bal

namespace Bal
open PySem PySem.Spec PyProof.Rows L2
/-! ### one of two readings -/
theorem pe_or {X : Cx} {e : Expr} {t u : TE} (h : PE X e t) (h' : PE X e u) : PE X e (fun σ H Q => t σ H Q ∨ u σ H Q) := ⟨fun pins s σ H Q I q => q.elim (h.run pins s σ H Q I) (h'.run pins s σ H Q I)⟩
/-- a list or a tuple -/
def SqA (K : PySem.W.Frag) (H : Hp) (a : Addr) (xs : List V) : Prop := SqL K H a xs ∨ SqT K H a xs
theorem SqA.same {K : PySem.W.Frag} {H H' : Hp} {a : Addr} {xs : List V} (h : SqA K H a xs) (s : Same H H') : SqA K H' a xs := h.imp (fun h => s.seq h) (fun h => Same.sqT s h)
section
variable {X : Cx} {pins : List (Addr × Obj)} {σ : L2.St} {H : Hp} {s : Shared} {a : Addr}
theorem sq_obj {xs : List V} (I : Inv X pins σ H s) (h : SqA X.K H a xs) : ∃ (its : List Value) (T : String) (o : Obj) (n : Nat), Vals xs its ∧ its.length ≤ sizeLine ∧ (T = "list" ∨ T = "tuple") ∧ s.heap.get? a = some o ∧ o.cls = .type T ∧ o.data = .seq its.toArray n := by
  rcases h with h | h
  · obtain ⟨its, r, ⟨o, n, ho, hc, _, hd⟩, hz⟩ := I.list h
    exact ⟨its, "list", o, n, r, by rw [← r.length]; exact hz, .inl rfl, ho, hc, hd⟩
  · obtain ⟨its, r, ⟨o, ho, hc, n, hd⟩, hz⟩ := I.tuple h
    exact ⟨its, "tuple", o, n, r, by rw [← r.length]; exact hz, .inr rfl, ho, hc, hd⟩
/-- sorted(xs, ..) of numbers, xs a list or a tuple; kw says reverse=b -/
theorem sorted_go {b : Bool} {kw : List (Str × Value)} {ns : List Int} {Q : VK} (I : Inv X pins σ H s) (hs : SqA X.K H a (ns.map V.int)) (hk : ∀ a, Builtin.«list.sort» ⟨[.ref a], kw⟩ = Builtin.«list.sort» ⟨[.ref a], [(Str.ofString "reverse", .bool b)]⟩)
    (ha1 : argsOk "sorted" ⟨[.ref a], kw⟩) (ha2 : ∀ a, argsOk "list.sort" ⟨[a], kw⟩) (q : ∀ (ns' : List Int) (p : Addr), ns'.Perm ns → OrdB b ns' → H p = none → Q (.ref p) (upd H p (.lst (ns'.map V.int)))) :
    wpAny (model X.prog X.w) X.A (call (.builtin "sorted") [.ref a] kw) (EP X pins σ Q) X.xe s := by
  obtain ⟨its, T, o, n, rv, hz, hT, ho, hc, hd⟩ := sq_obj I hs
  have hi := rv.ints
  refine call_function_entry_kw kind_sorted plain_sorted entry_sorted ha1 ?_
  unfold Builtin.«sorted»
  refine wpAny_bind (m := checkCount "sorted" 1 1 _) (wpAny_pure ?_)
  refine wpAny_bind (wpAny_collect_seq a hT ho hc hd (fun h' k => ?_) (by rw [List.size_toArray]; exact hz))
  rw [show its.toArray.toList = its from rfl]
  refine wpAny_bind (wpAny_newList ?_ hz)
  have hoL : (h'.push (seqObj "list" its.toArray 0)).get? h'.objs.size = some (seqObj "list" its.toArray 0) := Heap.get?_push_size _ rfl
  have kk : ∀ b o, s.heap.get? b = some o → (h'.push (seqObj "list" its.toArray 0)).get? b = some o := fun b o e => Heap.get?_push_of_some _ (k b o e)
  have fr : H h'.objs.size = none := (I.kept (t' := s.toks) k).hok.fresh (Nat.le_refl _)
  show wpAny _ _ _ _ _ { s with heap := h'.push (seqObj "list" its.toArray 0) }
  refine wpAny_bind (wpAny_holding (wpAny_call_entry_kw slot_list_sort ⟨_, hoL, rfl⟩ entry_list_sort ?_ (ha2 _)))
  rw [hk]
  refine SrtR.list_sort_ordR SrtO.swo_int hoL hz (fun h2 => SrtO.ints_sortable hi h2) fun out h1 h2 => ⟨_, rfl, ?_⟩
  obtain ⟨ns', k1, k2, k3⟩ := SrtR.ints_outR hi h1 h2
  obtain ⟨ep, he'⟩ := PyProof.Rows.sortedHeap_at (out := if b = true then out.toArray.reverse else out.toArray) hoL
  have hlen : (ns'.map V.int).length ≤ sizeLine := by
    rw [List.length_map, k2.length_eq, ← List.length_map (f := V.int), rv.length]
    exact hz
  have e0 : ((if b = true then out.toArray.reverse else out.toArray).toList).toArray = (if b = true then out.toArray.reverse else out.toArray) := by rw [Array.toArray_toList]
  have old : ∀ c u, s.heap.get? c = some u → (sortedHeap (h'.push (seqObj "list" its.toArray 0)) h'.objs.size its (if b = true then out.toArray.reverse else out.toArray)).get? c = some u := fun c u e => by
    have lt : c < h'.objs.size := Heap.lt_size (k c u e)
    rw [PyProof.Rows.sortedHeap_old (Nat.ne_of_lt lt) (by rw [size_push']; exact Nat.lt_succ_of_lt lt)]
    exact kk c u e
  have hp0 : s.heap.get? h'.objs.size = none := by
    cases e : s.heap.get? h'.objs.size with
    | none => rfl
    | some u => exact absurd (Heap.lt_size (k _ _ e)) (Nat.lt_irrefl _)
  exact wpAny_pure ⟨_, rfl, .ref _, upd H h'.objs.size (.lst (ns'.map V.int)), I.laidN (t' := s.toks) old hp0 fr ⟨hlen, _, ep, vals_of_ints k1, by rw [e0]; exact he'⟩, rfl, q _ _ k2 k3 fr⟩
def rSrtR (K : PySem.W.Frag) (b : Bool) : List V → List V → Hp → VK → Prop := fun vs zs H Q => ∃ (a : Addr) (ns : List Int), vs = [V.ref a] ∧ zs = [.bl b] ∧ SqA K H a (ns.map V.int) ∧ ∀ (ns' : List Int) (p : Addr), ns'.Perm ns → OrdB b ns' → H p = none → Q (.ref p) (upd H p (.lst (ns'.map V.int)))
theorem cr_srtR {b : Bool} : CallRK X (.builtin "sorted") [Str.ofString "reverse"] (rSrtR X.K b) := by
  intro pins s σ H vs zs us ws Q I r rz h
  obtain ⟨a, ns, rfl, rfl, hs, q⟩ := h
  obtain rfl := Vals.ref1 r
  obtain ⟨w1, rfl, e1⟩ := vals1 rz
  obtain rfl : w1 = Value.bool b := e1
  exact sorted_go I hs (fun _ => rfl) (PyProof.Rows.args_sorted_rev _ _) (fun _ => PyProof.Rows.args_list_sort_rev _ _) q
def rSrt (K : PySem.W.Frag) : List V → Hp → VK → Prop := fun vs H Q => ∃ (a : Addr) (ns : List Int), vs = [V.ref a] ∧ SqA K H a (ns.map V.int) ∧ ∀ (ns' : List Int) (p : Addr), ns'.Perm ns → ns'.Pairwise (· ≤ ·) → H p = none → Q (.ref p) (upd H p (.lst (ns'.map V.int)))
theorem sort_plain (a : Addr) : Builtin.«list.sort» ⟨[.ref a], []⟩ = Builtin.«list.sort» ⟨[.ref a], [(Str.ofString "reverse", .bool false)]⟩ := by
  rw [list_sort_rev]
  first | rfl | kernel_rfl
theorem cr_srt : CallR X (.builtin "sorted") (rSrt X.K) := by
  intro pins s σ H vs us Q I r h
  obtain ⟨a, ns, rfl, hs, q⟩ := h
  obtain rfl := Vals.ref1 r
  exact sorted_go (b := false) (kw := []) I hs sort_plain (args_sorted1 _) (fun _ => args_list_sort _) (fun ns' p pm o n => q ns' p pm o n)
/-! ### xs.index(x) of numbers -/
def rIdx (K : PySem.W.Frag) : V → List V → Hp → VK → Prop := fun x xs H Q => ∃ (a : Addr) (ns : List Int) (k : Int), x = .ref a ∧ xs = [.int k] ∧ SqL K H a (ns.map V.int) ∧ k ∈ ns ∧ Q (.int (ns.idxOf k : Nat)) H
def rIdxT (K : PySem.W.Frag) : V → List V → Hp → VK → Prop := fun x xs H Q => ∃ (a : Addr) (ns : List Int) (k : Int), x = .ref a ∧ xs = [.int k] ∧ SqT K H a (ns.map V.int) ∧ k ∈ ns ∧ Q (.int (ns.idxOf k : Nat)) H
theorem mt_idx : MtR X "list.index" (rIdx X.K) := by
  intro pins s σ H x xs v us Q I rx rs h
  obtain ⟨a, ns, k, rfl, rfl, hs, hk, q⟩ := h
  cases rx
  obtain ⟨u, rfl, t, rfl⟩ := vals1 rs
  obtain ⟨its, r, p, hz⟩ := I.list hs
  exact PySem.SeqAt.list_index_ints p.isList r.ints (by rw [List.length_map] at hz; exact hz) hk ⟨.int (ns.idxOf k : Nat), H, I.tok _, ⟨_, rfl⟩, q⟩
theorem mt_idxT : MtR X "tuple.index" (rIdxT X.K) := by
  intro pins s σ H x xs v us Q I rx rs h
  obtain ⟨a, ns, k, rfl, rfl, hs, hk, q⟩ := h
  cases rx
  obtain ⟨u, rfl, t, rfl⟩ := vals1 rs
  obtain ⟨its, r, p, hz⟩ := I.tuple hs
  exact PySem.SeqAt.tuple_index_ints (show s.heap.IsTuple a its.toArray from p) r.ints hk ⟨.int (ns.idxOf k : Nat), H, I.tok _, ⟨_, rfl⟩, q⟩
/-! ### max and min of a tuple of numbers -/
theorem fold_max : ∀ (ns : List Int) (n : Int), ns.foldl max n ∈ n :: ns ∧ ∀ y ∈ n :: ns, y ≤ ns.foldl max n
  | [], n => ⟨List.mem_cons_self .., fun y hy => by
    rw [List.mem_singleton] at hy
    rw [hy]
    exact Int.le_refl _⟩
  | k :: r, n => by
    obtain ⟨h1, h2⟩ := fold_max r (max n k)
    refine ⟨?_, fun y hy => ?_⟩
    · show r.foldl max (max n k) ∈ n :: k :: r
      rcases List.mem_cons.mp h1 with e | e
      · rw [e]
        by_cases z : n ≤ k
        · rw [Int.max_eq_right z]; exact List.mem_cons_of_mem _ (List.mem_cons_self ..)
        · rw [Int.max_eq_left (by omega)]; exact List.mem_cons_self ..
      · exact List.mem_cons_of_mem _ (List.mem_cons_of_mem _ e)
    · show y ≤ r.foldl max (max n k)
      have h3 := h2 (max n k) (List.mem_cons_self ..)
      rcases List.mem_cons.mp hy with e | e
      · omega
      · rcases List.mem_cons.mp e with e | e
        · omega
        · exact h2 y (List.mem_cons_of_mem _ e)
theorem fold_min : ∀ (ns : List Int) (n : Int), ns.foldl min n ∈ n :: ns ∧ ∀ y ∈ n :: ns, ns.foldl min n ≤ y
  | [], n => ⟨List.mem_cons_self .., fun y hy => by
    rw [List.mem_singleton] at hy
    rw [hy]
    exact Int.le_refl _⟩
  | k :: r, n => by
    obtain ⟨h1, h2⟩ := fold_min r (min n k)
    refine ⟨?_, fun y hy => ?_⟩
    · show r.foldl min (min n k) ∈ n :: k :: r
      rcases List.mem_cons.mp h1 with e | e
      · rw [e]
        by_cases z : n ≤ k
        · rw [Int.min_eq_left z]; exact List.mem_cons_self ..
        · rw [Int.min_eq_right (by omega)]; exact List.mem_cons_of_mem _ (List.mem_cons_self ..)
      · exact List.mem_cons_of_mem _ (List.mem_cons_of_mem _ e)
    · show r.foldl min (min n k) ≤ y
      have h3 := h2 (min n k) (List.mem_cons_self ..)
      rcases List.mem_cons.mp hy with e | e
      · omega
      · rcases List.mem_cons.mp e with e | e
        · omega
        · exact h2 y (List.mem_cons_of_mem _ e)
theorem reads_int {h : Heap} {v : Value} {i : Int} {bs : List Addr} (r : Reads h v (.int i) bs) : ∃ t, v = .int i t := by
  cases r
  exact ⟨_, rfl⟩
def rMaxT (K : PySem.W.Frag) : List V → Hp → VK → Prop := fun vs H Q => ∃ (a : Addr) (ns : List Int), vs = [V.ref a] ∧ SqT K H a (ns.map V.int) ∧ ns ≠ [] ∧ ∀ m, m ∈ ns → (∀ y, y ∈ ns → y ≤ m) → Q (.int m) H
def rMinT (K : PySem.W.Frag) : List V → Hp → VK → Prop := fun vs H Q => ∃ (a : Addr) (ns : List Int), vs = [V.ref a] ∧ SqT K H a (ns.map V.int) ∧ ns ≠ [] ∧ ∀ m, m ∈ ns → (∀ y, y ∈ ns → m ≤ y) → Q (.int m) H
theorem cr_maxT (hc : X.calm = true) (hu : X.A.units + 1 < cLine) : CallR X (.builtin "max") (rMaxT X.K) := by
  intro pins s σ H vs us Q I r h
  obtain ⟨a, ns, rfl, hs, hne, q⟩ := h
  obtain rfl := Vals.ref1 r
  obtain ⟨its, rv, hl, hz⟩ := I.tuple hs
  obtain ⟨as, hr⟩ := Dp.readsAll I (ns.map PyData.int) _ _ (dps_ints ns) rv
  cases ns with
  | nil => exact absurd rfl hne
  | cons n ns =>
    refine PySem.W.max_tuple_data (I.ok.hd hc) (show s.heap.IsTuple a its.toArray from hl) hr (PySem.W.alikeAll_datum (n :: ns)) (by rw [show PyData.int n :: List.map PyData.int ns = (n :: ns).map PyData.int from rfl, dep_ints]; exact hu) fun i v h' tk bs hi rd hk => ?_
    rw [PySem.W.maxD_ints] at rd
    obtain ⟨t, rfl⟩ := reads_int rd
    obtain ⟨m1, m2⟩ := fold_max ns n
    exact ⟨.int _, H, I.kept hk, ⟨_, rfl⟩, q _ m1 m2⟩
theorem cr_minT (hc : X.calm = true) (hu : X.A.units + 1 < cLine) : CallR X (.builtin "min") (rMinT X.K) := by
  intro pins s σ H vs us Q I r h
  obtain ⟨a, ns, rfl, hs, hne, q⟩ := h
  obtain rfl := Vals.ref1 r
  obtain ⟨its, rv, hl, hz⟩ := I.tuple hs
  obtain ⟨as, hr⟩ := Dp.readsAll I (ns.map PyData.int) _ _ (dps_ints ns) rv
  cases ns with
  | nil => exact absurd rfl hne
  | cons n ns =>
    refine PySem.W.min_tuple_data (I.ok.hd hc) (show s.heap.IsTuple a its.toArray from hl) hr (PySem.W.alikeAll_datum (n :: ns)) (by rw [show PyData.int n :: List.map PyData.int ns = (n :: ns).map PyData.int from rfl, dep_ints]; exact hu) fun i v h' tk bs hi rd hk => ?_
    rw [PySem.W.minD_ints] at rd
    obtain ⟨t, rfl⟩ := reads_int rd
    obtain ⟨m1, m2⟩ := fold_min ns n
    exact ⟨.int _, H, I.kept hk, ⟨_, rfl⟩, q _ m1 m2⟩
theorem inV_ints (k : Int) : ∀ ns : List Int, inV (.int k) (ns.map V.int) = decide (k ∈ ns)
  | [] => rfl
  | n :: ns => by
    show (eqV (.int n) (.int k) || inV (.int k) (ns.map V.int)) = decide (k ∈ n :: ns)
    rw [inV_ints k ns]
    show ((n == k) || decide (k ∈ ns)) = _
    by_cases h : k = n
    · subst h
      simp
    · have h' : (n == k) = false := beq_eq_false_iff_ne.mpr (fun e => h e.symm)
      simp [h, h']
theorem flat_ints : ∀ ns : List Int, (ns.map V.int).all flatV = true
  | [] => rfl
  | n :: ns => by
    show (flatV (.int n) && (ns.map V.int).all flatV) = true
    rw [flat_ints ns]
    rfl
end
end Bal

namespace Bal
open PySem PySem.Spec PyProof.Rows L2
/-! ### tuples that are known to have no dict -/
def TupN (H : Hp) (a : Addr) (xs : List V) : Prop := ∃ o : Obj, o.dict = none ∧ H a = some (.frz o (.tup xs))
theorem TupN.sq {K : PySem.W.Frag} {H : Hp} {a : Addr} {xs : List V} (h : TupN H a xs) : SqT K H a xs := by
  obtain ⟨o, _, e⟩ := h
  exact .inl (.inr ⟨o, e⟩)
theorem TupN.same {H H' : Hp} {a : Addr} {xs : List V} (h : TupN H a xs) (s : Same H H') : TupN H' a xs := by
  obtain ⟨o, d, e⟩ := h
  exact ⟨o, d, s _ _ e⟩
theorem TupN.new {H : Hp} {a : Addr} {xs : List V} {o : Obj} (h : o.dict = none) : TupN (upd H a (.frz o (.tup xs))) a xs := ⟨o, h, upd_same⟩
/-- a list, or such a tuple -/
def SqB (K : PySem.W.Frag) (H : Hp) (a : Addr) (xs : List V) : Prop := SqL K H a xs ∨ TupN H a xs
theorem SqB.a {K : PySem.W.Frag} {H : Hp} {a : Addr} {xs : List V} (h : SqB K H a xs) : SqA K H a xs := h.imp id (fun h => h.sq)
theorem SqB.same {K : PySem.W.Frag} {H H' : Hp} {a : Addr} {xs : List V} (h : SqB K H a xs) (s : Same H H') : SqB K H' a xs := h.imp (fun h => s.seq h) (fun h => h.same s)
section
variable {X : Cx} {pins : List (Addr × Obj)} {σ : L2.St} {H : Hp} {s : Shared} {a : Addr}
theorem frz_tup {P : Program} {w : World} {H : Hp} {h : Heap} {a : Addr} {xs : List V} {its : List Value} (hz : xs.length ≤ sizeLine) (r : Vals xs its) (e : h.get? a = some { cls := .type "tuple", data := .seq its.toArray }) : ObjOk P w H h a (.frz { cls := .type "tuple", data := .seq its.toArray } (.tup xs)) :=
  ⟨e, hz, its, r, _, e, rfl, _, rfl⟩
/-- tuple(xs) -/
def rTupN (K : PySem.W.Frag) : List V → Hp → VK → Prop := fun xs H Q => ∃ p ys, xs = [.ref p] ∧ ((SqL K H p ys ∧ ∀ l o, o.dict = none → H l = none → Q (.ref l) (upd H l (.frz o (.tup ys)))) ∨ (SqT K H p ys ∧ Q (.ref p) H))
theorem call_tupN : CallR X (.type "tuple") (rTupN X.K) := by
  intro pins s σ H xs us Q I r h
  obtain ⟨p, ys, rfl, h⟩ := h
  obtain ⟨u, rfl, rx⟩ := vals1 r
  cases rx
  rcases h with ⟨hq, q⟩ | ⟨hq, q⟩
  · obtain ⟨its, r', pl, hz⟩ := I.list hq
    have hlen := r'.length
    refine call_tuple_list pl.isList (fun h' kp => ?_) (by simp only [List.size_toArray] <;> omega)
    have I1 : Inv X pins σ H { s with heap := h' } := I.kept (t' := s.toks) kp
    exact ⟨.ref h'.objs.size, _, I1.laid (t' := s.toks) (fun b o e => Heap.get?_push_of_some _ e) (Nat.le_refl _) (frz_tup hz r' (Heap.get?_push_size _ rfl)), rfl, q _ _ rfl (I1.hok.fresh (Nat.le_refl _))⟩
  · obtain ⟨its, r', pl, hz⟩ := I.tuple hq
    exact call_tuple_same pl ⟨.ref p, H, I, rfl, q⟩
/-- xs[::-1] -/
def tRevN (K : PySem.W.Frag) (te : TE) : TE := fun σ H Q => te σ H fun x H1 => ∃ a xs, x = .ref a ∧ ((SqL K H1 a xs ∧ ∀ p, H1 p = none → Q (.ref p) (upd H1 p (.lst xs.reverse))) ∨ (SqT K H1 a xs ∧ ∀ p o, o.dict = none → H1 p = none → Q (.ref p) (upd H1 p (.frz o (.tup xs.reverse)))))
theorem pe_revN {e : Expr} {te : TE} {k : Nat} {p1 p2 p3 pos : Pos} (he : PE X e te) : PE X (.Subscript e (.Slice none none (some (.UnaryOp .USub (.Constant (.int 1) k p1) p2)) p3) pos) (tRevN X.K te) := by
  refine ⟨fun pins s σ H Q I h => ?_⟩
  refine Subscript_ (thn (he.run pins s σ H _ I h) fun v s1 ⟨x, H1, I1, r1, a, xs, ex, q1⟩ => ?_)
  subst ex; cases r1
  have hst : PO X (some (.UnaryOp .USub (.Constant (.int 1) k p1) p2)) (tPart (tUn (rU fun i => .int (-i)) (tC (.int 1)))) := po_some (pe_un un_neg pe_int)
  refine wpAny_Slice (thn (po_none.run pins s1 σ H1 (fun o H2 => o = none ∧ H2 = H1) I1 ⟨rfl, rfl⟩) fun vl s2 ⟨l, H2, I2, pl, el, e2⟩ => ?_)
  subst el e2
  refine thn (po_none.run pins s2 σ H2 (fun o H3 => o = none ∧ H3 = H2) I2 ⟨rfl, rfl⟩) fun vu s3 ⟨u, H3, I3, pu, eu, e3⟩ => ?_
  subst eu e3
  refine thn (hst.run pins s3 σ H3 (fun o H4 => o = some (-1) ∧ H4 = H3) I3 ⟨1, rfl, -1, rfl, rfl, rfl⟩) fun vs s4 ⟨o, H4, I4, ps, eo, e4⟩ => ?_
  subst eo e4
  have I5 : Inv X pins σ H4 { s4 with heap := s4.heap.push { cls := .type "slice", data := .fields #[vl, vu, vs] } } := I4.kept (t' := s4.toks) fun b ob q => Heap.get?_push_of_some _ q
  show wpAny (model X.prog X.w) X.A (subscriptTail e (.Slice none none (some (.UnaryOp .USub (.Constant (.int 1) k p1) p2)) p3) (.ref a) (.ref s4.heap.objs.size)) (EP X pins σ Q) X.xe { s4 with heap := s4.heap.push { cls := .type "slice", data := .fields #[vl, vu, vs] } }
  rcases q1 with ⟨hx, q⟩ | ⟨hx, q⟩
  · obtain ⟨its, r, ht, hz⟩ := I5.list hx
    have hlen := r.length
    refine tail_any (ops := [.ref a, .ref s4.heap.objs.size]) ht.isList.typeIs (PySem.slot_list_getitem.lookup) ?_ (by with_unfolding_all rfl)
    refine wpAny_getItem_list_slice ht.isList (Heap.IsSliceOf.new _ vl vu vs) pl pu ps (by decide) ?_ (by rw [List.size_toArray]; omega)
    rw [PySem.W.krv_pick]
    exact ⟨.ref _, _, I5.laid (t' := s4.toks) (o := .lst xs.reverse) (fun b ob q => Heap.get?_push_of_some _ q) (Nat.le_refl _) ⟨by rw [List.length_reverse]; exact hz, _, 0, r.reverse, Heap.get?_push_size _ rfl⟩, rfl, q _ (I5.hok.fresh (Nat.le_refl _))⟩
  · obtain ⟨its, r, ht, hz⟩ := I5.tuple hx
    have hlen := r.length
    cases pl; cases pu
    refine tail_any (ops := [.ref a, .ref s4.heap.objs.size]) ht.typeIs (PyProof.Rows.slot_tuple_getitem.lookup) ?_ (by with_unfolding_all rfl)
    refine getItem_tup_rev ht (Heap.IsSliceOf.new _ _ _ vs) ps ?_ (by rw [List.size_toArray]; omega)
    exact ⟨.ref _, _, I5.laid (t' := s4.toks) (o := .frz { cls := .type "tuple", data := .seq its.reverse.toArray } (.tup xs.reverse)) (fun b ob q => Heap.get?_push_of_some _ q) (Nat.le_refl _) (frz_tup (by rw [List.length_reverse]; exact hz) r.reverse (Heap.get?_push_size _ rfl)), rfl, q _ _ rfl (I5.hok.fresh (Nat.le_refl _))⟩
/-- a method of such a tuple -/
def tBT (r : V → List V → Hp → VK → Prop) (to : TE) (t : TA) : TE := fun σ H Q => to σ H fun x H1 => (∃ a xs, x = .ref a ∧ TupN H1 a xs) ∧ t σ H1 fun xs H2 => r x xs H2 Q
theorem pe_bT {o e : Expr} {es : List Expr} {to : TE} {t : TA} {name : Str} {apos cpos : Pos} {id : String} {r : V → List V → Hp → VK → Prop} (slot : Slot "tuple" name id) (hty : typeOf (.builtin id) = pure (.type "method_descriptor")) (hm : MtR X id r) (ho : PE X o to) (ha : PA X (e :: es) t)
    (hbase : attributeBase o name X.env (eval o X.env) = eval o X.env := by rfl) (hfew : ((backTo cpos (starEach (e :: es) X.env)).all (fun x => !x.1) && (backToKw cpos (keywordEach [] X.env)).all (fun x => x.1.isSome) && decide ((e :: es).length + ([] : List Keyword).length + (if ([] : List Keyword).isEmpty then 0 else 1) < 30)) = true := by rfl)
    (hline : (apos.endLine == cpos.line) = true := by rfl) (hs : starEach (e :: es) X.env = (false, eval e X.env) :: starEach es X.env := by rfl) (hplain : (backTo cpos (starEach es X.env)).any (·.1) = false := by rfl) : PE X (.Call (.Attribute o name apos) (e :: es) [] cpos) (tBT r to t) := by
  refine ⟨fun pins s σ H Q I h => ?_⟩
  refine wpAny_Call_method_late hbase hfew hline rfl (thn (ho.run pins s σ H _ I h) fun v s1 ⟨x, H1, I1, r1, ⟨a, xs, ex, ot, hd, et⟩, q1⟩ => ?_)
  subst ex
  obtain rfl : v = Value.ref a := r1
  obtain ⟨hg, _, its, _, o', hg', hc, _⟩ := (show ObjOk X.prog X.w H1 s1.heap a (.frz ot (.tup xs)) from I1.hok a _ et)
  have eo : ot = o' := Option.some.inj (hg.symm.trans hg')
  refine ⟨"tuple", id, PySem.F.plainAttrs_tuple, slot, hty, ⟨o', hg', hc⟩, fun b eb => by cases eb; exact ⟨ot, hg, hd⟩, ?_⟩
  have hA := ha.run cpos pins s1 σ H1 _ I1 q1
  rw [hs] at hA ⊢
  refine Calls.callWith_builtin (by show (false || (backTo cpos (starEach es X.env)).any (·.1)) = false; rw [hplain] <;> rfl) (Calls.evalArgs_plain ?_)
  exact thn hA fun us s2 ⟨vs, H2, I2, r2, q2⟩ => hm pins s2 σ H2 (.ref a) vs (.ref a) us Q I2 rfl r2 q2
end
end Bal

namespace Bal
open PySem PySem.Spec PyProof.Rows L2
/-! ### defs that are called outside of every repr: what they promise there -/
structure FnG (P : Program) (w : World) (K : PySem.W.Frag) (mg : Str → Option Value) (base : Heap) (k : Nat) (f : Addr) (fd : FuncData) (ps : List Str) (sp : Sp) : Prop where
  lenG : ∀ vs H Q E, sp vs H Q E → vs.length = ps.length
  runG : ∀ (A : Around) (outer : List Env) (s : Shared) (H : Hp) (args : Args) (us : List Value) (vs : List V) (Q : VK) (E : XK), A.guards = some [] → Room k A → Env0 P w K mg base A outer s H → BindsTo s fd args (ps.zip us) → Vals vs us → sp vs H Q E → codeAny (model P w) A (.call (.ref f) args) (CR CX0 outer P w H s Q E) s
section
variable {P : Program} {w : World} {K : PySem.W.Frag} {mg : Str → Option Value} {base : Heap}
theorem okG {x qual : Str} {st : Stmt} {f : Addr} {fd : FuncData} {N ps : List Str} {k : Nat} {sp : Sp} (F : Fun K x qual st f fd) (S : FnScope N ps (defScope st)) (len : ∀ vs H Q E, sp vs H Q E → vs.length = ps.length)
    (body : ∀ (cdv : Value) (A : Around) (outer : List Env) (s : Shared) (H : Hp) (vs : List V) (Q : VK) (E : XK), (A.deeper (envOfC qual (defScope st) s.heap.objs.size f cdv)).guards = some [] → Room k (A.deeper (envOfC qual (defScope st) s.heap.objs.size f cdv)) → sp vs H Q E → ∃ t, PSs (cxOf CX0 P w K mg base N qual (defScope st) f cdv A outer s H E).nox (defBody st) t ∧ t { nx := fun _ H' => Q .non H', rt := Q } (start N vs) H) :
    FnG P w K mg base (k + 1) f fd ps sp := by
  obtain ⟨oc, od, kV, doc, pm, an, cdv, ct, osl, rfl, lk, hcd⟩ := F.ex
  refine ⟨len, fun A outer s H args us vs Q E hg hr e0 hb r hsp => ?_⟩
  have up : ∀ b o, base.get? b = some o → s.heap.get? b = some o := fun b o e => (e0.bs b o e).1
  have kx : K.In s.heap := e0.mod.kin.keeps up
  refine codeAny_call_function hr.depth (kx _ _ lk) rfl S.co S.gen rfl (PySem.W.codeRec_of kx hcd) (hb _ _ _ _ (wpAny_newFunctionEnv_cells S.kind (fun y hy => ?_) fun env he s1 x => ?_))
  · obtain ⟨n, v⟩ := y
    exact (S.par n (List.of_mem_zip hy).1).imp id fun q => ⟨q, PySem.W.cellsFrom_some _ _ _ (.inl q)⟩
  · cases he
    refine ⟨(e0.mod.nolimit.keeps up).keeps x.toInCall.keep, codeAny_func ?_⟩
    obtain ⟨t, ht, hq⟩ := body cdv A outer s H vs Q E hg (hr.deeper _) hsp
    have J := inv_start (CX := CX0) (E := E) S hr.hd e0 (len _ _ _ _ hsp) r x
    refine wpAny_mono (ht.nox.run [] s1 (start N vs) H _ J hq) (fun fl s' hs => ?_) fun _ _ z => z
    match fl, hs with
    | .ret u, hs => obtain ⟨v, σ', H', J', rv, q⟩ := hs; exact ⟨v, H', J'.os, J'.bare, J'.base, J'.hok, rv, q⟩
    | .next, hs => obtain ⟨σ', H', J', q⟩ := hs; exact ⟨.non, H', J'.os, J'.bare, J'.base, J'.hok, rfl, q⟩
    | .brk, hs => obtain ⟨_, _, _, q⟩ := hs; exact q.elim
    | .cont, hs => obtain ⟨_, _, _, q⟩ := hs; exact q.elim
end
section
variable {X : Cx} {k : Nat} {f : Addr} {fd : FuncData} {ps : List Str} {sp : Sp} {E : XK} {x : Str} {p pos : Pos} {e : Expr} {es : List Expr} {t : TA}
/-- a call of such a def, from a place outside of every repr -/
theorem pe_callG (F : FnG X.prog X.w X.K X.mg X.base k f fd ps sp) (hgd : X.A.guards = some []) (hr : Room k X.A) (hg : Gl X x) (hm : X.mg x = some (.ref f)) (hk : PySem.W.keepIn X.K (.ref f) = true) (hb : Binds X.K fd ps []) (ha : PA X (e :: es) t)
    (hdb : (x == ("__debug__" : Str)) = false := by decide) (he : starEach (e :: es) X.env = (false, eval e X.env) :: starEach es X.env := by rfl) (hpl : (backTo pos (starEach es X.env)).any (·.1) = false := by rfl) :
    PE X (.Call (.Name x p) (e :: es) [] pos) (tCall sp [] E t) := by
  refine ⟨fun pins s σ H Q I h => wpAny_Call_Name_kw (ld_glob I hg hm (PySem.W.callWith_K (h₀ := X.base) I.ok.mod.kin hk (thn (ha.run pos pins s σ H _ I h) fun us s1 ⟨vs, H1, I1, r, q⟩ => ⟨I1.kIn, ?_⟩) he hpl) hdb)⟩
  have r2 : Vals (vs ++ []) (us ++ []) := r.append .nil
  have hl : (us ++ ([] : List Value)).length = ps.length := by
    rw [← r2.length]
    exact F.lenG _ _ _ _ q
  refine wpAny_call (codeAny_mono (F.runG X.A X.stack s1 H1 ⟨us, []⟩ (us ++ []) (vs ++ []) Q E hgd hr I1.env0 (hb s1 us I1.kIn hl) r2 q) fun r s' hq => ?_)
  match r, hq with
  | .error e, hq => exact False.elim hq
  | .ok (.ret u), hq => exact I1.after hq
  | .ok .next, hq => exact hq.elim
  | .ok .brk, hq => exact hq.elim
  | .ok .cont, hq => exact hq.elim
end
end Bal

namespace Bal
open PySem PySem.Spec PyProof.Rows L2
/-- what the top's call of a law wants -/
def Asked (s1 : Shared) : Result → Shared → Prop := fun r s' => r = .ok (.ret (.bool true)) ∧ OldK s1.heap s'.heap ∧ s'.os = s1.os ∧ AllBare s'.gens
section
variable {P : Program} {w : World} {K : PySem.W.Frag} {mg mb : Str → Option Value} {k : Nat} {fa a : Addr} {fd : FuncData} {x : Str} {sp : Sp} {s1 : Shared} {vs : List Value} {ns : List Int}
/-- at an abstract heap that tracks the script alone, if anything -/
theorem coreG (KX : K.In s1.heap) (hns : s1.heap.Ns mainGlobals mg) (hb : s1.heap.Ns builtinsNs mb) (hbb : ∀ x : Str, x ≠ "__name__" → mb x = bootBuiltins x) (hlim : s1.heap.NoLimit) (hg : s1.gens = #[])
    (ha : s1.heap.get? a = some { cls := .type "list", data := .seq vs.toArray }) (hr : Room k callerA) (F : ∀ base : Heap, K.In base → base.Ns mainGlobals mg → FnG P w K mg base k fa fd [x] sp) (hbind : ∀ (s : Shared) (u : Value), BindsTo s fd ⟨[u], []⟩ [(x, u)])
    (H : Hp) (hO : Only H) (hsp : sp [.ref a] H (fun v _ => v = .bl true) fun _ _ _ => False) (hok : HOk P w H s1.heap) (hA : ∀ b, H b ≠ none → b = a) (hK : H a ≠ none → K.lookup a = none) : codeAny (model P w) callerA (.call (.ref fa) ⟨[.ref a], []⟩) (Asked s1) s1 := by
  have free : ∀ {b : Addr}, b ≠ a → H b = none := fun {b} n => by
    cases q : H b with
    | none => rfl
    | some u => exact absurd (hA b (by rw [q]; simp)) n
  have nd : ∀ {b : Addr} {o : Obj} {es : Array DictEntry} {ep : Nat}, s1.heap.get? b = some o → o.data = .dict es ep → H b = none := fun {b o es ep} e d => free fun z => by
    rw [z, ha] at e
    cases e
    exact nomatch (show Data.seq vs.toArray _ = Data.dict es ep from d)
  have nsK : ∀ {b : Addr} {m : Str → Option Value}, s1.heap.Ns b m → (hidT s1.heap H).Ns b m := fun ⟨o, es, ep, e, d, r⟩ => ⟨o, es, ep, hidT_get e (nd e d), d, r⟩
  have kb : K.In (hidT s1.heap H) := fun b o e => hidT_get (KX b o e) (by
    cases q : H b with
    | none => rfl
    | some u =>
      have z := hA b (by rw [q]; simp)
      subst z
      rw [hK (by rw [q]; simp)] at e
      cases e)
  have M : Mod K mg (hidT s1.heap H) := ⟨kb, nsK hns, ⟨mb, nsK hb, hbb⟩, by obtain ⟨mc, h1, h2⟩ := hlim; exact ⟨mc, nsK h1, h2⟩⟩
  have e0 : Env0 P w K mg (hidT s1.heap H) callerA [] s1 H := ⟨rfl, M, fun b o e => of_hidT e, Nat.le_of_eq (hidT_size _ _), trivial, (fun b z => nomatch (show b ∈ ([] : List Addr) from z)), hok, .of_eq hg⟩
  refine codeAny_mono ((F _ kb (nsK hns)).runG callerA [] s1 H ⟨[.ref a], []⟩ [.ref a] [.ref a] _ _ rfl hr e0 (hbind s1 (.ref a)) (.cons rfl .nil) hsp) fun r s' h => ?_
  match r, h with
  | .error e, h => exact False.elim h
  | .ok .next, h => exact False.elim h
  | .ok .brk, h => exact False.elim h
  | .ok .cont, h => exact False.elim h
  | .ok (.ret u), h =>
    obtain ⟨v, H', os, bare, un, hok', r', q⟩ := h
    cases (show v = V.bl true from q)
    cases (show u = Value.bool true from r')
    refine ⟨rfl, OldK.of_keep fun b o e => ?_, os, bare⟩
    rcases hO b with z | ⟨ob, xs, z⟩
    · exact un.keep b o e z (fun z => nomatch (show b ∈ ([] : List Addr) from z)) (by simp)
    · obtain ⟨e1, _⟩ := hok b _ z
      rw [e] at e1
      cases e1
      exact (hok' b _ (un.frzs b _ _ z)).1
theorem topG (KX : K.In s1.heap) (hns : s1.heap.Ns mainGlobals mg) (hb : s1.heap.Ns builtinsNs mb) (hbb : ∀ x : Str, x ≠ "__name__" → mb x = bootBuiltins x) (hlim : s1.heap.NoLimit) (hg : s1.gens = #[])
    (ha : s1.heap.get? a = some { cls := .type "list", data := .seq vs.toArray }) (hi : IntsAre vs ns) (hl : ns.length ≤ sizeLine) (hr : Room k callerA) (F : ∀ base : Heap, K.In base → base.Ns mainGlobals mg → FnG P w K mg base k fa fd [x] sp) (hbind : ∀ (s : Shared) (u : Value), BindsTo s fd ⟨[u], []⟩ [(x, u)])
    (hsp : ∀ H : Hp, SqL K H a (ns.map V.int) → sp [.ref a] H (fun v _ => v = .bl true) fun _ _ _ => False) : codeAny (model P w) callerA (.call (.ref fa) ⟨[.ref a], []⟩) (Asked s1) s1 := by
  have rv := vals_ints hi
  cases hk : K.lookup a with
  | some o =>
    have e := KX a o hk
    rw [ha] at e
    cases e
    exact coreG KX hns hb hbb hlim hg ha hr F hbind (fun _ => none) (fun _ => .inl rfl) (hsp _ (.inr ⟨_, vs.toArray, _, hk, rfl, rfl, rfl, by rw [List.size_toArray, hi.length]; exact hl, by simpa using rv⟩)) (fun b u z => nomatch (show (none : Option HO) = some u from z)) (fun b z => absurd rfl z) (fun z => absurd rfl z)
  | none =>
    have hH : ∀ b, (upd (fun _ => none) a (.frz { cls := .type "list", data := .seq vs.toArray } (.lst (ns.map V.int))) : Hp) b ≠ none → b = a := fun b z => by
      by_cases hb : b = a
      · exact hb
      · exact absurd (upd_ne hb) z
    refine coreG KX hns hb hbb hlim hg ha hr F hbind (upd (fun _ => none) a (.frz { cls := .type "list", data := .seq vs.toArray } (.lst (ns.map V.int)))) (fun b => ?_) (hsp _ (.inl (.inr ⟨_, upd_same⟩))) (fun b u z => ?_) hH (fun _ => hk)
    · by_cases hb : b = a
      · subst hb
        exact .inr ⟨_, _, upd_same⟩
      · exact .inl (upd_ne hb)
    · have e := hH b (by rw [z]; simp)
      subst e
      rw [upd_same] at z
      cases z
      exact ⟨ha, by rw [List.length_map]; exact hl, vs, _, rv, ha⟩
end
/-- the end of a law's proof, where the law asks repr -/
theorem walk_ofG {l : PySem.W.OpenLaw} {n k : Nat} {q : Program} {loose : List Str} {XP : (Str → Option Value) → Heap → Prop} {YP : World → Heap → Prop} {d : DefRec} {K : Params → PySem.W.Frag} {sp : PySem.W.Frag → Sp} {x : Str} (hn : l.most = some n) (hn2 : n ≤ sizeLine) (hdf : d.params.defaults = []) (hr : Room k callerA)
    (hY : ∀ (w : World) (h : Heap), YP w h → (K w.params).In h)
    (F : ∀ (w : World) (mg : Str → Option Value) (fa : Addr) (h : Heap), (K w.params).In h → h.Ns mainGlobals mg → mg d.name = some (.ref fa) → ∃ fd : FuncData, (∀ (s : Shared) (u : Value), BindsTo s fd ⟨[u], []⟩ [(x, u)]) ∧ ∀ base : Heap, (K w.params).In base → base.Ns mainGlobals mg → FnG l.prog w (K w.params) mg base k fa fd [x] (sp (K w.params)))
    (hsp : ∀ (K : PySem.W.Frag) (H : Hp) (a : Addr) (ns : List Int), ns.length ≤ n → SqL K H a (ns.map V.int) → sp K [.ref a] H (fun v _ => v = .bl true) fun _ _ _ => False) : PySem.W.WalkO q loose XP YP l.row.toRowW d [] (fun f vs => PySem.call f vs) := by
  refine Att.attach_call hn hdf fun w s0 s1 mg mb fa o pm cd doc a vs ns G Y _ _ _ hmg hobj hints hlen hg => ?_
  obtain ⟨fd, hb, hF⟩ := F w mg fa _ (hY w _ Y) G.T.g hmg
  exact topG (hY w _ Y) G.T.g G.T.b G.T.builtins G.T.nolimit hg hobj hints (Nat.le_trans hlen hn2) hr hF hb fun H hS => hsp _ H a ns hlen hS
/-! ### repr -/
section
variable {X : Cx}
def rRepr (K : PySem.W.Frag) : List V → Hp → VK → Prop := fun xs H Q => ∃ x d, xs = [x] ∧ Dp K H x d ∧ d.showable = true ∧ d.shown.length ≤ sizeLine ∧ d.depth ≤ 64 ∧ Q (.str d.shown) H
theorem nodict_all {K : PySem.W.Frag} {H : Hp} : (∀ {d : PyData} {x : V}, Dp K H x d → d.hasDict = false) := by
  intro d x h
  refine Dp.rec (motive_1 := fun x d _ => d.hasDict = false) (motive_2 := fun xs ds _ => PyData.hasDictAll ds = false) rfl (fun _ => rfl) (fun _ => rfl) (fun _ => rfl) (fun _ _ h => h) (fun _ _ h => h) rfl (fun _ _ h1 h2 => ?_) h
  show (_ || _) = false
  rw [h1, h2]
  rfl
theorem call_repr (hg : X.A.guards = some []) (hu : X.A.units + 70 < cLine) : CallR X (.builtin "repr") (rRepr X.K) := by
  intro pins s σ H xs us Q I r h
  obtain ⟨x, d, rfl, hd, hs, hz, hdp, q⟩ := h
  obtain ⟨u, rfl, rx⟩ := vals1 r
  have nd := nodict_all hd
  obtain ⟨as, R⟩ := Dp.reads I d x u hd rx
  have fin : ∀ h' (t : Nat) tk, (∀ b o, s.heap.get? b = some o → h'.get? b = some o) → EP X pins σ Q (.str d.shown t) { s with heap := h', toks := tk } := fun h' t tk kp => ⟨.str d.shown, H, I.kept kp, ⟨_, rfl⟩, q⟩
  cases R with
  | none => exact PySem.P.repr_of_none (fin s.heap _ _ fun _ _ e => e)
  | bool b => exact PySem.P.repr_of_bool (by have := fin s.heap s.toks (s.toks + 1) fun _ _ e => e; cases b <;> exact this)
  | int i t => exact PySem.P.repr_of_int (of_decide_eq_true hs) (fin s.heap _ _ fun _ _ e => e)
  | str y t => exact PySem.P.repr_of_str (fin s.heap _ _ fun _ _ e => e) hz
  | list h1 h2 h3 h4 => exact repr_of_reads' (.list h1 h2 h3 h4) hs (fun z => by rw [nd] at z; cases z) hg (by omega) (fun _ _ e => e) fin hz
  | tuple h1 h2 h3 h4 => exact repr_of_reads' (.tuple h1 h2 h3 h4) hs (fun z => by rw [nd] at z; cases z) hg (by omega) (fun _ _ e => e) fin hz
  | dict h1 h2 h3 h4 h5 => cases hd
end
end Bal

namespace Bal
open PySem PySem.Spec PyProof.Rows L2
/-! ### truths among numbers -/
def nv : V → Option Int
  | .int i => some i
  | .bl b => some (if b = true then 1 else 0)
  | _ => none
section
variable {X : Cx}
theorem op_addN : OpR X (binaryOp .Add) (fun x y H Q => ∃ i j, nv x = some i ∧ y = .int j ∧ Q (.int (i + j)) H) := by
  intro pins s σ H x y v u Q I rx ry ⟨i, j, hx, hy, q⟩
  subst hy; obtain ⟨t, rfl⟩ := ry
  cases x with
  | int a => cases hx; obtain ⟨t', rfl⟩ := rx; exact add_int ⟨.int _, H, I.tok _, ⟨_, rfl⟩, q⟩
  | bl b => cases hx; cases rx; exact PySem.IntBool.add_bool_int ⟨.int _, H, I.tok _, ⟨_, rfl⟩, q⟩
  | _ => cases hx
theorem op_subN : OpR X (binaryOp .Sub) (fun x y H Q => ∃ i j, nv x = some i ∧ y = .int j ∧ Q (.int (i - j)) H) := by
  intro pins s σ H x y v u Q I rx ry ⟨i, j, hx, hy, q⟩
  subst hy; obtain ⟨t, rfl⟩ := ry
  cases x with
  | int a => cases hx; obtain ⟨t', rfl⟩ := rx; exact sub_int ⟨.int _, H, I.tok _, ⟨_, rfl⟩, q⟩
  | bl b => cases hx; cases rx; exact PySem.IntBool.sub_bool_int ⟨.int _, H, I.tok _, ⟨_, rfl⟩, q⟩
  | _ => cases hx
theorem op_subM : OpR X (binaryOp .Sub) (fun x y H Q => ∃ i j, x = .int i ∧ nv y = some j ∧ Q (.int (i - j)) H) := by
  intro pins s σ H x y v u Q I rx ry ⟨i, j, hx, hy, q⟩
  subst hx; obtain ⟨t, rfl⟩ := rx
  cases y with
  | int a => cases hy; obtain ⟨t', rfl⟩ := ry; exact sub_int ⟨.int _, H, I.tok _, ⟨_, rfl⟩, q⟩
  | bl b => cases hy; cases ry; exact PySem.IntBool.sub_int_bool ⟨.int _, H, I.tok _, ⟨_, rfl⟩, q⟩
  | _ => cases hy
/-- str of a number or a truth -/
def strN : V → Str
  | .int i => toString i
  | .bl b => if b then "True" else "False"
  | _ => ""
theorem call_strN : CallR X (.type "str") (fun xs H Q => ∃ x i, xs = [x] ∧ nv x = some i ∧ i.natAbs.log2 < 1920 ∧ Q (.str (strN x)) H) := by
  intro pins s σ H xs us Q I r ⟨x, i, e, hx, hl, q⟩
  subst e; obtain ⟨u, rfl, rx⟩ := vals1 r
  cases x with
  | int a => cases hx; obtain ⟨t, rfl⟩ := rx; exact PySem.P.str_of_int hl ⟨.str _, H, I.tok _, ⟨_, rfl⟩, q⟩
  | bl b => cases rx; exact PySem.P.str_of_bool ⟨.str _, H, I.tok _, ⟨_, rfl⟩, by cases b <;> exact q⟩
  | _ => cases hx
end
/-! ### enumerate of a tuple -/
section
variable {prog : Program} {w : World} {A : Around} {E : Value → Shared → Prop} {s : Shared}
/-- enumerate's object over the iterator at i -/
abbrev enO (i : Addr) : Obj := { cls := .type "enumerate", data := .fields #[.none, .bool false, .ref i, rawInt 0, .none, .none] }
theorem meets_enB {v : Value} {o : Obj} {H : Heap → Prop} (B : Begins v o H) : Meets (Builtin.«enumerate.__new__» ⟨[.type "enumerate", v], []⟩) (fun _ R s => H s.heap ∧ R (.ok (.ret (.ref (s.heap.push o).objs.size))) { s with heap := (s.heap.push o).push (enO s.heap.objs.size) }) :=
  .of_wp fun prog w A R s ⟨h1, h⟩ => by
    obtain ⟨hp, g, d, tk, os⟩ := s
    have hsub := sub_enumerate
    have goes : ∀ {A' : Around} {E : Value → Shared → Prop} {Q : Value → Shared → Prop}, Q (.ref hp.objs.size) ⟨hp.push o, g, d, tk, os⟩ → wpAny (model prog w) A' (pyIter v) Q E ⟨hp, g, d, tk, os⟩ := fun q => B.iter prog w _ _ ⟨hp, g, d, tk, os⟩ _ h1 q
    wp_walk using goes
    refine wpAny_stack_any fun st => wpAny_pure ?_
    split
    · next c _ _ _ _ _ => cases (c == Value.type "enumerate") <;> (wp_walk using goes; exact ⟨_, rfl, h⟩)
    · wp_walk using goes; exact ⟨_, rfl, h⟩
theorem call_enT {l : Addr} {items : Array Value} {Q : Value → Shared → Prop} (hL : s.heap.IsTuple l items)
    (h : ∀ h', IsEnum h' (s.heap.objs.size + 1) s.heap.objs.size 0 .none → h'.IsTupleIter s.heap.objs.size l 0 → h'.objs.size = s.heap.objs.size + 2 → (∀ b o, s.heap.get? b = some o → h'.get? b = some o) → Q (.ref (s.heap.objs.size + 1)) { s with heap := h' }) : wpAny (model prog w) A (call (.type "enumerate") [.ref l]) Q E s := by
  refine callType_new F.called_enumerate (by decide) (F.typeCall_enumerate_1 _) (F.newCall_enumerate_1 _) (fun obj => F.args_object_init_2 obj _) F.entry_enumerate_new (meets_enB (begins_tuple l items)) ⟨hL, ?_⟩
  have hz : (s.heap.push { cls := .type "tuple_iterator", data := .fields #[.ref l, .int 0 0] }).objs.size = s.heap.objs.size + 1 := Heap.size_push ..
  have he : IsEnum ((s.heap.push { cls := .type "tuple_iterator", data := .fields #[.ref l, .int 0 0] }).push (enO s.heap.objs.size)) (s.heap.objs.size + 1) s.heap.objs.size 0 .none := by
    have q := Heap.get?_push_size (s.heap.push { cls := .type "tuple_iterator", data := .fields #[.ref l, .int 0 0] }) (o := enO s.heap.objs.size) rfl
    rw [hz] at q
    exact q
  show _ ∧ _
  rw [hz]
  exact ⟨⟨_, he, rfl⟩, h _ he ⟨_, Heap.get?_push_of_some _ (Heap.get?_push_size _ rfl), rfl, rfl⟩ (by rw [Heap.size_push, hz]) fun b o x => Heap.get?_push_of_some _ (Heap.get?_push_of_some _ x)⟩
end
/-- the tuple at a as it stands at each turn, each item in a new pair -/
def ItT (K : PySem.W.Frag) (a : Addr) : It :=
  ⟨fun i H => ∃ (xs : List V) (x : V), SqT K H a xs ∧ xs[i]? = some x, fun i H v H' => ∃ T x, v = .ref T ∧ H T = none ∧ H' = upd H T (.tup [.int (i : Nat), x]) ∧ ∀ xs, SqT K H a xs → xs[i]? = some x, fun i H => ∃ xs : List V, SqT K H a xs ∧ xs.length ≤ i⟩
theorem turn_enT {P : Program} {w : World} {K : PySem.W.Frag} {elts : List Expr} {kk : Nat} {tpos : Pos} (a e it : Addr) (hei : e ≠ it) (hae : a ≠ e) (hai : a ≠ it) :
    Turn P w K (.Tuple elts kk tpos) (ItT K a) [e, it] e (fun i h => (∃ old, IsEnum h e it ((i : Nat) : Int) old) ∧ h.IsTupleIter it a i) where
  mem := by simp
  obj := fun i h st b hb => by
    obtain ⟨⟨old, he⟩, ⟨o, ho, hc, hd⟩⟩ := st
    rcases (show b = e ∨ b = it by simpa using hb) with z | z
    · rw [z]; exact ⟨_, he, fun v q => nomatch q⟩
    · rw [z]; exact ⟨o, ho, fun v q => by rw [hd] at q; cases q⟩
  keep := fun i h h' st k => by
    obtain ⟨⟨old, he⟩, hi⟩ := st
    exact ⟨⟨old, k e (by simp) _ he⟩, hi.at fun o q => k it (by simp) o q⟩
  item := by
    intro X hP hw hK hc i pins s σ H E I hf st hg
    subst hP hw hK
    obtain ⟨⟨old, he⟩, hit⟩ := st
    obtain ⟨xs, x, hq, hx⟩ := hg
    obtain ⟨its, rv, p, hz⟩ := I.tuple hq
    obtain ⟨u, hu, ru⟩ := rv.get hx
    have pT : s.heap.IsTuple a its.toArray := p
    have hel : e < s.heap.objs.size := Heap.lt_size he
    have hil : it < s.heap.objs.size := Heap.lt_size hit.choose_spec.1
    have hlt : i < its.toArray.size := by
      rw [List.size_toArray]
      exact (List.getElem?_eq_some_iff.mp hu).1
    refine wpAny_pyNext_enum_itemD (Draws.tuple (A := X.A.in1) (I.ok.hd hc) it a hai its.toArray) he ⟨hit, pT⟩ hlt hei (by simp [hei, Ne.symm hae]) fun x' h' tk hx' ho hst hT hsz hk => ?_
    have ex : x' = u := by
      have z : its[i]? = some x' := by simpa using hx'
      exact Option.some.inj (z.symm.trans hu)
    subst ex
    refine ⟨_, rfl, wpAny_letOwnedTupleGo_enum (s := { s with heap := h', toks := tk + 1 }) ho fun h'' he' sb => ?_⟩
    have new : ObjOk X.prog X.w (upd H s.heap.objs.size (.tup [.int (i : Nat), x])) h'' s.heap.objs.size (.tup [.int (i : Nat), x]) :=
      ⟨by show 2 ≤ sizeLine; decide, [.int i tk, x'], .cons ⟨_, rfl⟩ (.cons ru .nil), ⟨_, (sb.2 _ (Nat.ne_of_gt hel)).trans hT, rfl, _, rfl⟩⟩
    have J : Inv X pins σ (upd H s.heap.objs.size (.tup [.int (i : Nat), x])) { s with heap := h'', toks := tk + 1 } := I.turnedNew (ch := [e, it]) (fun b ob hb q => (sb.2 b (fun z => hb (by simp [z]))).trans (hk b ob (fun z => hb (by simp [z])) (fun z => hb (by simp [z])) q)) hf (Nat.le_refl _) new
    refine ⟨.ref s.heap.objs.size, _, J, rfl, ⟨_, x, rfl, I.hok.fresh (Nat.le_refl _), rfl, fun ys hy => by rw [I.tuple_inj hy hq]; exact hx⟩, ⟨⟨x', ?_⟩, hst.1.at fun o q => (sb.2 it (Ne.symm hei)).trans q⟩, fun b hb => ?_⟩
    · rw [show ((i + 1 : Nat) : Int) = (i : Int) + 1 by omega]
      exact he'
    · have hb' : b < s.heap.objs.size := by
        rcases (show b = e ∨ b = it by simpa using hb) with z | z
        · rw [z]; exact hel
        · rw [z]; exact hil
      rw [upd_ne (Nat.ne_of_lt hb')]
      exact (hf b hb).1
  done := by
    intro X hP hw hK hc i pins s σ H E I hf st hg
    subst hP hw hK
    obtain ⟨⟨old, he⟩, hit⟩ := st
    obtain ⟨xs, hq, hx⟩ := hg
    obtain ⟨its, rv, p, hz⟩ := I.tuple hq
    obtain ⟨f0, f1, f2, f3, f4, f5⟩ := hf it (by simp)
    have hl := rv.length
    have pT : s.heap.IsTuple a its.toArray := p
    have hi : its.toArray[i]? = none := by simp; omega
    have D : Draws X.prog X.w X.A.in1 it [it, a] i (fun _ _ => False) (fun j h => h.IsTupleIter it a i ∧ h.IsTuple a its.toArray ∧ j = i) :=
      ⟨fun _ _ st => let ⟨o, ho, _⟩ := st.1; ⟨o, ho⟩, fun _ _ _ st hk => ⟨st.1.at fun o e => hk it (by simp) o e, st.2.1.at fun o e => hk a (by simp) o e, st.2.2⟩, fun j s Q E hj st => absurd st.2.2 (Nat.ne_of_lt hj), fun s Q E st hE => wpAny_nextOf_tuple_end (I.ok.hd hc) st.1 st.2.1 hi hE⟩
    exact wpAny_pyNext_enum_endD D he ⟨hit, pT, rfl⟩ fun h' eb => ⟨rfl, I.turned (t' := s.toks) (fun b o hb q => eb b o hb q) f0 f1 f3 f4 f5⟩
  self := fun A i s Q E st h => let ⟨⟨_, he⟩, _⟩ := st; wpAny_pyIter_enum he h
def iEnT (K : PySem.W.Frag) (ta : TA) : TI := fun σ H R => ta σ H fun vs H1 => ∃ a xs, vs = [.ref a] ∧ SqT K H1 a xs ∧ R (ItT K a) H1
theorem pi_enT {X : Cx} {e : Expr} {ta : TA} {p pos tpos : Pos} {elts : List Expr} {kk : Nat} (hg : Gl X "enumerate") (hm : X.mg "enumerate" = none) (ha : PA X [e] ta) (hs : starEach [e] X.env = [(false, eval e X.env)] := by rfl) : PI X (.Tuple elts kk tpos) (.Call (.Name "enumerate" p) [e] [] pos) (iEnT X.K ta) := by
  refine ⟨fun pins s σ H R I h => Call_ (ld_blt I hg hm boot_enumerate (PyProof.Rows.callWith_type1 (thn (ha.run pos pins s σ H _ I h) fun us s1 ⟨vs, H1, I1, r1, q1⟩ => ?_) hs rfl))⟩
  obtain ⟨a, xs, rfl, hq, q⟩ := q1
  obtain ⟨u, rfl, rx⟩ := vals1 r1
  cases rx
  obtain ⟨its, rv, pt, hz⟩ := I1.tuple hq
  have pT : s1.heap.IsTuple a its.toArray := pt
  have al : a < s1.heap.objs.size := Heap.lt_size pT.choose_spec.1
  refine call_enT pT fun h' he hit hsz hk => wpAny_pyIter_enum he ?_
  refine ⟨s1.heap.objs.size + 1, [s1.heap.objs.size + 1, s1.heap.objs.size], _, _, H1, rfl, I1.kept (t' := s1.toks) hk, turn_enT a (s1.heap.objs.size + 1) s1.heap.objs.size (Nat.succ_ne_self _) (Nat.ne_of_lt (Nat.lt_succ_of_lt al)) (Nat.ne_of_lt al), ⟨⟨.none, he⟩, hit⟩, fun b hb => ?_, q⟩
  have hle : s1.heap.objs.size ≤ b := by
    rcases (show b = s1.heap.objs.size + 1 ∨ b = s1.heap.objs.size by simpa using hb) with z | z <;> rw [z]
    · exact Nat.le_succ _
    · exact Nat.le_refl _
  exact I1.fpOk hle (I1.hok.fresh hle)
end Bal

namespace Bal
open PySem PySem.Spec PyProof.Rows L2
/-! ### xs[a:c] = ys, c maybe behind the end -/
theorem bounds_cut {a c n : Nat} (hac : a ≤ c) (hn : a ≤ n) : sliceBounds (some (a : Int)) (some (c : Int)) none n = ((a : Int), ((min c n : Nat) : Int), 1) := by
  unfold sliceBounds
  have h1 : ¬ ((a : Int) < 0) := by omega
  have h2 : ¬ ((c : Int) < 0) := by omega
  simp only [Option.getD_none, h1, h2, if_false, show (1 : Int) > 0 by decide, if_true, Prod.mk.injEq, and_true]
  omega
section
variable {prog : Program} {w : World} {A : Around} {E : Value → Shared → Prop} {s : Shared}
theorem setItem_cut {l b sl : Addr} {items new : Array Value} {n n2 : Nat} {vl vu : Value} {a c : Nat} {Q : Unit → Shared → Prop} (e : s.heap.get? l = some { cls := .type "list", data := .seq items n }) (e2 : s.heap.get? b = some { cls := .type "list", data := .seq new n2 }) (hne : l ≠ b) (hs : s.heap.IsSliceOf sl vl vu .none) (pl : IsPart vl (some (a : Int))) (pu : IsPart vu (some (c : Int))) (hac : a ≤ c) (ha : a ≤ items.size) (hsz : items.size + new.size ≤ sizeLine)
    (h : Q () { s with heap := s.heap.update l (Obj.mapSeq fun xs => xs.extract 0 a ++ new ++ xs.extract (min c items.size) xs.size) }) : wpAny (model prog w) A (setItem (.ref l) (.ref sl) (.ref b)) Q E s := by
  have L : s.heap.IsList l items := PySem.IsL.isList e
  have B : s.heap.IsList b new := PySem.IsL.isList e2
  obtain ⟨os, hos, hcs, hds⟩ := id hs
  have T : s.TypeIs (.ref sl) "slice" := ⟨os, hos, hcs⟩
  have other : Builtin.List.listSameRef (.ref l) (.ref b) = false := beq_eq_false_iff_ne.mpr hne
  have top : (max (a : Int) ((min c items.size : Nat) : Int)).toNat = min c items.size := by omega
  have fits : ((fun xs : Array Value => xs.extract 0 a ++ new ++ xs.extract (min c items.size) xs.size) items).size ≤ sizeLine + 1 := by
    simp only [Array.size_append, Array.size_extract]; omega
  unfold setItem
  (try with_reducible refine wpAny_holding ?_); (first | refine wpAny_bind (wpAny_pure ?_) | skip)
  refine wpAny_bind (wpAny_sequenceKey L.typeIs (by decide) (wpAny_bind (wpAny_callSpecial?_slot (name := Str.ofString "__setitem__") L.typeIs slot_list_setitem (wpAny_call_entry slot_list_setitem L.typeIs entry_list_setitem ?_ (args_list_setitem _ _ _)))))
  show wpAny _ _ (Builtin.List.listSubscript? (.ref sl) >>= _) _ _ s
  refine wpAny_bind ?_; unfold Builtin.List.listSubscript?
  refine wpAny_bind (wpAny_specialOf T slice_no_index ?_); simp only [Option.isNone_none, if_true]
  refine wpAny_pure (show wpAny _ _ (typeOf (.ref sl) >>= _) _ _ s from wpAny_bind (wpAny_typeOf T ?_))
  (first | rw [if_neg (by decide)] | refine PySem.W.KFB.if_not (by decide) ?_); rw [listSliceParts_eq]
  refine wpAny_bind (wpAny_bind (wpAny_field hos hds (x := .none) rfl (wpAny_bind (wpAny_listPart .none ?_)))); rw [if_neg (show ¬ ((rawPart none == rawInt 0) = true) from Bool.false_ne_true)]
  refine wpAny_bind (wpAny_field hos hds (x := vl) rfl (wpAny_bind (wpAny_listPart pl (wpAny_bind (wpAny_field hos hds (x := vu) rfl (wpAny_bind (wpAny_listPart pu (wpAny_pure ?_))))))))
  first | simp only [other, Bool.false_eq_true, if_false] | refine PySem.W.KFB.if_not other ?_ | (dsimp only; rw [if_neg (by rw [other]; exact Bool.false_ne_true)])
  refine wpAny_bind (m := Builtin.List.listAllItems (.ref b) "must assign iterable to extended slice") ?_; unfold Builtin.List.listAllItems
  refine wpAny_bind (wpAny_typeOf B.typeIs ?_)
  first | refine PySem.W.KFB.if_so (by decide) ?_ | rw [if_pos (by decide)] | simp only [beq_self_eq_true, Bool.true_or, if_true]
  unfold Builtin.List.listItems; refine wpAny_bind (wpAny_seqItems e2 rfl (wpAny_pure (wpAny_bind (wpAny_bind (wpAny_seqItems e rfl (wpAny_pure ?_))))))
  refine wpAny_bind (wpAny_of_eq ((sliceIndices_raw (some (a : Int)) (some (c : Int)) none items.size (by simp)).trans (congrArg (pure : Int × Int × Int → Sem (Int × Int × Int)) (bounds_cut hac ha))) ?_)
  show wpAny _ _ (if ((1 : Int) == 1) = true then _ else _) _ _ s
  rw [if_pos (by decide)]; refine wpAny_bind (wpAny_rule ?_)
  (first | simp only [notLongL hsz, Bool.false_eq_true, if_false] | refine PySem.W.KFB.if_not (notLongL hsz) ?_); (first | refine wpAny_bind (wpAny_pure ?_) | skip)
  show wpAny _ _ (updateSeq l (fun xs => xs.extract 0 ((a : Int)).toNat ++ new ++ xs.extract (max (a : Int) ((min c items.size : Nat) : Int)).toNat xs.size) >>= _) _ _ s
  rw [top, Int.toNat_natCast]; refine wpAny_bind (wpAny_updateSeq (hz := Nat.le_trans (Nat.le_add_right _ _) hsz) (_hz' := fits) e rfl (wpAny_bind (wpAny_letGo ?_)))
  first | exact wpAny_bind (wpAny_pure (wpAny_pure ⟨.none, rfl, wpAny_pure h⟩)) | exact wpAny_pure ⟨.none, rfl, wpAny_pure h⟩
end
section
variable {X : Cx} {o : Expr} {lo hi : Option Expr} {to : TE} {tl th : TO} {p2 pos : Pos}
def gCut (to : TE) (tl th : TO) : TG := fun v σ H Q => to σ H fun o H1 => tl σ H1 fun a H2 => th σ H2 fun c H3 => ∃ (l b : Addr) (xs ys : List V) (i j : Nat), o = .ref l ∧ v = .ref b ∧ a = some (i : Int) ∧ c = some (j : Int) ∧ H3 l = some (.lst xs) ∧ H3 b = some (.lst ys) ∧ l ≠ b ∧ i ≤ j ∧ i ≤ xs.length ∧ xs.length + ys.length ≤ sizeLine ∧ Q σ (upd H3 l (.lst (xs.take i ++ ys ++ xs.drop j)))
/-- xs[i:j] = ys, ys another list -/
theorem pg_cut (ho : PE X o to) (hl : PO X lo tl) (hh : PO X hi th)
    (ha : ∀ v, assign (.Subscript o (.Slice lo hi none p2) pos) X.env v = (do
      let ov ← holding [v] (eval o X.env)
      let iv ← holding [v, ov] (eval (.Slice lo hi none p2) X.env)
      standAt pos
      holding [v, ov, iv] (setItem ov iv v)
      release [iv, v, ov] []) := by intro _; rfl) : PG X (.Subscript o (.Slice lo hi none p2) pos) (gCut to tl th) := by
  refine ⟨fun pins s σ H v u Q I r h => ?_⟩
  rw [ha]
  refine wpAny_bind (wpAny_holding (thn (ho.run pins s σ H _ I h) fun ov s1 ⟨x, H1, I1, r1, q1⟩ => wpAny_bind (wpAny_holding ?_)))
  refine wpAny_Slice (thn (hl.run pins s1 σ H1 _ I1 q1) fun vl s2 ⟨l, H2, I2, pl, q2⟩ => thn (hh.run pins s2 σ H2 _ I2 q2) fun vu s3 ⟨c, H3, I3, pu, q3⟩ => ?_)
  rw [evalPart_none]
  obtain ⟨l, b, xs, ys, i, j, rfl, rfl, rfl, rfl, hL, hB, hne, hij, hi, hz, q⟩ := q3
  cases r1
  cases r
  have I4 : Inv X pins σ H3 { s3 with heap := s3.heap.push { cls := .type "slice", data := .fields #[vl, vu, .none] } } := I3.kept (t' := s3.toks) fun b ob q => Heap.get?_push_of_some _ q
  refine wpAny_pure (wpAny_bind (wpAny_standAt (wpAny_bind (wpAny_holding ?_))))
  obtain ⟨z, its, n, r, len, e⟩ := I4.lstM hL
  obtain ⟨z2, its2, n2, r2, len2, e2⟩ := I4.lstM hB
  refine setItem_cut (a := i) (c := j) e e2 hne (Heap.IsSliceOf.new ..) pl pu hij (by rw [List.size_toArray]; omega) (by rw [List.size_toArray, List.size_toArray]; omega) (wpAny_release ⟨σ, _, I4.lset (its' := its.take i ++ its2 ++ its.drop j) (t' := s3.toks) hL e ?_ (Vals.append (Vals.append (r.take _) r2) (r.drop _)) ?_, q⟩)
  · show its.toArray.extract 0 i ++ its2.toArray ++ its.toArray.extract (min j its.toArray.size) its.toArray.size = _
    rw [splice_eq its its2 i (min j its.toArray.size)]
    congr 2
    rw [List.size_toArray]
    by_cases hj : j ≤ its.length
    · rw [Nat.min_eq_left hj]
    · rw [Nat.min_eq_right (by omega), List.drop_length, List.drop_eq_nil_of_le (by omega)]
  · rw [List.length_append, List.length_append, List.length_take, List.length_drop]; omega
end
/-! ### len(set(t)), t a tuple of numbers -/
theorem nodup_iff_len : ∀ (ns L : List Int), L.Nodup → (∀ k, k ∈ L ↔ k ∈ ns) → L.length ≤ ns.length ∧ (L.length = ns.length ↔ ns.Nodup)
  | [], L, _, h => by
    have e : L = [] := List.eq_nil_iff_forall_not_mem.mpr fun a ha => by simpa using (h a).mp ha
    subst e
    simp
  | n :: ns, L, hL, h => by
    have hn : n ∈ L := (h n).mpr List.mem_cons_self
    have el := List.length_erase_of_mem hn
    have lp : 0 < L.length := List.length_pos_of_mem hn
    have me : ∀ k, k ∈ L.erase n ↔ k ∈ L ∧ k ≠ n := fun k => by
      rw [hL.mem_erase_iff]
      exact And.comm
    rw [List.length_cons, List.nodup_cons]
    by_cases m : n ∈ ns
    · have ih := nodup_iff_len ns L hL fun k => by
        rw [h k, List.mem_cons]
        exact ⟨fun z => z.elim (fun z => z ▸ m) id, .inr⟩
      refine ⟨by omega, fun z => absurd z (by omega), fun z => absurd m z.1⟩
    · have ih := nodup_iff_len ns (L.erase n) (hL.erase n) fun k => by
        rw [me k, h k, List.mem_cons]
        exact ⟨fun z => z.1.elim (fun q => absurd q z.2) id, fun z => ⟨.inr z, fun q => m (q ▸ z)⟩⟩
      refine ⟨by omega, fun z => ⟨m, ih.2.mp (by omega)⟩, fun z => ?_⟩
      have := ih.2.mpr z.2
      omega
section
variable {X : Cx}
def tLenSetT (K : PySem.W.Frag) (ta : TE) : TE := fun σ H Q => ta σ H fun x H1 => ∃ (l : Addr) (ns : List Int), x = V.ref l ∧ SqT K H1 l (ns.map V.int) ∧ ns.length ≤ 1000 ∧ ∀ c : Nat, (c = ns.length ↔ ns.Nodup) → Q (.int c) H1
theorem pe_lenSetT {a : Expr} {ta : TE} {p p2 q pos : Pos} (hc : X.calm = true) (hg : Gl X "len") (hm : X.mg "len" = none) (hg2 : Gl X "set") (hm2 : X.mg "set" = none) (ha : PE X a ta)
    (na : starEach [a] X.env = (false, eval a X.env) :: starEach [] X.env := by rfl) : PE X (.Call (.Name "len" p) [.Call (.Name "set" p2) [a] [] q] [] pos) (tLenSetT X.K ta) := by
  refine ⟨fun pins s σ H Q I h => Call_ (ld_blt I hg hm PySem.boot_len (PyProof.Rows.callWith_builtin1 (PyProof.Rows.args_cons ?_ rfl) rfl rfl))⟩
  refine Call_ (ld_blt I hg2 hm2 PyProof.Rows.boot_set (PyProof.Rows.callWith_type1 (PyProof.Rows.args_cons (thn (ha.run pins s σ H _ I h) fun v s1 ⟨x, H1, I1, r1, q1⟩ => PyProof.Rows.args_nil ?_) na) na rfl))
  obtain ⟨l, ns, rfl, hq, hn, q1⟩ := q1
  cases r1
  obtain ⟨its, r, pt, hz⟩ := I1.tuple hq
  refine call_set_tupI ns (I1.ok.hd hc) (show s1.heap.IsTuple l its.toArray from pt) (ints_of_vals r) (by unfold scanBound; omega) fun h' tk c R hcn hk => PyProof.Rows.args_nil ?_
  obtain ⟨o, es, ep, t, ho, hex, hd, _, nd, hm, hb, hf, hn2, _⟩ := R
  have I2 : Inv X pins σ H1 { s1 with heap := h', toks := tk } := I1.kept hk
  have cnt := nodup_iff_len ns (es.toList.map keyOf) nd fun k => by
    rw [← hm k, decide_eq_true_eq]
  rw [List.length_map, Array.length_toList, hn2] at cnt
  exact call_len_set ho hex hd hf (by rw [hn2]; omega) ⟨.int c, H1, I2.tok _, ⟨_, by rw [hn2]⟩, q1 c cnt.2⟩
end
end Bal

namespace Bal
open PySem PySem.Spec PyProof.Rows L2
/-! ### which kind a thing is -/
def isSeq : PyData → Bool | .list _ => true | .tuple _ => true | _ => false
def isInt : PyData → Bool | .int _ => true | .bool _ => true | _ => false
def isBool : PyData → Bool | .bool _ => true | _ => false
def isTup : PyData → Bool | .tuple _ => true | _ => false
def isLst : PyData → Bool | .list _ => true | _ => false
section
variable {X : Cx}
def rIsD (K : PySem.W.Frag) (n : String) (f : PyData → Bool) : List V → Hp → VK → Prop := fun xs H Q => ∃ x d, xs = [x, .ty n] ∧ Dp K H x d ∧ Q (.bl (f d)) H
theorem call_isD {n : String} {f : PyData → Bool} (h : ∀ d : PyData, kitB (kD d) n = some (f d)) : CallR X (.builtin "isinstance") (rIsD X.K n f) := by
  intro pins s σ H xs us Q I r ⟨x, d, e, hd, q⟩
  subst e
  exact call_isi pins s σ H _ us Q I r ⟨x, .ty n, _, _, f d, rfl, .ty _, dp_ty hd, kit_ty (h d), q⟩
theorem call_isInt : CallR X (.builtin "isinstance") (rIsD X.K "int" isInt) := call_isD fun d => by cases d <;> (simp only [kD, isInt]; decide +kernel)
theorem call_isBool : CallR X (.builtin "isinstance") (rIsD X.K "bool" isBool) := call_isD fun d => by cases d <;> (simp only [kD, isBool]; decide +kernel)
theorem call_isTup : CallR X (.builtin "isinstance") (rIsD X.K "tuple" isTup) := call_isD fun d => by cases d <;> (simp only [kD, isTup]; decide +kernel)
theorem call_isLst : CallR X (.builtin "isinstance") (rIsD X.K "list" isLst) := call_isD fun d => by cases d <;> (simp only [kD, isLst]; decide +kernel)
def rIsS (K : PySem.W.Frag) : List V → Hp → VK → Prop := fun xs H Q => ∃ x tp d, xs = [x, .ref tp] ∧ H tp = some (.tup [.ty "list", .ty "tuple"]) ∧ Dp K H x d ∧ Q (.bl (isSeq d)) H
theorem call_isSeq : CallR X (.builtin "isinstance") (rIsS X.K) := by
  intro pins s σ H xs us Q I r ⟨x, tp, d, e, ht, hd, q⟩
  subst e
  refine call_isiT pins s σ H _ us Q I r ⟨x, tp, _, _, _, isSeq d, rfl, ht, cls2, dp_ty hd, ?_, q⟩
  cases d with
  | list _ => exact kA_lst
  | tuple _ => exact kA_tup
  | _ => exact kA_no (by simp only [kD]; decide +kernel) (by simp only [kD]; decide +kernel)
end
/-! ### the heap without the draws' pot, and without lists that are still being made -/
def hid (N : Addr → Bool) (H : Hp) : Hp := fun q => if N q = true then none else H q
theorem hid_at {N : Addr → Bool} {q : Addr} {H : Hp} (n : N q = false) : hid N H q = H q := if_neg (by rw [n]; exact Bool.false_ne_true)
theorem hid_p {N : Addr → Bool} {q : Addr} {H : Hp} (n : N q = true) : hid N H q = none := if_pos n
theorem hid_some {N : Addr → Bool} {q : Addr} {H : Hp} {o : HO} (e : hid N H q = some o) : N q = false ∧ H q = some o := by
  cases n : N q with
  | true =>
    rw [hid_p n] at e
    cases e
  | false =>
    rw [hid_at n] at e
    exact ⟨rfl, e⟩
theorem hid_same {N : Addr → Bool} {H : Hp} : Same (hid N H) H := fun b o e => (hid_some e).2
theorem hid_but {N : Addr → Bool} {p : Addr} {H H' : Hp} (np : N p = true) (b : But p H H') : Same (hid N H) (hid N H') := fun q o e => by
  obtain ⟨h1, h2⟩ := hid_some e
  rw [hid_at h1]
  refine b q o (fun z => ?_) h2
  rw [z, np] at h1
  cases h1
theorem hid_get {N : Addr → Bool} {q : Addr} {H : Hp} {o : HO} (n : N q = false) (h : H q = some o) : hid N H q = some o := by
  rw [hid_at n]
  exact h
/-- the pot, and what is hidden stands -/
structure PotN (N : Addr → Bool) (H : Hp) (p : Addr) (c : Nat) : Prop where
  pot : Pot H p c
  np : N p = true
  tr : ∀ q, N q = true → ∃ o, H q = some o
theorem PotN.ne {N : Addr → Bool} {H : Hp} {p q : Addr} {c : Nat} (h : PotN N H p c) (n : H q = none) : N q = false := by
  cases e : N q with
  | false => rfl
  | true =>
    obtain ⟨o, z⟩ := h.tr q e
    rw [n] at z
    cases z
theorem PotN.nep {N : Addr → Bool} {H : Hp} {p q : Addr} {c : Nat} (h : PotN N H p c) (n : H q = none) : q ≠ p := h.pot.ne n
theorem PotN.same {N : Addr → Bool} {H H' : Hp} {p : Addr} {c : Nat} (h : PotN N H p c) (s : Same H H') : PotN N H' p c := ⟨h.pot.same s, h.np, fun q e => let ⟨o, z⟩ := h.tr q e; ⟨o, s _ _ z⟩⟩
theorem PotN.but {N : Addr → Bool} {H H' : Hp} {p : Addr} {c c' : Nat} (h : PotN N H p c) (b : But p H H') (P : Pot H' p c') : PotN N H' p c' := ⟨P, h.np, fun q e => by
  by_cases z : q = p
  · subst z
    obtain ⟨o, e, _⟩ := P
    exact ⟨o, e⟩
  · obtain ⟨o, e⟩ := h.tr q e
    exact ⟨o, b q o z e⟩⟩
theorem potN_one {H : Hp} {p : Addr} {c : Nat} (h : Pot H p c) : PotN (fun q => decide (q = p)) H p c := ⟨h, decide_eq_true rfl, fun q e => by
  rw [of_decide_eq_true e]
  obtain ⟨o, e, _⟩ := h
  exact ⟨o, e⟩⟩
/-- one more is hidden -/
theorem potN_more {N : Addr → Bool} {H : Hp} {p r : Addr} {c : Nat} {o : HO} (h : PotN N H p c) (hr : H r = some o) : PotN (fun q => N q || decide (q = r)) H p c := ⟨h.pot, by rw [h.np]; rfl, fun q e => by
  rcases Bool.or_eq_true_iff.mp e with e | e
  · exact h.tr q e
  · rw [of_decide_eq_true e]
    exact ⟨o, hr⟩⟩
/-! ### things that are small enough -/
mutual
def okD (M : Nat) : PyData → Bool
  | .none => true
  | .bool _ => true
  | .int i => decide (i.natAbs ≤ M)
  | .str x => PyData.strOk x && decide (x.length ≤ 30)
  | .list xs => okA M xs
  | .tuple xs => okA M xs
  | .dict _ => false
def okA (M : Nat) : List PyData → Bool
  | [] => true
  | x :: xs => okD M x && okA M xs
end
mutual
def siz : PyData → Nat
  | .list xs => sizA xs + 1
  | .tuple xs => sizA xs + 1
  | _ => 1
def sizA : List PyData → Nat
  | [] => 0
  | x :: xs => siz x + sizA xs
end
structure Fit (M S D : Nat) (d : PyData) : Prop where
  ok : okD M d = true
  sz : siz d ≤ S
  dp : d.depth ≤ D
theorem Fit.mono {M S D M' S' D' : Nat} {d : PyData} (h : Fit M S D d) (h0 : okD M d = true → okD M' d = true) (h1 : S ≤ S') (h2 : D ≤ D') : Fit M' S' D' d := ⟨h0 h.ok, Nat.le_trans h.sz h1, Nat.le_trans h.dp h2⟩
mutual
theorem okD_mono {M M' : Nat} (h : M ≤ M') : ∀ d : PyData, okD M d = true → okD M' d = true
  | .none, _ => rfl
  | .bool _, _ => rfl
  | .int i, e => decide_eq_true (Nat.le_trans (of_decide_eq_true e) h)
  | .str x, e => e
  | .list xs, e => okA_mono h xs e
  | .tuple xs, e => okA_mono h xs e
  | .dict _, e => nomatch (show false = true from e)
theorem okA_mono {M M' : Nat} (h : M ≤ M') : ∀ xs : List PyData, okA M xs = true → okA M' xs = true
  | [], _ => rfl
  | x :: xs, e => by
    obtain ⟨a, b⟩ := Bool.and_eq_true_iff.mp (show (okD M x && okA M xs) = true from e)
    show (okD M' x && okA M' xs) = true
    rw [okD_mono h x a, okA_mono h xs b]
    rfl
end
theorem okA_iff {M : Nat} : ∀ xs : List PyData, okA M xs = true ↔ ∀ d ∈ xs, okD M d = true
  | [] => ⟨fun _ _ h => (nomatch h), fun _ => rfl⟩
  | x :: xs => by
    show (okD M x && okA M xs) = true ↔ _
    rw [Bool.and_eq_true_iff, okA_iff xs, List.forall_mem_cons]
theorem dpA_le {D : Nat} : ∀ xs : List PyData, PyData.depthAll xs ≤ D ↔ ∀ d ∈ xs, d.depth ≤ D
  | [] => ⟨fun _ _ h => (nomatch h), fun _ => Nat.zero_le _⟩
  | x :: xs => by
    show max x.depth (PyData.depthAll xs) ≤ D ↔ _
    rw [Nat.max_le, dpA_le xs, List.forall_mem_cons]
theorem sizA_app : ∀ xs ys : List PyData, sizA (xs ++ ys) = sizA xs + sizA ys
  | [], ys => (Nat.zero_add _).symm
  | x :: xs, ys => by
    show siz x + sizA (xs ++ ys) = siz x + sizA xs + sizA ys
    rw [sizA_app xs ys, Nat.add_assoc]
theorem siz_pos (d : PyData) : 1 ≤ siz d := by
  cases d
  case list xs => exact Nat.succ_le_succ (Nat.zero_le _)
  case tuple xs => exact Nat.succ_le_succ (Nat.zero_le _)
  all_goals exact Nat.le_refl _
theorem len_sizA : ∀ xs : List PyData, xs.length ≤ sizA xs
  | [] => Nat.le_refl _
  | x :: xs => by
    show xs.length + 1 ≤ siz x + sizA xs
    have := siz_pos x
    have := len_sizA xs
    omega
/-- all parts of a list of things: as a list, as a tuple -/
structure FitA (M S D : Nat) (ds : List PyData) : Prop where
  ok : ∀ d ∈ ds, okD M d = true
  sz : sizA ds ≤ S
  dp : ∀ d ∈ ds, d.depth ≤ D
theorem fit_list {M S D : Nat} {ds : List PyData} (h : FitA M S D ds) : Fit M (S + 1) (D + 1) (.list ds) := ⟨(okA_iff ds).mpr h.ok, Nat.succ_le_succ h.sz, Nat.succ_le_succ ((dpA_le ds).mpr h.dp)⟩
theorem fit_tuple {M S D : Nat} {ds : List PyData} (h : FitA M S D ds) : Fit M (S + 1) (D + 1) (.tuple ds) := ⟨(okA_iff ds).mpr h.ok, Nat.succ_le_succ h.sz, Nat.succ_le_succ ((dpA_le ds).mpr h.dp)⟩
theorem of_list {M S D : Nat} {ds : List PyData} (h : Fit M S D (.list ds)) : ∃ S' D', S = S' + 1 ∧ D = D' + 1 ∧ FitA M S' D' ds := by
  have a : sizA ds + 1 ≤ S := h.sz
  have b : PyData.depthAll ds + 1 ≤ D := h.dp
  exact ⟨S - 1, D - 1, by omega, by omega, (okA_iff ds).mp h.ok, by omega, (dpA_le ds).mp (by omega)⟩
theorem of_tuple {M S D : Nat} {ds : List PyData} (h : Fit M S D (.tuple ds)) : ∃ S' D', S = S' + 1 ∧ D = D' + 1 ∧ FitA M S' D' ds := by
  have a : sizA ds + 1 ≤ S := h.sz
  have b : PyData.depthAll ds + 1 ≤ D := h.dp
  exact ⟨S - 1, D - 1, by omega, by omega, (okA_iff ds).mp h.ok, by omega, (dpA_le ds).mp (by omega)⟩
/-! ### what these are good for -/
mutual
theorem ok_lay {M : Nat} : ∀ d : PyData, okD M d = true → d.canLay0 = true
  | .none, _ => rfl
  | .bool _, _ => rfl
  | .int i, e => rfl
  | .str x, e => (Bool.and_eq_true_iff.mp (show (PyData.strOk x && decide (x.length ≤ 30)) = true from e)).1
  | .list xs, e => okA_lay xs e
  | .tuple xs, e => okA_lay xs e
  | .dict _, e => nomatch (show false = true from e)
theorem okA_lay {M : Nat} : ∀ xs : List PyData, okA M xs = true → PyData.canLayAll0 xs = true
  | [], _ => rfl
  | x :: xs, e => by
    obtain ⟨a, b⟩ := Bool.and_eq_true_iff.mp (show (okD M x && okA M xs) = true from e)
    show (x.canLay0 && PyData.canLayAll0 xs) = true
    rw [ok_lay x a, okA_lay xs b]
    rfl
end
theorem fit_shp {M S D : Nat} {d : PyData} (h : Fit M S D d) (hD : D ≤ 64) : SeqAt.shaped d = true := by
  unfold SeqAt.shaped
  rw [ok_lay d h.ok]
  exact decide_eq_true (Nat.le_trans h.dp hD)
theorem log_lt {i : Int} {M : Nat} (h : i.natAbs ≤ M) (hM : M ≤ 10 ^ 18) : i.natAbs.log2 < 60 := by
  by_cases z : i.natAbs = 0
  · rw [z]
    decide
  · exact (Nat.log2_lt z).mpr (Nat.lt_of_le_of_lt (Nat.le_trans h hM) (by decide))
mutual
theorem ok_show {M : Nat} (hM : M ≤ 10 ^ 18) : ∀ d : PyData, okD M d = true → d.showable = true
  | .none, _ => rfl
  | .bool _, _ => rfl
  | .int i, e => decide_eq_true (Nat.lt_trans (log_lt (of_decide_eq_true e) hM) (by decide))
  | .str x, e => rfl
  | .list xs, e => okA_show hM xs e
  | .tuple xs, e => okA_show hM xs e
  | .dict _, e => nomatch (show false = true from e)
theorem okA_show {M : Nat} (hM : M ≤ 10 ^ 18) : ∀ xs : List PyData, okA M xs = true → PyData.showableAll xs = true
  | [], _ => rfl
  | x :: xs, e => by
    obtain ⟨a, b⟩ := Bool.and_eq_true_iff.mp (show (okD M x && okA M xs) = true from e)
    show (x.showable && PyData.showableAll xs) = true
    rw [ok_show hM x a, okA_show hM xs b]
    rfl
end
theorem int_text {i : Int} {M : Nat} (h : i.natAbs ≤ M) (hM : M < 10 ^ 19) : (Str.ofString (toString i)).length ≤ 20 := by
  rw [PySem.ofString_length]
  exact int_text_length_le10 (k := 19) (by decide) (Nat.lt_of_le_of_lt h hM)
theorem str_small {x : Str} (h : PyData.strOk x = true) : ∀ c ∈ x.cps.toList, c < 16 ^ 8 := fun c hc => by
  have z := Array.all_eq_true_iff_forall_mem.mp (show x.cps.all (· < 0x110000) = true from h) c (Array.mem_toList_iff.mp hc)
  have z := of_decide_eq_true z
  exact Nat.lt_trans z (by decide)
theorem shA_len : ∀ xs : List PyData, (PyData.shownAll xs).length = xs.length
  | [] => rfl
  | _ :: xs => congrArg (· + 1) (shA_len xs)
mutual
theorem shown_len {M : Nat} (hM : M ≤ 10 ^ 18) : ∀ d : PyData, okD M d = true → d.shown.length + 2 ≤ 320 * siz d
  | .none, _ => by decide
  | .bool b, _ => by cases b <;> decide
  | .int i, e => by
    have := int_text (of_decide_eq_true (show decide (i.natAbs ≤ M) = true from e)) (Nat.lt_of_le_of_lt hM (by decide))
    show (Str.ofString (toString i)).length + 2 ≤ 320
    omega
  | .str x, e => by
    obtain ⟨a, b⟩ := Bool.and_eq_true_iff.mp (show (PyData.strOk x && decide (x.length ≤ 30)) = true from e)
    have h1 := StrLaws.reprText_len x (str_small a)
    have h2 := of_decide_eq_true b
    show (reprText x).length + 2 ≤ 320
    omega
  | .list xs, e => by
    have h1 := listText_len_le (PyData.shownAll xs)
    have h2 := shownA_len hM xs e
    have h3 := shA_len xs
    show (listText (PyData.shownAll xs)).length + 2 ≤ 320 * (sizA xs + 1)
    rw [h3] at h1
    omega
  | .tuple xs, e => by
    have h1 := tupleText_len_le (PyData.shownAll xs)
    have h2 := shownA_len hM xs e
    have h3 := shA_len xs
    show (tupleText (PyData.shownAll xs)).length + 2 ≤ 320 * (sizA xs + 1)
    rw [h3] at h1
    omega
  | .dict _, e => nomatch (show false = true from e)
theorem shownA_len {M : Nat} (hM : M ≤ 10 ^ 18) : ∀ xs : List PyData, okA M xs = true → ((PyData.shownAll xs).map (·.length)).sum + 2 * xs.length ≤ 320 * sizA xs
  | [], _ => Nat.le_refl _
  | x :: xs, e => by
    obtain ⟨a, b⟩ := Bool.and_eq_true_iff.mp (show (okD M x && okA M xs) = true from e)
    have h1 := shown_len hM x a
    have h2 := shownA_len hM xs b
    show (x.shown.length + ((PyData.shownAll xs).map (·.length)).sum) + 2 * (xs.length + 1) ≤ 320 * (siz x + sizA xs)
    omega
end
theorem fit_shown {M S D : Nat} {d : PyData} (h : Fit M S D d) (hM : M ≤ 10 ^ 18) (hS : S ≤ 50000) : d.shown.length ≤ sizeLine := by
  have h1 := shown_len hM d h.ok
  have h2 := h.sz
  rw [sizeLine_eq]
  omega
/-! ### good things: data out of the pot's reach, small -/
def Gv (K : PySem.W.Frag) (N : Addr → Bool) (H : Hp) (M S D : Nat) (v : V) : Prop := ∃ d, Dp K (hid N H) v d ∧ Fit M S D d
theorem Gv.but {K : PySem.W.Frag} {N : Addr → Bool} {p : Addr} {H H' : Hp} {M S D : Nat} {v : V} (h : Gv K N H M S D v) (np : N p = true) (b : But p H H') : Gv K N H' M S D v := by
  obtain ⟨d, a, f⟩ := h
  exact ⟨d, dp_same (hid_but np b) a, f⟩
theorem Gv.mono {K : PySem.W.Frag} {N : Addr → Bool} {H : Hp} {M S D M' S' D' : Nat} {v : V} (h : Gv K N H M S D v) (h0 : M ≤ M') (h1 : S ≤ S') (h2 : D ≤ D') : Gv K N H M' S' D' v := by
  obtain ⟨d, a, f⟩ := h
  exact ⟨d, a, f.mono (okD_mono h0 d) h1 h2⟩
end Bal

namespace Bal
open PySem PySem.Spec PyProof.Rows L2
section
variable {K : PySem.W.Frag} {N : Addr → Bool} {p : Addr} {H H0 : Hp} {c : Nat}
theorem al_t {t : Addr} {xs : List V} {ds : List PyData} (P : PotN N H p c) (n : H t = none) (h : DpAll K (hid N H) xs ds) : PotN N (upd H t (.tup xs)) p c ∧ But p H (upd H t (.tup xs)) ∧ Dp K (hid N (upd H t (.tup xs))) (.ref t) (.tuple ds) ∧ t ≠ p :=
  have b : But p H (upd H t (.tup xs)) := .same (sm_upd n)
  ⟨P.same (sm_upd n), b, .tup (.inl (.inl (hid_get (P.ne n) upd_same))) (dps_same (hid_but P.np b) h), P.nep n⟩
theorem al_l {t : Addr} {xs : List V} {ds : List PyData} (P : PotN N H p c) (n : H t = none) (h : DpAll K (hid N H) xs ds) : PotN N (upd H t (.lst xs)) p c ∧ But p H (upd H t (.lst xs)) ∧ Dp K (hid N (upd H t (.lst xs))) (.ref t) (.list ds) ∧ t ≠ p :=
  have b : But p H (upd H t (.lst xs)) := .same (sm_upd n)
  ⟨P.same (sm_upd n), b, .lst (.inl (.inl (hid_get (P.ne n) upd_same))) (dps_same (hid_but P.np b) h), P.nep n⟩
theorem gv_non {M S D : Nat} (h : 1 ≤ S) : Gv K N H M S D .non := ⟨.none, .non, rfl, h, Nat.zero_le _⟩
theorem gv_bl {M S D : Nat} (h : 1 ≤ S) (b : Bool) : Gv K N H M S D (.bl b) := ⟨.bool b, .bl b, rfl, h, Nat.zero_le _⟩
theorem gv_int {M S D : Nat} {i : Int} (h : 1 ≤ S) (hi : i.natAbs ≤ M) : Gv K N H M S D (.int i) := ⟨.int i, .int i, decide_eq_true hi, h, Nat.zero_le _⟩
theorem gv_str {M S D : Nat} {x : Str} (h : 1 ≤ S) (h1 : PyData.strOk x = true) (h2 : x.length ≤ 30) : Gv K N H M S D (.str x) := ⟨.str x, .str x, by show (PyData.strOk x && decide (x.length ≤ 30)) = true; rw [h1]; exact decide_eq_true h2, h, Nat.zero_le _⟩
theorem gv_of {M S D : Nat} {x : V} {d : PyData} (h : Dp K (hid N H) x d) (f : Fit M S D d) : Gv K N H M S D x := ⟨d, h, f⟩
end
theorem strOk_of (s : String) : PyData.strOk (Str.ofString s) = true := by
  unfold PyData.strOk
  rw [Str.ofString_eq_toList]
  refine Array.all_eq_true_iff_forall_mem.mpr fun c hc => decide_eq_true ?_
  rw [← Array.mem_toList_iff, List.toList_toArray, List.mem_map] at hc
  obtain ⟨ch, _, rfl⟩ := hc
  have h := ch.valid
  show ch.val.toNat < 0x110000
  rcases h with h | h
  · exact Nat.lt_trans h (by decide)
  · exact h.2
theorem sizA_sub {xs ys : List PyData} (h : xs.Sublist ys) : sizA xs ≤ sizA ys := by
  induction h with
  | slnil => exact Nat.le_refl _
  | cons a _ ih => exact Nat.le_trans ih (Nat.le_add_left _ _)
  | cons_cons a _ ih => exact Nat.add_le_add_left ih _
theorem FitA.sub {M S D : Nat} {xs ys : List PyData} (f : FitA M S D ys) (h : xs.Sublist ys) : FitA M S D xs := ⟨fun d hd => f.ok d (h.mem hd), Nat.le_trans (sizA_sub h) f.sz, fun d hd => f.dp d (h.mem hd)⟩
theorem sizA_rev : ∀ xs : List PyData, sizA xs.reverse = sizA xs
  | [] => rfl
  | x :: xs => by
    rw [List.reverse_cons, sizA_app, sizA_rev xs]
    show sizA xs + (siz x + 0) = siz x + sizA xs
    omega
theorem FitA.rev {M S D : Nat} {xs : List PyData} (f : FitA M S D xs) : FitA M S D xs.reverse := ⟨fun d hd => f.ok d (List.mem_reverse.mp hd), by rw [sizA_rev]; exact f.sz, fun d hd => f.dp d (List.mem_reverse.mp hd)⟩
theorem FitA.mono {M S D M' S' D' : Nat} {xs : List PyData} (f : FitA M S D xs) (h0 : M ≤ M') (h1 : S ≤ S') (h2 : D ≤ D') : FitA M' S' D' xs := ⟨fun d hd => okD_mono h0 d (f.ok d hd), Nat.le_trans f.sz h1, fun d hd => Nat.le_trans (f.dp d hd) h2⟩
section
variable {K : PySem.W.Frag} {H : Hp}
theorem dps_app : ∀ {xs ys : List V} {ds es : List PyData}, DpAll K H xs ds → DpAll K H ys es → DpAll K H (xs ++ ys) (ds ++ es)
  | _, _, _, _, .nil, h => h
  | _, _, _, _, .cons a b, h => .cons a (dps_app b h)
theorem dps_rev : ∀ {xs : List V} {ds : List PyData}, DpAll K H xs ds → DpAll K H xs.reverse ds.reverse
  | _, _, .nil => .nil
  | _, _, .cons a b => by
    rw [List.reverse_cons, List.reverse_cons]
    exact dps_app (dps_rev b) (.cons a .nil)
theorem dps_drop : ∀ {xs : List V} {ds : List PyData} (n : Nat), DpAll K H xs ds → DpAll K H (xs.drop n) (ds.drop n)
  | _, _, 0, h => h
  | _, _, n + 1, .nil => .nil
  | _, _, n + 1, .cons a b => dps_drop n b
theorem dps_take : ∀ {xs : List V} {ds : List PyData} (n : Nat), DpAll K H xs ds → DpAll K H (xs.take n) (ds.take n)
  | _, _, 0, h => by
    rw [List.take_zero, List.take_zero]
    exact .nil
  | _, _, n + 1, .nil => .nil
  | _, _, n + 1, .cons a b => .cons a (dps_take n b)
theorem dps_cut {xs : List V} {ds : List PyData} (h : DpAll K H xs ds) (lo hi : Option Int) : ∃ es, DpAll K H (cutV xs lo hi) es ∧ es.Sublist ds :=
  ⟨_, dps_take _ (dps_drop _ h), (List.take_sublist _ _).trans (List.drop_sublist _ _)⟩
theorem dps_erase : ∀ {xs : List V} {ds : List PyData} (n : Nat), DpAll K H xs ds → DpAll K H (xs.eraseIdx n) (ds.eraseIdx n)
  | _, _, _, .nil => .nil
  | _, _, 0, .cons a b => b
  | _, _, n + 1, .cons a b => .cons a (dps_erase n b)
theorem dps_set : ∀ {xs : List V} {ds : List PyData} {x : V} {d : PyData} (n : Nat), DpAll K H xs ds → Dp K H x d → DpAll K H (xs.set n x) (ds.set n d)
  | _, _, _, _, _, .nil, _ => .nil
  | _, _, _, _, 0, .cons a b, h => .cons h b
  | _, _, _, _, n + 1, .cons a b, h => .cons a (dps_set n b h)
end
end Bal

namespace Bal
open PySem PySem.Spec PyProof.Rows L2
/-! ### a walk over a list or a tuple, whichever it is -/
section
variable {X : Cx} {tg : Expr}
def iEi (K : PySem.W.Frag) (tl : TE) : TI := fun σ H R => tl σ H fun x H1 => ∃ a, x = .ref a ∧ (((∃ xs, SqL K H1 a xs) ∧ R (Itl K a) H1) ∨ ((∃ xs, SqT K H1 a xs) ∧ R (Itt K a) H1))
theorem pi_ei {l : Expr} {tl : TE} (hl : PE X l tl) : PI X tg l (iEi X.K tl) := by
  refine ⟨fun pins s σ H R I h => thn (hl.run pins s σ H _ I h) fun v s1 ⟨x, H1, I1, r1, a, ea, q1⟩ => ?_⟩
  subst ea; cases r1
  have fr : ∀ b ∈ [s1.heap.objs.size], FpOk X pins H1 b := fun b hb => by
    rw [show b = s1.heap.objs.size by simpa using hb]
    exact I1.fpOk (Nat.le_refl _) (I1.hok.fresh (Nat.le_refl _))
  rcases q1 with ⟨⟨xs, hq⟩, q⟩ | ⟨⟨xs, hq⟩, q⟩
  · obtain ⟨its, rv, p, hz⟩ := I1.list hq
    exact wpAny_pyIter_list p.isList ⟨s1.heap.objs.size, [s1.heap.objs.size], _, _, H1, rfl, I1.kept (t' := s1.toks) fun b o e => Heap.get?_push_of_some _ e, turn_list a _, ⟨_, Heap.get?_push_size _ rfl, rfl, rfl⟩, fr, q⟩
  · obtain ⟨its, rv, p, hz⟩ := I1.tuple hq
    exact wpAny_pyIter_tuple (show s1.heap.IsTuple a its.toArray from p) ⟨s1.heap.objs.size, [s1.heap.objs.size], _, _, H1, rfl, I1.kept (t' := s1.toks) fun b o e => Heap.get?_push_of_some _ e, turn_tuple a _, ⟨_, Heap.get?_push_size _ rfl, rfl, rfl⟩, fr, q⟩
end
/-! ### what is hidden stands -/
def TrN (N : Addr → Bool) (H : Hp) : Prop := ∀ q, N q = true → ∃ o, H q = some o
/-- D hidden too -/
def plus (N : Addr → Bool) (D : Addr) : Addr → Bool := fun q => N q || decide (q = D)
theorem TrN.none {H : Hp} : TrN (fun _ => false) H := fun _ e => Bool.noConfusion e
theorem TrN.same {N : Addr → Bool} {H H' : Hp} (t : TrN N H) (s : Same H H') : TrN N H' := fun q e => let ⟨o, z⟩ := t q e; ⟨o, s _ _ z⟩
theorem TrN.ne {N : Addr → Bool} {H : Hp} {q : Addr} (t : TrN N H) (n : H q = Option.none) : N q = false := by
  cases e : N q with
  | false => rfl
  | true =>
    obtain ⟨o, z⟩ := t q e
    rw [n] at z
    cases z
theorem TrN.plus {N : Addr → Bool} {H : Hp} {D : Addr} {o : HO} (t : TrN N H) (h : H D = some o) : TrN (plus N D) H := fun q e => by
  rcases Bool.or_eq_true_iff.mp e with e | e
  · exact t q e
  · rw [of_decide_eq_true e]
    exact ⟨o, h⟩
theorem hid_sm {N : Addr → Bool} {H H' : Hp} (s : Same H H') : Same (hid N H) (hid N H') := fun q o e => hid_get (hid_some e).1 (s _ _ (hid_some e).2)
theorem hid_no {H : Hp} : Same H (hid (fun _ => false) H) := fun q o e => hid_get rfl e
theorem hid_in {N : Addr → Bool} {G G' : Hp} {D : Addr} (n : G D = none) (s : Same G G') : Same (hid N G) (hid (plus N D) G') := fun q o hq => by
  obtain ⟨z1, z2⟩ := hid_some hq
  have z3 : q ≠ D := fun z => by
    rw [z, n] at z2
    cases z2
  exact hid_get (by show (N q || decide (q = D)) = false; rw [z1, decide_eq_false z3]; rfl) (s _ _ z2)
theorem hid_out {N : Addr → Bool} {G : Hp} {D : Addr} : Same (hid (plus N D) G) (hid N G) := fun q o hq => by
  obtain ⟨z1, z2⟩ := hid_some hq
  exact hid_get (Bool.or_eq_false_iff.mp z1).1 z2
theorem hid_at_D {N : Addr → Bool} {G : Hp} {D : Addr} {o : HO} : Same (hid (plus N D) G) (hid (plus N D) (upd G D o)) := fun q o' hq => by
  obtain ⟨z1, z2⟩ := hid_some hq
  refine hid_get z1 ?_
  rw [upd_ne (of_decide_eq_false (Bool.or_eq_false_iff.mp z1).2)]
  exact z2
/-! ### tuples as lists, at every depth -/
mutual
def toL : PyData → PyData
  | .list xs => .list (toLA xs)
  | .tuple xs => .list (toLA xs)
  | d => d
def toLA : List PyData → List PyData
  | [] => []
  | x :: xs => toL x :: toLA xs
end
theorem toLA_map : ∀ ds : List PyData, toLA ds = ds.map toL
  | [] => rfl
  | d :: ds => congrArg (toL d :: ·) (toLA_map ds)
theorem dps_snoc {K : PySem.W.Frag} {H : Hp} {xs : List V} {ds : List PyData} {x : V} {d : PyData} (a : DpAll K H xs ds) (b : Dp K H x d) : DpAll K H (xs ++ [x]) (ds ++ [d]) := dps_app a (.cons b .nil)
end Bal

namespace Bal
open PySem PySem.Spec PyProof.Rows L2
/-! ### written things -/
/-- a thing that is made anew, of these data -/
def tD (K : PySem.W.Frag) (d : PyData) : TE := fun _ H Q => ∀ v H', Same H H' → (∀ N, TrN N H → Dp K (hid N H') v d) → Q v H'
def tDs (K : PySem.W.Frag) (ds : List PyData) : TA := fun _ H Q => ∀ vs H', Same H H' → (∀ N, TrN N H → DpAll K (hid N H') vs ds) → Q vs H'
theorem pe_of {X : Cx} {e : Expr} {t t' : TE} (h : PE X e t) (f : ∀ σ H Q, t' σ H Q → t σ H Q) : PE X e t' := ⟨fun pins s σ H Q I q => h.run pins s σ H Q I (f σ H Q q)⟩
theorem pa_of {X : Cx} {es : List Expr} {t t' : TA} (h : PA X es t) (f : ∀ σ H Q, t' σ H Q → t σ H Q) : PA X es t' := ⟨fun pos pins s σ H Q I q => h.run pos pins s σ H Q I (f σ H Q q)⟩
section
variable {X : Cx} {e : Expr} {es : List Expr} {d : PyData} {ds : List PyData} {pos p2 : Pos} {j k : Nat}
theorem pd_non {K : PySem.W.Frag} : PE X (.Constant .none j pos) (tD K .none) := pe_of pe_non fun _ H Q q => q .non H (Same.refl _) fun _ _ => .non
theorem pd_bl {K : PySem.W.Frag} {b : Bool} : PE X (.Constant (.bool b) j pos) (tD K (.bool b)) := pe_of pe_bl fun _ H Q q => q (.bl b) H (Same.refl _) fun _ _ => .bl b
theorem pd_int {K : PySem.W.Frag} {i : Int} : PE X (.Constant (.int i) j pos) (tD K (.int i)) := pe_of pe_int fun _ H Q q => q (.int i) H (Same.refl _) fun _ _ => .int i
theorem pd_str {K : PySem.W.Frag} {x : Str} : PE X (.Constant (.str x) j pos) (tD K (.str x)) := pe_of pe_str fun _ H Q q => q (.str x) H (Same.refl _) fun _ _ => .str x
theorem pd_neg {K : PySem.W.Frag} {i : Int} : PE X (.UnaryOp .USub (.Constant (.int i) j p2) pos) (tD K (.int (-i))) := pe_of (pe_un un_neg pe_int) fun _ H Q q => ⟨i, rfl, q (.int (-i)) H (Same.refl _) fun _ _ => .int (-i)⟩
theorem pd_pow {K : PySem.W.Frag} {a b : Int} {p3 : Pos} (h : 0 ≤ b ∧ b ≤ 1000000 ∧ a.natAbs < 2 ^ 64 := by decide) : PE X (.BinOp (.Constant (.int a) j p2) .Pow (.Constant (.int b) k p3) pos) (tD K (.int (a ^ b.toNat))) :=
  pe_of (pe_op op_pow pe_int pe_int) fun _ H Q q => ⟨a, b, rfl, rfl, h, q _ H (Same.refl _) fun _ _ => .int _⟩
theorem pd_npow {K : PySem.W.Frag} {a b : Int} {p3 p4 : Pos} (h : 0 ≤ b ∧ b ≤ 1000000 ∧ a.natAbs < 2 ^ 64 := by decide) : PE X (.UnaryOp .USub (.BinOp (.Constant (.int a) j p2) .Pow (.Constant (.int b) k p3) p4) pos) (tD K (.int (-(a ^ b.toNat)))) :=
  pe_of (pe_un un_neg (pe_op op_pow pe_int pe_int)) fun _ H Q q => ⟨a, b, rfl, rfl, h, _, rfl, q _ H (Same.refl _) fun _ _ => .int _⟩
theorem pds_nil {K : PySem.W.Frag} : PA X [] (tDs K []) := pa_of pa_nil fun _ H Q q => q [] H (Same.refl _) fun _ _ => .nil
theorem pds_cons {K : PySem.W.Frag} (ha : PE X e (tD K d)) (hr : PA X es (tDs K ds)) (hs : starEach (e :: es) X.env = (false, eval e X.env) :: starEach es X.env := by rfl) : PA X (e :: es) (tDs K (d :: ds)) :=
  pa_of (pa_cons ha hr hs) fun _ H Q q v H1 s1 f1 vs H2 s2 f2 => q (v :: vs) H2 (s1.trans s2) fun N t => .cons (dp_same (hid_sm s2) (f1 N t)) (f2 N (t.same s1))
theorem pd_tup {K : PySem.W.Frag} (h : PA X es (tDs K ds)) (hl : ds.length ≤ sizeLine := by decide) : PE X (.Tuple es k pos) (tD K (.tuple ds)) := pe_of (pe_tup h) fun _ H Q q vs H1 s1 f1 => by
  have l := dps_len (f1 (fun _ => false) TrN.none)
  exact ⟨by rw [l]; exact hl, fun p np => q (.ref p) _ (s1.trans (sm_upd np)) fun N t => .tup (.inl (.inl (hid_get ((t.same s1).ne np) upd_same))) (dps_same (hid_sm (sm_upd np)) (f1 N t))⟩
theorem pd_lst {K : PySem.W.Frag} (h : PA X es (tDs K ds)) (hl : ds.length ≤ sizeLine := by decide) : PE X (.List es pos) (tD K (.list ds)) := pe_of (pe_lst h) fun _ H Q q vs H1 s1 f1 => by
  have l := dps_len (f1 (fun _ => false) TrN.none)
  exact ⟨by rw [l]; exact hl, fun p np => q (.ref p) _ (s1.trans (sm_upd np)) fun N t => .lst (.inl (.inl (hid_get ((t.same s1).ne np) upd_same))) (dps_same (hid_sm (sm_upd np)) (f1 N t))⟩
/-- tuple(range(a, b)), both written -/
theorem pd_rg1 {p3 p4 p5 : Pos} {n : Int} (hc : X.calm = true) (hg : Gl X "tuple") (hm : X.mg "tuple" = none) (hg2 : Gl X "range") (hm2 : X.mg "range" = none) (hn : 0 ≤ n ∧ n ≤ 16777216 := by decide) :
    PE X (.Call (.Name "tuple" p2) [.Call (.Name "range" p3) [.Constant (.int n) j p4] [] p5] [] pos) (tD X.K (.tuple (((List.range n.toNat).map fun i : Nat => (i : Int)).map PyData.int))) :=
  pe_of (pe_tupRg hc hg hm (prg_1 hg2 hm2 pe_int)) fun _ H Q q => ⟨n, rfl, RgOk.of_le (by decide) hn.2 (by decide) hn.1, fun p np => q (.ref p) _ (sm_upd np) fun N t => by
    have e : rgV 0 n = ((List.range n.toNat).map fun i : Nat => (i : Int)).map V.int := by
      unfold rgV
      rw [Int.sub_zero, List.map_map]
      refine List.map_congr_left fun i _ => ?_
      show V.int (0 + (i : Int)) = V.int (i : Int)
      rw [Int.zero_add]
    rw [e]
    exact .tup (.inl (.inl (hid_get (t.ne np) upd_same))) (dps_ints _)⟩
theorem pd_rg2 {p3 p4 p5 p6 : Pos} {m n : Int} (hc : X.calm = true) (hg : Gl X "tuple") (hm : X.mg "tuple" = none) (hg2 : Gl X "range") (hm2 : X.mg "range" = none) (hn : (0 ≤ m ∧ m ≤ 16777216) ∧ 0 ≤ n ∧ n ≤ 16777216 := by decide) :
    PE X (.Call (.Name "tuple" p2) [.Call (.Name "range" p3) [.Constant (.int m) j p4, .Constant (.int n) k p6] [] p5] [] pos) (tD X.K (.tuple (((List.range (n - m).toNat).map fun i : Nat => m + (i : Int)).map PyData.int))) :=
  pe_of (pe_tupRg hc hg hm (prg_2 hg2 hm2 pe_int pe_int)) fun _ H Q q => ⟨m, n, rfl, rfl, RgOk.of_le hn.1.1 hn.2.2 hn.1.2 hn.2.1, fun p np => q (.ref p) _ (sm_upd np) fun N t => by
    have e : rgV m n = ((List.range (n - m).toNat).map fun i : Nat => m + (i : Int)).map V.int := by
      unfold rgV
      rw [List.map_map]
      rfl
    rw [e]
    exact .tup (.inl (.inl (hid_get (t.ne np) upd_same))) (dps_ints _)⟩
end
/-! ### many small things at once -/
def fitB (M S D : Nat) (d : PyData) : Bool := okD M d && (decide (siz d ≤ S) && decide (d.depth ≤ D))
theorem fit_of {M S D : Nat} {d : PyData} (h : fitB M S D d = true) : Fit M S D d := by
  obtain ⟨h1, h2⟩ := Bool.and_eq_true_iff.mp h
  obtain ⟨h2, h3⟩ := Bool.and_eq_true_iff.mp h2
  exact ⟨h1, of_decide_eq_true h2, of_decide_eq_true h3⟩
theorem gv_all {K : PySem.W.Frag} {N : Addr → Bool} {H : Hp} {M S D : Nat} : ∀ {vs : List V} {ds : List PyData}, DpAll K (hid N H) vs ds → ds.all (fitB M S D) = true → ∀ v ∈ vs, Gv K N H M S D v
  | _, _, .nil, _, _, h => nomatch h
  | _, _, .cons a b, e, v, h => by
    obtain ⟨e1, e2⟩ := Bool.and_eq_true_iff.mp (show (fitB M S D _ && List.all _ (fitB M S D)) = true from e)
    rcases List.mem_cons.mp h with z | z
    · rw [z]
      exact ⟨_, a, fit_of e1⟩
    · exact gv_all b e2 v z
theorem Gv.sm {K : PySem.W.Frag} {N : Addr → Bool} {H H' : Hp} {M S D : Nat} {v : V} (h : Gv K N H M S D v) (s : Same H H') : Gv K N H' M S D v := by
  obtain ⟨d, a, f⟩ := h
  exact ⟨d, dp_same (hid_sm s) a, f⟩
theorem Gv.into {K : PySem.W.Frag} {N : Addr → Bool} {H H' : Hp} {M S D : Nat} {v : V} {T : Addr} (h : Gv K N H M S D v) (n : H T = none) (s : Same H H') : Gv K (plus N T) H' M S D v := by
  obtain ⟨d, a, f⟩ := h
  exact ⟨d, dp_same (hid_in n s) a, f⟩
theorem Gv.atD {K : PySem.W.Frag} {N : Addr → Bool} {H : Hp} {M S D : Nat} {v : V} {T : Addr} {o : HO} (h : Gv K (plus N T) H M S D v) : Gv K (plus N T) (upd H T o) M S D v := by
  obtain ⟨d, a, f⟩ := h
  exact ⟨d, dp_same hid_at_D a, f⟩
theorem PotN.trN {N : Addr → Bool} {H : Hp} {p : Addr} {c : Nat} (h : PotN N H p c) : TrN N H := h.tr
theorem PotN.plus {N : Addr → Bool} {H : Hp} {p T : Addr} {c : Nat} {o : HO} (h : PotN N H p c) (e : H T = some o) : PotN (plus N T) H p c := potN_more h e
theorem PotN.putD {N : Addr → Bool} {H : Hp} {p T : Addr} {c : Nat} {o : HO} (h : PotN N H p c) (n : T ≠ p) : PotN N (upd H T o) p c := ⟨h.pot.upd n, h.np, fun q hq => by
  by_cases z : q = T
  · rw [z]
    exact ⟨_, upd_same⟩
  · rw [upd_ne z]
    exact h.tr q hq⟩
theorem fitA_ints {M : Nat} : ∀ ns : List Int, (∀ n ∈ ns, n.natAbs ≤ M) → FitA M ns.length 0 (ns.map PyData.int)
  | [], _ => ⟨fun _ h => (nomatch h), Nat.le_refl _, fun _ h => nomatch h⟩
  | n :: ns, h => by
    have ih := fitA_ints ns fun m hm => h m (List.mem_cons_of_mem _ hm)
    refine ⟨fun d hd => ?_, ?_, fun d hd => ?_⟩
    · rcases List.mem_cons.mp hd with e | e
      · rw [e]
        exact decide_eq_true (h n List.mem_cons_self)
      · exact ih.ok d e
    · show 1 + sizA (ns.map PyData.int) ≤ ns.length + 1
      have := ih.sz
      omega
    · rcases List.mem_cons.mp hd with e | e
      · rw [e]
        exact Nat.le_refl _
      · exact ih.dp d e
theorem fit_ints {M : Nat} {ns : List Int} (h : ∀ n ∈ ns, n.natAbs ≤ M) : Fit M (ns.length + 1) 1 (.tuple (ns.map PyData.int)) := fit_tuple (fitA_ints ns h)
end Bal

namespace Bal
open PySem PySem.Spec PyProof.Rows L2
/-- a loop over anything of n items -/
theorem for_gen {J : It} {n : Nat} {g : TG} {tb : TS} {D : Ends} {σ : L2.St} {H : Hp} (Pv : Nat → L2.St → Hp → Prop) (h0 : Pv 0 σ H) (hgo : ∀ i σ H, i < n → Pv i σ H → J.go i H) (hst : ∀ σ H, Pv n σ H → J.stop n H)
    (hs : ∀ i σ H x H', i < n → Pv i σ H → J.yld i H x H' → g x σ H' fun σ2 H2 => tb { D with nx := Pv (i + 1), ct := Pv (i + 1), bk := D.nx } σ2 H2) (hd : ∀ σ H, Pv n σ H → D.nx σ H) :
    ∃ W : Nat → Nat → L2.St → Hp → Prop, (∃ m, W 0 m σ H) ∧ ∀ i m σ H, W i m σ H →
      (J.stop i H ∧ D.nx σ H) ∨ (J.go i H ∧ ∃ N : L2.St → Hp → Prop, (∀ σ' H', N σ' H' → ∃ m', m' < m ∧ W (i + 1) m' σ' H') ∧ ∀ x H', J.yld i H x H' → g x σ H' fun σ2 H2 => tb { D with nx := N, ct := N, bk := D.nx } σ2 H2) := by
  refine ⟨fun i m σ H => m = n - i ∧ i ≤ n ∧ Pv i σ H, ⟨n, by simp, Nat.zero_le _, h0⟩, ?_⟩
  rintro i m σ H ⟨rfl, hi, p⟩
  by_cases hlt : i < n
  · exact .inr ⟨hgo i σ H hlt p, Pv (i + 1), fun σ' H' p' => ⟨n - (i + 1), by omega, rfl, hlt, p'⟩, fun x H' y => hs i σ H x H' hlt p y⟩
  · have e : i = n := by omega
    subst e
    exact .inl ⟨hst σ H p, hd σ H p⟩
/-! ### boxes: somebody, the least and the greatest number of taller ones ahead -/
abbrev Tri := Int × Nat × Nat
def tri (c : Tri) : PyData := .tuple [.int c.1, .int c.2.1, .int c.2.2]
def boxD (cs : List Tri) : PyData := .tuple (cs.map tri)
structure BoxOk (xs : List Int) (cs : List Tri) : Prop where
  souls : cs.map Prod.fst = xs
  lim : ∀ (j : Nat) (c : Tri), cs[j]? = some c → c.2.1 ≤ c.2.2 ∧ c.2.2 ≤ j
theorem BoxOk.snoc {xs : List Int} {cs : List Tri} {x : Int} {l g : Nat} (b : BoxOk xs cs) (h1 : l ≤ g) (h2 : g ≤ cs.length) : BoxOk (xs ++ [x]) (cs ++ [(x, l, g)]) := by
  refine ⟨by rw [List.map_append, b.souls]; rfl, fun j c hj => ?_⟩
  by_cases h : j < cs.length
  · rw [List.getElem?_append_left h] at hj
    exact b.lim j c hj
  · rw [List.getElem?_append_right (by omega)] at hj
    have e : j = cs.length := by
      have := (List.getElem?_eq_some_iff.mp hj).1
      simp at this
      omega
    subst e
    rw [Nat.sub_self] at hj
    cases (Option.some.inj hj : (x, l, g) = c)
    exact ⟨h1, h2⟩
theorem tri_get {K : PySem.W.Frag} {H : Hp} {v : V} {c : Tri} (h : Dp K H v (tri c)) : ∃ t, v = .ref t ∧ SqT K H t [.int c.1, .int c.2.1, .int c.2.2] := by
  unfold tri at h
  cases h with
  | @tup t ys _ hy ay =>
    refine ⟨t, rfl, ?_⟩
    cases ay with
    | cons a1 r1 => cases r1 with
      | cons a2 r2 => cases r2 with
        | cons a3 r3 =>
          cases r3
          cases a1
          cases a2
          cases a3
          exact hy
theorem box_get {K : PySem.W.Frag} {H : Hp} {g : Addr} {cs : List Tri} (h : Dp K H (.ref g) (boxD cs)) : ∃ zs, SqT K H g zs ∧ zs.length = cs.length ∧ ∀ (i : Nat) (v : V), zs[i]? = some v → ∃ c t, cs[i]? = some c ∧ v = .ref t ∧ SqT K H t [.int c.1, .int c.2.1, .int c.2.2] := by
  unfold boxD at h
  cases h with
  | tup hx ax =>
    refine ⟨_, hx, by rw [dps_len ax, List.length_map], fun i v hv => ?_⟩
    obtain ⟨d, hd, dd⟩ := dps_get ax hv
    rw [List.getElem?_map] at hd
    cases hc : cs[i]? with
    | none =>
      rw [hc] at hd
      cases hd
    | some c =>
      rw [hc] at hd
      cases (Option.some.inj hd : tri c = d)
      obtain ⟨t, e, ht⟩ := tri_get dd
      exact ⟨c, t, rfl, e, ht⟩
end Bal

namespace Bal
open PySem PySem.Spec PyProof.Rows L2
/-- a op1 b op2 c op3 d -/
def tChain3 (r1 r2 r3 : R2) (ta tb tc td : TE) : TE := fun σ H Q => ta σ H fun x H1 => tb σ H1 fun y H2 => r1 x y H2 fun z H3 => ∃ k, z = .bl k ∧ (if k = true then tc σ H3 fun u H4 => r2 y u H4 fun z' H5 => ∃ k', z' = .bl k' ∧ (if k' = true then td σ H5 fun w H6 => r3 u w H6 Q else Q (.bl false) H5) else Q (.bl false) H3)
theorem pe_chain3 {X : Cx} {a b c d : Expr} {ta tb tc td : TE} {pos : Pos} {o1 o2 o3 : CmpOp} {r1 r2 r3 : R2} (h1 : OpR X (compareOp o1) r1) (h2 : OpR X (compareOp o2) r2) (h3 : OpR X (compareOp o3) r3) (ha : PE X a ta) (hb : PE X b tb) (hc : PE X c tc) (hd : PE X d td)
    (hm : lastMarks [o1, o2, o3] [b, c, d] = false := by with_unfolding_all rfl) : PE X (.Compare a [o1, o2, o3] [b, c, d] pos) (tChain3 r1 r2 r3 ta tb tc td) := by
  refine ⟨fun pins s σ H Q I h => Compare_chain (thn (ha.run pins s σ H _ I h) fun v s1 ⟨x, H1, I1, q1, z1⟩ => chain_link (thn (hb.run pins s1 σ H1 _ I1 z1) fun u s2 ⟨y, H2, I2, q2, z2⟩ => thn (h1 pins s2 σ H2 x y v u _ I2 q1 q2 z2) fun e s3 ⟨z, H3, I3, q3, k, ek, z3⟩ => ?_)) hm⟩
  subst ek; cases q3
  refine wpAny_truthy_bool ?_
  cases k with
  | false => exact ite_ff ⟨.bl false, H3, I3, rfl, z3⟩
  | true =>
    refine ite_tt (chain_link (thn (hc.run pins s3 σ H3 _ I3 z3) fun w s4 ⟨y', H4, I4, q4, z4⟩ => thn (h2 pins s4 σ H4 y y' u w _ I4 q2 q4 z4) fun e s5 ⟨z, H5, I5, q5, k', ek', z5⟩ => ?_))
    subst ek'; cases q5
    refine wpAny_truthy_bool ?_
    cases k' with
    | false => exact ite_ff ⟨.bl false, H5, I5, rfl, z5⟩
    | true => exact ite_tt (chain_last (thn (hd.run pins s5 σ H5 _ I5 z5) fun w' s6 ⟨z', H6, I6, q6, z6⟩ => h3 pins s6 σ H6 y' z' w w' Q I6 q4 q6 z6))
end Bal

namespace Bal
open PySem PySem.Spec PyProof.Rows L2
def topS (i : Nat) : Stmt := PySem.Challenge.pw_balconyrow_k10_what_boxes_are.main.body.getD i (.Pass ⟨0, 0, 0, 0⟩)
section
variable {P : Program} {w : World} {K : PySem.W.Frag} {mg : Str → Option Value} {base : Heap}
/-! ### numbers, no truths -/
def numD (d : PyData) : Bool := isInt d && !isBool d
def intD : PyData → Int | .int i => i | _ => 0
theorem num_int {d : PyData} (h : numD d = true) : d = .int (intD d) := by
  cases d <;> first | rfl | cases h
theorem num_v {H : Hp} {d : PyData} {x : V} (hd : Dp K H x d) (h : numD d = true) : x = .int (intD d) := by
  cases hd with
  | int i => rfl
  | _ => cases h
theorem nums_v {H : Hp} : ∀ {ds : List PyData} {xs : List V}, DpAll K H xs ds → ds.all numD = true → xs = (ds.map intD).map V.int
  | _, _, .nil, _ => rfl
  | _, _, .cons a b, h => by
    obtain ⟨h1, h2⟩ := Bool.and_eq_true_iff.mp (show (numD _ && List.all _ numD) = true from h)
    rw [num_v a h1, nums_v b h2]
    rfl
def spNum (K : PySem.W.Frag) : Sp := fun vs H Q _ => ∃ (x : V) (d : PyData), vs = [x] ∧ Dp K H x d ∧ Q (.bl (numD d)) H
theorem take_map {α β : Type} (f : α → β) (l : List α) (i : Nat) {x : α} (h : l[i]? = some x) : (l.take (i + 1)).map f = (l.take i).map f ++ [f x] := by
  rw [List.take_add_one, h, List.map_append]
  rfl
/-- asked of a thing, told a truth -/
def spAsk (K : PySem.W.Frag) (f : PyData → Bool) : Sp := fun vs H Q _ => ∃ (x : V) (d : PyData), vs = [x] ∧ Dp K H x d ∧ siz d ≤ 900 ∧ SeqAt.shaped d = true ∧ ∀ H', Same H H' → Q (.bl (f d)) H'
theorem tup_len {H : Hp} {ds : List PyData} {xs : List V} (ax : DpAll K H xs ds) (h : siz (.tuple ds) ≤ 900) : xs.length ≤ 900 := by
  have h1 := dps_len ax
  have h2 := len_sizA ds
  have h3 : sizA ds + 1 ≤ 900 := h
  omega
theorem mapIdx_take {α β : Type} (f : Nat → α → β) (l : List α) (i : Nat) {x : α} (h : l[i]? = some x) : (l.take (i + 1)).mapIdx f = (l.take i).mapIdx f ++ [f i x] := by
  have hi : i < l.length := (List.getElem?_eq_some_iff.mp h).1
  rw [List.take_add_one, h, List.mapIdx_append]
  simp [List.length_take, Nat.min_eq_left (Nat.le_of_lt hi)]
theorem eqv_nil (ds : List PyData) : PyData.eqv (.tuple ds) (.tuple []) = decide (ds.length = 0) := by
  cases ds with
  | nil => rfl
  | cons d r => rfl
theorem get_int {ns : List Int} {i : Nat} {y : V} (ey : (ns.map V.int)[i]? = some y) : ∃ z, ns[i]? = some z ∧ V.int z = y := by
  rw [List.getElem?_map] at ey
  cases e : ns[i]? with
  | none => rw [e] at ey; cases ey
  | some z => rw [e] at ey; exact ⟨z, rfl, Option.some.inj ey⟩
theorem cut_upto (xs : List V) (i : Nat) (h : i ≤ xs.length) : cutV xs none (some (i : Int)) = xs.take i := by
  unfold cutV
  rw [HT.sIx_none, HT.sIx_nat, Nat.min_eq_left h, Nat.sub_zero, List.drop_zero]
abbrev sPot : Stmt := topS 8
theorem scPot : FnScope ["_law_script", "_law_k", "_law_cell"] ["_law_script", "_law_k"] (defScope sPot) := ⟨rfl, rfl, rfl, by decide +kernel, rfl, by decide +kernel, by decide +kernel⟩
/-! ### _law_pot -/
def spPot (K : PySem.W.Frag) : Sp := fun vs H Q _ => ∃ (a : Addr) (ns : List Int) (k : Nat), vs = [.ref a, .int k] ∧ SqL K H a (ns.map V.int) ∧ k ≤ 1000 ∧
  ∀ p o, H p = none → PotO 0 o → Q (.ref p) (upd H p o)
theorem pot_ok (x x1 : Int) (h : 0 ≤ x) : PotO 0 (.lst [.int x, .int (x1 % 2147483399), .int 0]) :=
  ⟨_, _, _, rfl, h, (fmod_lt (by omega)).1, by have := (fmod_lt (a := x1) (b := 2147483399) (by omega)).2; omega, by omega, by omega⟩
theorem ok_pot {f : Addr} {fd : FuncData} {k : Nat} (F : Fun K "_law_pot" "_law_pot" sPot f fd) (ml : mg "len" = none) (ma : mg "abs" = none) (mi : mg "int" = none) : FnOk P w K mg base CX0 (k + 1) f fd ["_law_script", "_law_k"] (spPot K) := by
  refine F.ok scPot (fun vs H Q E h => ?_) (fun cdv A outer s H vs Q E hr h => ?_)
  · obtain ⟨a, ns, k, rfl, _⟩ := h
    rfl
  · obtain ⟨a, ns, k, rfl, hS, hk, q⟩ := h
    refine ⟨_, pss_cons (ps_set (i := 2) scPot.nd rfl (.inl rfl) pe_int)
      (pss_cons (ps_if (pt_cmpR op_lt (pv 1) (pe_callB call_len_seq (by rfl) ml PySem.boot_len (pa_cons (pv 0) pa_nil)) (nomark _))
        (pss_one (ps_set (i := 2) scPot.nd rfl (.inl rfl) (pe_ix ix_list (pv 0) (pv 1) (fun _ _ => rfl)))) pss_nil)
      (pss_one (ps_ret (pe_lst (pa_cons (pe_op op_mul (pe_callB call_abs (by rfl) ma (by decide +kernel) (pa_cons (pv 2) pa_nil))
          (pe_callTy call_int1 (by rfl) mi (by decide +kernel) (pa_cons (pe_cmpR op_ge (pe_callB call_abs (by rfl) ma (by decide +kernel) (pa_cons (pv 2) pa_nil)) (pe_op op_pow pe_int pe_int) (nomark _)) pa_nil)))
        (pa_cons (pe_op op_mod (pe_op op_mul (pe_op op_add (pe_op op_add (pe_op op_mod (pv 2) pe_int) (pe_op op_mul pe_int (pv 1))) pe_int) pe_int) pe_int)
        (pa_cons pe_int pa_nil))))))), ?_⟩
    refine ⟨.int k, rfl, .ref a, rfl, a, _, rfl, .inl hS, _, _, rfl, rfl, _, rfl, ite2 (fun e => ?a) (fun e => ?b)⟩
    case' a =>
      have e := of_decide_eq_true e
      rw [List.length_map] at e
      have hk' : k < ns.length := by omega
      refine ⟨.ref a, rfl, .int k, rfl, a, _, k, .int ns[k], rfl, rfl, hS, atI_nat (by rw [List.getElem?_map, List.getElem?_eq_getElem hk']; rfl), ?_⟩
    all_goals
      refine ⟨_, rfl, _, rfl, _, rfl, _, rfl, 10, 18, rfl, rfl, ⟨by decide, by decide, by decide⟩, _, _, rfl, rfl, .inr ⟨_, rfl, _, _, rfl, rfl, .inr (one_bd _), ?_⟩⟩
      refine ⟨_, rfl, _, _, rfl, rfl, (by show (0 : Int) < 2147483587; decide), .int k, rfl, _, _, rfl, rfl, .inl ⟨by decide, by decide⟩, _, _, rfl, rfl, _, _, rfl, rfl, _, _, rfl, rfl, .inr ⟨by decide, by decide⟩, _, _, rfl, rfl, (by show (0 : Int) < 2147483399; decide), ?_⟩
      exact ⟨by show 3 ≤ sizeLine; decide, fun p np => q p _ np (pot_ok _ _ (Int.mul_nonneg (abs_nn _) (one_nn _)))⟩
abbrev sTake : Stmt := topS 9
theorem scTake : FnScope ["_law_pot_here", "_law_bound", "_law_found", "_law_once"] ["_law_pot_here", "_law_bound"] (defScope sTake) := ⟨rfl, rfl, rfl, by decide +kernel, rfl, by decide +kernel, by decide +kernel⟩
/-! ### _law_take -/
def spTake : Sp := fun vs H Q _ => ∃ (p : Addr) (b : Int) (c : Nat), vs = [.ref p, .int b] ∧ Pot H p c ∧ c ≤ 1000000 ∧ 0 < b ∧ b ≤ 10000000 ∧
  ∀ (r : Nat) (o : HO), (r : Int) < b → PotO (c + 1) o → Q (.int r) (upd H p o)
theorem ok_take {f : Addr} {fd : FuncData} {k : Nat} (F : Fun K "_law_take" "_law_take" sTake f fd) : FnOk P w K mg base CX0 (k + 1) f fd ["_law_pot_here", "_law_bound"] spTake := by
  refine F.ok scTake (fun vs H Q E h => ?_) (fun cdv A outer s H vs Q E hr h => ?_)
  · obtain ⟨a, b, k, rfl, _⟩ := h
    rfl
  · obtain ⟨p, b, c, rfl, ⟨o, hp, x0, x1, x2, rfl, h0, h1, h1', h2, h2'⟩, hc, hb, hb', q⟩ := h
    have nn : ∀ z : Int, ∃ r : Nat, z % b = r ∧ (r : Int) < b := fun z => ⟨(z % b).toNat, by have := (fmod_lt (a := z) hb).1; omega, by have := fmod_lt (a := z) hb; omega⟩
    refine ⟨_, pss_cons (ps_if (pt_cmpR op_gt (pe_ix ix_list (pv 0) pe_int (fun _ _ => rfl)) pe_int (nomark _))
        (pss_cons (ps_set (i := 2) scTake.nd rfl (.inl rfl) (pe_op op_mod (pe_ix ix_list (pv 0) pe_int (fun _ _ => rfl)) (pv 1)))
        (pss_cons (ps_asg (pe_op op_fdivN (pe_ix ix_list (pv 0) pe_int (fun _ _ => rfl)) (pv 1)) (pg_sub (pv 0) pe_int set_list))
        (pss_one (ps_ret (pv 2))))) pss_nil)
      (pss_cons (ps_if (pt_cmpR op_gt (pv 1) (pe_op op_pow pe_int pe_int) (nomark _)) (pss_one ps_never) pss_nil)
      (pss_cons (ps_asg (pe_op op_add (pe_ix ix_list (pv 0) pe_int (fun _ _ => rfl)) pe_int) (pg_sub (pv 0) pe_int set_list))
      (pss_cons (ps_set (i := 3) scTake.nd rfl (.inl rfl) (pe_op op_mod (pe_op op_pow (pe_op op_add (pe_ix ix_list (pv 0) pe_int (fun _ _ => rfl)) (pe_op op_mul pe_int (pe_ix ix_list (pv 0) pe_int (fun _ _ => rfl)))) pe_int) pe_int))
      (pss_one (ps_ret (pe_op op_mod (pe_op op_fdiv (pe_op op_mod (pe_op op_add (pe_op op_mul (pv 3) (pe_op op_add (pe_op op_mod (pv 3) pe_int) pe_int)) (pe_op op_mul (pe_ix ix_list (pv 0) pe_int (fun _ _ => rfl)) pe_int)) pe_int) pe_int) (pv 1))))))), ?_⟩
    have gp : SqL K H p [.int x0, .int x1, .int x2] := .inl (.inl hp)
    refine ⟨.ref p, rfl, p, _, 0, .int x0, rfl, rfl, gp, atI_nat (j := 0) rfl, _, _, rfl, rfl, _, rfl, ite2 (fun e => ?_) (fun e => ?_)⟩
    · -- out of the great number
      refine ⟨.ref p, rfl, p, _, 0, .int x0, rfl, rfl, gp, atI_nat (j := 0) rfl, .int b, rfl, _, _, rfl, rfl, hb, ?_⟩
      refine ⟨.ref p, rfl, p, _, 0, .int x0, rfl, rfl, gp, atI_nat (j := 0) rfl, .int b, rfl, _, _, rfl, rfl, ⟨by omega, by omega⟩, ?_⟩
      refine ⟨.ref p, rfl, p, _, 0, 0, rfl, rfl, hp, rfl, ?_⟩
      refine ⟨_, rfl, ?_⟩
      obtain ⟨r, er, lr⟩ := nn x0
      refine q_eq (congrArg V.int er) (q r _ lr ⟨_, _, _, rfl, ?_, h1, h1', h2, by omega⟩)
      rw [Int.fdiv_eq_ediv_of_nonneg _ (by omega)]
      exact Int.ediv_nonneg h0 (by omega)
    · refine ⟨.int b, rfl, 10, 7, rfl, rfl, ⟨by decide, by decide, by decide⟩, _, _, rfl, rfl, _, rfl, ite2 (fun e => ?_) (fun e => ?_)⟩
      · have e := of_decide_eq_true e
        have z : (10 : Int) ^ (7 : Int).toNat = 10000000 := by decide
        rw [z] at e
        omega
      · refine ⟨.ref p, rfl, p, _, 2, .int x2, rfl, rfl, gp, atI_nat (j := 2) rfl, _, _, rfl, rfl, ?_⟩
        refine ⟨.ref p, rfl, p, _, 2, 2, rfl, rfl, hp, rfl, ?_⟩
        have hp2 : (upd H p (.lst ([V.int x0, .int x1, .int x2].set 2 (.int (x2 + 1))))) p = some (.lst [.int x0, .int x1, .int (x2 + 1)]) := upd_same
        have gp2 : SqL K (upd H p (.lst ([V.int x0, .int x1, .int x2].set 2 (.int (x2 + 1))))) p [.int x0, .int x1, .int (x2 + 1)] := .inl (.inl hp2)
        refine ⟨.ref p, rfl, p, _, 1, .int x1, rfl, rfl, gp2, atI_nat (j := 1) rfl, .ref p, rfl, p, _, 2, .int (x2 + 1), rfl, rfl, gp2, atI_nat (j := 2) rfl, _, _, rfl, rfl, .inl ⟨by decide, by decide⟩, _, _, rfl, rfl, _, _, rfl, rfl, ⟨by decide, by decide, ?_⟩, _, _, rfl, rfl, (by show (0 : Int) < 2147483563; decide), ?_⟩
        · omega
        · have hz : ∀ z : Int, -(2 ^ 64) < z % 2147483563 ∧ z % 2147483563 < 2 ^ 64 := fun z => ⟨Int.lt_of_lt_of_le (by decide) (fmod_lt (by decide)).1, Int.lt_trans (fmod_lt (by decide)).2 (by decide)⟩
          refine ⟨_, rfl, _, rfl, _, _, rfl, rfl, (by show (0 : Int) < 40013; decide), _, _, rfl, rfl, _, _, rfl, rfl, .inl (hz _), .ref p, rfl, p, _, 2, .int (x2 + 1), rfl, rfl, gp2, atI_nat (j := 2) rfl, _, _, rfl, rfl, .inr ⟨by decide, by decide⟩, _, _, rfl, rfl, _, _, rfl, rfl, (by show (0 : Int) < 2147483647; decide), _, _, rfl, rfl, ⟨by decide, by decide⟩, .int b, rfl, _, _, rfl, rfl, hb, ?_⟩
          obtain ⟨r, er, lr⟩ := nn (((x1 + 52774 * (x2 + 1)) ^ (3 : Int).toNat % 2147483563 * ((x1 + 52774 * (x2 + 1)) ^ (3 : Int).toNat % 2147483563 % 40013 + 11) + (x2 + 1) * 6089) % 2147483647 / 32)
          exact q_eq (congrArg V.int er) (q r _ lr ⟨_, _, _, rfl, h0, h1, h1', by omega, by omega⟩)
abbrev sPick : Stmt := topS 10
theorem scPick : FnScope ["_law_pot_here", "_law_some"] ["_law_pot_here", "_law_some"] (defScope sPick) := ⟨rfl, rfl, rfl, by decide +kernel, rfl, by decide +kernel, by decide +kernel⟩
/-! ### _law_pick -/
def spPick (K : PySem.W.Frag) : Sp := fun vs H Q _ => ∃ (p a : Addr) (xs : List V) (c : Nat), vs = [.ref p, .ref a] ∧ Pot H p c ∧ c ≤ 1000000 ∧ SqL K H a xs ∧ a ≠ p ∧ 0 < xs.length ∧ xs.length ≤ 10000000 ∧
  ∀ (v : V) (o : HO), v ∈ xs → PotO (c + 1) o → Q v (upd H p o)
theorem ok_pick {f fT : Addr} {fd fdT : FuncData} {k : Nat} (F : Fun K "_law_pick" "_law_pick" sPick f fd) (FT : Fun K "_law_take" "_law_take" sTake fT fdT) (bT : Binds K fdT ["_law_pot_here", "_law_bound"] []) (gT : mg "_law_take" = some (.ref fT)) (ml : mg "len" = none) :
    FnOk P w K mg base CX0 (k + 2) f fd ["_law_pot_here", "_law_some"] (spPick K) := by
  have GT : FnOk P w K mg base CX0 (k + 1) fT fdT ["_law_pot_here", "_law_bound"] spTake := ok_take FT
  refine F.ok scPick (fun vs H Q E h => ?_) (fun cdv A outer s H vs Q E hr h => ?_)
  · obtain ⟨p, a, xs, c, rfl, _⟩ := h
    rfl
  · obtain ⟨p, a, xs, c, rfl, hP, hc, hS, na, l0, l1, q⟩ := h
    refine ⟨_, pss_one (ps_ret (pe_ix ix_list (pv 1) (pe_call GT hr (by rfl) gT FT.kp bT .nil pass0 (pa_cons (pv 0) (pa_cons (pe_callB call_len_seq (by rfl) ml PySem.boot_len (pa_cons (pv 1) pa_nil)) pa_nil))) (fun _ _ => rfl))), ?_⟩
    refine ⟨.ref a, rfl, .ref p, rfl, .ref a, rfl, a, xs, rfl, .inl hS, p, xs.length, c, rfl, hP, hc, by omega, by omega, fun r o lr ho => ?_⟩
    have lr' : r < xs.length := by omega
    exact ⟨a, xs, r, xs[r], rfl, rfl, But.of_upd.sqL na hS, atI_nat (List.getElem?_eq_getElem lr'), q _ o (List.getElem_mem lr') ho⟩
abbrev sSame : Stmt := topS 11
theorem scSame : FnScope ["_law_found", "_law_due", "_law_lone", "_law_mate"] ["_law_found", "_law_due"] (defScope sSame) := ⟨rfl, rfl, rfl, by decide +kernel, rfl, by decide +kernel, by decide +kernel⟩
/-! ### _law_same -/
def spSame (K : PySem.W.Frag) (n : Nat) : Sp := fun vs H Q _ => ∃ (x y : V) (d : PyData), vs = [x, y] ∧ Dp K H x d ∧ Dp K H y d ∧ d.depth ≤ n ∧ smallD d = true ∧ ∀ H', Same H H' → Q (.bl true) H'
theorem same_step {f : Addr} {fd : FuncData} (F : Fun K "_law_same" "_law_same" sSame f fd) (bS : Binds K fd ["_law_found", "_law_due"] []) (gS : mg "_law_same" = some (.ref f))
    (ml : mg "len" = none) (mli : mg "list" = none) (mt : mg "tuple" = none) (mi : mg "int" = none) (mb : mg "bool" = none) (ms : mg "str" = none) (mis : mg "isinstance" = none) (mz : mg "zip" = none) (ma : mg "all" = none)
    {j n : Nat} {sp0 : Sp} (GS : FnOk P w K mg base CX0 j f fd ["_law_found", "_law_due"] sp0) (h0 : ∀ x y d H Q E, Dp K H x d → Dp K H y d → d.depth < n → smallD d = true → (∀ H', Same H H' → Q (.bl true) H') → sp0 [x, y] H Q E) :
    FnOk P w K mg base CX0 (j + 1) f fd ["_law_found", "_law_due"] (spSame K n) := by
  refine F.ok scSame (fun vs H Q E h => ?_) (fun cdv A outer s H vs Q E hr h => ?_)
  · obtain ⟨x, y, d, rfl, _⟩ := h
    rfl
  · obtain ⟨x, y, d, rfl, dx, dy, hd, hsm, q⟩ := h
    refine ⟨_, pss_cons (ps_if (pt_val (pe_callB call_isiT (by rfl) mis (by decide +kernel) (pa_cons (pv 1) (pa_cons (pe_tup (pa_cons (pe_bltn (v := .ty "list") (by rfl) mli (by decide +kernel) rfl) (pa_cons (pe_bltn (v := .ty "tuple") (by rfl) mt (by decide +kernel) rfl) pa_nil))) pa_nil))))
        (pss_cons (ps_if (PW.pt (pw_or (pt_cmpR op_ne (pe_callB call_isi (by rfl) mis (by decide +kernel) (pa_cons (pv 0) (pa_cons (pe_bltn (v := .ty "list") (by rfl) mli (by decide +kernel) rfl) pa_nil))) (pe_callB call_isi (by rfl) mis (by decide +kernel) (pa_cons (pv 1) (pa_cons (pe_bltn (v := .ty "list") (by rfl) mli (by decide +kernel) rfl) pa_nil))) (nomark _))
            (pw_or1 (pt_cmpR op_ne (pe_callB call_isi (by rfl) mis (by decide +kernel) (pa_cons (pv 0) (pa_cons (pe_bltn (v := .ty "tuple") (by rfl) mt (by decide +kernel) rfl) pa_nil))) (pe_callB call_isi (by rfl) mis (by decide +kernel) (pa_cons (pv 1) (pa_cons (pe_bltn (v := .ty "tuple") (by rfl) mt (by decide +kernel) rfl) pa_nil))) (nomark _)))))
          (pss_one (ps_ret pe_bl)) pss_nil)
        (pss_one (ps_ret (pe_and (pe_cmpR op_eq (pe_callB call_len_seq (by rfl) ml PySem.boot_len (pa_cons (pv 0) pa_nil)) (pe_callB call_len_seq (by rfl) ml PySem.boot_len (pa_cons (pv 1) pa_nil)) (nomark _))
          (pe_one (pe_callB (cr_all rfl) (by rfl) ma (by decide +kernel) (pa_cons (pe_lc (own := [("_law_lone", 2), ("_law_mate", 3)]) (g := gTup K 2 (gCons (gName 2) (gCons (gName 3) gNil))) (tt := tYes) (by rfl) scSame.nd (RZ.pi_zipA (by rfl) mz (pa_cons (pv 0) (pa_cons (pv 1) pa_nil)))
            (blkOk_by (own := [("_law_lone", 2), ("_law_mate", 3)]) (N := ["_law_found", "_law_due", "_law_lone", "_law_mate"]) (sc := defScope sSame) (by decide +kernel))
            (fun _ _ _ _ _ => by exact pg_tup rfl (pgs_cons (pg_name (i := 2) scSame.nd rfl (Or.inl rfl) (.inr rfl)) (pgs_cons (pg_name (i := 3) scSame.nd rfl (Or.inl rfl) (.inr rfl)) pgs_nil)))
            (fun _ _ _ _ _ => pts_nil)
            (fun _ _ _ _ _ => pe_call GS hr (by rfl) gS F.kp bS .nil pass0 (pa_cons (pv 2) (pa_cons (pv 3) pa_nil)))) pa_nil))))))) pss_nil)
      (pss_cons (ps_if (PW.pt (pw_or (pt_cmpR op_isN (pv 1) pe_non (nomark _)) (pw_or1 (pt_val (pe_callB call_isi (by rfl) mis (by decide +kernel) (pa_cons (pv 1) (pa_cons (pe_bltn (v := .ty "str") (by rfl) ms (by decide +kernel) rfl) pa_nil)))))))
        (pss_one (ps_ret (pe_and (pe_cmpR op_eq (pv 0) (pv 1) (nomark _)) (pe_one (pe_cmpR op_eq (pe_callB call_isi (by rfl) mis (by decide +kernel) (pa_cons (pv 0) (pa_cons (pe_bltn (v := .ty "str") (by rfl) ms (by decide +kernel) rfl) pa_nil))) (pe_callB call_isi (by rfl) mis (by decide +kernel) (pa_cons (pv 1) (pa_cons (pe_bltn (v := .ty "str") (by rfl) ms (by decide +kernel) rfl) pa_nil))) (nomark _)))))) pss_nil)
      (pss_one (ps_ret (pe_and (pe_callB call_isi (by rfl) mis (by decide +kernel) (pa_cons (pv 0) (pa_cons (pe_bltn (v := .ty "int") (by rfl) mi (by decide +kernel) rfl) pa_nil)))
        (pe_and (pe_cmpR op_eq (pe_callB call_isi (by rfl) mis (by decide +kernel) (pa_cons (pv 0) (pa_cons (pe_bltn (v := .ty "bool") (by rfl) mb (by decide +kernel) rfl) pa_nil))) (pe_callB call_isi (by rfl) mis (by decide +kernel) (pa_cons (pv 1) (pa_cons (pe_bltn (v := .ty "bool") (by rfl) mb (by decide +kernel) rfl) pa_nil))) (nomark _))
        (pe_one (pe_cmpR op_eq (pv 0) (pv 1) (nomark _)))))))), ?_⟩
    -- isinstance(due, (list, tuple))
    refine ⟨y, rfl, by show 2 ≤ sizeLine; decide, fun tp ntp => ?_⟩
    have s1 : Same H (upd H tp (.tup [.ty "list", .ty "tuple"])) := sm_upd ntp
    have dx1 := dp_same s1 dx
    have dy1 := dp_same s1 dy
    have htp : upd H tp (.tup [.ty "list", .ty "tuple"]) tp = some (.tup [.ty "list", .ty "tuple"]) := upd_same
    generalize upd H tp (.tup [.ty "list", .ty "tuple"]) = H1 at s1 dx1 dy1 htp
    have q1 : ∀ H', Same H1 H' → Q (.bl true) H' := fun H' s' => q H' (s1.trans s')
    cases d with
    | none =>
      have tx : TyX K H1 _ (.type "NoneType") := dp_ty dx1
      have ty : TyX K H1 _ (.type "NoneType") := dp_ty dy1
      cases dx1
      cases dy1
      refine ⟨_, tp, _, _, _, false, rfl, htp, cls2, ty, kA_no (by decide +kernel) (by decide +kernel), _, rfl, iteF ?_⟩
      refine ⟨_, rfl, rfl, _, rfl, iteT (iteT ?_)⟩
      refine ⟨_, rfl, _, rfl, rfl, _, rfl, iteT ?_⟩
      exact ⟨_, rfl, _, .ty "str", _, _, false, rfl, .ty _, tx, kit_ty (by decide +kernel), _, rfl, _, .ty "str", _, _, false, rfl, .ty _, ty, kit_ty (by decide +kernel), rfl, q1 _ (Same.refl _)⟩
    | bool b =>
      have tx : TyX K H1 _ (.type "bool") := dp_ty dx1
      have ty : TyX K H1 _ (.type "bool") := dp_ty dy1
      cases dx1
      cases dy1
      refine ⟨_, tp, _, _, _, false, rfl, htp, cls2, ty, kA_no (by decide +kernel) (by decide +kernel), _, rfl, iteF ?_⟩
      refine ⟨_, rfl, rfl, _, rfl, iteF ?_⟩
      refine ⟨_, rfl, _, .ty "str", _, _, false, rfl, .ty _, ty, kit_ty (by decide +kernel), _, rfl, iteF ?_⟩
      refine ⟨_, rfl, _, .ty "int", _, _, true, rfl, .ty _, tx, kit_ty (by decide +kernel), _, rfl, iteT ?_⟩
      refine ⟨_, rfl, _, .ty "bool", _, _, true, rfl, .ty _, tx, kit_ty (by decide +kernel), _, rfl, _, .ty "bool", _, _, true, rfl, .ty _, ty, kit_ty (by decide +kernel), rfl, _, rfl, iteT ?_⟩
      exact ⟨_, rfl, _, rfl, rfl, q_eq (congrArg V.bl (decide_eq_true rfl)) (q1 _ (Same.refl _))⟩
    | int b =>
      have tx : TyX K H1 _ (.type "int") := dp_ty dx1
      have ty : TyX K H1 _ (.type "int") := dp_ty dy1
      cases dx1
      cases dy1
      refine ⟨_, tp, _, _, _, false, rfl, htp, cls2, ty, kA_no (by decide +kernel) (by decide +kernel), _, rfl, iteF ?_⟩
      refine ⟨_, rfl, rfl, _, rfl, iteF ?_⟩
      refine ⟨_, rfl, _, .ty "str", _, _, false, rfl, .ty _, ty, kit_ty (by decide +kernel), _, rfl, iteF ?_⟩
      refine ⟨_, rfl, _, .ty "int", _, _, true, rfl, .ty _, tx, kit_ty (by decide +kernel), _, rfl, iteT ?_⟩
      refine ⟨_, rfl, _, .ty "bool", _, _, false, rfl, .ty _, tx, kit_ty (by decide +kernel), _, rfl, _, .ty "bool", _, _, false, rfl, .ty _, ty, kit_ty (by decide +kernel), rfl, _, rfl, iteT ?_⟩
      exact ⟨_, rfl, _, rfl, rfl, q_eq (congrArg V.bl (decide_eq_true rfl)) (q1 _ (Same.refl _))⟩
    | str b =>
      have tx : TyX K H1 _ (.type "str") := dp_ty dx1
      have ty : TyX K H1 _ (.type "str") := dp_ty dy1
      cases dx1
      cases dy1
      refine ⟨_, tp, _, _, _, false, rfl, htp, cls2, ty, kA_no (by decide +kernel) (by decide +kernel), _, rfl, iteF ?_⟩
      refine ⟨_, rfl, rfl, _, rfl, iteF ?_⟩
      refine ⟨_, rfl, _, .ty "str", _, _, true, rfl, .ty _, ty, kit_ty (by decide +kernel), _, rfl, iteT ?_⟩
      refine ⟨_, rfl, _, rfl, rfl, _, rfl, iteD rfl ?_⟩
      exact ⟨_, rfl, _, .ty "str", _, _, true, rfl, .ty _, tx, kit_ty (by decide +kernel), _, rfl, _, .ty "str", _, _, true, rfl, .ty _, ty, kit_ty (by decide +kernel), rfl, q1 _ (Same.refl _)⟩
    | dict kvs => cases dx1
    | list ds =>
      have tx : TyX K H1 _ (.type "list") := dp_ty dx1
      have ty : TyX K H1 _ (.type "list") := dp_ty dy1
      obtain ⟨sm1, sm2⟩ := Bool.and_eq_true_iff.mp (show (decide (ds.length ≤ 100000) && smallA ds) = true from hsm)
      have sm1 := of_decide_eq_true sm1
      cases dx1 with
      | @lst a xs _ hx ax =>
      cases dy1 with
      | @lst b ys _ hy ay =>
      have ex := dps_len ax
      have ey := dps_len ay
      refine ⟨_, tp, _, _, _, true, rfl, htp, cls2, ty, kA_lst, _, rfl, iteT ?_⟩
      refine ⟨_, rfl, _, .ty "list", _, _, true, rfl, .ty _, tx, kit_ty (by decide +kernel), _, rfl, _, .ty "list", _, _, true, rfl, .ty _, ty, kit_ty (by decide +kernel), rfl, _, rfl, iteF ?_⟩
      refine ⟨_, rfl, _, .ty "tuple", _, _, false, rfl, .ty _, tx, kit_ty (by decide +kernel), _, rfl, _, .ty "tuple", _, _, false, rfl, .ty _, ty, kit_ty (by decide +kernel), rfl, _, rfl, iteF ?_⟩
      refine ⟨_, rfl, a, xs, rfl, .inl hx, _, rfl, b, ys, rfl, .inl hy, rfl, _, rfl, iteD (by rw [ex, ey]) ?_⟩
      refine ⟨.ref a, rfl, .ref b, rfl, a, b, xs, ys, rfl, .inl ⟨hx, hy, fun D nD => ?_⟩⟩
      refine lc_gen (n := xs.length) (fun i H3 => Same H1 H3 ∧ H3 D = some (.lst ((List.replicate i true).map V.bl))) ⟨sm_upd nD, upd_same⟩ (fun i H3 hi hp => ?_) (fun H3 hp => ?_) (fun i H3 v H4 hi hp hy4 => ?_) (fun H3 hp => ?_)
      · have hi2 : i < ys.length := by omega
        exact ⟨xs, ys, xs[i], ys[i], hp.1.seq hx, hp.1.seq hy, List.getElem?_eq_getElem hi, List.getElem?_eq_getElem hi2⟩
      · exact ⟨xs, ys, hp.1.seq hx, hp.1.seq hy, .inl (Nat.le_refl _)⟩
      · obtain ⟨T, x1, y1, rfl, nT, rfl, f1, f2⟩ := hy4
        have e1 := f1 xs (hp.1.seq hx)
        have e2 := f2 ys (hp.1.seq hy)
        obtain ⟨d1, g1, p1⟩ := dps_get ax e1
        obtain ⟨d2, g2, p2⟩ := dps_get ay e2
        rw [g1] at g2
        cases g2
        have s4 : Same H1 (upd H3 T (.tup [x1, y1])) := hp.1.trans (sm_upd nT)
        refine ⟨T, [x1, y1], rfl, .inl (.inl upd_same), rfl, x1, [y1], rfl, y1, [], rfl, rfl, rfl, ?_⟩
        refine ⟨x1, rfl, y1, rfl, h0 _ _ d1 _ _ _ (dp_same s4 p1) (dp_same s4 p2) ?_ (small_get sm2 g1) (fun H5 s5 => ?_)⟩
        · have z1 := dep_get g1
          have z2 : PyData.depthAll ds + 1 ≤ n := hd
          omega
        · have hD : H5 D = some (.lst ((List.replicate i true).map V.bl)) := s5 _ _ (sm_upd nT _ _ hp.2)
          refine ⟨_, hD, ?_, Same.put (s4.trans s5) nD, ?_⟩
          · rw [List.length_map, List.length_replicate]
            exact line_lt (by omega)
          · rw [upd_same, rep_add, List.map_append]
            rfl
      · refine ⟨D, List.replicate xs.length true, rfl, .inl (.inl hp.2), ?_⟩
        exact q_eq (congrArg V.bl (all_rep _)) (q1 _ hp.1)
    | tuple ds =>
      have tx : TyX K H1 _ (.type "tuple") := dp_ty dx1
      have ty : TyX K H1 _ (.type "tuple") := dp_ty dy1
      obtain ⟨sm1, sm2⟩ := Bool.and_eq_true_iff.mp (show (decide (ds.length ≤ 100000) && smallA ds) = true from hsm)
      have sm1 := of_decide_eq_true sm1
      cases dx1 with
      | @tup a xs _ hx ax =>
      cases dy1 with
      | @tup b ys _ hy ay =>
      have ex := dps_len ax
      have ey := dps_len ay
      refine ⟨_, tp, _, _, _, true, rfl, htp, cls2, ty, kA_tup, _, rfl, iteT ?_⟩
      refine ⟨_, rfl, _, .ty "list", _, _, false, rfl, .ty _, tx, kit_ty (by decide +kernel), _, rfl, _, .ty "list", _, _, false, rfl, .ty _, ty, kit_ty (by decide +kernel), rfl, _, rfl, iteF ?_⟩
      refine ⟨_, rfl, _, .ty "tuple", _, _, true, rfl, .ty _, tx, kit_ty (by decide +kernel), _, rfl, _, .ty "tuple", _, _, true, rfl, .ty _, ty, kit_ty (by decide +kernel), rfl, _, rfl, iteF ?_⟩
      refine ⟨_, rfl, a, xs, rfl, .inr hx, _, rfl, b, ys, rfl, .inr hy, rfl, _, rfl, iteD (by rw [ex, ey]) ?_⟩
      refine ⟨.ref a, rfl, .ref b, rfl, a, b, xs, ys, rfl, .inr ⟨hx, hy, fun D nD => ?_⟩⟩
      refine lc_gen (n := xs.length) (fun i H3 => Same H1 H3 ∧ H3 D = some (.lst ((List.replicate i true).map V.bl))) ⟨sm_upd nD, upd_same⟩ (fun i H3 hi hp => ?_) (fun H3 hp => ?_) (fun i H3 v H4 hi hp hy4 => ?_) (fun H3 hp => ?_)
      · have hi2 : i < ys.length := by omega
        exact ⟨xs, ys, xs[i], ys[i], Same.sqT hp.1 hx, Same.sqT hp.1 hy, List.getElem?_eq_getElem hi, List.getElem?_eq_getElem hi2⟩
      · exact ⟨xs, ys, Same.sqT hp.1 hx, Same.sqT hp.1 hy, .inl (Nat.le_refl _)⟩
      · obtain ⟨T, x1, y1, rfl, nT, rfl, f1, f2⟩ := hy4
        have e1 := f1 xs (Same.sqT hp.1 hx)
        have e2 := f2 ys (Same.sqT hp.1 hy)
        obtain ⟨d1, g1, p1⟩ := dps_get ax e1
        obtain ⟨d2, g2, p2⟩ := dps_get ay e2
        rw [g1] at g2
        cases g2
        have s4 : Same H1 (upd H3 T (.tup [x1, y1])) := hp.1.trans (sm_upd nT)
        refine ⟨T, [x1, y1], rfl, .inl (.inl upd_same), rfl, x1, [y1], rfl, y1, [], rfl, rfl, rfl, ?_⟩
        refine ⟨x1, rfl, y1, rfl, h0 _ _ d1 _ _ _ (dp_same s4 p1) (dp_same s4 p2) ?_ (small_get sm2 g1) (fun H5 s5 => ?_)⟩
        · have z1 := dep_get g1
          have z2 : PyData.depthAll ds + 1 ≤ n := hd
          omega
        · have hD : H5 D = some (.lst ((List.replicate i true).map V.bl)) := s5 _ _ (sm_upd nT _ _ hp.2)
          refine ⟨_, hD, ?_, Same.put (s4.trans s5) nD, ?_⟩
          · rw [List.length_map, List.length_replicate]
            exact line_lt (by omega)
          · rw [upd_same, rep_add, List.map_append]
            rfl
      · refine ⟨D, List.replicate xs.length true, rfl, .inl (.inl hp.2), ?_⟩
        exact q_eq (congrArg V.bl (all_rep _)) (q1 _ hp.1)
/-- _law_same is True of the same data, as deep as there is room for -/
theorem ok_same {f : Addr} {fd : FuncData} (F : Fun K "_law_same" "_law_same" sSame f fd) (bS : Binds K fd ["_law_found", "_law_due"] []) (gS : mg "_law_same" = some (.ref f))
    (ml : mg "len" = none) (mli : mg "list" = none) (mt : mg "tuple" = none) (mi : mg "int" = none) (mb : mg "bool" = none) (ms : mg "str" = none) (mis : mg "isinstance" = none) (mz : mg "zip" = none) (ma : mg "all" = none) :
    ∀ n : Nat, FnOk P w K mg base CX0 (n + 2) f fd ["_law_found", "_law_due"] (spSame K n)
  | 0 => same_step F bS gS ml mli mt mi mb ms mis mz ma (j := 1) (sp0 := fun _ _ _ _ => False) ⟨fun _ _ _ _ h => h.elim, fun _ _ _ _ _ _ _ _ _ _ _ _ _ h => h.elim⟩ (fun x y d H Q E _ _ h => absurd h (Nat.not_lt_zero _))
  | n + 1 => same_step F bS gS ml mli mt mi mb ms mis mz ma (ok_same F bS gS ml mli mt mi mb ms mis mz ma n) (fun x y d H Q E dx dy hd hs q => ⟨x, y, d, rfl, dx, dy, Nat.le_of_lt_succ hd, hs, q⟩)
abbrev sTall : Stmt := topS 12
theorem scTall : FnScope ["_law_pot_here", "_law_count", "_law_gap", "_law_level", "_law_found", "_law_k"] ["_law_pot_here", "_law_count"] (defScope sTall) := ⟨rfl, rfl, rfl, by decide +kernel, rfl, by decide +kernel, by decide +kernel⟩
/-! ### _law_tall -/
def spTall : Sp := fun vs H Q _ => ∃ (p : Addr) (n c : Nat), vs = [.ref p, .int n] ∧ Pot H p c ∧ c + n ≤ 900000 ∧ n ≤ 1000 ∧
  ∀ (q : Addr) (H' : Hp) (xs : List Int), H q = none → H' q = some (.lst (xs.map V.int)) → xs.length = n → xs.Pairwise (· > ·) → (∀ x ∈ xs, -2000000000 ≤ x ∧ x ≤ 2000000000) → Pot H' p (c + n + 2) → But p H H' → Q (.ref q) H'
theorem ok_tall {f fT fP : Addr} {fd fdT fdP : FuncData} {k : Nat} (F : Fun K "_law_tall" "_law_tall" sTall f fd) (FT : Fun K "_law_take" "_law_take" sTake fT fdT) (bT : Binds K fdT ["_law_pot_here", "_law_bound"] []) (gT : mg "_law_take" = some (.ref fT))
    (FP : Fun K "_law_pick" "_law_pick" sPick fP fdP) (bP : Binds K fdP ["_law_pot_here", "_law_some"] []) (gP : mg "_law_pick" = some (.ref fP)) (ml : mg "len" = none) (mr : mg "range" = none) :
    FnOk P w K mg base CX0 (k + 3) f fd ["_law_pot_here", "_law_count"] spTall := by
  have GT : FnOk P w K mg base CX0 (k + 1) fT fdT ["_law_pot_here", "_law_bound"] spTake := ok_take FT
  have GP : FnOk P w K mg base CX0 (k + 2) fP fdP ["_law_pot_here", "_law_some"] (spPick K) := ok_pick FP FT bT gT ml
  refine F.ok scTall (fun vs H Q E h => ?_) (fun cdv A outer s H vs Q E hr h => ?_)
  · obtain ⟨p, n, c, rfl, _⟩ := h
    rfl
  · obtain ⟨p, n, c, rfl, hP, hc, hn, q⟩ := h
    have hr1 : Room (k + 1) _ := hr.mono (by omega)
    refine ⟨_, pss_cons (ps_par (i := 2) (j := 3) (by rfl) scTall.nd rfl rfl (by decide) rfl rfl (pa_cons (pe_call GP hr (by rfl) gP FP.kp bP .nil pass0 (pa_cons (pv 0) (pa_cons (pe_lst (pa_cons pe_int (pa_cons pe_int (pa_cons pe_int (pa_cons (pe_op op_pow pe_int pe_int) pa_nil))))) pa_nil)))
        (pa_cons (pe_call GP hr (by rfl) gP FP.kp bP .nil pass0 (pa_cons (pv 0) (pa_cons (pe_lst (pa_cons (pv 1) (pa_cons pe_int (pa_cons (pe_un un_neg pe_int) (pa_cons (pe_op op_sub (pe_op op_pow pe_int pe_int) pe_int) (pa_cons (pe_un un_neg (pe_op op_pow pe_int pe_int)) pa_nil)))))) pa_nil))) pa_nil)) (by rfl))
      (pss_cons (ps_set (i := 4) scTall.nd rfl (.inl rfl) (pe_lst pa_nil))
      (pss_cons (ps_for PassesOwn.never rfl (pi_range1 (by rfl) mr (pa_cons (pv 1) pa_nil)) (pg_name (i := 5) scTall.nd rfl (.inl rfl))
        (pss_cons (ps_expr (pe_bm PySem.F.plainAttrs_list PySem.F.slot_list_append PySem.F.type_list_append mt_append (pv 4) (pa_cons (pv 3) pa_nil)))
        (pss_one (ps_set (i := 3) scTall.nd rfl (.inl rfl) (pe_op op_sub (pe_op op_sub (pv 3) pe_int) (pe_call GT hr1 (by rfl) gT FT.kp bT .nil pass0 (pa_cons (pv 0) (pa_cons (pv 2) pa_nil))))))))
      (pss_one (ps_ret (pv 4))))), ?_⟩
    -- the gap
    refine ⟨.ref p, rfl, 10, 6, rfl, rfl, ⟨by decide, by decide, by decide⟩, by show 4 ≤ sizeLine; decide, fun l1 n1 => ?_⟩
    have s1 : Same H (upd H l1 (.lst [.int 1, .int 1, .int 9, .int (10 ^ (6 : Int).toNat)])) := sm_upd n1
    refine ⟨p, l1, _, c, rfl, hP.same s1, by omega, .inl (.inl upd_same), hP.ne n1, by show 0 < 4; decide, by show 4 ≤ 10000000; decide, fun gv o1 hg ho1 => ?_⟩
    obtain ⟨g, rfl, g1, g2⟩ : ∃ g : Int, gv = .int g ∧ 1 ≤ g ∧ g ≤ 1000000 := by
      have z : (10 : Int) ^ (6 : Int).toNat = 1000000 := by decide
      simp only [z, List.mem_cons, List.not_mem_nil, or_false] at hg
      rcases hg with h | h | h | h <;> exact ⟨_, h, by decide, by decide⟩
    have b1 : But p H (upd (upd H l1 (.lst [.int 1, .int 1, .int 9, .int (10 ^ (6 : Int).toNat)])) p o1) := (But.same s1).trans But.of_upd
    have P1 : Pot (upd (upd H l1 (.lst [.int 1, .int 1, .int 9, .int (10 ^ (6 : Int).toNat)])) p o1) p (c + 1) := ⟨o1, upd_same, ho1⟩
    generalize upd (upd H l1 (.lst [.int 1, .int 1, .int 9, .int (10 ^ (6 : Int).toNat)])) p o1 = H1 at b1 P1
    -- the level
    refine ⟨.ref p, rfl, .int n, rfl, 5, rfl, 10, 9, rfl, rfl, ⟨by decide, by decide, by decide⟩, _, _, rfl, rfl, 10, 8, rfl, rfl, ⟨by decide, by decide, by decide⟩, _, rfl, by show 5 ≤ sizeLine; decide, fun l2 n2 => ?_⟩
    have s2 : Same H1 (upd H1 l2 (.lst [.int n, .int 100, .int (-5), .int (10 ^ (9 : Int).toNat - 40), .int (-(10 ^ (8 : Int).toNat))])) := sm_upd n2
    refine ⟨p, l2, _, c + 1, rfl, P1.same s2, by omega, .inl (.inl upd_same), P1.ne n2, by show 0 < 5; decide, by show 5 ≤ 10000000; decide, fun lv o2 hl ho2 => ?_⟩
    obtain ⟨l0, rfl, la, lb⟩ : ∃ l : Int, lv = .int l ∧ -100000000 ≤ l ∧ l ≤ 1000000000 := by
      have z : (10 : Int) ^ (9 : Int).toNat = 1000000000 := by decide
      have z' : (10 : Int) ^ (8 : Int).toNat = 100000000 := by decide
      simp only [z, z', List.mem_cons, List.not_mem_nil, or_false] at hl
      rcases hl with h | h | h | h | h
      · exact ⟨_, h, by omega, by omega⟩
      all_goals exact ⟨_, h, by decide, by decide⟩
    have b2 : But p H (upd (upd H1 l2 (.lst [.int n, .int 100, .int (-5), .int (10 ^ (9 : Int).toNat - 40), .int (-(10 ^ (8 : Int).toNat))])) p o2) := b1.trans ((But.same s2).trans But.of_upd)
    have P2 : Pot (upd (upd H1 l2 (.lst [.int n, .int 100, .int (-5), .int (10 ^ (9 : Int).toNat - 40), .int (-(10 ^ (8 : Int).toNat))])) p o2) p (c + 2) := ⟨o2, upd_same, ho2⟩
    generalize upd (upd H1 l2 (.lst [.int n, .int 100, .int (-5), .int (10 ^ (9 : Int).toNat - 40), .int (-(10 ^ (8 : Int).toNat))])) p o2 = H2 at b2 P2
    refine ⟨.int g, .int l0, rfl, ?_⟩
    -- found = []
    refine ⟨Nat.zero_le _, fun o no => ?_⟩
    have s3 : Same H2 (upd H2 o (.lst [])) := sm_upd no
    have nop : o ≠ p := P2.ne no
    refine ⟨.int n, rfl, n, rfl, by omega, by omega, for_range (lo := 0) (n := n) (fun i σ H3 => ∃ (lvl : Int) (y5 : Option V) (xs : List Int), σ = [some (.ref p), some (.int n), some (.int g), some (.int lvl), some (.ref o), y5] ∧ H3 o = some (.lst (xs.map V.int)) ∧ xs.length = i ∧ xs.Pairwise (· > ·) ∧
        (∀ x ∈ xs, lvl < x ∧ x ≤ 1000000000) ∧ -100000000 - 1000001 * (i : Int) ≤ lvl ∧ lvl ≤ 1000000000 ∧ Pot H3 p (c + 2 + i) ∧ But p H H3) ⟨l0, none, [], rfl, upd_same, rfl, .nil, (fun _ h => nomatch h), by omega, lb, P2.same s3, b2.trans (But.same s3)⟩ ?_ ?_⟩
    · rintro i σ H3 hi ⟨lvl, y5, xs, rfl, ho, hxl, hpw, hlt, h5, h6, P3, b3⟩
      refine ⟨.ref o, rfl, .inl ⟨rfl, _, .inl (.inl ho)⟩, .int lvl, rfl, o, _, _, rfl, rfl, ho, ?_, ?_⟩
      · rw [List.length_map]
        exact small1000 (by omega)
      · have n0 : H o = none := b2.none nop no
        have b4 : But p H (upd H3 o (.lst (xs.map V.int ++ [.int lvl]))) := b3.put n0
        refine ⟨_, rfl, _, _, rfl, rfl, .ref p, rfl, .int g, rfl, p, g, c + 2 + i, rfl, P3.upd nop, by omega, by omega, by omega, fun r o3 lr ho3 => ?_⟩
        refine ⟨_, _, rfl, rfl, ?_⟩
        refine ⟨lvl - 1 - r, _, xs ++ [lvl], rfl, ?_, by rw [List.length_append, hxl]; rfl, ?_, ?_, by omega, by omega, ⟨o3, upd_same, ho3⟩, b4.putP⟩
        · rw [upd_ne nop, upd_same, List.map_append]
          rfl
        · refine List.pairwise_append.mpr ⟨hpw, List.pairwise_singleton _ _, fun x hx y hy => ?_⟩
          rw [List.mem_singleton] at hy
          rw [hy]
          exact (hlt x hx).1
        · intro x hx
          rcases List.mem_append.mp hx with hx | hx
          · have := hlt x hx
            omega
          · rw [List.mem_singleton] at hx
            omega
    · rintro σ H3 ⟨lvl, y5, xs, rfl, ho, hxl, hpw, hlt, h5, h6, P3, b3⟩
      refine ⟨.ref o, rfl, q o H3 xs (b2.none nop no) ho hxl hpw (fun x hx => ?_) (P3.mono (by omega)) b3⟩
      have := hlt x hx
      omega
abbrev sCage : Stmt := topS 13
theorem scCage : FnScope ["_law_pot_here", "_law_count", "_law_found", "_law_ahead", "_law_soul", "_law_way", "_law_least"] ["_law_pot_here", "_law_count"] (defScope sCage) := ⟨rfl, rfl, rfl, by decide +kernel, rfl, by decide +kernel, by decide +kernel⟩
/-! ### _law_cage -/
def spCage (K : PySem.W.Frag) : Sp := fun vs H Q _ => ∃ (p : Addr) (n c : Nat), vs = [.ref p, .int n] ∧ Pot H p c ∧ c + 5 * n + 10 ≤ 800000 ∧ n ≤ 1000 ∧
  ∀ (g : Addr) (H' : Hp) (xs : List Int) (cs : List Tri), H g = none → BoxOk xs cs → xs.length = n → xs.Pairwise (· > ·) → (∀ x ∈ xs, -2000000000 ≤ x ∧ x ≤ 2000000000) → (∃ zs, TupN H' g zs) → (∀ N, N p = true → TrN N H → Dp K (hid N H') (.ref g) (boxD cs)) → Pot H' p (c + 4 * n + 2) → But p H H' → Q (.ref g) H'
theorem ok_cage {f fT fL fP : Addr} {fd fdT fdL fdP : FuncData} {k : Nat} (F : Fun K "_law_cage" "_law_cage" sCage f fd) (FT : Fun K "_law_take" "_law_take" sTake fT fdT) (bT : Binds K fdT ["_law_pot_here", "_law_bound"] []) (gT : mg "_law_take" = some (.ref fT))
    (FP : Fun K "_law_pick" "_law_pick" sPick fP fdP) (bP : Binds K fdP ["_law_pot_here", "_law_some"] []) (gP : mg "_law_pick" = some (.ref fP)) (FL : Fun K "_law_tall" "_law_tall" sTall fL fdL) (bL : Binds K fdL ["_law_pot_here", "_law_count"] []) (gL : mg "_law_tall" = some (.ref fL)) (ml : mg "len" = none) (mr : mg "range" = none) (mt : mg "tuple" = none) (men : mg "enumerate" = none) :
    FnOk P w K mg base CX0 (k + 4) f fd ["_law_pot_here", "_law_count"] (spCage K) := by
  have GT : FnOk P w K mg base CX0 (k + 1) fT fdT ["_law_pot_here", "_law_bound"] spTake := ok_take FT
  have GL : FnOk P w K mg base CX0 (k + 3) fL fdL ["_law_pot_here", "_law_count"] spTall := ok_tall FL FT bT gT FP bP gP ml mr
  refine F.ok scCage (fun vs H Q E h => ?_) (fun cdv A outer s H vs Q E hr h => ?_)
  · obtain ⟨p, n, c, rfl, _⟩ := h
    rfl
  · obtain ⟨p, n, c, rfl, P0, hc, hn, q⟩ := h
    have hr1 : Room (k + 1) _ := hr.mono (by omega)
    refine ⟨_, pss_cons (ps_set (i := 2) scCage.nd rfl (.inl rfl) (pe_lst pa_nil))
      (pss_cons (ps_for PassesOwn.never rfl (pi_enum (by rfl) men (pa_cons (pe_call GL hr (by rfl) gL FL.kp bL .nil pass0 (pa_cons (pv 0) (pa_cons (pv 1) pa_nil))) pa_nil)) (pg_tup rfl (pgs_cons (pg_name (i := 3) scCage.nd rfl (.inl rfl)) (pgs_cons (pg_name (i := 4) scCage.nd rfl (.inl rfl)) pgs_nil)))
        (pss_cons (ps_par (i := 5) (j := 6) (by rfl) scCage.nd rfl rfl (by decide) rfl rfl (pa_cons (pe_call GT hr1 (by rfl) gT FT.kp bT .nil pass0 (pa_cons (pv 0) (pa_cons pe_int pa_nil))) (pa_cons (pe_call GT hr1 (by rfl) gT FT.kp bT .nil pass0 (pa_cons (pv 0) (pa_cons (pe_op op_add (pv 3) pe_int) pa_nil))) pa_nil)) (by rfl))
        (pss_one (ps_if (pt_cmpR op_eq (pv 5) pe_int (nomark _)) (pss_one (ps_expr (pe_bm PySem.F.plainAttrs_list PySem.F.slot_list_append PySem.F.type_list_append mt_append (pv 2) (pa_cons (pe_tup (pa_cons (pv 4) (pa_cons pe_int (pa_cons (pv 3) pa_nil)))) pa_nil))))
          (pss_one (ps_if (pt_cmpR op_eq (pv 5) pe_int (nomark _)) (pss_one (ps_expr (pe_bm PySem.F.plainAttrs_list PySem.F.slot_list_append PySem.F.type_list_append mt_append (pv 2) (pa_cons (pe_tup (pa_cons (pv 4) (pa_cons (pv 6) (pa_cons (pv 6) pa_nil)))) pa_nil))))
            (pss_one (ps_if (pt_cmpR op_eq (pv 5) pe_int (nomark _)) (pss_one (ps_expr (pe_bm PySem.F.plainAttrs_list PySem.F.slot_list_append PySem.F.type_list_append mt_append (pv 2) (pa_cons (pe_tup (pa_cons (pv 4) (pa_cons (pe_op op_fdiv (pv 3) pe_int) (pa_cons (pe_op op_fdiv (pv 3) pe_int) pa_nil)))) pa_nil))))
              (pss_one (ps_expr (pe_bm PySem.F.plainAttrs_list PySem.F.slot_list_append PySem.F.type_list_append mt_append (pv 2) (pa_cons (pe_tup (pa_cons (pv 4) (pa_cons (pv 6) (pa_cons (pe_op op_add (pv 6) (pe_call GT hr1 (by rfl) gT FT.kp bT .nil pass0 (pa_cons (pv 0) (pa_cons (pe_op op_add (pe_op op_sub (pv 3) (pv 6)) pe_int) pa_nil)))) pa_nil)))) pa_nil))))))))))))
      (pss_one (ps_ret (pe_callTy call_tupN (by rfl) mt (by decide +kernel) (pa_cons (pv 2) pa_nil))))), ?_⟩
    refine ⟨Nat.zero_le _, fun o no => ?_⟩
    have nop : o ≠ p := P0.ne no
    have b1 : But p H (upd H o (.lst [])) := .same (sm_upd no)
    have P1 : Pot (upd H o (.lst [])) p c := P0.upd nop
    have o1 : (upd H o (.lst [])) o = some (.lst []) := upd_same
    generalize upd H o (.lst []) = H1 at b1 P1 o1
    refine ⟨.ref p, rfl, _, rfl, p, n, c, rfl, P1, by omega, hn, fun l H2 xs nl hl len pw bd P2 b2 => ?_⟩
    have b02 := b1.trans b2
    have o2 := b2 _ _ nop o1
    have nlo : l ≠ o := fun e => by
      rw [e, o1] at nl
      cases nl
    have nlp : l ≠ p := P1.ne nl
    have hX : SqL K H2 l (xs.map V.int) := .inl (.inl hl)
    refine ⟨l, _, rfl, hX, ?_⟩
    refine for_gen (n := n) (fun i σ G => ∃ (y3 y4 y5 y6 : Option V) (zs : List V) (cs : List Tri) (c' : Nat), σ = [some (.ref p), some (.int n), some (.ref o), y3, y4, y5, y6] ∧ G o = some (.lst zs) ∧ G l = some (.lst (xs.map V.int)) ∧ BoxOk (xs.take i) cs ∧ cs.length = i ∧ zs.length = i ∧ Pot G p c' ∧ c' ≤ c + n + 2 + 3 * i ∧ But p H G ∧ (∀ N, N p = true → TrN N H → DpAll K (hid (plus N o) G) zs (cs.map tri)))
      ⟨none, none, none, none, [], [], _, rfl, o2, hl, ⟨rfl, fun j c h => by simp at h⟩, rfl, rfl, P2, by omega, b02, fun _ _ _ => .nil⟩ ?_ ?_ ?_ ?_
    · rintro i σ G hi ⟨y3, y4, y5, y6, zs, cs, c', rfl, ho, hl', bx, lc, lz, PG, hc', bG, dG⟩
      exact ⟨_, _, .inl (.inl hl'), List.getElem?_eq_getElem (by rw [List.length_map, len]; exact hi)⟩
    · rintro σ G ⟨y3, y4, y5, y6, zs, cs, c', rfl, ho, hl', bx, lc, lz, PG, hc', bG, dG⟩
      exact ⟨_, .inl (.inl hl'), by rw [List.length_map, len]; exact Nat.le_refl _⟩
    · rintro i σ G v G' hi ⟨y3, y4, y5, y6, zs, cs, c', rfl, ho, hl', bx, lc, lz, PG, hc', bG, dG⟩ ⟨T, y, rfl, nT, rfl, hyv⟩
      obtain ⟨z, hz, rfl⟩ : ∃ z, xs[i]? = some z ∧ V.int z = y := by
        have ey := hyv _ (.inl (.inl hl'))
        rw [List.getElem?_map] at ey
        cases e : xs[i]? with
        | none => rw [e] at ey; cases ey
        | some z => rw [e] at ey; exact ⟨z, rfl, Option.some.inj ey⟩
      have sT := sm_upd (o := .tup [.int (i : Nat), .int z]) nT
      have b3 : But p G (upd G T (.tup [.int (i : Nat), .int z])) := .same sT
      have P3 := PG.same sT
      refine ⟨T, _, rfl, .inl (.inl upd_same), rfl, _, _, rfl, _, _, rfl, rfl, ?_⟩
      generalize upd G T (.tup [.int (i : Nat), .int z]) = G1 at sT b3 P3
      -- the draws
      refine ⟨.ref p, rfl, p, 5, c', rfl, P3, by omega, by decide, by decide, fun wy o4 lw ho4 => ?_⟩
      have b4 := b3.trans (But.of_upd (p := p) (H := G1) (o := o4))
      have P4 : Pot (upd G1 p o4) p (c' + 1) := ⟨o4, upd_same, ho4⟩
      generalize upd G1 p o4 = G2 at b4 P4
      refine ⟨.ref p, rfl, _, rfl, _, _, rfl, rfl, p, (i : Int) + 1, c' + 1, rfl, P4, by omega, by omega, by omega, fun lst o5 ll ho5 => ?_⟩
      have b5 := b4.trans (But.of_upd (p := p) (H := G2) (o := o5))
      have P5 : Pot (upd G2 p o5) p (c' + 2) := ⟨o5, upd_same, ho5⟩
      generalize upd G2 p o5 = G3 at b5 P5
      refine ⟨_, _, rfl, ?_⟩
      have ll' : lst ≤ i := by omega
      have o5' : G3 o = some (.lst zs) := b5 _ _ nop ho
      have bx' : ∀ {lo hi : Nat}, lo ≤ hi → hi ≤ i → BoxOk (xs.take (i + 1)) (cs ++ [(z, lo, hi)]) := fun {lo hi} h1 h2 => by
        have e : xs.take (i + 1) = xs.take i ++ [z] := by
          rw [List.take_add_one, hz]
          rfl
        rw [e]
        exact bx.snoc h1 (by omega)
      have app : ∀ (lo' hi' : Int) (lo hi : Nat) (t : Addr) (G4 : Hp) (c4 : Nat), lo' = (lo : Int) → hi' = (hi : Int) → lo ≤ hi → hi ≤ i → G4 t = none → But p G G4 → Pot G4 p c4 → c4 ≤ c' + 3 → ∃ (l' : Addr) (xs' : List V) (y : V), V.ref o = .ref l' ∧ [V.ref t] = [y] ∧ (upd G4 t (.tup [.int z, .int lo', .int hi'])) l' = some (.lst xs') ∧ xs'.length < sizeLine ∧
          ∃ (y3 y4 y5 y6 : Option V) (zs : List V) (cs : List Tri) (c' : Nat), ([some (.ref p), some (.int n), some (.ref o), some (.int (i : Nat)), some (.int z), some (.int (wy : Nat)), some (.int (lst : Nat))] : L2.St) = [some (.ref p), some (.int n), some (.ref o), y3, y4, y5, y6] ∧ (upd (upd G4 t (.tup [.int z, .int lo', .int hi'])) l' (.lst (xs' ++ [y]))) o = some (.lst zs) ∧ (upd (upd G4 t (.tup [.int z, .int lo', .int hi'])) l' (.lst (xs' ++ [y]))) l = some (.lst (xs.map V.int)) ∧ BoxOk (xs.take (i + 1)) cs ∧ cs.length = i + 1 ∧ zs.length = i + 1 ∧ Pot (upd (upd G4 t (.tup [.int z, .int lo', .int hi'])) l' (.lst (xs' ++ [y]))) p c' ∧ c' ≤ c + n + 2 + 3 * (i + 1) ∧ But p H (upd (upd G4 t (.tup [.int z, .int lo', .int hi'])) l' (.lst (xs' ++ [y]))) ∧ (∀ N, N p = true → TrN N H → DpAll K (hid (plus N o) (upd (upd G4 t (.tup [.int z, .int lo', .int hi'])) l' (.lst (xs' ++ [y])))) zs (cs.map tri)) := fun lo' hi' lo hi t G4 c4 el eh h1 h2 nt b4 P4 hc4 => by
        subst el eh
        have st := sm_upd (o := .tup [.int z, .int (lo : Nat), .int (hi : Nat)]) nt
        have b6 := b4.trans (But.same st (p := p))
        have nto : t ≠ o := fun e => by
          have := b4 _ _ nop ho
          rw [← e, nt] at this
          cases this
        refine ⟨o, zs, .ref t, rfl, rfl, b6 _ _ nop ho, by rw [lz]; exact small1000 (by omega), _, _, _, _, zs ++ [.ref t], cs ++ [(z, lo, hi)], c4, rfl, upd_same, ?_, bx' h1 h2, by rw [List.length_append, lc]; rfl, by rw [List.length_append, lz]; rfl, (P4.same st).upd nop, by omega, (bG.trans b6).put no, fun N np tr => ?_⟩
        · rw [upd_ne nlo]
          exact b6 _ _ nlp hl'
        · have npo : plus N o p = true := by
            show (N p || decide (p = o)) = true
            rw [np]
            rfl
          rw [List.map_append]
          refine dps_snoc (dps_same ((hid_but npo b6).trans hid_at_D) (dG N np tr)) ?_
          refine .tup (.inl (.inl (hid_get ?_ ?_))) (.cons (.int _) (.cons (.int _) (.cons (.int _) .nil)))
          · show (N t || decide (t = o)) = false
            rw [decide_eq_false nto, tr.ne ((bG.trans b4).none (P4.ne nt) nt)]
            rfl
          · rw [upd_ne nto]
            exact upd_same
      have tyO : ∀ (G5 : Hp), G5 o = some (.lst zs) → True := fun _ _ => trivial
      refine ⟨_, rfl, rfl, _, rfl, ite2 (fun e => ?_) (fun e => ?_)⟩
      · refine ⟨.ref o, rfl, .inl ⟨rfl, _, .inl (.inl o5')⟩, _, rfl, _, rfl, by show 3 ≤ sizeLine; decide, fun t nt => ?_⟩
        exact app _ _ 0 i t G3 (c' + 2) rfl rfl (Nat.zero_le _) (Nat.le_refl _) nt b5 P5 (by omega)
      refine ⟨_, rfl, rfl, _, rfl, ite2 (fun e => ?_) (fun e => ?_)⟩
      · refine ⟨.ref o, rfl, .inl ⟨rfl, _, .inl (.inl o5')⟩, _, rfl, _, rfl, _, rfl, by show 3 ≤ sizeLine; decide, fun t nt => ?_⟩
        exact app _ _ lst lst t G3 (c' + 2) rfl rfl (Nat.le_refl _) ll' nt b5 P5 (by omega)
      refine ⟨_, rfl, rfl, _, rfl, ite2 (fun e => ?_) (fun e => ?_)⟩
      · refine ⟨.ref o, rfl, .inl ⟨rfl, _, .inl (.inl o5')⟩, _, rfl, _, rfl, _, _, rfl, rfl, ⟨by decide, by decide⟩, _, rfl, _, _, rfl, rfl, ⟨by decide, by decide⟩, by show 3 ≤ sizeLine; decide, fun t nt => ?_⟩
        have e2 : (i : Int) / 2 = ((i / 2 : Nat) : Int) := by omega
        exact app _ _ (i / 2) (i / 2) t G3 (c' + 2) e2 e2 (Nat.le_refl _) (by omega) nt b5 P5 (by omega)
      · refine ⟨.ref o, rfl, .inl ⟨rfl, _, .inl (.inl o5')⟩, _, rfl, _, rfl, _, rfl, .ref p, rfl, _, rfl, _, rfl, _, _, rfl, rfl, _, _, rfl, rfl, p, (i : Int) - lst + 1, c' + 2, rfl, P5, by omega, by omega, by omega, fun r6 o6 l6 ho6 => ?_⟩
        have b6 := b5.trans (But.of_upd (p := p) (H := G3) (o := o6))
        have P6 : Pot (upd G3 p o6) p (c' + 3) := ⟨o6, upd_same, ho6⟩
        generalize upd G3 p o6 = G6 at b6 P6
        refine ⟨_, _, rfl, rfl, by show 3 ≤ sizeLine; decide, fun t nt => ?_⟩
        have e2 : (lst : Int) + (r6 : Int) = ((lst + r6 : Nat) : Int) := by omega
        exact app _ _ lst (lst + r6) t G6 (c' + 3) rfl e2 (by omega) (by omega) nt b6 P6 (by omega)
    · rintro σ G ⟨y3, y4, y5, y6, zs, cs, c', rfl, ho, hl', bx, lc, lz, PG, hc', bG, dG⟩
      rw [← len, List.take_length] at bx
      refine ⟨.ref o, rfl, o, zs, rfl, .inl ⟨.inl (.inl ho), fun g og hog ng => ?_⟩⟩
      have ngp : g ≠ p := PG.ne ng
      have ngH : H g = none := bG.none ngp ng
      have sg := sm_upd (o := .frz og (.tup zs)) ng
      refine q g _ xs cs ngH bx len pw bd ⟨zs, TupN.new hog⟩ (fun N np tr => ?_) ((PG.same sg).mono (by omega)) (bG.trans (.same sg))
      exact .tup (.inl (.inr ⟨og, hid_get (tr.ne ngH) upd_same⟩)) (dps_same (hid_out.trans (hid_sm sg)) (dG N np tr))
abbrev sOdd : Stmt := topS 14
theorem scOdd : FnScope ["_law_pot_here", "_law_matter", "_law_some"] ["_law_pot_here", "_law_matter"] (defScope sOdd) := ⟨rfl, rfl, rfl, by decide +kernel, rfl, by decide +kernel, by decide +kernel⟩
/-! ### _law_odd -/
def spOdd (K : PySem.W.Frag) (M S D : Nat) : Sp := fun vs H Q _ => ∃ (p : Addr) (N : Addr → Bool) (x : V) (d : PyData) (c : Nat), vs = [.ref p, x] ∧ PotN N H p c ∧ c ≤ 900000 ∧ Dp K (hid N H) x d ∧ Fit M S D d ∧ M < 10 ^ 18 ∧ 1 ≤ M ∧ S ≤ 10000 ∧ D ≤ 60 ∧
  ∀ v H', But p H H' → Pot H' p (c + 1) → Gv K N H' (M + 1) (S + 4) (D + 2) v → Q v H'
theorem nv_fit {H : Hp} {x : V} {d : PyData} {M : Nat} (hd : Dp K H x d) (hi : isInt d = true) (ok : okD M d = true) (hM : 1 ≤ M) : ∃ i : Int, nv x = some i ∧ i.natAbs ≤ M := by
  cases hd with
  | int i => exact ⟨i, rfl, of_decide_eq_true ok⟩
  | bl b => exact ⟨if b = true then 1 else 0, rfl, by cases b <;> simp <;> omega⟩
  | _ => exact absurd hi Bool.false_ne_true
theorem str_fit {H : Hp} {x : V} {d : PyData} {M : Nat} (hd : Dp K H x d) (hi : isInt d = true) (ok : okD M d = true) (hM : M < 10 ^ 18) : PyData.strOk (strN x) = true ∧ (strN x).length ≤ 30 := by
  cases hd with
  | int i => exact ⟨strOk_of _, Nat.le_trans (int_text (of_decide_eq_true ok) (Nat.lt_trans hM (by decide))) (by decide)⟩
  | bl b => cases b <;> exact ⟨strOk_of _, by decide +kernel⟩
  | _ => exact absurd hi Bool.false_ne_true
theorem mem_rep {α : Type} {v : α} {xs : List α} {n : Nat} (h : v ∈ (List.replicate n xs).flatten) : v ∈ xs := by
  obtain ⟨l, hl, hv⟩ := List.mem_flatten.mp h
  rw [(List.mem_replicate.mp hl).2] at hv
  exact hv
/-- some + vs * 2 -/
theorem rep_cat {R : V → Hp → Prop} {G : Hp} {t : Addr} {L vs : List V} (hL : G t = some (.lst L)) (h1 : L.length = 14) (h2 : vs.length = 5) (next : ∀ z G', G z = none → G' z = some (.lst (L ++ (List.replicate 2 vs).flatten)) → Same G G' → R (.ref z) G') :
    vs.length ≤ sizeLine ∧ ∀ u, G u = none → rRep (.ref u) (.int 2) (upd G u (.lst vs)) fun y G2 => rCat (.ref t) y G2 R := by
  refine ⟨by rw [h2]; decide, fun u nu => ?_⟩
  have s1 : Same G (upd G u (.lst vs)) := sm_upd nu
  refine ⟨u, 2, vs, rfl, rfl, upd_same, by decide, by decide, by rw [h2]; decide, fun u2 nu2 => ?_⟩
  have s2 := s1.trans (sm_upd (o := .lst (List.replicate 2 vs).flatten) nu2)
  have l2 : (List.replicate 2 vs).flatten.length = 10 := by
    show (vs ++ (vs ++ [])).length = 10
    rw [List.append_nil, List.length_append, h2]
  refine ⟨t, u2, L, _, rfl, rfl, s2 _ _ hL, upd_same, by show L.length + (List.replicate 2 vs).flatten.length ≤ _; rw [h1, l2]; decide, fun z nz => ?_⟩
  exact next z _ (s2.free nz) upd_same (s2.trans (sm_upd nz))
theorem ok_odd {f fT fP : Addr} {fd fdT fdP : FuncData} {k M S D : Nat} (F : Fun K "_law_odd" "_law_odd" sOdd f fd) (FT : Fun K "_law_take" "_law_take" sTake fT fdT) (bT : Binds K fdT ["_law_pot_here", "_law_bound"] []) (gT : mg "_law_take" = some (.ref fT))
    (FP : Fun K "_law_pick" "_law_pick" sPick fP fdP) (bP : Binds K fdP ["_law_pot_here", "_law_some"] []) (gP : mg "_law_pick" = some (.ref fP)) (ml : mg "len" = none) (mli : mg "list" = none) (mt : mg "tuple" = none) (mi : mg "int" = none) (ms : mg "str" = none) (mis : mg "isinstance" = none) :
    FnOk P w K mg base CX0 (k + 3) f fd ["_law_pot_here", "_law_matter"] (spOdd K M S D) := by
  have GP : FnOk P w K mg base CX0 (k + 2) fP fdP ["_law_pot_here", "_law_some"] (spPick K) := ok_pick FP FT bT gT ml
  refine F.ok scOdd (fun vs H Q E h => ?_) (fun cdv A outer s H vs Q E hr h => ?_)
  · obtain ⟨p, N, x, d, c, rfl, _⟩ := h
    rfl
  · obtain ⟨p, N, x, d, c, rfl, P0, hc, dx, fx, hM, hM1, hS, hD, q⟩ := h
    refine ⟨_, pss_cons (ps_set (i := 2) scOdd.nd rfl (.inl rfl) (pe_lst (pa_cons pe_non (pa_cons pe_bl (pa_cons pe_bl (pa_cons pe_int (pa_cons pe_int (pa_cons (pe_un un_neg pe_int) (pa_cons pe_str (pa_cons pe_str (pa_cons (pe_tup pa_nil) (pa_cons (pe_lst pa_nil) (pa_cons (pe_tup (pa_cons pe_int pa_nil)) (pa_cons (pe_lst (pa_cons pe_int pa_nil))
        (pa_cons (pe_tup (pa_cons (pe_tup pa_nil) (pa_cons (pe_tup pa_nil) pa_nil))) (pa_cons (pe_tup (pa_cons pe_int (pa_cons pe_int (pa_cons pe_int pa_nil)))) pa_nil))))))))))))))))
      (pss_cons (ps_if (pt_val (pe_callB call_isInt (by rfl) mis (by decide +kernel) (pa_cons (pv 1) (pa_cons (pe_bltn (v := .ty "int") (by rfl) mi (by decide +kernel) rfl) pa_nil))))
        (pss_one (ps_set (i := 2) scOdd.nd rfl (.inl rfl) (pe_op op_cat (pv 2) (pe_op op_rep (pe_lst (pa_cons (pe_op op_addN (pv 1) pe_int) (pa_cons (pe_op op_subN (pv 1) pe_int) (pa_cons (pe_op op_subM pe_int (pv 1)) (pa_cons (pe_callTy call_strN (by rfl) ms (by decide +kernel) (pa_cons (pv 1) pa_nil)) (pa_cons (pe_cmpR (op_eqD hr.units) (pv 1) pe_int (nomark _)) pa_nil)))))) pe_int)))) pss_nil)
      (pss_cons (ps_if (pt_val (pe_callB call_isSeq (by rfl) mis (by decide +kernel) (pa_cons (pv 1) (pa_cons (pe_tup (pa_cons (pe_bltn (v := .ty "list") (by rfl) mli (by decide +kernel) rfl) (pa_cons (pe_bltn (v := .ty "tuple") (by rfl) mt (by decide +kernel) rfl) pa_nil))) pa_nil))))
        (pss_one (ps_set (i := 2) scOdd.nd rfl (.inl rfl) (pe_op op_cat (pv 2) (pe_op op_rep (pe_lst (pa_cons (pe_callTy call_list_of (by rfl) mli (by decide +kernel) (pa_cons (pv 1) pa_nil)) (pa_cons (pe_callTy call_tuple_of (by rfl) mt (by decide +kernel) (pa_cons (pv 1) pa_nil)) (pa_cons (pe_revA (pv 1))
          (pa_cons (pe_slice (SlR.or sl_list sl_tupA) (pv 1) (po_some pe_int) po_none) (pa_cons (pe_slice (SlR.or sl_list sl_tupA) (pv 1) po_none (po_some (pe_un un_neg pe_int))) pa_nil)))))) pe_int)))) pss_nil)
      (pss_one (ps_ret (pe_call GP hr (by rfl) gP FP.kp bP .nil pass0 (pa_cons (pv 0) (pa_cons (pv 2) pa_nil))))))), ?_⟩
    have np := P0.np
    -- the fourteen
    refine ⟨1, rfl, Nat.zero_le _, fun t1 n1 => ?_⟩
    obtain ⟨P1, b1, g1, _⟩ := al_t (K := K) P0 n1 .nil
    generalize upd H t1 (.tup []) = H1 at P1 b1 g1
    refine ⟨Nat.zero_le _, fun t2 n2 => ?_⟩
    obtain ⟨P2, b2, g2, _⟩ := al_l (K := K) P1 n2 .nil
    generalize upd H1 t2 (.lst []) = H2 at P2 b2 g2
    refine ⟨by show 1 ≤ sizeLine; decide, fun t3 n3 => ?_⟩
    obtain ⟨P3, b3, g3, _⟩ := al_t (K := K) P2 n3 (.cons (.int 0) .nil)
    generalize upd H2 t3 (.tup [.int 0]) = H3 at P3 b3 g3
    refine ⟨by show 1 ≤ sizeLine; decide, fun t4 n4 => ?_⟩
    obtain ⟨P4, b4, g4, _⟩ := al_l (K := K) P3 n4 (.cons (.int 1) .nil)
    generalize upd H3 t4 (.lst [.int 1]) = H4 at P4 b4 g4
    refine ⟨Nat.zero_le _, fun t5 n5 => ?_⟩
    obtain ⟨P5, b5, g5, _⟩ := al_t (K := K) P4 n5 .nil
    generalize upd H4 t5 (.tup []) = H5 at P5 b5 g5
    refine ⟨Nat.zero_le _, fun t6 n6 => ?_⟩
    obtain ⟨P6, b6, g6, _⟩ := al_t (K := K) P5 n6 .nil
    generalize upd H5 t6 (.tup []) = H6 at P6 b6 g6
    refine ⟨by show 2 ≤ sizeLine; decide, fun t7 n7 => ?_⟩
    obtain ⟨P7, b7, g7, _⟩ := al_t (K := K) P6 n7 (.cons (dp_same (hid_but np b6) g5) (.cons g6 .nil))
    generalize upd H6 t7 (.tup [.ref t5, .ref t6]) = H7 at P7 b7 g7
    refine ⟨by show 3 ≤ sizeLine; decide, fun t8 n8 => ?_⟩
    obtain ⟨P8, b8, g8, _⟩ := al_t (K := K) P7 n8 (.cons (.int 1) (.cons (.int 0) (.cons (.int 0) .nil)))
    generalize upd H7 t8 (.tup [.int 1, .int 0, .int 0]) = H8 at P8 b8 g8
    refine ⟨by show 14 ≤ sizeLine; decide, fun t9 n9 => ?_⟩
    have n9p : t9 ≠ p := P8.nep n9
    have b9 : But p H8 (upd H8 t9 (.lst [.non, .bl true, .bl false, .int 0, .int 1, .int (-1), .str "", .str "row", .ref t1, .ref t2, .ref t3, .ref t4, .ref t7, .ref t8])) := .same (sm_upd n9)
    have P9 := P8.same (sm_upd (o := .lst [.non, .bl true, .bl false, .int 0, .int 1, .int (-1), .str "", .str "row", .ref t1, .ref t2, .ref t3, .ref t4, .ref t7, .ref t8]) n9)
    have l9 : (upd H8 t9 (.lst [.non, .bl true, .bl false, .int 0, .int 1, .int (-1), .str "", .str "row", .ref t1, .ref t2, .ref t3, .ref t4, .ref t7, .ref t8])) t9 = _ := upd_same
    generalize upd H8 t9 (.lst [.non, .bl true, .bl false, .int 0, .int 1, .int (-1), .str "", .str "row", .ref t1, .ref t2, .ref t3, .ref t4, .ref t7, .ref t8]) = H9 at b9 P9 l9
    have c8 := b8.trans b9
    have c7 := b7.trans c8
    have c4 := b5.trans (b6.trans c7)
    have c3 := b4.trans c4
    have c2 := b3.trans c3
    have c1 := b2.trans c2
    have c0 := b1.trans c1
    have hS1 := Nat.le_trans (siz_pos d) fx.sz
    have good : ∀ v ∈ [V.non, .bl true, .bl false, .int 0, .int 1, .int (-1), .str "", .str "row", .ref t1, .ref t2, .ref t3, .ref t4, .ref t7, .ref t8], Gv K N H9 (M + 1) (S + 4) (D + 2) v := by
      simp only [List.forall_mem_cons]
      refine ⟨gv_non (by omega), gv_bl (by omega) _, gv_bl (by omega) _, gv_int (by omega) (by simp), gv_int (by omega) (by simp), gv_int (by omega) (by simp), gv_str (by omega) (strOk_of _) (by decide +kernel), gv_str (by omega) (strOk_of _) (by decide +kernel), ?_, ?_, ?_, ?_, ?_, ?_, fun _ h => nomatch h⟩
      · exact gv_of (dp_same (hid_but np c1) g1) ⟨rfl, by show 1 ≤ _; omega, by show 1 ≤ _; omega⟩
      · exact gv_of (dp_same (hid_but np c2) g2) ⟨rfl, by show 1 ≤ _; omega, by show 1 ≤ _; omega⟩
      · exact gv_of (dp_same (hid_but np c3) g3) ⟨rfl, by show 2 ≤ _; omega, by show 1 ≤ _; omega⟩
      · exact gv_of (dp_same (hid_but np c4) g4) ⟨by show (decide (1 ≤ M + 1) && true) = true; rw [decide_eq_true (by omega)]; rfl, by show 2 ≤ _; omega, by show 1 ≤ _; omega⟩
      · exact gv_of (dp_same (hid_but np c8) g7) ⟨rfl, by show 3 ≤ _; omega, by show 2 ≤ _; omega⟩
      · exact gv_of (dp_same (hid_but np b9) g8) ⟨by show (decide (1 ≤ M + 1) && (decide (0 ≤ M + 1) && (decide (0 ≤ M + 1) && true))) = true; rw [decide_eq_true (by omega), decide_eq_true (by omega)]; rfl, by show 4 ≤ _; omega, by show 1 ≤ _; omega⟩
    have len9 : [V.non, .bl true, .bl false, .int 0, .int 1, .int (-1), .str "", .str "row", .ref t1, .ref t2, .ref t3, .ref t4, .ref t7, .ref t8].length = 14 := rfl
    generalize [V.non, .bl true, .bl false, .int 0, .int 1, .int (-1), .str "", .str "row", .ref t1, .ref t2, .ref t3, .ref t4, .ref t7, .ref t8] = L9 at good l9 len9
    have dx9 := dp_same (hid_but np c0) dx
    have fin : ∀ (L : Addr) (xs : List V) (G : Hp), But p H9 G → G L = some (.lst xs) → L ≠ p → 0 < xs.length → xs.length ≤ 100 → (∀ v ∈ xs, Gv K N G (M + 1) (S + 4) (D + 2) v) → PotN N G p c → spPick K [.ref p, .ref L] G Q E := fun L xs G b hL nL h0 h1 hg PG =>
      ⟨p, L, xs, c, rfl, PG.pot, by omega, .inl (.inl hL), nL, h0, by omega, fun v o hv ho => q v _ (c0.trans (b.putP)) ⟨o, upd_same, ho⟩ ((hg v hv).but np But.of_upd)⟩
    have fin2 : ∀ (L : Addr) (vs : List V) (G : Hp) (z : Addr) (G' : Hp), But p H9 G → PotN N G p c → (∀ v ∈ vs, Gv K N G (M + 1) (S + 4) (D + 2) v) → vs.length = 5 → G z = none → G' z = some (.lst (L9 ++ (List.replicate 2 vs).flatten)) → Same G G' → ∀ G2, Same G' G2 → spPick K [.ref p, .ref z] G2 Q E := fun L vs G z G' b PG hg hl nz hz sz G2 s2 => by
      have bb := (b.trans (.same sz)).trans (But.same s2 (p := p))
      refine fin z _ G2 bb (s2 _ _ hz) (PG.nep nz) ?_ ?_ (fun v hv => ?_) ((PG.same sz).same s2)
      · rw [List.length_append, len9]
        exact Nat.lt_of_lt_of_le (by decide) (Nat.le_add_right _ _)
      · have l2 : (List.replicate 2 vs).flatten.length = 10 := by
          show (vs ++ (vs ++ [])).length = 10
          rw [List.append_nil, List.length_append, hl]
        rw [List.length_append, len9, l2]
        decide
      · rcases List.mem_append.mp hv with hv | hv
        · exact (good v hv).but np bb
        · exact (hg v (mem_rep hv)).but np ((But.same sz (p := p)).trans (.same s2))
    refine ⟨x, rfl, x, d, rfl, dp_same hid_same dx9, _, rfl, ite2 (fun e => ?_) (fun e => ?_)⟩
    · obtain ⟨i, hn, hi⟩ := nv_fit dx9 e fx.ok hM1
      obtain ⟨so, sl⟩ := str_fit dx9 e fx.ok hM
      have ns : isSeq d = false := by cases d <;> first | rfl | cases e
      refine ⟨.ref t9, rfl, x, rfl, i, 1, hn, rfl, x, rfl, i, 1, hn, rfl, x, rfl, 0, i, rfl, hn, x, rfl, x, i, rfl, hn, Nat.lt_trans (log_lt hi (Nat.le_of_lt hM)) (by decide), x, rfl, d, .int 1, dp_same hid_same dx9, .int 1, fit_shp fx (by omega), rfl, ?_⟩
      refine rep_cat l9 len9 rfl fun z G nz hz sz => ?_
      refine ⟨x, rfl, by show 2 ≤ sizeLine; decide, fun tp ntp => ?_⟩
      have s3 : Same G (upd G tp (.tup [.ty "list", .ty "tuple"])) := sm_upd ntp
      refine ⟨x, tp, d, rfl, upd_same, dp_same (hid_same.trans (sz.trans s3)) dx9, _, rfl, ?_⟩
      rw [ns]
      refine iteF ⟨.ref p, rfl, .ref z, rfl, fin2 t9 _ H9 z G (.refl _ _) P9 ?_ rfl nz hz sz _ s3⟩
      simp only [List.forall_mem_cons]
      exact ⟨gv_int (by omega) (by omega), gv_int (by omega) (by omega), gv_int (by omega) (by omega), gv_str (by omega) so sl, gv_bl (by omega) _, fun _ h => nomatch h⟩
    · refine ⟨x, rfl, by show 2 ≤ sizeLine; decide, fun tp ntp => ?_⟩
      have s3 : Same H9 (upd H9 tp (.tup [.ty "list", .ty "tuple"])) := sm_upd ntp
      have dx3 := dp_same (hid_but np (.same s3 (p := p))) dx9
      refine ⟨x, tp, d, rfl, upd_same, dp_same hid_same dx3, _, rfl, ite2 (fun e2 => ?_) (fun e2 => ?_)⟩
      case _ =>
        have P3' := P9.same s3
        have l3 := s3 _ _ l9
        have c9 : But p H9 (upd H9 tp (.tup [.ty "list", .ty "tuple"])) := .same s3
        generalize upd H9 tp (.tup [.ty "list", .ty "tuple"]) = G0 at P3' l3 c9 dx3
        have key : ∀ (G : Hp) (vs : List V), Same G0 G → PotN N G p c → (∀ v ∈ vs, Gv K N G (M + 1) (S + 4) (D + 2) v) → vs.length = 5 → ∀ R : V → Hp → Prop, (∀ z G2, spPick K [.ref p, .ref z] G2 Q E → R (.ref z) G2) → vs.length ≤ sizeLine ∧ ∀ u, G u = none → rRep (.ref u) (.int 2) (upd G u (.lst vs)) fun y G2 => rCat (.ref t9) y G2 R := fun G vs sG PG hg hl R hR =>
          rep_cat (sG _ _ l3) len9 hl fun z G' nz hz sz => hR z G' (fin2 t9 vs G z G' (c9.trans (.same sG)) PG hg hl nz hz sz G' (Same.refl _))
        cases d with
        | list ds =>
          cases dx3 with
          | @lst a xs _ hx ax =>
          obtain ⟨S', D', rfl, rfl, fA⟩ := of_list fx
          have hX : SqL K G0 a xs := hid_same.seq hx
          refine ⟨.ref t9, rfl, .ref a, rfl, a, xs, rfl, .inl hX, fun u1 m1 => ?_⟩
          obtain ⟨Q1, e1, d1, _⟩ := al_l (K := K) P3' m1 ax
          have s1 : Same G0 (upd G0 u1 (.lst xs)) := sm_upd m1
          generalize upd G0 u1 (.lst xs) = G1 at Q1 e1 d1 s1
          refine ⟨.ref a, rfl, a, xs, rfl, .inl ⟨s1.seq hX, fun u2 m2 => ?_⟩⟩
          obtain ⟨Q2, e2, d2, _⟩ := al_t (K := K) Q1 m2 (dps_same (hid_but np e1) ax)
          have s2 := s1.trans (sm_upd (o := .tup xs) m2)
          generalize upd G1 u2 (.tup xs) = G2 at Q2 e2 d2 s2
          have e12 := e1.trans e2
          refine ⟨.ref a, rfl, a, xs, rfl, .inl ⟨s2.seq hX, fun u3 m3 => ?_⟩⟩
          obtain ⟨Q3, e3, d3, _⟩ := al_l (K := K) Q2 m3 (dps_rev (dps_same (hid_but np e12) ax))
          have s3 := s2.trans (sm_upd (o := .lst xs.reverse) m3)
          generalize upd G2 u3 (.lst xs.reverse) = G3 at Q3 e3 d3 s3
          have e13 := e12.trans e3
          refine ⟨.ref a, rfl, 1, rfl, .inl ⟨a, xs, rfl, s3.seq hX, fun u4 m4 => ?_⟩⟩
          obtain ⟨es, x4, y4⟩ := dps_cut (dps_same (hid_but np e13) ax) (some 1) none
          obtain ⟨Q4, e4, d4, _⟩ := al_l (K := K) Q3 m4 x4
          have s4 := s3.trans (sm_upd (o := .lst (cutV xs (some 1) none)) m4)
          generalize upd G3 u4 (.lst (cutV xs (some 1) none)) = G4 at Q4 e4 d4 s4
          have e14 := e13.trans e4
          refine ⟨.ref a, rfl, _, rfl, _, rfl, .inl ⟨a, xs, rfl, s4.seq hX, fun u5 m5 => ?_⟩⟩
          obtain ⟨es5, x5, y5⟩ := dps_cut (dps_same (hid_but np e14) ax) none (some (-1))
          obtain ⟨Q5, e5, d5, _⟩ := al_l (K := K) Q4 m5 x5
          have s5 := s4.trans (sm_upd (o := .lst (cutV xs none (some (-1)))) m5)
          generalize upd G4 u5 (.lst (cutV xs none (some (-1)))) = G5 at Q5 e5 d5 s5
          refine key G5 _ s5 Q5 ?_ rfl _ (fun z G6 h => ⟨.ref p, rfl, .ref z, rfl, h⟩)
          have fA' := fA.mono (M' := M + 1) (S' := S' + 4) (D' := D' + 2) (by omega) (by omega) (by omega)
          have f45 := e4.trans e5
          have f35 := e3.trans f45
          have f25 := e2.trans f35
          simp only [List.forall_mem_cons]
          exact ⟨(gv_of d1 (fit_list fA')).but np f25 |>.mono (by omega) (by omega) (by omega), (gv_of d2 (fit_tuple fA')).but np f35 |>.mono (by omega) (by omega) (by omega), (gv_of d3 (fit_list fA'.rev)).but np f45 |>.mono (by omega) (by omega) (by omega),
            (gv_of d4 (fit_list (fA'.sub y4))).but np e5 |>.mono (by omega) (by omega) (by omega), (gv_of d5 (fit_list (fA'.sub y5))).mono (by omega) (by omega) (by omega), fun _ h => nomatch h⟩
        | tuple ds =>
          have dy := dx3
          cases dx3 with
          | @tup a xs _ hx ax =>
          obtain ⟨S', D', rfl, rfl, fA⟩ := of_tuple fx
          have hX : SqT K G0 a xs := Same.sqT hid_same hx
          have fA' := fA.mono (M' := M + 1) (S' := S' + 4) (D' := D' + 2) (by omega) (by omega) (by omega)
          have own : ∀ G, But p G0 G → Gv K N G (M + 1) (S' + 1 + 4) (D' + 1 + 2) (.ref a) := fun G b => (gv_of dy (fit_tuple fA')).but np b |>.mono (by omega) (by omega) (by omega)
          refine ⟨.ref t9, rfl, .ref a, rfl, a, xs, rfl, .inr hX, fun u1 m1 => ?_⟩
          obtain ⟨Q1, e1, d1, _⟩ := al_l (K := K) P3' m1 ax
          have s1 : Same G0 (upd G0 u1 (.lst xs)) := sm_upd m1
          generalize upd G0 u1 (.lst xs) = G1 at Q1 e1 d1 s1
          refine ⟨.ref a, rfl, a, xs, rfl, .inr ⟨Same.sqT s1 hX, ?_⟩⟩
          refine ⟨.ref a, rfl, a, xs, rfl, .inr ⟨Same.sqT s1 hX, fun u3 m3 => ?_⟩⟩
          obtain ⟨Q3, e3, d3, _⟩ := al_t (K := K) Q1 m3 (dps_rev (dps_same (hid_but np e1) ax))
          have s3 := s1.trans (sm_upd (o := .tup xs.reverse) m3)
          generalize upd G1 u3 (.tup xs.reverse) = G3 at Q3 e3 d3 s3
          have e13 := e1.trans e3
          have last : ∀ (v4 : V) (G4 : Hp), Same G0 G4 → But p G3 G4 → PotN N G4 p c → Gv K N G4 (M + 1) (S' + 1 + 4) (D' + 1 + 2) v4 → ∀ (v5 : V) (G5 : Hp), Same G0 G5 → But p G4 G5 → PotN N G5 p c → Gv K N G5 (M + 1) (S' + 1 + 4) (D' + 1 + 2) v5 →
              ∀ R : V → Hp → Prop, (∀ z G2, spPick K [.ref p, .ref z] G2 Q E → R (.ref z) G2) → [V.ref u1, .ref a, .ref u3, v4, v5].length ≤ sizeLine ∧ ∀ u, G5 u = none → rRep (.ref u) (.int 2) (upd G5 u (.lst [V.ref u1, .ref a, .ref u3, v4, v5])) fun y G2 => rCat (.ref t9) y G2 R := fun v4 G4 s4 b4 Q4 g4 v5 G5 s5 b5 Q5 g5 R hR => by
            refine key G5 _ s5 Q5 ?_ rfl R hR
            have f35 := b4.trans b5
            simp only [List.forall_mem_cons]
            exact ⟨(gv_of d1 (fit_list fA')).but np (e3.trans f35) |>.mono (by omega) (by omega) (by omega), own _ (e13.trans f35), (gv_of d3 (fit_tuple fA'.rev)).but np f35 |>.mono (by omega) (by omega) (by omega), g4.but np b5, g5, fun _ h => nomatch h⟩
          have cut4 := fun lo hi => dps_cut (dps_same (hid_but np e13) ax) lo hi
          refine ⟨.ref a, rfl, 1, rfl, .inr ⟨a, xs, rfl, Same.sqT s3 hX, fun _ => ?_, fun _ u4 m4 => ?_⟩⟩
          case' refine_2 =>
            obtain ⟨es, x4, y4⟩ := cut4 (some 1) none
            obtain ⟨Q4, e4, d4, _⟩ := al_t (K := K) Q3 m4 x4
            have s4 := s3.trans (sm_upd (o := .tup (cutV xs (some 1) none)) m4)
            have g4 := (gv_of d4 (fit_tuple (fA'.sub y4))).mono (M' := M + 1) (S' := S' + 1 + 4) (D' := D' + 1 + 2) (by omega) (by omega) (by omega)
            generalize upd G3 u4 (.tup (cutV xs (some 1) none)) = G4 at Q4 e4 d4 s4 g4
          case' refine_1 =>
            have Q4 := Q3
            have e4 := But.refl p G3
            have s4 := s3
            have g4 := own G3 e13
          all_goals
            refine ⟨.ref a, rfl, _, rfl, _, rfl, .inr ⟨a, xs, rfl, Same.sqT s4 hX, fun _ => ?_, fun _ u5 m5 => ?_⟩⟩
            · exact last _ _ s4 e4 Q4 g4 (.ref a) _ s4 (.refl _ _) Q4 (own _ (e13.trans e4)) _ (fun z G6 h => ⟨.ref p, rfl, .ref z, rfl, h⟩)
            · obtain ⟨es5, x5, y5⟩ := dps_cut (dps_same (hid_but np (e13.trans e4)) ax) none (some (-1))
              obtain ⟨Q5, e5, d5, _⟩ := al_t (K := K) Q4 m5 x5
              exact last _ _ s4 e4 Q4 g4 _ _ (s4.trans (sm_upd m5)) e5 Q5 ((gv_of d5 (fit_tuple (fA'.sub y5))).mono (by omega) (by omega) (by omega)) _ (fun z G6 h => ⟨.ref p, rfl, .ref z, rfl, h⟩)
        | _ => cases e2
      case _ =>
        refine ⟨.ref p, rfl, .ref t9, rfl, fin t9 L9 _ (.same s3) (s3 _ _ l9) n9p (by omega) (by omega) (fun v hv => (good v hv).but np (.same s3)) (P9.same s3)⟩
abbrev sBent : Stmt := topS 15
theorem scBent : FnScope ["_law_pot_here", "_law_matter", "_law_at", "_law_made", "_law_way"] ["_law_pot_here", "_law_matter"] (defScope sBent) := ⟨rfl, rfl, rfl, by decide +kernel, rfl, by decide +kernel, by decide +kernel⟩
/-! ### _law_bent -/
def spBent (K : PySem.W.Frag) (n : Nat) : Sp := fun vs H Q _ => ∃ (p : Addr) (N : Addr → Bool) (x : V) (d : PyData) (c M S : Nat), vs = [.ref p, x] ∧ PotN N H p c ∧ c + 4 * (n + 1) ≤ 900000 ∧ Dp K (hid N H) x d ∧ Fit M S n d ∧ M < 10 ^ 18 ∧ 1 ≤ M ∧ S ≤ 10000 ∧ n ≤ 60 ∧
  ∀ v H' c', But p H H' → Pot H' p c' → c' ≤ c + 4 * (n + 1) → Gv K N H' (M + 1) (3 * S + 4) (n + 2) v → Q v H'
theorem FitA.app {M S S' D : Nat} {xs ys : List PyData} (f : FitA M S D xs) (g : FitA M S' D ys) : FitA M (S + S') D (xs ++ ys) :=
  ⟨fun d hd => (List.mem_append.mp hd).elim (f.ok d) (g.ok d), by rw [sizA_app]; exact Nat.add_le_add f.sz g.sz, fun d hd => (List.mem_append.mp hd).elim (f.dp d) (g.dp d)⟩
theorem sizA_set : ∀ (ds : List PyData) (i : Nat) (d e : PyData), ds[i]? = some e → sizA (ds.set i d) + siz e = sizA ds + siz d
  | [], i, d, e, h => by simp at h
  | a :: r, 0, d, e, h => by
    cases (Option.some.inj h : a = e)
    show siz d + sizA r + siz a = siz a + sizA r + siz d
    omega
  | a :: r, i + 1, d, e, h => by
    have := sizA_set r i d e h
    show siz a + sizA (r.set i d) + siz e = siz a + sizA r + siz d
    omega
theorem siz_le : ∀ (ds : List PyData) (i : Nat) (e : PyData), ds[i]? = some e → siz e ≤ sizA ds
  | [], i, e, h => by simp at h
  | a :: r, 0, e, h => by
    cases (Option.some.inj h : a = e)
    exact Nat.le_add_right _ _
  | a :: r, i + 1, e, h => Nat.le_trans (siz_le r i e h) (Nat.le_add_left _ _)
theorem bent_step {f fT fP fO : Addr} {fd fdT fdP fdO : FuncData} (F : Fun K "_law_bent" "_law_bent" sBent f fd) (bB : Binds K fd ["_law_pot_here", "_law_matter"] []) (gB : mg "_law_bent" = some (.ref f)) (FT : Fun K "_law_take" "_law_take" sTake fT fdT) (bT : Binds K fdT ["_law_pot_here", "_law_bound"] []) (gT : mg "_law_take" = some (.ref fT))
    (FP : Fun K "_law_pick" "_law_pick" sPick fP fdP) (bP : Binds K fdP ["_law_pot_here", "_law_some"] []) (gP : mg "_law_pick" = some (.ref fP)) (FO : Fun K "_law_odd" "_law_odd" sOdd fO fdO) (bO : Binds K fdO ["_law_pot_here", "_law_matter"] []) (gO : mg "_law_odd" = some (.ref fO)) (ml : mg "len" = none) (mli : mg "list" = none) (mt : mg "tuple" = none) (mi : mg "int" = none) (ms : mg "str" = none) (mis : mg "isinstance" = none)
    {j n : Nat} {sp0 : Sp} (GB : FnOk P w K mg base CX0 (j + 3) f fd ["_law_pot_here", "_law_matter"] sp0)
    (h0 : ∀ (p : Addr) (N : Addr → Bool) (x : V) (d : PyData) (c M S : Nat) (H : Hp) (Q : VK) (E : XK), PotN N H p c → c + 4 * n ≤ 900000 → Dp K (hid N H) x d → okD M d = true → siz d ≤ S → d.depth < n → M < 10 ^ 18 → 1 ≤ M → S ≤ 10000 → n ≤ 60 →
      (∀ v H' c', But p H H' → Pot H' p c' → c' ≤ c + 4 * n → Gv K N H' (M + 1) (3 * S + 4) (n + 1) v → Q v H') → sp0 [.ref p, x] H Q E) :
    FnOk P w K mg base CX0 (j + 4) f fd ["_law_pot_here", "_law_matter"] (spBent K n) := by
  refine F.ok scBent (fun vs H Q E h => ?_) (fun cdv A outer s H vs Q E hr h => ?_)
  · obtain ⟨p, N, x, d, c, M, S, rfl, _⟩ := h
    rfl
  · obtain ⟨p, N, x, d, c, M, S, rfl, P0, hc, dx, fx, hM, hM1, hS, hn, q⟩ := h
    have GT : FnOk P w K mg base CX0 (j + 1) fT fdT ["_law_pot_here", "_law_bound"] spTake := ok_take FT
    have GO : FnOk P w K mg base CX0 (j + 3) fO fdO ["_law_pot_here", "_law_matter"] (spOdd K M S n) := ok_odd FO FT bT gT FP bP gP ml mli mt mi ms mis
    have hr1 : Room (j + 1) _ := hr.mono (by omega)
    have np := P0.np
    refine ⟨_, pss_cons (ps_if (PW.pt (pw_or (pt_not (pt_val (pe_callB call_isSeq (by rfl) mis (by decide +kernel) (pa_cons (pv 1) (pa_cons (pe_tup (pa_cons (pe_bltn (v := .ty "list") (by rfl) mli (by decide +kernel) rfl) (pa_cons (pe_bltn (v := .ty "tuple") (by rfl) mt (by decide +kernel) rfl) pa_nil))) pa_nil)))))
        (pw_or (pt_cmpR op_eq (pe_callB call_len_seq (by rfl) ml PySem.boot_len (pa_cons (pv 1) pa_nil)) pe_int (nomark _)) (pw_or1 (pt_cmpR op_eq (pe_call GT hr1 (by rfl) gT FT.kp bT .nil pass0 (pa_cons (pv 0) (pa_cons pe_int pa_nil))) pe_int (nomark _))))))
        (pss_one (ps_ret (pe_call GO hr (by rfl) gO FO.kp bO .nil pass0 (pa_cons (pv 0) (pa_cons (pv 1) pa_nil))))) pss_nil)
      (pss_cons (ps_par3 (i := 2) (j := 3) (l := 4) rfl scBent.nd rfl rfl rfl (by decide) (by decide) (by decide) rfl rfl rfl (pa_cons (pe_call GT hr1 (by rfl) gT FT.kp bT .nil pass0 (pa_cons (pv 0) (pa_cons (pe_callB call_len_seq (by rfl) ml PySem.boot_len (pa_cons (pv 1) pa_nil)) pa_nil))) (pa_cons (pe_callTy call_list_of (by rfl) mli (by decide +kernel) (pa_cons (pv 1) pa_nil))
        (pa_cons (pe_call GT hr1 (by rfl) gT FT.kp bT .nil pass0 (pa_cons (pv 0) (pa_cons pe_int pa_nil))) pa_nil))) (by rfl))
      (pss_cons (ps_if (pt_cmpR op_eq (pv 4) pe_int (nomark _)) (pss_one (ps_expr (pe_bm PySem.F.plainAttrs_list PySem.F.slot_list_pop PySem.F.type_list_pop mt_popAt (pv 3) (pa_cons (pv 2) pa_nil))))
        (pss_one (ps_if (pt_cmpR op_eq (pv 4) pe_int (nomark _)) (pss_one (ps_expr (pe_bm PySem.F.plainAttrs_list PySem.F.slot_list_insert PySem.F.type_list_insert mt_insert (pv 3) (pa_cons (pv 2) (pa_cons (pe_ix ix_list (pv 3) (pv 2) (fun _ _ => rfl)) pa_nil)))))
          (pss_one (ps_if (pt_cmpR op_eq (pv 4) pe_int (nomark _)) (pss_one (ps_asg (pe_revA (pe_slice sl_list (pv 3) (po_some (pv 2)) (po_some (pe_op op_add (pv 2) pe_int)))) (pg_cut (pv 3) (po_some (pv 2)) (po_some (pe_op op_add (pv 2) pe_int)))))
            (pss_one (ps_asg (pe_call GB hr (by rfl) gB F.kp bB .nil pass0 (pa_cons (pv 0) (pa_cons (pe_ix ix_list (pv 3) (pv 2) (fun _ _ => rfl)) pa_nil))) (pg_sub (pv 3) (pv 2) set_list))))))))
      (pss_one (ps_ret (pe_ifExp (pt_val (pe_callB call_isLst (by rfl) mis (by decide +kernel) (pa_cons (pv 1) (pa_cons (pe_bltn (v := .ty "list") (by rfl) mli (by decide +kernel) rfl) pa_nil)))) (pv 3) (pe_callTy call_tuple_of (by rfl) mt (by decide +kernel) (pa_cons (pv 3) pa_nil))))))), ?_⟩
    refine ⟨x, rfl, by show 2 ≤ sizeLine; decide, fun tp ntp => ?_⟩
    have s1 : Same H (upd H tp (.tup [.ty "list", .ty "tuple"])) := sm_upd ntp
    have P1 := P0.same s1
    have htp : upd H tp (.tup [.ty "list", .ty "tuple"]) tp = some (.tup [.ty "list", .ty "tuple"]) := upd_same
    generalize upd H tp (.tup [.ty "list", .ty "tuple"]) = H1 at s1 P1 htp
    have b1 : But p H H1 := .same s1
    have dx1 := dp_same (hid_but np b1) dx
    have od : ∀ G c', But p H G → PotN N G p c' → c' ≤ c + 1 → spOdd K M S n [.ref p, x] G Q E := fun G c' b PG hc' =>
      ⟨p, N, x, d, c', rfl, PG, by omega, dp_same (hid_but np b) dx, fx, hM, hM1, hS, hn, fun v H' b' P' g => q v H' (c' + 1) (b.trans b') P' (by omega) (g.mono (by omega) (by omega) (by omega))⟩
    refine ⟨x, tp, d, rfl, htp, dp_same hid_same dx1, _, rfl, ?_⟩
    cases isq : isSeq d with
    | false => exact iteT (iteT ⟨.ref p, rfl, x, rfl, od H1 c b1 P1 (by omega)⟩)
    | true =>
      obtain ⟨a, xs, ds, S', D', rfl, sq0, ax0, rfl, rfl, fA⟩ : ∃ (a : Addr) (xs : List V) (ds : List PyData) (S' D' : Nat), x = .ref a ∧ (SqL K (hid N H) a xs ∨ SqT K (hid N H) a xs) ∧ DpAll K (hid N H) xs ds ∧ S = S' + 1 ∧ n = D' + 1 ∧ FitA M S' D' ds := by
        cases dx with
        | lst hx ax =>
          obtain ⟨S', D', e1, e2, fA⟩ := of_list fx
          exact ⟨_, _, _, S', D', rfl, .inl hx, ax, e1, e2, fA⟩
        | tup hx ax =>
          obtain ⟨S', D', e1, e2, fA⟩ := of_tuple fx
          exact ⟨_, _, _, S', D', rfl, .inr hx, ax, e1, e2, fA⟩
        | _ => cases isq
      have sqG : ∀ G, But p H G → SqL K G a xs ∨ SqT K G a xs := fun G b => sq0.imp (fun h => (hid_but np b |>.trans hid_same).seq h) (fun h => Same.sqT ((hid_but np b).trans hid_same) h)
      have axG : ∀ G, But p H G → DpAll K (hid N G) xs ds := fun G b => dps_same (hid_but np b) ax0
      have dxG : ∀ G, But p H G → Dp K G (.ref a) d := fun G b => dp_same ((hid_but np b).trans hid_same) dx
      have el := dps_len ax0
      have hl : xs.length ≤ 10000 := by
        have := len_sizA ds
        have := fA.sz
        omega
      have fA' := fA.mono (M' := M + 1) (S' := S') (D' := D' + 2) (by omega) (by omega) (by omega)
      refine iteF ⟨.ref a, rfl, a, xs, rfl, sqG _ b1, rfl, _, rfl, ite2 (fun e => ?_) (fun e => ?_)⟩
      · exact iteT ⟨.ref p, rfl, .ref a, rfl, od H1 c b1 P1 (by omega)⟩
      have hpos : 0 < xs.length := by
        rcases Nat.eq_zero_or_pos xs.length with z | z
        · exact absurd (decide_eq_true (congrArg (fun m : Nat => V.int (m : Int)) z)) e
        · exact z
      refine ⟨.ref p, rfl, p, 6, c, rfl, P1.pot, by omega, by decide, by decide, fun r0 o0 lr0 ho0 => ⟨rfl, _, rfl, ite2 (fun e => ?_) (fun e => ?_)⟩⟩
      · have b2 := b1.trans (But.of_upd (p := p) (H := H1) (o := o0))
        exact ⟨.ref p, rfl, .ref a, rfl, od _ (c + 1) b2 (P1.but But.of_upd ⟨o0, upd_same, ho0⟩) (by omega)⟩
      have b2 := b1.trans (But.of_upd (p := p) (H := H1) (o := o0))
      have P2 : PotN N (upd H1 p o0) p (c + 1) := P1.but But.of_upd ⟨o0, upd_same, ho0⟩
      generalize upd H1 p o0 = H2 at b2 P2
      -- at, made, way
      refine ⟨.ref p, rfl, .ref a, rfl, a, xs, rfl, sqG _ b2, p, xs.length, c + 1, rfl, P2.pot, by omega, by omega, by omega, fun i o1 li ho1 => ?_⟩
      have b3 := b2.trans (But.of_upd (p := p) (H := H2) (o := o1))
      have P3 : PotN N (upd H2 p o1) p (c + 2) := P2.but But.of_upd ⟨o1, upd_same, ho1⟩
      generalize upd H2 p o1 = H3 at b3 P3
      have li' : i < xs.length := by omega
      refine ⟨.ref a, rfl, a, xs, rfl, sqG _ b3, fun r nr => ?_⟩
      have nrp : r ≠ p := P3.nep nr
      have nN : N r = false := P3.ne nr
      have nH : H r = none := b3.none nrp nr
      have b4 : But p H (upd H3 r (.lst xs)) := b3.put nH
      have c4 : But p H3 (upd H3 r (.lst xs)) := .same (sm_upd nr)
      have P4 := P3.same (sm_upd (o := .lst xs) nr)
      have r4 : (upd H3 r (.lst xs)) r = some (.lst xs) := upd_same
      generalize upd H3 r (.lst xs) = H4 at b4 c4 P4 r4
      refine ⟨.ref p, rfl, p, 8, c + 2, rfl, P4.pot, by omega, by decide, by decide, fun wy o2 lw ho2 => ?_⟩
      have b5 := b4.trans (But.of_upd (p := p) (H := H4) (o := o2))
      have c5 := c4.trans (But.of_upd (p := p) (H := H4) (o := o2))
      have P5 : PotN N (upd H4 p o2) p (c + 3) := P4.but But.of_upd ⟨o2, upd_same, ho2⟩
      have r5 : (upd H4 p o2) r = some (.lst xs) := by
        rw [upd_ne nrp]
        exact r4
      generalize upd H4 p o2 = H5 at b5 c5 P5 r5
      refine ⟨_, _, _, rfl, ?_⟩
      -- the end
      have fL : ∀ (G : Hp) (ys : List V) (es : List PyData) (c' : Nat), But p H G → Pot G p c' → c' ≤ c + 4 * (D' + 1 + 1) → G r = some (.lst ys) → DpAll K (hid N G) ys es → FitA (M + 1) (3 * S' + 4) (D' + 2) es → Q (.ref r) G := fun G ys es c' b PG hc' hr' ay fy =>
        q _ _ c' b PG hc' ((gv_of (.lst (.inl (.inl (hid_get nN hr'))) ay) (fit_list fy)).mono (by omega) (by omega) (by omega))
      have fT : ∀ (G : Hp) (ys : List V) (es : List PyData) (c' : Nat), But p H G → Pot G p c' → c' ≤ c + 4 * (D' + 1 + 1) → G r = some (.lst ys) → DpAll K (hid N G) ys es → FitA (M + 1) (3 * S' + 4) (D' + 2) es → ∀ t, G t = none → Q (.ref t) (upd G t (.tup ys)) := fun G ys es c' b PG hc' hr' ay fy t nt => by
        obtain ⟨Pt, bt, dt, _⟩ := al_t (K := K) (P0.but b PG) nt ay
        exact q _ _ c' (b.trans bt) Pt.pot hc' ((gv_of dt (fit_tuple fy)).mono (by omega) (by omega) (by omega))
      have hat : atI xs (i : Int) = some xs[i] := atI_nat (List.getElem?_eq_getElem li')
      obtain ⟨e0, he0, de0⟩ := dps_get ax0 (List.getElem?_eq_getElem li')
      have sL5 : SqL K H5 r xs := .inl (.inl r5)
      have put5 : ∀ (ys : List V), But p H (upd H5 r (.lst ys)) := fun ys => b5.put nH
      have pot5 : ∀ (ys : List V), Pot (upd H5 r (.lst ys)) p (c + 3) := fun ys => P5.pot.upd nrp
      refine ⟨_, rfl, rfl, _, rfl, ite2 (fun ew => ?_) (fun ew => ?_)⟩
      · -- one out
        refine ⟨.ref r, rfl, .inl ⟨rfl, _, sL5⟩, .int i, rfl, r, xs, i, i, xs[i], rfl, rfl, r5, by omega, by omega, sq_nat li', List.getElem?_eq_getElem li', ?_⟩
        have ay := dps_erase i (axG _ (put5 (xs.eraseIdx i)))
        have fy := (fA'.sub (List.eraseIdx_sublist ds i)).mono (S' := 3 * S' + 4) (Nat.le_refl _) (by omega) (Nat.le_refl _)
        refine ⟨.ref a, rfl, .ref a, d, rfl, dxG _ (put5 _), _, rfl, ite2 (fun _ => ⟨.ref r, rfl, fL _ _ _ _ (put5 _) (pot5 _) (by omega) upd_same ay fy⟩) (fun _ => ⟨.ref r, rfl, r, _, rfl, .inl ⟨.inl (.inl upd_same), fT _ _ _ _ (put5 _) (pot5 _) (by omega) upd_same ay fy⟩⟩)⟩
      refine ⟨_, rfl, rfl, _, rfl, ite2 (fun ew => ?_) (fun ew => ?_)⟩
      · -- one twice
        refine ⟨.ref r, rfl, .inl ⟨rfl, _, sL5⟩, .int i, rfl, .ref r, rfl, .int i, rfl, r, xs, i, xs[i], rfl, rfl, sL5, hat, r, xs, i, xs[i], rfl, rfl, r5, Nat.lt_of_le_of_lt hl (by decide), by omega, by omega, ?_⟩
        rw [Int.toNat_natCast]
        have ay := dps_app (dps_app (dps_take i (axG _ (put5 (xs.take i ++ [xs[i]] ++ xs.drop i)))) (.cons (dp_same (hid_but np (put5 (xs.take i ++ [xs[i]] ++ xs.drop i))) de0) .nil)) (dps_drop i (axG _ (put5 (xs.take i ++ [xs[i]] ++ xs.drop i))))
        have f1 : FitA (M + 1) S' (D' + 2) [e0] := fA'.sub (List.singleton_sublist.mpr (List.mem_of_getElem? he0))
        have fy := (((fA'.sub (List.take_sublist i ds)).app f1).app (fA'.sub (List.drop_sublist i ds))).mono (S' := 3 * S' + 4) (Nat.le_refl _) (by omega) (Nat.le_refl _)
        refine ⟨.ref a, rfl, .ref a, d, rfl, dxG _ (put5 _), _, rfl, ite2 (fun _ => ⟨.ref r, rfl, fL _ _ _ _ (put5 _) (pot5 _) (by omega) upd_same ay fy⟩) (fun _ => ⟨.ref r, rfl, r, _, rfl, .inl ⟨.inl (.inl upd_same), fT _ _ _ _ (put5 _) (pot5 _) (by omega) upd_same ay fy⟩⟩)⟩
      refine ⟨_, rfl, rfl, _, rfl, ite2 (fun ew => ?_) (fun ew => ?_)⟩
      · -- two exchanged
        refine ⟨.ref r, rfl, .int i, rfl, i, rfl, .int i, rfl, i, 2, rfl, rfl, _, rfl, r, xs, rfl, sL5, fun u1 m1 => ?_⟩
        have g1 : But p H5 (upd H5 u1 (.lst (cutV xs (some (i : Int)) (some ((i : Int) + 2))))) := .same (sm_upd m1)
        have k1 : Same H5 (upd H5 u1 (.lst (cutV xs (some (i : Int)) (some ((i : Int) + 2))))) := sm_upd m1
        have l1 : (upd H5 u1 (.lst (cutV xs (some (i : Int)) (some ((i : Int) + 2))))) u1 = _ := upd_same
        have Q1 := P5.same k1
        generalize upd H5 u1 (.lst (cutV xs (some (i : Int)) (some ((i : Int) + 2)))) = G1 at g1 l1 Q1 k1
        refine ⟨u1, _, rfl, .inl ⟨.inl (.inl l1), fun u2 m2 => ?_⟩⟩
        have k2 : Same H5 (upd G1 u2 (.lst (cutV xs (some (i : Int)) (some ((i : Int) + 2))).reverse)) := k1.trans (sm_upd m2)
        have l2 : (upd G1 u2 (.lst (cutV xs (some (i : Int)) (some ((i : Int) + 2))).reverse)) u2 = _ := upd_same
        have Q2 := P5.same k2
        have n2 : u2 ≠ r := fun z => by
          have := k1.free m2
          rw [z, r5] at this
          cases this
        generalize upd G1 u2 (.lst (cutV xs (some (i : Int)) (some ((i : Int) + 2))).reverse) = G2 at l2 Q2 k2
        have b6 : ∀ ys, But p H (upd G2 r (.lst ys)) := fun ys => (b5.trans (.same k2)).put nH
        have cl := cutV_length xs (some (i : Int)) (some ((i : Int) + 2))
        refine ⟨.ref r, rfl, .int i, rfl, i, rfl, .int i, rfl, i, 2, rfl, rfl, _, rfl, r, u2, xs, _, i, i + 2, rfl, rfl, rfl, by rw [Int.natCast_add]; rfl, k2 _ _ r5, l2, Ne.symm n2, by omega, by omega, ?_, ?_⟩
        · rw [List.length_reverse]
          exact Nat.le_trans (Nat.add_le_add hl (Nat.le_trans cl hl)) (by decide)
        · obtain ⟨es, x6, y6⟩ := dps_cut (axG _ (b6 (xs.take i ++ (cutV xs (some (i : Int)) (some ((i : Int) + 2))).reverse ++ xs.drop (i + 2)))) (some (i : Int)) (some ((i : Int) + 2))
          have ay := dps_app (dps_app (dps_take i (axG _ (b6 (xs.take i ++ (cutV xs (some (i : Int)) (some ((i : Int) + 2))).reverse ++ xs.drop (i + 2))))) (dps_rev x6)) (dps_drop (i + 2) (axG _ (b6 (xs.take i ++ (cutV xs (some (i : Int)) (some ((i : Int) + 2))).reverse ++ xs.drop (i + 2)))))
          have fy := (((fA'.sub (List.take_sublist i ds)).app (fA'.sub y6).rev).app (fA'.sub (List.drop_sublist (i + 2) ds))).mono (S' := 3 * S' + 4) (Nat.le_refl _) (by omega) (Nat.le_refl _)
          refine ⟨.ref a, rfl, .ref a, d, rfl, dxG _ (b6 _), _, rfl, ite2 (fun _ => ⟨.ref r, rfl, fL _ _ _ _ (b6 _) (Q2.pot.upd nrp) (by omega) upd_same ay fy⟩) (fun _ => ⟨.ref r, rfl, r, _, rfl, .inl ⟨.inl (.inl upd_same), fT _ _ _ _ (b6 _) (Q2.pot.upd nrp) (by omega) upd_same ay fy⟩⟩)⟩
      · -- one bent
        have P7 := potN_more P5 r5
        have up7 : Same (hid N H) (hid (fun q => N q || decide (q = r)) H5) := fun qq o hq => by
          obtain ⟨z1, z2⟩ := hid_some hq
          have z3 : qq ≠ r := fun z => by
            rw [z, nH] at z2
            cases z2
          refine hid_get (by rw [z1, decide_eq_false z3]; rfl) (b5 qq o (fun z => ?_) z2)
          rw [z, np] at z1
          cases z1
        have ok0 := fA.ok e0 (List.mem_of_getElem? he0)
        have dp0 := fA.dp e0 (List.mem_of_getElem? he0)
        have sz0 := siz_le ds i e0 he0
        have szA := fA.sz
        refine ⟨.ref p, rfl, .ref r, rfl, .int i, rfl, r, xs, i, xs[i], rfl, rfl, sL5, hat, ?_⟩
        refine h0 p (fun q => N q || decide (q = r)) xs[i] e0 (c + 3) M (siz e0) H5 _ _ P7 (by omega) (dp_same up7 de0) ok0 (Nat.le_refl _) (by omega) hM hM1 (by omega) hn fun v H' c' b' P' hc' g' => ?_
        obtain ⟨dv, hv, fv⟩ := g'
        have r6 : H' r = some (.lst xs) := b' _ _ nrp r5
        refine ⟨.ref r, rfl, .int i, rfl, r, xs, i, i, rfl, rfl, r6, ixN_nat li', ?_⟩
        have b7 : But p H (upd H' r (.lst (xs.set i v))) := (b5.trans b').put nH
        have up8 : Same (hid (fun q => N q || decide (q = r)) H') (hid N (upd H' r (.lst (xs.set i v)))) := fun qq o hq => by
          obtain ⟨z1, z2⟩ := hid_some hq
          obtain ⟨z3, z4⟩ := Bool.or_eq_false_iff.mp z1
          refine hid_get z3 ?_
          rw [upd_ne (of_decide_eq_false z4)]
          exact z2
        have ay := dps_set i (axG _ b7) (dp_same up8 hv)
        have fy : FitA (M + 1) (3 * S' + 4) (D' + 2) (ds.set i dv) := by
          refine ⟨fun z hz => ?_, ?_, fun z hz => ?_⟩
          · rcases List.mem_or_eq_of_mem_set hz with h | h
            · exact fA'.ok z h
            · rw [h]
              exact fv.ok
          · have := sizA_set ds i dv e0 he0
            have := fv.sz
            omega
          · rcases List.mem_or_eq_of_mem_set hz with h | h
            · exact fA'.dp z h
            · rw [h]
              exact Nat.le_trans fv.dp (by omega)
        refine ⟨.ref a, rfl, .ref a, d, rfl, dxG _ b7, _, rfl, ite2 (fun _ => ⟨.ref r, rfl, fL _ _ _ _ b7 (P'.upd nrp) (by omega) upd_same ay fy⟩) (fun _ => ⟨.ref r, rfl, r, _, rfl, .inl ⟨.inl (.inl upd_same), fT _ _ _ _ b7 (P'.upd nrp) (by omega) upd_same ay fy⟩⟩)⟩
theorem ok_bent {f fT fP fO : Addr} {fd fdT fdP fdO : FuncData} (F : Fun K "_law_bent" "_law_bent" sBent f fd) (bB : Binds K fd ["_law_pot_here", "_law_matter"] []) (gB : mg "_law_bent" = some (.ref f)) (FT : Fun K "_law_take" "_law_take" sTake fT fdT) (bT : Binds K fdT ["_law_pot_here", "_law_bound"] []) (gT : mg "_law_take" = some (.ref fT))
    (FP : Fun K "_law_pick" "_law_pick" sPick fP fdP) (bP : Binds K fdP ["_law_pot_here", "_law_some"] []) (gP : mg "_law_pick" = some (.ref fP)) (FO : Fun K "_law_odd" "_law_odd" sOdd fO fdO) (bO : Binds K fdO ["_law_pot_here", "_law_matter"] []) (gO : mg "_law_odd" = some (.ref fO)) (ml : mg "len" = none) (mli : mg "list" = none) (mt : mg "tuple" = none) (mi : mg "int" = none) (ms : mg "str" = none) (mis : mg "isinstance" = none) :
    ∀ n : Nat, FnOk P w K mg base CX0 (n + 4) f fd ["_law_pot_here", "_law_matter"] (spBent K n)
  | 0 => bent_step F bB gB FT bT gT FP bP gP FO bO gO ml mli mt mi ms mis (j := 0) (sp0 := fun _ _ _ _ => False) ⟨fun _ _ _ _ h => h.elim, fun _ _ _ _ _ _ _ _ _ _ _ _ _ h => h.elim⟩ (fun p N x d c M S H Q E _ _ _ _ _ h => absurd h (Nat.not_lt_zero _))
  | n + 1 => bent_step F bB gB FT bT gT FP bP gP FO bO gO ml mli mt mi ms mis (j := n + 1) (ok_bent F bB gB FT bT gT FP bP gP FO bO gO ml mli mt mi ms mis n)
    (fun p N x d c M S H Q E PN hc dx ok sz dp hM hM1 hS hn q => ⟨p, N, x, d, c, M, S, rfl, PN, hc, dx, ⟨ok, sz, Nat.le_of_lt_succ dp⟩, hM, hM1, hS, by omega, fun v H' c' b P' l g => q v H' c' b P' l g⟩)
abbrev sNum : Stmt := topS 1
abbrev sAre : Stmt := topS 2
theorem scNum : FnScope ["thing"] ["thing"] (defScope sNum) := ⟨rfl, rfl, rfl, by decide +kernel, rfl, by decide +kernel, by decide +kernel⟩
theorem scAre : FnScope ["things", "thing"] ["things"] (defScope sAre) := ⟨rfl, rfl, rfl, by decide +kernel, rfl, by decide +kernel, by decide +kernel⟩
theorem ok_num {f : Addr} {fd : FuncData} {k : Nat} (F : Fun K "is_number" "is_number" sNum f fd) (mi : mg "int" = none) (mb : mg "bool" = none) (mis : mg "isinstance" = none) : FnOk P w K mg base CX0 (k + 1) f fd ["thing"] (spNum K) := by
  refine F.ok scNum (fun vs H Q E h => ?_) (fun cdv A outer s H vs Q E hr h => ?_)
  · obtain ⟨x, d, rfl, _⟩ := h
    rfl
  · obtain ⟨x, d, rfl, hd, q⟩ := h
    refine ⟨_, pss_one (ps_ret (pe_and (pe_callB call_isInt (by rfl) mis (by decide +kernel) (pa_cons (pv 0) (pa_cons (pe_bltn (v := .ty "int") (by rfl) mi (by decide +kernel) rfl) pa_nil))) (pe_one (pe_not (pe_callB call_isBool (by rfl) mis (by decide +kernel) (pa_cons (pv 0) (pa_cons (pe_bltn (v := .ty "bool") (by rfl) mb (by decide +kernel) rfl) pa_nil))))))), ?_⟩
    refine ⟨x, rfl, x, d, rfl, hd, _, rfl, ?_⟩
    unfold numD at q
    cases e : isInt d with
    | true =>
      rw [e] at q
      exact iteT ⟨x, rfl, x, d, rfl, hd, _, rfl, q⟩
    | false =>
      rw [e] at q
      exact iteF q
def spAre (K : PySem.W.Frag) : Sp := fun vs H Q _ => ∃ (a : Addr) (xs : List V) (ds : List PyData), vs = [.ref a] ∧ SqT K H a xs ∧ DpAll K H xs ds ∧ xs.length ≤ 100000 ∧ ∀ H', Same H H' → Q (.bl (ds.all numD)) H'
theorem ok_are {f fN : Addr} {fd fdN : FuncData} {k : Nat} (F : Fun K "are_numbers" "are_numbers" sAre f fd) (FN : Fun K "is_number" "is_number" sNum fN fdN) (bN : Binds K fdN ["thing"] []) (gN : mg "is_number" = some (.ref fN)) (mi : mg "int" = none) (mb : mg "bool" = none) (mis : mg "isinstance" = none) (ma : mg "all" = none) :
    FnOk P w K mg base CX0 (k + 2) f fd ["things"] (spAre K) := by
  have GN : FnOk P w K mg base CX0 (k + 1) fN fdN ["thing"] (spNum K) := ok_num FN mi mb mis
  refine F.ok scAre (fun vs H Q E h => ?_) (fun cdv A outer s H vs Q E hr h => ?_)
  · obtain ⟨a, xs, ds, rfl, _⟩ := h
    rfl
  · obtain ⟨a, xs, ds, rfl, hS, ax, hl, q⟩ := h
    refine ⟨_, pss_one (ps_ret (pe_callB (cr_all rfl) (by rfl) ma (by decide +kernel) (pa_cons (pe_lc (own := [("thing", 1)]) (g := gName 1) (tt := tYes) (by rfl) scAre.nd (pi_tup (pv 0))
      (blkOk_by (own := [("thing", 1)]) (N := ["things", "thing"]) (sc := defScope sAre) (by decide +kernel)) (fun _ _ _ _ _ => pg_name (i := 1) scAre.nd rfl (Or.inl rfl)) (fun _ _ _ _ _ => pts_nil)
      (fun _ _ _ _ _ => pe_call GN hr (by rfl) gN FN.kp bN .nil pass0 (pa_cons (pv 1) pa_nil))) pa_nil))), ?_⟩
    refine ⟨.ref a, rfl, a, rfl, ⟨_, hS⟩, fun D nD => ?_⟩
    refine lc_tup (K := K) (a := a) (xs := xs) (fun i H3 => Same H H3 ∧ H3 D = some (.lst (((ds.take i).map numD).map V.bl))) ⟨sm_upd nD, by rw [upd_same, List.take_zero]; rfl⟩ (fun i H3 _ h => Same.sqT h.1 hS) (fun i x H3 hx h => ?_) (fun H3 h => ?_)
    · obtain ⟨d, hd, dd⟩ := dps_get ax hx
      have hi : i < xs.length := (List.getElem?_eq_some_iff.mp hx).1
      refine ⟨rfl, x, rfl, x, d, rfl, dp_same h.1 dd, _, h.2, ?_, Same.put h.1 nD, ?_⟩
      · rw [List.length_map, List.length_map, List.length_take]
        exact line_lt (by omega)
      · rw [upd_same, take_map numD ds i hd, List.map_append]
        rfl
    · have h2 := h.2
      rw [dps_len ax, List.take_length] at h2
      refine ⟨D, _, rfl, .inl (.inl h2), ?_⟩
      refine q_eq (congrArg V.bl ?_) (q _ h.1)
      rw [List.all_map]
      rfl
abbrev sWhole : Stmt := topS 16
theorem scWhole : FnScope ["_law_matter"] ["_law_matter"] (defScope sWhole) := ⟨rfl, rfl, rfl, by decide +kernel, rfl, by decide +kernel, by decide +kernel⟩
theorem ok_whole {f : Addr} {fd : FuncData} {k : Nat} (F : Fun K "_law_whole" "_law_whole" sWhole f fd) (mi : mg "int" = none) (mb : mg "bool" = none) (mis : mg "isinstance" = none) : FnOk P w K mg base CX0 (k + 1) f fd ["_law_matter"] (spNum K) := by
  refine F.ok scWhole (fun vs H Q E h => ?_) (fun cdv A outer s H vs Q E hr h => ?_)
  · obtain ⟨x, d, rfl, _⟩ := h
    rfl
  · obtain ⟨x, d, rfl, hd, q⟩ := h
    refine ⟨_, pss_one (ps_ret (pe_and (pe_callB call_isInt (by rfl) mis (by decide +kernel) (pa_cons (pv 0) (pa_cons (pe_bltn (v := .ty "int") (by rfl) mi (by decide +kernel) rfl) pa_nil))) (pe_one (pe_not (pe_callB call_isBool (by rfl) mis (by decide +kernel) (pa_cons (pv 0) (pa_cons (pe_bltn (v := .ty "bool") (by rfl) mb (by decide +kernel) rfl) pa_nil))))))), ?_⟩
    refine ⟨x, rfl, x, d, rfl, hd, _, rfl, ?_⟩
    unfold numD at q
    cases e : isInt d with
    | true =>
      rw [e] at q
      exact iteT ⟨x, rfl, x, d, rfl, hd, _, rfl, q⟩
    | false =>
      rw [e] at q
      exact iteF q
abbrev sWanted : Stmt := topS 17
theorem scWanted : FnScope ["_law_matter", "_law_part", "_law_digit", "_law_k", "_law_lone", "_law_mate"] ["_law_matter"] (defScope sWanted) := ⟨rfl, rfl, rfl, by decide +kernel, rfl, by decide +kernel, by decide +kernel⟩
/-! ### _law_wanted -/
def partB : PyData → Bool
  | .tuple ds => decide (ds.length = 3) && ds.all numD
  | _ => false
def nthD (i : Nat) : PyData → Int
  | .tuple ds => intD (ds[i]?.getD .none)
  | _ => 0
def limF (k : Nat) (d : PyData) : Bool := decide (0 ≤ nthD 1 d) && (decide (nthD 1 d ≤ nthD 2 d) && decide (nthD 2 d ≤ k))
def fallB (ds : List PyData) : Bool := (ds.zip ds.tail).all fun q => decide (nthD 0 q.2 < nthD 0 q.1)
def boxB : PyData → Bool
  | .tuple ds => decide (0 < ds.length) && (ds.all partB && ((ds.mapIdx limF).all id && fallB ds))
  | _ => false
theorem part_get {H : Hp} {x : V} {d : PyData} (h : Dp K H x d) (e : partB d = true) : ∃ t, x = .ref t ∧ SqT K H t [.int (nthD 0 d), .int (nthD 1 d), .int (nthD 2 d)] := by
  cases h with
  | @tup t ys ds hy ay =>
    obtain ⟨e1, e2⟩ := Bool.and_eq_true_iff.mp (show (decide (ds.length = 3) && ds.all numD) = true from e)
    have e1 := of_decide_eq_true e1
    have ev := nums_v ay e2
    refine ⟨t, rfl, ?_⟩
    match ds, e1 with
    | [a, b, c], _ =>
      rw [ev] at hy
      exact hy
  | _ => cases e
theorem cut_tail (xs : List V) : cutV xs (some 1) none = xs.tail := by
  show (xs.drop (HT.sIx xs.length 0 (some ((1 : Nat) : Int)))).take (xs.length - HT.sIx xs.length 0 (some ((1 : Nat) : Int))) = xs.tail
  rw [HT.sIx_nat]
  cases xs with
  | nil => rfl
  | cons x r =>
    have e : min 1 (x :: r).length = 1 := Nat.min_eq_left (by simp)
    rw [e]
    show r.take r.length = r
    exact List.take_length
theorem ok_wanted {f fW : Addr} {fd fdW : FuncData} {k : Nat} (F : Fun K "_law_wanted" "_law_wanted" sWanted f fd) (FW : Fun K "_law_whole" "_law_whole" sWhole fW fdW) (bW : Binds K fdW ["_law_matter"] []) (gW : mg "_law_whole" = some (.ref fW)) (mi : mg "int" = none) (mb : mg "bool" = none) (ml : mg "len" = none) (mt : mg "tuple" = none) (mis : mg "isinstance" = none) (ma : mg "all" = none) (mz : mg "zip" = none) (men : mg "enumerate" = none) :
    FnOk P w K mg base CX0 (k + 2) f fd ["_law_matter"] (spAsk K boxB) := by
  have GW : FnOk P w K mg base CX0 (k + 1) fW fdW ["_law_matter"] (spNum K) := ok_whole FW mi mb mis
  refine F.ok scWanted (fun vs H Q E h => ?_) (fun cdv A outer s H vs Q E hr h => ?_)
  · obtain ⟨x, d, rfl, _⟩ := h
    rfl
  · obtain ⟨x, d, rfl, hd, hz, hs, q⟩ := h
    refine ⟨_, pss_cons (ps_if (PW.pt (pw_or (pt_not (pt_val (pe_callB call_isTup (by rfl) mis (by decide +kernel) (pa_cons (pv 0) (pa_cons (pe_bltn (v := .ty "tuple") (by rfl) mt (by decide +kernel) rfl) pa_nil))))) (pw_or1 (pt_cmpR (op_eqD hr.units) (pv 0) (pe_tup pa_nil) (nomark _))))) (pss_one (ps_ret pe_bl)) pss_nil)
      (pss_cons (ps_for PassesOwn.never rfl (pi_tup (pv 0)) (pg_name (i := 1) scWanted.nd rfl (.inl rfl))
        (pss_one (ps_if (PW.pt (pw_or (pt_not (pt_val (pe_callB call_isTup (by rfl) mis (by decide +kernel) (pa_cons (pv 1) (pa_cons (pe_bltn (v := .ty "tuple") (by rfl) mt (by decide +kernel) rfl) pa_nil))))) (pw_or (pt_cmpR op_ne (pe_callB call_len_seq (by rfl) ml PySem.boot_len (pa_cons (pv 1) pa_nil)) pe_int (nomark _))
          (pw_or1 (pt_not (pt_val (pe_callB (cr_all rfl) (by rfl) ma (by decide +kernel) (pa_cons (pe_lc (own := [("_law_digit", 2)]) (g := gName 2) (tt := tYes) (by rfl) scWanted.nd (pi_tup (pv 1))
            (blkOk_by (own := [("_law_digit", 2)]) (N := ["_law_matter", "_law_part", "_law_digit", "_law_k", "_law_lone", "_law_mate"]) (sc := defScope sWanted) (by decide +kernel)) (fun _ _ _ _ _ => pg_name (i := 2) scWanted.nd rfl (Or.inl rfl)) (fun _ _ _ _ _ => pts_nil)
            (fun _ _ _ _ _ => pe_call GW hr (by rfl) gW FW.kp bW .nil pass0 (pa_cons (pv 2) pa_nil))) pa_nil))))))))
          (pss_one (ps_ret pe_bl)) pss_nil)))
      (pss_cons (ps_if (pt_not (pt_val (pe_callB (cr_all rfl) (by rfl) ma (by decide +kernel) (pa_cons (pe_lc (own := [("_law_k", 3), ("_law_part", 1)]) (g := gTup K 2 (gCons (gName 3) (gCons (gName 1) gNil))) (tt := tYes) (by rfl) scWanted.nd (pi_enT (by rfl) men (pa_cons (pv 0) pa_nil))
        (blkOk_by (own := [("_law_k", 3), ("_law_part", 1)]) (N := ["_law_matter", "_law_part", "_law_digit", "_law_k", "_law_lone", "_law_mate"]) (sc := defScope sWanted) (by decide +kernel))
        (fun _ _ _ _ _ => by exact pg_tup rfl (pgs_cons (pg_name (i := 3) scWanted.nd rfl (Or.inl rfl) (.inr rfl)) (pgs_cons (pg_name (i := 1) scWanted.nd rfl (Or.inl rfl) (.inr rfl)) pgs_nil)))
        (fun _ _ _ _ _ => pts_nil) (fun _ _ _ _ _ => pe_chain3 op_le op_le op_le pe_int (pe_ix (r := rIxT K) ix_tup (pv 1) pe_int (fun _ _ => rfl)) (pe_ix (r := rIxT K) ix_tup (pv 1) pe_int (fun _ _ => rfl)) (pv 3))) pa_nil)))) (pss_one (ps_ret pe_bl)) pss_nil)
      (pss_one (ps_ret (pe_callB (cr_all rfl) (by rfl) ma (by decide +kernel) (pa_cons (pe_lc (own := [("_law_lone", 4), ("_law_mate", 5)]) (g := gTup K 2 (gCons (gName 4) (gCons (gName 5) gNil))) (tt := tYes) (by rfl) scWanted.nd (RZ.pi_zipA (by rfl) mz (pa_cons (pv 0) (pa_cons (pe_slice sl_tupA (pv 0) (po_some pe_int) po_none) pa_nil)))
        (blkOk_by (own := [("_law_lone", 4), ("_law_mate", 5)]) (N := ["_law_matter", "_law_part", "_law_digit", "_law_k", "_law_lone", "_law_mate"]) (sc := defScope sWanted) (by decide +kernel))
        (fun _ _ _ _ _ => by exact pg_tup rfl (pgs_cons (pg_name (i := 4) scWanted.nd rfl (Or.inl rfl) (.inr rfl)) (pgs_cons (pg_name (i := 5) scWanted.nd rfl (Or.inl rfl) (.inr rfl)) pgs_nil)))
        (fun _ _ _ _ _ => pts_nil) (fun _ _ _ _ _ => pe_cmpR op_gt (pe_ix (r := rIxT K) ix_tup (pv 4) pe_int (fun _ _ => rfl)) (pe_ix (r := rIxT K) ix_tup (pv 5) pe_int (fun _ _ => rfl)) (nomark _))) pa_nil)))))), ?_⟩
    refine ⟨x, rfl, x, d, rfl, hd, _, rfl, ?_⟩
    have hd' := hd
    cases hd with
    | @tup a xs ds hx ax =>
      have q' : ∀ H', Same H H' → Q (.bl (decide (0 < ds.length) && (ds.all partB && ((ds.mapIdx limF).all id && fallB ds)))) H' := q
      have el := dps_len ax
      have ln := tup_len ax hz
      refine iteF ⟨.ref a, rfl, Nat.zero_le _, fun t nt => ?_⟩
      have s1 : Same H (upd H t (.tup [])) := sm_upd nt
      refine ⟨.tuple ds, .tuple [], dp_same s1 hd', .tup (.inl (.inl upd_same)) .nil, hs, rfl, _, rfl, ?_⟩
      rw [eqv_nil]
      generalize upd H t (.tup []) = H1 at s1
      by_cases h0 : ds.length = 0
      · rw [decide_eq_true h0]
        rw [decide_eq_false (by omega)] at q'
        exact iteT (q' _ s1)
      rw [decide_eq_false h0]
      rw [decide_eq_true (by omega : 0 < ds.length), Bool.true_and] at q'
      have hx1 := Same.sqT s1 hx
      have bad : ∀ (i : Nat) (di : PyData), ds[i]? = some di → partB di = false → ∀ G, Same H G → Q (.bl false) G := fun i di hi hb G sG => by
        have e : ds.all partB = false := by
          rw [List.all_eq_false]
          exact ⟨di, List.mem_of_getElem? hi, by rw [hb]; exact Bool.false_ne_true⟩
        rw [e] at q'
        exact q' G sG
      refine iteF ⟨.ref a, rfl, a, rfl, ⟨_, hx1⟩, for_tup (K := K) (a := a) (xs := xs) (fun i σ G => ∃ y1, σ = [some (.ref a), y1, none, none, none, none] ∧ Same H G ∧ (ds.take i).all partB = true) ⟨none, rfl, s1, rfl⟩ (fun i σ G _ h => ?_) ?_ ?_⟩
      · obtain ⟨_, _, sG, _⟩ := h
        exact Same.sqT sG hx
      · rintro i y σ G hy ⟨y1, rfl, sG, hall⟩
        obtain ⟨di, hdi, dp⟩ := dps_get ax hy
        have dpG := dp_same sG dp
        have no := bad i di hdi
        have next : partB di = true → ∀ G', Same H G' → ∃ y1, ([some (.ref a), some y, none, none, none, none] : L2.St) = [some (.ref a), y1, none, none, none, none] ∧ Same H G' ∧ (ds.take (i + 1)).all partB = true := fun e G' sG' => by
          refine ⟨_, rfl, sG', ?_⟩
          rw [List.take_add_one, hdi, List.all_append, hall]
          show (true && (partB di && true)) = true
          rw [e]
          rfl
        refine ⟨y, rfl, y, di, rfl, dpG, _, rfl, ?_⟩
        cases dpG with
        | @tup t ys es hty aty =>
          have ley := dps_len aty
          have sz : siz (.tuple es) ≤ 900 := by
            have h1 := siz_le ds i _ hdi
            have h2 : sizA ds + 1 ≤ 900 := hz
            omega
          have lny := tup_len aty sz
          refine iteF ⟨.ref t, rfl, t, ys, rfl, .inr hty, rfl, _, rfl, ?_⟩
          by_cases h3 : es.length = 3
          · have e3 : decide (V.int (ys.length : Nat) = V.int 3) = true := decide_eq_true (by rw [ley, h3]; rfl)
            rw [e3]
            refine iteF ⟨.ref t, rfl, t, rfl, ⟨_, hty⟩, fun D nD => ?_⟩
            refine lc_tup (K := K) (a := t) (xs := ys) (fun j G3 => Same G G3 ∧ G3 D = some (.lst (((es.take j).map numD).map V.bl))) ⟨sm_upd nD, by rw [upd_same, List.take_zero]; rfl⟩ (fun j G3 _ h => Same.sqT h.1 hty) (fun j x G3 hx h => ?_) (fun G3 h => ?_)
            · obtain ⟨d, hd, dd⟩ := dps_get aty hx
              have hj : j < ys.length := (List.getElem?_eq_some_iff.mp hx).1
              refine ⟨rfl, x, rfl, x, d, rfl, dp_same h.1 dd, _, h.2, ?_, Same.put h.1 nD, ?_⟩
              · rw [List.length_map, List.length_map, List.length_take]
                exact line_lt (by omega)
              · rw [upd_same, take_map numD es j hd, List.map_append]
                rfl
            · have h2 := h.2
              rw [ley, List.take_length] at h2
              refine ⟨D, _, rfl, .inl (.inl h2), _, rfl, ?_⟩
              have eall : (es.map numD).all id = es.all numD := by
                rw [List.all_map]
                rfl
              rw [eall]
              cases en : es.all numD with
              | false =>
                refine iteT (no ?_ _ (sG.trans h.1))
                show (decide (es.length = 3) && es.all numD) = false
                rw [en, Bool.and_false]
              | true =>
                refine iteF (next ?_ _ (sG.trans h.1))
                show (decide (es.length = 3) && es.all numD) = true
                rw [en, decide_eq_true h3]
                rfl
          · have e3 : decide (V.int (ys.length : Nat) = V.int 3) = false := decide_eq_false fun z => by
              have := V.int.inj z
              omega
            rw [e3]
            refine iteT (iteT (no ?_ _ sG))
            show (decide (es.length = 3) && es.all numD) = false
            rw [decide_eq_false h3]
            rfl
        | _ => exact iteT (iteT (no rfl _ sG))
      · rintro σ G ⟨y1, rfl, sG, hall⟩
        rw [el, List.take_length] at hall
        rw [hall, Bool.true_and] at q'
        have hxG := Same.sqT sG hx
        have part : ∀ (i : Nat) (y : V), xs[i]? = some y → ∃ di t, ds[i]? = some di ∧ y = .ref t ∧ ∀ G', Same H G' → SqT K G' t [.int (nthD 0 di), .int (nthD 1 di), .int (nthD 2 di)] := fun i y hy => by
          obtain ⟨di, hdi, dp⟩ := dps_get ax hy
          obtain ⟨t, rfl, ht⟩ := part_get dp ((List.all_eq_true.mp hall) di (List.mem_of_getElem? hdi))
          exact ⟨di, t, hdi, rfl, fun G' sG' => Same.sqT sG' ht⟩
        refine ⟨.ref a, rfl, a, _, rfl, hxG, fun D nD => ?_⟩
        refine lc_gen (n := xs.length) (fun i G3 => Same G G3 ∧ G3 D = some (.lst (((ds.take i).mapIdx limF).map V.bl))) ⟨sm_upd nD, by rw [upd_same, List.take_zero]; rfl⟩ (fun i G3 hi h => ⟨_, _, Same.sqT h.1 hxG, List.getElem?_eq_getElem hi⟩) (fun G3 h => ⟨_, Same.sqT h.1 hxG, Nat.le_refl _⟩) (fun i G3 v G4 hi h hy => ?_) (fun G3 h => ?_)
        · obtain ⟨T, y, rfl, nT, rfl, hyv⟩ := hy
          obtain ⟨di, t, hdi, rfl, ht⟩ := part i y (hyv _ (Same.sqT h.1 hxG))
          have s4 : Same G (upd G3 T (.tup [.int (i : Nat), .ref t])) := h.1.trans (sm_upd nT)
          have d4 := sm_upd (o := .tup [.int (i : Nat), .ref t]) nT _ _ h.2
          refine ⟨T, _, rfl, .inl (.inl upd_same), rfl, _, _, rfl, _, _, rfl, rfl, rfl, ?_⟩
          generalize upd G3 T (.tup [.int (i : Nat), .ref t]) = H5 at s4 d4
          have ht5 := ht H5 (sG.trans s4)
          have fin : ∃ acc, H5 D = some (.lst acc) ∧ acc.length < sizeLine ∧ Same G (upd H5 D (.lst (acc ++ [.bl (limF i di)]))) ∧ (upd H5 D (.lst (acc ++ [.bl (limF i di)]))) D = some (.lst (((ds.take (i + 1)).mapIdx limF).map V.bl)) := by
            refine ⟨_, d4, ?_, Same.put s4 nD, ?_⟩
            · rw [List.length_map, List.length_mapIdx, List.length_take]
              exact line_lt (by omega)
            · rw [upd_same, mapIdx_take limF ds i hdi, List.map_append]
              rfl
          unfold limF at fin
          refine ⟨.ref t, rfl, t, _, 1, .int (nthD 1 di), rfl, rfl, ht5, atI_nat (j := 1) rfl, _, _, rfl, rfl, _, rfl, ?_⟩
          cases c1 : decide (0 ≤ nthD 1 di) with
          | false =>
            rw [c1] at fin
            exact iteF fin
          | true =>
            rw [c1] at fin
            refine iteT ⟨.ref t, rfl, t, _, 2, .int (nthD 2 di), rfl, rfl, ht5, atI_nat (j := 2) rfl, _, _, rfl, rfl, _, rfl, ?_⟩
            cases c2 : decide (nthD 1 di ≤ nthD 2 di) with
            | false =>
              rw [c2] at fin
              exact iteF fin
            | true =>
              rw [c2] at fin
              exact iteT ⟨_, rfl, _, _, rfl, rfl, fin⟩
        · have h2 := h.2
          rw [el, List.take_length] at h2
          refine ⟨D, _, rfl, .inl (.inl h2), _, rfl, ?_⟩
          have sH := sG.trans h.1
          cases el2 : (ds.mapIdx limF).all id with
          | false =>
            rw [el2] at q'
            exact iteT (q' _ sH)
          | true =>
            rw [el2, Bool.true_and] at q'
            have hx2 := Same.sqT sH hx
            generalize G3 = H2 at sH hx2
            refine iteF ⟨.ref a, rfl, .ref a, rfl, 1, rfl, a, _, rfl, hx2, fun hw => ?_, fun hw b nb => ?_⟩
            case' refine_1 =>
              have sB := Same.refl H2
              have hb : SqT K H2 a xs.tail := by
                have h1 := hw.1
                rw [show (1 : Int) = ((1 : Nat) : Int) from rfl, HT.sIx_nat] at h1
                exfalso
                omega
            case' refine_2 =>
              have sB := sm_upd (o := .tup (cutV xs (some 1) none)) nb
              have hb : SqT K (upd H2 b (.tup (cutV xs (some 1) none))) b xs.tail := by
                refine .inl (.inl ?_)
                rw [upd_same, cut_tail]
            all_goals
              refine ⟨_, _, _, _, rfl, .inr ⟨Same.sqT sB hx2, hb, fun D2 nD2 => ?_⟩⟩
              refine lc_gen (n := (ds.zip ds.tail).length) (fun i G3 => Same (_ : Hp) G3 ∧ G3 D2 = some (.lst ((((ds.zip ds.tail).take i).map fun q => decide (nthD 0 q.2 < nthD 0 q.1)).map V.bl))) ⟨sm_upd nD2, by rw [upd_same, List.take_zero]; rfl⟩ (fun i G3 hi h => ?_) (fun G3 h => ?_) (fun i G3 v G4 hi h hy => ?_) (fun G3 h => ?_)
              · rw [List.length_zip, List.length_tail] at hi
                exact ⟨_, _, _, _, Same.sqT (sB.trans h.1) hx2, Same.sqT h.1 hb, List.getElem?_eq_getElem (by omega), List.getElem?_eq_getElem (by rw [List.length_tail]; omega)⟩
              · refine ⟨_, _, Same.sqT (sB.trans h.1) hx2, Same.sqT h.1 hb, ?_⟩
                rw [List.length_zip, List.length_tail, List.length_tail]
                omega
              · obtain ⟨T, y, y2, rfl, nT, rfl, hy1, hy2⟩ := hy
                obtain ⟨d1, t1, hd1, rfl, ht1⟩ := part i y (hy1 _ (Same.sqT (sB.trans h.1) hx2))
                have hy2' := hy2 _ (Same.sqT h.1 hb)
                rw [List.getElem?_tail] at hy2'
                obtain ⟨d2, t2, hd2, rfl, ht2⟩ := part (i + 1) y2 hy2'
                have hp : (ds.zip ds.tail)[i]? = some (d1, d2) := by
                  rw [List.getElem?_zip_eq_some, List.getElem?_tail]
                  exact ⟨hd1, hd2⟩
                have s4 := sm_upd (o := .tup [.ref t1, .ref t2]) nT
                have sAll := sH.trans (sB.trans (h.1.trans s4))
                refine ⟨T, _, rfl, .inl (.inl upd_same), rfl, _, _, rfl, _, _, rfl, rfl, rfl, ?_⟩
                refine ⟨.ref t1, rfl, t1, _, 0, .int (nthD 0 d1), rfl, rfl, ht1 _ sAll, atI_nat (j := 0) rfl, .ref t2, rfl, t2, _, 0, .int (nthD 0 d2), rfl, rfl, ht2 _ sAll, atI_nat (j := 0) rfl, _, _, rfl, rfl, _, s4 _ _ h.2, ?_, Same.put (h.1.trans s4) nD2, ?_⟩
                · rw [List.length_map, List.length_map, List.length_take]
                  rw [List.length_zip] at hi
                  exact line_lt (by omega)
                · rw [upd_same, take_map (fun q : PyData × PyData => decide (nthD 0 q.2 < nthD 0 q.1)) (ds.zip ds.tail) i hp, List.map_append]
                  rfl
              · have h2 := h.2
                rw [List.take_length] at h2
                refine ⟨D2, _, rfl, .inl (.inl h2), q_eq (congrArg V.bl ?_) (q' _ (sH.trans (sB.trans h.1)))⟩
                rw [List.all_map]
                rfl
    | _ => exact iteT (iteT (q H (Same.refl _)))
theorem lay_get : ∀ {ds : List PyData} {i : Nat} {d : PyData}, PyData.canLayAll0 ds = true → ds[i]? = some d → d.canLay0 = true
  | [], i, d, _, h => by simp at h
  | a :: r, 0, d, s, h => by
    cases (Option.some.inj h : a = d)
    exact (Bool.and_eq_true_iff.mp s).1
  | a :: r, i + 1, d, s, h => lay_get (ds := r) (i := i) (Bool.and_eq_true_iff.mp s).2 h
theorem shp_get {ds : List PyData} {i : Nat} {d : PyData} (s : SeqAt.shaped (.tuple ds) = true) (h : ds[i]? = some d) : SeqAt.shaped d = true := by
  obtain ⟨h1, h2⟩ := Bool.and_eq_true_iff.mp (show (PyData.canLayAll0 ds && decide (PyData.depthAll ds + 1 ≤ 64)) = true from s)
  show (d.canLay0 && decide (d.depth ≤ 64)) = true
  rw [lay_get h1 h, Bool.true_and]
  have := dep_get h
  have := of_decide_eq_true h2
  exact decide_eq_true (by omega)
theorem siz_get : ∀ {ds : List PyData} {i : Nat} {d : PyData}, ds[i]? = some d → siz d ≤ sizA ds
  | [], i, d, h => by simp at h
  | a :: r, 0, d, h => by
    cases (Option.some.inj h : a = d)
    exact Nat.le_add_right _ _
  | a :: r, i + 1, d, h => Nat.le_trans (siz_get (ds := r) (i := i) h) (Nat.le_add_left _ _)
abbrev sTriple : Stmt := topS 5
abbrev sFolkIn : Stmt := topS 6
abbrev sIsBox : Stmt := topS 4
theorem scTriple : FnScope ["thing"] ["thing"] (defScope sTriple) := ⟨rfl, rfl, rfl, by decide +kernel, rfl, by decide +kernel, by decide +kernel⟩
theorem scFolkIn : FnScope ["box", "who", "least", "greatest"] ["box"] (defScope sFolkIn) := ⟨rfl, rfl, rfl, by decide +kernel, rfl, by decide +kernel, by decide +kernel⟩
theorem scIsBox : FnScope ["thing", "heights", "part", "taller", "shorter", "place", "who", "least", "greatest"] ["thing"] (defScope sIsBox) := ⟨rfl, rfl, rfl, by decide +kernel, rfl, by decide +kernel, by decide +kernel⟩
/-! ### is_triple -/
theorem ok_triple {f fA : Addr} {fd fdA : FuncData} {k : Nat} (F : Fun K "is_triple" "is_triple" sTriple f fd) (FA : Fun K "are_numbers" "are_numbers" sAre fA fdA) (bA : Binds K fdA ["things"] []) (gA : mg "are_numbers" = some (.ref fA)) (GA : FnOk P w K mg base CX0 (k + 2) fA fdA ["things"] (spAre K)) (ml : mg "len" = none) (mt : mg "tuple" = none) (mis : mg "isinstance" = none) :
    FnOk P w K mg base CX0 (k + 3) f fd ["thing"] (spAsk K partB) := by
  refine F.ok scTriple (fun vs H Q E h => ?_) (fun cdv A outer s H vs Q E hr h => ?_)
  · obtain ⟨x, d, rfl, _⟩ := h
    rfl
  · obtain ⟨x, d, rfl, hd, hz, hs, q⟩ := h
    refine ⟨_, pss_one (ps_ret (pe_and (pe_callB call_isTup (by rfl) mis (by decide +kernel) (pa_cons (pv 0) (pa_cons (pe_bltn (v := .ty "tuple") (by rfl) mt (by decide +kernel) rfl) pa_nil))) (pe_and (pe_cmpR op_eq (pe_callB call_len_seq (by rfl) ml PySem.boot_len (pa_cons (pv 0) pa_nil)) pe_int (nomark _))
      (pe_one (pe_call GA hr (by rfl) gA FA.kp bA .nil pass0 (pa_cons (pv 0) pa_nil)))))), ?_⟩
    refine ⟨x, rfl, x, d, rfl, hd, _, rfl, ?_⟩
    cases hd with
    | @tup a xs ds hx ax =>
      have q' : ∀ H', Same H H' → Q (.bl (decide (ds.length = 3) && ds.all numD)) H' := q
      have el := dps_len ax
      have ln := tup_len ax hz
      refine iteT ⟨.ref a, rfl, a, xs, rfl, .inr hx, rfl, _, rfl, ?_⟩
      by_cases h2 : ds.length = 3
      · rw [decide_eq_true h2, Bool.true_and] at q'
        exact iteD (by rw [el, h2]; rfl) ⟨.ref a, rfl, a, xs, ds, rfl, hx, ax, by omega, q'⟩
      · rw [decide_eq_false h2] at q'
        have e : decide (V.int (xs.length : Nat) = V.int 3) = false := decide_eq_false fun z => by
          have := V.int.inj z
          omega
        rw [e]
        exact iteF (q' H (Same.refl _))
    | _ => exact iteF (q H (Same.refl _))
/-! ### folk_in -/
def spFolkIn (K : PySem.W.Frag) : Sp := fun vs H Q _ => ∃ (a : Addr) (xs : List V) (ds : List PyData), vs = [.ref a] ∧ SqT K H a xs ∧ DpAll K H xs ds ∧ ds.all partB = true ∧ xs.length ≤ 900 ∧ ∀ p H', Same H H' → H' p = some (.lst ((ds.map (nthD 0)).map V.int)) → Q (.ref p) H'
theorem ok_folkIn {f : Addr} {fd : FuncData} {k : Nat} (F : Fun K "folk_in" "folk_in" sFolkIn f fd) : FnOk P w K mg base CX0 (k + 1) f fd ["box"] (spFolkIn K) := by
  refine F.ok scFolkIn (fun vs H Q E h => ?_) (fun cdv A outer s H vs Q E hr h => ?_)
  · obtain ⟨a, xs, ds, rfl, _⟩ := h
    rfl
  · obtain ⟨a, xs, ds, rfl, hx, ax, hp, hl, q⟩ := h
    refine ⟨_, pss_one (ps_ret (pe_lc (own := [("who", 1), ("least", 2), ("greatest", 3)]) (g := gTup K 3 (gCons (gName 1) (gCons (gName 2) (gCons (gName 3) gNil)))) (tt := tYes) (by rfl) scFolkIn.nd (pi_tup (pv 0))
      (blkOk_by (own := [("who", 1), ("least", 2), ("greatest", 3)]) (N := ["box", "who", "least", "greatest"]) (sc := defScope sFolkIn) (by decide +kernel))
      (fun _ _ _ _ _ => by exact pg_tup rfl (pgs_cons (pg_name (i := 1) scFolkIn.nd rfl (Or.inl rfl) (.inr rfl)) (pgs_cons (pg_name (i := 2) scFolkIn.nd rfl (Or.inl rfl) (.inr rfl)) (pgs_cons (pg_name (i := 3) scFolkIn.nd rfl (Or.inl rfl) (.inr rfl)) pgs_nil))))
      (fun _ _ _ _ _ => pts_nil) (fun _ _ _ _ _ => pv 1))), ?_⟩
    refine ⟨.ref a, rfl, a, rfl, ⟨_, hx⟩, fun D nD => ?_⟩
    refine lc_tup (K := K) (a := a) (xs := xs) (fun i H3 => Same H H3 ∧ H3 D = some (.lst (((ds.take i).map (nthD 0)).map V.int))) ⟨sm_upd nD, by rw [upd_same, List.take_zero]; rfl⟩ (fun i H3 _ h => Same.sqT h.1 hx) (fun i x H3 hxi h => ?_) (fun H3 h => ?_)
    · obtain ⟨d, hd, dd⟩ := dps_get ax hxi
      have hi : i < xs.length := (List.getElem?_eq_some_iff.mp hxi).1
      obtain ⟨t, rfl, ht⟩ := part_get (dp_same h.1 dd) ((List.all_eq_true.mp hp) d (List.mem_of_getElem? hd))
      refine ⟨t, _, rfl, ht, rfl, _, _, rfl, _, _, rfl, _, _, rfl, rfl, rfl, _, rfl, _, h.2, ?_, Same.put h.1 nD, ?_⟩
      · rw [List.length_map, List.length_map, List.length_take]
        exact line_lt (by omega)
      · rw [upd_same, take_map (nthD 0) ds i hd, List.map_append]
        rfl
    · have h2 := h.2
      rw [dps_len ax, List.take_length] at h2
      exact q D H3 h.1 h2
/-! ### is_box -/
theorem fall_eq (ds : List PyData) : (((ds.map (nthD 0)).zip (ds.map (nthD 0)).tail).all fun q => decide (q.2 < q.1)) = fallB ds := by
  unfold fallB
  rw [← List.map_tail, List.zip_map, List.all_map]
  rfl
theorem cut_lst (xs : List V) : cutV xs (some 1) none = xs.tail := cut_tail xs
theorem ok_isBox {f fT fF : Addr} {fd fdT fdF : FuncData} {k : Nat} (F : Fun K "is_box" "is_box" sIsBox f fd) (FT : Fun K "is_triple" "is_triple" sTriple fT fdT) (bT : Binds K fdT ["thing"] []) (gT : mg "is_triple" = some (.ref fT)) (GT : FnOk P w K mg base CX0 (k + 3) fT fdT ["thing"] (spAsk K partB))
    (FF : Fun K "folk_in" "folk_in" sFolkIn fF fdF) (bF : Binds K fdF ["box"] []) (gF : mg "folk_in" = some (.ref fF)) (GF : FnOk P w K mg base CX0 (k + 3) fF fdF ["box"] (spFolkIn K)) (ml : mg "len" = none) (mt : mg "tuple" = none) (mis : mg "isinstance" = none) (ma : mg "all" = none) (mz : mg "zip" = none) (men : mg "enumerate" = none) :
    FnOk P w K mg base CX0 (k + 4) f fd ["thing"] (spAsk K boxB) := by
  refine F.ok scIsBox (fun vs H Q E h => ?_) (fun cdv A outer s H vs Q E hr h => ?_)
  · obtain ⟨x, d, rfl, _⟩ := h
    rfl
  · obtain ⟨x, d, rfl, hd, hz, hs, q⟩ := h
    refine ⟨_, pss_cons (ps_if (PW.pt (pw_or (pt_not (pt_val (pe_callB call_isTup (by rfl) mis (by decide +kernel) (pa_cons (pv 0) (pa_cons (pe_bltn (v := .ty "tuple") (by rfl) mt (by decide +kernel) rfl) pa_nil))))) (pw_or1 (pt_cmpR op_eq (pe_callB call_len_seq (by rfl) ml PySem.boot_len (pa_cons (pv 0) pa_nil)) pe_int (nomark _))))) (pss_one (ps_ret pe_bl)) pss_nil)
      (pss_cons (ps_if (pt_not (pt_val (pe_callB (cr_all rfl) (by rfl) ma (by decide +kernel) (pa_cons (pe_lc (own := [("part", 2)]) (g := gName 2) (tt := tYes) (by rfl) scIsBox.nd (pi_tup (pv 0))
          (blkOk_by (own := [("part", 2)]) (N := ["thing", "heights", "part", "taller", "shorter", "place", "who", "least", "greatest"]) (sc := defScope sIsBox) (by decide +kernel)) (fun _ _ _ _ _ => pg_name (i := 2) scIsBox.nd rfl (Or.inl rfl)) (fun _ _ _ _ _ => pts_nil)
          (fun _ _ _ _ _ => pe_call GT hr (by rfl) gT FT.kp bT .nil pass0 (pa_cons (pv 2) pa_nil))) pa_nil)))) (pss_one (ps_ret pe_bl)) pss_nil)
      (pss_cons (ps_set (i := 1) scIsBox.nd rfl (.inl rfl) (pe_call GF hr (by rfl) gF FF.kp bF .nil pass0 (pa_cons (pv 0) pa_nil)))
      (pss_cons (ps_if (pt_not (pt_val (pe_callB (cr_all rfl) (by rfl) ma (by decide +kernel) (pa_cons (pe_lc (own := [("taller", 3), ("shorter", 4)]) (g := gTup K 2 (gCons (gName 3) (gCons (gName 4) gNil))) (tt := tYes) (by rfl) scIsBox.nd (RZ.pi_zipA (by rfl) mz (pa_cons (pv 1) (pa_cons (pe_slice sl_list (pv 1) (po_some pe_int) po_none) pa_nil)))
          (blkOk_by (own := [("taller", 3), ("shorter", 4)]) (N := ["thing", "heights", "part", "taller", "shorter", "place", "who", "least", "greatest"]) (sc := defScope sIsBox) (by decide +kernel))
          (fun _ _ _ _ _ => by exact pg_tup rfl (pgs_cons (pg_name (i := 3) scIsBox.nd rfl (Or.inl rfl) (.inr rfl)) (pgs_cons (pg_name (i := 4) scIsBox.nd rfl (Or.inl rfl) (.inr rfl)) pgs_nil)))
          (fun _ _ _ _ _ => pts_nil) (fun _ _ _ _ _ => pe_cmpR op_gt (pv 3) (pv 4) (nomark _))) pa_nil)))) (pss_one (ps_ret pe_bl)) pss_nil)
      (pss_one (ps_ret (pe_callB (cr_all rfl) (by rfl) ma (by decide +kernel) (pa_cons (pe_lc (own := [("place", 5), ("who", 6), ("least", 7), ("greatest", 8)]) (g := gTup K 2 (gCons (gName 5) (gCons (gTup K 3 (gCons (gName 6) (gCons (gName 7) (gCons (gName 8) gNil)))) gNil))) (tt := tYes) (by rfl) scIsBox.nd (pi_enT (by rfl) men (pa_cons (pv 0) pa_nil))
        (blkOk_by (own := [("place", 5), ("who", 6), ("least", 7), ("greatest", 8)]) (N := ["thing", "heights", "part", "taller", "shorter", "place", "who", "least", "greatest"]) (sc := defScope sIsBox) (by decide +kernel))
        (fun _ _ _ _ _ => by exact pg_tup rfl (pgs_cons (pg_name (i := 5) scIsBox.nd rfl (Or.inl rfl) (.inr rfl)) (pgs_cons (pg_tup rfl (pgs_cons (pg_name (i := 6) scIsBox.nd rfl (Or.inl rfl) (.inr rfl)) (pgs_cons (pg_name (i := 7) scIsBox.nd rfl (Or.inl rfl) (.inr rfl)) (pgs_cons (pg_name (i := 8) scIsBox.nd rfl (Or.inl rfl) (.inr rfl)) pgs_nil)))) pgs_nil)))
        (fun _ _ _ _ _ => pts_nil) (fun _ _ _ _ _ => pe_chain3 op_le op_le op_le pe_int (pv 7) (pv 8) (pv 5))) pa_nil))))))), ?_⟩
    refine ⟨x, rfl, x, d, rfl, hd, _, rfl, ?_⟩
    cases hd with
    | @tup a xs ds hx ax =>
      have q' : ∀ H', Same H H' → Q (.bl (decide (0 < ds.length) && (ds.all partB && ((ds.mapIdx limF).all id && fallB ds)))) H' := q
      have el := dps_len ax
      have ln := tup_len ax hz
      refine iteF ⟨.ref a, rfl, a, xs, rfl, .inr hx, rfl, _, rfl, ?_⟩
      by_cases h0 : ds.length = 0
      · have e0 : decide (V.int (xs.length : Nat) = V.int 0) = true := decide_eq_true (by rw [el, h0]; rfl)
        rw [e0]
        rw [decide_eq_false (by omega)] at q'
        exact iteT (q' _ (Same.refl _))
      have e0 : decide (V.int (xs.length : Nat) = V.int 0) = false := decide_eq_false fun z => by
        have := V.int.inj z
        omega
      rw [e0]
      rw [decide_eq_true (by omega : 0 < ds.length), Bool.true_and] at q'
      refine iteF ⟨.ref a, rfl, a, rfl, ⟨_, hx⟩, fun D nD => ?_⟩
      refine lc_tup (K := K) (a := a) (xs := xs) (fun i H3 => Same H H3 ∧ H3 D = some (.lst (((ds.take i).map partB).map V.bl))) ⟨sm_upd nD, by rw [upd_same, List.take_zero]; rfl⟩ (fun i H3 _ h => Same.sqT h.1 hx) (fun i x H3 hxi h => ?_) (fun H3 h => ?_)
      · obtain ⟨d, hd, dd⟩ := dps_get ax hxi
        have hi : i < xs.length := (List.getElem?_eq_some_iff.mp hxi).1
        have sz := siz_get hd
        have hz' : sizA ds + 1 ≤ 900 := hz
        refine ⟨rfl, x, rfl, x, d, rfl, dp_same h.1 dd, by omega, shp_get hs hd, fun H4 s4 => ⟨_, s4 _ _ h.2, ?_, Same.put (h.1.trans s4) nD, ?_⟩⟩
        · rw [List.length_map, List.length_map, List.length_take]
          exact line_lt (by omega)
        · rw [upd_same, take_map partB ds i hd, List.map_append]
          rfl
      have h3 := h.2
      rw [el, List.take_length] at h3
      refine ⟨D, _, rfl, .inl (.inl h3), _, rfl, ?_⟩
      have eall : (ds.map partB).all id = ds.all partB := by
        rw [List.all_map]
        rfl
      rw [eall]
      have sG := h.1
      cases hall : ds.all partB with
      | false =>
        rw [hall] at q'
        exact iteT (q' _ sG)
      | true =>
      rw [hall, Bool.true_and] at q'
      have part : ∀ (i : Nat) (y : V), xs[i]? = some y → ∃ di t, ds[i]? = some di ∧ y = .ref t ∧ ∀ G', Same H G' → SqT K G' t [.int (nthD 0 di), .int (nthD 1 di), .int (nthD 2 di)] := fun i y hy => by
        obtain ⟨di, hdi, dp⟩ := dps_get ax hy
        obtain ⟨t, rfl, ht⟩ := part_get dp ((List.all_eq_true.mp hall) di (List.mem_of_getElem? hdi))
        exact ⟨di, t, hdi, rfl, fun G' sG' => Same.sqT sG' ht⟩
      generalize H3 = G at sG
      refine iteF ⟨.ref a, rfl, a, xs, ds, rfl, Same.sqT sG hx, dps_same sG ax, hall, ln, fun p G1 sG1 hp => ?_⟩
      have s1 := sG.trans sG1
      have lh : (ds.map (nthD 0)).length = ds.length := List.length_map _
      rw [← fall_eq] at q'
      generalize ds.map (nthD 0) = hs' at hp q' lh
      refine ⟨.ref p, rfl, .ref p, rfl, 1, rfl, p, _, rfl, .inl (.inl hp), fun b nb => ?_⟩
      have sB := sm_upd (o := .lst (cutV (hs'.map V.int) (some 1) none)) nb
      have hb : (upd G1 b (.lst (cutV (hs'.map V.int) (some 1) none))) b = some (.lst (hs'.tail.map V.int)) := by
        rw [upd_same, cut_lst, List.map_tail]
      generalize upd G1 b (.lst (cutV (hs'.map V.int) (some 1) none)) = G2 at sB hb
      have hp2 := sB _ _ hp
      refine ⟨_, _, _, _, rfl, .inl ⟨.inl (.inl hp2), .inl (.inl hb), fun D2 nD2 => ?_⟩⟩
      refine lc_gen (n := (hs'.zip hs'.tail).length) (fun i G3 => Same G2 G3 ∧ G3 D2 = some (.lst ((((hs'.zip hs'.tail).take i).map fun q => decide (q.2 < q.1)).map V.bl))) ⟨sm_upd nD2, by rw [upd_same, List.take_zero]; rfl⟩ (fun i G3 hi h => ?_) (fun G3 h => ?_) (fun i G3 v G4 hi h hy => ?_) (fun G3 h => ?_)
      · rw [List.length_zip, List.length_tail] at hi
        exact ⟨_, _, _, _, .inl (.inl (h.1 _ _ hp2)), .inl (.inl (h.1 _ _ hb)), List.getElem?_eq_getElem (by rw [List.length_map]; omega), List.getElem?_eq_getElem (by rw [List.length_map, List.length_tail]; omega)⟩
      · refine ⟨_, _, .inl (.inl (h.1 _ _ hp2)), .inl (.inl (h.1 _ _ hb)), ?_⟩
        rw [List.length_zip, List.length_map, List.length_map, List.length_tail]
        omega
      · obtain ⟨T, y, y2, rfl, nT, rfl, hy1, hy2⟩ := hy
        obtain ⟨z, hz1, rfl⟩ := get_int (hy1 _ (.inl (.inl (h.1 _ _ hp2))))
        obtain ⟨z2, hz2, rfl⟩ := get_int (hy2 _ (.inl (.inl (h.1 _ _ hb))))
        have hpz : (hs'.zip hs'.tail)[i]? = some (z, z2) := by rw [List.getElem?_zip_eq_some]; exact ⟨hz1, hz2⟩
        have s4 := sm_upd (o := .tup [.int z, .int z2]) nT
        refine ⟨T, _, rfl, .inl (.inl upd_same), rfl, _, _, rfl, _, _, rfl, rfl, rfl, ?_⟩
        refine ⟨.int z, rfl, .int z2, rfl, _, _, rfl, rfl, _, s4 _ _ h.2, ?_, Same.put (h.1.trans s4) nD2, ?_⟩
        · rw [List.length_map, List.length_map, List.length_take]
          rw [List.length_zip] at hi
          exact line_lt (by omega)
        · rw [upd_same, take_map (fun q : Int × Int => decide (q.2 < q.1)) (hs'.zip hs'.tail) i hpz, List.map_append]
          rfl
      have h2 := h.2
      rw [List.take_length] at h2
      refine ⟨D2, _, rfl, .inl (.inl h2), _, rfl, ?_⟩
      have eall2 : (((hs'.zip hs'.tail).map fun q => decide (q.2 < q.1)).all id) = ((hs'.zip hs'.tail).all fun q => decide (q.2 < q.1)) := by
        rw [List.all_map]
        rfl
      rw [eall2]
      have sH := s1.trans (sB.trans h.1)
      cases hf : ((hs'.zip hs'.tail).all fun q => decide (q.2 < q.1)) with
      | false =>
        rw [hf, Bool.and_false] at q'
        exact iteT (q' _ sH)
      | true =>
      rw [hf, Bool.and_true] at q'
      generalize G3 = G5 at sH
      have hxG := Same.sqT sH hx
      refine iteF ⟨.ref a, rfl, a, _, rfl, hxG, fun D3 nD3 => ?_⟩
      refine lc_gen (n := xs.length) (fun i G6 => Same G5 G6 ∧ G6 D3 = some (.lst (((ds.take i).mapIdx limF).map V.bl))) ⟨sm_upd nD3, by rw [upd_same, List.take_zero]; rfl⟩ (fun i G6 hi h => ⟨_, _, Same.sqT h.1 hxG, List.getElem?_eq_getElem hi⟩) (fun G6 h => ⟨_, Same.sqT h.1 hxG, Nat.le_refl _⟩) (fun i G6 v G7 hi h hy => ?_) (fun G6 h => ?_)
      · obtain ⟨T, y, rfl, nT, rfl, hyv⟩ := hy
        obtain ⟨di, t, hdi, rfl, ht⟩ := part i y (hyv _ (Same.sqT h.1 hxG))
        have s4 : Same G5 (upd G6 T (.tup [.int (i : Nat), .ref t])) := h.1.trans (sm_upd nT)
        have d4 := sm_upd (o := .tup [.int (i : Nat), .ref t]) nT _ _ h.2
        have ht5 := ht _ (sH.trans s4)
        refine ⟨T, _, rfl, .inl (.inl upd_same), rfl, _, _, rfl, _, _, rfl, ⟨t, _, rfl, ht5, rfl, _, _, rfl, _, _, rfl, _, _, rfl, rfl, rfl, rfl, ?_⟩⟩
        generalize upd G6 T (.tup [.int (i : Nat), .ref t]) = H5 at s4 d4
        have fin : ∃ acc, H5 D3 = some (.lst acc) ∧ acc.length < sizeLine ∧ Same G5 (upd H5 D3 (.lst (acc ++ [.bl (limF i di)]))) ∧ (upd H5 D3 (.lst (acc ++ [.bl (limF i di)]))) D3 = some (.lst (((ds.take (i + 1)).mapIdx limF).map V.bl)) := by
          refine ⟨_, d4, ?_, Same.put s4 nD3, ?_⟩
          · rw [List.length_map, List.length_mapIdx, List.length_take]
            exact line_lt (by omega)
          · rw [upd_same, mapIdx_take limF ds i hdi, List.map_append]
            rfl
        unfold limF at fin
        refine ⟨_, rfl, _, _, rfl, rfl, _, rfl, ?_⟩
        cases c1 : decide (0 ≤ nthD 1 di) with
        | false =>
          rw [c1] at fin
          exact iteF fin
        | true =>
          rw [c1] at fin
          refine iteT ⟨_, rfl, _, _, rfl, rfl, _, rfl, ?_⟩
          cases c2 : decide (nthD 1 di ≤ nthD 2 di) with
          | false =>
            rw [c2] at fin
            exact iteF fin
          | true =>
            rw [c2] at fin
            exact iteT ⟨_, rfl, _, _, rfl, rfl, fin⟩
      · have h2 := h.2
        rw [el, List.take_length] at h2
        exact ⟨D3, _, rfl, .inl (.inl h2), q' _ (sH.trans h.1)⟩
    | _ => exact iteT (iteT (q H (Same.refl _)))
abbrev sRight : Stmt := topS 18
theorem scRight : FnScope ["_law_pot_here", "_law_cage_here", "_law_things", "_law_turn", "_law_bent_here", "_law_matter", "_law_kept", "_law_due", "_law_k"] ["_law_pot_here"] (defScope sRight) := ⟨rfl, rfl, rfl, by decide +kernel, rfl, by decide +kernel, by decide +kernel⟩
/-- a drawn box is one -/
theorem box_is {xs : List Int} {cs : List Tri} (b : BoxOk xs cs) (h0 : 0 < cs.length) (pw : xs.Pairwise (· > ·)) : boxB (boxD cs) = true := by
  show (decide (0 < (cs.map tri).length) && ((cs.map tri).all partB && (((cs.map tri).mapIdx limF).all id && fallB (cs.map tri)))) = true
  have h1 : (cs.map tri).all partB = true := by
    rw [List.all_eq_true]
    intro d hd
    obtain ⟨c, _, rfl⟩ := List.mem_map.mp hd
    rfl
  have h2 : ((cs.map tri).mapIdx limF).all id = true := by
    rw [List.all_eq_true]
    intro v hv
    obtain ⟨i, hi, rfl⟩ := List.mem_mapIdx.mp hv
    rw [List.length_map] at hi
    have lm := b.lim i cs[i] (List.getElem?_eq_getElem hi)
    rw [List.getElem_map]
    show (decide ((0 : Int) ≤ (cs[i].2.1 : Nat)) && (decide (((cs[i].2.1 : Nat) : Int) ≤ (cs[i].2.2 : Nat)) && decide (((cs[i].2.2 : Nat) : Int) ≤ (i : Nat)))) = true
    rw [decide_eq_true (by omega), decide_eq_true (by omega), decide_eq_true (by omega)]
    rfl
  have h3 : fallB (cs.map tri) = true := by
    unfold fallB
    rw [List.all_eq_true]
    rintro ⟨d1, d2⟩ hq
    obtain ⟨i, hi, e⟩ := List.mem_iff_getElem.mp hq
    rw [List.length_zip, List.length_tail, List.length_map] at hi
    rw [List.getElem_zip, List.getElem_tail, List.getElem_map, List.getElem_map] at e
    cases e
    refine decide_eq_true ?_
    show (cs[i + 1]'(by omega)).1 < (cs[i]'(by omega)).1
    rw [← b.souls, List.pairwise_map, List.pairwise_iff_getElem] at pw
    exact pw i (i + 1) (by omega) (by omega) (by omega)
  rw [h1, h2, h3, List.length_map, decide_eq_true h0]
  rfl
def thirty : List Tri := (List.range 30).map fun k : Nat => (0 - (k : Int), 0, k)
theorem sizA_tri : ∀ cs : List Tri, sizA (cs.map tri) = 4 * cs.length
  | [] => rfl
  | c :: cs => by
    show 4 + sizA (cs.map tri) = 4 * (cs.length + 1)
    rw [sizA_tri cs]
    omega
theorem fit_box {cs : List Tri} {M : Nat} (h : ∀ c ∈ cs, c.1.natAbs ≤ M ∧ c.2.1 ≤ M ∧ c.2.2 ≤ M) : Fit M (4 * cs.length + 1) 2 (boxD cs) := by
  refine fit_tuple (S := 4 * cs.length) (D := 1) ⟨fun d hd => ?_, by rw [sizA_tri]; exact Nat.le_refl _, fun d hd => ?_⟩
  · obtain ⟨c, hc, rfl⟩ := List.mem_map.mp hd
    obtain ⟨h1, h2, h3⟩ := h c hc
    show (decide (c.1.natAbs ≤ M) && (decide (((c.2.1 : Nat) : Int).natAbs ≤ M) && (decide (((c.2.2 : Nat) : Int).natAbs ≤ M) && true))) = true
    rw [decide_eq_true h1, decide_eq_true (by omega), decide_eq_true (by omega)]
    rfl
  · obtain ⟨c, _, rfl⟩ := List.mem_map.mp hd
    exact Nat.le_refl _
def spRight : Sp := fun vs H Q _ => ∃ (p : Addr) (c : Nat), vs = [.ref p] ∧ Pot H p c ∧ c ≤ 100000 ∧ ∀ H', But p H H' → Q (.bl true) H'
theorem ok_right {f fT fL fB fI fR fS : Addr} {fd fdT fdL fdB fdI fdR fdS : FuncData} {k : Nat} (F : Fun K "_law_right" "_law_right" sRight f fd)
    (FT : Fun K "_law_take" "_law_take" sTake fT fdT) (bT : Binds K fdT ["_law_pot_here", "_law_bound"] []) (gT : mg "_law_take" = some (.ref fT)) (GT : FnOk P w K mg base CX0 (k + 8) fT fdT ["_law_pot_here", "_law_bound"] spTake)
    (FL : Fun K "_law_cage" "_law_cage" sCage fL fdL) {l1 l2 : Str} (bL : Binds K fdL [l1, l2] []) (gL : mg "_law_cage" = some (.ref fL)) (GL : FnOk P w K mg base CX0 (k + 8) fL fdL [l1, l2] (spCage K))
    (FB : Fun K "_law_bent" "_law_bent" sBent fB fdB) (bB : Binds K fdB ["_law_pot_here", "_law_matter"] []) (gB : mg "_law_bent" = some (.ref fB)) (GB2 : FnOk P w K mg base CX0 (k + 8) fB fdB ["_law_pot_here", "_law_matter"] (spBent K 2)) (GB4 : FnOk P w K mg base CX0 (k + 8) fB fdB ["_law_pot_here", "_law_matter"] (spBent K 4))
    (FI : Fun K "_law_wanted" "_law_wanted" sWanted fI fdI) (bI : Binds K fdI ["_law_matter"] []) (gI : mg "_law_wanted" = some (.ref fI)) (GI : FnOk P w K mg base CX0 (k + 8) fI fdI ["_law_matter"] (spAsk K boxB))
    {sR : Stmt} (FR : Fun K "is_box" "is_box" sR fR fdR) (bR : Binds K fdR ["thing"] []) (kR : KB0 K fdR ["thing"] ["thing"] (fun w => w) (fun w => w)) (gR : mg "is_box" = some (.ref fR)) (GR : FnOk P w K mg base CX0 (k + 8) fR fdR ["thing"] (spAsk K boxB))
    (FS : Fun K "_law_same" "_law_same" sSame fS fdS) (bS : Binds K fdS ["_law_found", "_law_due"] []) (gS : mg "_law_same" = some (.ref fS)) (GS : FnOk P w K mg base CX0 (k + 8) fS fdS ["_law_found", "_law_due"] (spSame K 2))
    (mt : mg "tuple" = none) (mr : mg "range" = none) (mre : mg "repr" = none) : FnG P w K mg base (k + 9) f fd ["_law_pot_here"] spRight := by
  refine okG F scRight (fun vs H Q E h => ?_) (fun cdv A outer s H vs Q E hgd hr h => ?_)
  · obtain ⟨p, c, rfl, _⟩ := h
    rfl
  · obtain ⟨p, c, rfl, P0, hc, q⟩ := h
    have hu : (A.deeper (envOfC "_law_right" (defScope sRight) s.heap.objs.size f cdv)).units + 70 < cLine := by have := hr.un; omega
    refine ⟨_, pss_cons (ps_set (i := 1) scRight.nd rfl (.inl rfl) (pe_call GL hr (by rfl) gL FL.kp bL .nil pass0 (pa_cons (pv 0) (pa_cons (pe_op op_add pe_int (pe_call GT hr (by rfl) gT FT.kp bT .nil pass0 (pa_cons (pv 0) (pa_cons pe_int pa_nil)))) pa_nil))))
      (pss_cons (ps_set (i := 2) scRight.nd rfl (.inl rfl) (pe_lst (pds_cons (pd_tup pds_nil) (pds_cons (pd_lst pds_nil) (pds_cons pd_non (pds_cons pd_int (pds_cons (pd_tup (pds_cons (pd_tup (pds_cons pd_int (pds_cons pd_int (pds_cons pd_int pds_nil)))) pds_nil)) (pds_cons (pd_tup (pds_cons (pd_tup (pds_cons pd_int (pds_cons pd_int (pds_cons pd_int pds_nil)))) pds_nil)) (pds_cons (pd_tup (pds_cons (pd_tup (pds_cons pd_int (pds_cons pd_int (pds_cons pd_int pds_nil)))) (pds_cons (pd_tup (pds_cons pd_int (pds_cons pd_int (pds_cons pd_int pds_nil)))) pds_nil))) (pds_cons (pd_tup (pds_cons (pd_tup (pds_cons pd_int (pds_cons pd_int (pds_cons pd_int pds_nil)))) (pds_cons (pd_tup (pds_cons pd_int (pds_cons pd_int (pds_cons pd_int pds_nil)))) pds_nil))) (pds_nil (K := K))))))))))))
      (pss_cons (ps_set (i := 2) scRight.nd rfl (.inl rfl) (pe_op op_cat (pv 2) (pe_lst (pds_cons (pd_tup (pds_cons (pd_tup (pds_cons pd_int (pds_cons pd_int (pds_cons pd_int pds_nil)))) (pds_cons (pd_tup (pds_cons pd_int (pds_cons pd_int (pds_cons pd_int pds_nil)))) pds_nil))) (pds_cons (pd_tup (pds_cons (pd_tup (pds_cons pd_int (pds_cons pd_int (pds_cons pd_int pds_nil)))) (pds_cons (pd_tup (pds_cons pd_int (pds_cons pd_int (pds_cons pd_int pds_nil)))) pds_nil))) (pds_cons (pd_tup (pds_cons (pd_tup (pds_cons pd_int (pds_cons pd_int (pds_cons pd_bl pds_nil)))) pds_nil)) (pds_cons (pd_tup (pds_cons (pd_tup (pds_cons pd_bl (pds_cons pd_int (pds_cons pd_int pds_nil)))) pds_nil)) (pds_cons (pd_tup (pds_cons pd_int (pds_cons pd_int (pds_cons pd_int pds_nil)))) (pds_nil (K := K))))))))))
      (pss_cons (ps_set (i := 2) scRight.nd rfl (.inl rfl) (pe_op op_cat (pv 2) (pe_lst (pds_cons (pd_tup (pds_cons (pd_tup (pds_cons pd_int (pds_cons pd_int pds_nil))) pds_nil)) (pds_cons (pd_tup (pds_cons (pd_tup (pds_cons pd_int (pds_cons pd_int (pds_cons pd_int (pds_cons pd_int pds_nil))))) pds_nil)) (pds_cons (pd_lst (pds_cons (pd_tup (pds_cons pd_int (pds_cons pd_int (pds_cons pd_int pds_nil)))) pds_nil)) (pds_cons (pd_tup (pds_cons (pd_lst (pds_cons pd_int (pds_cons pd_int (pds_cons pd_int pds_nil)))) pds_nil)) (pds_cons (pd_tup (pds_cons (pd_tup (pds_cons pd_pow (pds_cons pd_int (pds_cons pd_int pds_nil)))) (pds_cons (pd_tup (pds_cons pd_npow (pds_cons pd_int (pds_cons pd_int pds_nil)))) pds_nil))) (pds_nil (K := K))))))))))
      (pss_cons (ps_expr (pe_bm PySem.F.plainAttrs_list PySem.F.slot_list_append PySem.F.type_list_append mt_append (pv 2) (pa_cons (pe_callTy call_tuple_of (by rfl) mt (by decide +kernel) (pa_cons (pe_lc (own := [("_law_k", 8)]) (g := gName 8) (tt := tYes) (by rfl) scRight.nd (pi_range1 (by rfl) mr (pa_cons pe_int pa_nil))
        (blkOk_by (own := [("_law_k", 8)]) (N := ["_law_pot_here", "_law_cage_here", "_law_things", "_law_turn", "_law_bent_here", "_law_matter", "_law_kept", "_law_due", "_law_k"]) (sc := defScope sRight) (by decide +kernel)) (fun _ _ _ _ _ => pg_name (i := 8) scRight.nd rfl (Or.inl rfl)) (fun _ _ _ _ _ => pts_nil)
        (fun _ _ _ _ _ => pe_tup (pa_cons (pe_op op_sub pe_int (pv 8)) (pa_cons pe_int (pa_cons (pv 8) pa_nil))))) pa_nil)) pa_nil)))
      (pss_cons (ps_for PassesOwn.never rfl (pi_range1 (by rfl) mr (pa_cons pe_int pa_nil)) (pg_name (i := 3) scRight.nd rfl (.inl rfl))
        (pss_cons (ps_set (i := 4) scRight.nd rfl (.inl rfl) (pe_call GB2 hr (by rfl) gB FB.kp bB .nil pass0 (pa_cons (pv 0) (pa_cons (pv 1) pa_nil))))
        (pss_one (ps_expr (pe_bm PySem.F.plainAttrs_list PySem.F.slot_list_append PySem.F.type_list_append mt_append (pv 2) (pa_cons (pe_ifExp (pt_cmpR op_eq (pe_call GT hr (by rfl) gT FT.kp bT .nil pass0 (pa_cons (pv 0) (pa_cons pe_int pa_nil))) pe_int (nomark _)) (pe_call GB4 hr (by rfl) gB FB.kp bB .nil pass0 (pa_cons (pv 0) (pa_cons (pv 4) pa_nil))) (pv 4)) pa_nil))))))
      (pss_cons (ps_for PassesOwn.never rfl (pi_list (pe_op op_cat (pv 2) (pe_lst (pa_cons (pv 1) pa_nil)))) (pg_name (i := 5) scRight.nd rfl (.inl rfl))
        (pss_cons (ps_par (i := 6) (j := 7) (by rfl) scRight.nd rfl rfl (by decide) rfl rfl (pa_cons (pe_callB (call_repr hgd hu) (by rfl) mre (by decide +kernel) (pa_cons (pv 5) pa_nil)) (pa_cons (pe_call GI hr (by rfl) gI FI.kp bI .nil pass0 (pa_cons (pv 5) pa_nil)) pa_nil)) (by rfl))
        (pss_one (ps_if (PW.pt (pw_or (pt_not (pt_val (pe_call GS hr (by rfl) gS FS.kp bS .nil pass0 (pa_cons (pe_lst (pa_cons (pe_call GR hr (by rfl) gR FR.kp bR .nil pass0 (pa_cons (pv 5) pa_nil)) (pa_cons (pe_callK0 GR hr (by rfl) gR FR.kp kR pass0 (pk_cons (pv 5) pk_nil)) pa_nil))) (pa_cons (pe_lst (pa_cons (pv 7) (pa_cons (pv 7) pa_nil))) pa_nil)))))
            (pw_or1 (pt_cmpR op_ne (pe_callB (call_repr hgd hu) (by rfl) mre (by decide +kernel) (pa_cons (pv 5) pa_nil)) (pv 6) (nomark _))))) (pss_one (ps_ret pe_bl)) pss_nil))))
      (pss_one (ps_ret (pe_cmpR op_isBl (pe_call GR hr (by rfl) gR FR.kp bR .nil pass0 (pa_cons (pv 1) pa_nil)) pe_bl (nomark _)))))))))), ?_⟩
    have N0 := potN_one P0
    generalize hN : (fun q => decide (q = p)) = N at N0
    have np := N0.np
    -- the box
    refine ⟨.ref p, rfl, .ref p, rfl, p, 6, c, rfl, P0, by omega, by decide, by decide, fun r o lr ho => ?_⟩
    have b1 : But p H (upd H p o) := But.of_upd
    have P1 : Pot (upd H p o) p (c + 1) := ⟨o, upd_same, ho⟩
    generalize upd H p o = H1 at b1 P1
    refine ⟨_, _, rfl, rfl, p, 1 + r, c + 1, by rw [Int.natCast_add]; rfl, P1, by omega, by omega, fun hh H2 xs cs nh bx lx pwx bdx tn dbox P2 b2 => ?_⟩
    have b02 := b1.trans b2
    have lcs : cs.length = 1 + r := by rw [← lx, ← bx.souls, List.length_map]
    have isb := box_is bx (by omega) pwx
    have dh : Dp K (hid N H2) (.ref hh) (boxD cs) := dbox N np (N0.but b1 P1).trN
    have P2 := N0.but b02 P2
    have fh : Fit (10 ^ 13) 25 2 (boxD cs) := (fit_box (M := 10 ^ 13) fun c' hc' => by
      obtain ⟨i, hi, e⟩ := List.mem_iff_getElem.mp hc'
      have lm := bx.lim i c' (by rw [List.getElem?_eq_getElem hi, e])
      have mx : c'.1 ∈ xs := by
        rw [← bx.souls]
        exact List.mem_map_of_mem hc'
      have := bdx _ mx
      omega).mono (fun h => h) (by omega) (by decide)
    generalize boxD cs = dd at dh fh isb
    -- things
    refine fun w1 H3 s3 f3 => ?_
    have P3 := P2.same s3
    have g3 := gv_all (M := 10 ^ 14) (S := 300) (D := 6) (f3 N P2.trN) (by decide +kernel)
    have l3 := dps_len (f3 N P2.trN)
    have dh := dp_same (hid_sm s3) dh
    refine ⟨by rw [l3]; decide, fun t1 n1 => ?_⟩
    have b03 := b02.trans (But.same s3 (p := p))
    have g4 : ∀ v ∈ w1, Gv K N (upd H3 t1 (.lst w1)) (10 ^ 14) 300 6 v := fun v hv => (g3 v hv).sm (sm_upd n1)
    have s4 : Same H3 (upd H3 t1 (.lst w1)) := sm_upd n1
    have e4 : (upd H3 t1 (.lst w1)) t1 = some (.lst w1) := upd_same
    have l4 : w1.length = 8 := by rw [l3]; rfl
    have P4 := P3.same s4
    generalize upd H3 t1 (.lst w1) = H4 at g4 s4 e4 P4
    refine ⟨.ref t1, rfl, fun w2 H5 s5 f5 => ?_⟩
    have g5 := gv_all (M := 10 ^ 14) (S := 300) (D := 6) (f5 N P4.trN) (by decide +kernel)
    have l5 := dps_len (f5 N P4.trN)
    have P5 := P4.same s5
    refine ⟨by rw [l5]; decide, fun u1 m1 => ?_⟩
    have s6 : Same H5 (upd H5 u1 (.lst w2)) := sm_upd m1
    have e6 : (upd H5 u1 (.lst w2)) u1 = some (.lst w2) := upd_same
    generalize upd H5 u1 (.lst w2) = H6 at s6 e6
    refine ⟨t1, u1, w1, w2, rfl, rfl, s6 _ _ (s5 _ _ e4), e6, by rw [l4, l5]; decide, fun t2 n2 => ?_⟩
    have s7 := s6.trans (sm_upd (o := .lst (w1 ++ w2)) n2)
    have g7 : ∀ v ∈ w1 ++ w2, Gv K N (upd H6 t2 (.lst (w1 ++ w2))) (10 ^ 14) 300 6 v := fun v hv => (List.mem_append.mp hv).elim (fun h => (g4 v h).sm (s5.trans s7)) (fun h => (g5 v h).sm s7)
    have e7 : (upd H6 t2 (.lst (w1 ++ w2))) t2 = some (.lst (w1 ++ w2)) := upd_same
    have l7 : (w1 ++ w2).length = 13 := by rw [List.length_append, l4, l5]; rfl
    have P7 := P5.same s7
    generalize upd H6 t2 (.lst (w1 ++ w2)) = H7 at s7 g7 e7 P7
    generalize w1 ++ w2 = L7 at g7 e7 l7
    refine ⟨.ref t2, rfl, fun w3 H8 s8 f8 => ?_⟩
    have g8 := gv_all (M := 10 ^ 14) (S := 300) (D := 6) (f8 N P7.trN) (by decide +kernel)
    have l8 := dps_len (f8 N P7.trN)
    have P8 := P7.same s8
    refine ⟨by rw [l8]; decide, fun u2 m2 => ?_⟩
    have s9 : Same H8 (upd H8 u2 (.lst w3)) := sm_upd m2
    have e9 : (upd H8 u2 (.lst w3)) u2 = some (.lst w3) := upd_same
    generalize upd H8 u2 (.lst w3) = H9 at s9 e9
    refine ⟨t2, u2, L7, w3, rfl, rfl, s9 _ _ (s8 _ _ e7), e9, by rw [l7, l8]; decide, fun T nT => ?_⟩
    have sT := sm_upd (o := .lst (L7 ++ w3)) nT
    have s8T := s9.trans sT
    have nT8 : H8 T = none := s9.free nT
    have gT : ∀ v ∈ L7 ++ w3, Gv K (plus N T) (upd H9 T (.lst (L7 ++ w3))) (10 ^ 14) 300 6 v := fun v hv => (List.mem_append.mp hv).elim (fun h => ((g7 v h).sm s8).into nT8 s8T) (fun h => (g8 v h).into nT8 s8T)
    have eT : (upd H9 T (.lst (L7 ++ w3))) T = some (.lst (L7 ++ w3)) := upd_same
    have lT : (L7 ++ w3).length = 18 := by rw [List.length_append, l7, l8]; rfl
    have nTp : T ≠ p := P8.nep nT8
    have PT := (P8.same s8T).plus eT
    have sH3 : Same H3 H8 := s4.trans (s5.trans (s7.trans s8))
    have dT := dp_same (hid_in nT8 s8T) (dp_same (hid_sm sH3) dh)
    have bT : But p H (upd H9 T (.lst (L7 ++ w3))) := b03.trans (.same (sH3.trans s8T))
    have nHT : H T = none := (b03.trans (But.same sH3 (p := p))).none nTp nT8
    generalize upd H9 T (.lst (L7 ++ w3)) = Ga at gT eT PT dT bT
    generalize L7 ++ w3 = La at gT eT lT
    have np2 := PT.np
    -- thirty more
    refine ⟨.ref T, rfl, .inl ⟨rfl, _, .inl (.inl eT)⟩, 30, rfl, by decide, by decide, fun D nD => ?_⟩
    have nDN : plus N T D = false := PT.ne nD
    refine lc_range (lo := 0) (n := 30) (fun i G => Same Ga G ∧ ∃ zs, G D = some (.lst zs) ∧ DpAll K (hid (plus (plus N T) D) G) zs ((thirty.take i).map tri)) ⟨sm_upd nD, [], upd_same, by rw [List.take_zero]; exact .nil⟩ (fun i G hi h => ?_) (fun G h => ?_)
    · obtain ⟨sG, zs, hD, az⟩ := h
      have lz := dps_len az
      rw [List.length_map, List.length_take] at lz
      rw [show (0 : Int) + (i : Int) = i from by omega]
      refine ⟨rfl, _, rfl, _, _, rfl, rfl, _, rfl, by show 3 ≤ sizeLine; decide, fun t nt => ?_⟩
      have st := sm_upd (o := .tup [.int (0 - (i : Int)), .int 0, .int (i : Nat)]) nt
      have ntD : t ≠ D := fun e => by
        rw [e, hD] at nt
        cases nt
      have nta : Ga t = none := sG.free nt
      refine ⟨zs, st _ _ hD, line_lt (by omega), Same.put (sG.trans st) nD, zs ++ [.ref t], upd_same, ?_⟩
      have ht : thirty[i]? = some (0 - (i : Int), 0, i) := by
        unfold thirty
        rw [List.getElem?_map, List.getElem?_range hi]
        rfl
      rw [List.take_add_one, ht, List.map_append]
      refine dps_snoc (dps_same ((hid_sm st).trans hid_at_D) az) ?_
      refine .tup (.inl (.inl (hid_get ?_ ?_))) (.cons (.int _) (.cons (.int _) (.cons (.int _) .nil)))
      · show (plus N T t || decide (t = D)) = false
        rw [PT.ne nta, decide_eq_false ntD]
        rfl
      · rw [upd_ne ntD]
        exact upd_same
    · obtain ⟨sG, zs, hD, az⟩ := h
      rw [show (thirty.take 30).map tri = thirty.map tri from rfl] at az
      refine ⟨D, zs, rfl, .inl ⟨.inl (.inl hD), fun tt ntt => ?_⟩⟩
      have nTt : Ga tt = none := sG.free ntt
      have st := sm_upd (o := .tup zs) ntt
      have sAt := sG.trans st
      have gv : Gv K (plus N T) (upd G tt (.tup zs)) (10 ^ 14) 300 6 (.ref tt) := ⟨boxD thirty, .tup (.inl (.inl (hid_get (PT.ne nTt) upd_same))) (dps_same (hid_out.trans (hid_sm st)) az), fit_of (by decide +kernel)⟩
      have Pt := PT.same sAt
      have et := sAt _ _ eT
      have gt := fun v hv => (gT v hv).sm sAt
      have dt := dp_same (hid_sm sAt) dT
      have bt := bT.trans (But.same sAt (p := p))
      generalize upd G tt (.tup zs) = Gb at gv Pt et gt dt bt
      refine ⟨T, La, _, rfl, rfl, et, by rw [lT]; decide, ?_⟩
      have gT : ∀ v ∈ La ++ [.ref tt], Gv K (plus N T) (upd Gb T (.lst (La ++ [.ref tt]))) (10 ^ 14) 300 6 v := fun v hv => (List.mem_append.mp hv).elim (fun h => (gt v h).atD) (fun h => by rw [List.mem_singleton.mp h]; exact gv.atD)
      have eT : (upd Gb T (.lst (La ++ [.ref tt]))) T = some (.lst (La ++ [.ref tt])) := upd_same
      have lT : (La ++ [V.ref tt]).length = 19 := by rw [List.length_append, lT]; rfl
      have PT := Pt.putD (o := .lst (La ++ [.ref tt])) nTp
      have dT := dp_same (hid_at_D (o := .lst (La ++ [.ref tt]))) dt
      have bT := bt.put (o := .lst (La ++ [.ref tt])) nHT
      generalize upd Gb T (.lst (La ++ [.ref tt])) = G0 at gT eT PT dT bT
      generalize La ++ [V.ref tt] = L0 at gT eT lT
      -- sixteen turns
      refine ⟨16, rfl, by decide, by decide, for_range (lo := 0) (n := 16) (fun i σ G => ∃ (y3 y4 : Option V) (c' : Nat) (zs : List V), σ = [some (.ref p), some (.ref hh), some (.ref T), y3, y4, none, none, none, none] ∧ PotN (plus N T) G p c' ∧ c' ≤ c + 1 + 4 * (1 + r) + 2 + 50 * i ∧ G T = some (.lst zs) ∧ zs.length = 19 + i ∧
          (∀ v ∈ zs, Gv K (plus N T) G (10 ^ 14) 300 6 v) ∧ Dp K (hid (plus N T) G) (.ref hh) dd ∧ But p H G) ⟨none, none, _, L0, rfl, PT, by omega, eT, lT, gT, dT, bT⟩ ?_ ?_⟩
      · rintro i σ G hi ⟨y3, y4, c', zs, rfl, PG, hc', hT', lx, gx, dG, bG⟩
        refine ⟨.ref p, rfl, .ref hh, rfl, ?_⟩
        refine ⟨p, plus N T, .ref hh, dd, c', 10 ^ 13, 25, rfl, PG, by omega, dG, fh, by decide, by decide, by decide, by decide, fun v1 G2 c2 b2 Pt2 hc2 g2 => ?_⟩
        have P2 := PG.but b2 Pt2
        have T2 : G2 T = some (.lst zs) := b2 _ _ nTp hT'
        have app : ∀ (v2 : V) (G3 : Hp) (c3 : Nat), But p G2 G3 → PotN (plus N T) G3 p c3 → c3 ≤ c' + 50 → Gv K (plus N T) G3 (10 ^ 14) 300 6 v2 → G3 T = some (.lst zs) ∧ zs.length < sizeLine ∧
            ∃ (y3 y4 : Option V) (c' : Nat) (zs' : List V), ([some (.ref p), some (.ref hh), some (.ref T), some (.int (0 + (i : Int))), some v1, none, none, none, none] : L2.St) = [some (.ref p), some (.ref hh), some (.ref T), y3, y4, none, none, none, none] ∧ PotN (plus N T) (upd G3 T (.lst (zs ++ [v2]))) p c' ∧ c' ≤ c + 1 + 4 * (1 + r) + 2 + 50 * (i + 1) ∧ (upd G3 T (.lst (zs ++ [v2]))) T = some (.lst zs') ∧ zs'.length = 19 + (i + 1) ∧
              (∀ v ∈ zs', Gv K (plus N T) (upd G3 T (.lst (zs ++ [v2]))) (10 ^ 14) 300 6 v) ∧ Dp K (hid (plus N T) (upd G3 T (.lst (zs ++ [v2])))) (.ref hh) dd ∧ But p H (upd G3 T (.lst (zs ++ [v2]))) := fun v2 G3 c3 b3 P3 hc3 g3 => by
          have b03 := b2.trans b3
          refine ⟨b3 _ _ nTp T2, by rw [lx]; exact Nat.lt_of_lt_of_le (by omega : 19 + i < 1000) (by decide), _, some v1, c3, _, rfl, P3.putD nTp, by omega, upd_same, by rw [List.length_append, lx]; rfl, fun x hx => ?_, dp_same hid_at_D (dp_same (hid_but np2 b03) dG), (bG.trans b03).put nHT⟩
          rcases List.mem_append.mp hx with h | h
          · exact ((gx x h).but np2 b03).atD
          · rw [List.mem_singleton.mp h]
            exact g3.atD
        refine ⟨.ref T, rfl, .inl ⟨rfl, _, .inl (.inl T2)⟩, .ref p, rfl, p, 3, c2, rfl, P2.pot, by omega, by decide, by decide, fun r3 o3 lr3 ho3 => ⟨rfl, _, rfl, ite2 (fun e => ?_) (fun e => ?_)⟩⟩
        · have b3 : But p G2 (upd G2 p o3) := But.of_upd
          have P3 := P2.but b3 ⟨o3, upd_same, ho3⟩
          obtain ⟨d1, a1, f1⟩ := g2
          refine ⟨.ref p, rfl, v1, rfl, p, plus N T, v1, d1, c2 + 1, 10 ^ 13 + 1, 79, rfl, P3, by omega, dp_same (hid_but np2 b3) a1, f1.mono (fun h => h) (by decide) (by decide), by decide, by decide, by decide, by decide, fun v2 G4 c4 b4 Pt4 hc4 g4 => ?_⟩
          obtain ⟨z1, z2, z3⟩ := app v2 G4 c4 (b3.trans b4) (P3.but b4 Pt4) (by omega) (g4.mono (by decide) (by decide) (by decide))
          exact ⟨T, zs, v2, rfl, rfl, z1, z2, z3⟩
        · have b3 : But p G2 (upd G2 p o3) := But.of_upd
          have P3 := P2.but b3 ⟨o3, upd_same, ho3⟩
          obtain ⟨z1, z2, z3⟩ := app v1 _ (c2 + 1) b3 P3 (by omega) ((g2.but np2 b3).mono (by decide) (by decide) (by decide))
          exact ⟨v1, rfl, T, zs, v1, rfl, rfl, z1, z2, z3⟩
      · rintro σ G ⟨y3, y4, c', zs, rfl, PG, hc', hT', lx, gx, dG, bG⟩
        refine ⟨.ref T, rfl, .ref hh, rfl, by show 1 ≤ sizeLine; decide, fun u nu => ?_⟩
        have su : Same G (upd G u (.lst [.ref hh])) := sm_upd nu
        have lu : (upd G u (.lst [.ref hh])) u = some (.lst [.ref hh]) := upd_same
        generalize upd G u (.lst [.ref hh]) = Gu at su lu
        refine ⟨T, u, zs, _, rfl, rfl, su _ _ hT', lu, by rw [lx]; show 19 + 16 + 1 ≤ sizeLine; decide, fun U nU => ?_⟩
        have sU : Same G (upd Gu U (.lst (zs ++ [.ref hh]))) := su.trans (sm_upd nU)
        have eU : (upd Gu U (.lst (zs ++ [.ref hh]))) U = some (.lst (zs ++ [.ref hh])) := upd_same
        generalize upd Gu U (.lst (zs ++ [.ref hh])) = G2 at sU eU
        have all : ∀ v ∈ zs ++ [.ref hh], ∃ d, Dp K G2 v d ∧ Fit (10 ^ 14) 300 6 d := fun v hv => by
          rcases List.mem_append.mp hv with h | h
          · obtain ⟨d, a, f⟩ := gx v h
            exact ⟨d, dp_same (hid_same.trans sU) a, f⟩
          · rw [List.mem_singleton.mp h]
            exact ⟨dd, dp_same (hid_same.trans sU) dG, fh.mono (okD_mono (by decide) _) (by decide) (by decide)⟩
        generalize zs ++ [.ref hh] = ys at eU all
        refine ⟨U, rfl, ⟨_, .inl (.inl eU)⟩, for_list (K := K) (a := U) (xs := ys) (fun i σ G3 => ∃ y5 y6 y7, σ = [some (.ref p), some (.ref hh), some (.ref T), y3, y4, y5, y6, y7, none] ∧ Same G2 G3) ⟨none, none, none, rfl, Same.refl _⟩ (fun i σ G3 _ h => ?_) ?_ ?_⟩
        · obtain ⟨_, _, _, _, s3⟩ := h
          exact .inl (.inl (s3 _ _ eU))
        · rintro i x σ G3 hx ⟨y5, y6, y7, rfl, s3⟩
          obtain ⟨d, dx, fx⟩ := all x (List.mem_of_getElem? hx)
          have sh := ok_show (by decide) d fx.ok
          have sl := fit_shown fx (by decide) (by decide)
          have dp : d.depth ≤ 64 := Nat.le_trans fx.dp (by decide)
          have sz : siz d ≤ 900 := Nat.le_trans fx.sz (by decide)
          have sp := fit_shp fx (by decide)
          have toG : ∀ G4, Same G3 G4 → Dp K G4 x d := fun G4 s4 => dp_same (s3.trans s4) dx
          refine ⟨x, rfl, x, d, rfl, toG _ (Same.refl _), sh, sl, dp, x, rfl, x, d, rfl, toG _ (Same.refl _), sz, sp, fun G4 s4 => ⟨_, _, rfl, ?_⟩⟩
          refine ⟨x, rfl, x, d, rfl, toG _ s4, sz, sp, fun G7 s7 => ?_⟩
          have s37 := s4.trans s7
          refine ⟨x, rfl, rfl, x, d, rfl, toG _ s37, sz, sp, fun G8 s8 => ?_⟩
          have s38 := s37.trans s8
          refine ⟨by show 2 ≤ sizeLine; decide, fun u2 n2 => ?_⟩
          have s9 := sm_upd (o := .lst [.bl (boxB d), .bl (boxB d)]) n2
          have l9 : (upd G8 u2 (.lst [.bl (boxB d), .bl (boxB d)])) u2 = _ := upd_same
          generalize upd G8 u2 (.lst [.bl (boxB d), .bl (boxB d)]) = G9 at s9 l9
          refine ⟨_, rfl, _, rfl, by show 2 ≤ sizeLine; decide, fun u3 n3 => ?_⟩
          have s10 := sm_upd (o := .lst [.bl (boxB d), .bl (boxB d)]) n3
          have l10 : (upd G9 u3 (.lst [.bl (boxB d), .bl (boxB d)])) u3 = _ := upd_same
          have l9' := s10 _ _ l9
          generalize upd G9 u3 (.lst [.bl (boxB d), .bl (boxB d)]) = Gx at s10 l10 l9'
          have s3x := s38.trans (s9.trans s10)
          refine ⟨.ref u2, .ref u3, .list [.bool (boxB d), .bool (boxB d)], rfl, .lst (.inl (.inl l9')) (.cons (.bl _) (.cons (.bl _) .nil)), .lst (.inl (.inl l10)) (.cons (.bl _) (.cons (.bl _) .nil)), by show 1 ≤ 2; decide, by rfl, fun Ga sa => ⟨_, rfl, ?_⟩⟩
          have s3a := s3x.trans sa
          refine iteF ⟨x, rfl, x, d, rfl, toG _ s3a, sh, sl, dp, _, rfl, rfl, _, rfl, ?_⟩
          rw [decide_eq_true rfl]
          exact iteF ⟨_, _, _, rfl, s3.trans s3a⟩
        · rintro σ G3 ⟨y5, y6, y7, rfl, s3⟩
          refine ⟨.ref hh, rfl, .ref hh, dd, rfl, dp_same (hid_same.trans (sU.trans s3)) dG, Nat.le_trans fh.sz (by decide), fit_shp fh (by decide), fun G4 s4 => ⟨_, _, rfl, rfl, ?_⟩⟩
          rw [isb]
          exact q G4 (bG.trans (.same (sU.trans (s3.trans s4))))
abbrev sLaw : Stmt := topS 19
theorem scLaw : FnScope ["_law_script", "_law_k"] ["_law_script"] (defScope sLaw) := ⟨rfl, rfl, rfl, by decide +kernel, rfl, by decide +kernel, by decide +kernel⟩
/-! ### the law -/
def spLaw (K : PySem.W.Frag) : Sp := fun vs H Q _ => ∃ (a : Addr) (ns : List Int), vs = [.ref a] ∧ SqL K H a (ns.map V.int) ∧ ns.length ≤ 63 ∧ ∀ H', Q (.bl true) H'
theorem ok_law {f fP fR : Addr} {fd fdP fdR : FuncData} {k : Nat} (F : Fun K "law" "law" sLaw f fd)
    (FP : Fun K "_law_pot" "_law_pot" sPot fP fdP) (bP : Binds K fdP ["_law_script", "_law_k"] []) (gP : mg "_law_pot" = some (.ref fP)) (GP : FnOk P w K mg base CX0 k fP fdP ["_law_script", "_law_k"] (spPot K))
    (FR : Fun K "_law_right" "_law_right" sRight fR fdR) (bR : Binds K fdR ["_law_pot_here"] []) (gR : mg "_law_right" = some (.ref fR)) (GR : FnG P w K mg base k fR fdR ["_law_pot_here"] spRight)
    (ml : mg "len" = none) (mr : mg "range" = none) (ma : mg "all" = none) (mmx : mg "max" = none) (mmn : mg "min" = none) : FnG P w K mg base (k + 1) f fd ["_law_script"] (spLaw K) := by
  refine okG F scLaw (fun vs H Q E h => ?_) (fun cdv A outer s H vs Q E hgd hr h => ?_)
  · obtain ⟨a, ns, rfl, _⟩ := h
    rfl
  · obtain ⟨a, ns, rfl, hS, hl, q⟩ := h
    refine ⟨_, pss_one (ps_ret (pe_callB (cr_all rfl) (by rfl) ma (by decide +kernel) (pa_cons (pe_lc (own := [("_law_k", 1)]) (g := gName 1) (tt := tYes) (by rfl) scLaw.nd (pi_range1 (by rfl) mr (pa_cons (pe_callB (call_max2 rfl) (by rfl) mmx (by decide +kernel) (pa_cons pe_int (pa_cons (pe_callB (call_min2 rfl) (by rfl) mmn (by decide +kernel) (pa_cons pe_int (pa_cons (pe_callB call_len_seq (by rfl) ml PySem.boot_len (pa_cons (pv 0) pa_nil)) pa_nil))) pa_nil))) pa_nil))
      (blkOk_by (own := [("_law_k", 1)]) (N := ["_law_script", "_law_k"]) (sc := defScope sLaw) (by decide +kernel)) (fun _ _ _ _ _ => pg_name (i := 1) scLaw.nd rfl (Or.inl rfl)) (fun _ _ _ _ _ => pts_nil)
      (fun _ _ _ _ _ => pe_callG (E := E0) GR hgd hr (by rfl) gR FR.kp bR (pa_cons (pe_call GP hr (by rfl) gP FP.kp bP .nil pass0 (pa_cons (pv 0) (pa_cons (pv 1) pa_nil))) pa_nil))) pa_nil))), ?_⟩
    refine ⟨.ref a, rfl, a, _, rfl, .inl hS, _, _, rfl, _, _, rfl, ?_⟩
    rw [List.length_map]
    have hm : ∃ m : Nat, (if (if (ns.length : Int) < 3 then (ns.length : Int) else 3) > 1 then (if (ns.length : Int) < 3 then (ns.length : Int) else 3) else 1) = (m : Int) ∧ m ≤ 3 := by
      by_cases h1 : (ns.length : Int) < 3
      · rw [if_pos h1]
        by_cases h2 : (ns.length : Int) > 1
        · rw [if_pos h2]; exact ⟨ns.length, rfl, by omega⟩
        · rw [if_neg h2]; exact ⟨1, rfl, by omega⟩
      · rw [if_neg h1, if_pos (by decide)]; exact ⟨3, rfl, by omega⟩
    obtain ⟨m, em, lm⟩ := hm
    refine ⟨(m : Int), congrArg (fun z => [V.int z]) em, by omega, by omega, fun D nD => ?_⟩
    refine lc_range (lo := 0) (n := m) (fun i H3 => Same H H3 ∧ H3 D = some (.lst ((List.replicate i true).map V.bl))) ⟨sm_upd nD, upd_same⟩ (fun i H3 hi h => ?_) (fun H3 h => ?_)
    · rw [show (0 : Int) + (i : Int) = i from by omega]
      refine ⟨rfl, .ref a, rfl, .int i, rfl, a, ns, i, rfl, h.1.seq hS, by omega, fun p o np ho => ?_⟩
      have s4 := sm_upd (o := o) np
      have P4 : Pot (upd H3 p o) p 0 := ⟨o, upd_same, ho⟩
      have npH : H p = none := h.1.free np
      have sB := h.1.trans s4
      have hD := s4 _ _ h.2
      have nDp : D ≠ p := fun z => by
        rw [← z, h.2] at np
        cases np
      generalize upd H3 p o = H4 at s4 P4 sB hD
      refine ⟨p, 0, rfl, P4, by decide, fun H6 b6 => ?_⟩
      refine ⟨_, b6 _ _ nDp hD, ?_, Same.put (fun b o e => b6 b o (ne_of_none e npH) (sB b o e)) nD, ?_⟩
      · rw [List.length_map, List.length_replicate]
        exact line_lt (by omega)
      · rw [upd_same, rep_add, List.map_append]
        rfl
    · exact ⟨D, List.replicate m true, rfl, .inl (.inl h.2), q_eq (congrArg V.bl (all_rep _)) (q _)⟩
end
end Bal

namespace Bal
open PySem PySem.Spec PyProof.Rows L2
/-! ### what the top has written -/
theorem all_mk {l : PySem.W.OpenLaw} {w : World} {K : PySem.W.Frag} {h : Heap} {mg : Str → Option Value} {fa : Addr} (X : K.In h) (G : h.Ns mainGlobals mg) (hfa : mg "law" = some (.ref fa))
    {fNu : Addr} {odNu anNu : Option Addr} {slNu : Array (Option Value)} {ocNu kVNu dcNu pmNu cdNu ctNu : Value}
    {fAr : Addr} {odAr anAr : Option Addr} {slAr : Array (Option Value)} {ocAr kVAr dcAr pmAr cdAr ctAr : Value}
    {fTr : Addr} {odTr anTr : Option Addr} {slTr : Array (Option Value)} {ocTr kVTr dcTr pmTr cdTr ctTr : Value}
    {fFo : Addr} {odFo anFo : Option Addr} {slFo : Array (Option Value)} {ocFo kVFo dcFo pmFo cdFo ctFo : Value}
    {fIb : Addr} {odIb anIb : Option Addr} {slIb : Array (Option Value)} {ocIb kVIb dcIb pmIb cdIb ctIb : Value}
    {fP : Addr} {odP anP : Option Addr} {slP : Array (Option Value)} {ocP kVP dcP pmP cdP ctP : Value}
    {fT : Addr} {odT anT : Option Addr} {slT : Array (Option Value)} {ocT kVT dcT pmT cdT ctT : Value}
    {fK : Addr} {odK anK : Option Addr} {slK : Array (Option Value)} {ocK kVK dcK pmK cdK ctK : Value}
    {fS : Addr} {odS anS : Option Addr} {slS : Array (Option Value)} {ocS kVS dcS pmS cdS ctS : Value}
    {fTa : Addr} {odTa anTa : Option Addr} {slTa : Array (Option Value)} {ocTa kVTa dcTa pmTa cdTa ctTa : Value}
    {fCa : Addr} {odCa anCa : Option Addr} {slCa : Array (Option Value)} {ocCa kVCa dcCa pmCa cdCa ctCa : Value}
    {fOd : Addr} {odOd anOd : Option Addr} {slOd : Array (Option Value)} {ocOd kVOd dcOd pmOd cdOd ctOd : Value}
    {fBe : Addr} {odBe anBe : Option Addr} {slBe : Array (Option Value)} {ocBe kVBe dcBe pmBe cdBe ctBe : Value}
    {fWh : Addr} {odWh anWh : Option Addr} {slWh : Array (Option Value)} {ocWh kVWh dcWh pmWh cdWh ctWh : Value}
    {fWa : Addr} {odWa anWa : Option Addr} {slWa : Array (Option Value)} {ocWa kVWa dcWa pmWa cdWa ctWa : Value}
    {fR : Addr} {odR anR : Option Addr} {slR : Array (Option Value)} {ocR kVR dcR pmR cdR ctR : Value}
    {fZ : Addr} {odZ anZ : Option Addr} {slZ : Array (Option Value)} {ocZ kVZ dcZ pmZ cdZ ctZ : Value}
    (aNu : PySem.W.nsIn K mainGlobals "is_number" = some (some (.ref fNu))) (lNu : K.lookup fNu = some ⟨ocNu, odNu, .func (PySem.W.fnOf "is_number" "is_number" (defArgs sNum) (defBody sNum) (defScope sNum) .none kVNu dcNu pmNu anNu cdNu ctNu), slNu⟩) (cNu : PySem.W.codeIn K cdNu "is_number" = true) (kNu : PySem.W.keepIn K (.ref fNu) = true)
    (aAr : PySem.W.nsIn K mainGlobals "are_numbers" = some (some (.ref fAr))) (lAr : K.lookup fAr = some ⟨ocAr, odAr, .func (PySem.W.fnOf "are_numbers" "are_numbers" (defArgs sAre) (defBody sAre) (defScope sAre) .none kVAr dcAr pmAr anAr cdAr ctAr), slAr⟩) (cAr : PySem.W.codeIn K cdAr "are_numbers" = true) (kAr : PySem.W.keepIn K (.ref fAr) = true)
    (aTr : PySem.W.nsIn K mainGlobals "is_triple" = some (some (.ref fTr))) (lTr : K.lookup fTr = some ⟨ocTr, odTr, .func (PySem.W.fnOf "is_triple" "is_triple" (defArgs sTriple) (defBody sTriple) (defScope sTriple) .none kVTr dcTr pmTr anTr cdTr ctTr), slTr⟩) (cTr : PySem.W.codeIn K cdTr "is_triple" = true) (kTr : PySem.W.keepIn K (.ref fTr) = true)
    (aFo : PySem.W.nsIn K mainGlobals "folk_in" = some (some (.ref fFo))) (lFo : K.lookup fFo = some ⟨ocFo, odFo, .func (PySem.W.fnOf "folk_in" "folk_in" (defArgs sFolkIn) (defBody sFolkIn) (defScope sFolkIn) .none kVFo dcFo pmFo anFo cdFo ctFo), slFo⟩) (cFo : PySem.W.codeIn K cdFo "folk_in" = true) (kFo : PySem.W.keepIn K (.ref fFo) = true)
    (aIb : PySem.W.nsIn K mainGlobals "is_box" = some (some (.ref fIb))) (lIb : K.lookup fIb = some ⟨ocIb, odIb, .func (PySem.W.fnOf "is_box" "is_box" (defArgs sIsBox) (defBody sIsBox) (defScope sIsBox) .none kVIb dcIb pmIb anIb cdIb ctIb), slIb⟩) (cIb : PySem.W.codeIn K cdIb "is_box" = true) (kIb : PySem.W.keepIn K (.ref fIb) = true)
    (aP : PySem.W.nsIn K mainGlobals "_law_pot" = some (some (.ref fP))) (lP : K.lookup fP = some ⟨ocP, odP, .func (PySem.W.fnOf "_law_pot" "_law_pot" (defArgs sPot) (defBody sPot) (defScope sPot) .none kVP dcP pmP anP cdP ctP), slP⟩) (cP : PySem.W.codeIn K cdP "_law_pot" = true) (kP : PySem.W.keepIn K (.ref fP) = true)
    (aT : PySem.W.nsIn K mainGlobals "_law_take" = some (some (.ref fT))) (lT : K.lookup fT = some ⟨ocT, odT, .func (PySem.W.fnOf "_law_take" "_law_take" (defArgs sTake) (defBody sTake) (defScope sTake) .none kVT dcT pmT anT cdT ctT), slT⟩) (cT : PySem.W.codeIn K cdT "_law_take" = true) (kT : PySem.W.keepIn K (.ref fT) = true)
    (aK : PySem.W.nsIn K mainGlobals "_law_pick" = some (some (.ref fK))) (lK : K.lookup fK = some ⟨ocK, odK, .func (PySem.W.fnOf "_law_pick" "_law_pick" (defArgs sPick) (defBody sPick) (defScope sPick) .none kVK dcK pmK anK cdK ctK), slK⟩) (cK : PySem.W.codeIn K cdK "_law_pick" = true) (kK : PySem.W.keepIn K (.ref fK) = true)
    (aS : PySem.W.nsIn K mainGlobals "_law_same" = some (some (.ref fS))) (lS : K.lookup fS = some ⟨ocS, odS, .func (PySem.W.fnOf "_law_same" "_law_same" (defArgs sSame) (defBody sSame) (defScope sSame) .none kVS dcS pmS anS cdS ctS), slS⟩) (cS : PySem.W.codeIn K cdS "_law_same" = true) (kS : PySem.W.keepIn K (.ref fS) = true)
    (aTa : PySem.W.nsIn K mainGlobals "_law_tall" = some (some (.ref fTa))) (lTa : K.lookup fTa = some ⟨ocTa, odTa, .func (PySem.W.fnOf "_law_tall" "_law_tall" (defArgs sTall) (defBody sTall) (defScope sTall) .none kVTa dcTa pmTa anTa cdTa ctTa), slTa⟩) (cTa : PySem.W.codeIn K cdTa "_law_tall" = true) (kTa : PySem.W.keepIn K (.ref fTa) = true)
    (aCa : PySem.W.nsIn K mainGlobals "_law_cage" = some (some (.ref fCa))) (lCa : K.lookup fCa = some ⟨ocCa, odCa, .func (PySem.W.fnOf "_law_cage" "_law_cage" (defArgs sCage) (defBody sCage) (defScope sCage) .none kVCa dcCa pmCa anCa cdCa ctCa), slCa⟩) (cCa : PySem.W.codeIn K cdCa "_law_cage" = true) (kCa : PySem.W.keepIn K (.ref fCa) = true)
    (aOd : PySem.W.nsIn K mainGlobals "_law_odd" = some (some (.ref fOd))) (lOd : K.lookup fOd = some ⟨ocOd, odOd, .func (PySem.W.fnOf "_law_odd" "_law_odd" (defArgs sOdd) (defBody sOdd) (defScope sOdd) .none kVOd dcOd pmOd anOd cdOd ctOd), slOd⟩) (cOd : PySem.W.codeIn K cdOd "_law_odd" = true) (kOd : PySem.W.keepIn K (.ref fOd) = true)
    (aBe : PySem.W.nsIn K mainGlobals "_law_bent" = some (some (.ref fBe))) (lBe : K.lookup fBe = some ⟨ocBe, odBe, .func (PySem.W.fnOf "_law_bent" "_law_bent" (defArgs sBent) (defBody sBent) (defScope sBent) .none kVBe dcBe pmBe anBe cdBe ctBe), slBe⟩) (cBe : PySem.W.codeIn K cdBe "_law_bent" = true) (kBe : PySem.W.keepIn K (.ref fBe) = true)
    (aWh : PySem.W.nsIn K mainGlobals "_law_whole" = some (some (.ref fWh))) (lWh : K.lookup fWh = some ⟨ocWh, odWh, .func (PySem.W.fnOf "_law_whole" "_law_whole" (defArgs sWhole) (defBody sWhole) (defScope sWhole) .none kVWh dcWh pmWh anWh cdWh ctWh), slWh⟩) (cWh : PySem.W.codeIn K cdWh "_law_whole" = true) (kWh : PySem.W.keepIn K (.ref fWh) = true)
    (aWa : PySem.W.nsIn K mainGlobals "_law_wanted" = some (some (.ref fWa))) (lWa : K.lookup fWa = some ⟨ocWa, odWa, .func (PySem.W.fnOf "_law_wanted" "_law_wanted" (defArgs sWanted) (defBody sWanted) (defScope sWanted) .none kVWa dcWa pmWa anWa cdWa ctWa), slWa⟩) (cWa : PySem.W.codeIn K cdWa "_law_wanted" = true) (kWa : PySem.W.keepIn K (.ref fWa) = true)
    (aR : PySem.W.nsIn K mainGlobals "_law_right" = some (some (.ref fR))) (lR : K.lookup fR = some ⟨ocR, odR, .func (PySem.W.fnOf "_law_right" "_law_right" (defArgs sRight) (defBody sRight) (defScope sRight) .none kVR dcR pmR anR cdR ctR), slR⟩) (cR : PySem.W.codeIn K cdR "_law_right" = true) (kR : PySem.W.keepIn K (.ref fR) = true)
    (aZ : PySem.W.nsIn K mainGlobals "law" = some (some (.ref fZ))) (lZ : K.lookup fZ = some ⟨ocZ, odZ, .func (PySem.W.fnOf "law" "law" (defArgs sLaw) (defBody sLaw) (defScope sLaw) .none kVZ dcZ pmZ anZ cdZ ctZ), slZ⟩) (cZ : PySem.W.codeIn K cdZ "law" = true) (kZ : PySem.W.keepIn K (.ref fZ) = true)
    (b_len : PySem.W.nsIn K mainGlobals "len" = some none)
    (b_abs : PySem.W.nsIn K mainGlobals "abs" = some none)
    (b_int : PySem.W.nsIn K mainGlobals "int" = some none)
    (b_bool : PySem.W.nsIn K mainGlobals "bool" = some none)
    (b_str : PySem.W.nsIn K mainGlobals "str" = some none)
    (b_list : PySem.W.nsIn K mainGlobals "list" = some none)
    (b_tuple : PySem.W.nsIn K mainGlobals "tuple" = some none)
    (b_range : PySem.W.nsIn K mainGlobals "range" = some none)
    (b_zip : PySem.W.nsIn K mainGlobals "zip" = some none)
    (b_all : PySem.W.nsIn K mainGlobals "all" = some none)
    (b_max : PySem.W.nsIn K mainGlobals "max" = some none)
    (b_min : PySem.W.nsIn K mainGlobals "min" = some none)
    (b_isinstance : PySem.W.nsIn K mainGlobals "isinstance" = some none)
    (b_repr : PySem.W.nsIn K mainGlobals "repr" = some none)
    (b_enumerate : PySem.W.nsIn K mainGlobals "enumerate" = some none) :
    ∃ fd : FuncData, (∀ (s : Shared) (v : Value), BindsTo s fd ⟨[v], []⟩ [("_law_script", v)]) ∧ ∀ base : Heap, K.In base → base.Ns mainGlobals mg → FnG l.prog w K mg base 10 fa fd ["_law_script"] (spLaw K) := by
  have e := hfa.symm.trans (PySem.W.mg_of X G aZ)
  cases e
  have FNu := fun_mk (st := sNum) lNu cNu kNu
  have gNu := PySem.W.mg_of X G aNu
  have FAr := fun_mk (st := sAre) lAr cAr kAr
  have gAr := PySem.W.mg_of X G aAr
  have FTr := fun_mk (st := sTriple) lTr cTr kTr
  have gTr := PySem.W.mg_of X G aTr
  have FFo := fun_mk (st := sFolkIn) lFo cFo kFo
  have gFo := PySem.W.mg_of X G aFo
  have FIb := fun_mk (st := sIsBox) lIb cIb kIb
  have gIb := PySem.W.mg_of X G aIb
  have FP := fun_mk (st := sPot) lP cP kP
  have gP := PySem.W.mg_of X G aP
  have FT := fun_mk (st := sTake) lT cT kT
  have gT := PySem.W.mg_of X G aT
  have FK := fun_mk (st := sPick) lK cK kK
  have gK := PySem.W.mg_of X G aK
  have FS := fun_mk (st := sSame) lS cS kS
  have gS := PySem.W.mg_of X G aS
  have FTa := fun_mk (st := sTall) lTa cTa kTa
  have gTa := PySem.W.mg_of X G aTa
  have FCa := fun_mk (st := sCage) lCa cCa kCa
  have gCa := PySem.W.mg_of X G aCa
  have FOd := fun_mk (st := sOdd) lOd cOd kOd
  have gOd := PySem.W.mg_of X G aOd
  have FBe := fun_mk (st := sBent) lBe cBe kBe
  have gBe := PySem.W.mg_of X G aBe
  have FWh := fun_mk (st := sWhole) lWh cWh kWh
  have gWh := PySem.W.mg_of X G aWh
  have FWa := fun_mk (st := sWanted) lWa cWa kWa
  have gWa := PySem.W.mg_of X G aWa
  have FR := fun_mk (st := sRight) lR cR kR
  have gR := PySem.W.mg_of X G aR
  have FZ := fun_mk (st := sLaw) lZ cZ kZ
  have gZ := PySem.W.mg_of X G aZ
  have m_len := PySem.W.mg_none_of X G b_len
  have m_abs := PySem.W.mg_none_of X G b_abs
  have m_int := PySem.W.mg_none_of X G b_int
  have m_bool := PySem.W.mg_none_of X G b_bool
  have m_str := PySem.W.mg_none_of X G b_str
  have m_list := PySem.W.mg_none_of X G b_list
  have m_tuple := PySem.W.mg_none_of X G b_tuple
  have m_range := PySem.W.mg_none_of X G b_range
  have m_zip := PySem.W.mg_none_of X G b_zip
  have m_all := PySem.W.mg_none_of X G b_all
  have m_max := PySem.W.mg_none_of X G b_max
  have m_min := PySem.W.mg_none_of X G b_min
  have m_isinstance := PySem.W.mg_none_of X G b_isinstance
  have m_repr := PySem.W.mg_none_of X G b_repr
  have m_enumerate := PySem.W.mg_none_of X G b_enumerate
  have bT := FT.binds (ps := ["_law_pot_here", "_law_bound"]) fun _ _ _ _ _ _ us hl => match us, hl with | [_, _], _ => rfl
  have bK := FK.binds (ps := ["_law_pot_here", "_law_some"]) fun _ _ _ _ _ _ us hl => match us, hl with | [_, _], _ => rfl
  have bS := FS.binds (ps := ["_law_found", "_law_due"]) fun _ _ _ _ _ _ us hl => match us, hl with | [_, _], _ => rfl
  have bP := FP.binds (ps := ["_law_script", "_law_k"]) fun _ _ _ _ _ _ us hl => match us, hl with | [_, _], _ => rfl
  have bR := FR.binds (ps := ["_law_pot_here"]) fun _ _ _ _ _ _ us hl => match us, hl with | [_], _ => rfl
  have bTa := FTa.binds (ps := ["_law_pot_here", "_law_count"]) fun _ _ _ _ _ _ us hl => match us, hl with | [_, _], _ => rfl
  have bCa := FCa.binds (ps := ["_law_pot_here", "_law_count"]) fun _ _ _ _ _ _ us hl => match us, hl with | [_, _], _ => rfl
  have bOd := FOd.binds (ps := ["_law_pot_here", "_law_matter"]) fun _ _ _ _ _ _ us hl => match us, hl with | [_, _], _ => rfl
  have bBe := FBe.binds (ps := ["_law_pot_here", "_law_matter"]) fun _ _ _ _ _ _ us hl => match us, hl with | [_, _], _ => rfl
  have bWh := FWh.binds (ps := ["_law_matter"]) fun _ _ _ _ _ _ us hl => match us, hl with | [_], _ => rfl
  have bWa := FWa.binds (ps := ["_law_matter"]) fun _ _ _ _ _ _ us hl => match us, hl with | [_], _ => rfl
  have bNu := FNu.binds (ps := ["thing"]) fun _ _ _ _ _ _ us hl => match us, hl with | [_], _ => rfl
  have bAr := FAr.binds (ps := ["things"]) fun _ _ _ _ _ _ us hl => match us, hl with | [_], _ => rfl
  have bTr := FTr.binds (ps := ["thing"]) fun _ _ _ _ _ _ us hl => match us, hl with | [_], _ => rfl
  have bFo := FFo.binds (ps := ["box"]) fun _ _ _ _ _ _ us hl => match us, hl with | [_], _ => rfl
  have bIb := FIb.binds (ps := ["thing"]) fun _ _ _ _ _ _ us hl => match us, hl with | [_], _ => rfl
  have kIb := kb_one (a := "thing") FIb fun _ _ _ _ _ _ u => by rfl
  have fin : ∀ base : Heap, FnG l.prog w K mg base 10 fa _ ["_law_script"] (spLaw K) := fun base => by
    have GAr : FnOk l.prog w K mg base CX0 2 _ _ ["things"] (spAre K) := ok_are (k := 0) FAr FNu bNu gNu m_int m_bool m_isinstance m_all
    have GTr : FnOk l.prog w K mg base CX0 3 _ _ ["thing"] (spAsk K partB) := ok_triple (k := 0) FTr FAr bAr gAr GAr m_len m_tuple m_isinstance
    have GFo : FnOk l.prog w K mg base CX0 3 _ _ ["box"] (spFolkIn K) := ok_folkIn (k := 2) FFo
    have GIb : FnOk l.prog w K mg base CX0 4 _ _ ["thing"] (spAsk K boxB) := ok_isBox (k := 0) FIb FTr bTr gTr GTr FFo bFo gFo GFo m_len m_tuple m_isinstance m_all m_zip m_enumerate
    have GWa : FnOk l.prog w K mg base CX0 2 _ _ ["_law_matter"] (spAsk K boxB) := ok_wanted (k := 0) FWa FWh bWh gWh m_int m_bool m_len m_tuple m_isinstance m_all m_zip m_enumerate
    have GB := fun n => ok_bent (P := l.prog) (w := w) (base := base) FBe bBe gBe FT bT gT FK bK gK FOd bOd gOd m_len m_list m_tuple m_int m_str m_isinstance n
    have GCa : FnOk l.prog w K mg base CX0 4 _ _ ["_law_pot_here", "_law_count"] (spCage K) := ok_cage (k := 0) FCa FT bT gT FK bK gK FTa bTa gTa m_len m_range m_tuple m_enumerate
    exact ok_law (k := 9) FZ FP bP gP ((ok_pot (k := 0) FP m_len m_abs m_int).mono (by decide))
      FR bR gR (ok_right (k := 0) FR FT bT gT (ok_take FT) FCa bCa gCa (GCa.mono (by decide)) FBe bBe gBe ((GB 2).mono (by decide)) (GB 4) FWa bWa gWa (GWa.mono (by decide)) FIb bIb kIb gIb (GIb.mono (by decide))
        FS bS gS ((ok_same FS bS gS m_len m_list m_tuple m_int m_bool m_str m_isinstance m_zip m_all 2).mono (by decide)) m_tuple m_range m_repr)
      m_len m_range m_all m_max m_min
  exact ⟨PySem.W.fnOf "law" "law" (defArgs sLaw) (defBody sLaw) (defScope sLaw) .none kVZ dcZ pmZ anZ cdZ ctZ, fun s v => .of_eq rfl, fun base _ _ => fin base⟩
end Bal
open PySem PySem.W PyProof.Rows
set_option maxHeartbeats 0 in
theorem PySem.Challenge.cw_balconyrow_k10_what_boxes_are_holds : PySem.Challenge.rw_balconyrow_k10_what_boxes_are.Holds := by
  w_on; o_law; k_head; (case hw => w_witness2)
  k_fill
  refine Bal.walk_ofG (l := PySem.Challenge.rw_balconyrow_k10_what_boxes_are) (n := 63) (k := 10) (x := "_law_script") (sp := Bal.spLaw) rfl (by decide) rfl ⟨rfl, by decide, by decide⟩ (fun w h Y => PySem.W.kIn_of Y) ?F (fun _ _ a ns hl hS => ⟨a, ns, rfl, hS, hl, fun _ => rfl⟩)
  case F =>
    intro w mg fa h KX G hmg
    refine' Bal.all_mk KX G hmg ?aNu ?lNu ?cNu ?kNu ?aAr ?lAr ?cAr ?kAr ?aTr ?lTr ?cTr ?kTr ?aFo ?lFo ?cFo ?kFo ?aIb ?lIb ?cIb ?kIb ?aP ?lP ?cP ?kP ?aT ?lT ?cT ?kT ?aK ?lK ?cK ?kK ?aS ?lS ?cS ?kS ?aTa ?lTa ?cTa ?kTa ?aCa ?lCa ?cCa ?kCa ?aOd ?lOd ?cOd ?kOd ?aBe ?lBe ?cBe ?kBe ?aWh ?lWh ?cWh ?kWh ?aWa ?lWa ?cWa ?kWa ?aR ?lR ?cR ?kR ?aZ ?lZ ?cZ ?kZ ?b_len ?b_abs ?b_int ?b_bool ?b_str ?b_list ?b_tuple ?b_range ?b_zip ?b_all ?b_max ?b_min ?b_isinstance ?b_repr ?b_enumerate
    (case aNu => k_is); (case lNu => k_is); (case cNu => k_is); (case kNu => k_is); (case aAr => k_is); (case lAr => k_is); (case cAr => k_is); (case kAr => k_is)
    (case aTr => k_is); (case lTr => k_is); (case cTr => k_is); (case kTr => k_is); (case aFo => k_is); (case lFo => k_is); (case cFo => k_is); (case kFo => k_is)
    (case aIb => k_is); (case lIb => k_is); (case cIb => k_is); (case kIb => k_is); (case aP => k_is); (case lP => k_is); (case cP => k_is); (case kP => k_is)
    (case aT => k_is); (case lT => k_is); (case cT => k_is); (case kT => k_is); (case aK => k_is); (case lK => k_is); (case cK => k_is); (case kK => k_is)
    (case aS => k_is); (case lS => k_is); (case cS => k_is); (case kS => k_is); (case aTa => k_is); (case lTa => k_is); (case cTa => k_is); (case kTa => k_is)
    (case aCa => k_is); (case lCa => k_is); (case cCa => k_is); (case kCa => k_is); (case aOd => k_is); (case lOd => k_is); (case cOd => k_is); (case kOd => k_is)
    (case aBe => k_is); (case lBe => k_is); (case cBe => k_is); (case kBe => k_is); (case aWh => k_is); (case lWh => k_is); (case cWh => k_is); (case kWh => k_is)
    (case aWa => k_is); (case lWa => k_is); (case cWa => k_is); (case kWa => k_is); (case aR => k_is); (case lR => k_is); (case cR => k_is); (case kR => k_is)
    (case aZ => k_is); (case lZ => k_is); (case cZ => k_is); (case kZ => k_is); (case b_len => k_is); (case b_abs => k_is); (case b_int => k_is); (case b_bool => k_is)
    (case b_str => k_is); (case b_list => k_is); (case b_tuple => k_is); (case b_range => k_is); (case b_zip => k_is); (case b_all => k_is); (case b_max => k_is); (case b_min => k_is)
    (case b_isinstance => k_is); (case b_repr => k_is); (case b_enumerate => k_is)
