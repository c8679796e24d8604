import PyProof.Rows.All
import Wide.All
import OpenK.AllK
import Wide.FinOn
import HandS.ForMost
import HandS.ForExc
import HandS.Zip
import HandS.IsInst
import HandS.TupAny
import HandS.Style
import HandS.Flow
import HandS.Defaults
import HandS.ExcField
import HandS.ExcIs
import HandS.TryMany
import HandS.ExcInit
import HandS.ExcValue
import KE.KExcInit
import KE.KTryMore
import KE.KExcIs
import HandS.SortKw
import HandS.SortInts
import HandS.More
import KE.KIndexOf
import KE.DatumOrd
import PySem.Challenge.RW_balconyrow_k02_codes_of_rows
set_option Elab.async false
set_option linter.all false
set_option maxRecDepth 100000
set_option maxHeartbeats 4000000
namespace Bal
open PySem PySem.Spec PyProof.Rows L2
/-! ### heaps -/
theorem sm_upd {H : Hp} {p : Addr} {o : HO} (h : H p = none) : Same H (upd H p o) := fun b x e => by
  rw [upd_ne (ne_of_none e h)]
  exact e
/-- the draws' pot: three numbers, the last one at most c -/
def PotO (c : Nat) (o : HO) : Prop := ∃ x0 x1 x2 : Int, o = .lst [.int x0, .int x1, .int x2] ∧ 0 ≤ x0 ∧ 0 ≤ x1 ∧ x1 < 2147483648 ∧ 0 ≤ x2 ∧ x2 ≤ c
def Pot (H : Hp) (p : Addr) (c : Nat) : Prop := ∃ o, H p = some o ∧ PotO c o
/-- all that stood, but p, stands -/
def But (p : Addr) (H H' : Hp) : Prop := ∀ q o, q ≠ p → H q = some o → H' q = some o
theorem But.refl (p : Addr) (H : Hp) : But p H H := fun _ _ _ e => e
theorem But.trans {p : Addr} {H H1 H2 : Hp} (a : But p H H1) (b : But p H1 H2) : But p H H2 := fun q o n e => b q o n (a q o n e)
theorem But.same {p : Addr} {H H1 : Hp} (a : Same H H1) : But p H H1 := fun q o _ e => a q o e
theorem But.of_upd {p : Addr} {H : Hp} {o : HO} : But p H (upd H p o) := fun q o' n e => by rw [upd_ne n]; exact e
theorem But.sqL {K : PySem.W.Frag} {p a : Addr} {H H' : Hp} {xs : List V} (b : But p H H') (n : a ≠ p) (h : SqL K H a xs) : SqL K H' a xs := by
  rcases h with (h | ⟨o, h⟩) | h
  · exact .inl (.inl (b _ _ n h))
  · exact .inl (.inr ⟨o, b _ _ n h⟩)
  · exact .inr h
theorem But.sqT {K : PySem.W.Frag} {p a : Addr} {H H' : Hp} {xs : List V} (b : But p H H') (n : a ≠ p) (h : SqT K H a xs) : SqT K H' a xs := by
  rcases h with (h | ⟨o, h⟩) | h
  · exact .inl (.inl (b _ _ n h))
  · exact .inl (.inr ⟨o, b _ _ n h⟩)
  · exact .inr h
theorem Same.sqT {K : PySem.W.Frag} {a : Addr} {H H' : Hp} {xs : List V} (b : Same H H') (h : SqT K H a xs) : SqT K H' a xs := by
  rcases h with (h | ⟨o, h⟩) | h
  · exact .inl (.inl (b _ _ h))
  · exact .inl (.inr ⟨o, b _ _ h⟩)
  · exact .inr h
theorem Pot.mono {H : Hp} {p : Addr} {c d : Nat} (h : Pot H p c) (l : c ≤ d) : Pot H p d := by
  obtain ⟨o, e, x0, x1, x2, a, h0, h1, h2, h3, h4⟩ := h
  exact ⟨o, e, x0, x1, x2, a, h0, h1, h2, h3, by omega⟩
theorem Pot.same {H H' : Hp} {p : Addr} {c : Nat} (h : Pot H p c) (s : Same H H') : Pot H' p c := by
  obtain ⟨o, e, r⟩ := h
  exact ⟨o, s _ _ e, r⟩
theorem Pot.ne {H : Hp} {p q : Addr} {c : Nat} (h : Pot H p c) (n : H q = none) : q ≠ p := fun e => by
  obtain ⟨o, z, _⟩ := h
  rw [← e, n] at z
  cases z
theorem sqL_pot {K : PySem.W.Frag} {H : Hp} {a p : Addr} {xs : List V} {c : Nat} (h : Pot H p c) (n : xs.length ≠ 3) (ha : H a = some (.lst xs)) : a ≠ p := fun e => by
  obtain ⟨o, z, x0, x1, x2, r, _⟩ := h
  rw [← e, ha, r] at z
  have z := HO.lst.inj (Option.some.inj z)
  rw [z] at n
  exact n rfl
theorem But.none {p a : Addr} {H H' : Hp} (b : But p H H') (n : a ≠ p) (h : H' a = none) : H a = none := by
  cases e : H a with
  | none => rfl
  | some o =>
    rw [b a o n e] at h
    cases h
theorem But.put {p a : Addr} {H H' : Hp} {o : HO} (b : But p H H') (h : H a = Option.none) : But p H (upd H' a o) := fun q o' n e => by
  rw [upd_ne (ne_of_none e h)]
  exact b q o' n e
theorem But.putP {p : Addr} {H H' : Hp} {o : HO} (b : But p H H') : But p H (upd H' p o) := fun q o' n e => by
  rw [upd_ne n]
  exact b q o' n e
theorem Same.put {a : Addr} {H H' : Hp} {o : HO} (b : Same H H') (h : H a = Option.none) : Same H (upd H' a o) := fun q o' e => by
  rw [upd_ne (ne_of_none e h)]
  exact b q o' e
theorem Pot.upd {H : Hp} {p a : Addr} {c : Nat} {o : HO} (h : Pot H p c) (n : a ≠ p) : Pot (upd H a o) p c := by
  obtain ⟨o', e, r⟩ := h
  exact ⟨o', by rw [upd_ne (Ne.symm n)]; exact e, r⟩
theorem ixN_nat {n i : Nat} (h : i < n) : ixN n (i : Int) = some i := by
  unfold ixN
  rw [if_pos (by omega), if_pos (by omega)]
  simp
theorem sq_nat {n i : Nat} (h : i < n) : seqIndex? (i : Int) n = some i := (ixN_seq (ixN_nat h)).1
theorem map_erase {α β : Type} (f : α → β) : ∀ (l : List α) (i : Nat), (l.map f).eraseIdx i = (l.eraseIdx i).map f
  | [], _ => rfl
  | _ :: _, 0 => rfl
  | a :: l, i + 1 => by
    show f a :: (l.map f).eraseIdx i = f a :: (l.eraseIdx i).map f
    rw [map_erase f l i]
theorem len_ers {α : Type} : ∀ (l : List α) (i : Nat), i < l.length → (l.eraseIdx i).length + 1 = l.length
  | [], _, h => by simp at h
  | _ :: _, 0, _ => rfl
  | a :: l, i + 1, h => by
    show ((l.eraseIdx i).length + 1) + 1 = l.length + 1
    rw [len_ers l i (Nat.lt_of_succ_lt_succ h)]
theorem perm_ers {α : Type} : ∀ (l : List α) (i : Nat) (h : i < l.length), (l[i] :: l.eraseIdx i).Perm l
  | [], _, h => by simp at h
  | _ :: _, 0, _ => List.Perm.refl _
  | a :: l, i + 1, h => by
    show (l[i]'(Nat.lt_of_succ_lt_succ h) :: a :: l.eraseIdx i).Perm (a :: l)
    exact (List.Perm.swap _ _ _).trans ((perm_ers l i (Nat.lt_of_succ_lt_succ h)).cons a)
theorem fmod_lt {a b : Int} (h : 0 < b) : 0 ≤ a % b ∧ a % b < b := ⟨Int.emod_nonneg _ (by omega), Int.emod_lt_of_pos _ h⟩
theorem q_eq {Q : VK} {v v' : V} {H : Hp} (e : v = v') (h : Q v' H) : Q v H := e ▸ h
theorem one_bd (b : Bool) : -(2 ^ 64) < (if b = true then (1 : Int) else 0) ∧ (if b = true then (1 : Int) else 0) < 2 ^ 64 := by cases b <;> exact ⟨by decide, by decide⟩
theorem one_nn (b : Bool) : 0 ≤ (if b = true then (1 : Int) else 0) := by cases b <;> decide
theorem abs_nn (c : Int) : 0 ≤ (if c < 0 then -c else c) := by split <;> omega
/-! ### comprehensions over anything -/
theorem lc_gen {J : It} {n : Nat} {g : TG} {tt : TT} {te : TE} {vs : List Nat} {σ : L2.St} {H1 : Hp} {D : Addr} {Qd : Hp → Prop} (Pv : Nat → Hp → Prop) (h0 : Pv 0 (upd H1 D (.lst [])))
    (hgo : ∀ i H, i < n → Pv i H → J.go i H) (hst : ∀ H, Pv n H → J.stop n H)
    (hs : ∀ i H x H', i < n → Pv i H → J.yld i H x H' → g x (wipe σ vs) H' fun σ2 H2 => wipe σ2 vs = wipe σ vs ∧ tt σ2 H2 fun b H3 =>
      if b = true then te σ2 H3 fun y H4 => ∃ acc, H4 D = some (.lst acc) ∧ acc.length < sizeLine ∧ Pv (i + 1) (upd H4 D (.lst (acc ++ [y]))) else Pv (i + 1) H3) (hd : ∀ H, Pv n H → Qd H) :
    ∃ W : Nat → Nat → Hp → Prop, (∃ m, W 0 m (upd H1 D (.lst []))) ∧ ∀ i m H, W i m H →
      (J.stop i H ∧ Qd H) ∨ (J.go i H ∧ ∃ Nx : Hp → Prop, (∀ H', Nx H' → ∃ m', m' < m ∧ W (i + 1) m' H') ∧ ∀ x H', J.yld i H x H' → g x (wipe σ vs) H' fun σ2 H2 => wipe σ2 vs = wipe σ vs ∧ tt σ2 H2 fun b H3 =>
        if b = true then te σ2 H3 fun y H4 => ∃ acc, H4 D = some (.lst acc) ∧ acc.length < sizeLine ∧ Nx (upd H4 D (.lst (acc ++ [y]))) else Nx H3) := by
  refine ⟨fun i m H => m = n - i ∧ i ≤ n ∧ Pv i H, ⟨n, by simp, Nat.zero_le _, h0⟩, ?_⟩
  rintro i m H ⟨rfl, hi, p⟩
  by_cases hlt : i < n
  · exact .inr ⟨hgo i H hlt p, Pv (i + 1), fun H' p' => ⟨n - (i + 1), by omega, rfl, hlt, p'⟩, fun x H' y => hs i H x H' hlt p y⟩
  · have e : i = n := by omega
    subst e
    exact .inl ⟨hst H p, hd H p⟩
/-! ### data -/
theorem dps_ints {K : PySem.W.Frag} {H : Hp} : ∀ ns : List Int, DpAll K H (ns.map V.int) (ns.map PyData.int)
  | [] => .nil
  | n :: ns => .cons (.int n) (dps_ints ns)
theorem lay_ints : ∀ ns : List Int, PyData.canLayAll0 (ns.map PyData.int) = true
  | [] => rfl
  | n :: ns => by
    show (PyData.canLay0 (.int n) && PyData.canLayAll0 (ns.map PyData.int)) = true
    rw [lay_ints ns]
    rfl
theorem dep_ints : ∀ ns : List Int, PyData.depthAll (ns.map PyData.int) = 0
  | [] => rfl
  | n :: ns => by
    show max 0 (PyData.depthAll (ns.map PyData.int)) = 0
    rw [dep_ints ns]
    rfl
theorem shp_lst (ns : List Int) : SeqAt.shaped (.list (ns.map PyData.int)) = true := by
  unfold SeqAt.shaped
  show (PyData.canLayAll0 (ns.map PyData.int) && decide (PyData.depthAll (ns.map PyData.int) + 1 ≤ 64)) = true
  rw [lay_ints, dep_ints]
  rfl
theorem shp_tup (ns : List Int) : SeqAt.shaped (.tuple (ns.map PyData.int)) = true := by
  unfold SeqAt.shaped
  show (PyData.canLayAll0 (ns.map PyData.int) && decide (PyData.depthAll (ns.map PyData.int) + 1 ≤ 64)) = true
  rw [lay_ints, dep_ints]
  rfl
theorem eqv_ints : ∀ ns ms : List Int, PyData.eqvAll (ns.map PyData.int) (ms.map PyData.int) = decide (ns = ms)
  | [], [] => rfl
  | [], m :: ms => rfl
  | n :: ns, [] => rfl
  | n :: ns, m :: ms => by
    show (PyData.eqv (.int n) (.int m) && PyData.eqvAll (ns.map PyData.int) (ms.map PyData.int)) = _
    rw [eqv_ints ns ms]
    show ((n == m) && decide (ns = ms)) = decide (n :: ns = m :: ms)
    by_cases h : n = m
    · subst h
      simp
    · simp [h]
theorem eqv_lst (ns ms : List Int) : PyData.eqv (.list (ns.map PyData.int)) (.list (ms.map PyData.int)) = decide (ns = ms) := eqv_ints ns ms
theorem eqv_tup (ns ms : List Int) : PyData.eqv (.tuple (ns.map PyData.int)) (.tuple (ms.map PyData.int)) = decide (ns = ms) := eqv_ints ns ms
def kD : PyData → String
  | .none => "NoneType" | .bool _ => "bool" | .int _ => "int" | .str _ => "str" | .list _ => "list" | .tuple _ => "tuple" | .dict _ => "dict"
theorem ty_lst {K : PySem.W.Frag} {H : Hp} {a : Addr} {xs : List V} (h : SqL K H a xs) : TyX K H (.ref a) (.type "list") := by
  rcases h with (h | ⟨o, h⟩) | ⟨o, its, n, h, c, _⟩
  · exact .base (.lst h)
  · exact .base (.frz h)
  · exact .kList h c
theorem ty_tup {K : PySem.W.Frag} {H : Hp} {a : Addr} {xs : List V} (h : SqT K H a xs) : TyX K H (.ref a) (.type "tuple") := by
  rcases h with (h | ⟨o, h⟩) | ⟨o, its, n, h, c, _⟩
  · exact .base (.tup h)
  · exact .fTuple h
  · exact .kTuple h c
theorem dp_ty {K : PySem.W.Frag} {H : Hp} {x : V} {d : PyData} (h : Dp K H x d) : TyX K H x (.type (kD d)) := by
  cases h with
  | non => exact .base .non
  | bl b => exact .base (.bl b)
  | int i => exact .base (.int i)
  | str x => exact .base (.str x)
  | lst h _ => exact ty_lst h
  | tup h _ => exact ty_tup h
mutual
/-- no list or tuple within is longer than 100000 -/
def smallD : PyData → Bool
  | .list xs => decide (xs.length ≤ 100000) && smallA xs
  | .tuple xs => decide (xs.length ≤ 100000) && smallA xs
  | _ => true
def smallA : List PyData → Bool
  | [] => true
  | x :: xs => smallD x && smallA xs
end
theorem small_get : ∀ {ds : List PyData} {i : Nat} {d : PyData}, smallA ds = true → ds[i]? = some d → smallD d = true
  | [], i, d, _, h => by simp at h
  | a :: r, 0, d, s, h => by
    have e := Option.some.inj h
    subst e
    exact (Bool.and_eq_true_iff.mp s).1
  | a :: r, i + 1, d, s, h => small_get (ds := r) (i := i) (Bool.and_eq_true_iff.mp s).2 h
theorem small_ints : ∀ ns : List Int, smallA (ns.map PyData.int) = true
  | [] => rfl
  | n :: ns => by
    show (true && smallA (ns.map PyData.int)) = true
    rw [small_ints ns]
    rfl
theorem line_lt {n : Nat} (h : n ≤ 100000) : n < sizeLine := Nat.lt_of_le_of_lt h (by decide)
theorem iteD {c A B : Prop} [Decidable c] (hc : c) (h : A) : if decide c = true then A else B := by
  rw [if_pos (decide_eq_true hc)]
  exact h
theorem cls2 {a b : String} : Paired ClsV [.ty a, .ty b] [.type a, .type b] := .cons (.ty _) (.cons (.ty _) .nil)
theorem kA_no {K : PySem.W.Frag} {a : String} (h1 : kitB a "list" = some false) (h2 : kitB a "tuple" = some false) : PySem.W.kitAny K (.type a) [.type "list", .type "tuple"] = some false :=
  kitAny_cons (b := false) (kit_ty h1) (fun _ => kitAny_cons (b := false) (kit_ty h2) (fun _ => rfl) (fun z => Bool.noConfusion z)) (fun z => Bool.noConfusion z)
theorem kA_lst {K : PySem.W.Frag} : PySem.W.kitAny K (.type "list") [.type "list", .type "tuple"] = some true :=
  kitAny_cons (b := true) (kit_ty (by decide +kernel)) (fun z => Bool.noConfusion z) (fun _ => rfl)
theorem kA_tup {K : PySem.W.Frag} : PySem.W.kitAny K (.type "tuple") [.type "list", .type "tuple"] = some true :=
  kitAny_cons (b := false) (kit_ty (by decide +kernel)) (fun _ => kitAny_cons (b := true) (kit_ty (by decide +kernel)) (fun z => Bool.noConfusion z) (fun _ => rfl)) (fun z => Bool.noConfusion z)
theorem rep_add {α : Type} (x : α) : ∀ i : Nat, List.replicate (i + 1) x = List.replicate i x ++ [x]
  | 0 => rfl
  | i + 1 => by
    show x :: List.replicate (i + 1) x = x :: (List.replicate i x ++ [x])
    rw [rep_add x i]
theorem all_rep : ∀ n : Nat, (List.replicate n true).all id = true
  | 0 => rfl
  | n + 1 => by
    show (id true && (List.replicate n true).all id) = true
    rw [all_rep n]
    rfl
mutual
theorem dp_same {K : PySem.W.Frag} {H H' : Hp} (s : Same H H') : ∀ {d : PyData} {x : V}, Dp K H x d → Dp K H' x d
  | _, _, .non => .non
  | _, _, .bl b => .bl b
  | _, _, .int b => .int b
  | _, _, .str b => .str b
  | _, _, .lst h a => .lst (s.seq h) (dps_same s a)
  | _, _, .tup h a => .tup (Same.sqT s h) (dps_same s a)
theorem dps_same {K : PySem.W.Frag} {H H' : Hp} (s : Same H H') : ∀ {ds : List PyData} {xs : List V}, DpAll K H xs ds → DpAll K H' xs ds
  | _, _, .nil => .nil
  | _, _, .cons a b => .cons (dp_same s a) (dps_same s b)
end
theorem dps_len {K : PySem.W.Frag} {H : Hp} : ∀ {ds : List PyData} {xs : List V}, DpAll K H xs ds → xs.length = ds.length
  | _, _, .nil => rfl
  | _, _, .cons _ b => by rw [List.length_cons, List.length_cons, dps_len b]
theorem dps_get {K : PySem.W.Frag} {H : Hp} : ∀ {ds : List PyData} {xs : List V} {i : Nat} {x : V}, DpAll K H xs ds → xs[i]? = some x → ∃ d, ds[i]? = some d ∧ Dp K H x d
  | _, _, i, x, .nil, h => by simp at h
  | _, _, 0, x, .cons a _, h => by
    have e := Option.some.inj h
    subst e
    exact ⟨_, rfl, a⟩
  | _, _, i + 1, x, .cons _ b, h => dps_get (i := i) b h
theorem dep_get : ∀ {ds : List PyData} {i : Nat} {d : PyData}, ds[i]? = some d → d.depth ≤ PyData.depthAll ds
  | [], i, d, h => by simp at h
  | a :: r, 0, d, h => by
    have e := Option.some.inj h
    subst e
    exact Nat.le_max_left _ _
  | a :: r, i + 1, d, h => Nat.le_trans (dep_get (ds := r) (i := i) h) (Nat.le_max_right _ _)
end Bal

namespace Bal
open PySem PySem.Spec PyProof.Rows L2
/-! ### own errors over any of Python's own, each with one field -/
/-- what is asked of the base -/
structure BaseX (newId : String) (tail : List Value) : Prop where
  ex : ∃ B initId, ExcBaseFacts B newId initId tail
  pass : ∀ self, refuseLoop self "__setattr__" tail = pure ()
  ob : tail.contains (.type "object") = true
theorem bx_lookup : BaseX "LookupError.__new__" [.type "LookupError", .type "Exception", .type "BaseException", .type "object"] := ⟨⟨_, _, PySem.F.excBase_LookupError⟩, PySem.F.store_LookupError.passes, by decide +kernel⟩
theorem bx_value : BaseX "ValueError.__new__" [.type "ValueError", .type "Exception", .type "BaseException", .type "object"] := ⟨⟨_, _, PySem.F.excBase_ValueError⟩, PySem.F.store_ValueError.passes, by decide +kernel⟩
theorem bx_runtime : BaseX "RuntimeError.__new__" [.type "RuntimeError", .type "Exception", .type "BaseException", .type "object"] := ⟨⟨_, _, PySem.F.excBase_RuntimeError⟩, PySem.F.store_RuntimeError.passes, by decide +kernel⟩
theorem bx_overflow : BaseX "OverflowError.__new__" [.type "OverflowError", .type "ArithmeticError", .type "Exception", .type "BaseException", .type "object"] := ⟨⟨_, _, PySem.F.excBase_OverflowError⟩, PySem.F.store_OverflowError.passes, by decide +kernel⟩
/-- what the written part says of such a class at C -/
structure ErC (K : PySem.W.Frag) (C : Addr) (newId : String) (tail : List Value) : Prop where
  bx : BaseX newId tail
  cls : ∃ nm q N bs sn sub ab col dd k0 k1 k2 k3 k5, K.lookup C = some (excClassObj nm q C N bs tail true sn sub ab col dd k0 k1 k2 k3 k5 newId)
  sa : PySem.W.findIn K (.ref C) "__setattr__" = some (some (.builtin "object.__setattr__"))
  exC : PySem.W.subIn K (.ref C) (.type "BaseException") = some true
  tyC : PySem.W.typeIn K (.ref C) = some (.type "type")
  kC : PySem.W.keepIn K (.ref C) = true
section
open PySem.W PySem.Calls PySem.HandSPX Builtin Builtin.ObjectAttr
variable {prog : Program} {w : World} {A : Around} {E : Value → Shared → Prop} {R : Result → Shared → Prop} {hp : Heap} {g : Array GenState} {d : Drawn} {t : Nat} {os : OsState}
/-- the first field of a new error, whatever its base -/
theorem osaG {K : W.Frag} {name : Str} {tk : Tok} {v : Value} {x C : Addr} {fv : Array Value} {cd : ClassData} (X : K.In hp) (hx : hp.get? x = some { cls := .ref C, data := .fields fv }) (hcd : W.clsIn K C = some cd)
    (ne : cd.mro.isEmpty = false) (hob : cd.mro.contains (.type "object") = true) (hps : refuseLoop (.ref x) "__setattr__" cd.mro = pure ()) (hh : cd.hasDict = true) (ha : W.findIn K (.ref C) name = some none)
    (hq : ∀ h' tk' dx, (∀ b o, b ≠ x → hp.get? b = some o → h'.get? b = some o) → hp.objs.size ≤ dx → dx ≠ x → h'.get? x = some { cls := .ref C, dict := some dx, data := .fields fv } → h'.Ns1 dx (fun y => if y = name then some v else none) → R (.ok (.ret .none)) ⟨h', g, d, tk', os⟩) :
    codeAny (model prog w) A (.call (.builtin "object.__setattr__") ⟨[.ref x, .str name tk, v], []⟩) R ⟨hp, g, d, t, os⟩ := by
  have I : W.InstAt hp x { cls := .ref C, data := .fields fv } C none := ⟨hx, rfl, rfl, trivial⟩
  have hxs : x ≠ hp.objs.size := Nat.ne_of_lt (Heap.lt_size hx); have SF := F.store_object
  have sub : W.Looks (model prog w) hp (isInstance (.ref x) (.type "object")) true := I.type.andThen (W.looks_mroIn X (by unfold W.mroIn; rw [hcd, Option.bind_some, if_neg (by rw [ne]; decide), hob]))
  refine codeAny_call_builtin SF.slot.plain SF.entry (@W.check_slot (model prog w) _ _ ⟨hp, g, d, t, os⟩ "object.__setattr__" "object" "__setattr__" (.ref x) [.str name tk, v] [] _ SF.kind SF.split sub (SF.args (.ref x) (.str name tk) v) ?_)
  have hmr : W.Looks (model prog w) hp (mroOf (.ref C)) cd.mro := (W.looks_clsIn X hcd).andThen .now; have L3 : W.Looks (model prog w) hp (storeTaker? none) none := .now; have hcls : W.Looks (model prog w) hp (classData C) cd := W.looks_clsIn X hcd
  rw [W.osa_eq, refuse_eq]; refine wpAny_bind (wpAny_bind (I.type.at (wpAny_bind (hmr.at ?_)))); rw [hps]
  refine wpAny_pure (wpAny_bind (I.type.at (wpAny_bind ((W.looks_findIn X ha).at (wpAny_bind (L3.at ?_)))))); show wpAny _ _ (storeInOwnDict (.ref x) (.ref C) (.str name tk) name v false) _ _ _
  obtain ⟨nm, bs, mro, ns, qn, hd, sn, sb, ab, col, del⟩ := cd; dsimp only at hh; subst hh; unfold storeInOwnDict ownDictForStores
  repeat (first | with_reducible refine store_in_new ?_ ?_ | with_reducible refine wpAny_loadPart_at hx ?_ | with_reducible refine hcls.at ?_ | wp_step)
  · exact ⟨_, #[], _, (Heap.get?_update_ne _ _ _ _ hxs.symm).trans (Heap.get?_push_at rfl rfl), rfl, fun e he => absurd he (by simp), fun _ => rfl⟩
  · intro h' tk' hn' hs; have hx₁ : (hp.push { cls := .type "dict", data := .dict #[] }).get? x = some { cls := .ref C, data := .fields fv } := Heap.get?_push_of_some _ hx
    refine hq h' tk' hp.objs.size (fun b o hb ho => ?_) (Nat.le_refl _) hxs.symm ?_ hn'
    · exact (hs.2 b (Nat.ne_of_lt (Heap.lt_size ho))).trans ((Heap.get?_update_ne _ _ _ _ hb).trans (Heap.get?_push_of_some _ ho))
    · exact (hs.2 x hxs).trans (Heap.get?_update_self _ hx₁ rfl)
end
section
variable {X : Cx} {pins : List (Addr × Obj)} {σ : L2.St} {H : Hp} {s : Shared} {a C : Addr} {f : Str} {y : V} {u : Value} {Q : Unit → Shared → Prop} {E : Value → Shared → Prop} {A : Around} {newId : String} {tail : List Value}
theorem er_store (T : ErC X.K C newId tail) (I : Inv X pins σ H s) (e : H a = some (exo a C none)) (hno : PySem.W.findIn X.K (.ref C) f = some none) (ry : RelV y u)
    (h : ∀ dx s', H dx = none → dx ≠ a → Inv X pins σ (upd (upd H dx (exd dx [(f, y)])) a (exo a C (some dx))) s' → Q () s') : wpAny (model X.prog X.w) A (setAttr (.ref a) f u) Q E s := by
  obtain ⟨nm, q, N, bs, sn, sub, ab, col, dd, k0, k1, k2, k3, k5, hC⟩ := T.cls
  have hcl : PySem.W.clsIn X.K C = some { name := nm, bases := bs, mro := .ref C :: tail, ns := N, qualname := q, hasDict := true, slotNames := sn, subclasses := sub, abstract := ab, collection := col, hasDel := false } := by unfold PySem.W.clsIn; rw [hC] <;> rfl
  obtain ⟨t1, ho⟩ := exo_at I.hok e; obtain ⟨hp, g, d, t, os⟩ := s
  refine PySem.W.set_plain I.kIn (ox := { cls := .ref C, dict := none, data := .fields #[.ref t1, .none, .none, .none, .bool false, .none] }) (od := none) ⟨ho, rfl, rfl, trivial⟩ T.sa ?_
  refine osaG I.kIn ho hcl rfl (by show (Value.ref C :: tail).contains (.type "object") = true; rw [List.contains_cons, T.bx.ob, Bool.or_true]) (by show refuseLoop (.ref a) "__setattr__" (.ref C :: tail) = pure (); rw [refuseLoop_ref]; exact T.bx.pass _) rfl hno (fun h' tk' dx k dn dne hx hn => ?_)
  have hnd : H dx = none := I.hok.fresh dn; have nd : ∀ {b : Addr} {o : Obj}, hp.get? b = some o → b ≠ dx := fun {b o} q => Nat.ne_of_lt (Nat.lt_of_lt_of_le (Heap.lt_size q) dn)
  have na : ∀ {b : Addr}, H b = none → b ≠ a := fun {b} n z => by rw [z, e] at n; cases n
  have U : Un X.fs [] H (upd (upd H dx (exd dx [(f, y)])) a (exo a C (some dx))) hp h' := { keep := fun b o q n _ _ => k b o (na n) q, slot := fun b o q n _ _ => ⟨o.slots, k b o (na n) q⟩, free := fun b o q n _ => by rw [upd_ne (na n), upd_ne (nd q)]; exact n, there := fun b o q _ => if hb : b = a then ⟨_, (congrArg h'.get? hb).trans hx⟩ else ⟨o, k b o hb q⟩, tups := fun b xs q => by rw [upd_ne (at_ne e q exo_tup), upd_ne (ne_of_none q hnd)]; exact q, frzs := fun b o v q => by rw [upd_ne (at_ne e q exo_frz), upd_ne (ne_of_none q hnd)]; exact q, tbls := fun b ps q => ⟨#[], by rw [upd_ne (at_ne e q exo_tbl), upd_ne (ne_of_none q hnd), q]; simp⟩ }
  refine h dx _ hnd dne (I.un (t' := tk') U fun b o q => ?_)
  by_cases hb : b = a
  · subst hb; rw [upd_same] at q; cases q; exact exo_ok hx
  · rw [upd_ne hb] at q
    by_cases hd : b = dx
    · subst hd; rw [upd_same] at q; cases q; exact exd_ok hn (relO_put (fs := []) ry fun g => True.intro)
    · rw [upd_ne hd] at q
      refine (I.hok b o q).stay (fun c v hc z => k c v ?_ z) (fun c hc => by rw [upd_ne (at_ne e hc exo_own), upd_ne (ne_of_none hc hnd)]; exact hc) (fun c xs hc => by rw [upd_ne (at_ne e hc exo_tup), upd_ne (ne_of_none hc hnd)]; exact hc)
      rcases hc with hc | hc
      · rw [hc]; exact hb
      · exact at_ne e hc exo_own
/-- self.f = e within the __init__ of such a class -/
def tEst (K : PySem.W.Frag) (f : Str) (to te : TE) : TS := fun D σ H => te σ H fun y H1 => to σ H1 fun x H2 => ∃ (a C : Addr) (newId : String) (tail : List Value), x = .ref a ∧ ErC K C newId tail ∧ PySem.W.findIn K (.ref C) f = some none ∧
  H2 a = some (exo a C none) ∧ ∀ dx, H2 dx = none → dx ≠ a → D.nx σ (upd (upd H2 dx (exd dx [(f, y)])) a (exo a C (some dx)))
theorem ps_est {o e : Expr} {to te : TE} {p' pos : Pos} (ho : PE X o to) (he : PE X e te) (hs : swapsWith e (some (.Attribute o f p')) pos.line X.env = pure false := by rfl) : PS X (.Assign [.Attribute o f p'] e pos) (tEst X.K f to te) := by
  refine ⟨fun pins s σ H D I h => ?_⟩
  refine plainObj_wpAny_Assign_Attribute (thn (he.run pins s σ H _ I h) fun v s1 ⟨y, H1, I1, r1, q1⟩ => thn (ho.run pins s1 σ H1 _ I1 q1) fun u s2 ⟨x, H2, I2, r2, a, C, nw, tl, ex, T, hno, ea, q⟩ => ?_) hs
  subst ex; obtain rfl : u = Value.ref a := r2; exact er_store T I2 ea hno r1 fun dx s' n ne J => ⟨σ, _, J, q dx n ne⟩
/-- C(e, ..): such an error is made -/
theorem pmk_er {CX : CXT} {x : Str} {C fI : Addr} {k : Nat} {fd : FuncData} {ps : List Str} {sp : Sp} {ds : List Value} {dvs : List V} {e : Expr} {es : List Expr} {ta : TA} {p pos : Pos} (T : ErC X.K C newId tail) (iC : PySem.W.findIn X.K (.ref C) "__init__" = some (some (.ref fI))) (tI : PySem.W.typeIn X.K (.ref fI) = some (.type "function"))
    (F1 : FnOk X.prog X.w X.K X.mg X.base CX k fI fd ps sp) (hr : Room (k + 1) X.A) (hb : Binds X.K fd ps ds) (hd : Vals dvs ds) (hx : Passes CX X (fun _ _ _ => False)) (hg : Gl X x) (hm : X.mg x = some (.ref C)) (ha : PA X (e :: es) ta)
    (hdb : (x == ("__debug__" : Str)) = false := by decide) (he : starEach (e :: es) X.env = (false, eval e X.env) :: starEach es X.env := by rfl) (hpl : (backTo pos (starEach es X.env)).any (·.1) = false := by rfl) : PMk X (.Call (.Name x p) (e :: es) [] pos) (tMkO C sp dvs ta) := by
  intro pins s σ H Q I h; obtain ⟨nm, q, N, bs, sn, sub, ab, col, dd, k0, k1, k2, k3, k5, hC⟩ := T.cls; obtain ⟨B, ini, FB⟩ := T.bx.ex
  refine wpAny_Call_Name_kw (ld_glob I hg hm ?_ hdb)
  refine PySem.W.callWith_K (h₀ := X.base) I.ok.mod.kin T.kC (thn (ha.run pos pins s σ H _ I h) fun us s1 ⟨vs, H1, I1, r1, hz, q1⟩ => ⟨I1.kIn, ?_⟩) he hpl
  show wpAny _ _ (call (.ref C) us) _ _ _; obtain ⟨hp, g, dr, tk, os⟩ := s1
  have hsz : hp.objs.size ≤ hp.objs.size + 1 := Nat.le_succ _; have hn : H1 (hp.objs.size + 1) = none := I1.hok.fresh hsz; have hq := q1 (hp.objs.size + 1) hn
  have kk : ∀ b o, hp.get? b = some o → ((hp.push (PySem.W.kdv_tup us)).push (PySem.HandSPX.excO C hp.objs.size)).get? b = some o := fun b o e => Heap.get?_push_of_some _ (Heap.get?_push_of_some _ e)
  have hget : ((hp.push (PySem.W.kdv_tup us)).push (PySem.HandSPX.excO C hp.objs.size)).get? (hp.objs.size + 1) = some (PySem.HandSPX.excO C hp.objs.size) := by heap_get
  have I2 : Inv X pins σ (upd H1 (hp.objs.size + 1) (exo (hp.objs.size + 1) C none)) ⟨(hp.push (PySem.W.kdv_tup us)).push (PySem.HandSPX.excO C hp.objs.size), g, dr, tk, os⟩ := I1.laid (t' := tk) (a := hp.objs.size + 1) (o := exo (hp.objs.size + 1) C none) (h' := (hp.push (PySem.W.kdv_tup us)).push (PySem.HandSPX.excO C hp.objs.size)) kk hsz (exo_ok hget)
  have r2 : Vals (V.ref (hp.objs.size + 1) :: (vs ++ dvs)) (Value.ref (hp.objs.size + 1) :: (us ++ ds)) := .cons rfl (r1.append hd)
  have hl : (Value.ref (hp.objs.size + 1) :: us ++ ds).length = ps.length := by have e := r2.length; rw [F1.len _ _ _ _ hq] at e; exact e.symm
  have hus : us.length ≤ sizeLine := by rw [← Paired.length r1, sizeLine_eq]; omega
  refine wpAny_call (PySem.HandSPX.call_own FB (fun _ => rfl) (I1.kIn _ _ hC) (PySem.W.looks_findIn I1.kIn iC) (fun self => PySem.W.bind_fn I1.kIn self tI) hus (codeAny_mono (F1.run _ X.stack _ _ ⟨Value.ref (hp.objs.size + 1) :: us, []⟩ (Value.ref (hp.objs.size + 1) :: (us ++ ds)) _ _ (fun _ _ _ => False) (hr.make C us []) (I2.env0.make C us []) (hb _ (Value.ref (hp.objs.size + 1) :: us) I2.kIn hl) r2 hq) fun r s' hq' => ?_))
  cases r with
  | error er => exact hx pins σ _ _ er s' I2 hq'
  | ok fl =>
    cases fl with
    | ret u =>
      obtain ⟨v, H2, os2, bare2, un2, hok2, rv, ev, d, fs, ea, ed, hd1, q2⟩ := hq'; subst ev; obtain ⟨h2, g2, d2, t2, os'⟩ := s'
      exact ⟨rv, mk_end (raises_own T.exC T.tyC) I1 hsz kk un2 hok2 os2 bare2 ea ed hd1 q2⟩
    | next => exact False.elim hq'
    | brk => exact False.elim hq'
    | cont => exact False.elim hq'
end
end Bal

namespace Bal
open PySem PySem.Spec PyProof.Rows L2
section
open PySem.W PySem.Calls
variable {M : Model} {K : Frag} {A : Around} {E : Value → Shared → Prop} {s : Shared}
theorem forIn_skip {f : Value → PUnit → Sem (ForInStep PUnit)} {Q : PUnit → Shared → Prop} : ∀ cs : List Value, (∀ c ∈ cs, ∀ R : ForInStep PUnit → Shared → Prop, R (ForInStep.yield ⟨⟩) s → wpAny M A (f c ⟨⟩) R E s) → Q ⟨⟩ s → wpAny M A (forIn cs PUnit.unit f) Q E s
  | [], _, hq => by rw [List.forIn_nil]; exact wpAny_pure hq
  | c :: cs, h, hq => by
    rw [List.forIn_cons]
    exact wpAny_bind (h c (List.mem_cons_self ..) _ (forIn_skip cs (fun d hd => h d (List.mem_cons_of_mem _ hd)) hq))
theorem forIn_find {β : Type} {f : Value → β → Sem (ForInStep β)} {y0 x1 : β} (b : Value → Bool) {Q : β → Shared → Prop} : ∀ cs : List Value, (∀ c ∈ cs, ∀ R : ForInStep β → Shared → Prop, R (if b c = true then ForInStep.done x1 else ForInStep.yield y0) s → wpAny M A (f c y0) R E s) →
    Q (if cs.any b = true then x1 else y0) s → wpAny M A (forIn cs y0 f) Q E s
  | [], _, hq => by rw [List.forIn_nil]; exact wpAny_pure hq
  | c :: cs, h, hq => by
    rw [List.forIn_cons]
    refine wpAny_bind (h c (List.mem_cons_self ..) _ ?_)
    rw [List.any_cons] at hq
    cases hb : b c with
    | true =>
      rw [hb, Bool.true_or] at hq
      exact wpAny_pure hq
    | false =>
      rw [hb, Bool.false_or] at hq
      exact forIn_find b cs (fun d hd => h d (List.mem_cons_of_mem _ hd)) hq
theorem exmAny_each {cls : Value} : ∀ {us : List Value} {b : Bool}, exmAny K cls us = some b → (∀ c ∈ us, ∃ d, exmOne K cls c = some d) ∧ b = us.any fun c => exmOne K cls c == some true
  | [], b, h => by
    have e : some false = some b := h
    cases e
    exact ⟨fun _ h => (nomatch h), rfl⟩
  | c :: us, b, h => by
    obtain ⟨b1, d1, h1, h2, rfl⟩ := exmAny_cons h
    obtain ⟨i1, i2⟩ := exmAny_each h2
    refine ⟨fun x hx => ?_, ?_⟩
    · rcases List.mem_cons.mp hx with rfl | hx
      · exact ⟨b1, h1⟩
      · exact i1 x hx
    · rw [List.any_cons, ← i2, h1]
      cases b1 <;> rfl
/-- except (C1, .., Cn): does it name the class of e -/
theorem exm_any {cls : Value} {us : List Value} {tp e : Addr} {b : Bool} {h : Heap} (X : K.In h) (LT : Looks M h (typeOf (.ref e)) cls) (hp : h.get? tp = some { cls := .type "tuple", data := .seq us.toArray }) (hx : exmAny K cls us = some b) : Looks M h (excMatches (.ref e) (.ref tp)) b := by
  intro A Q E s k₀ q
  obtain ⟨hh, g, d, tk, os⟩ := s
  have k : ∀ b o, h.get? b = some o → hh.get? b = some o := k₀
  have LT0 : Looks M h (isInstance (.ref tp) (.type "tuple")) true := ((Looks.ld hp).andThen .now).andThen (Looks.of_pure isSubtype_tuple_tuple)
  obtain ⟨each, eb⟩ := exmAny_each hx
  have LT' := LT.keeps k; have LT0' := LT0.keeps k; have hp' := k _ _ hp
  unfold excMatches
  refine wpAny_bind (LT0'.at ?_); dsimp only; rw [if_pos rfl]
  first
    | refine wpAny_bind (wpAny_seqItems hp' rfl ?_)
    | refine wpAny_bind (wpAny_bind (wpAny_seqItems hp' rfl (wpAny_pure ?_)))
  dsimp only [Option.getD_some, Option.getD]
  refine wpAny_bind (wpAny_pure (wpAny_bind (forIn_skip us (fun c hc R hR => ?_) ?_)))
  · obtain ⟨dc, h1⟩ := each c hc
    obtain ⟨e1, _⟩ := exm_cls (M := M) X h1
    refine wpAny_bind ((e1.keeps k).at ?_)
    simp only [Bool.not_true, Bool.false_eq_true, if_false]
    exact wpAny_pure hR
  · refine wpAny_bind (LT'.at ?_)
    refine wpAny_bind (forIn_find (x1 := (some true, ())) (fun c => exmOne K cls c == some true) us (fun c hc R hR => ?_) ?_)
    · obtain ⟨dc, h1⟩ := each c hc
      obtain ⟨_, e2⟩ := exm_cls (M := M) X h1
      refine wpAny_bind ((e2.keeps k).at ?_)
      rw [h1] at hR
      cases dc with
      | true => exact wpAny_pure hR
      | false => exact wpAny_pure hR
    · rw [← eb]
      cases b with
      | true => exact wpAny_pure q
      | false => exact wpAny_pure q
end
end Bal

namespace Bal
open PySem PySem.Spec PyProof.Rows L2
/-! ### an error that was caught and is kept -/
/-- at a: an error of the class cls, its dict d -/
def ErV (cls : Value) (d : Option Addr) (a : Addr) : HO := .ext fun h => ∃ (oe : Obj) (vs : Array Value), h.get? a = some oe ∧ Zc cls d oe ∧ oe.data = .fields vs
theorem erV_ok {P : Program} {w : World} {H : Hp} {h : Heap} {a : Addr} {cls : Value} {d : Option Addr} {oe : Obj} {vs : Array Value} (e : h.get? a = some oe) (z : Zc cls d oe) (hd : oe.data = .fields vs) : ObjOk P w H h a (ErV cls d a) :=
  ⟨⟨oe, vs, e, z, hd⟩, ⟨oe, e⟩, fun _ _ ⟨o, v, q, r⟩ k => ⟨o, v, k o q, r⟩⟩
theorem erV_at {P : Program} {w : World} {H : Hp} {h : Heap} {a : Addr} {cls : Value} {d : Option Addr} (hok : HOk P w H h) (e : H a = some (ErV cls d a)) : ∃ (oe : Obj) (vs : Array Value), h.get? a = some oe ∧ Zc cls d oe ∧ oe.data = .fields vs := by
  have x : ObjOk P w H h a (.ext fun h => ∃ (oe : Obj) (vs : Array Value), h.get? a = some oe ∧ Zc cls d oe ∧ oe.data = .fields vs) := hok a _ e
  exact x.1
section
variable {X : Cx} {pins : List (Addr × Obj)} {σ : L2.St} {H : Hp} {s : Shared} {a : Addr} {oe : Obj}
/-- out of the suite, the error still in hand -/
theorem unsuiteK {pn' : List (Addr × Obj)} (I : Inv (X.suite a ((a, oe) :: (X.pn ++ pins))) pn' σ H s) (ok : X.Ok) : Inv X ((a, oe) :: pins) σ H s :=
  ⟨ok, I.os, I.bare, I.base, I.loc, I.cell, I.free, I.freeC, fun p hp => I.pin p (List.mem_append_left _ (by
    rcases List.mem_append.mp hp with h | h
    · exact List.mem_cons_of_mem _ (List.mem_append_left _ h)
    · rcases List.mem_cons.mp h with h | h
      · rw [h]; exact List.mem_cons_self ..
      · exact List.mem_cons_of_mem _ (List.mem_append_right _ h))), I.hok, I.len⟩
/-- what is in hand is put down, tracked -/
theorem putDown {cls : Value} {d : Option Addr} {vs : Array Value} (I : Inv X ((a, oe) :: pins) σ H s) (hz : Zc cls d oe) (hd : oe.data = .fields vs) (n0 : X.s_0.heap.get? a = none) (np : ∀ p ∈ X.pn ++ pins, p.1 ≠ a) :
    Inv X pins σ (upd H a (ErV cls d a)) s := by
  obtain ⟨ha, na, nL, nF, nc⟩ := I.pin (a, oe) (List.mem_append_right _ (List.mem_cons_self ..))
  have ne : ∀ {b : Addr} {o : HO}, H b = some o → b ≠ a := fun {b o} q z => by rw [z, na] at q; cases q
  refine ⟨I.ok, I.os, I.bare, ⟨I.base.keep, I.base.slot, fun b o e n hx => ?_, I.base.there, fun b xs e => ?_, fun b o u e => ?_, fun b ps e => ?_⟩, I.loc, I.cell, ?_, fun x c e => ?_, fun p hp => ?_, fun b u e => ?_, I.len⟩
  · rw [upd_ne (fun z => by rw [z, n0] at e; cases e)]
    exact I.base.free b o e n hx
  · have q := I.base.tups b xs e
    rw [upd_ne (ne q)]; exact q
  · have q := I.base.frzs b o u e
    rw [upd_ne (ne q)]; exact q
  · obtain ⟨m, q⟩ := I.base.tbls b ps e
    exact ⟨m, by rw [upd_ne (ne q)]; exact q⟩
  · rw [upd_ne (Ne.symm nL)]; exact I.free
  · have hc : c ≠ a := fun z => by
      obtain ⟨v, oc, h1, h2⟩ := I.cell x c e
      have ha' : s.heap.get? a = some oe := ha
      rw [z, ha'] at h1
      cases h1
      exact nc _ h2
    rw [upd_ne hc]; exact I.freeC x c e
  · have hp' : p ∈ X.pn ++ ((a, oe) :: pins) := by
      rcases List.mem_append.mp hp with h | h
      · exact List.mem_append_left _ h
      · exact List.mem_append_right _ (List.mem_cons_of_mem _ h)
    obtain ⟨q1, q2, q3⟩ := I.pin p hp'
    exact ⟨q1, by rw [upd_ne (np p hp)]; exact q2, q3⟩
  · by_cases hb : b = a
    · subst hb
      rw [upd_same] at e
      cases e
      exact erV_ok ha hz hd
    · rw [upd_ne hb] at e
      exact (I.hok b u e).stay (fun _ _ _ q => q) (fun c q => by rw [upd_ne (ne q)]; exact q) (fun c xs q => by rw [upd_ne (ne q)]; exact q)
end
/-- names of classes, told by their values -/
inductive NmAll (X : Cx) : List Expr → List Value → Prop
  | nil : NmAll X [] []
  | cons {x : Str} {c : Value} {np : Pos} {es : List Expr} {us : List Value} (h : Names X x c) (r : NmAll X es us) : NmAll X (.Name x np :: es) (c :: us)
theorem nm_run {X : Cx} {a : Addr} {pn : List (Addr × Obj)} {σ : L2.St} {H : Hp} {s : Shared} {pos : Pos} {E : Value → Shared → Prop} (S : Inv (X.suite a pn) [] σ H s) : ∀ {es : List Expr} {us : List Value} {Q : List Value → Shared → Prop}, NmAll X es us → Q us s →
    wpAny (model X.prog X.w) (X.A.mark (some (.ref a))) (spliced (backTo pos (starEach es X.env))) Q E s
  | _, _, _, .nil, h => Calls.spliced_nil h
  | _, _, Q, .cons (x := x) (c := c) (np := np) (es := es) (us := us) hc r, h => by
    show wpAny _ _ (spliced ((false, eval (.Name x np) X.env) :: backTo pos (starEach es X.env))) _ _ s
    refine Calls.spliced_cons ?_
    have go : wpAny (model X.prog X.w) (X.A.mark (some (.ref a))) (spliced (backTo pos (starEach es X.env))) (fun us s' => Q (c :: us) s') E s := nm_run S r h
    obtain ⟨hg, hdbg, hm | ⟨hm, hv, hnn⟩⟩ := hc
    · exact ld_glob (X := X.suite a pn) S hg hm go hdbg
    · exact ld_blt (X := X.suite a pn) S hg hm hv go hnn hdbg
theorem fl_keep {B h h' : Heap} {l : List Env} {a : Addr} {Z : Obj → Prop} (fl : HandSPX.FlyingZ B l a Z h) (k : ∀ b o, h.get? b = some o → h'.get? b = some o) : HandSPX.FlyingZ B l a Z h' := by
  obtain ⟨f1, f2, f3, oe, vs, T, oT, ts, g1, g2, g3, g4, g5, g6, g7, g8⟩ := fl
  exact ⟨fun b o e => k b o (f1 b o e), f2, Heap.FunFrames.of_keeps (fun b o e _ => ⟨o, k b o e, rfl⟩) f3, oe, vs, T, oT, ts, k _ _ g1, g2, g3, g4, g5, g6, k _ _ g7, g8⟩
/-- what 'except (C1, ..) as n' wishes, where the suite may keep the error: behind it the error stands in the heap -/
def wKeep (K : PySem.W.Frag) (us : List Value) (i : Nat) (ts : Addr → Value → Option Addr → TS) (Wout : WX) (D : Ends) : WX := fun cls d σ H =>
  ∃ b, PySem.W.exmAny K cls us = some b ∧ (b = true → ∀ a, H a = none → ts a cls d { nx := fun σ' H' => D.nx (σ'.set i none) (upd H' a (ErV cls d a)), rt := fun _ _ => False, bk := fun _ _ => False, ct := fun _ _ => False } (σ.set i (some (.ref a))) H) ∧ (b = false → Wout cls d σ H)
section
variable {X : Cx} {n : Str} {us : List Value} {es : List Expr} {i : Nat} {body suite : List Stmt} {b₀ : Stmt} {kx : Nat} {np pos pos' : Pos} {tb : WX → TS} {ts : Addr → Value → Option Addr → TS} {Wout : WX}
theorem ps_try_keep (hs : X.stack = X.env :: X.outer) (hf : X.env.frame = some X.env.locals) (hex : X.ex = []) (hN : X.N.Nodup) (hi : X.N[i]? = some n) (hln : X.env.kindOf n = some .local) (hc : NmAll X es us) (hel : us.length ≤ 1000) (tk : Takes X Wout)
    (hb : ∀ (W : WX) (pn : List (Addr × Obj)) (xe : Value → Shared → Prop), Takes (X.tr pn xe) W → PassesOwn (model X.prog X.w) X.A X.env xe → PSs (X.tr pn xe) body (tb W))
    (hsu : ∀ (a : Addr) (oe : Obj) (cls : Value) (d : Option Addr) (pn : List (Addr × Obj)), Zc cls d oe → (∃ vs, oe.data = .fields vs) → PSs (X.suite a ((a, oe) :: pn)) (b₀ :: suite) (ts a cls d)) :
    PS X (.Try body [.ExceptHandler (some (.Tuple es kx np)) (some n) (b₀ :: suite) pos'] [] [] pos) (fun D σ H => tb (wKeep X.K us i ts Wout D) D σ H) := by
  refine ⟨fun pins s σ H D I h => ?_⟩
  have ok := I.ok; have hfr : X.A.frames = some (X.env :: X.outer) := by rw [ok.frames, hs]
  have hloc : Loc X.env.scope n := .inl hln
  refine wpAny_Try_except ?_
  refine wpAny_mono ((hb (wKeep X.K us i ts Wout D) (X.pn ++ pins) (fun e s₁ => wpAny (model X.prog X.w) X.A (noteFrame e X.env) (fun _ s₂ => wpAny (model X.prog X.w) X.A (setFlight e none) (fun _ s₃ => wpAny (model X.prog X.w) X.A (handleBy e X.env [.ExceptHandler (some (.Tuple es kx np)) (some n) (b₀ :: suite) pos']) (SP X pins D) X.xe s₃) X.xe s₂) X.xe s₁) (fun u s' xx => ?_) PassesOwn.looking).run [] s σ H D (I.toTry _) h) (fun f s1 hsp => ?_) (fun e s1 he => he)
  · obtain ⟨a, B, sI, pins', σ', H', cls, d, rfl, J', nb, up, sky, na, os, ag, b, hb1, hyes, hno⟩ := xx
    have J : Inv X pins σ' H' sI := J'.ofTry ok
    have sky' : Sky B (X.env :: X.outer) a (Zc cls d) X.env.locals s'.heap := by rw [← hs]; exact sky
    show wpAny (model X.prog X.w) X.A (noteFrame (.ref a) X.env) _ _ _
    refine Sky.land Zc.steady hfr hf sky' fun h2 fl2 up2 => ?_
    have J2 : Inv X pins σ' H' { s' with heap := h2 } := J.landed nb fl2.1 (up.trans up2) os ag
    obtain ⟨oe2, vs2, he2, hz2, hd2⟩ := fl2.there
    have nfr : a ∉ frs (X.env :: X.outer) := fun hm => by
      obtain ⟨_, o', e', hnf⟩ := fl2.2.2.1.mem hm
      rw [he2] at e'; cases e'; exact hnf _ hd2
    have nL : a ≠ X.env.locals := fun z => nfr (List.mem_filterMap.mpr ⟨X.env, List.mem_cons_self, by rw [hf, z]⟩)
    have nF : a ∉ X.fs := fun hm => by
      obtain ⟨e, he, q⟩ := List.mem_filterMap.mp hm
      exact nfr (List.mem_filterMap.mpr ⟨e, List.mem_cons_of_mem _ he, q⟩)
    have noB : ∀ o, sI.heap.get? a ≠ some o := fun o q => by
      have z := nb a o q (by rw [hs]; exact nfr)
      have z' : B.get? a = none := fl2.2.1
      rw [z'] at z; cases z
    have n0 : X.s_0.heap.get? a = none := by
      cases q : X.s_0.heap.get? a with
      | none => rfl
      | some o =>
        obtain ⟨o', z⟩ := J.base.there a o q (by rw [hex]; exact fun y => nomatch y)
        exact absurd z (noB o')
    have npn : ∀ p ∈ X.pn ++ pins, p.1 ≠ a := fun p hp z => by
      obtain ⟨q, _⟩ := J.pin p hp
      rw [z] at q; exact noB _ q
    have S2 := J2.suite he2 hd2 na nL nF
    refine wpAny_handleBy_cons (codeAny_handlers_test ?_) (by intro q; cases q)
    refine Tuple_ (nm_run S2 hc ?_)
    refine wpAny_newObj_type ?_ (by show us.toArray.size ≤ sizeLine; rw [List.size_toArray]; exact Nat.le_of_lt (small1000 hel))
    have kp : ∀ b o, h2.get? b = some o → (h2.push { cls := .type "tuple", data := .seq us.toArray }).get? b = some o := fun b o e => Heap.get?_push_of_some _ e
    have htp : (h2.push { cls := .type "tuple", data := .seq us.toArray }).get? h2.objs.size = some { cls := .type "tuple", data := .seq us.toArray } := Heap.get?_push_size _ rfl
    have fl3 := fl_keep fl2 kp; have up3 := (up.trans up2).trans (Heap.UpToSlots.of_keeps kp)
    show wpAny _ _ (excMatches (.ref a) (.ref h2.objs.size)) _ _ { s' with heap := h2.push { cls := .type "tuple", data := .seq us.toArray } }
    generalize h2.push { cls := .type "tuple", data := .seq us.toArray } = h3 at kp htp fl3 up3 ⊢
    have J3 : Inv X pins σ' H' { s' with heap := h3 } := J.landed nb fl3.1 up3 os ag
    have LT : PySem.W.Looks (model X.prog X.w) h3 (typeOf (.ref a)) cls := fun A Q E s k q => wpAny_typeOf_ref (k _ _ (kp _ _ he2)) (by rw [hz2.1]; exact q)
    have LM := exm_any (M := model X.prog X.w) (J3.kIn) LT htp hb1
    refine LM.here ?_
    cases b with
    | true =>
      refine codeAny_handlers_suite_as ?_
      refine HandSPX.lands_againZ fl3 fun h4 fl4 up4 => ?_
      have J4 : Inv X pins σ' H' { s' with heap := h4 } := J.landed nb fl4.1 (up3.trans up4) os ag
      obtain ⟨oe4, vs4, he4, hz4, hd4⟩ := fl4.there
      have S4 := J4.suite he4 hd4 na nL nF
      refine store_ok (X := X.suite a ((a, oe4) :: (X.pn ++ pins))) (v := .ref a) S4 hN hi hloc rfl (fun s5 S5 => ?_) (.inr hln)
      refine wpAny_mono ((hsu a oe4 cls d (X.pn ++ pins) hz4 ⟨_, hd4⟩).run [] s5 _ H' _ S5 (hyes rfl a na)) (fun f s6 hsp => ?_) (fun _ _ z => False.elim z)
      cases f with
      | next =>
        obtain ⟨σ6, H6, S6, q6⟩ := hsp
        exact gone_ok (unsuiteK S6 ok) hN hi hln fun s7 J7 => ⟨_, _, putDown J7 hz4 hd4 n0 npn, q6⟩
      | brk => obtain ⟨_, _, _, q6⟩ := hsp; exact q6.elim
      | cont => obtain ⟨_, _, _, q6⟩ := hsp; exact q6.elim
      | ret u => obtain ⟨_, _, _, _, _, q6⟩ := hsp; exact q6.elim
    | false =>
      show wpAny _ X.A (handleBy (.ref a) X.env []) _ _ _
      refine wpAny_handleBy_nil ?_
      obtain ⟨k1, k2, k3, oe, vs, T, oT, ts', he, hz, hd, h1, hr⟩ := id fl3
      unfold PySem.passOn
      refine wpAny_bind (wpAny_field he hd h1 ?_)
      rw [if_neg (show ¬ ((Value.ref T == Value.none) = true) from by simp)]
      have fin : wpAny (model X.prog X.w) X.A (setFlight (.ref a) X.env.frame) (fun _ s4 => wpAny (model X.prog X.w) X.A (throw (.ref a) : Sem Flow) (SP X pins D) X.xe s4) X.xe { s' with heap := h3 } := by
        rw [hf]
        refine HandSPX.setFlight_upZ fl3 fun h4 hh4 up4 => wpAny_throw (tk _ _ ?_)
        exact ⟨a, B, sI, pins, σ', H', cls, d, rfl, J, nb, up3.trans up4, .inr (.inr (by rw [hs]; exact hh4)), na, os, ag, hno rfl⟩
      first
        | exact wpAny_bind (wpAny_pure (wpAny_bind fin))
        | exact wpAny_bind fin
  · cases f with
    | next => obtain ⟨σ', H', J', q⟩ := hsp; exact wpAny_execs_nil ⟨σ', H', J'.ofTry ok, q⟩
    | brk => obtain ⟨σ', H', J', q⟩ := hsp; exact ⟨σ', H', J'.ofTry ok, q⟩
    | cont => obtain ⟨σ', H', J', q⟩ := hsp; exact ⟨σ', H', J'.ofTry ok, q⟩
    | ret u => obtain ⟨v, σ', H', J', r, q⟩ := hsp; exact ⟨v, σ', H', J'.ofTry ok, r, q⟩
end
end Bal

namespace Bal
open PySem PySem.Spec PyProof.Rows L2
/-- the dict of a kept error, where it has one, stands -/
def DcOk (H : Hp) (d : Option Addr) : Prop := ∀ dd, d = some dd → ∃ fs, H dd = some (.xd fs)
theorem DcOk.none {H : Hp} : DcOk H Option.none := fun _ e => nomatch e
theorem DcOk.some {H : Hp} {dd : Addr} {fs : List (Str × V)} (h : H dd = some (.xd fs)) : DcOk H (Option.some dd) := fun _ e => by cases e; exact ⟨fs, h⟩
section
variable {X : Cx} {pins : List (Addr × Obj)} {σ : L2.St} {H : Hp} {s : Shared} {a D : Addr} {d : Option Addr}
theorem erV_inst (I : Inv X pins σ H s) (e : H a = some (ErV (.ref D) d a)) (k : DcOk H d) : ∃ ox od, PySem.W.InstAt s.heap a ox D od := by
  obtain ⟨oe, vs, hg, hz, hd⟩ := erV_at I.hok e
  cases d with
  | none => exact ⟨oe, Option.none, hg, hz.1, by unfold PySem.W.notCls; rw [hd], by rw [hz.2]; trivial⟩
  | some dd =>
    obtain ⟨fs, h⟩ := k dd rfl
    obtain ⟨mA, hns, _⟩ := (show ObjOk X.prog X.w H s.heap dd (.xd fs) from I.hok dd _ h)
    obtain ⟨od, ho, _⟩ := lookIn_ns hns
    exact ⟨oe, Option.some od, hg, hz.1, by unfold PySem.W.notCls; rw [hd], by rw [hz.2]; exact ho⟩
theorem kitV (C : ExcC X.K D) {ox : Obj} {od : Option Obj} : PySem.W.KitX X.K (.ref a) (.ref D) (fun h => PySem.W.InstAt h a ox D od) :=
  PySem.W.kitx_exc (by obtain ⟨cd, hc, _⟩ := PySem.W.any_some C.hd; rw [hc]; rfl) C.hg C.hk C.hs C.ha C.hn C.ht C.hm
/-- isinstance(e, C), e a kept error -/
def rIsV (K : PySem.W.Frag) : List V → Hp → VK → Prop := fun xs H Q => ∃ (a D : Addr) (d : Option Addr) (c : V) (u : Value) (b : Bool), xs = [.ref a, c] ∧ H a = some (ErV (.ref D) d a) ∧ ExcC K D ∧ DcOk H d ∧ ClsV c u ∧ PySem.W.kitOne K (.ref D) u = some b ∧ Q (.bl b) H
theorem call_isV : CallR X (.builtin "isinstance") (rIsV X.K) := by
  intro pins s σ H xs us Q I r h
  obtain ⟨a, D, d, c, u, b, rfl, e, C, dk, k, ek, q⟩ := h
  obtain ⟨u1, u2, rfl, r1, r2⟩ := vals2 r
  have e2 := k.eq r2
  subst e2
  cases (show u1 = Value.ref a from r1)
  obtain ⟨ox, od, J⟩ := erV_inst I e dk
  exact PySem.W.kia_one (kitV C) I.kIn J ek (fun z => nomatch z) fun tk => ⟨.bl b, H, I.tok tk, rfl, q⟩
/-- isinstance(e, (C1, ..)) -/
def rIsVT (K : PySem.W.Frag) : List V → Hp → VK → Prop := fun xs H Q => ∃ (a D : Addr) (d : Option Addr) (tp : Addr) (cs : List V) (us : List Value) (b : Bool), xs = [.ref a, .ref tp] ∧ H a = some (ErV (.ref D) d a) ∧ ExcC K D ∧ DcOk H d ∧ H tp = some (.tup cs) ∧ Paired ClsV cs us ∧ PySem.W.kitAny K (.ref D) us = some b ∧ Q (.bl b) H
theorem call_isVT : CallR X (.builtin "isinstance") (rIsVT X.K) := by
  intro pins s σ H xs us Q I r h
  obtain ⟨a, D, d, tp, cs, ws, b, rfl, e, C, dk, hT, k, ek, q⟩ := h
  obtain ⟨u1, u2, rfl, r1, r2⟩ := vals2 r
  cases (show u1 = Value.ref a from r1)
  cases (show u2 = Value.ref tp from r2)
  obtain ⟨ox, od, J⟩ := erV_inst I e dk
  obtain ⟨_, its, rv, o, h1, h2, n, h3⟩ := (show ObjOk X.prog X.w H s.heap tp (.tup cs) from I.hok tp _ hT)
  have e3 := ClsV.all k rv
  subst e3
  obtain ⟨oc, od', dt, sl⟩ := o
  simp only at h2 h3
  subst h2 h3
  exact PySem.W.kia_tup (kitV C) I.kIn J h1 ek (fun z => nomatch z) fun tk => ⟨.bl b, H, I.tok tk, rfl, q⟩
/-- e.f, e a kept error -/
def tFV (K : PySem.W.Frag) (f : Str) (te : TE) : TE := fun σ H Q => te σ H fun x H1 => ∃ (a D dd : Addr) (fs : List (Str × V)) (v : V), x = .ref a ∧ H1 a = some (ErV (.ref D) (some dd) a) ∧ ExcC K D ∧ PySem.W.findIn K (.ref D) f = some none ∧ H1 dd = some (.xd fs) ∧ fs.lookup f = some v ∧ Q v H1
theorem pe_fV {e : Expr} {te : TE} {pos : Pos} {n : Str} (he : PE X e te) (hb : attributeBase e n X.env (eval e X.env) = eval e X.env := by rfl) : PE X (.Attribute e n pos) (tFV X.K n te) := by
  refine ⟨fun pins s σ H Q I h => ?_⟩
  refine attr_of hb (thn (he.run pins s σ H _ I h) fun u s1 ⟨x, H1, I1, rx, a, D, dd, fs, v, ex, ea, C, hno, ed, l, q⟩ => ?_)
  subst ex
  obtain rfl : u = Value.ref a := rx
  obtain ⟨oe, vs, hg, hz, hd⟩ := erV_at I1.hok ea
  obtain ⟨mA, hns, hr⟩ := (show ObjOk X.prog X.w H1 s1.heap dd (.xd fs) from I1.hok dd _ ed)
  obtain ⟨od, ho, hl⟩ := lookIn_ns hns
  obtain ⟨u, hu, ru⟩ := RelO.some_of (v := v) (o := mA n) (by rw [← l]; exact hr n)
  have J : PySem.W.InstAt s1.heap a oe D (some od) := ⟨hg, hz.1, by unfold PySem.W.notCls; rw [hd], by rw [hz.2]; exact ho⟩
  exact HandSPX.exc_get I1.kIn J C.hg C.hk C.hs (PySem.W.findObj_own C.hd hno rfl (by rw [hl, hu])) (handed_of ru) ⟨v, H1, I1.tok _, ru, q⟩
/-! ### calls by names alone -/
/-- how such a call binds: g puts the values ws of the names ks in the parameters' order -/
structure KB0 (K : PySem.W.Frag) (fd : FuncData) (ps ks : List Str) (g : List Value → List Value) (gV : List V → List V) : Prop where
  to : ∀ (s : Shared) (ws : List Value), K.In s.heap → ws.length = ks.length → BindsTo s fd ⟨[], ks.zip ws⟩ (ps.zip (g ws))
  rel : ∀ {zs : List V} {ws : List Value}, zs.length = ks.length → Vals zs ws → Vals (gV zs) (g ws)
section
variable {CX : CXT} {x : Str} {f : Addr} {k : Nat} {fd : FuncData} {ps ks : List Str} {sp : Sp} {g : List Value → List Value} {gV : List V → List V} {E : XK} {kws : List Keyword} {tk : TA} {p pos : Pos}
def tCallK0 (n : Nat) (sp : Sp) (gV : List V → List V) (E : XK) (tk : TA) : TE := fun σ H Q => tk σ H fun zs H1 => zs.length = n ∧ sp (gV zs) H1 Q E
theorem pe_callK0 (F : FnOk X.prog X.w X.K X.mg X.base CX k f fd ps sp) (hr : Room k X.A) (hg : Gl X x) (hm : X.mg x = some (.ref f)) (hk : PySem.W.keepIn X.K (.ref f) = true) (hb : KB0 X.K fd ps ks g gV) (hx : Passes CX X E) (hkw : PK X kws tk)
    (hall : (backToKw pos (keywordEach kws X.env)).all (·.1.isSome) = true := by rfl) (hks : (backToKw pos (keywordEach kws X.env)).filterMap (·.1) = ks := by rfl) (hdb : (x == ("__debug__" : Str)) = false := by decide)
    (hpl : ((backTo pos (starEach [] X.env)).any (·.1) || (backToKw pos (keywordEach kws X.env)).any (·.1.isNone)) = false := by rfl) : PE X (.Call (.Name x p) [] kws pos) (tCallK0 ks.length sp gV E tk) := by
  refine ⟨fun pins s σ H Q I h => ?_⟩
  refine wpAny_Call_Name_kw (ld_glob I hg hm ?_ hdb)
  refine PySem.W.callWith_KW0 (h₀ := X.base) I.ok.mod.kin hk hall (thn (hkw.run pos pins s σ H _ I h) fun ws s2 ⟨zs, H2, I2, rz, hz, q2⟩ => ⟨I2.kIn, ?_⟩) hpl
  rw [hks]
  refine wpAny_call (codeAny_mono (F.run X.A X.stack s2 H2 ⟨[], ks.zip ws⟩ (g ws) (gV zs) Q E hr I2.env0 (hb.to s2 ws I2.kIn (by rw [← rz.length]; exact hz)) (hb.rel hz rz) q2) fun r s' hq => ?_)
  cases r with
  | error e => exact hx pins σ H2 s2 e s' I2 hq
  | ok fl =>
    cases fl with
    | ret u => exact I2.after hq
    | next => exact False.elim hq
    | brk => exact False.elim hq
    | cont => exact False.elim hq
end
/-- one name -/
theorem kb_one {K : PySem.W.Frag} {x qual : Str} {st : Stmt} {f : Addr} {fd : FuncData} {a : Str} (F : Fun K x qual st f fd)
    (h : ∀ (kV doc pm : Value) (an : Option Addr) (cdv ct : Value) (u : Value), bindArgs (PySem.W.fnOf x qual (defArgs st) (defBody st) (defScope st) .none kV doc pm an cdv ct) ⟨[], [(a, u)]⟩ = pure [(a, u)]) : KB0 K fd [a] [a] (fun w => w) (fun w => w) := by
  obtain ⟨oc, od, kV, doc, pm, an, cdv, ct, osl, rfl, lk, hcd⟩ := F.ex
  exact ⟨fun s ws _ hl => match ws, hl with | [u], _ => .of_eq (h kV doc pm an cdv ct u), fun _ r => r⟩
/-- two names, the other way about -/
def flip2 {α : Type} : List α → List α
  | [a, b] => [b, a]
  | l => l
theorem kb_flip {K : PySem.W.Frag} {x qual : Str} {st : Stmt} {f : Addr} {fd : FuncData} {a b : Str} (F : Fun K x qual st f fd)
    (h : ∀ (kV doc pm : Value) (an : Option Addr) (cdv ct : Value) (u v : Value), bindArgs (PySem.W.fnOf x qual (defArgs st) (defBody st) (defScope st) .none kV doc pm an cdv ct) ⟨[], [(b, u), (a, v)]⟩ = pure [(a, v), (b, u)]) : KB0 K fd [a, b] [b, a] flip2 flip2 := by
  obtain ⟨oc, od, kV, doc, pm, an, cdv, ct, osl, rfl, lk, hcd⟩ := F.ex
  refine ⟨fun s ws _ hl => match ws, hl with | [u, v], _ => .of_eq (h kV doc pm an cdv ct u v), fun {zs ws} hz r => ?_⟩
  match zs, hz with
  | [z1, z2], _ =>
    cases r with
    | cons r1 r =>
      cases r with
      | cons r2 r =>
        cases r
        exact .cons r2 (.cons r1 .nil)
end
/-! ### xs[::-1] of a list or a tuple -/
theorem rg_rev (n : Nat) : (List.range n).map (fun m => n - 1 - m) = (List.range n).reverse := by
  apply List.ext_getElem
  · simp
  · intro i h1 h2
    simp
theorem rev_pick (xs : Array Value) : ((List.range xs.size).filterMap fun (m : Nat) => xs[(((xs.size : Int) - 1) + (m : Int) * (-1)).toNat]?).toArray = xs.toList.reverse.toArray := by
  have e : (fun (m : Nat) => xs[(((xs.size : Int) - 1) + (m : Int) * (-1)).toNat]?) = (fun k : Nat => xs[k]?) ∘ fun m => xs.size - 1 - m := by
    funext m
    have : (((xs.size : Int) - 1) + (m : Int) * (-1)).toNat = xs.size - 1 - m := by omega
    show xs[(((xs.size : Int) - 1) + (m : Int) * (-1)).toNat]? = xs[xs.size - 1 - m]?
    rw [this]
  rw [e, ← List.filterMap_map, rg_rev, List.filterMap_reverse, PySem.W.krv_all]
section
variable {prog : Program} {w : World} {A : Around} {E : Value → Shared → Prop} {s : Shared}
theorem sl_rev {sl : Addr} {vk : Value} {n : Nat} {Q : Int × Int × Nat → Shared → Prop} (hs : s.heap.IsSliceOf sl .none .none vk) (pk : IsPart vk (some (-1))) (h : Q ((n : Int) - 1, -1, n) s) : wpAny (model prog w) A (Builtin.Slice.sliceApplied (.ref sl) (pure (n : Int))) Q E s := by
  obtain ⟨os, hos, hcs, hds⟩ := id hs
  unfold Builtin.Slice.sliceApplied Builtin.Slice.sliceFields
  refine wpAny_bind (wpAny_bind (wpAny_field hos hds (x := .none) rfl (wpAny_bind (wpAny_field hos hds (x := .none) rfl (wpAny_bind (wpAny_field hos hds (x := vk) rfl (wpAny_pure ?_)))))))
  refine wpAny_bind (HT.slicePart_ pk ?_)
  show wpAny _ _ (if ((-1 : Int) == 0) = true then _ else _) _ _ s
  rw [if_neg (by decide)]
  refine wpAny_bind (slicePart_none (wpAny_bind (slicePart_none (wpAny_bind (wpAny_pure ?_)))))
  show wpAny _ _ (pure ((n : Int) - 1, (-1 : Int), Builtin.Slice.slicePlaces ((n : Int) - 1) (-1) (-1))) _ _ s
  have e : Builtin.Slice.slicePlaces ((n : Int) - 1) (-1) (-1) = n := by
    unfold Builtin.Slice.slicePlaces
    rw [if_neg (by decide), show (-(-1 : Int)) = 1 from rfl, Int.ediv_one]
    split <;> omega
  rw [e]
  exact wpAny_pure h
theorem getItem_tup_rev {t sl : Addr} {items : Array Value} {vk : Value} {Q : Value → Shared → Prop} (ht : IsTup s.heap t items) (hs : s.heap.IsSliceOf sl .none .none vk) (pk : IsPart vk (some (-1)))
    (h : Q (.ref s.heap.objs.size) { s with heap := s.heap.push { cls := .type "tuple", data := .seq items.toList.reverse.toArray } }) (hsz : items.size ≤ sizeLine) : wpAny (model prog w) A (getItem (.ref t) (.ref sl)) Q E s := by
  have hok : sizeOk (.seq items.toList.reverse.toArray) := by
    show items.toList.reverse.toArray.size ≤ sizeLine
    rw [List.size_toArray, List.length_reverse, Array.length_toList]
    exact hsz
  obtain ⟨os, hos, hcs, hds⟩ := id hs; have hTs : s.TypeIs (.ref sl) "slice" := ⟨os, hos, hcs⟩
  unfold getItem
  try with_reducible refine wpAny_holding ?_
  first | refine wpAny_bind (wpAny_pure ?_) | skip
  refine wpAny_bind (wpAny_sequenceKey ht.typeIs (by decide) ?_)
  refine wpAny_bind (wpAny_callSpecial?_slot (name := Str.ofString "__getitem__") ht.typeIs PyProof.Rows.slot_tuple_getitem (wpAny_call_entry PyProof.Rows.slot_tuple_getitem ht.typeIs entry_tuple_getitem ?_ (args_tuple_getitem _ _)))
  show wpAny _ _ (Builtin.Tuple.tupleItemsOf (.ref t) >>= _) _ _ s
  refine wpAny_bind (tupleItemsOf_ ht ?_)
  refine wpAny_bind (wpAny_typeOf hTs ?_)
  rw [if_pos (by decide)]
  refine wpAny_bind (sl_rev hs pk ?_)
  have hno : ¬ ((((items.size : Int) - 1) == 0 && (-1 : Int) == 1 && items.size == items.size) = true) := by
    rw [show ((-1 : Int) == 1) = false from rfl, Bool.and_false, Bool.false_and]
    exact Bool.false_ne_true
  show wpAny _ _ (if (((items.size : Int) - 1) == 0 && (-1 : Int) == 1 && items.size == items.size) = true then _ else _) _ _ s
  rw [if_neg hno, rev_pick]
  first
    | exact wpAny_bind (m := Builtin.Tuple.tupleExact _) (wpAny_newObj_type (wpAny_pure ⟨_, rfl, wpAny_pure h⟩) hok)
    | exact wpAny_bind (m := Builtin.Tuple.tupleExact _) (wpAny_newObj_type (wpAny_bind (wpAny_pure (wpAny_pure ⟨_, rfl, wpAny_pure h⟩))) hok)
    | exact wpAny_bind (wpAny_bind (m := Builtin.Tuple.tupleExact _) (wpAny_newObj_type (wpAny_pure (wpAny_pure ⟨_, rfl, wpAny_pure h⟩)) hok))
    | exact wpAny_bind (wpAny_bind (m := Builtin.Tuple.tupleExact _) (wpAny_newObj_type (wpAny_pure ⟨_, rfl, wpAny_pure h⟩) hok))
end
section
variable {X : Cx}
/-- xs[::-1]: a new list, a new tuple -/
def tRevA (K : PySem.W.Frag) (te : TE) : TE := fun σ H Q => te σ H fun x H1 => ∃ a xs, x = .ref a ∧ ((SqL K H1 a xs ∧ ∀ p, H1 p = none → Q (.ref p) (upd H1 p (.lst xs.reverse))) ∨ (SqT K H1 a xs ∧ ∀ p, H1 p = none → Q (.ref p) (upd H1 p (.tup xs.reverse))))
theorem pe_revA {e : Expr} {te : TE} {k : Nat} {p1 p2 p3 pos : Pos} (he : PE X e te) : PE X (.Subscript e (.Slice none none (some (.UnaryOp .USub (.Constant (.int 1) k p1) p2)) p3) pos) (tRevA X.K te) := by
  refine ⟨fun pins s σ H Q I h => ?_⟩
  refine Subscript_ (thn (he.run pins s σ H _ I h) fun v s1 ⟨x, H1, I1, r1, a, xs, ex, q1⟩ => ?_)
  subst ex; cases r1
  have hst : PO X (some (.UnaryOp .USub (.Constant (.int 1) k p1) p2)) (tPart (tUn (rU fun i => .int (-i)) (tC (.int 1)))) := po_some (pe_un un_neg pe_int)
  refine wpAny_Slice (thn (po_none.run pins s1 σ H1 (fun o H2 => o = none ∧ H2 = H1) I1 ⟨rfl, rfl⟩) fun vl s2 ⟨l, H2, I2, pl, el, e2⟩ => ?_)
  subst el e2
  refine thn (po_none.run pins s2 σ H2 (fun o H3 => o = none ∧ H3 = H2) I2 ⟨rfl, rfl⟩) fun vu s3 ⟨u, H3, I3, pu, eu, e3⟩ => ?_
  subst eu e3
  refine thn (hst.run pins s3 σ H3 (fun o H4 => o = some (-1) ∧ H4 = H3) I3 ⟨1, rfl, -1, rfl, rfl, rfl⟩) fun vs s4 ⟨o, H4, I4, ps, eo, e4⟩ => ?_
  subst eo e4
  have I5 : Inv X pins σ H4 { s4 with heap := s4.heap.push { cls := .type "slice", data := .fields #[vl, vu, vs] } } := I4.kept (t' := s4.toks) fun b ob q => Heap.get?_push_of_some _ q
  show wpAny (model X.prog X.w) X.A (subscriptTail e (.Slice none none (some (.UnaryOp .USub (.Constant (.int 1) k p1) p2)) p3) (.ref a) (.ref s4.heap.objs.size)) (EP X pins σ Q) X.xe { s4 with heap := s4.heap.push { cls := .type "slice", data := .fields #[vl, vu, vs] } }
  rcases q1 with ⟨hx, q⟩ | ⟨hx, q⟩
  · obtain ⟨its, r, ht, hz⟩ := I5.list hx
    have hlen := r.length
    refine tail_any (ops := [.ref a, .ref s4.heap.objs.size]) ht.isList.typeIs (PySem.slot_list_getitem.lookup) ?_ (by with_unfolding_all rfl)
    refine wpAny_getItem_list_slice ht.isList (Heap.IsSliceOf.new _ vl vu vs) pl pu ps (by decide) ?_ (by rw [List.size_toArray]; omega)
    rw [PySem.W.krv_pick]
    exact ⟨.ref _, _, I5.laid (t' := s4.toks) (o := .lst xs.reverse) (fun b ob q => Heap.get?_push_of_some _ q) (Nat.le_refl _) ⟨by rw [List.length_reverse]; exact hz, _, 0, r.reverse, Heap.get?_push_size _ rfl⟩, rfl, q _ (I5.hok.fresh (Nat.le_refl _))⟩
  · obtain ⟨its, r, ht, hz⟩ := I5.tuple hx
    have hlen := r.length
    cases pl; cases pu
    refine tail_any (ops := [.ref a, .ref s4.heap.objs.size]) ht.typeIs (PyProof.Rows.slot_tuple_getitem.lookup) ?_ (by with_unfolding_all rfl)
    refine getItem_tup_rev ht (Heap.IsSliceOf.new _ _ _ vs) ps ?_ (by rw [List.size_toArray]; omega)
    exact ⟨.ref _, _, I5.laid (t' := s4.toks) (o := .tup xs.reverse) (fun b ob q => Heap.get?_push_of_some _ q) (Nat.le_refl _) ⟨by rw [List.length_reverse]; exact hz, _, r.reverse, IsTup.new _ _⟩, rfl, q _ (I5.hok.fresh (Nat.le_refl _))⟩
end
/-! ### what classes are to one another -/
theorem kit_self {K : PySem.W.Frag} {D : Addr} : PySem.W.kitOne K (.ref D) (.ref D) = some true := by
  unfold PySem.W.kitOne
  rw [if_pos (beq_self_eq_true _)]
theorem kit_no {K : PySem.W.Frag} {D C : Addr} (hd : PySem.W.hasDictIn K C = true) (ht : PySem.W.typeIn K (.ref C) = some (.type "type")) (hs : PySem.W.subIn K (.ref D) (.ref D) = some true) (h : PySem.W.subIn K (.ref D) (.ref C) = some false) : PySem.W.kitOne K (.ref D) (.ref C) = some false := by
  unfold PySem.W.kitOne
  have ne : ((Value.ref D == Value.ref C) = true) = False := by
    refine eq_false fun z => ?_
    have e : D = C := Value.ref.inj (beq_iff_eq.mp z)
    rw [e] at hs h
    rw [hs] at h
    cases h
  obtain ⟨cd, hc, _⟩ := PySem.W.any_some hd
  rw [if_neg (by rw [ne]; exact id)]
  show (if ((PySem.W.clsIn K C).isSome && PySem.W.typeIn K (.ref C) == some (.type "type")) = true then PySem.W.subIn K (.ref D) (.ref C) else none) = some false
  rw [hc, ht, if_pos (by rfl)]
  exact h
theorem kit_up {K : PySem.W.Frag} {D : Addr} {T : String} {b : Bool} (hm : PySem.W.kitMeta T = true) (h : PySem.W.subIn K (.ref D) (.type T) = some b) : PySem.W.kitOne K (.ref D) (.type T) = some b := by
  unfold PySem.W.kitOne
  have ne : ¬ (Value.ref D == Value.type T) = true := fun z => by
    have z := beq_iff_eq.mp z
    cases z
  rw [if_neg ne]
  show (if PySem.W.kitMeta T = true then PySem.W.subIn K (.ref D) (.type T) else none) = some b
  rw [if_pos hm]
  exact h
theorem kits_no {K : PySem.W.Frag} {t : Value} : ∀ {us : List Value}, (∀ u ∈ us, PySem.W.kitOne K t u = some false) → PySem.W.kitAny K t us = some false
  | [], _ => rfl
  | u :: us, h => by
    unfold PySem.W.kitAny
    rw [h u (List.mem_cons_self ..)]
    exact kits_no fun v hv => h v (List.mem_cons_of_mem _ hv)
theorem exms_yes {K : PySem.W.Frag} {cls : Value} : ∀ {us : List Value}, (∀ u ∈ us, ∃ b, PySem.W.exmOne K cls u = some b) → (∃ u ∈ us, PySem.W.exmOne K cls u = some true) → PySem.W.exmAny K cls us = some true := by
  have all : ∀ {us : List Value}, (∀ u ∈ us, ∃ b, PySem.W.exmOne K cls u = some b) → ∃ b, PySem.W.exmAny K cls us = some b := by
    intro us
    induction us with
    | nil => exact fun _ => ⟨false, rfl⟩
    | cons u us ih =>
      intro h
      obtain ⟨b, hb⟩ := h u (List.mem_cons_self ..)
      obtain ⟨d, hd⟩ := ih fun v hv => h v (List.mem_cons_of_mem _ hv)
      exact ⟨b || d, by unfold PySem.W.exmAny; rw [hb, hd]⟩
  intro us h ⟨u, hu, e⟩
  obtain ⟨b, hb⟩ := all h
  obtain ⟨_, eb⟩ := exmAny_each hb
  rw [hb, eb]
  have : (us.any fun c => PySem.W.exmOne K cls c == some true) = true := List.any_eq_true.mpr ⟨u, hu, by rw [e]; rfl⟩
  rw [this]
/-- a class of one's own among the errors: what is asked of it -/
structure ErK (K : PySem.W.Frag) (mg : Str → Option Value) (x : Str) (C : Addr) : Prop where
  g : mg x = some (.ref C)
  ex : PySem.W.subIn K (.ref C) (.type "BaseException") = some true
  hd : PySem.W.hasDictIn K C = true
  ty : PySem.W.typeIn K (.ref C) = some (.type "type")
theorem ErK.one {K : PySem.W.Frag} {mg : Str → Option Value} {x : Str} {C : Addr} (h : ErK K mg x C) {cls : Value} {b : Bool} (s : PySem.W.subIn K cls (.ref C) = some b) : PySem.W.exmOne K cls (.ref C) = some b := PySem.W.exm_ref h.ex h.hd h.ty s
/-- .. one with a field f, told by its __init__, and what makes its instances -/
structure ErT (K : PySem.W.Frag) (mg : Str → Option Value) (x f qual : Str) (st : Stmt) (C fI : Addr) (fdI : FuncData) (newId : String) (tail : List Value) : Prop where
  k : ErK K mg x C
  c : ErC K C newId tail
  i : ExcC K C
  iC : PySem.W.findIn K (.ref C) "__init__" = some (some (.ref fI))
  tI : PySem.W.typeIn K (.ref fI) = some (.type "function")
  F : Fun K "__init__" qual st fI fdI
  no : PySem.W.findIn K (.ref C) f = some none
  me : PySem.W.subIn K (.ref C) (.ref C) = some true
theorem mk_heap {H : Hp} {a dx : Addr} {o1 o2 o3 o4 : HO} (ha : H a = none) (ne : dx ≠ a) : upd (del (upd (upd (upd H a o1) dx o2) a o3) a) dx o4 = upd H dx o4 := by
  funext b
  by_cases h1 : b = dx
  · rw [h1, upd_same, upd_same]
  · rw [upd_ne h1, upd_ne h1]
    by_cases h2 : b = a
    · rw [h2, del_same, ha]
    · rw [del_ne h2, upd_ne h2, upd_ne h1, upd_ne h2]
/-- __init__(self, f): self.f = f -/
def spInit (K : PySem.W.Frag) (C : Addr) (f : Str) : Sp := fun vs H Q _ => ∃ (a : Addr) (v : V), vs = [.ref a, v] ∧ H a = some (exo a C none) ∧ ∀ dx, H dx = none → dx ≠ a → Q .non (upd (upd H dx (exd dx [(f, v)])) a (exo a C (some dx)))
/-- an error of the class at C is made of v -/
theorem made_er {K : PySem.W.Frag} {C : Addr} {f : Str} {v : V} {H : Hp} {Q : XK} (q : ∀ d, H d = none → Q (.ref C) (some d) (upd H d (.xd [(f, v)]))) : [v].length ≤ 1000 ∧ ∀ a, H a = none → spInit K C f (.ref a :: ([v] ++ [])) (upd H a (exo a C none))
    (fun v H2 => v = .non ∧ ∃ (d : Addr) (fs : List (Str × V)), H2 a = some (exo a C (some d)) ∧ H2 d = some (exd d fs) ∧ H d = none ∧ Q (.ref C) (some d) (upd (del H2 a) d (.xd fs))) (fun _ _ _ => False) := by
  refine ⟨by show 1 ≤ 1000; decide, fun a ha => ⟨a, v, rfl, upd_same, fun dx ndx ne => ⟨rfl, dx, [(f, v)], upd_same, ?_, ?_, ?_⟩⟩⟩
  · rw [upd_ne ne, upd_same]
  · rw [upd_ne ne] at ndx
    exact ndx
  · rw [mk_heap ha ne]
    rw [upd_ne ne] at ndx
    exact q dx ndx
theorem erT_mk {K : PySem.W.Frag} {mg : Str → Option Value} {x f qual : Str} {st : Stmt} {C fI : Addr} {fdI : FuncData} {newId : String} {tail : List Value} {nm qn : Str} {N : Addr} {bs : List Value} {sn : List Str} {sub : List Value} {ab : Bool} {col : Option Bool} {dd : Option Addr} {m0 m1 m2 m3 m5 : Option Value}
    (g : mg x = some (.ref C)) (xl : K.lookup C = some (excClassObj nm qn C N bs tail true sn sub ab col dd m0 m1 m2 m3 m5 newId)) (sa : PySem.W.findIn K (.ref C) "__setattr__" = some (some (.builtin "object.__setattr__"))) (ga : PySem.W.findIn K (.ref C) "__getattribute__" = some (some (.builtin "BaseException.__getattribute__")))
    (gg : PySem.W.findIn K (.ref C) "__getattr__" = some none) (no : PySem.W.findIn K (.ref C) f = some none) (iC : PySem.W.findIn K (.ref C) "__init__" = some (some (.ref fI))) (tI : PySem.W.typeIn K (.ref fI) = some (.type "function")) (F : Fun K "__init__" qual st fI fdI)
    (kC : PySem.W.keepIn K (.ref C) = true) (ex : PySem.W.subIn K (.ref C) (.type "BaseException") = some true) (ty : PySem.W.typeIn K (.ref C) = some (.type "type")) (hd : PySem.W.hasDictIn K C = true) (me : PySem.W.subIn K (.ref C) (.ref C) = some true)
    (ha : PySem.W.findIn K (.ref C) "__class__" = some (some (.builtin "object.__class__"))) (hm : PySem.W.mroIn K C (.type "object") = some true) (hn : PySem.W.specialIn K (.builtin "object.__class__") "__get__" = some (some (.builtin "getset_descriptor.__get__"))) (ht : PySem.W.takesIn K (.builtin "object.__class__") = some true) (bx : BaseX newId tail) :
    ErT K mg x f qual st C fI fdI newId tail := ⟨⟨g, ex, hd, ty⟩, ⟨bx, ⟨nm, qn, N, bs, sn, sub, ab, col, dd, m0, m1, m2, m3, m5, xl⟩, sa, ex, ty, kC⟩, ⟨ga, gg, ex, hd, ha, hn, ht, hm⟩, iC, tI, F, no, me⟩
end Bal

namespace Bal
open PySem PySem.Spec PyProof.Rows L2
/-! ### one of two readings -/
theorem pe_or {X : Cx} {e : Expr} {t u : TE} (h : PE X e t) (h' : PE X e u) : PE X e (fun σ H Q => t σ H Q ∨ u σ H Q) := ⟨fun pins s σ H Q I q => q.elim (h.run pins s σ H Q I) (h'.run pins s σ H Q I)⟩
/-- a list or a tuple -/
def SqA (K : PySem.W.Frag) (H : Hp) (a : Addr) (xs : List V) : Prop := SqL K H a xs ∨ SqT K H a xs
theorem SqA.same {K : PySem.W.Frag} {H H' : Hp} {a : Addr} {xs : List V} (h : SqA K H a xs) (s : Same H H') : SqA K H' a xs := h.imp (fun h => s.seq h) (fun h => Same.sqT s h)
section
variable {X : Cx} {pins : List (Addr × Obj)} {σ : L2.St} {H : Hp} {s : Shared} {a : Addr}
theorem sq_obj {xs : List V} (I : Inv X pins σ H s) (h : SqA X.K H a xs) : ∃ (its : List Value) (T : String) (o : Obj) (n : Nat), Vals xs its ∧ its.length ≤ sizeLine ∧ (T = "list" ∨ T = "tuple") ∧ s.heap.get? a = some o ∧ o.cls = .type T ∧ o.data = .seq its.toArray n := by
  rcases h with h | h
  · obtain ⟨its, r, ⟨o, n, ho, hc, _, hd⟩, hz⟩ := I.list h
    exact ⟨its, "list", o, n, r, by rw [← r.length]; exact hz, .inl rfl, ho, hc, hd⟩
  · obtain ⟨its, r, ⟨o, ho, hc, n, hd⟩, hz⟩ := I.tuple h
    exact ⟨its, "tuple", o, n, r, by rw [← r.length]; exact hz, .inr rfl, ho, hc, hd⟩
/-- sorted(xs, ..) of numbers, xs a list or a tuple; kw says reverse=b -/
theorem sorted_go {b : Bool} {kw : List (Str × Value)} {ns : List Int} {Q : VK} (I : Inv X pins σ H s) (hs : SqA X.K H a (ns.map V.int)) (hk : ∀ a, Builtin.«list.sort» ⟨[.ref a], kw⟩ = Builtin.«list.sort» ⟨[.ref a], [(Str.ofString "reverse", .bool b)]⟩)
    (ha1 : argsOk "sorted" ⟨[.ref a], kw⟩) (ha2 : ∀ a, argsOk "list.sort" ⟨[a], kw⟩) (q : ∀ (ns' : List Int) (p : Addr), ns'.Perm ns → OrdB b ns' → H p = none → Q (.ref p) (upd H p (.lst (ns'.map V.int)))) :
    wpAny (model X.prog X.w) X.A (call (.builtin "sorted") [.ref a] kw) (EP X pins σ Q) X.xe s := by
  obtain ⟨its, T, o, n, rv, hz, hT, ho, hc, hd⟩ := sq_obj I hs
  have hi := rv.ints
  refine call_function_entry_kw kind_sorted plain_sorted entry_sorted ha1 ?_
  unfold Builtin.«sorted»
  refine wpAny_bind (m := checkCount "sorted" 1 1 _) (wpAny_pure ?_)
  refine wpAny_bind (wpAny_collect_seq a hT ho hc hd (fun h' k => ?_) (by rw [List.size_toArray]; exact hz))
  rw [show its.toArray.toList = its from rfl]
  refine wpAny_bind (wpAny_newList ?_ hz)
  have hoL : (h'.push (seqObj "list" its.toArray 0)).get? h'.objs.size = some (seqObj "list" its.toArray 0) := Heap.get?_push_size _ rfl
  have kk : ∀ b o, s.heap.get? b = some o → (h'.push (seqObj "list" its.toArray 0)).get? b = some o := fun b o e => Heap.get?_push_of_some _ (k b o e)
  have fr : H h'.objs.size = none := (I.kept (t' := s.toks) k).hok.fresh (Nat.le_refl _)
  show wpAny _ _ _ _ _ { s with heap := h'.push (seqObj "list" its.toArray 0) }
  refine wpAny_bind (wpAny_holding (wpAny_call_entry_kw slot_list_sort ⟨_, hoL, rfl⟩ entry_list_sort ?_ (ha2 _)))
  rw [hk]
  refine SrtR.list_sort_ordR SrtO.swo_int hoL hz (fun h2 => SrtO.ints_sortable hi h2) fun out h1 h2 => ⟨_, rfl, ?_⟩
  obtain ⟨ns', k1, k2, k3⟩ := SrtR.ints_outR hi h1 h2
  obtain ⟨ep, he'⟩ := PyProof.Rows.sortedHeap_at (out := if b = true then out.toArray.reverse else out.toArray) hoL
  have hlen : (ns'.map V.int).length ≤ sizeLine := by
    rw [List.length_map, k2.length_eq, ← List.length_map (f := V.int), rv.length]
    exact hz
  have e0 : ((if b = true then out.toArray.reverse else out.toArray).toList).toArray = (if b = true then out.toArray.reverse else out.toArray) := by rw [Array.toArray_toList]
  have old : ∀ c u, s.heap.get? c = some u → (sortedHeap (h'.push (seqObj "list" its.toArray 0)) h'.objs.size its (if b = true then out.toArray.reverse else out.toArray)).get? c = some u := fun c u e => by
    have lt : c < h'.objs.size := Heap.lt_size (k c u e)
    rw [PyProof.Rows.sortedHeap_old (Nat.ne_of_lt lt) (by rw [size_push']; exact Nat.lt_succ_of_lt lt)]
    exact kk c u e
  have hp0 : s.heap.get? h'.objs.size = none := by
    cases e : s.heap.get? h'.objs.size with
    | none => rfl
    | some u => exact absurd (Heap.lt_size (k _ _ e)) (Nat.lt_irrefl _)
  exact wpAny_pure ⟨_, rfl, .ref _, upd H h'.objs.size (.lst (ns'.map V.int)), I.laidN (t' := s.toks) old hp0 fr ⟨hlen, _, ep, vals_of_ints k1, by rw [e0]; exact he'⟩, rfl, q _ _ k2 k3 fr⟩
def rSrtR (K : PySem.W.Frag) (b : Bool) : List V → List V → Hp → VK → Prop := fun vs zs H Q => ∃ (a : Addr) (ns : List Int), vs = [V.ref a] ∧ zs = [.bl b] ∧ SqA K H a (ns.map V.int) ∧ ∀ (ns' : List Int) (p : Addr), ns'.Perm ns → OrdB b ns' → H p = none → Q (.ref p) (upd H p (.lst (ns'.map V.int)))
theorem cr_srtR {b : Bool} : CallRK X (.builtin "sorted") [Str.ofString "reverse"] (rSrtR X.K b) := by
  intro pins s σ H vs zs us ws Q I r rz h
  obtain ⟨a, ns, rfl, rfl, hs, q⟩ := h
  obtain rfl := Vals.ref1 r
  obtain ⟨w1, rfl, e1⟩ := vals1 rz
  obtain rfl : w1 = Value.bool b := e1
  exact sorted_go I hs (fun _ => rfl) (PyProof.Rows.args_sorted_rev _ _) (fun _ => PyProof.Rows.args_list_sort_rev _ _) q
def rSrt (K : PySem.W.Frag) : List V → Hp → VK → Prop := fun vs H Q => ∃ (a : Addr) (ns : List Int), vs = [V.ref a] ∧ SqA K H a (ns.map V.int) ∧ ∀ (ns' : List Int) (p : Addr), ns'.Perm ns → ns'.Pairwise (· ≤ ·) → H p = none → Q (.ref p) (upd H p (.lst (ns'.map V.int)))
theorem sort_plain (a : Addr) : Builtin.«list.sort» ⟨[.ref a], []⟩ = Builtin.«list.sort» ⟨[.ref a], [(Str.ofString "reverse", .bool false)]⟩ := by
  rw [list_sort_rev]
  first | rfl | kernel_rfl
theorem cr_srt : CallR X (.builtin "sorted") (rSrt X.K) := by
  intro pins s σ H vs us Q I r h
  obtain ⟨a, ns, rfl, hs, q⟩ := h
  obtain rfl := Vals.ref1 r
  exact sorted_go (b := false) (kw := []) I hs sort_plain (args_sorted1 _) (fun _ => args_list_sort _) (fun ns' p pm o n => q ns' p pm o n)
/-! ### xs.index(x) of numbers -/
def rIdx (K : PySem.W.Frag) : V → List V → Hp → VK → Prop := fun x xs H Q => ∃ (a : Addr) (ns : List Int) (k : Int), x = .ref a ∧ xs = [.int k] ∧ SqL K H a (ns.map V.int) ∧ k ∈ ns ∧ Q (.int (ns.idxOf k : Nat)) H
def rIdxT (K : PySem.W.Frag) : V → List V → Hp → VK → Prop := fun x xs H Q => ∃ (a : Addr) (ns : List Int) (k : Int), x = .ref a ∧ xs = [.int k] ∧ SqT K H a (ns.map V.int) ∧ k ∈ ns ∧ Q (.int (ns.idxOf k : Nat)) H
theorem mt_idx : MtR X "list.index" (rIdx X.K) := by
  intro pins s σ H x xs v us Q I rx rs h
  obtain ⟨a, ns, k, rfl, rfl, hs, hk, q⟩ := h
  cases rx
  obtain ⟨u, rfl, t, rfl⟩ := vals1 rs
  obtain ⟨its, r, p, hz⟩ := I.list hs
  exact PySem.SeqAt.list_index_ints p.isList r.ints (by rw [List.length_map] at hz; exact hz) hk ⟨.int (ns.idxOf k : Nat), H, I.tok _, ⟨_, rfl⟩, q⟩
theorem mt_idxT : MtR X "tuple.index" (rIdxT X.K) := by
  intro pins s σ H x xs v us Q I rx rs h
  obtain ⟨a, ns, k, rfl, rfl, hs, hk, q⟩ := h
  cases rx
  obtain ⟨u, rfl, t, rfl⟩ := vals1 rs
  obtain ⟨its, r, p, hz⟩ := I.tuple hs
  exact PySem.SeqAt.tuple_index_ints (show s.heap.IsTuple a its.toArray from p) r.ints hk ⟨.int (ns.idxOf k : Nat), H, I.tok _, ⟨_, rfl⟩, q⟩
/-! ### max and min of a tuple of numbers -/
theorem fold_max : ∀ (ns : List Int) (n : Int), ns.foldl max n ∈ n :: ns ∧ ∀ y ∈ n :: ns, y ≤ ns.foldl max n
  | [], n => ⟨List.mem_cons_self .., fun y hy => by
    rw [List.mem_singleton] at hy
    rw [hy]
    exact Int.le_refl _⟩
  | k :: r, n => by
    obtain ⟨h1, h2⟩ := fold_max r (max n k)
    refine ⟨?_, fun y hy => ?_⟩
    · show r.foldl max (max n k) ∈ n :: k :: r
      rcases List.mem_cons.mp h1 with e | e
      · rw [e]
        by_cases z : n ≤ k
        · rw [Int.max_eq_right z]; exact List.mem_cons_of_mem _ (List.mem_cons_self ..)
        · rw [Int.max_eq_left (by omega)]; exact List.mem_cons_self ..
      · exact List.mem_cons_of_mem _ (List.mem_cons_of_mem _ e)
    · show y ≤ r.foldl max (max n k)
      have h3 := h2 (max n k) (List.mem_cons_self ..)
      rcases List.mem_cons.mp hy with e | e
      · omega
      · rcases List.mem_cons.mp e with e | e
        · omega
        · exact h2 y (List.mem_cons_of_mem _ e)
theorem fold_min : ∀ (ns : List Int) (n : Int), ns.foldl min n ∈ n :: ns ∧ ∀ y ∈ n :: ns, ns.foldl min n ≤ y
  | [], n => ⟨List.mem_cons_self .., fun y hy => by
    rw [List.mem_singleton] at hy
    rw [hy]
    exact Int.le_refl _⟩
  | k :: r, n => by
    obtain ⟨h1, h2⟩ := fold_min r (min n k)
    refine ⟨?_, fun y hy => ?_⟩
    · show r.foldl min (min n k) ∈ n :: k :: r
      rcases List.mem_cons.mp h1 with e | e
      · rw [e]
        by_cases z : n ≤ k
        · rw [Int.min_eq_left z]; exact List.mem_cons_self ..
        · rw [Int.min_eq_right (by omega)]; exact List.mem_cons_of_mem _ (List.mem_cons_self ..)
      · exact List.mem_cons_of_mem _ (List.mem_cons_of_mem _ e)
    · show r.foldl min (min n k) ≤ y
      have h3 := h2 (min n k) (List.mem_cons_self ..)
      rcases List.mem_cons.mp hy with e | e
      · omega
      · rcases List.mem_cons.mp e with e | e
        · omega
        · exact h2 y (List.mem_cons_of_mem _ e)
theorem reads_int {h : Heap} {v : Value} {i : Int} {bs : List Addr} (r : Reads h v (.int i) bs) : ∃ t, v = .int i t := by
  cases r
  exact ⟨_, rfl⟩
def rMaxT (K : PySem.W.Frag) : List V → Hp → VK → Prop := fun vs H Q => ∃ (a : Addr) (ns : List Int), vs = [V.ref a] ∧ SqT K H a (ns.map V.int) ∧ ns ≠ [] ∧ ∀ m, m ∈ ns → (∀ y, y ∈ ns → y ≤ m) → Q (.int m) H
def rMinT (K : PySem.W.Frag) : List V → Hp → VK → Prop := fun vs H Q => ∃ (a : Addr) (ns : List Int), vs = [V.ref a] ∧ SqT K H a (ns.map V.int) ∧ ns ≠ [] ∧ ∀ m, m ∈ ns → (∀ y, y ∈ ns → m ≤ y) → Q (.int m) H
theorem cr_maxT (hc : X.calm = true) (hu : X.A.units + 1 < cLine) : CallR X (.builtin "max") (rMaxT X.K) := by
  intro pins s σ H vs us Q I r h
  obtain ⟨a, ns, rfl, hs, hne, q⟩ := h
  obtain rfl := Vals.ref1 r
  obtain ⟨its, rv, hl, hz⟩ := I.tuple hs
  obtain ⟨as, hr⟩ := Dp.readsAll I (ns.map PyData.int) _ _ (dps_ints ns) rv
  cases ns with
  | nil => exact absurd rfl hne
  | cons n ns =>
    refine PySem.W.max_tuple_data (I.ok.hd hc) (show s.heap.IsTuple a its.toArray from hl) hr (PySem.W.alikeAll_datum (n :: ns)) (by rw [show PyData.int n :: List.map PyData.int ns = (n :: ns).map PyData.int from rfl, dep_ints]; exact hu) fun i v h' tk bs hi rd hk => ?_
    rw [PySem.W.maxD_ints] at rd
    obtain ⟨t, rfl⟩ := reads_int rd
    obtain ⟨m1, m2⟩ := fold_max ns n
    exact ⟨.int _, H, I.kept hk, ⟨_, rfl⟩, q _ m1 m2⟩
theorem cr_minT (hc : X.calm = true) (hu : X.A.units + 1 < cLine) : CallR X (.builtin "min") (rMinT X.K) := by
  intro pins s σ H vs us Q I r h
  obtain ⟨a, ns, rfl, hs, hne, q⟩ := h
  obtain rfl := Vals.ref1 r
  obtain ⟨its, rv, hl, hz⟩ := I.tuple hs
  obtain ⟨as, hr⟩ := Dp.readsAll I (ns.map PyData.int) _ _ (dps_ints ns) rv
  cases ns with
  | nil => exact absurd rfl hne
  | cons n ns =>
    refine PySem.W.min_tuple_data (I.ok.hd hc) (show s.heap.IsTuple a its.toArray from hl) hr (PySem.W.alikeAll_datum (n :: ns)) (by rw [show PyData.int n :: List.map PyData.int ns = (n :: ns).map PyData.int from rfl, dep_ints]; exact hu) fun i v h' tk bs hi rd hk => ?_
    rw [PySem.W.minD_ints] at rd
    obtain ⟨t, rfl⟩ := reads_int rd
    obtain ⟨m1, m2⟩ := fold_min ns n
    exact ⟨.int _, H, I.kept hk, ⟨_, rfl⟩, q _ m1 m2⟩
theorem inV_ints (k : Int) : ∀ ns : List Int, inV (.int k) (ns.map V.int) = decide (k ∈ ns)
  | [] => rfl
  | n :: ns => by
    show (eqV (.int n) (.int k) || inV (.int k) (ns.map V.int)) = decide (k ∈ n :: ns)
    rw [inV_ints k ns]
    show ((n == k) || decide (k ∈ ns)) = _
    by_cases h : k = n
    · subst h
      simp
    · have h' : (n == k) = false := beq_eq_false_iff_ne.mpr (fun e => h e.symm)
      simp [h, h']
theorem flat_ints : ∀ ns : List Int, (ns.map V.int).all flatV = true
  | [] => rfl
  | n :: ns => by
    show (flatV (.int n) && (ns.map V.int).all flatV) = true
    rw [flat_ints ns]
    rfl
end
end Bal

namespace Bal
open PySem PySem.Spec PyProof.Rows L2
/-! ### tuples that are known to have no dict -/
def TupN (H : Hp) (a : Addr) (xs : List V) : Prop := ∃ o : Obj, o.dict = none ∧ H a = some (.frz o (.tup xs))
theorem TupN.sq {K : PySem.W.Frag} {H : Hp} {a : Addr} {xs : List V} (h : TupN H a xs) : SqT K H a xs := by
  obtain ⟨o, _, e⟩ := h
  exact .inl (.inr ⟨o, e⟩)
theorem TupN.same {H H' : Hp} {a : Addr} {xs : List V} (h : TupN H a xs) (s : Same H H') : TupN H' a xs := by
  obtain ⟨o, d, e⟩ := h
  exact ⟨o, d, s _ _ e⟩
theorem TupN.new {H : Hp} {a : Addr} {xs : List V} {o : Obj} (h : o.dict = none) : TupN (upd H a (.frz o (.tup xs))) a xs := ⟨o, h, upd_same⟩
/-- a list, or such a tuple -/
def SqB (K : PySem.W.Frag) (H : Hp) (a : Addr) (xs : List V) : Prop := SqL K H a xs ∨ TupN H a xs
theorem SqB.a {K : PySem.W.Frag} {H : Hp} {a : Addr} {xs : List V} (h : SqB K H a xs) : SqA K H a xs := h.imp id (fun h => h.sq)
theorem SqB.same {K : PySem.W.Frag} {H H' : Hp} {a : Addr} {xs : List V} (h : SqB K H a xs) (s : Same H H') : SqB K H' a xs := h.imp (fun h => s.seq h) (fun h => h.same s)
section
variable {X : Cx} {pins : List (Addr × Obj)} {σ : L2.St} {H : Hp} {s : Shared} {a : Addr}
theorem frz_tup {P : Program} {w : World} {H : Hp} {h : Heap} {a : Addr} {xs : List V} {its : List Value} (hz : xs.length ≤ sizeLine) (r : Vals xs its) (e : h.get? a = some { cls := .type "tuple", data := .seq its.toArray }) : ObjOk P w H h a (.frz { cls := .type "tuple", data := .seq its.toArray } (.tup xs)) :=
  ⟨e, hz, its, r, _, e, rfl, _, rfl⟩
/-- tuple(xs) -/
def rTupN (K : PySem.W.Frag) : List V → Hp → VK → Prop := fun xs H Q => ∃ p ys, xs = [.ref p] ∧ ((SqL K H p ys ∧ ∀ l o, o.dict = none → H l = none → Q (.ref l) (upd H l (.frz o (.tup ys)))) ∨ (SqT K H p ys ∧ Q (.ref p) H))
theorem call_tupN : CallR X (.type "tuple") (rTupN X.K) := by
  intro pins s σ H xs us Q I r h
  obtain ⟨p, ys, rfl, h⟩ := h
  obtain ⟨u, rfl, rx⟩ := vals1 r
  cases rx
  rcases h with ⟨hq, q⟩ | ⟨hq, q⟩
  · obtain ⟨its, r', pl, hz⟩ := I.list hq
    have hlen := r'.length
    refine call_tuple_list pl.isList (fun h' kp => ?_) (by simp only [List.size_toArray] <;> omega)
    have I1 : Inv X pins σ H { s with heap := h' } := I.kept (t' := s.toks) kp
    exact ⟨.ref h'.objs.size, _, I1.laid (t' := s.toks) (fun b o e => Heap.get?_push_of_some _ e) (Nat.le_refl _) (frz_tup hz r' (Heap.get?_push_size _ rfl)), rfl, q _ _ rfl (I1.hok.fresh (Nat.le_refl _))⟩
  · obtain ⟨its, r', pl, hz⟩ := I.tuple hq
    exact call_tuple_same pl ⟨.ref p, H, I, rfl, q⟩
/-- xs[::-1] -/
def tRevN (K : PySem.W.Frag) (te : TE) : TE := fun σ H Q => te σ H fun x H1 => ∃ a xs, x = .ref a ∧ ((SqL K H1 a xs ∧ ∀ p, H1 p = none → Q (.ref p) (upd H1 p (.lst xs.reverse))) ∨ (SqT K H1 a xs ∧ ∀ p o, o.dict = none → H1 p = none → Q (.ref p) (upd H1 p (.frz o (.tup xs.reverse)))))
theorem pe_revN {e : Expr} {te : TE} {k : Nat} {p1 p2 p3 pos : Pos} (he : PE X e te) : PE X (.Subscript e (.Slice none none (some (.UnaryOp .USub (.Constant (.int 1) k p1) p2)) p3) pos) (tRevN X.K te) := by
  refine ⟨fun pins s σ H Q I h => ?_⟩
  refine Subscript_ (thn (he.run pins s σ H _ I h) fun v s1 ⟨x, H1, I1, r1, a, xs, ex, q1⟩ => ?_)
  subst ex; cases r1
  have hst : PO X (some (.UnaryOp .USub (.Constant (.int 1) k p1) p2)) (tPart (tUn (rU fun i => .int (-i)) (tC (.int 1)))) := po_some (pe_un un_neg pe_int)
  refine wpAny_Slice (thn (po_none.run pins s1 σ H1 (fun o H2 => o = none ∧ H2 = H1) I1 ⟨rfl, rfl⟩) fun vl s2 ⟨l, H2, I2, pl, el, e2⟩ => ?_)
  subst el e2
  refine thn (po_none.run pins s2 σ H2 (fun o H3 => o = none ∧ H3 = H2) I2 ⟨rfl, rfl⟩) fun vu s3 ⟨u, H3, I3, pu, eu, e3⟩ => ?_
  subst eu e3
  refine thn (hst.run pins s3 σ H3 (fun o H4 => o = some (-1) ∧ H4 = H3) I3 ⟨1, rfl, -1, rfl, rfl, rfl⟩) fun vs s4 ⟨o, H4, I4, ps, eo, e4⟩ => ?_
  subst eo e4
  have I5 : Inv X pins σ H4 { s4 with heap := s4.heap.push { cls := .type "slice", data := .fields #[vl, vu, vs] } } := I4.kept (t' := s4.toks) fun b ob q => Heap.get?_push_of_some _ q
  show wpAny (model X.prog X.w) X.A (subscriptTail e (.Slice none none (some (.UnaryOp .USub (.Constant (.int 1) k p1) p2)) p3) (.ref a) (.ref s4.heap.objs.size)) (EP X pins σ Q) X.xe { s4 with heap := s4.heap.push { cls := .type "slice", data := .fields #[vl, vu, vs] } }
  rcases q1 with ⟨hx, q⟩ | ⟨hx, q⟩
  · obtain ⟨its, r, ht, hz⟩ := I5.list hx
    have hlen := r.length
    refine tail_any (ops := [.ref a, .ref s4.heap.objs.size]) ht.isList.typeIs (PySem.slot_list_getitem.lookup) ?_ (by with_unfolding_all rfl)
    refine wpAny_getItem_list_slice ht.isList (Heap.IsSliceOf.new _ vl vu vs) pl pu ps (by decide) ?_ (by rw [List.size_toArray]; omega)
    rw [PySem.W.krv_pick]
    exact ⟨.ref _, _, I5.laid (t' := s4.toks) (o := .lst xs.reverse) (fun b ob q => Heap.get?_push_of_some _ q) (Nat.le_refl _) ⟨by rw [List.length_reverse]; exact hz, _, 0, r.reverse, Heap.get?_push_size _ rfl⟩, rfl, q _ (I5.hok.fresh (Nat.le_refl _))⟩
  · obtain ⟨its, r, ht, hz⟩ := I5.tuple hx
    have hlen := r.length
    cases pl; cases pu
    refine tail_any (ops := [.ref a, .ref s4.heap.objs.size]) ht.typeIs (PyProof.Rows.slot_tuple_getitem.lookup) ?_ (by with_unfolding_all rfl)
    refine getItem_tup_rev ht (Heap.IsSliceOf.new _ _ _ vs) ps ?_ (by rw [List.size_toArray]; omega)
    exact ⟨.ref _, _, I5.laid (t' := s4.toks) (o := .frz { cls := .type "tuple", data := .seq its.reverse.toArray } (.tup xs.reverse)) (fun b ob q => Heap.get?_push_of_some _ q) (Nat.le_refl _) (frz_tup (by rw [List.length_reverse]; exact hz) r.reverse (Heap.get?_push_size _ rfl)), rfl, q _ _ rfl (I5.hok.fresh (Nat.le_refl _))⟩
/-- a method of such a tuple -/
def tBT (r : V → List V → Hp → VK → Prop) (to : TE) (t : TA) : TE := fun σ H Q => to σ H fun x H1 => (∃ a xs, x = .ref a ∧ TupN H1 a xs) ∧ t σ H1 fun xs H2 => r x xs H2 Q
theorem pe_bT {o e : Expr} {es : List Expr} {to : TE} {t : TA} {name : Str} {apos cpos : Pos} {id : String} {r : V → List V → Hp → VK → Prop} (slot : Slot "tuple" name id) (hty : typeOf (.builtin id) = pure (.type "method_descriptor")) (hm : MtR X id r) (ho : PE X o to) (ha : PA X (e :: es) t)
    (hbase : attributeBase o name X.env (eval o X.env) = eval o X.env := by rfl) (hfew : ((backTo cpos (starEach (e :: es) X.env)).all (fun x => !x.1) && (backToKw cpos (keywordEach [] X.env)).all (fun x => x.1.isSome) && decide ((e :: es).length + ([] : List Keyword).length + (if ([] : List Keyword).isEmpty then 0 else 1) < 30)) = true := by rfl)
    (hline : (apos.endLine == cpos.line) = true := by rfl) (hs : starEach (e :: es) X.env = (false, eval e X.env) :: starEach es X.env := by rfl) (hplain : (backTo cpos (starEach es X.env)).any (·.1) = false := by rfl) : PE X (.Call (.Attribute o name apos) (e :: es) [] cpos) (tBT r to t) := by
  refine ⟨fun pins s σ H Q I h => ?_⟩
  refine wpAny_Call_method_late hbase hfew hline rfl (thn (ho.run pins s σ H _ I h) fun v s1 ⟨x, H1, I1, r1, ⟨a, xs, ex, ot, hd, et⟩, q1⟩ => ?_)
  subst ex
  obtain rfl : v = Value.ref a := r1
  obtain ⟨hg, _, its, _, o', hg', hc, _⟩ := (show ObjOk X.prog X.w H1 s1.heap a (.frz ot (.tup xs)) from I1.hok a _ et)
  have eo : ot = o' := Option.some.inj (hg.symm.trans hg')
  refine ⟨"tuple", id, PySem.F.plainAttrs_tuple, slot, hty, ⟨o', hg', hc⟩, fun b eb => by cases eb; exact ⟨ot, hg, hd⟩, ?_⟩
  have hA := ha.run cpos pins s1 σ H1 _ I1 q1
  rw [hs] at hA ⊢
  refine Calls.callWith_builtin (by show (false || (backTo cpos (starEach es X.env)).any (·.1)) = false; rw [hplain] <;> rfl) (Calls.evalArgs_plain ?_)
  exact thn hA fun us s2 ⟨vs, H2, I2, r2, q2⟩ => hm pins s2 σ H2 (.ref a) vs (.ref a) us Q I2 rfl r2 q2
end
end Bal

namespace Bal
/-! ### rows and their codes, in plain words -/
/-- how many taller ones x has ahead in l -/
def ahead (l : List Int) (x : Int) : Nat := ((l.take (l.idxOf x)).filter (fun y => decide (x < y))).length
def behind (l : List Int) (x : Int) : Nat := ((l.drop (l.idxOf x)).filter (fun y => decide (x < y))).length
/-- the same, by going along -/
def frn : List Int → Int → Nat
  | [], _ => 0
  | y :: r, x => if y = x then 0 else (if x < y then 1 else 0) + frn r x
theorem frn_ahead : ∀ (l : List Int) (x : Int), frn l x = ahead l x
  | [], x => rfl
  | y :: r, x => by
    unfold ahead
    by_cases h : y = x
    · subst h
      simp [frn]
    · have ih := frn_ahead r x
      unfold ahead at ih
      have e : (y :: r).idxOf x = r.idxOf x + 1 := by
        rw [List.idxOf_cons, beq_eq_false_iff_ne.mpr h]
        rfl
      rw [e, List.take_succ_cons, List.filter_cons]
      by_cases h2 : x < y
      · simp [frn, h, h2, ih]
        omega
      · simp [frn, h, h2, ih]
theorem split_at : ∀ {l : List Int} {x : Int}, x ∈ l → ∃ pre post, l = pre ++ x :: post ∧ x ∉ pre ∧ l.idxOf x = pre.length
  | [], x, h => by simp at h
  | y :: r, x, h => by
    by_cases e : y = x
    · subst e
      exact ⟨[], r, rfl, by simp, by simp⟩
    · have hx : x ∈ r := by
        rcases List.mem_cons.mp h with z | z
        · exact absurd z.symm e
        · exact z
      obtain ⟨pre, post, h1, h2, h3⟩ := split_at hx
      refine ⟨y :: pre, post, by rw [h1]; rfl, ?_, ?_⟩
      · intro z
        rcases List.mem_cons.mp z with z | z
        · exact e z.symm
        · exact h2 z
      · rw [List.idxOf_cons, h3, beq_eq_false_iff_ne.mpr e]
        rfl
theorem frn_app : ∀ (a b : List Int) (x : Int), x ∉ a → frn (a ++ x :: b) x = (a.filter (fun y => decide (x < y))).length
  | [], b, x, _ => by simp [frn]
  | y :: a, b, x, h => by
    have hy : y ≠ x := fun e => h (by rw [e]; exact List.mem_cons_self ..)
    have ih := frn_app a b x (fun z => h (List.mem_cons_of_mem _ z))
    show (if y = x then 0 else (if x < y then 1 else 0) + frn (a ++ x :: b) x) = _
    rw [if_neg hy, ih, List.filter_cons]
    by_cases h2 : x < y
    · simp [h2]
      omega
    · simp [h2]
theorem frn_rev {l : List Int} {x : Int} (hn : l.Nodup) (hx : x ∈ l) : frn l.reverse x = behind l x := by
  obtain ⟨pre, post, h1, h2, h3⟩ := split_at hx
  have hp : x ∉ post := by
    rw [h1] at hn
    have := (List.nodup_append.mp hn).2.1
    exact (List.nodup_cons.mp this).1
  unfold behind
  rw [h3, h1, List.drop_left, List.reverse_append, List.reverse_cons, List.append_assoc]
  show frn (post.reverse ++ x :: pre.reverse) x = _
  rw [frn_app _ _ _ (by rw [List.mem_reverse]; exact hp), List.filter_reverse, List.length_reverse, List.filter_cons]
  simp
/-- x put in at place i -/
def ins (acc : List Int) (i : Nat) (x : Int) : List Int := acc.take i ++ [x] ++ acc.drop i
/-- of folk from the tallest on: who stands ahead of place i is who is taller -/
theorem mem_take {F : List Int} (hF : F.Pairwise (· > ·)) {i : Nat} (hi : i < F.length) {y : Int} (hy : y ∈ F) : y ∈ F.take i ↔ F[i] < y := by
  constructor
  · intro h
    obtain ⟨j, hj, e⟩ := List.mem_iff_getElem.mp h
    rw [List.length_take] at hj
    rw [List.getElem_take] at e
    rw [← e]
    exact List.pairwise_iff_getElem.mp hF j i (by omega) hi (by omega)
  · intro h
    obtain ⟨j, hj, e⟩ := List.mem_iff_getElem.mp hy
    have hji : j < i := by
      by_cases z : j < i
      · exact z
      · by_cases z2 : j = i
        · subst z2
          rw [e] at h
          exact absurd h (by omega)
        · have := List.pairwise_iff_getElem.mp hF i j hi hj (by omega)
          rw [e] at this
          exact absurd this (by omega)
    rw [List.mem_iff_getElem]
    exact ⟨j, by rw [List.length_take]; omega, by rw [List.getElem_take]; exact e⟩
/-- those of the row who are among the first i -/
def part (l F : List Int) (i : Nat) : List Int := l.filter (fun y => decide (y ∈ F.take i))
theorem part_zero (l F : List Int) : part l F 0 = [] := by
  unfold part
  simp
theorem part_all {l F : List Int} (h : F.Perm l) : part l F F.length = l := by
  unfold part
  rw [List.take_length]
  exact List.filter_eq_self.mpr (fun a ha => decide_eq_true (h.mem_iff.mpr ha))
theorem part_step {l F : List Int} (hF : F.Pairwise (· > ·)) (hp : F.Perm l) {i : Nat} (hi : i < F.length) : part l F (i + 1) = ins (part l F i) (ahead l F[i]) F[i] := by
  have hx : F[i] ∈ l := hp.mem_iff.mp (List.getElem_mem hi)
  have hn : l.Nodup := hp.nodup_iff.mp (hF.imp (fun h e => by omega))
  obtain ⟨pre, post, h1, h2, h3⟩ := split_at hx
  have hq : F[i] ∉ post := by
    rw [h1] at hn
    exact (List.nodup_cons.mp (List.nodup_append.mp hn).2.1).1
  have taller : ∀ y ∈ l, (y ∈ F.take i ↔ F[i] < y) := fun y hy => mem_take hF hi (hp.mem_iff.mpr hy)
  have nxt : ∀ y, y ∈ F.take (i + 1) ↔ y ∈ F.take i ∨ y = F[i] := fun y => by
    rw [List.take_succ_eq_append_getElem hi, List.mem_append, List.mem_singleton]
  have sub1 : ∀ y ∈ pre, y ∈ l := fun y hy => by rw [h1]; exact List.mem_append_left _ hy
  have sub2 : ∀ y ∈ post, y ∈ l := fun y hy => by rw [h1]; exact List.mem_append_right _ (List.mem_cons_of_mem _ hy)
  have notx : F[i] ∉ F.take i := fun z => by
    have := (taller _ hx).mp z
    omega
  have e1 : ∀ m : List Int, (∀ y ∈ m, y ∈ l) → F[i] ∉ m → m.filter (fun y => decide (y ∈ F.take (i + 1))) = m.filter (fun y => decide (y ∈ F.take i)) := fun m hm hxm =>
    List.filter_congr (fun y hy => by
      have ny : y ≠ F[i] := fun z => hxm (by rw [← z]; exact hy)
      rw [decide_eq_decide, nxt]
      exact ⟨fun z => z.resolve_right ny, .inl⟩)
  have e2 : pre.filter (fun y => decide (F[i] < y)) = pre.filter (fun y => decide (y ∈ F.take i)) :=
    List.filter_congr (fun y hy => by rw [decide_eq_decide]; exact (taller y (sub1 y hy)).symm)
  have ea : ahead l F[i] = (pre.filter (fun y => decide (y ∈ F.take i))).length := by
    unfold ahead
    rw [h3, ← e2]
    conv => lhs; rw [h1]
    rw [List.take_left]
  have el : part l F i = pre.filter (fun y => decide (y ∈ F.take i)) ++ post.filter (fun y => decide (y ∈ F.take i)) := by
    unfold part
    conv => lhs; rw [h1]
    rw [List.filter_append, List.filter_cons, if_neg (by simpa using notx)]
  have er : part l F (i + 1) = pre.filter (fun y => decide (y ∈ F.take i)) ++ F[i] :: post.filter (fun y => decide (y ∈ F.take i)) := by
    unfold part
    conv => lhs; rw [h1]
    rw [List.filter_append, List.filter_cons, if_pos (by rw [decide_eq_true_eq, nxt]; exact .inr rfl), e1 pre sub1 h2, e1 post sub2 hq]
  unfold ins
  rw [ea, el, er, List.take_left, List.drop_left, List.append_assoc]
  rfl
end Bal

namespace Bal
open PySem PySem.Spec PyProof.Rows L2
def topS (i : Nat) : Stmt := PySem.Challenge.pw_balconyrow_k02_codes_of_rows.main.body.getD i (.Pass ⟨0, 0, 0, 0⟩)
abbrev sPot : Stmt := topS 14
abbrev sTake : Stmt := topS 15
abbrev sPick : Stmt := topS 16
theorem scPot : FnScope ["_law_script", "_law_k", "_law_cell"] ["_law_script", "_law_k"] (defScope sPot) := ⟨rfl, rfl, rfl, by decide +kernel, rfl, by decide +kernel, by decide +kernel⟩
theorem scTake : FnScope ["_law_pot_here", "_law_bound", "_law_found", "_law_once"] ["_law_pot_here", "_law_bound"] (defScope sTake) := ⟨rfl, rfl, rfl, by decide +kernel, rfl, by decide +kernel, by decide +kernel⟩
theorem scPick : FnScope ["_law_pot_here", "_law_some"] ["_law_pot_here", "_law_some"] (defScope sPick) := ⟨rfl, rfl, rfl, by decide +kernel, rfl, by decide +kernel, by decide +kernel⟩
abbrev sSame : Stmt := topS 17
abbrev sTall : Stmt := topS 18
abbrev sStrewn : Stmt := topS 19
abbrev sLine : Stmt := topS 20
theorem scSame : FnScope ["_law_found", "_law_due", "_law_lone", "_law_mate"] ["_law_found", "_law_due"] (defScope sSame) := ⟨rfl, rfl, rfl, by decide +kernel, rfl, by decide +kernel, by decide +kernel⟩
theorem scTall : FnScope ["_law_pot_here", "_law_count", "_law_gap", "_law_level", "_law_found", "_law_k"] ["_law_pot_here", "_law_count"] (defScope sTall) := ⟨rfl, rfl, rfl, by decide +kernel, rfl, by decide +kernel, by decide +kernel⟩
theorem scStrewn : FnScope ["_law_pot_here", "_law_some", "_law_rest", "_law_found"] ["_law_pot_here", "_law_some"] (defScope sStrewn) := ⟨rfl, rfl, rfl, by decide +kernel, rfl, by decide +kernel, by decide +kernel⟩
theorem scLine : FnScope ["_law_pot_here", "_law_count"] ["_law_pot_here", "_law_count"] (defScope sLine) := ⟨rfl, rfl, rfl, by decide +kernel, rfl, by decide +kernel, by decide +kernel⟩
section
variable {P : Program} {w : World} {K : PySem.W.Frag} {mg : Str → Option Value} {base : Heap}
/-! ### _law_pot -/
def spPot (K : PySem.W.Frag) : Sp := fun vs H Q _ => ∃ (a : Addr) (ns : List Int) (k : Nat), vs = [.ref a, .int k] ∧ SqL K H a (ns.map V.int) ∧ k ≤ 1000 ∧
  ∀ p o, H p = none → PotO 0 o → Q (.ref p) (upd H p o)
theorem pot_ok (x x1 : Int) (h : 0 ≤ x) : PotO 0 (.lst [.int x, .int (x1 % 2147483399), .int 0]) :=
  ⟨_, _, _, rfl, h, (fmod_lt (by omega)).1, by have := (fmod_lt (a := x1) (b := 2147483399) (by omega)).2; omega, by omega, by omega⟩
theorem ok_pot {f : Addr} {fd : FuncData} {k : Nat} (F : Fun K "_law_pot" "_law_pot" sPot f fd) (ml : mg "len" = none) (ma : mg "abs" = none) (mi : mg "int" = none) : FnOk P w K mg base CX0 (k + 1) f fd ["_law_script", "_law_k"] (spPot K) := by
  refine F.ok scPot (fun vs H Q E h => ?_) (fun cdv A outer s H vs Q E hr h => ?_)
  · obtain ⟨a, ns, k, rfl, _⟩ := h
    rfl
  · obtain ⟨a, ns, k, rfl, hS, hk, q⟩ := h
    refine ⟨_, pss_cons (ps_set (i := 2) scPot.nd rfl (.inl rfl) pe_int)
      (pss_cons (ps_if (pt_cmpR op_lt (pv 1) (pe_callB call_len_seq (by rfl) ml PySem.boot_len (pa_cons (pv 0) pa_nil)) (nomark _))
        (pss_one (ps_set (i := 2) scPot.nd rfl (.inl rfl) (pe_ix ix_list (pv 0) (pv 1) (fun _ _ => rfl)))) pss_nil)
      (pss_one (ps_ret (pe_lst (pa_cons (pe_op op_mul (pe_callB call_abs (by rfl) ma (by decide +kernel) (pa_cons (pv 2) pa_nil))
          (pe_callTy call_int1 (by rfl) mi (by decide +kernel) (pa_cons (pe_cmpR op_ge (pe_callB call_abs (by rfl) ma (by decide +kernel) (pa_cons (pv 2) pa_nil)) (pe_op op_pow pe_int pe_int) (nomark _)) pa_nil)))
        (pa_cons (pe_op op_mod (pe_op op_mul (pe_op op_add (pe_op op_add (pe_op op_mod (pv 2) pe_int) (pe_op op_mul pe_int (pv 1))) pe_int) pe_int) pe_int)
        (pa_cons pe_int pa_nil))))))), ?_⟩
    refine ⟨.int k, rfl, .ref a, rfl, a, _, rfl, .inl hS, _, _, rfl, rfl, _, rfl, ite2 (fun e => ?a) (fun e => ?b)⟩
    case' a =>
      have e := of_decide_eq_true e
      rw [List.length_map] at e
      have hk' : k < ns.length := by omega
      refine ⟨.ref a, rfl, .int k, rfl, a, _, k, .int ns[k], rfl, rfl, hS, atI_nat (by rw [List.getElem?_map, List.getElem?_eq_getElem hk']; rfl), ?_⟩
    all_goals
      refine ⟨_, rfl, _, rfl, _, rfl, _, rfl, 10, 18, rfl, rfl, ⟨by decide, by decide, by decide⟩, _, _, rfl, rfl, .inr ⟨_, rfl, _, _, rfl, rfl, .inr (one_bd _), ?_⟩⟩
      refine ⟨_, rfl, _, _, rfl, rfl, (by show (0 : Int) < 2147483587; decide), .int k, rfl, _, _, rfl, rfl, .inl ⟨by decide, by decide⟩, _, _, rfl, rfl, _, _, rfl, rfl, _, _, rfl, rfl, .inr ⟨by decide, by decide⟩, _, _, rfl, rfl, (by show (0 : Int) < 2147483399; decide), ?_⟩
      exact ⟨by show 3 ≤ sizeLine; decide, fun p np => q p _ np (pot_ok _ _ (Int.mul_nonneg (abs_nn _) (one_nn _)))⟩
/-! ### _law_take -/
def spTake : Sp := fun vs H Q _ => ∃ (p : Addr) (b : Int) (c : Nat), vs = [.ref p, .int b] ∧ Pot H p c ∧ c ≤ 1000000 ∧ 0 < b ∧ b ≤ 10000000 ∧
  ∀ (r : Nat) (o : HO), (r : Int) < b → PotO (c + 1) o → Q (.int r) (upd H p o)
theorem ok_take {f : Addr} {fd : FuncData} {k : Nat} (F : Fun K "_law_take" "_law_take" sTake f fd) : FnOk P w K mg base CX0 (k + 1) f fd ["_law_pot_here", "_law_bound"] spTake := by
  refine F.ok scTake (fun vs H Q E h => ?_) (fun cdv A outer s H vs Q E hr h => ?_)
  · obtain ⟨a, b, k, rfl, _⟩ := h
    rfl
  · obtain ⟨p, b, c, rfl, ⟨o, hp, x0, x1, x2, rfl, h0, h1, h1', h2, h2'⟩, hc, hb, hb', q⟩ := h
    have nn : ∀ z : Int, ∃ r : Nat, z % b = r ∧ (r : Int) < b := fun z => ⟨(z % b).toNat, by have := (fmod_lt (a := z) hb).1; omega, by have := fmod_lt (a := z) hb; omega⟩
    refine ⟨_, pss_cons (ps_if (pt_cmpR op_gt (pe_ix ix_list (pv 0) pe_int (fun _ _ => rfl)) pe_int (nomark _))
        (pss_cons (ps_set (i := 2) scTake.nd rfl (.inl rfl) (pe_op op_mod (pe_ix ix_list (pv 0) pe_int (fun _ _ => rfl)) (pv 1)))
        (pss_cons (ps_asg (pe_op op_fdivN (pe_ix ix_list (pv 0) pe_int (fun _ _ => rfl)) (pv 1)) (pg_sub (pv 0) pe_int set_list))
        (pss_one (ps_ret (pv 2))))) pss_nil)
      (pss_cons (ps_if (pt_cmpR op_gt (pv 1) (pe_op op_pow pe_int pe_int) (nomark _)) (pss_one ps_never) pss_nil)
      (pss_cons (ps_asg (pe_op op_add (pe_ix ix_list (pv 0) pe_int (fun _ _ => rfl)) pe_int) (pg_sub (pv 0) pe_int set_list))
      (pss_cons (ps_set (i := 3) scTake.nd rfl (.inl rfl) (pe_op op_mod (pe_op op_pow (pe_op op_add (pe_ix ix_list (pv 0) pe_int (fun _ _ => rfl)) (pe_op op_mul pe_int (pe_ix ix_list (pv 0) pe_int (fun _ _ => rfl)))) pe_int) pe_int))
      (pss_one (ps_ret (pe_op op_mod (pe_op op_fdiv (pe_op op_mod (pe_op op_add (pe_op op_mul (pv 3) (pe_op op_add (pe_op op_mod (pv 3) pe_int) pe_int)) (pe_op op_mul (pe_ix ix_list (pv 0) pe_int (fun _ _ => rfl)) pe_int)) pe_int) pe_int) (pv 1))))))), ?_⟩
    have gp : SqL K H p [.int x0, .int x1, .int x2] := .inl (.inl hp)
    refine ⟨.ref p, rfl, p, _, 0, .int x0, rfl, rfl, gp, atI_nat (j := 0) rfl, _, _, rfl, rfl, _, rfl, ite2 (fun e => ?_) (fun e => ?_)⟩
    · -- out of the great number
      refine ⟨.ref p, rfl, p, _, 0, .int x0, rfl, rfl, gp, atI_nat (j := 0) rfl, .int b, rfl, _, _, rfl, rfl, hb, ?_⟩
      refine ⟨.ref p, rfl, p, _, 0, .int x0, rfl, rfl, gp, atI_nat (j := 0) rfl, .int b, rfl, _, _, rfl, rfl, ⟨by omega, by omega⟩, ?_⟩
      refine ⟨.ref p, rfl, p, _, 0, 0, rfl, rfl, hp, rfl, ?_⟩
      refine ⟨_, rfl, ?_⟩
      obtain ⟨r, er, lr⟩ := nn x0
      refine q_eq (congrArg V.int er) (q r _ lr ⟨_, _, _, rfl, ?_, h1, h1', h2, by omega⟩)
      rw [Int.fdiv_eq_ediv_of_nonneg _ (by omega)]
      exact Int.ediv_nonneg h0 (by omega)
    · refine ⟨.int b, rfl, 10, 7, rfl, rfl, ⟨by decide, by decide, by decide⟩, _, _, rfl, rfl, _, rfl, ite2 (fun e => ?_) (fun e => ?_)⟩
      · have e := of_decide_eq_true e
        have z : (10 : Int) ^ (7 : Int).toNat = 10000000 := by decide
        rw [z] at e
        omega
      · refine ⟨.ref p, rfl, p, _, 2, .int x2, rfl, rfl, gp, atI_nat (j := 2) rfl, _, _, rfl, rfl, ?_⟩
        refine ⟨.ref p, rfl, p, _, 2, 2, rfl, rfl, hp, rfl, ?_⟩
        have hp2 : (upd H p (.lst ([V.int x0, .int x1, .int x2].set 2 (.int (x2 + 1))))) p = some (.lst [.int x0, .int x1, .int (x2 + 1)]) := upd_same
        have gp2 : SqL K (upd H p (.lst ([V.int x0, .int x1, .int x2].set 2 (.int (x2 + 1))))) p [.int x0, .int x1, .int (x2 + 1)] := .inl (.inl hp2)
        refine ⟨.ref p, rfl, p, _, 1, .int x1, rfl, rfl, gp2, atI_nat (j := 1) rfl, .ref p, rfl, p, _, 2, .int (x2 + 1), rfl, rfl, gp2, atI_nat (j := 2) rfl, _, _, rfl, rfl, .inl ⟨by decide, by decide⟩, _, _, rfl, rfl, _, _, rfl, rfl, ⟨by decide, by decide, ?_⟩, _, _, rfl, rfl, (by show (0 : Int) < 2147483563; decide), ?_⟩
        · omega
        · have hz : ∀ z : Int, -(2 ^ 64) < z % 2147483563 ∧ z % 2147483563 < 2 ^ 64 := fun z => ⟨Int.lt_of_lt_of_le (by decide) (fmod_lt (by decide)).1, Int.lt_trans (fmod_lt (by decide)).2 (by decide)⟩
          refine ⟨_, rfl, _, rfl, _, _, rfl, rfl, (by show (0 : Int) < 40013; decide), _, _, rfl, rfl, _, _, rfl, rfl, .inl (hz _), .ref p, rfl, p, _, 2, .int (x2 + 1), rfl, rfl, gp2, atI_nat (j := 2) rfl, _, _, rfl, rfl, .inr ⟨by decide, by decide⟩, _, _, rfl, rfl, _, _, rfl, rfl, (by show (0 : Int) < 2147483647; decide), _, _, rfl, rfl, ⟨by decide, by decide⟩, .int b, rfl, _, _, rfl, rfl, hb, ?_⟩
          obtain ⟨r, er, lr⟩ := nn (((x1 + 52774 * (x2 + 1)) ^ (3 : Int).toNat % 2147483563 * ((x1 + 52774 * (x2 + 1)) ^ (3 : Int).toNat % 2147483563 % 40013 + 11) + (x2 + 1) * 6089) % 2147483647 / 32)
          exact q_eq (congrArg V.int er) (q r _ lr ⟨_, _, _, rfl, h0, h1, h1', by omega, by omega⟩)
/-! ### _law_pick -/
def spPick (K : PySem.W.Frag) : Sp := fun vs H Q _ => ∃ (p a : Addr) (xs : List V) (c : Nat), vs = [.ref p, .ref a] ∧ Pot H p c ∧ c ≤ 1000000 ∧ SqL K H a xs ∧ a ≠ p ∧ 0 < xs.length ∧ xs.length ≤ 10000000 ∧
  ∀ (v : V) (o : HO), v ∈ xs → PotO (c + 1) o → Q v (upd H p o)
theorem ok_pick {f fT : Addr} {fd fdT : FuncData} {k : Nat} (F : Fun K "_law_pick" "_law_pick" sPick f fd) (FT : Fun K "_law_take" "_law_take" sTake fT fdT) (bT : Binds K fdT ["_law_pot_here", "_law_bound"] []) (gT : mg "_law_take" = some (.ref fT)) (ml : mg "len" = none) :
    FnOk P w K mg base CX0 (k + 2) f fd ["_law_pot_here", "_law_some"] (spPick K) := by
  have GT : FnOk P w K mg base CX0 (k + 1) fT fdT ["_law_pot_here", "_law_bound"] spTake := ok_take FT
  refine F.ok scPick (fun vs H Q E h => ?_) (fun cdv A outer s H vs Q E hr h => ?_)
  · obtain ⟨p, a, xs, c, rfl, _⟩ := h
    rfl
  · obtain ⟨p, a, xs, c, rfl, hP, hc, hS, na, l0, l1, q⟩ := h
    refine ⟨_, pss_one (ps_ret (pe_ix ix_list (pv 1) (pe_call GT hr (by rfl) gT FT.kp bT .nil pass0 (pa_cons (pv 0) (pa_cons (pe_callB call_len_seq (by rfl) ml PySem.boot_len (pa_cons (pv 1) pa_nil)) pa_nil))) (fun _ _ => rfl))), ?_⟩
    refine ⟨.ref a, rfl, .ref p, rfl, .ref a, rfl, a, xs, rfl, .inl hS, p, xs.length, c, rfl, hP, hc, by omega, by omega, fun r o lr ho => ?_⟩
    have lr' : r < xs.length := by omega
    exact ⟨a, xs, r, xs[r], rfl, rfl, But.of_upd.sqL na hS, atI_nat (List.getElem?_eq_getElem lr'), q _ o (List.getElem_mem lr') ho⟩
/-! ### _law_same -/
def spSame (K : PySem.W.Frag) (n : Nat) : Sp := fun vs H Q _ => ∃ (x y : V) (d : PyData), vs = [x, y] ∧ Dp K H x d ∧ Dp K H y d ∧ d.depth ≤ n ∧ smallD d = true ∧ ∀ H', Same H H' → Q (.bl true) H'
theorem same_step {f : Addr} {fd : FuncData} (F : Fun K "_law_same" "_law_same" sSame f fd) (bS : Binds K fd ["_law_found", "_law_due"] []) (gS : mg "_law_same" = some (.ref f))
    (ml : mg "len" = none) (mli : mg "list" = none) (mt : mg "tuple" = none) (mi : mg "int" = none) (mb : mg "bool" = none) (ms : mg "str" = none) (mis : mg "isinstance" = none) (mz : mg "zip" = none) (ma : mg "all" = none)
    {j n : Nat} {sp0 : Sp} (GS : FnOk P w K mg base CX0 j f fd ["_law_found", "_law_due"] sp0) (h0 : ∀ x y d H Q E, Dp K H x d → Dp K H y d → d.depth < n → smallD d = true → (∀ H', Same H H' → Q (.bl true) H') → sp0 [x, y] H Q E) :
    FnOk P w K mg base CX0 (j + 1) f fd ["_law_found", "_law_due"] (spSame K n) := by
  refine F.ok scSame (fun vs H Q E h => ?_) (fun cdv A outer s H vs Q E hr h => ?_)
  · obtain ⟨x, y, d, rfl, _⟩ := h
    rfl
  · obtain ⟨x, y, d, rfl, dx, dy, hd, hsm, q⟩ := h
    refine ⟨_, pss_cons (ps_if (pt_val (pe_callB call_isiT (by rfl) mis (by decide +kernel) (pa_cons (pv 1) (pa_cons (pe_tup (pa_cons (pe_bltn (v := .ty "list") (by rfl) mli (by decide +kernel) rfl) (pa_cons (pe_bltn (v := .ty "tuple") (by rfl) mt (by decide +kernel) rfl) pa_nil))) pa_nil))))
        (pss_cons (ps_if (PW.pt (pw_or (pt_cmpR op_ne (pe_callB call_isi (by rfl) mis (by decide +kernel) (pa_cons (pv 0) (pa_cons (pe_bltn (v := .ty "list") (by rfl) mli (by decide +kernel) rfl) pa_nil))) (pe_callB call_isi (by rfl) mis (by decide +kernel) (pa_cons (pv 1) (pa_cons (pe_bltn (v := .ty "list") (by rfl) mli (by decide +kernel) rfl) pa_nil))) (nomark _))
            (pw_or1 (pt_cmpR op_ne (pe_callB call_isi (by rfl) mis (by decide +kernel) (pa_cons (pv 0) (pa_cons (pe_bltn (v := .ty "tuple") (by rfl) mt (by decide +kernel) rfl) pa_nil))) (pe_callB call_isi (by rfl) mis (by decide +kernel) (pa_cons (pv 1) (pa_cons (pe_bltn (v := .ty "tuple") (by rfl) mt (by decide +kernel) rfl) pa_nil))) (nomark _)))))
          (pss_one (ps_ret pe_bl)) pss_nil)
        (pss_one (ps_ret (pe_and (pe_cmpR op_eq (pe_callB call_len_seq (by rfl) ml PySem.boot_len (pa_cons (pv 0) pa_nil)) (pe_callB call_len_seq (by rfl) ml PySem.boot_len (pa_cons (pv 1) pa_nil)) (nomark _))
          (pe_one (pe_callB (cr_all rfl) (by rfl) ma (by decide +kernel) (pa_cons (pe_lc (own := [("_law_lone", 2), ("_law_mate", 3)]) (g := gTup K 2 (gCons (gName 2) (gCons (gName 3) gNil))) (tt := tYes) (by rfl) scSame.nd (RZ.pi_zipA (by rfl) mz (pa_cons (pv 0) (pa_cons (pv 1) pa_nil)))
            (blkOk_by (own := [("_law_lone", 2), ("_law_mate", 3)]) (N := ["_law_found", "_law_due", "_law_lone", "_law_mate"]) (sc := defScope sSame) (by decide +kernel))
            (fun _ _ _ _ _ => by exact pg_tup rfl (pgs_cons (pg_name (i := 2) scSame.nd rfl (Or.inl rfl) (.inr rfl)) (pgs_cons (pg_name (i := 3) scSame.nd rfl (Or.inl rfl) (.inr rfl)) pgs_nil)))
            (fun _ _ _ _ _ => pts_nil)
            (fun _ _ _ _ _ => pe_call GS hr (by rfl) gS F.kp bS .nil pass0 (pa_cons (pv 2) (pa_cons (pv 3) pa_nil)))) pa_nil))))))) pss_nil)
      (pss_cons (ps_if (PW.pt (pw_or (pt_cmpR op_isN (pv 1) pe_non (nomark _)) (pw_or1 (pt_val (pe_callB call_isi (by rfl) mis (by decide +kernel) (pa_cons (pv 1) (pa_cons (pe_bltn (v := .ty "str") (by rfl) ms (by decide +kernel) rfl) pa_nil)))))))
        (pss_one (ps_ret (pe_and (pe_cmpR op_eq (pv 0) (pv 1) (nomark _)) (pe_one (pe_cmpR op_eq (pe_callB call_isi (by rfl) mis (by decide +kernel) (pa_cons (pv 0) (pa_cons (pe_bltn (v := .ty "str") (by rfl) ms (by decide +kernel) rfl) pa_nil))) (pe_callB call_isi (by rfl) mis (by decide +kernel) (pa_cons (pv 1) (pa_cons (pe_bltn (v := .ty "str") (by rfl) ms (by decide +kernel) rfl) pa_nil))) (nomark _)))))) pss_nil)
      (pss_one (ps_ret (pe_and (pe_callB call_isi (by rfl) mis (by decide +kernel) (pa_cons (pv 0) (pa_cons (pe_bltn (v := .ty "int") (by rfl) mi (by decide +kernel) rfl) pa_nil)))
        (pe_and (pe_cmpR op_eq (pe_callB call_isi (by rfl) mis (by decide +kernel) (pa_cons (pv 0) (pa_cons (pe_bltn (v := .ty "bool") (by rfl) mb (by decide +kernel) rfl) pa_nil))) (pe_callB call_isi (by rfl) mis (by decide +kernel) (pa_cons (pv 1) (pa_cons (pe_bltn (v := .ty "bool") (by rfl) mb (by decide +kernel) rfl) pa_nil))) (nomark _))
        (pe_one (pe_cmpR op_eq (pv 0) (pv 1) (nomark _)))))))), ?_⟩
    -- isinstance(due, (list, tuple))
    refine ⟨y, rfl, by show 2 ≤ sizeLine; decide, fun tp ntp => ?_⟩
    have s1 : Same H (upd H tp (.tup [.ty "list", .ty "tuple"])) := sm_upd ntp
    have dx1 := dp_same s1 dx
    have dy1 := dp_same s1 dy
    have htp : upd H tp (.tup [.ty "list", .ty "tuple"]) tp = some (.tup [.ty "list", .ty "tuple"]) := upd_same
    generalize upd H tp (.tup [.ty "list", .ty "tuple"]) = H1 at s1 dx1 dy1 htp
    have q1 : ∀ H', Same H1 H' → Q (.bl true) H' := fun H' s' => q H' (s1.trans s')
    cases d with
    | none =>
      have tx : TyX K H1 _ (.type "NoneType") := dp_ty dx1
      have ty : TyX K H1 _ (.type "NoneType") := dp_ty dy1
      cases dx1
      cases dy1
      refine ⟨_, tp, _, _, _, false, rfl, htp, cls2, ty, kA_no (by decide +kernel) (by decide +kernel), _, rfl, iteF ?_⟩
      refine ⟨_, rfl, rfl, _, rfl, iteT (iteT ?_)⟩
      refine ⟨_, rfl, _, rfl, rfl, _, rfl, iteT ?_⟩
      exact ⟨_, rfl, _, .ty "str", _, _, false, rfl, .ty _, tx, kit_ty (by decide +kernel), _, rfl, _, .ty "str", _, _, false, rfl, .ty _, ty, kit_ty (by decide +kernel), rfl, q1 _ (Same.refl _)⟩
    | bool b =>
      have tx : TyX K H1 _ (.type "bool") := dp_ty dx1
      have ty : TyX K H1 _ (.type "bool") := dp_ty dy1
      cases dx1
      cases dy1
      refine ⟨_, tp, _, _, _, false, rfl, htp, cls2, ty, kA_no (by decide +kernel) (by decide +kernel), _, rfl, iteF ?_⟩
      refine ⟨_, rfl, rfl, _, rfl, iteF ?_⟩
      refine ⟨_, rfl, _, .ty "str", _, _, false, rfl, .ty _, ty, kit_ty (by decide +kernel), _, rfl, iteF ?_⟩
      refine ⟨_, rfl, _, .ty "int", _, _, true, rfl, .ty _, tx, kit_ty (by decide +kernel), _, rfl, iteT ?_⟩
      refine ⟨_, rfl, _, .ty "bool", _, _, true, rfl, .ty _, tx, kit_ty (by decide +kernel), _, rfl, _, .ty "bool", _, _, true, rfl, .ty _, ty, kit_ty (by decide +kernel), rfl, _, rfl, iteT ?_⟩
      exact ⟨_, rfl, _, rfl, rfl, q_eq (congrArg V.bl (decide_eq_true rfl)) (q1 _ (Same.refl _))⟩
    | int b =>
      have tx : TyX K H1 _ (.type "int") := dp_ty dx1
      have ty : TyX K H1 _ (.type "int") := dp_ty dy1
      cases dx1
      cases dy1
      refine ⟨_, tp, _, _, _, false, rfl, htp, cls2, ty, kA_no (by decide +kernel) (by decide +kernel), _, rfl, iteF ?_⟩
      refine ⟨_, rfl, rfl, _, rfl, iteF ?_⟩
      refine ⟨_, rfl, _, .ty "str", _, _, false, rfl, .ty _, ty, kit_ty (by decide +kernel), _, rfl, iteF ?_⟩
      refine ⟨_, rfl, _, .ty "int", _, _, true, rfl, .ty _, tx, kit_ty (by decide +kernel), _, rfl, iteT ?_⟩
      refine ⟨_, rfl, _, .ty "bool", _, _, false, rfl, .ty _, tx, kit_ty (by decide +kernel), _, rfl, _, .ty "bool", _, _, false, rfl, .ty _, ty, kit_ty (by decide +kernel), rfl, _, rfl, iteT ?_⟩
      exact ⟨_, rfl, _, rfl, rfl, q_eq (congrArg V.bl (decide_eq_true rfl)) (q1 _ (Same.refl _))⟩
    | str b =>
      have tx : TyX K H1 _ (.type "str") := dp_ty dx1
      have ty : TyX K H1 _ (.type "str") := dp_ty dy1
      cases dx1
      cases dy1
      refine ⟨_, tp, _, _, _, false, rfl, htp, cls2, ty, kA_no (by decide +kernel) (by decide +kernel), _, rfl, iteF ?_⟩
      refine ⟨_, rfl, rfl, _, rfl, iteF ?_⟩
      refine ⟨_, rfl, _, .ty "str", _, _, true, rfl, .ty _, ty, kit_ty (by decide +kernel), _, rfl, iteT ?_⟩
      refine ⟨_, rfl, _, rfl, rfl, _, rfl, iteD rfl ?_⟩
      exact ⟨_, rfl, _, .ty "str", _, _, true, rfl, .ty _, tx, kit_ty (by decide +kernel), _, rfl, _, .ty "str", _, _, true, rfl, .ty _, ty, kit_ty (by decide +kernel), rfl, q1 _ (Same.refl _)⟩
    | dict kvs => cases dx1
    | list ds =>
      have tx : TyX K H1 _ (.type "list") := dp_ty dx1
      have ty : TyX K H1 _ (.type "list") := dp_ty dy1
      obtain ⟨sm1, sm2⟩ := Bool.and_eq_true_iff.mp (show (decide (ds.length ≤ 100000) && smallA ds) = true from hsm)
      have sm1 := of_decide_eq_true sm1
      cases dx1 with
      | @lst a xs _ hx ax =>
      cases dy1 with
      | @lst b ys _ hy ay =>
      have ex := dps_len ax
      have ey := dps_len ay
      refine ⟨_, tp, _, _, _, true, rfl, htp, cls2, ty, kA_lst, _, rfl, iteT ?_⟩
      refine ⟨_, rfl, _, .ty "list", _, _, true, rfl, .ty _, tx, kit_ty (by decide +kernel), _, rfl, _, .ty "list", _, _, true, rfl, .ty _, ty, kit_ty (by decide +kernel), rfl, _, rfl, iteF ?_⟩
      refine ⟨_, rfl, _, .ty "tuple", _, _, false, rfl, .ty _, tx, kit_ty (by decide +kernel), _, rfl, _, .ty "tuple", _, _, false, rfl, .ty _, ty, kit_ty (by decide +kernel), rfl, _, rfl, iteF ?_⟩
      refine ⟨_, rfl, a, xs, rfl, .inl hx, _, rfl, b, ys, rfl, .inl hy, rfl, _, rfl, iteD (by rw [ex, ey]) ?_⟩
      refine ⟨.ref a, rfl, .ref b, rfl, a, b, xs, ys, rfl, .inl ⟨hx, hy, fun D nD => ?_⟩⟩
      refine lc_gen (n := xs.length) (fun i H3 => Same H1 H3 ∧ H3 D = some (.lst ((List.replicate i true).map V.bl))) ⟨sm_upd nD, upd_same⟩ (fun i H3 hi hp => ?_) (fun H3 hp => ?_) (fun i H3 v H4 hi hp hy4 => ?_) (fun H3 hp => ?_)
      · have hi2 : i < ys.length := by omega
        exact ⟨xs, ys, xs[i], ys[i], hp.1.seq hx, hp.1.seq hy, List.getElem?_eq_getElem hi, List.getElem?_eq_getElem hi2⟩
      · exact ⟨xs, ys, hp.1.seq hx, hp.1.seq hy, .inl (Nat.le_refl _)⟩
      · obtain ⟨T, x1, y1, rfl, nT, rfl, f1, f2⟩ := hy4
        have e1 := f1 xs (hp.1.seq hx)
        have e2 := f2 ys (hp.1.seq hy)
        obtain ⟨d1, g1, p1⟩ := dps_get ax e1
        obtain ⟨d2, g2, p2⟩ := dps_get ay e2
        rw [g1] at g2
        cases g2
        have s4 : Same H1 (upd H3 T (.tup [x1, y1])) := hp.1.trans (sm_upd nT)
        refine ⟨T, [x1, y1], rfl, .inl (.inl upd_same), rfl, x1, [y1], rfl, y1, [], rfl, rfl, rfl, ?_⟩
        refine ⟨x1, rfl, y1, rfl, h0 _ _ d1 _ _ _ (dp_same s4 p1) (dp_same s4 p2) ?_ (small_get sm2 g1) (fun H5 s5 => ?_)⟩
        · have z1 := dep_get g1
          have z2 : PyData.depthAll ds + 1 ≤ n := hd
          omega
        · have hD : H5 D = some (.lst ((List.replicate i true).map V.bl)) := s5 _ _ (sm_upd nT _ _ hp.2)
          refine ⟨_, hD, ?_, Same.put (s4.trans s5) nD, ?_⟩
          · rw [List.length_map, List.length_replicate]
            exact line_lt (by omega)
          · rw [upd_same, rep_add, List.map_append]
            rfl
      · refine ⟨D, List.replicate xs.length true, rfl, .inl (.inl hp.2), ?_⟩
        exact q_eq (congrArg V.bl (all_rep _)) (q1 _ hp.1)
    | tuple ds =>
      have tx : TyX K H1 _ (.type "tuple") := dp_ty dx1
      have ty : TyX K H1 _ (.type "tuple") := dp_ty dy1
      obtain ⟨sm1, sm2⟩ := Bool.and_eq_true_iff.mp (show (decide (ds.length ≤ 100000) && smallA ds) = true from hsm)
      have sm1 := of_decide_eq_true sm1
      cases dx1 with
      | @tup a xs _ hx ax =>
      cases dy1 with
      | @tup b ys _ hy ay =>
      have ex := dps_len ax
      have ey := dps_len ay
      refine ⟨_, tp, _, _, _, true, rfl, htp, cls2, ty, kA_tup, _, rfl, iteT ?_⟩
      refine ⟨_, rfl, _, .ty "list", _, _, false, rfl, .ty _, tx, kit_ty (by decide +kernel), _, rfl, _, .ty "list", _, _, false, rfl, .ty _, ty, kit_ty (by decide +kernel), rfl, _, rfl, iteF ?_⟩
      refine ⟨_, rfl, _, .ty "tuple", _, _, true, rfl, .ty _, tx, kit_ty (by decide +kernel), _, rfl, _, .ty "tuple", _, _, true, rfl, .ty _, ty, kit_ty (by decide +kernel), rfl, _, rfl, iteF ?_⟩
      refine ⟨_, rfl, a, xs, rfl, .inr hx, _, rfl, b, ys, rfl, .inr hy, rfl, _, rfl, iteD (by rw [ex, ey]) ?_⟩
      refine ⟨.ref a, rfl, .ref b, rfl, a, b, xs, ys, rfl, .inr ⟨hx, hy, fun D nD => ?_⟩⟩
      refine lc_gen (n := xs.length) (fun i H3 => Same H1 H3 ∧ H3 D = some (.lst ((List.replicate i true).map V.bl))) ⟨sm_upd nD, upd_same⟩ (fun i H3 hi hp => ?_) (fun H3 hp => ?_) (fun i H3 v H4 hi hp hy4 => ?_) (fun H3 hp => ?_)
      · have hi2 : i < ys.length := by omega
        exact ⟨xs, ys, xs[i], ys[i], Same.sqT hp.1 hx, Same.sqT hp.1 hy, List.getElem?_eq_getElem hi, List.getElem?_eq_getElem hi2⟩
      · exact ⟨xs, ys, Same.sqT hp.1 hx, Same.sqT hp.1 hy, .inl (Nat.le_refl _)⟩
      · obtain ⟨T, x1, y1, rfl, nT, rfl, f1, f2⟩ := hy4
        have e1 := f1 xs (Same.sqT hp.1 hx)
        have e2 := f2 ys (Same.sqT hp.1 hy)
        obtain ⟨d1, g1, p1⟩ := dps_get ax e1
        obtain ⟨d2, g2, p2⟩ := dps_get ay e2
        rw [g1] at g2
        cases g2
        have s4 : Same H1 (upd H3 T (.tup [x1, y1])) := hp.1.trans (sm_upd nT)
        refine ⟨T, [x1, y1], rfl, .inl (.inl upd_same), rfl, x1, [y1], rfl, y1, [], rfl, rfl, rfl, ?_⟩
        refine ⟨x1, rfl, y1, rfl, h0 _ _ d1 _ _ _ (dp_same s4 p1) (dp_same s4 p2) ?_ (small_get sm2 g1) (fun H5 s5 => ?_)⟩
        · have z1 := dep_get g1
          have z2 : PyData.depthAll ds + 1 ≤ n := hd
          omega
        · have hD : H5 D = some (.lst ((List.replicate i true).map V.bl)) := s5 _ _ (sm_upd nT _ _ hp.2)
          refine ⟨_, hD, ?_, Same.put (s4.trans s5) nD, ?_⟩
          · rw [List.length_map, List.length_replicate]
            exact line_lt (by omega)
          · rw [upd_same, rep_add, List.map_append]
            rfl
      · refine ⟨D, List.replicate xs.length true, rfl, .inl (.inl hp.2), ?_⟩
        exact q_eq (congrArg V.bl (all_rep _)) (q1 _ hp.1)
/-- _law_same is True of the same data, as deep as there is room for -/
theorem ok_same {f : Addr} {fd : FuncData} (F : Fun K "_law_same" "_law_same" sSame f fd) (bS : Binds K fd ["_law_found", "_law_due"] []) (gS : mg "_law_same" = some (.ref f))
    (ml : mg "len" = none) (mli : mg "list" = none) (mt : mg "tuple" = none) (mi : mg "int" = none) (mb : mg "bool" = none) (ms : mg "str" = none) (mis : mg "isinstance" = none) (mz : mg "zip" = none) (ma : mg "all" = none) :
    ∀ n : Nat, FnOk P w K mg base CX0 (n + 2) f fd ["_law_found", "_law_due"] (spSame K n)
  | 0 => same_step F bS gS ml mli mt mi mb ms mis mz ma (j := 1) (sp0 := fun _ _ _ _ => False) ⟨fun _ _ _ _ h => h.elim, fun _ _ _ _ _ _ _ _ _ _ _ _ _ h => h.elim⟩ (fun x y d H Q E _ _ h => absurd h (Nat.not_lt_zero _))
  | n + 1 => same_step F bS gS ml mli mt mi mb ms mis mz ma (ok_same F bS gS ml mli mt mi mb ms mis mz ma n) (fun x y d H Q E dx dy hd hs q => ⟨x, y, d, rfl, dx, dy, Nat.le_of_lt_succ hd, hs, q⟩)
/-! ### _law_tall -/
def spTall : Sp := fun vs H Q _ => ∃ (p : Addr) (n c : Nat), vs = [.ref p, .int n] ∧ Pot H p c ∧ c + n ≤ 900000 ∧ n ≤ 1000 ∧
  ∀ (q : Addr) (H' : Hp) (xs : List Int), H q = none → H' q = some (.lst (xs.map V.int)) → xs.length = n → xs.Pairwise (· > ·) → (∀ x ∈ xs, -2000000000 ≤ x ∧ x ≤ 2000000000) → Pot H' p (c + n + 2) → But p H H' → Q (.ref q) H'
theorem ok_tall {f fT fP : Addr} {fd fdT fdP : FuncData} {k : Nat} (F : Fun K "_law_tall" "_law_tall" sTall f fd) (FT : Fun K "_law_take" "_law_take" sTake fT fdT) (bT : Binds K fdT ["_law_pot_here", "_law_bound"] []) (gT : mg "_law_take" = some (.ref fT))
    (FP : Fun K "_law_pick" "_law_pick" sPick fP fdP) (bP : Binds K fdP ["_law_pot_here", "_law_some"] []) (gP : mg "_law_pick" = some (.ref fP)) (ml : mg "len" = none) (mr : mg "range" = none) :
    FnOk P w K mg base CX0 (k + 3) f fd ["_law_pot_here", "_law_count"] spTall := by
  have GT : FnOk P w K mg base CX0 (k + 1) fT fdT ["_law_pot_here", "_law_bound"] spTake := ok_take FT
  have GP : FnOk P w K mg base CX0 (k + 2) fP fdP ["_law_pot_here", "_law_some"] (spPick K) := ok_pick FP FT bT gT ml
  refine F.ok scTall (fun vs H Q E h => ?_) (fun cdv A outer s H vs Q E hr h => ?_)
  · obtain ⟨p, n, c, rfl, _⟩ := h
    rfl
  · obtain ⟨p, n, c, rfl, hP, hc, hn, q⟩ := h
    have hr1 : Room (k + 1) _ := hr.mono (by omega)
    refine ⟨_, pss_cons (ps_par (i := 2) (j := 3) (by rfl) scTall.nd rfl rfl (by decide) rfl rfl (pa_cons (pe_call GP hr (by rfl) gP FP.kp bP .nil pass0 (pa_cons (pv 0) (pa_cons (pe_lst (pa_cons pe_int (pa_cons pe_int (pa_cons pe_int (pa_cons (pe_op op_pow pe_int pe_int) pa_nil))))) pa_nil)))
        (pa_cons (pe_call GP hr (by rfl) gP FP.kp bP .nil pass0 (pa_cons (pv 0) (pa_cons (pe_lst (pa_cons (pv 1) (pa_cons pe_int (pa_cons (pe_un un_neg pe_int) (pa_cons (pe_op op_sub (pe_op op_pow pe_int pe_int) pe_int) (pa_cons (pe_un un_neg (pe_op op_pow pe_int pe_int)) pa_nil)))))) pa_nil))) pa_nil)) (by rfl))
      (pss_cons (ps_set (i := 4) scTall.nd rfl (.inl rfl) (pe_lst pa_nil))
      (pss_cons (ps_for PassesOwn.never rfl (pi_range1 (by rfl) mr (pa_cons (pv 1) pa_nil)) (pg_name (i := 5) scTall.nd rfl (.inl rfl))
        (pss_cons (ps_expr (pe_bm PySem.F.plainAttrs_list PySem.F.slot_list_append PySem.F.type_list_append mt_append (pv 4) (pa_cons (pv 3) pa_nil)))
        (pss_one (ps_set (i := 3) scTall.nd rfl (.inl rfl) (pe_op op_sub (pe_op op_sub (pv 3) pe_int) (pe_call GT hr1 (by rfl) gT FT.kp bT .nil pass0 (pa_cons (pv 0) (pa_cons (pv 2) pa_nil))))))))
      (pss_one (ps_ret (pv 4))))), ?_⟩
    -- the gap
    refine ⟨.ref p, rfl, 10, 6, rfl, rfl, ⟨by decide, by decide, by decide⟩, by show 4 ≤ sizeLine; decide, fun l1 n1 => ?_⟩
    have s1 : Same H (upd H l1 (.lst [.int 1, .int 1, .int 9, .int (10 ^ (6 : Int).toNat)])) := sm_upd n1
    refine ⟨p, l1, _, c, rfl, hP.same s1, by omega, .inl (.inl upd_same), hP.ne n1, by show 0 < 4; decide, by show 4 ≤ 10000000; decide, fun gv o1 hg ho1 => ?_⟩
    obtain ⟨g, rfl, g1, g2⟩ : ∃ g : Int, gv = .int g ∧ 1 ≤ g ∧ g ≤ 1000000 := by
      have z : (10 : Int) ^ (6 : Int).toNat = 1000000 := by decide
      simp only [z, List.mem_cons, List.not_mem_nil, or_false] at hg
      rcases hg with h | h | h | h <;> exact ⟨_, h, by decide, by decide⟩
    have b1 : But p H (upd (upd H l1 (.lst [.int 1, .int 1, .int 9, .int (10 ^ (6 : Int).toNat)])) p o1) := (But.same s1).trans But.of_upd
    have P1 : Pot (upd (upd H l1 (.lst [.int 1, .int 1, .int 9, .int (10 ^ (6 : Int).toNat)])) p o1) p (c + 1) := ⟨o1, upd_same, ho1⟩
    generalize upd (upd H l1 (.lst [.int 1, .int 1, .int 9, .int (10 ^ (6 : Int).toNat)])) p o1 = H1 at b1 P1
    -- the level
    refine ⟨.ref p, rfl, .int n, rfl, 5, rfl, 10, 9, rfl, rfl, ⟨by decide, by decide, by decide⟩, _, _, rfl, rfl, 10, 8, rfl, rfl, ⟨by decide, by decide, by decide⟩, _, rfl, by show 5 ≤ sizeLine; decide, fun l2 n2 => ?_⟩
    have s2 : Same H1 (upd H1 l2 (.lst [.int n, .int 100, .int (-5), .int (10 ^ (9 : Int).toNat - 40), .int (-(10 ^ (8 : Int).toNat))])) := sm_upd n2
    refine ⟨p, l2, _, c + 1, rfl, P1.same s2, by omega, .inl (.inl upd_same), P1.ne n2, by show 0 < 5; decide, by show 5 ≤ 10000000; decide, fun lv o2 hl ho2 => ?_⟩
    obtain ⟨l0, rfl, la, lb⟩ : ∃ l : Int, lv = .int l ∧ -100000000 ≤ l ∧ l ≤ 1000000000 := by
      have z : (10 : Int) ^ (9 : Int).toNat = 1000000000 := by decide
      have z' : (10 : Int) ^ (8 : Int).toNat = 100000000 := by decide
      simp only [z, z', List.mem_cons, List.not_mem_nil, or_false] at hl
      rcases hl with h | h | h | h | h
      · exact ⟨_, h, by omega, by omega⟩
      all_goals exact ⟨_, h, by decide, by decide⟩
    have b2 : But p H (upd (upd H1 l2 (.lst [.int n, .int 100, .int (-5), .int (10 ^ (9 : Int).toNat - 40), .int (-(10 ^ (8 : Int).toNat))])) p o2) := b1.trans ((But.same s2).trans But.of_upd)
    have P2 : Pot (upd (upd H1 l2 (.lst [.int n, .int 100, .int (-5), .int (10 ^ (9 : Int).toNat - 40), .int (-(10 ^ (8 : Int).toNat))])) p o2) p (c + 2) := ⟨o2, upd_same, ho2⟩
    generalize upd (upd H1 l2 (.lst [.int n, .int 100, .int (-5), .int (10 ^ (9 : Int).toNat - 40), .int (-(10 ^ (8 : Int).toNat))])) p o2 = H2 at b2 P2
    refine ⟨.int g, .int l0, rfl, ?_⟩
    -- found = []
    refine ⟨Nat.zero_le _, fun o no => ?_⟩
    have s3 : Same H2 (upd H2 o (.lst [])) := sm_upd no
    have nop : o ≠ p := P2.ne no
    refine ⟨.int n, rfl, n, rfl, by omega, by omega, for_range (lo := 0) (n := n) (fun i σ H3 => ∃ (lvl : Int) (y5 : Option V) (xs : List Int), σ = [some (.ref p), some (.int n), some (.int g), some (.int lvl), some (.ref o), y5] ∧ H3 o = some (.lst (xs.map V.int)) ∧ xs.length = i ∧ xs.Pairwise (· > ·) ∧
        (∀ x ∈ xs, lvl < x ∧ x ≤ 1000000000) ∧ -100000000 - 1000001 * (i : Int) ≤ lvl ∧ lvl ≤ 1000000000 ∧ Pot H3 p (c + 2 + i) ∧ But p H H3) ⟨l0, none, [], rfl, upd_same, rfl, .nil, (fun _ h => nomatch h), by omega, lb, P2.same s3, b2.trans (But.same s3)⟩ ?_ ?_⟩
    · rintro i σ H3 hi ⟨lvl, y5, xs, rfl, ho, hxl, hpw, hlt, h5, h6, P3, b3⟩
      refine ⟨.ref o, rfl, .inl ⟨rfl, _, .inl (.inl ho)⟩, .int lvl, rfl, o, _, _, rfl, rfl, ho, ?_, ?_⟩
      · rw [List.length_map]
        exact small1000 (by omega)
      · have n0 : H o = none := b2.none nop no
        have b4 : But p H (upd H3 o (.lst (xs.map V.int ++ [.int lvl]))) := b3.put n0
        refine ⟨_, rfl, _, _, rfl, rfl, .ref p, rfl, .int g, rfl, p, g, c + 2 + i, rfl, P3.upd nop, by omega, by omega, by omega, fun r o3 lr ho3 => ?_⟩
        refine ⟨_, _, rfl, rfl, ?_⟩
        refine ⟨lvl - 1 - r, _, xs ++ [lvl], rfl, ?_, by rw [List.length_append, hxl]; rfl, ?_, ?_, by omega, by omega, ⟨o3, upd_same, ho3⟩, b4.putP⟩
        · rw [upd_ne nop, upd_same, List.map_append]
          rfl
        · refine List.pairwise_append.mpr ⟨hpw, List.pairwise_singleton _ _, fun x hx y hy => ?_⟩
          rw [List.mem_singleton] at hy
          rw [hy]
          exact (hlt x hx).1
        · intro x hx
          rcases List.mem_append.mp hx with hx | hx
          · have := hlt x hx
            omega
          · rw [List.mem_singleton] at hx
            omega
    · rintro σ H3 ⟨lvl, y5, xs, rfl, ho, hxl, hpw, hlt, h5, h6, P3, b3⟩
      refine ⟨.ref o, rfl, q o H3 xs (b2.none nop no) ho hxl hpw (fun x hx => ?_) (P3.mono (by omega)) b3⟩
      have := hlt x hx
      omega
/-! ### _law_strewn -/
def spStrewn (K : PySem.W.Frag) : Sp := fun vs H Q _ => ∃ (p a : Addr) (xs : List Int) (c : Nat), vs = [.ref p, .ref a] ∧ Pot H p c ∧ c + xs.length ≤ 900000 ∧ xs.length ≤ 1000 ∧ (SqL K H a (xs.map V.int) ∨ SqT K H a (xs.map V.int)) ∧
  ∀ (q : Addr) (H' : Hp) (ys : List Int), H q = none → H' q = some (.lst (ys.map V.int)) → ys.Perm xs → Pot H' p (c + xs.length) → But p H H' → Q (.ref q) H'
theorem ok_strewn {f fT : Addr} {fd fdT : FuncData} {k : Nat} (F : Fun K "_law_strewn" "_law_strewn" sStrewn f fd) (FT : Fun K "_law_take" "_law_take" sTake fT fdT) (bT : Binds K fdT ["_law_pot_here", "_law_bound"] []) (gT : mg "_law_take" = some (.ref fT))
    (ml : mg "len" = none) (mli : mg "list" = none) :
    FnOk P w K mg base CX0 (k + 2) f fd ["_law_pot_here", "_law_some"] (spStrewn K) := by
  have GT : FnOk P w K mg base CX0 (k + 1) fT fdT ["_law_pot_here", "_law_bound"] spTake := ok_take FT
  refine F.ok scStrewn (fun vs H Q E h => ?_) (fun cdv A outer s H vs Q E hr h => ?_)
  · obtain ⟨p, a, xs, c, rfl, _⟩ := h
    rfl
  · obtain ⟨p, a, xs, c, rfl, hP, hc, hn, hS, q⟩ := h
    refine ⟨_, pss_cons (ps_par (i := 2) (j := 3) (by rfl) scStrewn.nd rfl rfl (by decide) rfl rfl (pa_cons (pe_callTy call_list_of (by rfl) mli (by decide +kernel) (pa_cons (pv 1) pa_nil)) (pa_cons (pe_lst pa_nil) pa_nil)) (by rfl))
      (pss_cons (ps_while PassesOwn.never (pt_cmpR (op_neD hr.units) (pv 2) (pe_lst pa_nil) (nomark _))
        (pss_one (ps_expr (pe_bm PySem.F.plainAttrs_list PySem.F.slot_list_append PySem.F.type_list_append mt_append (pv 3) (pa_cons (pe_bm PySem.F.plainAttrs_list PySem.F.slot_list_pop PySem.F.type_list_pop mt_popAt (pv 2)
          (pa_cons (pe_call GT hr (by rfl) gT FT.kp bT .nil pass0 (pa_cons (pv 0) (pa_cons (pe_callB call_len_seq (by rfl) ml PySem.boot_len (pa_cons (pv 2) pa_nil)) pa_nil))) pa_nil)) pa_nil)))))
      (pss_one (ps_ret (pv 3)))), ?_⟩
    refine ⟨.ref a, rfl, a, _, rfl, hS, fun r nr => ?_⟩
    refine ⟨Nat.zero_le _, fun o no => ⟨_, _, rfl, ?_⟩⟩
    have s1 : Same H (upd H r (.lst (xs.map V.int))) := sm_upd nr
    have s2 : Same (upd H r (.lst (xs.map V.int))) (upd (upd H r (.lst (xs.map V.int))) o (.lst [])) := sm_upd no
    have nor : r ≠ o := fun e => by rw [← e, upd_same] at no; cases no
    have nrp : r ≠ p := hP.ne nr
    have nop : o ≠ p := (hP.same s1).ne no
    have no0 : H o = none := s1.free no
    refine while_by (fun σ H3 => ∃ (zs ys : List Int), σ = [some (.ref p), some (.ref a), some (.ref r), some (.ref o)] ∧ H3 r = some (.lst (zs.map V.int)) ∧ H3 o = some (.lst (ys.map V.int)) ∧ (ys ++ zs).Perm xs ∧ Pot H3 p (c + ys.length) ∧ But p H H3)
      (fun σ H3 => match H3 r with | some (.lst zs) => zs.length | _ => 0) ⟨xs, [], rfl, ?_, upd_same, List.Perm.refl _, (hP.same s1).same s2, But.same (s1.trans s2)⟩ ?_ ?_
    · rw [upd_ne nor, upd_same]
    · rintro σ H3 ⟨zs, ys, rfl, hr3, ho3, hpm, P3, b3⟩
      have hpl := hpm.length_eq
      rw [List.length_append] at hpl
      refine ⟨.ref r, rfl, Nat.zero_le _, fun e1 ne1 => ?_⟩
      have s4 : Same H3 (upd H3 e1 (.lst [])) := sm_upd ne1
      refine ⟨.list (zs.map PyData.int), .list (([] : List Int).map PyData.int), .lst (.inl (.inl (s4 _ _ hr3))) (dps_ints _), .lst (.inl (.inl upd_same)) (dps_ints []), shp_lst _, shp_lst _, _, rfl, ?_⟩
      rw [eqv_lst]
      by_cases hz : zs = []
      · subst hz
        rw [decide_eq_true rfl]
        refine iteF ?_
        rw [List.append_nil] at hpm
        refine ⟨.ref o, rfl, q o _ ys no0 (s4 _ _ ho3) hpm ?_ (b3.trans (But.same s4))⟩
        rw [← hpm.length_eq]
        exact P3.same s4
      · rw [decide_eq_false hz]
        refine iteT ?_
        have lz : 0 < zs.length := List.length_pos_iff.mpr hz
        have P4 := P3.same s4
        have r4 := s4 _ _ hr3
        have o4 := s4 _ _ ho3
        have b4 := b3.trans (But.same s4 (p := p))
        generalize hH4 : upd H3 e1 (.lst []) = H4 at P4 r4 o4 b4
        refine ⟨.ref o, rfl, .inl ⟨rfl, _, .inl (.inl o4)⟩, .ref r, rfl, .inl ⟨rfl, _, .inl (.inl r4)⟩, .ref p, rfl, .ref r, rfl, r, _, rfl, .inl (.inl (.inl r4)), ?_⟩
        rw [List.length_map]
        refine ⟨p, zs.length, c + ys.length, rfl, P4, by omega, by omega, by omega, fun i o5 li ho5 => ?_⟩
        have li' : i < zs.length := by omega
        have r5 : (upd H4 p o5) r = some (.lst (zs.map V.int)) := by rw [upd_ne nrp]; exact r4
        refine ⟨r, _, i, i, .int zs[i], rfl, rfl, r5, by omega, by omega, ?_, ?_, ?_⟩
        · rw [List.length_map]
          exact sq_nat li'
        · rw [List.getElem?_map, List.getElem?_eq_getElem li']
          rfl
        · have o6 : (upd (upd H4 p o5) r (.lst ((zs.map V.int).eraseIdx i))) o = some (.lst (ys.map V.int)) := by rw [upd_ne (Ne.symm nor), upd_ne nop]; exact o4
          refine ⟨o, _, _, rfl, rfl, o6, ?_, ?_⟩
          · rw [List.length_map]
            exact small1000 (by omega)
          · have r6 : (upd (upd (upd H4 p o5) r (.lst ((zs.map V.int).eraseIdx i))) o (.lst (ys.map V.int ++ [.int zs[i]]))) r = some (.lst ((zs.eraseIdx i).map V.int)) := by
              rw [upd_ne nor, upd_same, map_erase]
            refine ⟨⟨zs.eraseIdx i, ys ++ [zs[i]], rfl, r6, ?_, ?_, ?_, ((b4.putP).put nr).put no0⟩, ?_⟩
            · rw [upd_same, List.map_append]
              rfl
            · rw [List.append_assoc]
              exact ((perm_ers zs i li').append_left ys).trans hpm
            · rw [List.length_append]
              have P5 : Pot (upd H4 p o5) p (c + ys.length + 1) := ⟨o5, upd_same, ho5⟩
              exact (P5.upd nrp).upd nop
            · have e1 := len_ers zs i li'
              rw [r6, hr3]
              show ((zs.eraseIdx i).map V.int).length < (zs.map V.int).length
              rw [List.length_map, List.length_map]
              omega
    · rintro σ H3 Q1 Q2 h12 ⟨v, ev, hz, hh⟩
      exact ⟨v, ev, hz, fun l nl => by
        obtain ⟨d, e, d1, d2, s1, s2, kk, ek, qq⟩ := hh l nl
        exact ⟨d, e, d1, d2, s1, s2, kk, ek, h12 _ _ qq⟩⟩
/-! ### _law_line -/
def spLine : Sp := fun vs H Q _ => ∃ (p : Addr) (n c : Nat), vs = [.ref p, .int n] ∧ Pot H p c ∧ c + 2 * n ≤ 800000 ∧ n ≤ 1000 ∧
  ∀ (q : Addr) (H' : Hp) (xs : List Int), H q = none → TupN H' q (xs.map V.int) → xs.length = n → xs.Nodup → (∀ x ∈ xs, -2000000000 ≤ x ∧ x ≤ 2000000000) → Pot H' p (c + 2 * n + 2) → But p H H' → Q (.ref q) H'
theorem ok_line {f fT fP fL fS : Addr} {fd fdT fdP fdL fdS : FuncData} {k : Nat} (F : Fun K "_law_line" "_law_line" sLine f fd) (FT : Fun K "_law_take" "_law_take" sTake fT fdT) (bT : Binds K fdT ["_law_pot_here", "_law_bound"] []) (gT : mg "_law_take" = some (.ref fT))
    (FP : Fun K "_law_pick" "_law_pick" sPick fP fdP) (bP : Binds K fdP ["_law_pot_here", "_law_some"] []) (gP : mg "_law_pick" = some (.ref fP))
    (FL : Fun K "_law_tall" "_law_tall" sTall fL fdL) (bL : Binds K fdL ["_law_pot_here", "_law_count"] []) (gL : mg "_law_tall" = some (.ref fL))
    (FS : Fun K "_law_strewn" "_law_strewn" sStrewn fS fdS) (bS : Binds K fdS ["_law_pot_here", "_law_some"] []) (gS : mg "_law_strewn" = some (.ref fS))
    (ml : mg "len" = none) (mli : mg "list" = none) (mr : mg "range" = none) (mt : mg "tuple" = none) :
    FnOk P w K mg base CX0 (k + 4) f fd ["_law_pot_here", "_law_count"] spLine := by
  have GL : FnOk P w K mg base CX0 (k + 3) fL fdL ["_law_pot_here", "_law_count"] spTall := ok_tall FL FT bT gT FP bP gP ml mr
  have GS : FnOk P w K mg base CX0 (k + 2) fS fdS ["_law_pot_here", "_law_some"] (spStrewn K) := ok_strewn FS FT bT gT ml mli
  refine F.ok scLine (fun vs H Q E h => ?_) (fun cdv A outer s H vs Q E hr h => ?_)
  · obtain ⟨p, n, c, rfl, _⟩ := h
    rfl
  · obtain ⟨p, n, c, rfl, hP, hc, hn, q⟩ := h
    have hr1 : Room (k + 2) _ := hr.mono (by omega)
    refine ⟨_, pss_one (ps_ret (pe_callTy call_tupN (by rfl) mt (by decide +kernel) (pa_cons (pe_call GS hr1 (by rfl) gS FS.kp bS .nil pass0 (pa_cons (pv 0) (pa_cons (pe_call GL hr (by rfl) gL FL.kp bL .nil pass0 (pa_cons (pv 0) (pa_cons (pv 1) pa_nil))) pa_nil))) pa_nil))), ?_⟩
    refine ⟨.ref p, rfl, .ref p, rfl, .int n, rfl, p, n, c, rfl, hP, by omega, hn, fun a H1 xs na ha hl hpw hbd P1 b1 => ?_⟩
    have nap : a ≠ p := hP.ne na
    refine ⟨p, a, xs, c + n + 2, rfl, P1, by omega, by omega, .inl (.inl (.inl ha)), fun r H2 ys nr hr2 hpm P2 b2 => ?_⟩
    have nrp : r ≠ p := P1.ne nr
    refine ⟨r, _, rfl, .inl ⟨.inl (.inl hr2), fun t ot hot nt => ?_⟩⟩
    have ntp : t ≠ p := P2.ne nt
    refine q t _ ys (b1.none ntp (b2.none ntp nt)) (TupN.new hot) (hpm.length_eq.trans hl) (hpm.nodup_iff.mpr (hpw.imp (fun h e => by omega))) (fun x hx => hbd x (hpm.mem_iff.mp hx)) ?_ ((b1.trans b2).put (b1.none ntp (b2.none ntp nt)))
    exact (P2.mono (by omega)).upd ntp
end
end Bal

namespace Bal
open PySem PySem.Spec PyProof.Rows L2
theorem cut_to (xs : List V) (i : Nat) (h : i ≤ xs.length) : cutV xs none (some (i : Int)) = xs.take i := by
  unfold cutV
  rw [HT.sIx_none, HT.sIx_nat, Nat.min_eq_left h, Nat.sub_zero, List.drop_zero]
theorem cut_from (xs : List V) (i : Nat) (h : i ≤ xs.length) : cutV xs (some (i : Int)) none = xs.drop i := by
  unfold cutV
  rw [HT.sIx_none, HT.sIx_nat, Nat.min_eq_left h]
  exact List.take_of_length_le (by rw [List.length_drop]; exact Nat.le_refl _)
abbrev sFolk : Stmt := topS 6
abbrev sAhead : Stmt := topS 7
abbrev sBehind : Stmt := topS 8
abbrev sCode : Stmt := topS 9
abbrev sRowOf : Stmt := topS 10
abbrev sPlace : Stmt := topS 11
abbrev sAmong : Stmt := topS 12
abbrev sIN : Stmt := inClass (topS 1) 0
theorem scIN : FnScope ["self", "who"] ["self", "who"] (defScope sIN) := ⟨rfl, rfl, rfl, by decide +kernel, rfl, by decide +kernel, by decide +kernel⟩
theorem scFolk : FnScope ["row"] ["row"] (defScope sFolk) := ⟨rfl, rfl, rfl, by decide +kernel, rfl, by decide +kernel, by decide +kernel⟩
theorem scAhead : FnScope ["row", "who"] ["row", "who"] (defScope sAhead) := ⟨rfl, rfl, rfl, by decide +kernel, rfl, by decide +kernel, by decide +kernel⟩
theorem scBehind : FnScope ["row", "who"] ["row", "who"] (defScope sBehind) := ⟨rfl, rfl, rfl, by decide +kernel, rfl, by decide +kernel, by decide +kernel⟩
theorem scCode : FnScope ["row", "who"] ["row"] (defScope sCode) := ⟨rfl, rfl, rfl, by decide +kernel, rfl, by decide +kernel, by decide +kernel⟩
theorem scRowOf : FnScope ["folk", "code", "row", "who", "ahead"] ["folk", "code"] (defScope sRowOf) := ⟨rfl, rfl, rfl, by decide +kernel, rfl, by decide +kernel, by decide +kernel⟩
theorem scPlace : FnScope ["row", "who"] ["row", "who"] (defScope sPlace) := ⟨rfl, rfl, rfl, by decide +kernel, rfl, by decide +kernel, by decide +kernel⟩
theorem scAmong : FnScope ["folk", "who", "one"] ["folk", "who"] (defScope sAmong) := ⟨rfl, rfl, rfl, by decide +kernel, rfl, by decide +kernel, by decide +kernel⟩
section
variable {P : Program} {w : World} {K : PySem.W.Frag} {mg : Str → Option Value} {base : Heap} {C fI : Addr} {fdI : FuncData} {newId : String} {tail : List Value}
theorem ok_iN {k : Nat} (T : ErT K mg "NoOne" "who" "NoOne.__init__" sIN C fI fdI newId tail) : FnOk P w K mg base CX0 (k + 1) fI fdI ["self", "who"] (spInit K C "who") := by
  refine T.F.ok scIN (fun vs H Q E h => ?_) (fun cdv A outer s H vs Q E hr h => ?_)
  · obtain ⟨a, v, rfl, _⟩ := h
    rfl
  · obtain ⟨a, v, rfl, ha, q⟩ := h
    refine ⟨_, pss_one (ps_est (pv 0) (pv 1)), ?_⟩
    exact ⟨v, rfl, .ref a, rfl, a, C, newId, tail, rfl, T.c, T.no, ha, fun dx nd ne => q dx nd ne⟩
/-! ### place_of -/
def noOne (C : Addr) (H : Hp) (k : Int) (E : XK) : Prop := ∀ d, H d = none → E (.ref C) (some d) (upd H d (.xd [("who", .int k)]))
def spPlace (K : PySem.W.Frag) (C : Addr) : Sp := fun vs H Q E => ∃ (a : Addr) (ns : List Int) (k : Int), vs = [.ref a, .int k] ∧ SqB K H a (ns.map V.int) ∧ (k ∉ ns → noOne C H k E) ∧ (k ∈ ns → Q (.int (ns.idxOf k : Nat)) H)
theorem ok_place {f : Addr} {fd : FuncData} {k : Nat} (F : Fun K "place_of" "place_of" sPlace f fd) (T : ErT K mg "NoOne" "who" "NoOne.__init__" sIN C fI fdI newId tail) (bI : Binds K fdI ["self", "who"] []) : FnOk P w K mg base (L2.CX P w) (k + 3) f fd ["row", "who"] (spPlace K C) := by
  have GI : FnOk P w K mg base CX0 (k + 1) fI fdI ["self", "who"] (spInit K C "who") := ok_iN T
  refine F.okX scPlace (fun vs H Q E h => ?_) (fun cdv A outer s H vs Q E hr h => ?_)
  · obtain ⟨a, ns, k, rfl, _⟩ := h
    rfl
  · obtain ⟨a, ns, k, rfl, hS, qe, q⟩ := h
    refine ⟨_, pss_cons (ps_if (pt_cmpR op_notIn_seq (pv 1) (pv 0) (by rfl)) (pss_one (ps_raise rfl (takes_of rfl rfl rfl rfl) (pmk_er T.c T.iC T.tI GI hr bI .nil pass0 (by rfl) T.k.g (pa_cons (pv 1) pa_nil)))) pss_nil)
      (pss_one (ps_ret (pe_or (pe_bm PySem.F.plainAttrs_list PySem.F.slot_list_index PySem.F.type_list_index mt_idx (pv 0) (pa_cons (pv 1) pa_nil)) (pe_bT PySem.F.slot_tuple_index PySem.F.type_tuple_index mt_idxT (pv 0) (pa_cons (pv 1) pa_nil))))), ?_⟩
    refine ⟨.int k, rfl, .ref a, rfl, a, _, rfl, hS.a, rfl, flat_ints ns, _, rfl, ?_⟩
    rw [if_pos rfl, inV_ints]
    by_cases hk : k ∈ ns
    · rw [decide_eq_true hk]
      refine iteF ?_
      rcases hS with hS | hS
      · exact .inl ⟨.ref a, rfl, .inl ⟨rfl, _, hS⟩, .int k, rfl, a, ns, k, rfl, rfl, hS, hk, q hk⟩
      · exact .inr ⟨.ref a, rfl, ⟨a, _, rfl, hS⟩, .int k, rfl, a, ns, k, rfl, rfl, hS.sq, hk, q hk⟩
    · rw [decide_eq_false hk]
      exact iteT ⟨.int k, rfl, made_er (qe hk)⟩
/-! ### taller_among -/
def spAmong (K : PySem.W.Frag) : Sp := fun vs H Q _ => ∃ (a : Addr) (ns : List Int) (k : Int), vs = [.ref a, .int k] ∧ SqA K H a (ns.map V.int) ∧ ns.length ≤ 1000 ∧ ∀ H', Same H H' → Q (.int ((ns.filter (fun y => decide (k < y))).length : Nat)) H'
theorem ok_among {f : Addr} {fd : FuncData} {k : Nat} (F : Fun K "taller_among" "taller_among" sAmong f fd) (ml : mg "len" = none) : FnOk P w K mg base CX0 (k + 1) f fd ["folk", "who"] (spAmong K) := by
  refine F.ok scAmong (fun vs H Q E h => ?_) (fun cdv A outer s H vs Q E hr h => ?_)
  · obtain ⟨a, ns, k, rfl, _⟩ := h
    rfl
  · obtain ⟨a, ns, k, rfl, hS, hl, q⟩ := h
    refine ⟨_, pss_one (ps_ret (pe_callB call_len_seq (by rfl) ml PySem.boot_len (pa_cons (pe_or
      (pe_lc (own := [("one", 2)]) (g := gName 2) (tt := tTest (tOp (rI0 fun i j => .bl (decide (j < i))) (tVar 2) (tVar 1))) (by rfl) scAmong.nd (pi_list (pv 0)) (blkOk_by (own := [("one", 2)]) (N := ["folk", "who", "one"]) (sc := defScope sAmong) (by decide +kernel)) (fun _ _ _ _ _ => pg_name (i := 2) scAmong.nd rfl (Or.inl rfl)) (fun _ _ _ _ _ => pts_one (pt_cmpR op_gt (pv 2) (pv 1) (nomark _))) (fun _ _ _ _ _ => pv 2))
      (pe_lc (own := [("one", 2)]) (g := gName 2) (tt := tTest (tOp (rI0 fun i j => .bl (decide (j < i))) (tVar 2) (tVar 1))) (by rfl) scAmong.nd (pi_tup (pv 0)) (blkOk_by (own := [("one", 2)]) (N := ["folk", "who", "one"]) (sc := defScope sAmong) (by decide +kernel)) (fun _ _ _ _ _ => pg_name (i := 2) scAmong.nd rfl (Or.inl rfl)) (fun _ _ _ _ _ => pts_one (pt_cmpR op_gt (pv 2) (pv 1) (nomark _))) (fun _ _ _ _ _ => pv 2))) pa_nil))), ?_⟩
    have h0 : ∀ {H1 : Hp} {D : Addr}, H1 D = none → Same H1 (upd H1 D (.lst [])) ∧ (upd H1 D (.lst [])) D = some (.lst (((ns.take 0).filter (fun y => decide (k < y))).map V.int)) := fun n => ⟨sm_upd n, by rw [upd_same, List.take_zero]; rfl⟩
    have turn : ∀ (D : Addr) (i : Nat) (x : V) (H3 : Hp), H D = none → (ns.map V.int)[i]? = some x → Same H H3 ∧ H3 D = some (.lst (((ns.take i).filter (fun y => decide (k < y))).map V.int)) →
        gName 2 x (wipe [some (.ref a), some (.int k), none] [2]) H3 fun σ2 H2 => wipe σ2 [2] = wipe [some (.ref a), some (.int k), none] [2] ∧ tTest (tOp (rI0 fun i j => .bl (decide (j < i))) (tVar 2) (tVar 1)) σ2 H2 fun b H3 =>
          if b = true then tVar 2 σ2 H3 fun y H4 => ∃ acc, H4 D = some (.lst acc) ∧ acc.length < sizeLine ∧ Same H (upd H4 D (.lst (acc ++ [y]))) ∧ (upd H4 D (.lst (acc ++ [y]))) D = some (.lst (((ns.take (i + 1)).filter (fun y => decide (k < y))).map V.int)) else Same H H3 ∧ H3 D = some (.lst (((ns.take (i + 1)).filter (fun y => decide (k < y))).map V.int)) := by
      intro D i x H3 nD hx ⟨s3, h3⟩
      obtain ⟨z, hz, rfl⟩ : ∃ z, ns[i]? = some z ∧ V.int z = x := by
        rw [List.getElem?_map] at hx
        cases e : ns[i]? with
        | none => rw [e] at hx; cases hx
        | some z => rw [e] at hx; exact ⟨z, rfl, Option.some.inj hx⟩
      have et : (ns.take (i + 1)).filter (fun y => decide (k < y)) = (ns.take i).filter (fun y => decide (k < y)) ++ if k < z then [z] else [] := by
        rw [List.take_add_one, hz, List.filter_append]
        by_cases c : k < z <;> simp [c]
      refine ⟨rfl, .int z, rfl, .int k, rfl, z, k, rfl, rfl, _, rfl, ite2 (fun c => ?_) (fun c => ?_)⟩
      · have c := of_decide_eq_true c
        refine ⟨.int z, rfl, _, h3, ?_, Same.put s3 nD, ?_⟩
        · rw [List.length_map]
          refine line_lt (Nat.le_trans (List.length_filter_le _ _) ?_)
          rw [List.length_take]
          omega
        · rw [upd_same, et, if_pos c, List.map_append]
          rfl
      · have c : ¬ k < z := fun h => c (decide_eq_true h)
        refine ⟨s3, ?_⟩
        rw [et, if_neg c, List.append_nil]
        exact h3
    have fin : ∀ (D : Addr) (H3 : Hp), (Same H H3 ∧ H3 D = some (.lst (((ns.take (ns.map V.int).length).filter (fun y => decide (k < y))).map V.int))) → ∃ p ys, [V.ref D] = [.ref p] ∧ (SqL K H3 p ys ∨ SqT K H3 p ys) ∧ Q (.int ys.length) H3 := by
      intro D H3 ⟨s3, h3⟩
      rw [List.length_map, List.take_length] at h3
      refine ⟨D, _, rfl, .inl (.inl (.inl h3)), ?_⟩
      rw [List.length_map]
      exact q H3 s3
    rcases hS with hS | hS
    · refine .inl ⟨.ref a, rfl, a, rfl, ⟨_, hS⟩, fun D nD => ?_⟩
      exact lc_list (K := K) (a := a) (xs := ns.map V.int) (fun i H3 => Same H H3 ∧ H3 D = some (.lst (((ns.take i).filter (fun y => decide (k < y))).map V.int))) (h0 nD) (fun i H3 _ h => h.1.seq hS) (fun i x H3 hx h => turn D i x H3 nD hx h) (fun H3 h => fin D H3 h)
    · refine .inr ⟨.ref a, rfl, a, rfl, ⟨_, hS⟩, fun D nD => ?_⟩
      exact lc_tup (K := K) (a := a) (xs := ns.map V.int) (fun i H3 => Same H H3 ∧ H3 D = some (.lst (((ns.take i).filter (fun y => decide (k < y))).map V.int))) (h0 nD) (fun i H3 _ h => Same.sqT h.1 hS) (fun i x H3 hx h => turn D i x H3 nD hx h) (fun H3 h => fin D H3 h)
/-! ### taller_ahead, taller_behind -/
def spAhead (K : PySem.W.Frag) (C : Addr) (g : List Int → Int → Nat) : Sp := fun vs H Q E => ∃ (a : Addr) (ns : List Int) (k : Int), vs = [.ref a, .int k] ∧ SqB K H a (ns.map V.int) ∧ ns.length ≤ 1000 ∧ (k ∉ ns → noOne C H k E) ∧ (k ∈ ns → ∀ H', Same H H' → Q (.int (g ns k : Nat)) H')
theorem idx_lt {ns : List Int} {k : Int} (h : k ∈ ns) : ns.idxOf k < ns.length := List.idxOf_lt_length_iff.mpr h
theorem ok_ahead {f fP fA : Addr} {fd fdP fdA : FuncData} {k : Nat} (F : Fun K "taller_ahead" "taller_ahead" sAhead f fd) (FP : Fun K "place_of" "place_of" sPlace fP fdP) (bP : Binds K fdP ["row", "who"] []) (gP : mg "place_of" = some (.ref fP))
    (FA : Fun K "taller_among" "taller_among" sAmong fA fdA) (bA : Binds K fdA ["folk", "who"] []) (gA : mg "taller_among" = some (.ref fA)) (T : ErT K mg "NoOne" "who" "NoOne.__init__" sIN C fI fdI newId tail) (bI : Binds K fdI ["self", "who"] []) (ml : mg "len" = none) :
    FnOk P w K mg base (L2.CX P w) (k + 4) f fd ["row", "who"] (spAhead K C ahead) := by
  have GP : FnOk P w K mg base (L2.CX P w) (k + 3) fP fdP ["row", "who"] (spPlace K C) := ok_place FP T bI
  have GA : FnOk P w K mg base CX0 (k + 3) fA fdA ["folk", "who"] (spAmong K) := ok_among FA ml
  refine F.okX scAhead (fun vs H Q E h => ?_) (fun cdv A outer s H vs Q E hr h => ?_)
  · obtain ⟨a, ns, k, rfl, _⟩ := h
    rfl
  · obtain ⟨a, ns, k, rfl, hS, hl, qe, q⟩ := h
    refine ⟨_, pss_one (ps_ret (pe_call GA hr (by rfl) gA FA.kp bA .nil pass0 (pa_cons (pe_slice (sl_list.or sl_tupA) (pv 0) po_none (po_some (pe_call GP hr (by rfl) gP FP.kp bP .nil (E := E) (passes_call (W := fun cls d _ H => E cls d H) (takes_of rfl rfl rfl rfl) (fun _ _ _ _ h => h)) (pa_cons (pv 0) (pa_cons (pv 1) pa_nil))))) (pa_cons (pv 1) pa_nil)))), ?_⟩
    refine ⟨.ref a, rfl, .ref a, rfl, .int k, rfl, a, ns, k, rfl, hS, qe, fun hk => ⟨_, rfl, ?_⟩⟩
    have hi := idx_lt hk
    have ec : cutV (ns.map V.int) none (some ((ns.idxOf k : Nat) : Int)) = (ns.take (ns.idxOf k)).map V.int := by
      rw [cut_to _ _ (by rw [List.length_map]; omega), List.map_take]
    have lt : (ns.take (ns.idxOf k)).length ≤ 1000 := by rw [List.length_take]; omega
    rcases hS with hS | hS
    · refine .inl ⟨a, _, rfl, hS, fun p np => ?_⟩
      refine ⟨.int k, rfl, p, ns.take (ns.idxOf k), k, rfl, .inl (.inl (.inl ?_)), lt, fun H' s' => q hk H' ((sm_upd np).trans s')⟩
      rw [upd_same, ec]
    · refine .inr ⟨a, _, rfl, hS.sq, fun z => ?_, fun _ p np => ?_⟩
      · obtain ⟨_, z⟩ := z
        rw [HT.sIx_nat, List.length_map] at z
        omega
      · refine ⟨.int k, rfl, p, ns.take (ns.idxOf k), k, rfl, .inr (.inl (.inl ?_)), lt, fun H' s' => q hk H' ((sm_upd np).trans s')⟩
        rw [upd_same, ec]
theorem ok_behind {f fP fA : Addr} {fd fdP fdA : FuncData} {k : Nat} (F : Fun K "taller_behind" "taller_behind" sBehind f fd) (FP : Fun K "place_of" "place_of" sPlace fP fdP) (bP : Binds K fdP ["row", "who"] []) (gP : mg "place_of" = some (.ref fP))
    (FA : Fun K "taller_among" "taller_among" sAmong fA fdA) (bA : Binds K fdA ["folk", "who"] []) (gA : mg "taller_among" = some (.ref fA)) (T : ErT K mg "NoOne" "who" "NoOne.__init__" sIN C fI fdI newId tail) (bI : Binds K fdI ["self", "who"] []) (ml : mg "len" = none) :
    FnOk P w K mg base (L2.CX P w) (k + 4) f fd ["row", "who"] (spAhead K C behind) := by
  have GP : FnOk P w K mg base (L2.CX P w) (k + 3) fP fdP ["row", "who"] (spPlace K C) := ok_place FP T bI
  have GA : FnOk P w K mg base CX0 (k + 3) fA fdA ["folk", "who"] (spAmong K) := ok_among FA ml
  refine F.okX scBehind (fun vs H Q E h => ?_) (fun cdv A outer s H vs Q E hr h => ?_)
  · obtain ⟨a, ns, k, rfl, _⟩ := h
    rfl
  · obtain ⟨a, ns, k, rfl, hS, hl, qe, q⟩ := h
    refine ⟨_, pss_one (ps_ret (pe_call GA hr (by rfl) gA FA.kp bA .nil pass0 (pa_cons (pe_slice (sl_list.or sl_tupA) (pv 0) (po_some (pe_call GP hr (by rfl) gP FP.kp bP .nil (E := E) (passes_call (W := fun cls d _ H => E cls d H) (takes_of rfl rfl rfl rfl) (fun _ _ _ _ h => h)) (pa_cons (pv 0) (pa_cons (pv 1) pa_nil)))) po_none) (pa_cons (pv 1) pa_nil)))), ?_⟩
    refine ⟨.ref a, rfl, .ref a, rfl, .int k, rfl, a, ns, k, rfl, hS, qe, fun hk => ⟨_, rfl, ?_⟩⟩
    have hi := idx_lt hk
    have ec : cutV (ns.map V.int) (some ((ns.idxOf k : Nat) : Int)) none = (ns.drop (ns.idxOf k)).map V.int := by
      rw [cut_from _ _ (by rw [List.length_map]; omega), List.map_drop]
    have lt : (ns.drop (ns.idxOf k)).length ≤ 1000 := by rw [List.length_drop]; omega
    rcases hS with hS | hS
    · refine .inl ⟨a, _, rfl, hS, fun p np => ?_⟩
      refine ⟨.int k, rfl, p, ns.drop (ns.idxOf k), k, rfl, .inl (.inl (.inl ?_)), lt, fun H' s' => q hk H' ((sm_upd np).trans s')⟩
      rw [upd_same, ec]
    · refine .inr ⟨a, _, rfl, hS.sq, fun z => ?_, fun _ p np => ?_⟩
      · obtain ⟨z, _⟩ := z
        rw [HT.sIx_nat, List.length_map] at z
        have z0 : ns.idxOf k = 0 := by omega
        refine ⟨.int k, rfl, a, ns.drop (ns.idxOf k), k, rfl, .inr ?_, lt, fun H' s' => q hk H' s'⟩
        rw [z0, List.drop_zero]
        exact hS.sq
      · refine ⟨.int k, rfl, p, ns.drop (ns.idxOf k), k, rfl, .inr (.inl (.inl ?_)), lt, fun H' s' => q hk H' ((sm_upd np).trans s')⟩
        rw [upd_same, ec]
/-! ### folk_of -/
def spFolk (K : PySem.W.Frag) : Sp := fun vs H Q _ => ∃ (a : Addr) (ns : List Int), vs = [.ref a] ∧ SqA K H a (ns.map V.int) ∧ ∀ (ms : List Int) (p : Addr) (H' : Hp), ms.Perm ns → ms.Pairwise (· ≥ ·) → Same H H' → TupN H' p (ms.map V.int) → Q (.ref p) H'
theorem ok_folk {f : Addr} {fd : FuncData} {k : Nat} (F : Fun K "folk_of" "folk_of" sFolk f fd) (mt : mg "tuple" = none) (mso : mg "sorted" = none) : FnOk P w K mg base CX0 (k + 1) f fd ["row"] (spFolk K) := by
  refine F.ok scFolk (fun vs H Q E h => ?_) (fun cdv A outer s H vs Q E hr h => ?_)
  · obtain ⟨a, ns, rfl, _⟩ := h
    rfl
  · obtain ⟨a, ns, rfl, hS, q⟩ := h
    refine ⟨_, pss_one (ps_ret (pe_callTy call_tupN (by rfl) mt (by decide +kernel) (pa_cons (pe_callBK (cr_srtR (b := true)) (by rfl) mso (by decide +kernel) (pa_cons (pv 0) pa_nil) (pk_cons pe_bl pk_nil)) pa_nil))), ?_⟩
    refine ⟨.ref a, rfl, a, ns, rfl, rfl, hS, fun ms p pm om np => ?_⟩
    exact ⟨p, _, rfl, .inl ⟨.inl (.inl upd_same), fun t o ho nt => q ms t _ pm om ((sm_upd np).trans (sm_upd nt)) (TupN.new ho)⟩⟩
/-! ### code_of -/
def cI (l : List Nat) : List Int := l.map fun n : Nat => (n : Int)
abbrev nI (l : List Nat) : List V := (cI l).map V.int
theorem cI_len (l : List Nat) : (cI l).length = l.length := List.length_map _
def spCode (K : PySem.W.Frag) : Sp := fun vs H Q _ => ∃ (a : Addr) (ns : List Int), vs = [.ref a] ∧ SqB K H a (ns.map V.int) ∧ ns.length ≤ 1000 ∧ ∀ (ms : List Int) (p : Addr) (H' : Hp), ms.Perm ns → ms.Pairwise (· ≥ ·) → Same H H' → TupN H' p (nI (ms.map (ahead ns))) → Q (.ref p) H'
theorem ok_code {f fO fA : Addr} {fd fdO fdA : FuncData} {k : Nat} (F : Fun K "code_of" "code_of" sCode f fd) (FO : Fun K "folk_of" "folk_of" sFolk fO fdO) (bO : Binds K fdO ["row"] []) (gO : mg "folk_of" = some (.ref fO)) (GO : FnOk P w K mg base CX0 (k + 4) fO fdO ["row"] (spFolk K))
    (FA : Fun K "taller_ahead" "taller_ahead" sAhead fA fdA) (bA : Binds K fdA ["row", "who"] []) (gA : mg "taller_ahead" = some (.ref fA)) (GA : FnOk P w K mg base (L2.CX P w) (k + 4) fA fdA ["row", "who"] (spAhead K C ahead)) (mt : mg "tuple" = none) :
    FnOk P w K mg base CX0 (k + 5) f fd ["row"] (spCode K) := by
  refine F.ok scCode (fun vs H Q E h => ?_) (fun cdv A outer s H vs Q E hr h => ?_)
  · obtain ⟨a, ns, rfl, _⟩ := h
    rfl
  · obtain ⟨a, ns, rfl, hS, hl, q⟩ := h
    refine ⟨_, pss_one (ps_ret (pe_callTy call_tupN (by rfl) mt (by decide +kernel) (pa_cons (pe_lc (own := [("who", 1)]) (g := gName 1) (tt := tYes) (by rfl) scCode.nd (pi_tup (pe_call GO hr (by rfl) gO FO.kp bO .nil pass0 (pa_cons (pv 0) pa_nil)))
      (blkOk_by (own := [("who", 1)]) (N := ["row", "who"]) (sc := defScope sCode) (by decide +kernel)) (fun _ _ _ _ _ => pg_name (i := 1) scCode.nd rfl (Or.inl rfl)) (fun _ _ _ _ _ => pts_nil)
      (fun _ _ _ _ _ => pe_call GA hr (by rfl) gA FA.kp bA .nil passL (pa_cons (pv 0) (pa_cons (pv 1) pa_nil)))) pa_nil))), ?_⟩
    refine ⟨.ref a, rfl, a, ns, rfl, hS.a, fun ms t H1 pm om s1 ht => ?_⟩
    refine ⟨t, rfl, ⟨_, ht.sq⟩, fun D nD => ?_⟩
    have lm : ms.length = ns.length := pm.length_eq
    refine lc_tup (K := K) (a := t) (xs := ms.map V.int) (fun i H3 => Same H1 H3 ∧ H3 D = some (.lst (nI ((ms.take i).map (ahead ns))))) ⟨sm_upd nD, by rw [upd_same, List.take_zero]; rfl⟩ (fun i H3 _ h => (ht.same h.1).sq) (fun i x H3 hx h => ?_) (fun H3 h => ?_)
    · obtain ⟨z, hz, rfl⟩ : ∃ z, ms[i]? = some z ∧ V.int z = x := by
        rw [List.getElem?_map] at hx
        cases e : ms[i]? with
        | none => rw [e] at hx; cases hx
        | some z => rw [e] at hx; exact ⟨z, rfl, Option.some.inj hx⟩
      have hzn : z ∈ ns := pm.mem_iff.mp (List.mem_of_getElem? hz)
      have hi : i < ms.length := (List.getElem?_eq_some_iff.mp hz).1
      refine ⟨rfl, ?_⟩
      refine ⟨.ref a, rfl, .int z, rfl, a, ns, z, rfl, hS.same (s1.trans h.1), hl, fun nz => absurd hzn nz, fun _ H4 s4 => ?_⟩
      refine ⟨_, s4 _ _ h.2, ?_, Same.put (h.1.trans s4) nD, ?_⟩
      · rw [List.length_map, cI_len, List.length_map, List.length_take]
        exact line_lt (by omega)
      · unfold nI cI
        rw [upd_same, List.take_add_one, hz]
        simp
    · have h2 := h.2
      rw [List.length_map, List.take_length] at h2
      refine ⟨D, _, rfl, .inl ⟨.inl (.inl h2), fun u o ho nu => ?_⟩⟩
      exact q ms u _ pm om ((s1.trans h.1).trans (sm_upd nu)) (TupN.new ho)
/-! ### row_of -/
def spRowOf (K : PySem.W.Frag) : Sp := fun vs H Q _ => ∃ (a b : Addr) (fs : List Int) (cs : List Nat) (g : Nat → List Int), vs = [.ref a, .ref b] ∧ ((SqL K H a (fs.map V.int) ∧ SqL K H b (nI cs)) ∨ (SqT K H a (fs.map V.int) ∧ SqT K H b (nI cs))) ∧ fs.length = cs.length ∧ fs.length ≤ 1000 ∧ (∀ c ∈ cs, c ≤ 1000) ∧
  g 0 = [] ∧ (∀ i f c, fs[i]? = some f → cs[i]? = some c → g (i + 1) = ins (g i) c f) ∧ ∀ (p : Addr) (H' : Hp), Same H H' → TupN H' p ((g fs.length).map V.int) → Q (.ref p) H'
theorem ins_map (l : List Int) (i : Nat) (x : Int) : (ins l i x).map V.int = (l.map V.int).take i ++ [.int x] ++ (l.map V.int).drop i := by
  unfold ins
  rw [List.map_append, List.map_append, List.map_take, List.map_drop]
  rfl
theorem ins_len (l : List Int) (i : Nat) (x : Int) : (ins l i x).length = l.length + 1 := by
  unfold ins
  rw [List.length_append, List.length_append, List.length_take, List.length_drop, List.length_singleton]
  omega
theorem ok_rowOf {f : Addr} {fd : FuncData} {k : Nat} (F : Fun K "row_of" "row_of" sRowOf f fd) (mz : mg "zip" = none) (mt : mg "tuple" = none) : FnOk P w K mg base CX0 (k + 1) f fd ["folk", "code"] (spRowOf K) := by
  refine F.ok scRowOf (fun vs H Q E h => ?_) (fun cdv A outer s H vs Q E hr h => ?_)
  · obtain ⟨a, b, fs, cs, g, rfl, _⟩ := h
    rfl
  · obtain ⟨a, b, fs, cs, g, rfl, hS, hl, h1000, hcs, g0, gs, q⟩ := h
    refine ⟨_, pss_cons (ps_set (i := 2) scRowOf.nd rfl (.inl rfl) (pe_lst pa_nil))
      (pss_cons (ps_for PassesOwn.never rfl (RZ.pi_zipA (by rfl) mz (pa_cons (pv 0) (pa_cons (pv 1) pa_nil))) (pg_tup rfl (pgs_cons (pg_name (i := 3) scRowOf.nd rfl (.inl rfl)) (pgs_cons (pg_name (i := 4) scRowOf.nd rfl (.inl rfl)) pgs_nil)))
        (pss_one (ps_expr (pe_bm PySem.F.plainAttrs_list PySem.F.slot_list_insert PySem.F.type_list_insert mt_insert (pv 2) (pa_cons (pv 4) (pa_cons (pv 3) pa_nil))))))
      (pss_one (ps_ret (pe_callTy call_tupN (by rfl) mt (by decide +kernel) (pa_cons (pv 2) pa_nil))))), ?_⟩
    refine ⟨Nat.zero_le _, fun o no => ?_⟩
    have s1 : Same H (upd H o (.lst [])) := sm_upd no
    have ho1 : upd H o (.lst []) o = some (.lst ((g 0).map V.int)) := by rw [upd_same, g0]; rfl
    have glen : ∀ i, i ≤ fs.length → (g i).length = i := by
      intro i
      induction i with
      | zero => intro _; rw [g0]; rfl
      | succ i ih =>
        intro hi
        have h1 : fs[i]? = some fs[i] := List.getElem?_eq_getElem (by omega)
        have h2 : cs[i]? = some (cs[i]'(by omega)) := List.getElem?_eq_getElem (by omega)
        rw [gs i _ _ h1 h2, ins_len, ih (by omega)]
    have turn : ∀ (i : Nat) (x y : V), (fs.map V.int)[i]? = some x → (nI cs)[i]? = some y → ∃ c : Nat, y = .int c ∧ c ≤ 1000 ∧ ((g i).map V.int).length < sizeLine ∧ (g (i + 1)).map V.int = ((g i).map V.int).take c ++ [x] ++ ((g i).map V.int).drop c := by
      intro i x y hx hy
      obtain ⟨f, hf, rfl⟩ : ∃ z, fs[i]? = some z ∧ V.int z = x := by
        rw [List.getElem?_map] at hx
        cases e : fs[i]? with
        | none => rw [e] at hx; cases hx
        | some z => rw [e] at hx; exact ⟨z, rfl, Option.some.inj hx⟩
      obtain ⟨c, hc, rfl⟩ : ∃ c, cs[i]? = some c ∧ V.int (c : Int) = y := by
        unfold nI cI at hy
        rw [List.map_map, List.getElem?_map] at hy
        cases e : cs[i]? with
        | none => rw [e] at hy; cases hy
        | some z => rw [e] at hy; exact ⟨z, rfl, Option.some.inj hy⟩
      have hi : i < fs.length := (List.getElem?_eq_some_iff.mp hf).1
      refine ⟨c, rfl, hcs c (List.mem_of_getElem? hc), ?_, ?_⟩
      · rw [List.length_map, glen i (by omega)]
        exact small1000 (by omega)
      · rw [gs i f c hf hc, ins_map]
    have el : (fs.map V.int).length = (nI cs).length := by rw [List.length_map, List.length_map, cI_len, hl]
    have fin : ∀ σ H3, (∃ y3 y4, σ = [some (.ref a), some (.ref b), some (.ref o), y3, y4] ∧ Same H H3 ∧ H3 o = some (.lst ((g (fs.map V.int).length).map V.int))) → tRet (tCB (rTupN K) (tCons (tVar 2) tNil)) { nx := fun _ H' => Q .non H', rt := Q } σ H3 := by
      rintro σ H3 ⟨y3, y4, rfl, s3, h3⟩
      rw [List.length_map] at h3
      exact ⟨.ref o, rfl, o, _, rfl, .inl ⟨.inl (.inl h3), fun u ou hou nu => q u _ (s3.trans (sm_upd nu)) (TupN.new hou)⟩⟩
    refine ⟨.ref a, rfl, .ref b, rfl, a, b, fs.map V.int, nI cs, rfl, ?_⟩
    rcases hS with hS | hS
    · refine .inl ⟨s1.seq hS.1, s1.seq hS.2, RZ.for_zipL el (fun i σ H3 => ∃ y3 y4, σ = [some (.ref a), some (.ref b), some (.ref o), y3, y4] ∧ Same H H3 ∧ H3 o = some (.lst ((g i).map V.int))) ⟨none, none, rfl, s1, ho1⟩ ?_ ?_ (fun σ H3 h => fin σ H3 h)⟩
      · rintro i σ H3 ⟨y3, y4, rfl, s3, h3⟩
        exact ⟨s3.seq hS.1, s3.seq hS.2⟩
      · rintro i x y T σ H3 hx hy ⟨y3, y4, rfl, s3, h3⟩ nT
        obtain ⟨c, rfl, hc, hz, hg⟩ := turn i x y hx hy
        have h4 := sm_upd (o := .tup [x, .int c]) nT _ _ h3
        refine ⟨T, _, rfl, .inl (.inl upd_same), rfl, x, [.int c], rfl, .int c, [], rfl, rfl, ?_⟩
        refine ⟨.ref o, rfl, .inl ⟨rfl, _, .inl (.inl h4)⟩, .int c, rfl, x, rfl, o, _, (c : Int), x, rfl, rfl, h4, hz, by omega, by omega, _, _, rfl, Same.put (s3.trans (sm_upd nT)) no, ?_⟩
        rw [upd_same, hg]
        rfl
    · refine .inr ⟨Same.sqT s1 hS.1, Same.sqT s1 hS.2, RZ.for_zipT el (fun i σ H3 => ∃ y3 y4, σ = [some (.ref a), some (.ref b), some (.ref o), y3, y4] ∧ Same H H3 ∧ H3 o = some (.lst ((g i).map V.int))) ⟨none, none, rfl, s1, ho1⟩ ?_ ?_ (fun σ H3 h => fin σ H3 h)⟩
      · rintro i σ H3 ⟨y3, y4, rfl, s3, h3⟩
        exact ⟨Same.sqT s3 hS.1, Same.sqT s3 hS.2⟩
      · rintro i x y T σ H3 hx hy ⟨y3, y4, rfl, s3, h3⟩ nT
        obtain ⟨c, rfl, hc, hz, hg⟩ := turn i x y hx hy
        have h4 := sm_upd (o := .tup [x, .int c]) nT _ _ h3
        refine ⟨T, _, rfl, .inl (.inl upd_same), rfl, x, [.int c], rfl, .int c, [], rfl, rfl, ?_⟩
        refine ⟨.ref o, rfl, .inl ⟨rfl, _, .inl (.inl h4)⟩, .int c, rfl, x, rfl, o, _, (c : Int), x, rfl, rfl, h4, hz, by omega, by omega, _, _, rfl, Same.put (s3.trans (sm_upd nT)) no, ?_⟩
        rw [upd_same, hg]
        rfl
end
end Bal

namespace Bal
open PySem PySem.Spec PyProof.Rows L2
abbrev sFront : Stmt := topS 21
abbrev sCodes : Stmt := topS 22
abbrev sNone : Stmt := topS 23
abbrev sRight : Stmt := topS 24
abbrev sLaw : Stmt := topS 25
theorem scFront : FnScope ["_law_line_here", "_law_soul", "_law_found", "_law_mate"] ["_law_line_here", "_law_soul"] (defScope sFront) := ⟨rfl, rfl, rfl, by decide +kernel, rfl, by decide +kernel, by decide +kernel⟩
theorem scCodes : FnScope ["_law_line_here", "_law_soul"] ["_law_line_here"] (defScope sCodes) := ⟨rfl, rfl, rfl, by decide +kernel, rfl, by decide +kernel, by decide +kernel⟩
theorem scNone : FnScope ["_law_line_here", "_law_soul", "_law_behind", "_law_caught", "error"] ["_law_line_here", "_law_soul", "_law_behind"] (defScope sNone) := ⟨rfl, rfl, rfl, by decide +kernel, rfl, by decide +kernel, by decide +kernel⟩
theorem frn_none : ∀ (a : List Int) (x : Int), x ∉ a → frn a x = (a.filter (fun y => decide (x < y))).length
  | [], x, _ => rfl
  | y :: a, x, h => by
    have hy : y ≠ x := fun e => h (by rw [e]; exact List.mem_cons_self ..)
    have ih := frn_none a x (fun z => h (List.mem_cons_of_mem _ z))
    show (if y = x then 0 else (if x < y then 1 else 0) + frn a x) = _
    rw [if_neg hy, ih, List.filter_cons]
    by_cases h2 : x < y
    · simp [h2]
      omega
    · simp [h2]
section
variable {P : Program} {w : World} {K : PySem.W.Frag} {mg : Str → Option Value} {base : Heap} {C fI : Addr} {fdI : FuncData} {newId : String} {tail : List Value}
/-! ### _law_front -/
def spFront (K : PySem.W.Frag) : Sp := fun vs H Q _ => ∃ (a : Addr) (ns : List Int) (k : Int), vs = [.ref a, .int k] ∧ SqT K H a (ns.map V.int) ∧ Q (.int (frn ns k : Nat)) H
theorem ok_front {f : Addr} {fd : FuncData} {k : Nat} (F : Fun K "_law_front" "_law_front" sFront f fd) (mi : mg "int" = none) : FnOk P w K mg base CX0 (k + 1) f fd ["_law_line_here", "_law_soul"] (spFront K) := by
  refine F.ok scFront (fun vs H Q E h => ?_) (fun cdv A outer s H vs Q E hr h => ?_)
  · obtain ⟨a, ns, k, rfl, _⟩ := h
    rfl
  · obtain ⟨a, ns, k, rfl, hS, q⟩ := h
    refine ⟨_, pss_cons (ps_set (i := 2) scFront.nd rfl (.inl rfl) pe_int)
      (pss_cons (ps_for PassesOwn.never rfl (pi_tup (pv 0)) (pg_name (i := 3) scFront.nd rfl (.inl rfl))
        (pss_cons (ps_if (pt_cmpR op_eq (pv 3) (pv 1) (nomark _)) (pss_one (ps_ret (pv 2))) pss_nil)
        (pss_one (ps_set (i := 2) scFront.nd rfl (.inl rfl) (pe_op op_add (pv 2) (pe_callTy call_int1 (by rfl) mi (by decide +kernel) (pa_cons (pe_cmpR op_gt (pv 3) (pv 1) (nomark _)) pa_nil)))))))
      (pss_one (ps_ret (pv 2)))), ?_⟩
    refine ⟨.ref a, rfl, a, rfl, ⟨_, hS⟩, for_tup (K := K) (a := a) (xs := ns.map V.int) (fun i σ H3 => ∃ y3, σ = [some (.ref a), some (.int k), some (.int (((ns.take i).filter (fun y => decide (k < y))).length : Nat)), y3] ∧ H3 = H ∧ k ∉ ns.take i) ⟨none, rfl, rfl, by simp⟩ (fun i σ H3 _ h => ?_) ?_ ?_⟩
    · obtain ⟨_, _, rfl, _⟩ := h
      exact hS
    · rintro i x σ H3 hx ⟨y3, rfl, rfl, hn⟩
      obtain ⟨z, hz, rfl⟩ : ∃ z, ns[i]? = some z ∧ V.int z = x := by
        rw [List.getElem?_map] at hx
        cases e : ns[i]? with
        | none => rw [e] at hx; cases hx
        | some z => rw [e] at hx; exact ⟨z, rfl, Option.some.inj hx⟩
      have hi : i < ns.length := (List.getElem?_eq_some_iff.mp hz).1
      refine ⟨.int z, rfl, .int k, rfl, rfl, _, rfl, ite2 (fun e => ?_) (fun e => ?_)⟩
      · have e : z = k := V.int.inj (of_decide_eq_true e)
        subst e
        refine ⟨_, rfl, ?_⟩
        have el : ns = ns.take i ++ z :: ns.drop (i + 1) := by
          have h1 := List.getElem?_eq_some_iff.mp hz
          conv => lhs; rw [← List.take_append_drop i ns, List.drop_eq_getElem_cons h1.1, h1.2]
        have ef : frn ns z = ((ns.take i).filter (fun y => decide (z < y))).length := by
          conv => lhs; rw [el]
          exact frn_app _ _ _ hn
        rw [ef] at q
        exact q
      · have ne : z ≠ k := fun h => e (decide_eq_true (congrArg V.int h))
        refine ⟨_, rfl, .int z, rfl, .int k, rfl, _, _, rfl, rfl, .inr ⟨_, rfl, _, _, rfl, rfl, some (.int z), ?_, rfl, ?_⟩⟩
        · have et : (ns.take (i + 1)).filter (fun y => decide (k < y)) = (ns.take i).filter (fun y => decide (k < y)) ++ if k < z then [z] else [] := by
            rw [List.take_add_one, hz, List.filter_append]
            by_cases c : k < z <;> simp [c]
          rw [et]
          by_cases c : k < z
          · rw [if_pos c, List.length_append]
            simp [c]
          · rw [if_neg c, List.append_nil]
            simp [c]
        · rw [List.take_add_one, hz]
          intro h
          rcases List.mem_append.mp h with h | h
          · exact hn h
          · have h : k = z := by simpa using h
            exact ne h.symm
    · rintro σ H3 ⟨y3, rfl, rfl, hn⟩
      rw [List.length_map, List.take_length] at hn ⊢
      refine ⟨_, rfl, ?_⟩
      rw [frn_none ns k hn] at q
      exact q
/-! ### _law_codes -/
def spCodes (K : PySem.W.Frag) : Sp := fun vs H Q _ => ∃ (a : Addr) (ns : List Int), vs = [.ref a] ∧ SqT K H a (ns.map V.int) ∧ ns.length ≤ 1000 ∧ ∀ (ms : List Int) (p : Addr) (H' : Hp), ms.Perm ns → ms.Pairwise (· ≤ ·) → Same H H' → H' p = some (.lst (nI (ms.reverse.map (ahead ns)))) → Q (.ref p) H'
theorem ok_codes {f fF : Addr} {fd fdF : FuncData} {k : Nat} (F : Fun K "_law_codes" "_law_codes" sCodes f fd) (FF : Fun K "_law_front" "_law_front" sFront fF fdF) (bF : Binds K fdF ["_law_line_here", "_law_soul"] []) (gF : mg "_law_front" = some (.ref fF)) (mi : mg "int" = none) (mso : mg "sorted" = none) :
    FnOk P w K mg base CX0 (k + 2) f fd ["_law_line_here"] (spCodes K) := by
  have GF : FnOk P w K mg base CX0 (k + 1) fF fdF ["_law_line_here", "_law_soul"] (spFront K) := ok_front FF mi
  refine F.ok scCodes (fun vs H Q E h => ?_) (fun cdv A outer s H vs Q E hr h => ?_)
  · obtain ⟨a, ns, rfl, _⟩ := h
    rfl
  · obtain ⟨a, ns, rfl, hS, hl, q⟩ := h
    refine ⟨_, pss_one (ps_ret (pe_lc (own := [("_law_soul", 1)]) (g := gName 1) (tt := tYes) (by rfl) scCodes.nd (pi_list (pe_revN (pe_callB cr_srt (by rfl) mso (by decide +kernel) (pa_cons (pv 0) pa_nil))))
      (blkOk_by (own := [("_law_soul", 1)]) (N := ["_law_line_here", "_law_soul"]) (sc := defScope sCodes) (by decide +kernel)) (fun _ _ _ _ _ => pg_name (i := 1) scCodes.nd rfl (Or.inl rfl)) (fun _ _ _ _ _ => pts_nil)
      (fun _ _ _ _ _ => pe_call GF hr (by rfl) gF FF.kp bF .nil pass0 (pa_cons (pv 0) (pa_cons (pv 1) pa_nil))))), ?_⟩
    refine ⟨.ref a, rfl, a, ns, rfl, .inr hS, fun ms p pm om np => ?_⟩
    refine ⟨p, _, rfl, .inl ⟨.inl (.inl upd_same), fun r nr => ?_⟩⟩
    have s1 : Same H (upd (upd H p (.lst (ms.map V.int))) r (.lst (ms.map V.int).reverse)) := (sm_upd np).trans (sm_upd nr)
    have hr1 : upd (upd H p (.lst (ms.map V.int))) r (.lst (ms.map V.int).reverse) r = some (.lst (ms.reverse.map V.int)) := by rw [upd_same, List.map_reverse]
    refine ⟨r, rfl, ⟨_, .inl (.inl hr1)⟩, fun D nD => ?_⟩
    generalize upd (upd H p (.lst (ms.map V.int))) r (.lst (ms.map V.int).reverse) = H1 at s1 hr1 nD
    have lm : ms.length = ns.length := pm.length_eq
    refine lc_list (K := K) (a := r) (xs := ms.reverse.map V.int) (fun i H3 => Same H1 H3 ∧ H3 D = some (.lst (nI ((ms.reverse.take i).map (ahead ns))))) ⟨sm_upd nD, by rw [upd_same, List.take_zero]; rfl⟩ (fun i H3 _ h => .inl (.inl (h.1 _ _ hr1))) (fun i x H3 hx h => ?_) (fun H3 h => ?_)
    · obtain ⟨z, hz, rfl⟩ : ∃ z, ms.reverse[i]? = some z ∧ V.int z = x := by
        rw [List.getElem?_map] at hx
        cases e : ms.reverse[i]? with
        | none => rw [e] at hx; cases hx
        | some z => rw [e] at hx; exact ⟨z, rfl, Option.some.inj hx⟩
      have hi : i < ms.reverse.length := (List.getElem?_eq_some_iff.mp hz).1
      rw [List.length_reverse] at hi
      refine ⟨rfl, ?_⟩
      refine ⟨.ref a, rfl, .int z, rfl, a, ns, z, rfl, Same.sqT (s1.trans h.1) hS, ?_⟩
      refine ⟨_, h.2, ?_, Same.put h.1 nD, ?_⟩
      · rw [List.length_map, cI_len, List.length_map, List.length_take]
        exact line_lt (by omega)
      · unfold nI cI
        rw [upd_same, List.take_add_one, hz, frn_ahead]
        simp
    · have h2 := h.2
      rw [List.length_map, List.take_length] at h2
      exact q ms D _ pm om (s1.trans h.1) h2
/-! ### _law_none -/
def spNone (K : PySem.W.Frag) : Sp := fun vs H Q _ => ∃ (a : Addr) (ns : List Int) (k : Int) (b : Bool), vs = [.ref a, .int k, .bl b] ∧ SqB K H a (ns.map V.int) ∧ ns.length ≤ 1000 ∧ k ∉ ns ∧ ∀ H', Same H H' → Q (.bl true) H'
theorem ok_none {f fA fB fS CF CP CR : Addr} {fd fdA fdB fdS : FuncData} {k : Nat} (F : Fun K "_law_none" "_law_none" sNone f fd)
    (FA : Fun K "taller_ahead" "taller_ahead" sAhead fA fdA) (bA : Binds K fdA ["row", "who"] []) (gA : mg "taller_ahead" = some (.ref fA)) (GA : FnOk P w K mg base (L2.CX P w) (k + 4) fA fdA ["row", "who"] (spAhead K C ahead))
    (FB : Fun K "taller_behind" "taller_behind" sBehind fB fdB) (bB : Binds K fdB ["row", "who"] []) (gB : mg "taller_behind" = some (.ref fB)) (GB : FnOk P w K mg base (L2.CX P w) (k + 4) fB fdB ["row", "who"] (spAhead K C behind))
    (FS : Fun K "_law_same" "_law_same" sSame fS fdS) (bS : Binds K fdS ["_law_found", "_law_due"] []) (gS : mg "_law_same" = some (.ref fS)) (GS : FnOk P w K mg base CX0 (k + 4) fS fdS ["_law_found", "_law_due"] (spSame K 2))
    (T : ErT K mg "NoOne" "who" "NoOne.__init__" sIN C fI fdI newId tail) (TF : ErK K mg "NoFloor" CF) (TP : ErK K mg "NoPlace" CP) (TR : ErK K mg "NoRow" CR) (nF : PySem.W.subIn K (.ref C) (.ref CF) = some false) (nP : PySem.W.subIn K (.ref C) (.ref CP) = some false) (nR : PySem.W.subIn K (.ref C) (.ref CR) = some false) (uL : PySem.W.subIn K (.ref C) (.type "LookupError") = some true)
    (mis : mg "isinstance" = none) (mlk : mg "LookupError" = none) : FnOk P w K mg base CX0 (k + 5) f fd ["_law_line_here", "_law_soul", "_law_behind"] (spNone K) := by
  refine F.ok scNone (fun vs H Q E h => ?_) (fun cdv A outer s H vs Q E hr h => ?_)
  · obtain ⟨a, ns, k, b, rfl, _⟩ := h
    rfl
  · obtain ⟨a, ns, k, b, rfl, hS, hl, hk, q⟩ := h
    refine ⟨_, pss_cons (ps_set (i := 3) scNone.nd rfl (.inl rfl) pe_non)
      (pss_cons (ps_try_keep (i := 4) (tb := fun W => tIfS (tB (tVar 2)) (tDrop (tCallS (spAhead K C behind) (WE W) (tCons (tVar 0) (tCons (tVar 1) tNil)))) (tDrop (tCallS (spAhead K C ahead) (WE W) (tCons (tVar 0) (tCons (tVar 1) tNil))))) (ts := fun _ _ _ => tAsg (tVar 4) (gName 3)) (Wout := fun _ _ _ _ => False) rfl rfl rfl scNone.nd rfl rfl
          (.cons ⟨rfl, by decide, .inl TF.g⟩ (.cons ⟨rfl, by decide, .inl T.k.g⟩ (.cons ⟨rfl, by decide, .inl TP.g⟩ (.cons ⟨rfl, by decide, .inl TR.g⟩ .nil)))) (by show 4 ≤ 1000; decide) takes0
          (fun W pn xe tk _ => pss_one (ps_if (by exact pt_val (pv 2)) (pss_one (ps_expr (by exact (pe_callS GB hr rfl gB FB.kp bB (fun σ => passAt tk σ) (by exact (pa_cons (pv 0) (pa_cons (pv 1) pa_nil)))))))
            (pss_one (ps_expr (by exact (pe_callS GA hr rfl gA FA.kp bA (fun σ => passAt tk σ) (by exact (pa_cons (pv 0) (pa_cons (pv 1) pa_nil)))))))))
          (fun a oe cls d pn hz hf => pss_one (ps_set (i := 3) scNone.nd rfl (Or.inl rfl) (by exact (pv 4)))))
      (pss_cons (ps_if (PW.pt (pw_or (pt_not (pt_val (pe_callB call_isV (by rfl) mis (by decide +kernel) (pa_cons (pv 3) (pa_cons (pe_glob (v := .ref C) (by rfl) T.k.g rfl) pa_nil)))))
          (pw_or1 (pt_val (pe_callB call_isVT (by rfl) mis (by decide +kernel) (pa_cons (pv 3) (pa_cons (pe_tup (pa_cons (pe_glob (v := .ref CF) (by rfl) TF.g rfl) (pa_cons (pe_glob (v := .ref CP) (by rfl) TP.g rfl) (pa_cons (pe_glob (v := .ref CR) (by rfl) TR.g rfl) pa_nil)))) pa_nil))))))) (pss_one (ps_ret pe_bl)) pss_nil)
      (pss_one (ps_ret (pe_and (pe_callB call_isV (by rfl) mis (by decide +kernel) (pa_cons (pv 3) (pa_cons (pe_bltn (v := .ty "LookupError") (by rfl) mlk (by decide +kernel) rfl) pa_nil)))
        (pe_one (pe_call GS hr (by rfl) gS FS.kp bS .nil pass0 (pa_cons (pe_fV (pv 3)) (pa_cons (pv 1) pa_nil))))))))), ?_⟩
    have wk : ∀ D : Ends, (∀ d e : Addr, H d = none → upd H d (.xd [("who", .int k)]) e = none → D.nx [some (.ref a), some (.int k), some (.bl b), some (.ref e), none] (upd (upd H d (.xd [("who", .int k)])) e (ErV (.ref C) (some d) e))) →
        noOne C H k (WE (wKeep K [.ref CF, .ref C, .ref CP, .ref CR] 4 (fun _ _ _ => tAsg (tVar 4) (gName 3)) (fun _ _ _ _ => False) D) [some (.ref a), some (.int k), some (.bl b), some .non, none]) := by
      intro D hD d nd
      refine ⟨true, exms_yes (fun u hu => ?_) ⟨.ref C, by simp, T.k.one T.me⟩, fun _ e ne => ⟨.ref e, rfl, hD d e nd ne⟩, fun z => nomatch z⟩
      simp only [List.mem_cons, List.not_mem_nil, or_false] at hu
      rcases hu with rfl | rfl | rfl | rfl
      · exact ⟨_, TF.one nF⟩
      · exact ⟨_, T.k.one T.me⟩
      · exact ⟨_, TP.one nP⟩
      · exact ⟨_, TR.one nR⟩
    refine ⟨.bl b, rfl, b, rfl, ?_⟩
    cases b
    case' false => refine iteF ⟨.ref a, rfl, .int k, rfl, a, ns, k, rfl, hS, hl, fun _ => wk _ (fun d e nd ne => ?_), fun h => absurd h hk⟩
    case' true => refine iteT ⟨.ref a, rfl, .int k, rfl, a, ns, k, rfl, hS, hl, fun _ => wk _ (fun d e nd ne => ?_), fun h => absurd h hk⟩
    all_goals
      have s1 := sm_upd (o := .xd [("who", .int k)]) nd
      have hd1 : upd H d (.xd [("who", .int k)]) d = some (.xd [("who", .int k)]) := upd_same
      have s2 := sm_upd (o := ErV (.ref C) (some d) e) ne
      have he2 : upd (upd H d (.xd [("who", .int k)])) e (ErV (.ref C) (some d) e) e = some (ErV (.ref C) (some d) e) := upd_same
      have hd2 := s2 _ _ hd1
      have sA := s1.trans s2
      refine ⟨.ref e, rfl, e, C, some d, .ref C, .ref C, true, rfl, he2, T.i, DcOk.some hd2, .own C, kit_self, _, rfl, iteF ?_⟩
      refine ⟨.ref e, rfl, by show 3 ≤ sizeLine; decide, fun tp ntp => ?_⟩
      have s3 := sm_upd (o := .tup [.ref CF, .ref CP, .ref CR]) ntp
      refine ⟨e, C, some d, tp, _, _, false, rfl, s3 _ _ he2, T.i, DcOk.some (s3 _ _ hd2), upd_same, .cons (.own _) (.cons (.own _) (.cons (.own _) .nil)), kits_no (fun u hu => ?_), _, rfl, iteF ?_⟩
      · simp only [List.mem_cons, List.not_mem_nil, or_false] at hu
        rcases hu with rfl | rfl | rfl
        · exact kit_no TF.hd TF.ty T.me nF
        · exact kit_no TP.hd TP.ty T.me nP
        · exact kit_no TR.hd TR.ty T.me nR
      · refine ⟨.ref e, rfl, e, C, some d, .ty "LookupError", _, true, rfl, s3 _ _ he2, T.i, DcOk.some (s3 _ _ hd2), .ty _, kit_up (by decide +kernel) uL, _, rfl, iteT ?_⟩
        exact ⟨.ref e, rfl, e, C, d, _, .int k, rfl, s3 _ _ he2, T.i, T.no, s3 _ _ hd2, rfl, .int k, rfl, .int k, .int k, .int k, rfl, .int k, .int k, by show 0 ≤ 2; decide, rfl, fun H5 s5 => q H5 ((sA.trans s3).trans s5)⟩
end
end Bal

namespace Bal
open PySem PySem.Spec PyProof.Rows L2
theorem scRight : FnScope ["_law_pot_here", "_law_line_here", "_law_tall_here", "_law_key", "_law_told", "_law_soul", "_law_due", "_law_named", "_law_odd"] ["_law_pot_here"] (defScope sRight) := ⟨rfl, rfl, rfl, by decide +kernel, rfl, by decide +kernel, by decide +kernel⟩
theorem scLaw : FnScope ["_law_script", "_law_k", "_law_pot_here", "_law_turn"] ["_law_script"] (defScope sLaw) := ⟨rfl, rfl, rfl, by decide +kernel, rfl, by decide +kernel, by decide +kernel⟩
/-- a tuple of numbers -/
def dT (ns : List Int) : PyData := .tuple (ns.map PyData.int)
theorem dT_dep (ns : List Int) : (dT ns).depth = 1 := by
  show PyData.depthAll (ns.map PyData.int) + 1 = 1
  rw [dep_ints]
theorem dT_small {ns : List Int} (h : ns.length ≤ 100000) : smallD (dT ns) = true := by
  show (decide ((ns.map PyData.int).length ≤ 100000) && smallA (ns.map PyData.int)) = true
  rw [small_ints, List.length_map, decide_eq_true h]
  rfl
theorem dp_T {K : PySem.W.Frag} {H : Hp} {p : Addr} {ns : List Int} (h : SqT K H p (ns.map V.int)) : Dp K H (.ref p) (dT ns) := .tup h (dps_ints ns)
theorem srt_one : ∀ {a b : List Int}, a.Perm b → a.Pairwise (· ≤ ·) → b.Pairwise (· ≤ ·) → a = b
  | [], b, h, _, _ => (List.Perm.nil_eq h)
  | x :: a, [], h, _, _ => absurd h.length_eq (by simp)
  | x :: a, y :: b, h, ha, hb => by
    obtain ⟨h1, h2⟩ := List.pairwise_cons.mp ha
    obtain ⟨h3, h4⟩ := List.pairwise_cons.mp hb
    have e : x = y := by
      have x1 : x ∈ y :: b := h.mem_iff.mp (List.mem_cons_self ..)
      have y1 : y ∈ x :: a := h.mem_iff.mpr (List.mem_cons_self ..)
      rcases List.mem_cons.mp x1 with e | e
      · exact e
      · rcases List.mem_cons.mp y1 with e2 | e2
        · exact e2.symm
        · have := h1 y e2
          have := h3 x e
          omega
    subst e
    rw [srt_one (List.perm_cons x |>.mp h) h2 h4]
theorem ahead_le (l : List Int) (x : Int) : ahead l x ≤ l.length := by
  unfold ahead
  refine Nat.le_trans (List.length_filter_le _ _) ?_
  rw [List.length_take]
  omega
section
variable {P : Program} {w : World} {K : PySem.W.Frag} {mg : Str → Option Value} {base : Heap} {C fI : Addr} {fdI : FuncData} {newId : String} {tail : List Value}
def spRight : Sp := fun vs H Q _ => ∃ (p : Addr) (c : Nat), vs = [.ref p] ∧ Pot H p c ∧ c ≤ 100000 ∧ ∀ H', Pot H' p (c + 100) → But p H H' → Q (.bl true) H'
theorem ok_right {f fT fL fS fO fE fW fA fB fF fD fN : Addr} {fd fdT fdL fdS fdO fdE fdW fdA fdB fdF fdD fdN : FuncData} {k : Nat} (F : Fun K "_law_right" "_law_right" sRight f fd)
    (FT : Fun K "_law_take" "_law_take" sTake fT fdT) (bT : Binds K fdT ["_law_pot_here", "_law_bound"] []) (gT : mg "_law_take" = some (.ref fT)) (GT : FnOk P w K mg base CX0 (k + 5) fT fdT ["_law_pot_here", "_law_bound"] spTake)
    (FL : Fun K "_law_line" "_law_line" sLine fL fdL) (bL : Binds K fdL ["_law_pot_here", "_law_count"] []) (gL : mg "_law_line" = some (.ref fL)) (GL : FnOk P w K mg base CX0 (k + 5) fL fdL ["_law_pot_here", "_law_count"] spLine)
    (FS : Fun K "_law_same" "_law_same" sSame fS fdS) (bS : Binds K fdS ["_law_found", "_law_due"] []) (gS : mg "_law_same" = some (.ref fS)) (GS : FnOk P w K mg base CX0 (k + 5) fS fdS ["_law_found", "_law_due"] (spSame K 2))
    (FO : Fun K "folk_of" "folk_of" sFolk fO fdO) (bO : Binds K fdO ["row"] []) (kO : KB0 K fdO ["row"] ["row"] (fun w => w) (fun w => w)) (gO : mg "folk_of" = some (.ref fO)) (GO : FnOk P w K mg base CX0 (k + 5) fO fdO ["row"] (spFolk K))
    (FE : Fun K "code_of" "code_of" sCode fE fdE) (bE : Binds K fdE ["row"] []) (kE : KB0 K fdE ["row"] ["row"] (fun w => w) (fun w => w)) (gE : mg "code_of" = some (.ref fE)) (GE : FnOk P w K mg base CX0 (k + 5) fE fdE ["row"] (spCode K))
    (FW : Fun K "row_of" "row_of" sRowOf fW fdW) (bW : Binds K fdW ["folk", "code"] []) (kW : KB0 K fdW ["folk", "code"] ["code", "folk"] flip2 flip2) (gW : mg "row_of" = some (.ref fW)) (GW : FnOk P w K mg base CX0 (k + 5) fW fdW ["folk", "code"] (spRowOf K))
    (FA : Fun K "taller_ahead" "taller_ahead" sAhead fA fdA) (bA : Binds K fdA ["row", "who"] []) (kA : KB0 K fdA ["row", "who"] ["who", "row"] flip2 flip2) (gA : mg "taller_ahead" = some (.ref fA)) (GA : FnOk P w K mg base (L2.CX P w) (k + 5) fA fdA ["row", "who"] (spAhead K C ahead))
    (FB : Fun K "taller_behind" "taller_behind" sBehind fB fdB) (bB : Binds K fdB ["row", "who"] []) (kB : KB0 K fdB ["row", "who"] ["who", "row"] flip2 flip2) (gB : mg "taller_behind" = some (.ref fB)) (GB : FnOk P w K mg base (L2.CX P w) (k + 5) fB fdB ["row", "who"] (spAhead K C behind))
    (FF : Fun K "_law_front" "_law_front" sFront fF fdF) (bF : Binds K fdF ["_law_line_here", "_law_soul"] []) (gF : mg "_law_front" = some (.ref fF)) (GF : FnOk P w K mg base CX0 (k + 5) fF fdF ["_law_line_here", "_law_soul"] (spFront K))
    (FD : Fun K "_law_codes" "_law_codes" sCodes fD fdD) (bD : Binds K fdD ["_law_line_here"] []) (gD : mg "_law_codes" = some (.ref fD)) (GD : FnOk P w K mg base CX0 (k + 5) fD fdD ["_law_line_here"] (spCodes K))
    (FN : Fun K "_law_none" "_law_none" sNone fN fdN) (bN : Binds K fdN ["_law_line_here", "_law_soul", "_law_behind"] []) (gN : mg "_law_none" = some (.ref fN)) (GN : FnOk P w K mg base CX0 (k + 5) fN fdN ["_law_line_here", "_law_soul", "_law_behind"] (spNone K))
    (mi : mg "int" = none) (mli : mg "list" = none) (mt : mg "tuple" = none) (mso : mg "sorted" = none) (ma : mg "all" = none) (mmx : mg "max" = none) (mmn : mg "min" = none) : FnOk P w K mg base CX0 (k + 6) f fd ["_law_pot_here"] spRight := by
  refine F.ok scRight (fun vs H Q E h => ?_) (fun cdv A outer s H vs Q E hr h => ?_)
  · obtain ⟨p, c, rfl, _⟩ := h
    rfl
  · obtain ⟨p, c, rfl, hP, hc, q⟩ := h
    refine ⟨_, pss_cons (ps_set (i := 1) scRight.nd rfl (.inr rfl) (pe_call GL hr (by rfl) gL FL.kp bL .nil pass0 (pa_cons (pv 0) (pa_cons (pe_ix ix_list (pe_lst (pa_cons (pe_op op_add pe_int (pe_call GT hr (by rfl) gT FT.kp bT .nil pass0 (pa_cons (pv 0) (pa_cons pe_int pa_nil)))) (pa_cons pe_int pa_nil)))
        (pe_callTy call_int1 (by rfl) mi (by decide +kernel) (pa_cons (pe_cmpR op_eq (pe_call GT hr (by rfl) gT FT.kp bT .nil pass0 (pa_cons (pv 0) (pa_cons pe_int pa_nil))) pe_int (nomark _)) pa_nil)) (fun _ _ => rfl)) pa_nil))))
      (pss_cons (ps_par (i := 2) (j := 3) (by rfl) scRight.nd rfl rfl (by decide) rfl rfl (pa_cons (pe_callTy call_tupN (by rfl) mt (by decide +kernel) (pa_cons (pe_revN (pe_callB cr_srt (by rfl) mso (by decide +kernel) (pa_cons (pv 1) pa_nil))) pa_nil))
        (pa_cons (pe_callTy call_tupN (by rfl) mt (by decide +kernel) (pa_cons (pe_call GD hr (by rfl) gD FD.kp bD .nil pass0 (pa_cons (pv 1) pa_nil)) pa_nil)) pa_nil)) (by rfl))
      (pss_cons (ps_set (i := 4) scRight.nd rfl (.inl rfl) (pe_lst (pa_cons (pe_call GO hr (by rfl) gO FO.kp bO .nil pass0 (pa_cons (pv 1) pa_nil)) (pa_cons (pe_call GE hr (by rfl) gE FE.kp bE .nil pass0 (pa_cons (pv 1) pa_nil)) (pa_cons (pe_call GW hr (by rfl) gW FW.kp bW .nil pass0 (pa_cons (pv 2) (pa_cons (pv 3) pa_nil)))
        (pa_cons (pe_callK0 GW hr (by rfl) gW FW.kp kW pass0 (pk_cons (pe_callTy call_list_of (by rfl) mli (by decide +kernel) (pa_cons (pv 3) pa_nil)) (pk_cons (pe_callTy call_list_of (by rfl) mli (by decide +kernel) (pa_cons (pv 2) pa_nil)) pk_nil))) pa_nil))))))
      (pss_cons (ps_if (pt_not (pt_val (pe_call GS hr (by rfl) gS FS.kp bS .nil pass0 (pa_cons (pe_op op_cat (pv 4) (pe_lst (pa_cons (pe_callK0 GO hr (by rfl) gO FO.kp kO pass0 (pk_cons (pe_callTy call_list_of (by rfl) mli (by decide +kernel) (pa_cons (pv 1) pa_nil)) pk_nil))
          (pa_cons (pe_callK0 GE hr (by rfl) gE FE.kp kE pass0 (pk_cons (pe_callTy call_list_of (by rfl) mli (by decide +kernel) (pa_cons (pv 1) pa_nil)) pk_nil)) pa_nil))))
          (pa_cons (pe_lst (pa_cons (pv 2) (pa_cons (pv 3) (pa_cons (pv 1) (pa_cons (pv 1) (pa_cons (pv 2) (pa_cons (pv 3) pa_nil))))))) pa_nil))))) (pss_one (ps_ret pe_bl)) pss_nil)
      (pss_cons (ps_for PassesOwn.never rfl (pi_tup (pv 1)) (pg_name (i := 5) scRight.nd rfl (.inl rfl))
        (pss_cons (ps_set (i := 6) scRight.nd rfl (.inl rfl) (pe_lst (pa_cons (pe_call GF hr (by rfl) gF FF.kp bF .nil pass0 (pa_cons (pv 1) (pa_cons (pv 5) pa_nil))) (pa_cons (pe_call GF hr (by rfl) gF FF.kp bF .nil pass0 (pa_cons (pe_revN (pv 1)) (pa_cons (pv 5) pa_nil))) pa_nil))))
        (pss_cons (ps_set (i := 4) scRight.nd rfl (.inl rfl) (pe_lst (pa_cons (pe_call GA hr (by rfl) gA FA.kp bA .nil passL (pa_cons (pv 1) (pa_cons (pv 5) pa_nil))) (pa_cons (pe_call GB hr (by rfl) gB FB.kp bB .nil passL (pa_cons (pv 1) (pa_cons (pv 5) pa_nil))) pa_nil))))
        (pss_cons (ps_set (i := 7) scRight.nd rfl (.inl rfl) (pe_lst (pa_cons (pe_callK0 GA hr (by rfl) gA FA.kp kA passL (pk_cons (pv 5) (pk_cons (pe_callTy call_list_of (by rfl) mli (by decide +kernel) (pa_cons (pv 1) pa_nil)) pk_nil)))
          (pa_cons (pe_callK0 GB hr (by rfl) gB FB.kp kB passL (pk_cons (pv 5) (pk_cons (pe_callTy call_list_of (by rfl) mli (by decide +kernel) (pa_cons (pv 1) pa_nil)) pk_nil))) pa_nil))))
        (pss_one (ps_if (pt_not (pt_val (pe_call GS hr (by rfl) gS FS.kp bS .nil pass0 (pa_cons (pe_lst (pa_cons (pv 4) (pa_cons (pv 7) pa_nil))) (pa_cons (pe_lst (pa_cons (pv 6) (pa_cons (pv 6) pa_nil))) pa_nil))))) (pss_one (ps_ret pe_bl)) pss_nil))))))
      (pss_cons (ps_set (i := 8) scRight.nd rfl (.inl rfl) (pe_lst (pa_cons (pe_op op_add (pe_callB (cr_maxT rfl (hu_of hr)) (by rfl) mmx (by decide +kernel) (pa_cons (pv 1) pa_nil)) pe_int) (pa_cons (pe_op op_sub (pe_callB (cr_minT rfl (hu_of hr)) (by rfl) mmn (by decide +kernel) (pa_cons (pv 1) pa_nil)) pe_int) (pa_cons (pe_op op_pow pe_int pe_int) pa_nil)))))
      (pss_one (ps_ret (pe_callB (cr_all rfl) (by rfl) ma (by decide +kernel) (pa_cons (pe_lc (own := [("_law_soul", 5)]) (g := gName 5) (tt := tYes) (by rfl) scRight.nd (pi_list (pv 8))
        (blkOk_by (own := [("_law_soul", 5)]) (N := ["_law_pot_here", "_law_line_here", "_law_tall_here", "_law_key", "_law_told", "_law_soul", "_law_due", "_law_named", "_law_odd"]) (sc := defScope sRight) (by decide +kernel))
        (fun _ _ _ _ _ => pg_name (i := 5) scRight.nd rfl (Or.inl rfl)) (fun _ _ _ _ _ => pts_nil)
        (fun _ _ _ _ _ => pe_and (pe_call GN hr (by rfl) gN FN.kp bN .nil pass0 (pa_cons (pv 1) (pa_cons (pv 5) (pa_cons pe_bl pa_nil)))) (pe_one (pe_call GN hr (by rfl) gN FN.kp bN .nil pass0 (pa_cons (pv 1) (pa_cons (pv 5) (pa_cons pe_bl pa_nil))))))) pa_nil))))))))), ?_⟩
    -- the row
    refine ⟨.ref p, rfl, .ref p, rfl, p, 12, c, rfl, hP, by omega, by omega, by omega, fun r o1 lr ho1 => ⟨_, _, rfl, rfl, ?_⟩⟩
    have b1 : But p H (upd H p o1) := But.of_upd
    have P1 : Pot (upd H p o1) p (c + 1) := ⟨o1, upd_same, ho1⟩
    generalize upd H p o1 = H1 at b1 P1
    refine ⟨by show 2 ≤ sizeLine; decide, fun l nl => ?_⟩
    have s1 := sm_upd (o := .lst [.int (1 + (r : Int)), .int 24]) nl
    refine ⟨.ref p, rfl, p, 6, c + 1, rfl, P1.same s1, by omega, by omega, by omega, fun r2 o2 lr2 ho2 => ⟨rfl, .inr ⟨_, rfl, ?_⟩⟩⟩
    have nlp : l ≠ p := P1.ne nl
    have b2 : But p H (upd (upd H1 l (.lst [.int (1 + (r : Int)), .int 24])) p o2) := b1.trans ((But.same s1).trans But.of_upd)
    have P2 : Pot (upd (upd H1 l (.lst [.int (1 + (r : Int)), .int 24])) p o2) p (c + 2) := ⟨o2, upd_same, ho2⟩
    have hl2 : (upd (upd H1 l (.lst [.int (1 + (r : Int)), .int 24])) p o2) l = some (.lst [.int (1 + (r : Int)), .int 24]) := by rw [upd_ne nlp, upd_same]
    generalize upd (upd H1 l (.lst [.int (1 + (r : Int)), .int 24])) p o2 = H2 at b2 P2 hl2
    obtain ⟨n, hn, en⟩ : ∃ n : Nat, (1 ≤ n ∧ n ≤ 24) ∧ atI [V.int (1 + (r : Int)), .int 24] (if decide (V.int (r2 : Int) = V.int 0) = true then 1 else 0) = some (.int n) := by
      cases decide (V.int (r2 : Int) = V.int 0) with
      | true => exact ⟨24, ⟨by omega, by omega⟩, rfl⟩
      | false => exact ⟨1 + r, ⟨by omega, by omega⟩, by show some (V.int (1 + (r : Int))) = some (V.int ((1 + r : Nat) : Int)); rw [show ((1 + r : Nat) : Int) = 1 + (r : Int) from by omega]⟩
    refine ⟨l, _, _, _, rfl, rfl, .inl (.inl hl2), en, ?_⟩
    refine ⟨p, n, c + 2, rfl, P2, by omega, by omega, fun a H3 xs na ha hl hnd hbd P3 b3 => ?_⟩
    have P3 := P3.mono (d := c + 100) (by omega)
    have b3 := b2.trans b3
    have ln : xs.length ≤ 24 := by omega
    have sqa : ∀ {H'}, Same H3 H' → SqT K H' a (xs.map V.int) := fun s => (ha.same s).sq
    -- tall, key
    refine ⟨.ref a, rfl, a, xs, rfl, .inr (sqa (Same.refl _)), fun ms p1 pm om n1 => ?_⟩
    refine ⟨p1, _, rfl, .inl ⟨.inl (.inl upd_same), fun p2 n2 => ⟨p2, _, rfl, .inl ⟨.inl (.inl upd_same), fun pt ot hot nt => ?_⟩⟩⟩⟩
    have sA := (sm_upd (o := .lst (ms.map V.int)) n1).trans ((sm_upd (o := .lst (ms.map V.int).reverse) n2).trans (sm_upd (o := .frz ot (.tup (ms.map V.int).reverse)) nt))
    have hpt : TupN (upd (upd (upd H3 p1 (.lst (ms.map V.int))) p2 (.lst (ms.map V.int).reverse)) pt (.frz ot (.tup (ms.map V.int).reverse))) pt (ms.reverse.map V.int) := by rw [List.map_reverse]; exact TupN.new hot
    generalize upd (upd (upd H3 p1 (.lst (ms.map V.int))) p2 (.lst (ms.map V.int).reverse)) pt (.frz ot (.tup (ms.map V.int).reverse)) = H4 at sA hpt
    refine ⟨.ref a, rfl, a, xs, rfl, sqa sA, by omega, fun ms' p3 H5 pm' om' s5 h5 => ?_⟩
    obtain rfl : ms = ms' := srt_one (pm.trans pm'.symm) om om'
    refine ⟨p3, _, rfl, .inl ⟨.inl (.inl h5), fun pk ok hok nk => ?_⟩⟩
    have sB := s5.trans (sm_upd (o := .frz ok (.tup (nI (ms.reverse.map (ahead xs))))) nk)
    have hpk : TupN (upd H5 pk (.frz ok (.tup (nI (ms.reverse.map (ahead xs)))))) pk (nI (ms.reverse.map (ahead xs))) := TupN.new hok
    generalize upd H5 pk (.frz ok (.tup (nI (ms.reverse.map (ahead xs))))) = H6 at sB hpk
    refine ⟨_, _, rfl, ?_⟩
    obtain ⟨F', hF'⟩ : ∃ F', F' = ms.reverse := ⟨_, rfl⟩
    have pF : F'.Perm xs := by rw [hF']; exact (List.reverse_perm _).trans pm
    have oF : F'.Pairwise (· > ·) := by
      have h1 : F'.Pairwise (· ≥ ·) := by rw [hF', List.pairwise_reverse]; exact om
      have h2 : F'.Nodup := pF.nodup_iff.mpr hnd
      exact (h1.and h2).imp (fun h => by omega)
    rw [← hF'] at hpt hpk
    have lF : F'.length = xs.length := pF.length_eq
    have desc : ∀ ds : List Int, ds.Perm xs → ds.Pairwise (· ≥ ·) → ds = F' := fun ds p1 o1 => by
      have e : ds.reverse = F'.reverse := srt_one ((List.reverse_perm _).trans (p1.trans (pF.symm.trans (List.reverse_perm _).symm))) (by rw [List.pairwise_reverse]; exact o1) (by rw [hF', List.reverse_reverse]; exact om)
      rw [← List.reverse_reverse ds, e, List.reverse_reverse]
    have sC : Same H3 H6 := sA.trans sB
    have hpt := hpt.same sB
    clear hF'
    -- told
    refine ⟨.ref a, rfl, a, xs, rfl, .inr (sqa sC), fun d1 q1 H7 pd1 od1 s7 h7 => ?_⟩
    obtain rfl := (desc d1 pd1 od1)
    have rowArgs : d1.length ≤ 1000 ∧ (∀ c ∈ d1.map (ahead xs), c ≤ 1000) ∧ part xs d1 0 = [] ∧ (∀ i f c, d1[i]? = some f → (d1.map (ahead xs))[i]? = some c → part xs d1 (i + 1) = ins (part xs d1 i) c f) := by
      refine ⟨by omega, fun c hc => ?_, part_zero _ _, fun i f c hf hc => ?_⟩
      · obtain ⟨y, _, rfl⟩ := List.mem_map.mp hc
        have := ahead_le xs y
        omega
      · obtain ⟨hi, e1⟩ := List.getElem?_eq_some_iff.mp hf
        rw [List.getElem?_map, hf] at hc
        have e2 : ahead xs f = c := Option.some.inj hc
        have := part_step oF pF hi
        rw [e1] at this
        rw [this, e2]
    obtain ⟨ra1, ra2, ra3, ra4⟩ := rowArgs
    have raE : part xs d1 d1.length = xs := part_all pF
    refine ⟨.ref a, rfl, a, xs, rfl, .inr (ha.same (sC.trans s7)), by omega, fun d2 q2 H8 pd2 od2 s8 h8 => ?_⟩
    obtain rfl := (desc d2 pd2 od2)
    refine ⟨.ref pt, rfl, .ref pk, rfl, pt, pk, d2, d2.map (ahead xs), part xs d2, rfl, .inr ⟨(hpt.same (s7.trans s8)).sq, (hpk.same (s7.trans s8)).sq⟩, (List.length_map _).symm, ra1, ra2, ra3, ra4, fun q3 H9 s9 h9 => ?_⟩
    rw [raE] at h9
    refine ⟨.ref pk, rfl, pk, _, rfl, .inr (hpk.same (s7.trans (s8.trans s9))).sq, fun l1 nl1 => ?_⟩
    have t1 := sm_upd (o := .lst (nI (d2.map (ahead xs)))) nl1
    refine ⟨.ref pt, rfl, pt, _, rfl, .inr (hpt.same (s7.trans (s8.trans (s9.trans t1)))).sq, fun l2 nl2 => ⟨rfl, ?_⟩⟩
    have t2 := sm_upd (o := .lst (d2.map V.int)) nl2
    refine ⟨l2, l1, d2, d2.map (ahead xs), part xs d2, rfl, .inl ⟨.inl (.inl upd_same), .inl (.inl (t2 _ _ upd_same))⟩, (List.length_map _).symm, ra1, ra2, ra3, ra4, fun q4 HA sA2 hA => ?_⟩
    rw [raE] at hA
    have s9A := t1.trans (t2.trans sA2)
    refine ⟨by show 4 ≤ sizeLine; decide, fun L1 nL1 => ?_⟩
    have sL := sm_upd (o := .lst [.ref q1, .ref q2, .ref q3, .ref q4]) nL1
    have hL1 : upd HA L1 (.lst [.ref q1, .ref q2, .ref q3, .ref q4]) L1 = some (.lst [.ref q1, .ref q2, .ref q3, .ref q4]) := upd_same
    have g1 := h7.same (s8.trans (s9.trans (s9A.trans sL)))
    have g2 := h8.same (s9.trans (s9A.trans sL))
    have g3 := h9.same (s9A.trans sL)
    have g4 := hA.same sL
    have sD : Same H6 (upd HA L1 (.lst [.ref q1, .ref q2, .ref q3, .ref q4])) := s7.trans (s8.trans (s9.trans (s9A.trans sL)))
    have gt := hpt.same sD
    have gk := hpk.same sD
    have ga := ha.same (sC.trans sD)
    have sE : Same H3 (upd HA L1 (.lst [.ref q1, .ref q2, .ref q3, .ref q4])) := sC.trans sD
    clear s7 s8 s9 s9A sA2 t1 t2 sL sD h7 h8 h9 hA hpt hpk
    generalize upd HA L1 (.lst [.ref q1, .ref q2, .ref q3, .ref q4]) = HB at hL1 g1 g2 g3 g4 gt gk ga sE
    -- same
    refine ⟨.ref L1, rfl, .ref a, rfl, a, _, rfl, .inr ga.sq, fun l3 nl3 => ⟨rfl, l3, xs, rfl, .inl (.inl (.inl upd_same)), fun d3 q5 HC pd3 od3 s3 h3 => ?_⟩⟩
    obtain rfl := (desc d3 pd3 od3)
    have s3 := (sm_upd (o := .lst (xs.map V.int)) nl3).trans s3
    refine ⟨.ref a, rfl, a, _, rfl, .inr (ga.same s3).sq, fun l4 nl4 => ⟨rfl, l4, xs, rfl, .inl (.inl (.inl upd_same)), by omega, fun d4 q6 HD pd4 od4 s4 h4 => ?_⟩⟩
    obtain rfl := (desc d4 pd4 od4)
    have s4 := (sm_upd (o := .lst (xs.map V.int)) nl4).trans s4
    refine ⟨by show 2 ≤ sizeLine; decide, fun L2 nL2 => ?_⟩
    have s5 := sm_upd (o := .lst [.ref q5, .ref q6]) nL2
    refine ⟨L1, L2, _, _, rfl, rfl, s5 _ _ (s4 _ _ (s3 _ _ hL1)), upd_same, by show 4 + 2 ≤ sizeLine; decide, fun L3 nL3 => ?_⟩
    have s6 := sm_upd (o := .lst ([.ref q1, .ref q2, .ref q3, .ref q4] ++ [.ref q5, .ref q6])) nL3
    refine ⟨.ref pt, rfl, .ref pk, rfl, .ref a, rfl, .ref a, rfl, .ref pt, rfl, .ref pk, rfl, by show 6 ≤ sizeLine; decide, fun L4 nL4 => ?_⟩
    have s7 := sm_upd (o := .lst [.ref pt, .ref pk, .ref a, .ref a, .ref pt, .ref pk]) nL4
    have sF := s3.trans (s4.trans (s5.trans (s6.trans s7)))
    have lcI : (cI (d4.map (ahead xs))).length ≤ 100000 := by rw [cI_len, List.length_map]; omega
    refine ⟨.ref L3, .ref L4, .list [dT d4, dT (cI (d4.map (ahead xs))), dT xs, dT xs, dT d4, dT (cI (d4.map (ahead xs)))], rfl, ?_, ?_, ?_, ?_, fun HE sE2 => ⟨_, rfl, iteF ?_⟩⟩
    · exact .lst (xs := [.ref q1, .ref q2, .ref q3, .ref q4, .ref q5, .ref q6]) (.inl (.inl (s7 _ _ upd_same))) (.cons (dp_T (g1.same sF).sq) (.cons (dp_T (g2.same sF).sq) (.cons (dp_T (g3.same sF).sq) (.cons (dp_T (g4.same sF).sq)
        (.cons (dp_T (h3.same (s4.trans (s5.trans (s6.trans s7)))).sq) (.cons (dp_T (h4.same (s5.trans (s6.trans s7))).sq) .nil))))))
    · exact .lst (xs := [.ref pt, .ref pk, .ref a, .ref a, .ref pt, .ref pk]) (.inl (.inl upd_same)) (.cons (dp_T (gt.same sF).sq) (.cons (dp_T (gk.same sF).sq) (.cons (dp_T (ga.same sF).sq) (.cons (dp_T (ga.same sF).sq) (.cons (dp_T (gt.same sF).sq) (.cons (dp_T (gk.same sF).sq) .nil))))))
    · show max (dT d4).depth (max (dT (cI (d4.map (ahead xs)))).depth (max (dT xs).depth (max (dT xs).depth (max (dT d4).depth (max (dT (cI (d4.map (ahead xs)))).depth 0))))) + 1 ≤ 2
      rw [dT_dep, dT_dep, dT_dep]
      decide
    · show (decide (6 ≤ 100000) && (smallD (dT d4) && (smallD (dT (cI (d4.map (ahead xs)))) && (smallD (dT xs) && (smallD (dT xs) && (smallD (dT d4) && (smallD (dT (cI (d4.map (ahead xs)))) && true))))))) = true
      rw [dT_small (ns := d4) (by omega), dT_small lcI, dT_small (ns := xs) (by omega)]
      rfl
    have sG : Same H3 HE := sE.trans (sF.trans sE2)
    have P8 := P3.same sG
    have b8 := b3.trans (But.same sG (p := p))
    have ha8 := ha.same sG
    clear sE2 sF s3 s4 s5 s6 s7 h3 h4 g1 g2 g3 g4 gt gk ga hL1 sE
    -- the loop
    refine ⟨.ref a, rfl, a, rfl, ⟨_, ha8.sq⟩, for_tup (K := K) (a := a) (xs := xs.map V.int) (fun i σ HF => ∃ y2 y3 y4 y5 y6 y7 y8, σ = [some (.ref p), some (.ref a), y2, y3, y4, y5, y6, y7, y8] ∧ Same HE HF) ⟨_, _, _, _, _, _, _, rfl, Same.refl _⟩ (fun i σ HF _ h => ?_) ?_ ?_⟩
    · obtain ⟨_, _, _, _, _, _, _, _, s⟩ := h
      exact (ha8.same s).sq
    · rintro i x σ HF hx ⟨y2, y3, y4, y5, y6, y7, y8, rfl, sH⟩
      obtain ⟨z, hz, rfl⟩ : ∃ z, xs[i]? = some z ∧ V.int z = x := by
        rw [List.getElem?_map] at hx
        cases e : xs[i]? with
        | none => rw [e] at hx; cases hx
        | some z => rw [e] at hx; exact ⟨z, rfl, Option.some.inj hx⟩
      have hzx : z ∈ xs := List.mem_of_getElem? hz
      have haF := ha8.same sH
      have nz : ∀ {A : Prop}, z ∉ xs → A := fun h => absurd hzx h
      refine ⟨.ref a, rfl, .int z, rfl, a, xs, z, rfl, haF.sq, ?_⟩
      refine ⟨.ref a, rfl, a, _, rfl, .inr ⟨haF.sq, fun pr orr hor npr => ?_⟩⟩
      have s1 := sm_upd (o := .frz orr (.tup (xs.map V.int).reverse)) npr
      have hpr : TupN (upd HF pr (.frz orr (.tup (xs.map V.int).reverse))) pr (xs.reverse.map V.int) := by rw [List.map_reverse]; exact TupN.new hor
      refine ⟨.int z, rfl, pr, xs.reverse, z, rfl, hpr.sq, ?_⟩
      rw [frn_rev hnd hzx, frn_ahead]
      refine ⟨by show 2 ≤ sizeLine; decide, fun D1 nD1 => ?_⟩
      have s2 := sm_upd (o := .lst [.int (ahead xs z : Nat), .int (behind xs z : Nat)]) nD1
      have s12 := s1.trans s2
      have hD1 : upd (upd HF pr (.frz orr (.tup (xs.map V.int).reverse))) D1 (.lst [.int (ahead xs z : Nat), .int (behind xs z : Nat)]) D1 = some (.lst ([(ahead xs z : Int), (behind xs z : Int)].map V.int)) := upd_same
      generalize upd (upd HF pr (.frz orr (.tup (xs.map V.int).reverse))) D1 (.lst [.int (ahead xs z : Nat), .int (behind xs z : Nat)]) = HG at s12 hD1
      refine ⟨.ref a, rfl, .int z, rfl, a, xs, z, rfl, .inr (haF.same s12), by omega, nz, fun _ HH s3 => ?_⟩
      refine ⟨.ref a, rfl, .int z, rfl, a, xs, z, rfl, .inr (haF.same (s12.trans s3)), by omega, nz, fun _ HI s4 => ?_⟩
      refine ⟨by show 2 ≤ sizeLine; decide, fun D2 nD2 => ?_⟩
      have s5 := sm_upd (o := .lst [.int (ahead xs z : Nat), .int (behind xs z : Nat)]) nD2
      have s35 := s3.trans (s4.trans s5)
      have hD2 : upd HI D2 (.lst [.int (ahead xs z : Nat), .int (behind xs z : Nat)]) D2 = some (.lst ([(ahead xs z : Int), (behind xs z : Int)].map V.int)) := upd_same
      generalize upd HI D2 (.lst [.int (ahead xs z : Nat), .int (behind xs z : Nat)]) = HJ at s35 hD2
      refine ⟨.int z, rfl, .ref a, rfl, a, _, rfl, .inr (haF.same (s12.trans s35)).sq, fun l5 nl5 => ⟨rfl, l5, xs, z, rfl, .inl (.inl (.inl upd_same)), by omega, nz, fun _ HK s6 => ?_⟩⟩
      have s6 := (sm_upd nl5).trans s6
      refine ⟨.int z, rfl, .ref a, rfl, a, _, rfl, .inr (haF.same (s12.trans (s35.trans s6))).sq, fun l6 nl6 => ⟨rfl, l6, xs, z, rfl, .inl (.inl (.inl upd_same)), by omega, nz, fun _ HL s7 => ?_⟩⟩
      have s7 := (sm_upd nl6).trans s7
      refine ⟨by show 2 ≤ sizeLine; decide, fun D3 nD3 => ?_⟩
      have s8 := sm_upd (o := .lst [.int (ahead xs z : Nat), .int (behind xs z : Nat)]) nD3
      have s68 := s6.trans (s7.trans s8)
      have hD3 : upd HL D3 (.lst [.int (ahead xs z : Nat), .int (behind xs z : Nat)]) D3 = some (.lst ([(ahead xs z : Int), (behind xs z : Int)].map V.int)) := upd_same
      generalize upd HL D3 (.lst [.int (ahead xs z : Nat), .int (behind xs z : Nat)]) = HM at s68 hD3
      refine ⟨.ref D2, rfl, .ref D3, rfl, by show 2 ≤ sizeLine; decide, fun D4 nD4 => ?_⟩
      have s9 := sm_upd (o := .lst [.ref D2, .ref D3]) nD4
      refine ⟨.ref D1, rfl, .ref D1, rfl, by show 2 ≤ sizeLine; decide, fun D5 nD5 => ?_⟩
      have sT := sm_upd (o := .lst [.ref D1, .ref D1]) nD5
      have f1 := sT _ _ (s9 _ _ (s68 _ _ (s35 _ _ hD1)))
      have f2 := sT _ _ (s9 _ _ (s68 _ _ hD2))
      have f3 := sT _ _ (s9 _ _ hD3)
      refine ⟨.ref D4, .ref D5, .list [.list ([(ahead xs z : Int), (behind xs z : Int)].map PyData.int), .list ([(ahead xs z : Int), (behind xs z : Int)].map PyData.int)], rfl, ?_, ?_, by show 2 ≤ 2; decide, rfl, fun HN sN => ⟨_, rfl, iteF ?_⟩⟩
      · exact .lst (xs := [.ref D2, .ref D3]) (.inl (.inl (sT _ _ upd_same))) (.cons (.lst (.inl (.inl f2)) (dps_ints _)) (.cons (.lst (.inl (.inl f3)) (dps_ints _)) .nil))
      · exact .lst (xs := [.ref D1, .ref D1]) (.inl (.inl upd_same)) (.cons (.lst (.inl (.inl f1)) (dps_ints _)) (.cons (.lst (.inl (.inl f1)) (dps_ints _)) .nil))
      · exact ⟨_, _, _, _, _, _, _, rfl, sH.trans (s12.trans (s35.trans (s68.trans (s9.trans (sT.trans sN)))))⟩
    · rintro σ HF ⟨y2, y3, y4, y5, y6, y7, y8, rfl, sH⟩
      have haF := ha8.same sH
      have hne : xs ≠ [] := fun e => by rw [e] at hl; simp at hl; omega
      refine ⟨.ref a, rfl, a, xs, rfl, haF.sq, hne, fun m1 hm1 hx1 => ⟨_, _, rfl, rfl, ?_⟩⟩
      refine ⟨.ref a, rfl, a, xs, rfl, haF.sq, hne, fun m2 hm2 hx2 => ⟨_, _, rfl, rfl, ?_⟩⟩
      refine ⟨10, 12, rfl, rfl, ⟨by decide, by decide, by decide⟩, by show 3 ≤ sizeLine; decide, fun od nod => ?_⟩
      have s4 := sm_upd (o := .lst [.int (m1 + 1), .int (m2 - 1), .int (10 ^ (12 : Int).toNat)]) nod
      have hod : upd HF od (.lst [.int (m1 + 1), .int (m2 - 1), .int (10 ^ (12 : Int).toNat)]) od = some (.lst ([m1 + 1, m2 - 1, 10 ^ (12 : Int).toNat].map V.int)) := upd_same
      have bad : ∀ z ∈ [m1 + 1, m2 - 1, 10 ^ (12 : Int).toNat], z ∉ xs := by
        intro z hz hzx
        have e12 : (10 : Int) ^ (12 : Int).toNat = 1000000000000 := by decide
        rw [e12] at hz
        simp only [List.mem_cons, List.not_mem_nil, or_false] at hz
        rcases hz with rfl | rfl | rfl
        · have := hx1 _ hzx
          omega
        · have := hx2 _ hzx
          omega
        · have := hbd _ hzx
          omega
      have hzl : [m1 + 1, m2 - 1, 10 ^ (12 : Int).toNat].length = 3 := rfl
      have sB := sH.trans s4
      refine ⟨.ref od, rfl, od, rfl, ⟨_, .inl (.inl hod)⟩, fun D nD => ?_⟩
      generalize [m1 + 1, m2 - 1, 10 ^ (12 : Int).toNat] = zs at hod bad hzl
      generalize upd HF od (.lst [.int (m1 + 1), .int (m2 - 1), .int (10 ^ (12 : Int).toNat)]) = HG at s4 hod sB nD
      refine lc_list (K := K) (a := od) (xs := zs.map V.int) (fun i H5 => Same HG H5 ∧ H5 D = some (.lst ((List.replicate i true).map V.bl))) ⟨sm_upd nD, upd_same⟩ (fun i H5 _ h => .inl (.inl (h.1 _ _ hod))) (fun i x H5 hx h => ?_) (fun H5 h => ?_)
      · obtain ⟨z, hz, rfl⟩ : ∃ z, zs[i]? = some z ∧ V.int z = x := by
          rw [List.getElem?_map] at hx
          cases e : zs[i]? with
          | none => rw [e] at hx; cases hx
          | some z => rw [e] at hx; exact ⟨z, rfl, Option.some.inj hx⟩
        have hi : i < zs.length := (List.getElem?_eq_some_iff.mp hz).1
        have hzx := bad z (List.mem_of_getElem? hz)
        refine ⟨rfl, ?_⟩
        refine ⟨.ref a, rfl, .int z, rfl, a, xs, z, true, rfl, .inr (ha8.same (sB.trans h.1)), by omega, hzx, fun H6 s6 => ⟨_, rfl, iteT ?_⟩⟩
        refine ⟨.ref a, rfl, .int z, rfl, a, xs, z, false, rfl, .inr (ha8.same (sB.trans (h.1.trans s6))), by omega, hzx, fun H7 s7 => ?_⟩
        have s57 := s6.trans s7
        refine ⟨_, s57 _ _ h.2, ?_, Same.put (h.1.trans s57) nD, ?_⟩
        · rw [List.length_map, List.length_replicate]
          exact line_lt (by omega)
        · rw [upd_same, rep_add, List.map_append]
          rfl
      · refine ⟨D, List.replicate (zs.map V.int).length true, rfl, .inl (.inl h.2), ?_⟩
        exact q_eq (congrArg V.bl (all_rep _)) (q _ (P8.same (sB.trans h.1)) (b8.trans (But.same (sB.trans h.1))))
/-! ### the law -/
def spLaw (K : PySem.W.Frag) : Sp := fun vs H Q _ => ∃ (a : Addr) (ns : List Int), vs = [.ref a] ∧ SqL K H a (ns.map V.int) ∧ ns.length ≤ 63 ∧ ∀ H', Q (.bl true) H'
theorem ok_law {f fP fR : Addr} {fd fdP fdR : FuncData} {k : Nat} (F : Fun K "law" "law" sLaw f fd)
    (FP : Fun K "_law_pot" "_law_pot" sPot fP fdP) (bP : Binds K fdP ["_law_script", "_law_k"] []) (gP : mg "_law_pot" = some (.ref fP)) (GP : FnOk P w K mg base CX0 (k + 6) fP fdP ["_law_script", "_law_k"] (spPot K))
    (FR : Fun K "_law_right" "_law_right" sRight fR fdR) (bR : Binds K fdR ["_law_pot_here"] []) (gR : mg "_law_right" = some (.ref fR)) (GR : FnOk P w K mg base CX0 (k + 6) fR fdR ["_law_pot_here"] spRight)
    (ml : mg "len" = none) (mr : mg "range" = none) (ma : mg "all" = none) (mmx : mg "max" = none) (mmn : mg "min" = none) : FnOk P w K mg base CX0 (k + 7) f fd ["_law_script"] (spLaw K) := by
  refine F.ok scLaw (fun vs H Q E h => ?_) (fun cdv A outer s H vs Q E hr h => ?_)
  · obtain ⟨a, ns, rfl, _⟩ := h
    rfl
  · obtain ⟨a, ns, rfl, hS, hl, q⟩ := h
    refine ⟨_, pss_cons (ps_for PassesOwn.never rfl (pi_range1 (by rfl) mr (pa_cons (pe_callB (call_max2 rfl) (by rfl) mmx (by decide +kernel) (pa_cons pe_int (pa_cons (pe_callB (call_min2 rfl) (by rfl) mmn (by decide +kernel) (pa_cons pe_int (pa_cons (pe_callB call_len_seq (by rfl) ml PySem.boot_len (pa_cons (pv 0) pa_nil)) pa_nil))) pa_nil))) pa_nil)) (pg_name (i := 1) scLaw.nd rfl (.inl rfl))
        (pss_cons (ps_set (i := 2) scLaw.nd rfl (.inr rfl) (pe_call GP hr (by rfl) gP FP.kp bP .nil pass0 (pa_cons (pv 0) (pa_cons (pv 1) pa_nil))))
        (pss_one (ps_if (pt_not (pt_val (pe_callB (cr_all rfl) (by rfl) ma (by decide +kernel) (pa_cons (pe_lc (own := [("_law_turn", 3)]) (g := gName 3) (tt := tYes) (by rfl) scLaw.nd (pi_range1 (by rfl) mr (pa_cons pe_int pa_nil))
          (blkOk_by (own := [("_law_turn", 3)]) (N := ["_law_script", "_law_k", "_law_pot_here", "_law_turn"]) (sc := defScope sLaw) (by decide +kernel))
          (fun _ _ _ _ _ => pg_name (i := 3) scLaw.nd rfl (Or.inl rfl)) (fun _ _ _ _ _ => pts_nil)
          (fun _ _ _ _ _ => pe_call GR hr (by rfl) gR FR.kp bR .nil pass0 (pa_cons (pv 2) pa_nil))) pa_nil)))) (pss_one (ps_ret pe_bl)) pss_nil))))
      (pss_one (ps_ret pe_bl)), ?_⟩
    refine ⟨.ref a, rfl, a, _, rfl, .inl hS, _, _, rfl, _, _, rfl, ?_⟩
    rw [List.length_map]
    have hm : ∃ m : Nat, (if (if (ns.length : Int) < 3 then (ns.length : Int) else 3) > 1 then (if (ns.length : Int) < 3 then (ns.length : Int) else 3) else 1) = (m : Int) ∧ m ≤ 3 := by
      by_cases h1 : (ns.length : Int) < 3
      · rw [if_pos h1]
        by_cases h2 : (ns.length : Int) > 1
        · rw [if_pos h2]; exact ⟨ns.length, rfl, by omega⟩
        · rw [if_neg h2]; exact ⟨1, rfl, by omega⟩
      · rw [if_neg h1, if_pos (by decide)]; exact ⟨3, rfl, by omega⟩
    obtain ⟨m, em, lm⟩ := hm
    refine ⟨(m : Int), congrArg (fun z => [V.int z]) em, by omega, by omega, for_range (lo := 0) (n := m) (fun i σ H3 => ∃ y1 y2 y3, σ = [some (.ref a), y1, y2, y3] ∧ Same H H3) ⟨none, none, none, rfl, Same.refl _⟩ ?_ ?_⟩
    · rintro i σ H3 hi ⟨y1, y2, y3, rfl, s3⟩
      rw [show (0 : Int) + (i : Int) = i from by omega]
      refine ⟨.ref a, rfl, .int i, rfl, a, ns, i, rfl, s3.seq hS, by omega, fun p o np ho => ?_⟩
      have s4 := sm_upd (o := o) np
      have P4 : Pot (upd H3 p o) p 0 := ⟨o, upd_same, ho⟩
      have npH : H p = none := s3.free np
      have sB := s3.trans s4
      generalize upd H3 p o = H4 at s4 P4 sB
      refine ⟨4, rfl, by decide, by decide, fun D nD => ?_⟩
      have nDp : D ≠ p := P4.ne nD
      refine lc_range (lo := 0) (n := 4) (fun i H5 => Pot H5 p (100 * i) ∧ But p H4 H5 ∧ H5 D = some (.lst ((List.replicate i true).map V.bl))) ⟨P4.upd nDp, But.same (sm_upd nD), upd_same⟩ (fun i H5 hi h => ?_) (fun H5 h => ?_)
      · refine ⟨rfl, ?_⟩
        refine ⟨.ref p, rfl, p, 100 * i, rfl, h.1, by omega, fun H6 P6 b6 => ?_⟩
        refine ⟨_, b6 _ _ nDp h.2.2, ?_, ?_, (h.2.1.trans b6).put nD, ?_⟩
        · rw [List.length_map, List.length_replicate]
          exact line_lt (by omega)
        · exact (P6.upd nDp).mono (by omega)
        · rw [upd_same, rep_add, List.map_append]
          rfl
      · refine ⟨D, List.replicate 4 true, rfl, .inl (.inl h.2.2), _, rfl, ?_⟩
        refine iteF ⟨_, _, _, rfl, fun b o e => ?_⟩
        exact h.2.1 b o (ne_of_none e npH) (sB b o e)
    · rintro σ H3 ⟨y1, y2, y3, rfl, s3⟩
      exact q _
end
end Bal

namespace Bal
open PySem PySem.Spec PyProof.Rows L2
/-! ### what the top has written -/
theorem all_mk {l : PySem.W.OpenLaw} {w : World} {K : PySem.W.Frag} {h : Heap} {mg : Str → Option Value} {fa : Addr} (X : K.In h) (G : h.Ns mainGlobals mg) (hfa : mg "law" = some (.ref fa))
    {fO : Addr} {odO anO : Option Addr} {slO : Array (Option Value)} {ocO kVO dcO pmO cdO ctO : Value}
    {fB : Addr} {odB anB : Option Addr} {slB : Array (Option Value)} {ocB kVB dcB pmB cdB ctB : Value}
    {fH : Addr} {odH anH : Option Addr} {slH : Array (Option Value)} {ocH kVH dcH pmH cdH ctH : Value}
    {fE : Addr} {odE anE : Option Addr} {slE : Array (Option Value)} {ocE kVE dcE pmE cdE ctE : Value}
    {fW : Addr} {odW anW : Option Addr} {slW : Array (Option Value)} {ocW kVW dcW pmW cdW ctW : Value}
    {fJ : Addr} {odJ anJ : Option Addr} {slJ : Array (Option Value)} {ocJ kVJ dcJ pmJ cdJ ctJ : Value}
    {fM : Addr} {odM anM : Option Addr} {slM : Array (Option Value)} {ocM kVM dcM pmM cdM ctM : Value}
    {fP : Addr} {odP anP : Option Addr} {slP : Array (Option Value)} {ocP kVP dcP pmP cdP ctP : Value}
    {fT : Addr} {odT anT : Option Addr} {slT : Array (Option Value)} {ocT kVT dcT pmT cdT ctT : Value}
    {fK : Addr} {odK anK : Option Addr} {slK : Array (Option Value)} {ocK kVK dcK pmK cdK ctK : Value}
    {fS : Addr} {odS anS : Option Addr} {slS : Array (Option Value)} {ocS kVS dcS pmS cdS ctS : Value}
    {fA : Addr} {odA anA : Option Addr} {slA : Array (Option Value)} {ocA kVA dcA pmA cdA ctA : Value}
    {fN : Addr} {odN anN : Option Addr} {slN : Array (Option Value)} {ocN kVN dcN pmN cdN ctN : Value}
    {fL : Addr} {odL anL : Option Addr} {slL : Array (Option Value)} {ocL kVL dcL pmL cdL ctL : Value}
    {fV : Addr} {odV anV : Option Addr} {slV : Array (Option Value)} {ocV kVV dcV pmV cdV ctV : Value}
    {fD : Addr} {odD anD : Option Addr} {slD : Array (Option Value)} {ocD kVD dcD pmD cdD ctD : Value}
    {fY : Addr} {odY anY : Option Addr} {slY : Array (Option Value)} {ocY kVY dcY pmY cdY ctY : Value}
    {fR : Addr} {odR anR : Option Addr} {slR : Array (Option Value)} {ocR kVR dcR pmR cdR ctR : Value}
    {fZ : Addr} {odZ anZ : Option Addr} {slZ : Array (Option Value)} {ocZ kVZ dcZ pmZ cdZ ctZ : Value}
    {Cno ino : Addr} {nmno qnno : Str} {Nno : Addr} {bsno : List Value} {snno : List Str} {sbno : List Value} {abno : Bool} {cono : Option Bool} {ddno : Option Addr} {m0no m1no m2no m3no m5no : Option Value} {odno anno : Option Addr} {slno : Array (Option Value)} {ocno kVno dcno pmno cdno ctno : Value}
    {Cnf : Addr}
    {Cnp : Addr}
    {Cnr : Addr}
    (aO : PySem.W.nsIn K mainGlobals "folk_of" = some (some (.ref fO))) (lO : K.lookup fO = some ⟨ocO, odO, .func (PySem.W.fnOf "folk_of" "folk_of" (defArgs sFolk) (defBody sFolk) (defScope sFolk) .none kVO dcO pmO anO cdO ctO), slO⟩) (cO : PySem.W.codeIn K cdO "folk_of" = true) (kO : PySem.W.keepIn K (.ref fO) = true)
    (aB : PySem.W.nsIn K mainGlobals "taller_ahead" = some (some (.ref fB))) (lB : K.lookup fB = some ⟨ocB, odB, .func (PySem.W.fnOf "taller_ahead" "taller_ahead" (defArgs sAhead) (defBody sAhead) (defScope sAhead) .none kVB dcB pmB anB cdB ctB), slB⟩) (cB : PySem.W.codeIn K cdB "taller_ahead" = true) (kB : PySem.W.keepIn K (.ref fB) = true)
    (aH : PySem.W.nsIn K mainGlobals "taller_behind" = some (some (.ref fH))) (lH : K.lookup fH = some ⟨ocH, odH, .func (PySem.W.fnOf "taller_behind" "taller_behind" (defArgs sBehind) (defBody sBehind) (defScope sBehind) .none kVH dcH pmH anH cdH ctH), slH⟩) (cH : PySem.W.codeIn K cdH "taller_behind" = true) (kH : PySem.W.keepIn K (.ref fH) = true)
    (aE : PySem.W.nsIn K mainGlobals "code_of" = some (some (.ref fE))) (lE : K.lookup fE = some ⟨ocE, odE, .func (PySem.W.fnOf "code_of" "code_of" (defArgs sCode) (defBody sCode) (defScope sCode) .none kVE dcE pmE anE cdE ctE), slE⟩) (cE : PySem.W.codeIn K cdE "code_of" = true) (kE : PySem.W.keepIn K (.ref fE) = true)
    (aW : PySem.W.nsIn K mainGlobals "row_of" = some (some (.ref fW))) (lW : K.lookup fW = some ⟨ocW, odW, .func (PySem.W.fnOf "row_of" "row_of" (defArgs sRowOf) (defBody sRowOf) (defScope sRowOf) .none kVW dcW pmW anW cdW ctW), slW⟩) (cW : PySem.W.codeIn K cdW "row_of" = true) (kW : PySem.W.keepIn K (.ref fW) = true)
    (aJ : PySem.W.nsIn K mainGlobals "place_of" = some (some (.ref fJ))) (lJ : K.lookup fJ = some ⟨ocJ, odJ, .func (PySem.W.fnOf "place_of" "place_of" (defArgs sPlace) (defBody sPlace) (defScope sPlace) .none kVJ dcJ pmJ anJ cdJ ctJ), slJ⟩) (cJ : PySem.W.codeIn K cdJ "place_of" = true) (kJ : PySem.W.keepIn K (.ref fJ) = true)
    (aM : PySem.W.nsIn K mainGlobals "taller_among" = some (some (.ref fM))) (lM : K.lookup fM = some ⟨ocM, odM, .func (PySem.W.fnOf "taller_among" "taller_among" (defArgs sAmong) (defBody sAmong) (defScope sAmong) .none kVM dcM pmM anM cdM ctM), slM⟩) (cM : PySem.W.codeIn K cdM "taller_among" = true) (kM : PySem.W.keepIn K (.ref fM) = true)
    (aP : PySem.W.nsIn K mainGlobals "_law_pot" = some (some (.ref fP))) (lP : K.lookup fP = some ⟨ocP, odP, .func (PySem.W.fnOf "_law_pot" "_law_pot" (defArgs sPot) (defBody sPot) (defScope sPot) .none kVP dcP pmP anP cdP ctP), slP⟩) (cP : PySem.W.codeIn K cdP "_law_pot" = true) (kP : PySem.W.keepIn K (.ref fP) = true)
    (aT : PySem.W.nsIn K mainGlobals "_law_take" = some (some (.ref fT))) (lT : K.lookup fT = some ⟨ocT, odT, .func (PySem.W.fnOf "_law_take" "_law_take" (defArgs sTake) (defBody sTake) (defScope sTake) .none kVT dcT pmT anT cdT ctT), slT⟩) (cT : PySem.W.codeIn K cdT "_law_take" = true) (kT : PySem.W.keepIn K (.ref fT) = true)
    (aK : PySem.W.nsIn K mainGlobals "_law_pick" = some (some (.ref fK))) (lK : K.lookup fK = some ⟨ocK, odK, .func (PySem.W.fnOf "_law_pick" "_law_pick" (defArgs sPick) (defBody sPick) (defScope sPick) .none kVK dcK pmK anK cdK ctK), slK⟩) (cK : PySem.W.codeIn K cdK "_law_pick" = true) (kK : PySem.W.keepIn K (.ref fK) = true)
    (aS : PySem.W.nsIn K mainGlobals "_law_same" = some (some (.ref fS))) (lS : K.lookup fS = some ⟨ocS, odS, .func (PySem.W.fnOf "_law_same" "_law_same" (defArgs sSame) (defBody sSame) (defScope sSame) .none kVS dcS pmS anS cdS ctS), slS⟩) (cS : PySem.W.codeIn K cdS "_law_same" = true) (kS : PySem.W.keepIn K (.ref fS) = true)
    (aA : PySem.W.nsIn K mainGlobals "_law_tall" = some (some (.ref fA))) (lA : K.lookup fA = some ⟨ocA, odA, .func (PySem.W.fnOf "_law_tall" "_law_tall" (defArgs sTall) (defBody sTall) (defScope sTall) .none kVA dcA pmA anA cdA ctA), slA⟩) (cA : PySem.W.codeIn K cdA "_law_tall" = true) (kA : PySem.W.keepIn K (.ref fA) = true)
    (aN : PySem.W.nsIn K mainGlobals "_law_strewn" = some (some (.ref fN))) (lN : K.lookup fN = some ⟨ocN, odN, .func (PySem.W.fnOf "_law_strewn" "_law_strewn" (defArgs sStrewn) (defBody sStrewn) (defScope sStrewn) .none kVN dcN pmN anN cdN ctN), slN⟩) (cN : PySem.W.codeIn K cdN "_law_strewn" = true) (kN : PySem.W.keepIn K (.ref fN) = true)
    (aL : PySem.W.nsIn K mainGlobals "_law_line" = some (some (.ref fL))) (lL : K.lookup fL = some ⟨ocL, odL, .func (PySem.W.fnOf "_law_line" "_law_line" (defArgs sLine) (defBody sLine) (defScope sLine) .none kVL dcL pmL anL cdL ctL), slL⟩) (cL : PySem.W.codeIn K cdL "_law_line" = true) (kL : PySem.W.keepIn K (.ref fL) = true)
    (aV : PySem.W.nsIn K mainGlobals "_law_front" = some (some (.ref fV))) (lV : K.lookup fV = some ⟨ocV, odV, .func (PySem.W.fnOf "_law_front" "_law_front" (defArgs sFront) (defBody sFront) (defScope sFront) .none kVV dcV pmV anV cdV ctV), slV⟩) (cV : PySem.W.codeIn K cdV "_law_front" = true) (kV : PySem.W.keepIn K (.ref fV) = true)
    (aD : PySem.W.nsIn K mainGlobals "_law_codes" = some (some (.ref fD))) (lD : K.lookup fD = some ⟨ocD, odD, .func (PySem.W.fnOf "_law_codes" "_law_codes" (defArgs sCodes) (defBody sCodes) (defScope sCodes) .none kVD dcD pmD anD cdD ctD), slD⟩) (cD : PySem.W.codeIn K cdD "_law_codes" = true) (kD : PySem.W.keepIn K (.ref fD) = true)
    (aY : PySem.W.nsIn K mainGlobals "_law_none" = some (some (.ref fY))) (lY : K.lookup fY = some ⟨ocY, odY, .func (PySem.W.fnOf "_law_none" "_law_none" (defArgs sNone) (defBody sNone) (defScope sNone) .none kVY dcY pmY anY cdY ctY), slY⟩) (cY : PySem.W.codeIn K cdY "_law_none" = true) (kY : PySem.W.keepIn K (.ref fY) = true)
    (aR : PySem.W.nsIn K mainGlobals "_law_right" = some (some (.ref fR))) (lR : K.lookup fR = some ⟨ocR, odR, .func (PySem.W.fnOf "_law_right" "_law_right" (defArgs sRight) (defBody sRight) (defScope sRight) .none kVR dcR pmR anR cdR ctR), slR⟩) (cR : PySem.W.codeIn K cdR "_law_right" = true) (kR : PySem.W.keepIn K (.ref fR) = true)
    (aZ : PySem.W.nsIn K mainGlobals "law" = some (some (.ref fZ))) (lZ : K.lookup fZ = some ⟨ocZ, odZ, .func (PySem.W.fnOf "law" "law" (defArgs sLaw) (defBody sLaw) (defScope sLaw) .none kVZ dcZ pmZ anZ cdZ ctZ), slZ⟩) (cZ : PySem.W.codeIn K cdZ "law" = true) (kZ : PySem.W.keepIn K (.ref fZ) = true)
    (ano : PySem.W.nsIn K mainGlobals "NoOne" = some (some (.ref Cno)))
    (xno : K.lookup Cno = some (excClassObj nmno qnno Cno Nno bsno [.type "LookupError", .type "Exception", .type "BaseException", .type "object"] true snno sbno abno cono ddno m0no m1no m2no m3no m5no "LookupError.__new__"))
    (sno : PySem.W.findIn K (.ref Cno) "__setattr__" = some (some (.builtin "object.__setattr__"))) (gno : PySem.W.findIn K (.ref Cno) "__getattribute__" = some (some (.builtin "BaseException.__getattribute__"))) (hno : PySem.W.findIn K (.ref Cno) "__getattr__" = some none) (nno : PySem.W.findIn K (.ref Cno) "who" = some none)
    (jno : PySem.W.findIn K (.ref Cno) "__init__" = some (some (.ref ino))) (tno : PySem.W.typeIn K (.ref ino) = some (.type "function"))
    (lno : K.lookup ino = some ⟨ocno, odno, .func (PySem.W.fnOf "__init__" "NoOne.__init__" (defArgs sIN) (defBody sIN) (defScope sIN) .none kVno dcno pmno anno cdno ctno), slno⟩) (cno : PySem.W.codeIn K cdno "NoOne.__init__" = true) (kno : PySem.W.keepIn K (.ref ino) = true)
    (yno : PySem.W.keepIn K (.ref Cno) = true) (eno : PySem.W.subIn K (.ref Cno) (.type "BaseException") = some true) (uno : PySem.W.typeIn K (.ref Cno) = some (.type "type")) (dno : PySem.W.hasDictIn K Cno = true) (vno : PySem.W.subIn K (.ref Cno) (.ref Cno) = some true)
    (wno : PySem.W.findIn K (.ref Cno) "__class__" = some (some (.builtin "object.__class__"))) (zno : PySem.W.mroIn K Cno (.type "object") = some true)
    (gsG : PySem.W.specialIn K (.builtin "object.__class__") "__get__" = some (some (.builtin "getset_descriptor.__get__"))) (gsT : PySem.W.takesIn K (.builtin "object.__class__") = some true)
    (anf : PySem.W.nsIn K mainGlobals "NoFloor" = some (some (.ref Cnf))) (enf : PySem.W.subIn K (.ref Cnf) (.type "BaseException") = some true) (unf : PySem.W.typeIn K (.ref Cnf) = some (.type "type")) (dnf : PySem.W.hasDictIn K Cnf = true)
    (anp : PySem.W.nsIn K mainGlobals "NoPlace" = some (some (.ref Cnp))) (enp : PySem.W.subIn K (.ref Cnp) (.type "BaseException") = some true) (unp : PySem.W.typeIn K (.ref Cnp) = some (.type "type")) (dnp : PySem.W.hasDictIn K Cnp = true)
    (anr : PySem.W.nsIn K mainGlobals "NoRow" = some (some (.ref Cnr))) (enr : PySem.W.subIn K (.ref Cnr) (.type "BaseException") = some true) (unr : PySem.W.typeIn K (.ref Cnr) = some (.type "type")) (dnr : PySem.W.hasDictIn K Cnr = true)
    (q0 : PySem.W.subIn K (.ref Cno) (.ref Cnf) = some false)
    (q1 : PySem.W.subIn K (.ref Cno) (.ref Cnp) = some false)
    (q2 : PySem.W.subIn K (.ref Cno) (.ref Cnr) = some false)
    (r0 : PySem.W.subIn K (.ref Cno) (.type "LookupError") = some true)
    (b_len : PySem.W.nsIn K mainGlobals "len" = some none)
    (b_abs : PySem.W.nsIn K mainGlobals "abs" = some none)
    (b_int : PySem.W.nsIn K mainGlobals "int" = some none)
    (b_bool : PySem.W.nsIn K mainGlobals "bool" = some none)
    (b_str : PySem.W.nsIn K mainGlobals "str" = some none)
    (b_list : PySem.W.nsIn K mainGlobals "list" = some none)
    (b_tuple : PySem.W.nsIn K mainGlobals "tuple" = some none)
    (b_range : PySem.W.nsIn K mainGlobals "range" = some none)
    (b_zip : PySem.W.nsIn K mainGlobals "zip" = some none)
    (b_all : PySem.W.nsIn K mainGlobals "all" = some none)
    (b_max : PySem.W.nsIn K mainGlobals "max" = some none)
    (b_min : PySem.W.nsIn K mainGlobals "min" = some none)
    (b_isinstance : PySem.W.nsIn K mainGlobals "isinstance" = some none)
    (b_LookupError : PySem.W.nsIn K mainGlobals "LookupError" = some none)
    (b_sorted : PySem.W.nsIn K mainGlobals "sorted" = some none) :
    ∃ fd : FuncData, (∀ (s : Shared) (v : Value), BindsTo s fd ⟨[v], []⟩ [("_law_script", v)]) ∧ ∀ base : Heap, K.In base → base.Ns mainGlobals mg → FnOk l.prog w K mg base CX0 7 fa fd ["_law_script"] (spLaw K) := by
  have e := hfa.symm.trans (PySem.W.mg_of X G aZ)
  cases e
  have FO := fun_mk (st := sFolk) lO cO kO
  have gO := PySem.W.mg_of X G aO
  have FB := fun_mk (st := sAhead) lB cB kB
  have gB := PySem.W.mg_of X G aB
  have FH := fun_mk (st := sBehind) lH cH kH
  have gH := PySem.W.mg_of X G aH
  have FE := fun_mk (st := sCode) lE cE kE
  have gE := PySem.W.mg_of X G aE
  have FW := fun_mk (st := sRowOf) lW cW kW
  have gW := PySem.W.mg_of X G aW
  have FJ := fun_mk (st := sPlace) lJ cJ kJ
  have gJ := PySem.W.mg_of X G aJ
  have FM := fun_mk (st := sAmong) lM cM kM
  have gM := PySem.W.mg_of X G aM
  have FP := fun_mk (st := sPot) lP cP kP
  have gP := PySem.W.mg_of X G aP
  have FT := fun_mk (st := sTake) lT cT kT
  have gT := PySem.W.mg_of X G aT
  have FK := fun_mk (st := sPick) lK cK kK
  have gK := PySem.W.mg_of X G aK
  have FS := fun_mk (st := sSame) lS cS kS
  have gS := PySem.W.mg_of X G aS
  have FA := fun_mk (st := sTall) lA cA kA
  have gA := PySem.W.mg_of X G aA
  have FN := fun_mk (st := sStrewn) lN cN kN
  have gN := PySem.W.mg_of X G aN
  have FL := fun_mk (st := sLine) lL cL kL
  have gL := PySem.W.mg_of X G aL
  have FV := fun_mk (st := sFront) lV cV kV
  have gV := PySem.W.mg_of X G aV
  have FD := fun_mk (st := sCodes) lD cD kD
  have gD := PySem.W.mg_of X G aD
  have FY := fun_mk (st := sNone) lY cY kY
  have gY := PySem.W.mg_of X G aY
  have FR := fun_mk (st := sRight) lR cR kR
  have gR := PySem.W.mg_of X G aR
  have FZ := fun_mk (st := sLaw) lZ cZ kZ
  have gZ := PySem.W.mg_of X G aZ
  have FIno := fun_mk (st := sIN) lno cno kno
  have Tno := erT_mk (f := "who") (PySem.W.mg_of X G ano) xno sno gno hno nno jno tno FIno yno eno uno dno vno wno zno gsG gsT bx_lookup
  have Tnf : ErK K mg "NoFloor" Cnf := ⟨PySem.W.mg_of X G anf, enf, dnf, unf⟩
  have Tnp : ErK K mg "NoPlace" Cnp := ⟨PySem.W.mg_of X G anp, enp, dnp, unp⟩
  have Tnr : ErK K mg "NoRow" Cnr := ⟨PySem.W.mg_of X G anr, enr, dnr, unr⟩
  have m_len := PySem.W.mg_none_of X G b_len
  have m_abs := PySem.W.mg_none_of X G b_abs
  have m_int := PySem.W.mg_none_of X G b_int
  have m_bool := PySem.W.mg_none_of X G b_bool
  have m_str := PySem.W.mg_none_of X G b_str
  have m_list := PySem.W.mg_none_of X G b_list
  have m_tuple := PySem.W.mg_none_of X G b_tuple
  have m_range := PySem.W.mg_none_of X G b_range
  have m_zip := PySem.W.mg_none_of X G b_zip
  have m_all := PySem.W.mg_none_of X G b_all
  have m_max := PySem.W.mg_none_of X G b_max
  have m_min := PySem.W.mg_none_of X G b_min
  have m_isinstance := PySem.W.mg_none_of X G b_isinstance
  have m_LookupError := PySem.W.mg_none_of X G b_LookupError
  have m_sorted := PySem.W.mg_none_of X G b_sorted
  have bT := FT.binds (ps := ["_law_pot_here", "_law_bound"]) fun _ _ _ _ _ _ us hl => match us, hl with | [_, _], _ => rfl
  have bK := FK.binds (ps := ["_law_pot_here", "_law_some"]) fun _ _ _ _ _ _ us hl => match us, hl with | [_, _], _ => rfl
  have bS := FS.binds (ps := ["_law_found", "_law_due"]) fun _ _ _ _ _ _ us hl => match us, hl with | [_, _], _ => rfl
  have bA := FA.binds (ps := ["_law_pot_here", "_law_count"]) fun _ _ _ _ _ _ us hl => match us, hl with | [_, _], _ => rfl
  have bN := FN.binds (ps := ["_law_pot_here", "_law_some"]) fun _ _ _ _ _ _ us hl => match us, hl with | [_, _], _ => rfl
  have bL := FL.binds (ps := ["_law_pot_here", "_law_count"]) fun _ _ _ _ _ _ us hl => match us, hl with | [_, _], _ => rfl
  have bO := FO.binds (ps := ["row"]) fun _ _ _ _ _ _ us hl => match us, hl with | [_], _ => rfl
  have bE := FE.binds (ps := ["row"]) fun _ _ _ _ _ _ us hl => match us, hl with | [_], _ => rfl
  have bW := FW.binds (ps := ["folk", "code"]) fun _ _ _ _ _ _ us hl => match us, hl with | [_, _], _ => rfl
  have bB := FB.binds (ps := ["row", "who"]) fun _ _ _ _ _ _ us hl => match us, hl with | [_, _], _ => rfl
  have bH := FH.binds (ps := ["row", "who"]) fun _ _ _ _ _ _ us hl => match us, hl with | [_, _], _ => rfl
  have bJ := FJ.binds (ps := ["row", "who"]) fun _ _ _ _ _ _ us hl => match us, hl with | [_, _], _ => rfl
  have bM := FM.binds (ps := ["folk", "who"]) fun _ _ _ _ _ _ us hl => match us, hl with | [_, _], _ => rfl
  have bV := FV.binds (ps := ["_law_line_here", "_law_soul"]) fun _ _ _ _ _ _ us hl => match us, hl with | [_, _], _ => rfl
  have bD := FD.binds (ps := ["_law_line_here"]) fun _ _ _ _ _ _ us hl => match us, hl with | [_], _ => rfl
  have bY := FY.binds (ps := ["_law_line_here", "_law_soul", "_law_behind"]) fun _ _ _ _ _ _ us hl => match us, hl with | [_, _, _], _ => rfl
  have bP := FP.binds (ps := ["_law_script", "_law_k"]) fun _ _ _ _ _ _ us hl => match us, hl with | [_, _], _ => rfl
  have bR := FR.binds (ps := ["_law_pot_here"]) fun _ _ _ _ _ _ us hl => match us, hl with | [_], _ => rfl
  have bI := FIno.binds (ps := ["self", "who"]) fun _ _ _ _ _ _ us hl => match us, hl with | [_, _], _ => rfl
  have wO := kb_one (a := "row") FO fun _ _ _ _ _ _ u => by rfl
  have wE := kb_one (a := "row") FE fun _ _ _ _ _ _ u => by rfl
  have wW := kb_flip (a := "folk") (b := "code") FW fun _ _ _ _ _ _ u v => by rfl
  have wB := kb_flip (a := "row") (b := "who") FB fun _ _ _ _ _ _ u v => by rfl
  have wH := kb_flip (a := "row") (b := "who") FH fun _ _ _ _ _ _ u v => by rfl
  have fin : ∀ base : Heap, FnOk l.prog w K mg base CX0 7 fa _ ["_law_script"] (spLaw K) := fun base => by
    have GS : FnOk l.prog w K mg base CX0 4 fS _ ["_law_found", "_law_due"] (spSame K 2) := ok_same FS bS gS m_len m_list m_tuple m_int m_bool m_str m_isinstance m_zip m_all 2
    have GB : FnOk l.prog w K mg base (L2.CX l.prog w) 4 fB _ ["row", "who"] (spAhead K Cno ahead) := ok_ahead (k := 0) FB FJ bJ gJ FM bM gM Tno bI m_len
    have GH : FnOk l.prog w K mg base (L2.CX l.prog w) 4 fH _ ["row", "who"] (spAhead K Cno behind) := ok_behind (k := 0) FH FJ bJ gJ FM bM gM Tno bI m_len
    have GR : FnOk l.prog w K mg base CX0 6 fR _ ["_law_pot_here"] spRight := ok_right (k := 0) FR FT bT gT (ok_take FT) FL bL gL (ok_line (k := 1) FL FT bT gT FK bK gK FA bA gA FN bN gN m_len m_list m_range m_tuple)
        FS bS gS (GS.mono (by decide)) FO bO wO gO (ok_folk FO m_tuple m_sorted) FE bE wE gE (ok_code (k := 0) FE FO bO gO (ok_folk FO m_tuple m_sorted) FB bB gB GB m_tuple) FW bW wW gW (ok_rowOf FW m_zip m_tuple)
        FB bB wB gB (GB.mono (by decide)) FH bH wH gH (GH.mono (by decide)) FV bV gV (ok_front FV m_int) FD bD gD (ok_codes (k := 3) FD FV bV gV m_int m_sorted)
        FY bY gY (ok_none (k := 0) FY FB bB gB GB FH bH gH GH FS bS gS GS Tno Tnf Tnp Tnr q0 q1 q2 r0 m_isinstance m_LookupError) m_int m_list m_tuple m_sorted m_all m_max m_min
    exact ok_law (k := 0) FZ FP bP gP (ok_pot FP m_len m_abs m_int) FR bR gR GR m_len m_range m_all m_max m_min
  exact ⟨PySem.W.fnOf "law" "law" (defArgs sLaw) (defBody sLaw) (defScope sLaw) .none kVZ dcZ pmZ anZ cdZ ctZ, fun s v => .of_eq rfl, fun base _ _ => fin base⟩
end Bal
open PySem PySem.W PyProof.Rows
set_option maxHeartbeats 0 in
theorem PySem.Challenge.cw_balconyrow_k02_codes_of_rows_holds : PySem.Challenge.rw_balconyrow_k02_codes_of_rows.Holds := by
  w_on; o_law; k_head; (case hw => w_witness2)
  k_fill
  refine L2.walk_of (l := PySem.Challenge.rw_balconyrow_k02_codes_of_rows) (n := 63) (k := 7) (x := "_law_script") (CX := fun _ => L2.CX0) (sp := fun w => Bal.spLaw _) rfl (by decide) rfl ⟨rfl, by decide, by decide⟩ (fun w h Y => PySem.W.kIn_of Y) ?F (fun _ _ a ns hl _ hS => ⟨a, ns, rfl, hS, hl, fun _ => rfl⟩) (fun _ _ _ _ _ h => h)
  case F =>
    intro w mg fa h KX G hmg
    refine' Bal.all_mk KX G hmg ?aO ?lO ?cO ?kO ?aB ?lB ?cB ?kB ?aH ?lH ?cH ?kH ?aE ?lE ?cE ?kE ?aW ?lW ?cW ?kW ?aJ ?lJ ?cJ ?kJ ?aM ?lM ?cM ?kM ?aP ?lP ?cP ?kP ?aT ?lT ?cT ?kT ?aK ?lK ?cK ?kK ?aS ?lS ?cS ?kS ?aA ?lA ?cA ?kA ?aN ?lN ?cN ?kN ?aL ?lL ?cL ?kL ?aV ?lV ?cV ?kV ?aD ?lD ?cD ?kD ?aY ?lY ?cY ?kY ?aR ?lR ?cR ?kR ?aZ ?lZ ?cZ ?kZ ?ano ?xno ?sno ?gno ?hno ?nno ?jno ?tno ?lno ?cno ?kno ?yno ?eno ?uno ?dno ?vno ?wno ?zno ?gsG ?gsT ?anf ?enf ?unf ?dnf ?anp ?enp ?unp ?dnp ?anr ?enr ?unr ?dnr ?q0 ?q1 ?q2 ?r0 ?b_len ?b_abs ?b_int ?b_bool ?b_str ?b_list ?b_tuple ?b_range ?b_zip ?b_all ?b_max ?b_min ?b_isinstance ?b_LookupError ?b_sorted
    (case aO => k_is); (case lO => k_is); (case cO => k_is); (case kO => k_is); (case aB => k_is); (case lB => k_is); (case cB => k_is); (case kB => k_is)
    (case aH => k_is); (case lH => k_is); (case cH => k_is); (case kH => k_is); (case aE => k_is); (case lE => k_is); (case cE => k_is); (case kE => k_is)
    (case aW => k_is); (case lW => k_is); (case cW => k_is); (case kW => k_is); (case aJ => k_is); (case lJ => k_is); (case cJ => k_is); (case kJ => k_is)
    (case aM => k_is); (case lM => k_is); (case cM => k_is); (case kM => k_is); (case aP => k_is); (case lP => k_is); (case cP => k_is); (case kP => k_is)
    (case aT => k_is); (case lT => k_is); (case cT => k_is); (case kT => k_is); (case aK => k_is); (case lK => k_is); (case cK => k_is); (case kK => k_is)
    (case aS => k_is); (case lS => k_is); (case cS => k_is); (case kS => k_is); (case aA => k_is); (case lA => k_is); (case cA => k_is); (case kA => k_is)
    (case aN => k_is); (case lN => k_is); (case cN => k_is); (case kN => k_is); (case aL => k_is); (case lL => k_is); (case cL => k_is); (case kL => k_is)
    (case aV => k_is); (case lV => k_is); (case cV => k_is); (case kV => k_is); (case aD => k_is); (case lD => k_is); (case cD => k_is); (case kD => k_is)
    (case aY => k_is); (case lY => k_is); (case cY => k_is); (case kY => k_is); (case aR => k_is); (case lR => k_is); (case cR => k_is); (case kR => k_is)
    (case aZ => k_is); (case lZ => k_is); (case cZ => k_is); (case kZ => k_is); (case ano => k_is); (case xno => k_is); (case sno => k_is); (case gno => k_is)
    (case hno => k_is); (case nno => k_is); (case jno => k_is); (case tno => k_is); (case lno => k_is); (case cno => k_is); (case kno => k_is); (case yno => k_is)
    (case eno => k_is); (case uno => k_is); (case dno => k_is); (case vno => k_is); (case wno => k_is); (case zno => k_is); (case gsG => k_is); (case gsT => k_is)
    (case anf => k_is); (case enf => k_is); (case unf => k_is); (case dnf => k_is); (case anp => k_is); (case enp => k_is); (case unp => k_is); (case dnp => k_is)
    (case anr => k_is); (case enr => k_is); (case unr => k_is); (case dnr => k_is); (case q0 => k_is); (case q1 => k_is); (case q2 => k_is); (case r0 => k_is)
    (case b_len => k_is); (case b_abs => k_is); (case b_int => k_is); (case b_bool => k_is); (case b_str => k_is); (case b_list => k_is); (case b_tuple => k_is); (case b_range => k_is)
    (case b_zip => k_is); (case b_all => k_is); (case b_max => k_is); (case b_min => k_is); (case b_isinstance => k_is); (case b_LookupError => k_is); (case b_sorted => k_is)
