import PyProof.Rows.All
import Wide.All
import OpenK.AllK
import Wide.FinOn
import HandS.ForMost
import HandS.ForExc
import HandS.Zip
import HandS.IsInst
import HandS.TupAny
import HandS.Style
import HandS.Flow
import HandS.Defaults
import HandS.ExcField
import HandS.ExcIs
import HandS.TryMany
import HandS.ExcInit
import HandS.ExcValue
import KE.KExcInit
import KE.KTryMore
import KE.KExcIs
import PySem.Challenge.RW_balconyrow_k03_rows_turned_and_exchanged
set_option Elab.async false
set_option linter.all false
set_option maxRecDepth 100000
set_option maxHeartbeats 4000000
namespace Bal
open PySem PySem.Spec PyProof.Rows L2
/-! ### heaps -/
theorem sm_upd {H : Hp} {p : Addr} {o : HO} (h : H p = none) : Same H (upd H p o) := fun b x e => by
  rw [upd_ne (ne_of_none e h)]
  exact e
/-- the draws' pot: three numbers, the last one at most c -/
def PotO (c : Nat) (o : HO) : Prop := ∃ x0 x1 x2 : Int, o = .lst [.int x0, .int x1, .int x2] ∧ 0 ≤ x0 ∧ 0 ≤ x1 ∧ x1 < 2147483648 ∧ 0 ≤ x2 ∧ x2 ≤ c
def Pot (H : Hp) (p : Addr) (c : Nat) : Prop := ∃ o, H p = some o ∧ PotO c o
/-- all that stood, but p, stands -/
def But (p : Addr) (H H' : Hp) : Prop := ∀ q o, q ≠ p → H q = some o → H' q = some o
theorem But.refl (p : Addr) (H : Hp) : But p H H := fun _ _ _ e => e
theorem But.trans {p : Addr} {H H1 H2 : Hp} (a : But p H H1) (b : But p H1 H2) : But p H H2 := fun q o n e => b q o n (a q o n e)
theorem But.same {p : Addr} {H H1 : Hp} (a : Same H H1) : But p H H1 := fun q o _ e => a q o e
theorem But.of_upd {p : Addr} {H : Hp} {o : HO} : But p H (upd H p o) := fun q o' n e => by rw [upd_ne n]; exact e
theorem But.sqL {K : PySem.W.Frag} {p a : Addr} {H H' : Hp} {xs : List V} (b : But p H H') (n : a ≠ p) (h : SqL K H a xs) : SqL K H' a xs := by
  rcases h with (h | ⟨o, h⟩) | h
  · exact .inl (.inl (b _ _ n h))
  · exact .inl (.inr ⟨o, b _ _ n h⟩)
  · exact .inr h
theorem But.sqT {K : PySem.W.Frag} {p a : Addr} {H H' : Hp} {xs : List V} (b : But p H H') (n : a ≠ p) (h : SqT K H a xs) : SqT K H' a xs := by
  rcases h with (h | ⟨o, h⟩) | h
  · exact .inl (.inl (b _ _ n h))
  · exact .inl (.inr ⟨o, b _ _ n h⟩)
  · exact .inr h
theorem Same.sqT {K : PySem.W.Frag} {a : Addr} {H H' : Hp} {xs : List V} (b : Same H H') (h : SqT K H a xs) : SqT K H' a xs := by
  rcases h with (h | ⟨o, h⟩) | h
  · exact .inl (.inl (b _ _ h))
  · exact .inl (.inr ⟨o, b _ _ h⟩)
  · exact .inr h
theorem Pot.mono {H : Hp} {p : Addr} {c d : Nat} (h : Pot H p c) (l : c ≤ d) : Pot H p d := by
  obtain ⟨o, e, x0, x1, x2, a, h0, h1, h2, h3, h4⟩ := h
  exact ⟨o, e, x0, x1, x2, a, h0, h1, h2, h3, by omega⟩
theorem Pot.same {H H' : Hp} {p : Addr} {c : Nat} (h : Pot H p c) (s : Same H H') : Pot H' p c := by
  obtain ⟨o, e, r⟩ := h
  exact ⟨o, s _ _ e, r⟩
theorem Pot.ne {H : Hp} {p q : Addr} {c : Nat} (h : Pot H p c) (n : H q = none) : q ≠ p := fun e => by
  obtain ⟨o, z, _⟩ := h
  rw [← e, n] at z
  cases z
theorem sqL_pot {K : PySem.W.Frag} {H : Hp} {a p : Addr} {xs : List V} {c : Nat} (h : Pot H p c) (n : xs.length ≠ 3) (ha : H a = some (.lst xs)) : a ≠ p := fun e => by
  obtain ⟨o, z, x0, x1, x2, r, _⟩ := h
  rw [← e, ha, r] at z
  have z := HO.lst.inj (Option.some.inj z)
  rw [z] at n
  exact n rfl
theorem But.none {p a : Addr} {H H' : Hp} (b : But p H H') (n : a ≠ p) (h : H' a = none) : H a = none := by
  cases e : H a with
  | none => rfl
  | some o =>
    rw [b a o n e] at h
    cases h
theorem But.put {p a : Addr} {H H' : Hp} {o : HO} (b : But p H H') (h : H a = Option.none) : But p H (upd H' a o) := fun q o' n e => by
  rw [upd_ne (ne_of_none e h)]
  exact b q o' n e
theorem But.putP {p : Addr} {H H' : Hp} {o : HO} (b : But p H H') : But p H (upd H' p o) := fun q o' n e => by
  rw [upd_ne n]
  exact b q o' n e
theorem Same.put {a : Addr} {H H' : Hp} {o : HO} (b : Same H H') (h : H a = Option.none) : Same H (upd H' a o) := fun q o' e => by
  rw [upd_ne (ne_of_none e h)]
  exact b q o' e
theorem Pot.upd {H : Hp} {p a : Addr} {c : Nat} {o : HO} (h : Pot H p c) (n : a ≠ p) : Pot (upd H a o) p c := by
  obtain ⟨o', e, r⟩ := h
  exact ⟨o', by rw [upd_ne (Ne.symm n)]; exact e, r⟩
theorem ixN_nat {n i : Nat} (h : i < n) : ixN n (i : Int) = some i := by
  unfold ixN
  rw [if_pos (by omega), if_pos (by omega)]
  simp
theorem sq_nat {n i : Nat} (h : i < n) : seqIndex? (i : Int) n = some i := (ixN_seq (ixN_nat h)).1
theorem map_erase {α β : Type} (f : α → β) : ∀ (l : List α) (i : Nat), (l.map f).eraseIdx i = (l.eraseIdx i).map f
  | [], _ => rfl
  | _ :: _, 0 => rfl
  | a :: l, i + 1 => by
    show f a :: (l.map f).eraseIdx i = f a :: (l.eraseIdx i).map f
    rw [map_erase f l i]
theorem len_ers {α : Type} : ∀ (l : List α) (i : Nat), i < l.length → (l.eraseIdx i).length + 1 = l.length
  | [], _, h => by simp at h
  | _ :: _, 0, _ => rfl
  | a :: l, i + 1, h => by
    show ((l.eraseIdx i).length + 1) + 1 = l.length + 1
    rw [len_ers l i (Nat.lt_of_succ_lt_succ h)]
theorem perm_ers {α : Type} : ∀ (l : List α) (i : Nat) (h : i < l.length), (l[i] :: l.eraseIdx i).Perm l
  | [], _, h => by simp at h
  | _ :: _, 0, _ => List.Perm.refl _
  | a :: l, i + 1, h => by
    show (l[i]'(Nat.lt_of_succ_lt_succ h) :: a :: l.eraseIdx i).Perm (a :: l)
    exact (List.Perm.swap _ _ _).trans ((perm_ers l i (Nat.lt_of_succ_lt_succ h)).cons a)
theorem fmod_lt {a b : Int} (h : 0 < b) : 0 ≤ a % b ∧ a % b < b := ⟨Int.emod_nonneg _ (by omega), Int.emod_lt_of_pos _ h⟩
theorem q_eq {Q : VK} {v v' : V} {H : Hp} (e : v = v') (h : Q v' H) : Q v H := e ▸ h
theorem one_bd (b : Bool) : -(2 ^ 64) < (if b = true then (1 : Int) else 0) ∧ (if b = true then (1 : Int) else 0) < 2 ^ 64 := by cases b <;> exact ⟨by decide, by decide⟩
theorem one_nn (b : Bool) : 0 ≤ (if b = true then (1 : Int) else 0) := by cases b <;> decide
theorem abs_nn (c : Int) : 0 ≤ (if c < 0 then -c else c) := by split <;> omega
/-! ### comprehensions over anything -/
theorem lc_gen {J : It} {n : Nat} {g : TG} {tt : TT} {te : TE} {vs : List Nat} {σ : L2.St} {H1 : Hp} {D : Addr} {Qd : Hp → Prop} (Pv : Nat → Hp → Prop) (h0 : Pv 0 (upd H1 D (.lst [])))
    (hgo : ∀ i H, i < n → Pv i H → J.go i H) (hst : ∀ H, Pv n H → J.stop n H)
    (hs : ∀ i H x H', i < n → Pv i H → J.yld i H x H' → g x (wipe σ vs) H' fun σ2 H2 => wipe σ2 vs = wipe σ vs ∧ tt σ2 H2 fun b H3 =>
      if b = true then te σ2 H3 fun y H4 => ∃ acc, H4 D = some (.lst acc) ∧ acc.length < sizeLine ∧ Pv (i + 1) (upd H4 D (.lst (acc ++ [y]))) else Pv (i + 1) H3) (hd : ∀ H, Pv n H → Qd H) :
    ∃ W : Nat → Nat → Hp → Prop, (∃ m, W 0 m (upd H1 D (.lst []))) ∧ ∀ i m H, W i m H →
      (J.stop i H ∧ Qd H) ∨ (J.go i H ∧ ∃ Nx : Hp → Prop, (∀ H', Nx H' → ∃ m', m' < m ∧ W (i + 1) m' H') ∧ ∀ x H', J.yld i H x H' → g x (wipe σ vs) H' fun σ2 H2 => wipe σ2 vs = wipe σ vs ∧ tt σ2 H2 fun b H3 =>
        if b = true then te σ2 H3 fun y H4 => ∃ acc, H4 D = some (.lst acc) ∧ acc.length < sizeLine ∧ Nx (upd H4 D (.lst (acc ++ [y]))) else Nx H3) := by
  refine ⟨fun i m H => m = n - i ∧ i ≤ n ∧ Pv i H, ⟨n, by simp, Nat.zero_le _, h0⟩, ?_⟩
  rintro i m H ⟨rfl, hi, p⟩
  by_cases hlt : i < n
  · exact .inr ⟨hgo i H hlt p, Pv (i + 1), fun H' p' => ⟨n - (i + 1), by omega, rfl, hlt, p'⟩, fun x H' y => hs i H x H' hlt p y⟩
  · have e : i = n := by omega
    subst e
    exact .inl ⟨hst H p, hd H p⟩
/-! ### data -/
theorem dps_ints {K : PySem.W.Frag} {H : Hp} : ∀ ns : List Int, DpAll K H (ns.map V.int) (ns.map PyData.int)
  | [] => .nil
  | n :: ns => .cons (.int n) (dps_ints ns)
theorem lay_ints : ∀ ns : List Int, PyData.canLayAll0 (ns.map PyData.int) = true
  | [] => rfl
  | n :: ns => by
    show (PyData.canLay0 (.int n) && PyData.canLayAll0 (ns.map PyData.int)) = true
    rw [lay_ints ns]
    rfl
theorem dep_ints : ∀ ns : List Int, PyData.depthAll (ns.map PyData.int) = 0
  | [] => rfl
  | n :: ns => by
    show max 0 (PyData.depthAll (ns.map PyData.int)) = 0
    rw [dep_ints ns]
    rfl
theorem shp_lst (ns : List Int) : SeqAt.shaped (.list (ns.map PyData.int)) = true := by
  unfold SeqAt.shaped
  show (PyData.canLayAll0 (ns.map PyData.int) && decide (PyData.depthAll (ns.map PyData.int) + 1 ≤ 64)) = true
  rw [lay_ints, dep_ints]
  rfl
theorem shp_tup (ns : List Int) : SeqAt.shaped (.tuple (ns.map PyData.int)) = true := by
  unfold SeqAt.shaped
  show (PyData.canLayAll0 (ns.map PyData.int) && decide (PyData.depthAll (ns.map PyData.int) + 1 ≤ 64)) = true
  rw [lay_ints, dep_ints]
  rfl
theorem eqv_ints : ∀ ns ms : List Int, PyData.eqvAll (ns.map PyData.int) (ms.map PyData.int) = decide (ns = ms)
  | [], [] => rfl
  | [], m :: ms => rfl
  | n :: ns, [] => rfl
  | n :: ns, m :: ms => by
    show (PyData.eqv (.int n) (.int m) && PyData.eqvAll (ns.map PyData.int) (ms.map PyData.int)) = _
    rw [eqv_ints ns ms]
    show ((n == m) && decide (ns = ms)) = decide (n :: ns = m :: ms)
    by_cases h : n = m
    · subst h
      simp
    · simp [h]
theorem eqv_lst (ns ms : List Int) : PyData.eqv (.list (ns.map PyData.int)) (.list (ms.map PyData.int)) = decide (ns = ms) := eqv_ints ns ms
theorem eqv_tup (ns ms : List Int) : PyData.eqv (.tuple (ns.map PyData.int)) (.tuple (ms.map PyData.int)) = decide (ns = ms) := eqv_ints ns ms
def kD : PyData → String
  | .none => "NoneType" | .bool _ => "bool" | .int _ => "int" | .str _ => "str" | .list _ => "list" | .tuple _ => "tuple" | .dict _ => "dict"
theorem ty_lst {K : PySem.W.Frag} {H : Hp} {a : Addr} {xs : List V} (h : SqL K H a xs) : TyX K H (.ref a) (.type "list") := by
  rcases h with (h | ⟨o, h⟩) | ⟨o, its, n, h, c, _⟩
  · exact .base (.lst h)
  · exact .base (.frz h)
  · exact .kList h c
theorem ty_tup {K : PySem.W.Frag} {H : Hp} {a : Addr} {xs : List V} (h : SqT K H a xs) : TyX K H (.ref a) (.type "tuple") := by
  rcases h with (h | ⟨o, h⟩) | ⟨o, its, n, h, c, _⟩
  · exact .base (.tup h)
  · exact .fTuple h
  · exact .kTuple h c
theorem dp_ty {K : PySem.W.Frag} {H : Hp} {x : V} {d : PyData} (h : Dp K H x d) : TyX K H x (.type (kD d)) := by
  cases h with
  | non => exact .base .non
  | bl b => exact .base (.bl b)
  | int i => exact .base (.int i)
  | str x => exact .base (.str x)
  | lst h _ => exact ty_lst h
  | tup h _ => exact ty_tup h
mutual
/-- no list or tuple within is longer than 100000 -/
def smallD : PyData → Bool
  | .list xs => decide (xs.length ≤ 100000) && smallA xs
  | .tuple xs => decide (xs.length ≤ 100000) && smallA xs
  | _ => true
def smallA : List PyData → Bool
  | [] => true
  | x :: xs => smallD x && smallA xs
end
theorem small_get : ∀ {ds : List PyData} {i : Nat} {d : PyData}, smallA ds = true → ds[i]? = some d → smallD d = true
  | [], i, d, _, h => by simp at h
  | a :: r, 0, d, s, h => by
    have e := Option.some.inj h
    subst e
    exact (Bool.and_eq_true_iff.mp s).1
  | a :: r, i + 1, d, s, h => small_get (ds := r) (i := i) (Bool.and_eq_true_iff.mp s).2 h
theorem small_ints : ∀ ns : List Int, smallA (ns.map PyData.int) = true
  | [] => rfl
  | n :: ns => by
    show (true && smallA (ns.map PyData.int)) = true
    rw [small_ints ns]
    rfl
theorem line_lt {n : Nat} (h : n ≤ 100000) : n < sizeLine := Nat.lt_of_le_of_lt h (by decide)
theorem iteD {c A B : Prop} [Decidable c] (hc : c) (h : A) : if decide c = true then A else B := by
  rw [if_pos (decide_eq_true hc)]
  exact h
theorem cls2 {a b : String} : Paired ClsV [.ty a, .ty b] [.type a, .type b] := .cons (.ty _) (.cons (.ty _) .nil)
theorem kA_no {K : PySem.W.Frag} {a : String} (h1 : kitB a "list" = some false) (h2 : kitB a "tuple" = some false) : PySem.W.kitAny K (.type a) [.type "list", .type "tuple"] = some false :=
  kitAny_cons (b := false) (kit_ty h1) (fun _ => kitAny_cons (b := false) (kit_ty h2) (fun _ => rfl) (fun z => Bool.noConfusion z)) (fun z => Bool.noConfusion z)
theorem kA_lst {K : PySem.W.Frag} : PySem.W.kitAny K (.type "list") [.type "list", .type "tuple"] = some true :=
  kitAny_cons (b := true) (kit_ty (by decide +kernel)) (fun z => Bool.noConfusion z) (fun _ => rfl)
theorem kA_tup {K : PySem.W.Frag} : PySem.W.kitAny K (.type "tuple") [.type "list", .type "tuple"] = some true :=
  kitAny_cons (b := false) (kit_ty (by decide +kernel)) (fun _ => kitAny_cons (b := true) (kit_ty (by decide +kernel)) (fun z => Bool.noConfusion z) (fun _ => rfl)) (fun z => Bool.noConfusion z)
theorem rep_add {α : Type} (x : α) : ∀ i : Nat, List.replicate (i + 1) x = List.replicate i x ++ [x]
  | 0 => rfl
  | i + 1 => by
    show x :: List.replicate (i + 1) x = x :: (List.replicate i x ++ [x])
    rw [rep_add x i]
theorem all_rep : ∀ n : Nat, (List.replicate n true).all id = true
  | 0 => rfl
  | n + 1 => by
    show (id true && (List.replicate n true).all id) = true
    rw [all_rep n]
    rfl
mutual
theorem dp_same {K : PySem.W.Frag} {H H' : Hp} (s : Same H H') : ∀ {d : PyData} {x : V}, Dp K H x d → Dp K H' x d
  | _, _, .non => .non
  | _, _, .bl b => .bl b
  | _, _, .int b => .int b
  | _, _, .str b => .str b
  | _, _, .lst h a => .lst (s.seq h) (dps_same s a)
  | _, _, .tup h a => .tup (Same.sqT s h) (dps_same s a)
theorem dps_same {K : PySem.W.Frag} {H H' : Hp} (s : Same H H') : ∀ {ds : List PyData} {xs : List V}, DpAll K H xs ds → DpAll K H' xs ds
  | _, _, .nil => .nil
  | _, _, .cons a b => .cons (dp_same s a) (dps_same s b)
end
theorem dps_len {K : PySem.W.Frag} {H : Hp} : ∀ {ds : List PyData} {xs : List V}, DpAll K H xs ds → xs.length = ds.length
  | _, _, .nil => rfl
  | _, _, .cons _ b => by rw [List.length_cons, List.length_cons, dps_len b]
theorem dps_get {K : PySem.W.Frag} {H : Hp} : ∀ {ds : List PyData} {xs : List V} {i : Nat} {x : V}, DpAll K H xs ds → xs[i]? = some x → ∃ d, ds[i]? = some d ∧ Dp K H x d
  | _, _, i, x, .nil, h => by simp at h
  | _, _, 0, x, .cons a _, h => by
    have e := Option.some.inj h
    subst e
    exact ⟨_, rfl, a⟩
  | _, _, i + 1, x, .cons _ b, h => dps_get (i := i) b h
theorem dep_get : ∀ {ds : List PyData} {i : Nat} {d : PyData}, ds[i]? = some d → d.depth ≤ PyData.depthAll ds
  | [], i, d, h => by simp at h
  | a :: r, 0, d, h => by
    have e := Option.some.inj h
    subst e
    exact Nat.le_max_left _ _
  | a :: r, i + 1, d, h => Nat.le_trans (dep_get (ds := r) (i := i) h) (Nat.le_max_right _ _)
end Bal

namespace Bal
open PySem PySem.Spec PyProof.Rows L2
def topS (i : Nat) : Stmt := PySem.Challenge.pw_balconyrow_k03_rows_turned_and_exchanged.main.body.getD i (.Pass ⟨0, 0, 0, 0⟩)
abbrev sPot : Stmt := topS 8
abbrev sTake : Stmt := topS 9
abbrev sPick : Stmt := topS 10
theorem scPot : FnScope ["_law_script", "_law_k", "_law_cell"] ["_law_script", "_law_k"] (defScope sPot) := ⟨rfl, rfl, rfl, by decide +kernel, rfl, by decide +kernel, by decide +kernel⟩
theorem scTake : FnScope ["_law_pot_here", "_law_bound", "_law_found", "_law_once"] ["_law_pot_here", "_law_bound"] (defScope sTake) := ⟨rfl, rfl, rfl, by decide +kernel, rfl, by decide +kernel, by decide +kernel⟩
theorem scPick : FnScope ["_law_pot_here", "_law_some"] ["_law_pot_here", "_law_some"] (defScope sPick) := ⟨rfl, rfl, rfl, by decide +kernel, rfl, by decide +kernel, by decide +kernel⟩
abbrev sSame : Stmt := topS 11
abbrev sTall : Stmt := topS 12
abbrev sStrewn : Stmt := topS 13
abbrev sLine : Stmt := topS 14
theorem scSame : FnScope ["_law_found", "_law_due", "_law_lone", "_law_mate"] ["_law_found", "_law_due"] (defScope sSame) := ⟨rfl, rfl, rfl, by decide +kernel, rfl, by decide +kernel, by decide +kernel⟩
theorem scTall : FnScope ["_law_pot_here", "_law_count", "_law_gap", "_law_level", "_law_found", "_law_k"] ["_law_pot_here", "_law_count"] (defScope sTall) := ⟨rfl, rfl, rfl, by decide +kernel, rfl, by decide +kernel, by decide +kernel⟩
theorem scStrewn : FnScope ["_law_pot_here", "_law_some", "_law_rest", "_law_found"] ["_law_pot_here", "_law_some"] (defScope sStrewn) := ⟨rfl, rfl, rfl, by decide +kernel, rfl, by decide +kernel, by decide +kernel⟩
theorem scLine : FnScope ["_law_pot_here", "_law_count"] ["_law_pot_here", "_law_count"] (defScope sLine) := ⟨rfl, rfl, rfl, by decide +kernel, rfl, by decide +kernel, by decide +kernel⟩
section
variable {P : Program} {w : World} {K : PySem.W.Frag} {mg : Str → Option Value} {base : Heap}
/-! ### _law_pot -/
def spPot (K : PySem.W.Frag) : Sp := fun vs H Q _ => ∃ (a : Addr) (ns : List Int) (k : Nat), vs = [.ref a, .int k] ∧ SqL K H a (ns.map V.int) ∧ k ≤ 1000 ∧
  ∀ p o, H p = none → PotO 0 o → Q (.ref p) (upd H p o)
theorem pot_ok (x x1 : Int) (h : 0 ≤ x) : PotO 0 (.lst [.int x, .int (x1 % 2147483399), .int 0]) :=
  ⟨_, _, _, rfl, h, (fmod_lt (by omega)).1, by have := (fmod_lt (a := x1) (b := 2147483399) (by omega)).2; omega, by omega, by omega⟩
theorem ok_pot {f : Addr} {fd : FuncData} {k : Nat} (F : Fun K "_law_pot" "_law_pot" sPot f fd) (ml : mg "len" = none) (ma : mg "abs" = none) (mi : mg "int" = none) : FnOk P w K mg base CX0 (k + 1) f fd ["_law_script", "_law_k"] (spPot K) := by
  refine F.ok scPot (fun vs H Q E h => ?_) (fun cdv A outer s H vs Q E hr h => ?_)
  · obtain ⟨a, ns, k, rfl, _⟩ := h
    rfl
  · obtain ⟨a, ns, k, rfl, hS, hk, q⟩ := h
    refine ⟨_, pss_cons (ps_set (i := 2) scPot.nd rfl (.inl rfl) pe_int)
      (pss_cons (ps_if (pt_cmpR op_lt (pv 1) (pe_callB call_len_seq (by rfl) ml PySem.boot_len (pa_cons (pv 0) pa_nil)) (nomark _))
        (pss_one (ps_set (i := 2) scPot.nd rfl (.inl rfl) (pe_ix ix_list (pv 0) (pv 1) (fun _ _ => rfl)))) pss_nil)
      (pss_one (ps_ret (pe_lst (pa_cons (pe_op op_mul (pe_callB call_abs (by rfl) ma (by decide +kernel) (pa_cons (pv 2) pa_nil))
          (pe_callTy call_int1 (by rfl) mi (by decide +kernel) (pa_cons (pe_cmpR op_ge (pe_callB call_abs (by rfl) ma (by decide +kernel) (pa_cons (pv 2) pa_nil)) (pe_op op_pow pe_int pe_int) (nomark _)) pa_nil)))
        (pa_cons (pe_op op_mod (pe_op op_mul (pe_op op_add (pe_op op_add (pe_op op_mod (pv 2) pe_int) (pe_op op_mul pe_int (pv 1))) pe_int) pe_int) pe_int)
        (pa_cons pe_int pa_nil))))))), ?_⟩
    refine ⟨.int k, rfl, .ref a, rfl, a, _, rfl, .inl hS, _, _, rfl, rfl, _, rfl, ite2 (fun e => ?a) (fun e => ?b)⟩
    case' a =>
      have e := of_decide_eq_true e
      rw [List.length_map] at e
      have hk' : k < ns.length := by omega
      refine ⟨.ref a, rfl, .int k, rfl, a, _, k, .int ns[k], rfl, rfl, hS, atI_nat (by rw [List.getElem?_map, List.getElem?_eq_getElem hk']; rfl), ?_⟩
    all_goals
      refine ⟨_, rfl, _, rfl, _, rfl, _, rfl, 10, 18, rfl, rfl, ⟨by decide, by decide, by decide⟩, _, _, rfl, rfl, .inr ⟨_, rfl, _, _, rfl, rfl, .inr (one_bd _), ?_⟩⟩
      refine ⟨_, rfl, _, _, rfl, rfl, (by show (0 : Int) < 2147483587; decide), .int k, rfl, _, _, rfl, rfl, .inl ⟨by decide, by decide⟩, _, _, rfl, rfl, _, _, rfl, rfl, _, _, rfl, rfl, .inr ⟨by decide, by decide⟩, _, _, rfl, rfl, (by show (0 : Int) < 2147483399; decide), ?_⟩
      exact ⟨by show 3 ≤ sizeLine; decide, fun p np => q p _ np (pot_ok _ _ (Int.mul_nonneg (abs_nn _) (one_nn _)))⟩
/-! ### _law_take -/
def spTake : Sp := fun vs H Q _ => ∃ (p : Addr) (b : Int) (c : Nat), vs = [.ref p, .int b] ∧ Pot H p c ∧ c ≤ 1000000 ∧ 0 < b ∧ b ≤ 10000000 ∧
  ∀ (r : Nat) (o : HO), (r : Int) < b → PotO (c + 1) o → Q (.int r) (upd H p o)
theorem ok_take {f : Addr} {fd : FuncData} {k : Nat} (F : Fun K "_law_take" "_law_take" sTake f fd) : FnOk P w K mg base CX0 (k + 1) f fd ["_law_pot_here", "_law_bound"] spTake := by
  refine F.ok scTake (fun vs H Q E h => ?_) (fun cdv A outer s H vs Q E hr h => ?_)
  · obtain ⟨a, b, k, rfl, _⟩ := h
    rfl
  · obtain ⟨p, b, c, rfl, ⟨o, hp, x0, x1, x2, rfl, h0, h1, h1', h2, h2'⟩, hc, hb, hb', q⟩ := h
    have nn : ∀ z : Int, ∃ r : Nat, z % b = r ∧ (r : Int) < b := fun z => ⟨(z % b).toNat, by have := (fmod_lt (a := z) hb).1; omega, by have := fmod_lt (a := z) hb; omega⟩
    refine ⟨_, pss_cons (ps_if (pt_cmpR op_gt (pe_ix ix_list (pv 0) pe_int (fun _ _ => rfl)) pe_int (nomark _))
        (pss_cons (ps_set (i := 2) scTake.nd rfl (.inl rfl) (pe_op op_mod (pe_ix ix_list (pv 0) pe_int (fun _ _ => rfl)) (pv 1)))
        (pss_cons (ps_asg (pe_op op_fdivN (pe_ix ix_list (pv 0) pe_int (fun _ _ => rfl)) (pv 1)) (pg_sub (pv 0) pe_int set_list))
        (pss_one (ps_ret (pv 2))))) pss_nil)
      (pss_cons (ps_if (pt_cmpR op_gt (pv 1) (pe_op op_pow pe_int pe_int) (nomark _)) (pss_one ps_never) pss_nil)
      (pss_cons (ps_asg (pe_op op_add (pe_ix ix_list (pv 0) pe_int (fun _ _ => rfl)) pe_int) (pg_sub (pv 0) pe_int set_list))
      (pss_cons (ps_set (i := 3) scTake.nd rfl (.inl rfl) (pe_op op_mod (pe_op op_pow (pe_op op_add (pe_ix ix_list (pv 0) pe_int (fun _ _ => rfl)) (pe_op op_mul pe_int (pe_ix ix_list (pv 0) pe_int (fun _ _ => rfl)))) pe_int) pe_int))
      (pss_one (ps_ret (pe_op op_mod (pe_op op_fdiv (pe_op op_mod (pe_op op_add (pe_op op_mul (pv 3) (pe_op op_add (pe_op op_mod (pv 3) pe_int) pe_int)) (pe_op op_mul (pe_ix ix_list (pv 0) pe_int (fun _ _ => rfl)) pe_int)) pe_int) pe_int) (pv 1))))))), ?_⟩
    have gp : SqL K H p [.int x0, .int x1, .int x2] := .inl (.inl hp)
    refine ⟨.ref p, rfl, p, _, 0, .int x0, rfl, rfl, gp, atI_nat (j := 0) rfl, _, _, rfl, rfl, _, rfl, ite2 (fun e => ?_) (fun e => ?_)⟩
    · -- out of the great number
      refine ⟨.ref p, rfl, p, _, 0, .int x0, rfl, rfl, gp, atI_nat (j := 0) rfl, .int b, rfl, _, _, rfl, rfl, hb, ?_⟩
      refine ⟨.ref p, rfl, p, _, 0, .int x0, rfl, rfl, gp, atI_nat (j := 0) rfl, .int b, rfl, _, _, rfl, rfl, ⟨by omega, by omega⟩, ?_⟩
      refine ⟨.ref p, rfl, p, _, 0, 0, rfl, rfl, hp, rfl, ?_⟩
      refine ⟨_, rfl, ?_⟩
      obtain ⟨r, er, lr⟩ := nn x0
      refine q_eq (congrArg V.int er) (q r _ lr ⟨_, _, _, rfl, ?_, h1, h1', h2, by omega⟩)
      rw [Int.fdiv_eq_ediv_of_nonneg _ (by omega)]
      exact Int.ediv_nonneg h0 (by omega)
    · refine ⟨.int b, rfl, 10, 7, rfl, rfl, ⟨by decide, by decide, by decide⟩, _, _, rfl, rfl, _, rfl, ite2 (fun e => ?_) (fun e => ?_)⟩
      · have e := of_decide_eq_true e
        have z : (10 : Int) ^ (7 : Int).toNat = 10000000 := by decide
        rw [z] at e
        omega
      · refine ⟨.ref p, rfl, p, _, 2, .int x2, rfl, rfl, gp, atI_nat (j := 2) rfl, _, _, rfl, rfl, ?_⟩
        refine ⟨.ref p, rfl, p, _, 2, 2, rfl, rfl, hp, rfl, ?_⟩
        have hp2 : (upd H p (.lst ([V.int x0, .int x1, .int x2].set 2 (.int (x2 + 1))))) p = some (.lst [.int x0, .int x1, .int (x2 + 1)]) := upd_same
        have gp2 : SqL K (upd H p (.lst ([V.int x0, .int x1, .int x2].set 2 (.int (x2 + 1))))) p [.int x0, .int x1, .int (x2 + 1)] := .inl (.inl hp2)
        refine ⟨.ref p, rfl, p, _, 1, .int x1, rfl, rfl, gp2, atI_nat (j := 1) rfl, .ref p, rfl, p, _, 2, .int (x2 + 1), rfl, rfl, gp2, atI_nat (j := 2) rfl, _, _, rfl, rfl, .inl ⟨by decide, by decide⟩, _, _, rfl, rfl, _, _, rfl, rfl, ⟨by decide, by decide, ?_⟩, _, _, rfl, rfl, (by show (0 : Int) < 2147483563; decide), ?_⟩
        · omega
        · have hz : ∀ z : Int, -(2 ^ 64) < z % 2147483563 ∧ z % 2147483563 < 2 ^ 64 := fun z => ⟨Int.lt_of_lt_of_le (by decide) (fmod_lt (by decide)).1, Int.lt_trans (fmod_lt (by decide)).2 (by decide)⟩
          refine ⟨_, rfl, _, rfl, _, _, rfl, rfl, (by show (0 : Int) < 40013; decide), _, _, rfl, rfl, _, _, rfl, rfl, .inl (hz _), .ref p, rfl, p, _, 2, .int (x2 + 1), rfl, rfl, gp2, atI_nat (j := 2) rfl, _, _, rfl, rfl, .inr ⟨by decide, by decide⟩, _, _, rfl, rfl, _, _, rfl, rfl, (by show (0 : Int) < 2147483647; decide), _, _, rfl, rfl, ⟨by decide, by decide⟩, .int b, rfl, _, _, rfl, rfl, hb, ?_⟩
          obtain ⟨r, er, lr⟩ := nn (((x1 + 52774 * (x2 + 1)) ^ (3 : Int).toNat % 2147483563 * ((x1 + 52774 * (x2 + 1)) ^ (3 : Int).toNat % 2147483563 % 40013 + 11) + (x2 + 1) * 6089) % 2147483647 / 32)
          exact q_eq (congrArg V.int er) (q r _ lr ⟨_, _, _, rfl, h0, h1, h1', by omega, by omega⟩)
/-! ### _law_pick -/
def spPick (K : PySem.W.Frag) : Sp := fun vs H Q _ => ∃ (p a : Addr) (xs : List V) (c : Nat), vs = [.ref p, .ref a] ∧ Pot H p c ∧ c ≤ 1000000 ∧ SqL K H a xs ∧ a ≠ p ∧ 0 < xs.length ∧ xs.length ≤ 10000000 ∧
  ∀ (v : V) (o : HO), v ∈ xs → PotO (c + 1) o → Q v (upd H p o)
theorem ok_pick {f fT : Addr} {fd fdT : FuncData} {k : Nat} (F : Fun K "_law_pick" "_law_pick" sPick f fd) (FT : Fun K "_law_take" "_law_take" sTake fT fdT) (bT : Binds K fdT ["_law_pot_here", "_law_bound"] []) (gT : mg "_law_take" = some (.ref fT)) (ml : mg "len" = none) :
    FnOk P w K mg base CX0 (k + 2) f fd ["_law_pot_here", "_law_some"] (spPick K) := by
  have GT : FnOk P w K mg base CX0 (k + 1) fT fdT ["_law_pot_here", "_law_bound"] spTake := ok_take FT
  refine F.ok scPick (fun vs H Q E h => ?_) (fun cdv A outer s H vs Q E hr h => ?_)
  · obtain ⟨p, a, xs, c, rfl, _⟩ := h
    rfl
  · obtain ⟨p, a, xs, c, rfl, hP, hc, hS, na, l0, l1, q⟩ := h
    refine ⟨_, pss_one (ps_ret (pe_ix ix_list (pv 1) (pe_call GT hr (by rfl) gT FT.kp bT .nil pass0 (pa_cons (pv 0) (pa_cons (pe_callB call_len_seq (by rfl) ml PySem.boot_len (pa_cons (pv 1) pa_nil)) pa_nil))) (fun _ _ => rfl))), ?_⟩
    refine ⟨.ref a, rfl, .ref p, rfl, .ref a, rfl, a, xs, rfl, .inl hS, p, xs.length, c, rfl, hP, hc, by omega, by omega, fun r o lr ho => ?_⟩
    have lr' : r < xs.length := by omega
    exact ⟨a, xs, r, xs[r], rfl, rfl, But.of_upd.sqL na hS, atI_nat (List.getElem?_eq_getElem lr'), q _ o (List.getElem_mem lr') ho⟩
/-! ### _law_same -/
def spSame (K : PySem.W.Frag) (n : Nat) : Sp := fun vs H Q _ => ∃ (x y : V) (d : PyData), vs = [x, y] ∧ Dp K H x d ∧ Dp K H y d ∧ d.depth ≤ n ∧ smallD d = true ∧ ∀ H', Same H H' → Q (.bl true) H'
theorem same_step {f : Addr} {fd : FuncData} (F : Fun K "_law_same" "_law_same" sSame f fd) (bS : Binds K fd ["_law_found", "_law_due"] []) (gS : mg "_law_same" = some (.ref f))
    (ml : mg "len" = none) (mli : mg "list" = none) (mt : mg "tuple" = none) (mi : mg "int" = none) (mb : mg "bool" = none) (ms : mg "str" = none) (mis : mg "isinstance" = none) (mz : mg "zip" = none) (ma : mg "all" = none)
    {j n : Nat} {sp0 : Sp} (GS : FnOk P w K mg base CX0 j f fd ["_law_found", "_law_due"] sp0) (h0 : ∀ x y d H Q E, Dp K H x d → Dp K H y d → d.depth < n → smallD d = true → (∀ H', Same H H' → Q (.bl true) H') → sp0 [x, y] H Q E) :
    FnOk P w K mg base CX0 (j + 1) f fd ["_law_found", "_law_due"] (spSame K n) := by
  refine F.ok scSame (fun vs H Q E h => ?_) (fun cdv A outer s H vs Q E hr h => ?_)
  · obtain ⟨x, y, d, rfl, _⟩ := h
    rfl
  · obtain ⟨x, y, d, rfl, dx, dy, hd, hsm, q⟩ := h
    refine ⟨_, pss_cons (ps_if (pt_val (pe_callB call_isiT (by rfl) mis (by decide +kernel) (pa_cons (pv 1) (pa_cons (pe_tup (pa_cons (pe_bltn (v := .ty "list") (by rfl) mli (by decide +kernel) rfl) (pa_cons (pe_bltn (v := .ty "tuple") (by rfl) mt (by decide +kernel) rfl) pa_nil))) pa_nil))))
        (pss_cons (ps_if (PW.pt (pw_or (pt_cmpR op_ne (pe_callB call_isi (by rfl) mis (by decide +kernel) (pa_cons (pv 0) (pa_cons (pe_bltn (v := .ty "list") (by rfl) mli (by decide +kernel) rfl) pa_nil))) (pe_callB call_isi (by rfl) mis (by decide +kernel) (pa_cons (pv 1) (pa_cons (pe_bltn (v := .ty "list") (by rfl) mli (by decide +kernel) rfl) pa_nil))) (nomark _))
            (pw_or1 (pt_cmpR op_ne (pe_callB call_isi (by rfl) mis (by decide +kernel) (pa_cons (pv 0) (pa_cons (pe_bltn (v := .ty "tuple") (by rfl) mt (by decide +kernel) rfl) pa_nil))) (pe_callB call_isi (by rfl) mis (by decide +kernel) (pa_cons (pv 1) (pa_cons (pe_bltn (v := .ty "tuple") (by rfl) mt (by decide +kernel) rfl) pa_nil))) (nomark _)))))
          (pss_one (ps_ret pe_bl)) pss_nil)
        (pss_one (ps_ret (pe_and (pe_cmpR op_eq (pe_callB call_len_seq (by rfl) ml PySem.boot_len (pa_cons (pv 0) pa_nil)) (pe_callB call_len_seq (by rfl) ml PySem.boot_len (pa_cons (pv 1) pa_nil)) (nomark _))
          (pe_one (pe_callB (cr_all rfl) (by rfl) ma (by decide +kernel) (pa_cons (pe_lc (own := [("_law_lone", 2), ("_law_mate", 3)]) (g := gTup K 2 (gCons (gName 2) (gCons (gName 3) gNil))) (tt := tYes) (by rfl) scSame.nd (RZ.pi_zipA (by rfl) mz (pa_cons (pv 0) (pa_cons (pv 1) pa_nil)))
            (blkOk_by (own := [("_law_lone", 2), ("_law_mate", 3)]) (N := ["_law_found", "_law_due", "_law_lone", "_law_mate"]) (sc := defScope sSame) (by decide +kernel))
            (fun _ _ _ _ _ => by exact pg_tup rfl (pgs_cons (pg_name (i := 2) scSame.nd rfl (Or.inl rfl) (.inr rfl)) (pgs_cons (pg_name (i := 3) scSame.nd rfl (Or.inl rfl) (.inr rfl)) pgs_nil)))
            (fun _ _ _ _ _ => pts_nil)
            (fun _ _ _ _ _ => pe_call GS hr (by rfl) gS F.kp bS .nil pass0 (pa_cons (pv 2) (pa_cons (pv 3) pa_nil)))) pa_nil))))))) pss_nil)
      (pss_cons (ps_if (PW.pt (pw_or (pt_cmpR op_isN (pv 1) pe_non (nomark _)) (pw_or1 (pt_val (pe_callB call_isi (by rfl) mis (by decide +kernel) (pa_cons (pv 1) (pa_cons (pe_bltn (v := .ty "str") (by rfl) ms (by decide +kernel) rfl) pa_nil)))))))
        (pss_one (ps_ret (pe_and (pe_cmpR op_eq (pv 0) (pv 1) (nomark _)) (pe_one (pe_cmpR op_eq (pe_callB call_isi (by rfl) mis (by decide +kernel) (pa_cons (pv 0) (pa_cons (pe_bltn (v := .ty "str") (by rfl) ms (by decide +kernel) rfl) pa_nil))) (pe_callB call_isi (by rfl) mis (by decide +kernel) (pa_cons (pv 1) (pa_cons (pe_bltn (v := .ty "str") (by rfl) ms (by decide +kernel) rfl) pa_nil))) (nomark _)))))) pss_nil)
      (pss_one (ps_ret (pe_and (pe_callB call_isi (by rfl) mis (by decide +kernel) (pa_cons (pv 0) (pa_cons (pe_bltn (v := .ty "int") (by rfl) mi (by decide +kernel) rfl) pa_nil)))
        (pe_and (pe_cmpR op_eq (pe_callB call_isi (by rfl) mis (by decide +kernel) (pa_cons (pv 0) (pa_cons (pe_bltn (v := .ty "bool") (by rfl) mb (by decide +kernel) rfl) pa_nil))) (pe_callB call_isi (by rfl) mis (by decide +kernel) (pa_cons (pv 1) (pa_cons (pe_bltn (v := .ty "bool") (by rfl) mb (by decide +kernel) rfl) pa_nil))) (nomark _))
        (pe_one (pe_cmpR op_eq (pv 0) (pv 1) (nomark _)))))))), ?_⟩
    -- isinstance(due, (list, tuple))
    refine ⟨y, rfl, by show 2 ≤ sizeLine; decide, fun tp ntp => ?_⟩
    have s1 : Same H (upd H tp (.tup [.ty "list", .ty "tuple"])) := sm_upd ntp
    have dx1 := dp_same s1 dx
    have dy1 := dp_same s1 dy
    have htp : upd H tp (.tup [.ty "list", .ty "tuple"]) tp = some (.tup [.ty "list", .ty "tuple"]) := upd_same
    generalize upd H tp (.tup [.ty "list", .ty "tuple"]) = H1 at s1 dx1 dy1 htp
    have q1 : ∀ H', Same H1 H' → Q (.bl true) H' := fun H' s' => q H' (s1.trans s')
    cases d with
    | none =>
      have tx : TyX K H1 _ (.type "NoneType") := dp_ty dx1
      have ty : TyX K H1 _ (.type "NoneType") := dp_ty dy1
      cases dx1
      cases dy1
      refine ⟨_, tp, _, _, _, false, rfl, htp, cls2, ty, kA_no (by decide +kernel) (by decide +kernel), _, rfl, iteF ?_⟩
      refine ⟨_, rfl, rfl, _, rfl, iteT (iteT ?_)⟩
      refine ⟨_, rfl, _, rfl, rfl, _, rfl, iteT ?_⟩
      exact ⟨_, rfl, _, .ty "str", _, _, false, rfl, .ty _, tx, kit_ty (by decide +kernel), _, rfl, _, .ty "str", _, _, false, rfl, .ty _, ty, kit_ty (by decide +kernel), rfl, q1 _ (Same.refl _)⟩
    | bool b =>
      have tx : TyX K H1 _ (.type "bool") := dp_ty dx1
      have ty : TyX K H1 _ (.type "bool") := dp_ty dy1
      cases dx1
      cases dy1
      refine ⟨_, tp, _, _, _, false, rfl, htp, cls2, ty, kA_no (by decide +kernel) (by decide +kernel), _, rfl, iteF ?_⟩
      refine ⟨_, rfl, rfl, _, rfl, iteF ?_⟩
      refine ⟨_, rfl, _, .ty "str", _, _, false, rfl, .ty _, ty, kit_ty (by decide +kernel), _, rfl, iteF ?_⟩
      refine ⟨_, rfl, _, .ty "int", _, _, true, rfl, .ty _, tx, kit_ty (by decide +kernel), _, rfl, iteT ?_⟩
      refine ⟨_, rfl, _, .ty "bool", _, _, true, rfl, .ty _, tx, kit_ty (by decide +kernel), _, rfl, _, .ty "bool", _, _, true, rfl, .ty _, ty, kit_ty (by decide +kernel), rfl, _, rfl, iteT ?_⟩
      exact ⟨_, rfl, _, rfl, rfl, q_eq (congrArg V.bl (decide_eq_true rfl)) (q1 _ (Same.refl _))⟩
    | int b =>
      have tx : TyX K H1 _ (.type "int") := dp_ty dx1
      have ty : TyX K H1 _ (.type "int") := dp_ty dy1
      cases dx1
      cases dy1
      refine ⟨_, tp, _, _, _, false, rfl, htp, cls2, ty, kA_no (by decide +kernel) (by decide +kernel), _, rfl, iteF ?_⟩
      refine ⟨_, rfl, rfl, _, rfl, iteF ?_⟩
      refine ⟨_, rfl, _, .ty "str", _, _, false, rfl, .ty _, ty, kit_ty (by decide +kernel), _, rfl, iteF ?_⟩
      refine ⟨_, rfl, _, .ty "int", _, _, true, rfl, .ty _, tx, kit_ty (by decide +kernel), _, rfl, iteT ?_⟩
      refine ⟨_, rfl, _, .ty "bool", _, _, false, rfl, .ty _, tx, kit_ty (by decide +kernel), _, rfl, _, .ty "bool", _, _, false, rfl, .ty _, ty, kit_ty (by decide +kernel), rfl, _, rfl, iteT ?_⟩
      exact ⟨_, rfl, _, rfl, rfl, q_eq (congrArg V.bl (decide_eq_true rfl)) (q1 _ (Same.refl _))⟩
    | str b =>
      have tx : TyX K H1 _ (.type "str") := dp_ty dx1
      have ty : TyX K H1 _ (.type "str") := dp_ty dy1
      cases dx1
      cases dy1
      refine ⟨_, tp, _, _, _, false, rfl, htp, cls2, ty, kA_no (by decide +kernel) (by decide +kernel), _, rfl, iteF ?_⟩
      refine ⟨_, rfl, rfl, _, rfl, iteF ?_⟩
      refine ⟨_, rfl, _, .ty "str", _, _, true, rfl, .ty _, ty, kit_ty (by decide +kernel), _, rfl, iteT ?_⟩
      refine ⟨_, rfl, _, rfl, rfl, _, rfl, iteD rfl ?_⟩
      exact ⟨_, rfl, _, .ty "str", _, _, true, rfl, .ty _, tx, kit_ty (by decide +kernel), _, rfl, _, .ty "str", _, _, true, rfl, .ty _, ty, kit_ty (by decide +kernel), rfl, q1 _ (Same.refl _)⟩
    | dict kvs => cases dx1
    | list ds =>
      have tx : TyX K H1 _ (.type "list") := dp_ty dx1
      have ty : TyX K H1 _ (.type "list") := dp_ty dy1
      obtain ⟨sm1, sm2⟩ := Bool.and_eq_true_iff.mp (show (decide (ds.length ≤ 100000) && smallA ds) = true from hsm)
      have sm1 := of_decide_eq_true sm1
      cases dx1 with
      | @lst a xs _ hx ax =>
      cases dy1 with
      | @lst b ys _ hy ay =>
      have ex := dps_len ax
      have ey := dps_len ay
      refine ⟨_, tp, _, _, _, true, rfl, htp, cls2, ty, kA_lst, _, rfl, iteT ?_⟩
      refine ⟨_, rfl, _, .ty "list", _, _, true, rfl, .ty _, tx, kit_ty (by decide +kernel), _, rfl, _, .ty "list", _, _, true, rfl, .ty _, ty, kit_ty (by decide +kernel), rfl, _, rfl, iteF ?_⟩
      refine ⟨_, rfl, _, .ty "tuple", _, _, false, rfl, .ty _, tx, kit_ty (by decide +kernel), _, rfl, _, .ty "tuple", _, _, false, rfl, .ty _, ty, kit_ty (by decide +kernel), rfl, _, rfl, iteF ?_⟩
      refine ⟨_, rfl, a, xs, rfl, .inl hx, _, rfl, b, ys, rfl, .inl hy, rfl, _, rfl, iteD (by rw [ex, ey]) ?_⟩
      refine ⟨.ref a, rfl, .ref b, rfl, a, b, xs, ys, rfl, .inl ⟨hx, hy, fun D nD => ?_⟩⟩
      refine lc_gen (n := xs.length) (fun i H3 => Same H1 H3 ∧ H3 D = some (.lst ((List.replicate i true).map V.bl))) ⟨sm_upd nD, upd_same⟩ (fun i H3 hi hp => ?_) (fun H3 hp => ?_) (fun i H3 v H4 hi hp hy4 => ?_) (fun H3 hp => ?_)
      · have hi2 : i < ys.length := by omega
        exact ⟨xs, ys, xs[i], ys[i], hp.1.seq hx, hp.1.seq hy, List.getElem?_eq_getElem hi, List.getElem?_eq_getElem hi2⟩
      · exact ⟨xs, ys, hp.1.seq hx, hp.1.seq hy, .inl (Nat.le_refl _)⟩
      · obtain ⟨T, x1, y1, rfl, nT, rfl, f1, f2⟩ := hy4
        have e1 := f1 xs (hp.1.seq hx)
        have e2 := f2 ys (hp.1.seq hy)
        obtain ⟨d1, g1, p1⟩ := dps_get ax e1
        obtain ⟨d2, g2, p2⟩ := dps_get ay e2
        rw [g1] at g2
        cases g2
        have s4 : Same H1 (upd H3 T (.tup [x1, y1])) := hp.1.trans (sm_upd nT)
        refine ⟨T, [x1, y1], rfl, .inl (.inl upd_same), rfl, x1, [y1], rfl, y1, [], rfl, rfl, rfl, ?_⟩
        refine ⟨x1, rfl, y1, rfl, h0 _ _ d1 _ _ _ (dp_same s4 p1) (dp_same s4 p2) ?_ (small_get sm2 g1) (fun H5 s5 => ?_)⟩
        · have z1 := dep_get g1
          have z2 : PyData.depthAll ds + 1 ≤ n := hd
          omega
        · have hD : H5 D = some (.lst ((List.replicate i true).map V.bl)) := s5 _ _ (sm_upd nT _ _ hp.2)
          refine ⟨_, hD, ?_, Same.put (s4.trans s5) nD, ?_⟩
          · rw [List.length_map, List.length_replicate]
            exact line_lt (by omega)
          · rw [upd_same, rep_add, List.map_append]
            rfl
      · refine ⟨D, List.replicate xs.length true, rfl, .inl (.inl hp.2), ?_⟩
        exact q_eq (congrArg V.bl (all_rep _)) (q1 _ hp.1)
    | tuple ds =>
      have tx : TyX K H1 _ (.type "tuple") := dp_ty dx1
      have ty : TyX K H1 _ (.type "tuple") := dp_ty dy1
      obtain ⟨sm1, sm2⟩ := Bool.and_eq_true_iff.mp (show (decide (ds.length ≤ 100000) && smallA ds) = true from hsm)
      have sm1 := of_decide_eq_true sm1
      cases dx1 with
      | @tup a xs _ hx ax =>
      cases dy1 with
      | @tup b ys _ hy ay =>
      have ex := dps_len ax
      have ey := dps_len ay
      refine ⟨_, tp, _, _, _, true, rfl, htp, cls2, ty, kA_tup, _, rfl, iteT ?_⟩
      refine ⟨_, rfl, _, .ty "list", _, _, false, rfl, .ty _, tx, kit_ty (by decide +kernel), _, rfl, _, .ty "list", _, _, false, rfl, .ty _, ty, kit_ty (by decide +kernel), rfl, _, rfl, iteF ?_⟩
      refine ⟨_, rfl, _, .ty "tuple", _, _, true, rfl, .ty _, tx, kit_ty (by decide +kernel), _, rfl, _, .ty "tuple", _, _, true, rfl, .ty _, ty, kit_ty (by decide +kernel), rfl, _, rfl, iteF ?_⟩
      refine ⟨_, rfl, a, xs, rfl, .inr hx, _, rfl, b, ys, rfl, .inr hy, rfl, _, rfl, iteD (by rw [ex, ey]) ?_⟩
      refine ⟨.ref a, rfl, .ref b, rfl, a, b, xs, ys, rfl, .inr ⟨hx, hy, fun D nD => ?_⟩⟩
      refine lc_gen (n := xs.length) (fun i H3 => Same H1 H3 ∧ H3 D = some (.lst ((List.replicate i true).map V.bl))) ⟨sm_upd nD, upd_same⟩ (fun i H3 hi hp => ?_) (fun H3 hp => ?_) (fun i H3 v H4 hi hp hy4 => ?_) (fun H3 hp => ?_)
      · have hi2 : i < ys.length := by omega
        exact ⟨xs, ys, xs[i], ys[i], Same.sqT hp.1 hx, Same.sqT hp.1 hy, List.getElem?_eq_getElem hi, List.getElem?_eq_getElem hi2⟩
      · exact ⟨xs, ys, Same.sqT hp.1 hx, Same.sqT hp.1 hy, .inl (Nat.le_refl _)⟩
      · obtain ⟨T, x1, y1, rfl, nT, rfl, f1, f2⟩ := hy4
        have e1 := f1 xs (Same.sqT hp.1 hx)
        have e2 := f2 ys (Same.sqT hp.1 hy)
        obtain ⟨d1, g1, p1⟩ := dps_get ax e1
        obtain ⟨d2, g2, p2⟩ := dps_get ay e2
        rw [g1] at g2
        cases g2
        have s4 : Same H1 (upd H3 T (.tup [x1, y1])) := hp.1.trans (sm_upd nT)
        refine ⟨T, [x1, y1], rfl, .inl (.inl upd_same), rfl, x1, [y1], rfl, y1, [], rfl, rfl, rfl, ?_⟩
        refine ⟨x1, rfl, y1, rfl, h0 _ _ d1 _ _ _ (dp_same s4 p1) (dp_same s4 p2) ?_ (small_get sm2 g1) (fun H5 s5 => ?_)⟩
        · have z1 := dep_get g1
          have z2 : PyData.depthAll ds + 1 ≤ n := hd
          omega
        · have hD : H5 D = some (.lst ((List.replicate i true).map V.bl)) := s5 _ _ (sm_upd nT _ _ hp.2)
          refine ⟨_, hD, ?_, Same.put (s4.trans s5) nD, ?_⟩
          · rw [List.length_map, List.length_replicate]
            exact line_lt (by omega)
          · rw [upd_same, rep_add, List.map_append]
            rfl
      · refine ⟨D, List.replicate xs.length true, rfl, .inl (.inl hp.2), ?_⟩
        exact q_eq (congrArg V.bl (all_rep _)) (q1 _ hp.1)
/-- _law_same is True of the same data, as deep as there is room for -/
theorem ok_same {f : Addr} {fd : FuncData} (F : Fun K "_law_same" "_law_same" sSame f fd) (bS : Binds K fd ["_law_found", "_law_due"] []) (gS : mg "_law_same" = some (.ref f))
    (ml : mg "len" = none) (mli : mg "list" = none) (mt : mg "tuple" = none) (mi : mg "int" = none) (mb : mg "bool" = none) (ms : mg "str" = none) (mis : mg "isinstance" = none) (mz : mg "zip" = none) (ma : mg "all" = none) :
    ∀ n : Nat, FnOk P w K mg base CX0 (n + 2) f fd ["_law_found", "_law_due"] (spSame K n)
  | 0 => same_step F bS gS ml mli mt mi mb ms mis mz ma (j := 1) (sp0 := fun _ _ _ _ => False) ⟨fun _ _ _ _ h => h.elim, fun _ _ _ _ _ _ _ _ _ _ _ _ _ h => h.elim⟩ (fun x y d H Q E _ _ h => absurd h (Nat.not_lt_zero _))
  | n + 1 => same_step F bS gS ml mli mt mi mb ms mis mz ma (ok_same F bS gS ml mli mt mi mb ms mis mz ma n) (fun x y d H Q E dx dy hd hs q => ⟨x, y, d, rfl, dx, dy, Nat.le_of_lt_succ hd, hs, q⟩)
/-! ### _law_tall -/
def spTall : Sp := fun vs H Q _ => ∃ (p : Addr) (n c : Nat), vs = [.ref p, .int n] ∧ Pot H p c ∧ c + n ≤ 900000 ∧ n ≤ 1000 ∧
  ∀ (q : Addr) (H' : Hp) (xs : List Int), H q = none → H' q = some (.lst (xs.map V.int)) → xs.length = n → xs.Pairwise (· > ·) → (∀ x ∈ xs, -2000000000 ≤ x ∧ x ≤ 2000000000) → Pot H' p (c + n + 2) → But p H H' → Q (.ref q) H'
theorem ok_tall {f fT fP : Addr} {fd fdT fdP : FuncData} {k : Nat} (F : Fun K "_law_tall" "_law_tall" sTall f fd) (FT : Fun K "_law_take" "_law_take" sTake fT fdT) (bT : Binds K fdT ["_law_pot_here", "_law_bound"] []) (gT : mg "_law_take" = some (.ref fT))
    (FP : Fun K "_law_pick" "_law_pick" sPick fP fdP) (bP : Binds K fdP ["_law_pot_here", "_law_some"] []) (gP : mg "_law_pick" = some (.ref fP)) (ml : mg "len" = none) (mr : mg "range" = none) :
    FnOk P w K mg base CX0 (k + 3) f fd ["_law_pot_here", "_law_count"] spTall := by
  have GT : FnOk P w K mg base CX0 (k + 1) fT fdT ["_law_pot_here", "_law_bound"] spTake := ok_take FT
  have GP : FnOk P w K mg base CX0 (k + 2) fP fdP ["_law_pot_here", "_law_some"] (spPick K) := ok_pick FP FT bT gT ml
  refine F.ok scTall (fun vs H Q E h => ?_) (fun cdv A outer s H vs Q E hr h => ?_)
  · obtain ⟨p, n, c, rfl, _⟩ := h
    rfl
  · obtain ⟨p, n, c, rfl, hP, hc, hn, q⟩ := h
    have hr1 : Room (k + 1) _ := hr.mono (by omega)
    refine ⟨_, pss_cons (ps_par (i := 2) (j := 3) (by rfl) scTall.nd rfl rfl (by decide) rfl rfl (pa_cons (pe_call GP hr (by rfl) gP FP.kp bP .nil pass0 (pa_cons (pv 0) (pa_cons (pe_lst (pa_cons pe_int (pa_cons pe_int (pa_cons pe_int (pa_cons (pe_op op_pow pe_int pe_int) pa_nil))))) pa_nil)))
        (pa_cons (pe_call GP hr (by rfl) gP FP.kp bP .nil pass0 (pa_cons (pv 0) (pa_cons (pe_lst (pa_cons (pv 1) (pa_cons pe_int (pa_cons (pe_un un_neg pe_int) (pa_cons (pe_op op_sub (pe_op op_pow pe_int pe_int) pe_int) (pa_cons (pe_un un_neg (pe_op op_pow pe_int pe_int)) pa_nil)))))) pa_nil))) pa_nil)) (by rfl))
      (pss_cons (ps_set (i := 4) scTall.nd rfl (.inl rfl) (pe_lst pa_nil))
      (pss_cons (ps_for PassesOwn.never rfl (pi_range1 (by rfl) mr (pa_cons (pv 1) pa_nil)) (pg_name (i := 5) scTall.nd rfl (.inl rfl))
        (pss_cons (ps_expr (pe_bm PySem.F.plainAttrs_list PySem.F.slot_list_append PySem.F.type_list_append mt_append (pv 4) (pa_cons (pv 3) pa_nil)))
        (pss_one (ps_set (i := 3) scTall.nd rfl (.inl rfl) (pe_op op_sub (pe_op op_sub (pv 3) pe_int) (pe_call GT hr1 (by rfl) gT FT.kp bT .nil pass0 (pa_cons (pv 0) (pa_cons (pv 2) pa_nil))))))))
      (pss_one (ps_ret (pv 4))))), ?_⟩
    -- the gap
    refine ⟨.ref p, rfl, 10, 6, rfl, rfl, ⟨by decide, by decide, by decide⟩, by show 4 ≤ sizeLine; decide, fun l1 n1 => ?_⟩
    have s1 : Same H (upd H l1 (.lst [.int 1, .int 1, .int 9, .int (10 ^ (6 : Int).toNat)])) := sm_upd n1
    refine ⟨p, l1, _, c, rfl, hP.same s1, by omega, .inl (.inl upd_same), hP.ne n1, by show 0 < 4; decide, by show 4 ≤ 10000000; decide, fun gv o1 hg ho1 => ?_⟩
    obtain ⟨g, rfl, g1, g2⟩ : ∃ g : Int, gv = .int g ∧ 1 ≤ g ∧ g ≤ 1000000 := by
      have z : (10 : Int) ^ (6 : Int).toNat = 1000000 := by decide
      simp only [z, List.mem_cons, List.not_mem_nil, or_false] at hg
      rcases hg with h | h | h | h <;> exact ⟨_, h, by decide, by decide⟩
    have b1 : But p H (upd (upd H l1 (.lst [.int 1, .int 1, .int 9, .int (10 ^ (6 : Int).toNat)])) p o1) := (But.same s1).trans But.of_upd
    have P1 : Pot (upd (upd H l1 (.lst [.int 1, .int 1, .int 9, .int (10 ^ (6 : Int).toNat)])) p o1) p (c + 1) := ⟨o1, upd_same, ho1⟩
    generalize upd (upd H l1 (.lst [.int 1, .int 1, .int 9, .int (10 ^ (6 : Int).toNat)])) p o1 = H1 at b1 P1
    -- the level
    refine ⟨.ref p, rfl, .int n, rfl, 5, rfl, 10, 9, rfl, rfl, ⟨by decide, by decide, by decide⟩, _, _, rfl, rfl, 10, 8, rfl, rfl, ⟨by decide, by decide, by decide⟩, _, rfl, by show 5 ≤ sizeLine; decide, fun l2 n2 => ?_⟩
    have s2 : Same H1 (upd H1 l2 (.lst [.int n, .int 100, .int (-5), .int (10 ^ (9 : Int).toNat - 40), .int (-(10 ^ (8 : Int).toNat))])) := sm_upd n2
    refine ⟨p, l2, _, c + 1, rfl, P1.same s2, by omega, .inl (.inl upd_same), P1.ne n2, by show 0 < 5; decide, by show 5 ≤ 10000000; decide, fun lv o2 hl ho2 => ?_⟩
    obtain ⟨l0, rfl, la, lb⟩ : ∃ l : Int, lv = .int l ∧ -100000000 ≤ l ∧ l ≤ 1000000000 := by
      have z : (10 : Int) ^ (9 : Int).toNat = 1000000000 := by decide
      have z' : (10 : Int) ^ (8 : Int).toNat = 100000000 := by decide
      simp only [z, z', List.mem_cons, List.not_mem_nil, or_false] at hl
      rcases hl with h | h | h | h | h
      · exact ⟨_, h, by omega, by omega⟩
      all_goals exact ⟨_, h, by decide, by decide⟩
    have b2 : But p H (upd (upd H1 l2 (.lst [.int n, .int 100, .int (-5), .int (10 ^ (9 : Int).toNat - 40), .int (-(10 ^ (8 : Int).toNat))])) p o2) := b1.trans ((But.same s2).trans But.of_upd)
    have P2 : Pot (upd (upd H1 l2 (.lst [.int n, .int 100, .int (-5), .int (10 ^ (9 : Int).toNat - 40), .int (-(10 ^ (8 : Int).toNat))])) p o2) p (c + 2) := ⟨o2, upd_same, ho2⟩
    generalize upd (upd H1 l2 (.lst [.int n, .int 100, .int (-5), .int (10 ^ (9 : Int).toNat - 40), .int (-(10 ^ (8 : Int).toNat))])) p o2 = H2 at b2 P2
    refine ⟨.int g, .int l0, rfl, ?_⟩
    -- found = []
    refine ⟨Nat.zero_le _, fun o no => ?_⟩
    have s3 : Same H2 (upd H2 o (.lst [])) := sm_upd no
    have nop : o ≠ p := P2.ne no
    refine ⟨.int n, rfl, n, rfl, by omega, by omega, for_range (lo := 0) (n := n) (fun i σ H3 => ∃ (lvl : Int) (y5 : Option V) (xs : List Int), σ = [some (.ref p), some (.int n), some (.int g), some (.int lvl), some (.ref o), y5] ∧ H3 o = some (.lst (xs.map V.int)) ∧ xs.length = i ∧ xs.Pairwise (· > ·) ∧
        (∀ x ∈ xs, lvl < x ∧ x ≤ 1000000000) ∧ -100000000 - 1000001 * (i : Int) ≤ lvl ∧ lvl ≤ 1000000000 ∧ Pot H3 p (c + 2 + i) ∧ But p H H3) ⟨l0, none, [], rfl, upd_same, rfl, .nil, (fun _ h => nomatch h), by omega, lb, P2.same s3, b2.trans (But.same s3)⟩ ?_ ?_⟩
    · rintro i σ H3 hi ⟨lvl, y5, xs, rfl, ho, hxl, hpw, hlt, h5, h6, P3, b3⟩
      refine ⟨.ref o, rfl, .inl ⟨rfl, _, .inl (.inl ho)⟩, .int lvl, rfl, o, _, _, rfl, rfl, ho, ?_, ?_⟩
      · rw [List.length_map]
        exact small1000 (by omega)
      · have n0 : H o = none := b2.none nop no
        have b4 : But p H (upd H3 o (.lst (xs.map V.int ++ [.int lvl]))) := b3.put n0
        refine ⟨_, rfl, _, _, rfl, rfl, .ref p, rfl, .int g, rfl, p, g, c + 2 + i, rfl, P3.upd nop, by omega, by omega, by omega, fun r o3 lr ho3 => ?_⟩
        refine ⟨_, _, rfl, rfl, ?_⟩
        refine ⟨lvl - 1 - r, _, xs ++ [lvl], rfl, ?_, by rw [List.length_append, hxl]; rfl, ?_, ?_, by omega, by omega, ⟨o3, upd_same, ho3⟩, b4.putP⟩
        · rw [upd_ne nop, upd_same, List.map_append]
          rfl
        · refine List.pairwise_append.mpr ⟨hpw, List.pairwise_singleton _ _, fun x hx y hy => ?_⟩
          rw [List.mem_singleton] at hy
          rw [hy]
          exact (hlt x hx).1
        · intro x hx
          rcases List.mem_append.mp hx with hx | hx
          · have := hlt x hx
            omega
          · rw [List.mem_singleton] at hx
            omega
    · rintro σ H3 ⟨lvl, y5, xs, rfl, ho, hxl, hpw, hlt, h5, h6, P3, b3⟩
      refine ⟨.ref o, rfl, q o H3 xs (b2.none nop no) ho hxl hpw (fun x hx => ?_) (P3.mono (by omega)) b3⟩
      have := hlt x hx
      omega
/-! ### _law_strewn -/
def spStrewn (K : PySem.W.Frag) : Sp := fun vs H Q _ => ∃ (p a : Addr) (xs : List Int) (c : Nat), vs = [.ref p, .ref a] ∧ Pot H p c ∧ c + xs.length ≤ 900000 ∧ xs.length ≤ 1000 ∧ (SqL K H a (xs.map V.int) ∨ SqT K H a (xs.map V.int)) ∧
  ∀ (q : Addr) (H' : Hp) (ys : List Int), H q = none → H' q = some (.lst (ys.map V.int)) → ys.Perm xs → Pot H' p (c + xs.length) → But p H H' → Q (.ref q) H'
theorem ok_strewn {f fT : Addr} {fd fdT : FuncData} {k : Nat} (F : Fun K "_law_strewn" "_law_strewn" sStrewn f fd) (FT : Fun K "_law_take" "_law_take" sTake fT fdT) (bT : Binds K fdT ["_law_pot_here", "_law_bound"] []) (gT : mg "_law_take" = some (.ref fT))
    (ml : mg "len" = none) (mli : mg "list" = none) :
    FnOk P w K mg base CX0 (k + 2) f fd ["_law_pot_here", "_law_some"] (spStrewn K) := by
  have GT : FnOk P w K mg base CX0 (k + 1) fT fdT ["_law_pot_here", "_law_bound"] spTake := ok_take FT
  refine F.ok scStrewn (fun vs H Q E h => ?_) (fun cdv A outer s H vs Q E hr h => ?_)
  · obtain ⟨p, a, xs, c, rfl, _⟩ := h
    rfl
  · obtain ⟨p, a, xs, c, rfl, hP, hc, hn, hS, q⟩ := h
    refine ⟨_, pss_cons (ps_par (i := 2) (j := 3) (by rfl) scStrewn.nd rfl rfl (by decide) rfl rfl (pa_cons (pe_callTy call_list_of (by rfl) mli (by decide +kernel) (pa_cons (pv 1) pa_nil)) (pa_cons (pe_lst pa_nil) pa_nil)) (by rfl))
      (pss_cons (ps_while PassesOwn.never (pt_cmpR (op_neD hr.units) (pv 2) (pe_lst pa_nil) (nomark _))
        (pss_one (ps_expr (pe_bm PySem.F.plainAttrs_list PySem.F.slot_list_append PySem.F.type_list_append mt_append (pv 3) (pa_cons (pe_bm PySem.F.plainAttrs_list PySem.F.slot_list_pop PySem.F.type_list_pop mt_popAt (pv 2)
          (pa_cons (pe_call GT hr (by rfl) gT FT.kp bT .nil pass0 (pa_cons (pv 0) (pa_cons (pe_callB call_len_seq (by rfl) ml PySem.boot_len (pa_cons (pv 2) pa_nil)) pa_nil))) pa_nil)) pa_nil)))))
      (pss_one (ps_ret (pv 3)))), ?_⟩
    refine ⟨.ref a, rfl, a, _, rfl, hS, fun r nr => ?_⟩
    refine ⟨Nat.zero_le _, fun o no => ⟨_, _, rfl, ?_⟩⟩
    have s1 : Same H (upd H r (.lst (xs.map V.int))) := sm_upd nr
    have s2 : Same (upd H r (.lst (xs.map V.int))) (upd (upd H r (.lst (xs.map V.int))) o (.lst [])) := sm_upd no
    have nor : r ≠ o := fun e => by rw [← e, upd_same] at no; cases no
    have nrp : r ≠ p := hP.ne nr
    have nop : o ≠ p := (hP.same s1).ne no
    have no0 : H o = none := s1.free no
    refine while_by (fun σ H3 => ∃ (zs ys : List Int), σ = [some (.ref p), some (.ref a), some (.ref r), some (.ref o)] ∧ H3 r = some (.lst (zs.map V.int)) ∧ H3 o = some (.lst (ys.map V.int)) ∧ (ys ++ zs).Perm xs ∧ Pot H3 p (c + ys.length) ∧ But p H H3)
      (fun σ H3 => match H3 r with | some (.lst zs) => zs.length | _ => 0) ⟨xs, [], rfl, ?_, upd_same, List.Perm.refl _, (hP.same s1).same s2, But.same (s1.trans s2)⟩ ?_ ?_
    · rw [upd_ne nor, upd_same]
    · rintro σ H3 ⟨zs, ys, rfl, hr3, ho3, hpm, P3, b3⟩
      have hpl := hpm.length_eq
      rw [List.length_append] at hpl
      refine ⟨.ref r, rfl, Nat.zero_le _, fun e1 ne1 => ?_⟩
      have s4 : Same H3 (upd H3 e1 (.lst [])) := sm_upd ne1
      refine ⟨.list (zs.map PyData.int), .list (([] : List Int).map PyData.int), .lst (.inl (.inl (s4 _ _ hr3))) (dps_ints _), .lst (.inl (.inl upd_same)) (dps_ints []), shp_lst _, shp_lst _, _, rfl, ?_⟩
      rw [eqv_lst]
      by_cases hz : zs = []
      · subst hz
        rw [decide_eq_true rfl]
        refine iteF ?_
        rw [List.append_nil] at hpm
        refine ⟨.ref o, rfl, q o _ ys no0 (s4 _ _ ho3) hpm ?_ (b3.trans (But.same s4))⟩
        rw [← hpm.length_eq]
        exact P3.same s4
      · rw [decide_eq_false hz]
        refine iteT ?_
        have lz : 0 < zs.length := List.length_pos_iff.mpr hz
        have P4 := P3.same s4
        have r4 := s4 _ _ hr3
        have o4 := s4 _ _ ho3
        have b4 := b3.trans (But.same s4 (p := p))
        generalize hH4 : upd H3 e1 (.lst []) = H4 at P4 r4 o4 b4
        refine ⟨.ref o, rfl, .inl ⟨rfl, _, .inl (.inl o4)⟩, .ref r, rfl, .inl ⟨rfl, _, .inl (.inl r4)⟩, .ref p, rfl, .ref r, rfl, r, _, rfl, .inl (.inl (.inl r4)), ?_⟩
        rw [List.length_map]
        refine ⟨p, zs.length, c + ys.length, rfl, P4, by omega, by omega, by omega, fun i o5 li ho5 => ?_⟩
        have li' : i < zs.length := by omega
        have r5 : (upd H4 p o5) r = some (.lst (zs.map V.int)) := by rw [upd_ne nrp]; exact r4
        refine ⟨r, _, i, i, .int zs[i], rfl, rfl, r5, by omega, by omega, ?_, ?_, ?_⟩
        · rw [List.length_map]
          exact sq_nat li'
        · rw [List.getElem?_map, List.getElem?_eq_getElem li']
          rfl
        · have o6 : (upd (upd H4 p o5) r (.lst ((zs.map V.int).eraseIdx i))) o = some (.lst (ys.map V.int)) := by rw [upd_ne (Ne.symm nor), upd_ne nop]; exact o4
          refine ⟨o, _, _, rfl, rfl, o6, ?_, ?_⟩
          · rw [List.length_map]
            exact small1000 (by omega)
          · have r6 : (upd (upd (upd H4 p o5) r (.lst ((zs.map V.int).eraseIdx i))) o (.lst (ys.map V.int ++ [.int zs[i]]))) r = some (.lst ((zs.eraseIdx i).map V.int)) := by
              rw [upd_ne nor, upd_same, map_erase]
            refine ⟨⟨zs.eraseIdx i, ys ++ [zs[i]], rfl, r6, ?_, ?_, ?_, ((b4.putP).put nr).put no0⟩, ?_⟩
            · rw [upd_same, List.map_append]
              rfl
            · rw [List.append_assoc]
              exact ((perm_ers zs i li').append_left ys).trans hpm
            · rw [List.length_append]
              have P5 : Pot (upd H4 p o5) p (c + ys.length + 1) := ⟨o5, upd_same, ho5⟩
              exact (P5.upd nrp).upd nop
            · have e1 := len_ers zs i li'
              rw [r6, hr3]
              show ((zs.eraseIdx i).map V.int).length < (zs.map V.int).length
              rw [List.length_map, List.length_map]
              omega
    · rintro σ H3 Q1 Q2 h12 ⟨v, ev, hz, hh⟩
      exact ⟨v, ev, hz, fun l nl => by
        obtain ⟨d, e, d1, d2, s1, s2, kk, ek, qq⟩ := hh l nl
        exact ⟨d, e, d1, d2, s1, s2, kk, ek, h12 _ _ qq⟩⟩
/-! ### _law_line -/
def spLine : Sp := fun vs H Q _ => ∃ (p : Addr) (n c : Nat), vs = [.ref p, .int n] ∧ Pot H p c ∧ c + 2 * n ≤ 800000 ∧ n ≤ 1000 ∧
  ∀ (q : Addr) (H' : Hp) (xs : List Int), H q = none → H' q = some (.tup (xs.map V.int)) → xs.length = n → xs.Nodup → (∀ x ∈ xs, -2000000000 ≤ x ∧ x ≤ 2000000000) → Pot H' p (c + 2 * n + 2) → But p H H' → Q (.ref q) H'
theorem ok_line {f fT fP fL fS : Addr} {fd fdT fdP fdL fdS : FuncData} {k : Nat} (F : Fun K "_law_line" "_law_line" sLine f fd) (FT : Fun K "_law_take" "_law_take" sTake fT fdT) (bT : Binds K fdT ["_law_pot_here", "_law_bound"] []) (gT : mg "_law_take" = some (.ref fT))
    (FP : Fun K "_law_pick" "_law_pick" sPick fP fdP) (bP : Binds K fdP ["_law_pot_here", "_law_some"] []) (gP : mg "_law_pick" = some (.ref fP))
    (FL : Fun K "_law_tall" "_law_tall" sTall fL fdL) (bL : Binds K fdL ["_law_pot_here", "_law_count"] []) (gL : mg "_law_tall" = some (.ref fL))
    (FS : Fun K "_law_strewn" "_law_strewn" sStrewn fS fdS) (bS : Binds K fdS ["_law_pot_here", "_law_some"] []) (gS : mg "_law_strewn" = some (.ref fS))
    (ml : mg "len" = none) (mli : mg "list" = none) (mr : mg "range" = none) (mt : mg "tuple" = none) :
    FnOk P w K mg base CX0 (k + 4) f fd ["_law_pot_here", "_law_count"] spLine := by
  have GL : FnOk P w K mg base CX0 (k + 3) fL fdL ["_law_pot_here", "_law_count"] spTall := ok_tall FL FT bT gT FP bP gP ml mr
  have GS : FnOk P w K mg base CX0 (k + 2) fS fdS ["_law_pot_here", "_law_some"] (spStrewn K) := ok_strewn FS FT bT gT ml mli
  refine F.ok scLine (fun vs H Q E h => ?_) (fun cdv A outer s H vs Q E hr h => ?_)
  · obtain ⟨p, n, c, rfl, _⟩ := h
    rfl
  · obtain ⟨p, n, c, rfl, hP, hc, hn, q⟩ := h
    have hr1 : Room (k + 2) _ := hr.mono (by omega)
    refine ⟨_, pss_one (ps_ret (pe_callTy call_tuple_of (by rfl) mt (by decide +kernel) (pa_cons (pe_call GS hr1 (by rfl) gS FS.kp bS .nil pass0 (pa_cons (pv 0) (pa_cons (pe_call GL hr (by rfl) gL FL.kp bL .nil pass0 (pa_cons (pv 0) (pa_cons (pv 1) pa_nil))) pa_nil))) pa_nil))), ?_⟩
    refine ⟨.ref p, rfl, .ref p, rfl, .int n, rfl, p, n, c, rfl, hP, by omega, hn, fun a H1 xs na ha hl hpw hbd P1 b1 => ?_⟩
    have nap : a ≠ p := hP.ne na
    refine ⟨p, a, xs, c + n + 2, rfl, P1, by omega, by omega, .inl (.inl (.inl ha)), fun r H2 ys nr hr2 hpm P2 b2 => ?_⟩
    have nrp : r ≠ p := P1.ne nr
    refine ⟨r, _, rfl, .inl ⟨.inl (.inl hr2), fun t nt => ?_⟩⟩
    have ntp : t ≠ p := P2.ne nt
    refine q t _ ys (b1.none ntp (b2.none ntp nt)) upd_same (hpm.length_eq.trans hl) (hpm.nodup_iff.mpr (hpw.imp (fun h e => by omega))) (fun x hx => hbd x (hpm.mem_iff.mp hx)) ?_ ((b1.trans b2).put (b1.none ntp (b2.none ntp nt)))
    exact (P2.mono (by omega)).upd ntp
end
end Bal

namespace Bal
open PySem PySem.Spec PyProof.Rows L2
/-! ### own errors over any of Python's own, each with one field -/
/-- what is asked of the base -/
structure BaseX (newId : String) (tail : List Value) : Prop where
  ex : ∃ B initId, ExcBaseFacts B newId initId tail
  pass : ∀ self, refuseLoop self "__setattr__" tail = pure ()
  ob : tail.contains (.type "object") = true
theorem bx_lookup : BaseX "LookupError.__new__" [.type "LookupError", .type "Exception", .type "BaseException", .type "object"] := ⟨⟨_, _, PySem.F.excBase_LookupError⟩, PySem.F.store_LookupError.passes, by decide +kernel⟩
theorem bx_value : BaseX "ValueError.__new__" [.type "ValueError", .type "Exception", .type "BaseException", .type "object"] := ⟨⟨_, _, PySem.F.excBase_ValueError⟩, PySem.F.store_ValueError.passes, by decide +kernel⟩
theorem bx_runtime : BaseX "RuntimeError.__new__" [.type "RuntimeError", .type "Exception", .type "BaseException", .type "object"] := ⟨⟨_, _, PySem.F.excBase_RuntimeError⟩, PySem.F.store_RuntimeError.passes, by decide +kernel⟩
theorem bx_overflow : BaseX "OverflowError.__new__" [.type "OverflowError", .type "ArithmeticError", .type "Exception", .type "BaseException", .type "object"] := ⟨⟨_, _, PySem.F.excBase_OverflowError⟩, PySem.F.store_OverflowError.passes, by decide +kernel⟩
/-- what the written part says of such a class at C -/
structure ErC (K : PySem.W.Frag) (C : Addr) (newId : String) (tail : List Value) : Prop where
  bx : BaseX newId tail
  cls : ∃ nm q N bs sn sub ab col dd k0 k1 k2 k3 k5, K.lookup C = some (excClassObj nm q C N bs tail true sn sub ab col dd k0 k1 k2 k3 k5 newId)
  sa : PySem.W.findIn K (.ref C) "__setattr__" = some (some (.builtin "object.__setattr__"))
  exC : PySem.W.subIn K (.ref C) (.type "BaseException") = some true
  tyC : PySem.W.typeIn K (.ref C) = some (.type "type")
  kC : PySem.W.keepIn K (.ref C) = true
section
open PySem.W PySem.Calls PySem.HandSPX Builtin Builtin.ObjectAttr
variable {prog : Program} {w : World} {A : Around} {E : Value → Shared → Prop} {R : Result → Shared → Prop} {hp : Heap} {g : Array GenState} {d : Drawn} {t : Nat} {os : OsState}
/-- the first field of a new error, whatever its base -/
theorem osaG {K : W.Frag} {name : Str} {tk : Tok} {v : Value} {x C : Addr} {fv : Array Value} {cd : ClassData} (X : K.In hp) (hx : hp.get? x = some { cls := .ref C, data := .fields fv }) (hcd : W.clsIn K C = some cd)
    (ne : cd.mro.isEmpty = false) (hob : cd.mro.contains (.type "object") = true) (hps : refuseLoop (.ref x) "__setattr__" cd.mro = pure ()) (hh : cd.hasDict = true) (ha : W.findIn K (.ref C) name = some none)
    (hq : ∀ h' tk' dx, (∀ b o, b ≠ x → hp.get? b = some o → h'.get? b = some o) → hp.objs.size ≤ dx → dx ≠ x → h'.get? x = some { cls := .ref C, dict := some dx, data := .fields fv } → h'.Ns1 dx (fun y => if y = name then some v else none) → R (.ok (.ret .none)) ⟨h', g, d, tk', os⟩) :
    codeAny (model prog w) A (.call (.builtin "object.__setattr__") ⟨[.ref x, .str name tk, v], []⟩) R ⟨hp, g, d, t, os⟩ := by
  have I : W.InstAt hp x { cls := .ref C, data := .fields fv } C none := ⟨hx, rfl, rfl, trivial⟩
  have hxs : x ≠ hp.objs.size := Nat.ne_of_lt (Heap.lt_size hx); have SF := F.store_object
  have sub : W.Looks (model prog w) hp (isInstance (.ref x) (.type "object")) true := I.type.andThen (W.looks_mroIn X (by unfold W.mroIn; rw [hcd, Option.bind_some, if_neg (by rw [ne]; decide), hob]))
  refine codeAny_call_builtin SF.slot.plain SF.entry (@W.check_slot (model prog w) _ _ ⟨hp, g, d, t, os⟩ "object.__setattr__" "object" "__setattr__" (.ref x) [.str name tk, v] [] _ SF.kind SF.split sub (SF.args (.ref x) (.str name tk) v) ?_)
  have hmr : W.Looks (model prog w) hp (mroOf (.ref C)) cd.mro := (W.looks_clsIn X hcd).andThen .now; have L3 : W.Looks (model prog w) hp (storeTaker? none) none := .now; have hcls : W.Looks (model prog w) hp (classData C) cd := W.looks_clsIn X hcd
  rw [W.osa_eq, refuse_eq]; refine wpAny_bind (wpAny_bind (I.type.at (wpAny_bind (hmr.at ?_)))); rw [hps]
  refine wpAny_pure (wpAny_bind (I.type.at (wpAny_bind ((W.looks_findIn X ha).at (wpAny_bind (L3.at ?_)))))); show wpAny _ _ (storeInOwnDict (.ref x) (.ref C) (.str name tk) name v false) _ _ _
  obtain ⟨nm, bs, mro, ns, qn, hd, sn, sb, ab, col, del⟩ := cd; dsimp only at hh; subst hh; unfold storeInOwnDict ownDictForStores
  repeat (first | with_reducible refine store_in_new ?_ ?_ | with_reducible refine wpAny_loadPart_at hx ?_ | with_reducible refine hcls.at ?_ | wp_step)
  · exact ⟨_, #[], _, (Heap.get?_update_ne _ _ _ _ hxs.symm).trans (Heap.get?_push_at rfl rfl), rfl, fun e he => absurd he (by simp), fun _ => rfl⟩
  · intro h' tk' hn' hs; have hx₁ : (hp.push { cls := .type "dict", data := .dict #[] }).get? x = some { cls := .ref C, data := .fields fv } := Heap.get?_push_of_some _ hx
    refine hq h' tk' hp.objs.size (fun b o hb ho => ?_) (Nat.le_refl _) hxs.symm ?_ hn'
    · exact (hs.2 b (Nat.ne_of_lt (Heap.lt_size ho))).trans ((Heap.get?_update_ne _ _ _ _ hb).trans (Heap.get?_push_of_some _ ho))
    · exact (hs.2 x hxs).trans (Heap.get?_update_self _ hx₁ rfl)
end
section
variable {X : Cx} {pins : List (Addr × Obj)} {σ : L2.St} {H : Hp} {s : Shared} {a C : Addr} {f : Str} {y : V} {u : Value} {Q : Unit → Shared → Prop} {E : Value → Shared → Prop} {A : Around} {newId : String} {tail : List Value}
theorem er_store (T : ErC X.K C newId tail) (I : Inv X pins σ H s) (e : H a = some (exo a C none)) (hno : PySem.W.findIn X.K (.ref C) f = some none) (ry : RelV y u)
    (h : ∀ dx s', H dx = none → dx ≠ a → Inv X pins σ (upd (upd H dx (exd dx [(f, y)])) a (exo a C (some dx))) s' → Q () s') : wpAny (model X.prog X.w) A (setAttr (.ref a) f u) Q E s := by
  obtain ⟨nm, q, N, bs, sn, sub, ab, col, dd, k0, k1, k2, k3, k5, hC⟩ := T.cls
  have hcl : PySem.W.clsIn X.K C = some { name := nm, bases := bs, mro := .ref C :: tail, ns := N, qualname := q, hasDict := true, slotNames := sn, subclasses := sub, abstract := ab, collection := col, hasDel := false } := by unfold PySem.W.clsIn; rw [hC] <;> rfl
  obtain ⟨t1, ho⟩ := exo_at I.hok e; obtain ⟨hp, g, d, t, os⟩ := s
  refine PySem.W.set_plain I.kIn (ox := { cls := .ref C, dict := none, data := .fields #[.ref t1, .none, .none, .none, .bool false, .none] }) (od := none) ⟨ho, rfl, rfl, trivial⟩ T.sa ?_
  refine osaG I.kIn ho hcl rfl (by show (Value.ref C :: tail).contains (.type "object") = true; rw [List.contains_cons, T.bx.ob, Bool.or_true]) (by show refuseLoop (.ref a) "__setattr__" (.ref C :: tail) = pure (); rw [refuseLoop_ref]; exact T.bx.pass _) rfl hno (fun h' tk' dx k dn dne hx hn => ?_)
  have hnd : H dx = none := I.hok.fresh dn; have nd : ∀ {b : Addr} {o : Obj}, hp.get? b = some o → b ≠ dx := fun {b o} q => Nat.ne_of_lt (Nat.lt_of_lt_of_le (Heap.lt_size q) dn)
  have na : ∀ {b : Addr}, H b = none → b ≠ a := fun {b} n z => by rw [z, e] at n; cases n
  have U : Un X.fs [] H (upd (upd H dx (exd dx [(f, y)])) a (exo a C (some dx))) hp h' := { keep := fun b o q n _ _ => k b o (na n) q, slot := fun b o q n _ _ => ⟨o.slots, k b o (na n) q⟩, free := fun b o q n _ => by rw [upd_ne (na n), upd_ne (nd q)]; exact n, there := fun b o q _ => if hb : b = a then ⟨_, (congrArg h'.get? hb).trans hx⟩ else ⟨o, k b o hb q⟩, tups := fun b xs q => by rw [upd_ne (at_ne e q exo_tup), upd_ne (ne_of_none q hnd)]; exact q, frzs := fun b o v q => by rw [upd_ne (at_ne e q exo_frz), upd_ne (ne_of_none q hnd)]; exact q, tbls := fun b ps q => ⟨#[], by rw [upd_ne (at_ne e q exo_tbl), upd_ne (ne_of_none q hnd), q]; simp⟩ }
  refine h dx _ hnd dne (I.un (t' := tk') U fun b o q => ?_)
  by_cases hb : b = a
  · subst hb; rw [upd_same] at q; cases q; exact exo_ok hx
  · rw [upd_ne hb] at q
    by_cases hd : b = dx
    · subst hd; rw [upd_same] at q; cases q; exact exd_ok hn (relO_put (fs := []) ry fun g => True.intro)
    · rw [upd_ne hd] at q
      refine (I.hok b o q).stay (fun c v hc z => k c v ?_ z) (fun c hc => by rw [upd_ne (at_ne e hc exo_own), upd_ne (ne_of_none hc hnd)]; exact hc) (fun c xs hc => by rw [upd_ne (at_ne e hc exo_tup), upd_ne (ne_of_none hc hnd)]; exact hc)
      rcases hc with hc | hc
      · rw [hc]; exact hb
      · exact at_ne e hc exo_own
/-- self.f = e within the __init__ of such a class -/
def tEst (K : PySem.W.Frag) (f : Str) (to te : TE) : TS := fun D σ H => te σ H fun y H1 => to σ H1 fun x H2 => ∃ (a C : Addr) (newId : String) (tail : List Value), x = .ref a ∧ ErC K C newId tail ∧ PySem.W.findIn K (.ref C) f = some none ∧
  H2 a = some (exo a C none) ∧ ∀ dx, H2 dx = none → dx ≠ a → D.nx σ (upd (upd H2 dx (exd dx [(f, y)])) a (exo a C (some dx)))
theorem ps_est {o e : Expr} {to te : TE} {p' pos : Pos} (ho : PE X o to) (he : PE X e te) (hs : swapsWith e (some (.Attribute o f p')) pos.line X.env = pure false := by rfl) : PS X (.Assign [.Attribute o f p'] e pos) (tEst X.K f to te) := by
  refine ⟨fun pins s σ H D I h => ?_⟩
  refine plainObj_wpAny_Assign_Attribute (thn (he.run pins s σ H _ I h) fun v s1 ⟨y, H1, I1, r1, q1⟩ => thn (ho.run pins s1 σ H1 _ I1 q1) fun u s2 ⟨x, H2, I2, r2, a, C, nw, tl, ex, T, hno, ea, q⟩ => ?_) hs
  subst ex; obtain rfl : u = Value.ref a := r2; exact er_store T I2 ea hno r1 fun dx s' n ne J => ⟨σ, _, J, q dx n ne⟩
/-- C(e, ..): such an error is made -/
theorem pmk_er {CX : CXT} {x : Str} {C fI : Addr} {k : Nat} {fd : FuncData} {ps : List Str} {sp : Sp} {ds : List Value} {dvs : List V} {e : Expr} {es : List Expr} {ta : TA} {p pos : Pos} (T : ErC X.K C newId tail) (iC : PySem.W.findIn X.K (.ref C) "__init__" = some (some (.ref fI))) (tI : PySem.W.typeIn X.K (.ref fI) = some (.type "function"))
    (F1 : FnOk X.prog X.w X.K X.mg X.base CX k fI fd ps sp) (hr : Room (k + 1) X.A) (hb : Binds X.K fd ps ds) (hd : Vals dvs ds) (hx : Passes CX X (fun _ _ _ => False)) (hg : Gl X x) (hm : X.mg x = some (.ref C)) (ha : PA X (e :: es) ta)
    (hdb : (x == ("__debug__" : Str)) = false := by decide) (he : starEach (e :: es) X.env = (false, eval e X.env) :: starEach es X.env := by rfl) (hpl : (backTo pos (starEach es X.env)).any (·.1) = false := by rfl) : PMk X (.Call (.Name x p) (e :: es) [] pos) (tMkO C sp dvs ta) := by
  intro pins s σ H Q I h; obtain ⟨nm, q, N, bs, sn, sub, ab, col, dd, k0, k1, k2, k3, k5, hC⟩ := T.cls; obtain ⟨B, ini, FB⟩ := T.bx.ex
  refine wpAny_Call_Name_kw (ld_glob I hg hm ?_ hdb)
  refine PySem.W.callWith_K (h₀ := X.base) I.ok.mod.kin T.kC (thn (ha.run pos pins s σ H _ I h) fun us s1 ⟨vs, H1, I1, r1, hz, q1⟩ => ⟨I1.kIn, ?_⟩) he hpl
  show wpAny _ _ (call (.ref C) us) _ _ _; obtain ⟨hp, g, dr, tk, os⟩ := s1
  have hsz : hp.objs.size ≤ hp.objs.size + 1 := Nat.le_succ _; have hn : H1 (hp.objs.size + 1) = none := I1.hok.fresh hsz; have hq := q1 (hp.objs.size + 1) hn
  have kk : ∀ b o, hp.get? b = some o → ((hp.push (PySem.W.kdv_tup us)).push (PySem.HandSPX.excO C hp.objs.size)).get? b = some o := fun b o e => Heap.get?_push_of_some _ (Heap.get?_push_of_some _ e)
  have hget : ((hp.push (PySem.W.kdv_tup us)).push (PySem.HandSPX.excO C hp.objs.size)).get? (hp.objs.size + 1) = some (PySem.HandSPX.excO C hp.objs.size) := by heap_get
  have I2 : Inv X pins σ (upd H1 (hp.objs.size + 1) (exo (hp.objs.size + 1) C none)) ⟨(hp.push (PySem.W.kdv_tup us)).push (PySem.HandSPX.excO C hp.objs.size), g, dr, tk, os⟩ := I1.laid (t' := tk) (a := hp.objs.size + 1) (o := exo (hp.objs.size + 1) C none) (h' := (hp.push (PySem.W.kdv_tup us)).push (PySem.HandSPX.excO C hp.objs.size)) kk hsz (exo_ok hget)
  have r2 : Vals (V.ref (hp.objs.size + 1) :: (vs ++ dvs)) (Value.ref (hp.objs.size + 1) :: (us ++ ds)) := .cons rfl (r1.append hd)
  have hl : (Value.ref (hp.objs.size + 1) :: us ++ ds).length = ps.length := by have e := r2.length; rw [F1.len _ _ _ _ hq] at e; exact e.symm
  have hus : us.length ≤ sizeLine := by rw [← Paired.length r1, sizeLine_eq]; omega
  refine wpAny_call (PySem.HandSPX.call_own FB (fun _ => rfl) (I1.kIn _ _ hC) (PySem.W.looks_findIn I1.kIn iC) (fun self => PySem.W.bind_fn I1.kIn self tI) hus (codeAny_mono (F1.run _ X.stack _ _ ⟨Value.ref (hp.objs.size + 1) :: us, []⟩ (Value.ref (hp.objs.size + 1) :: (us ++ ds)) _ _ (fun _ _ _ => False) (hr.make C us []) (I2.env0.make C us []) (hb _ (Value.ref (hp.objs.size + 1) :: us) I2.kIn hl) r2 hq) fun r s' hq' => ?_))
  cases r with
  | error er => exact hx pins σ _ _ er s' I2 hq'
  | ok fl =>
    cases fl with
    | ret u =>
      obtain ⟨v, H2, os2, bare2, un2, hok2, rv, ev, d, fs, ea, ed, hd1, q2⟩ := hq'; subst ev; obtain ⟨h2, g2, d2, t2, os'⟩ := s'
      exact ⟨rv, mk_end (raises_own T.exC T.tyC) I1 hsz kk un2 hok2 os2 bare2 ea ed hd1 q2⟩
    | next => exact False.elim hq'
    | brk => exact False.elim hq'
    | cont => exact False.elim hq'
end
end Bal

namespace Bal
open PySem PySem.Spec PyProof.Rows L2
section
open PySem.W PySem.Calls
variable {M : Model} {K : Frag} {A : Around} {E : Value → Shared → Prop} {s : Shared}
theorem forIn_skip {f : Value → PUnit → Sem (ForInStep PUnit)} {Q : PUnit → Shared → Prop} : ∀ cs : List Value, (∀ c ∈ cs, ∀ R : ForInStep PUnit → Shared → Prop, R (ForInStep.yield ⟨⟩) s → wpAny M A (f c ⟨⟩) R E s) → Q ⟨⟩ s → wpAny M A (forIn cs PUnit.unit f) Q E s
  | [], _, hq => by rw [List.forIn_nil]; exact wpAny_pure hq
  | c :: cs, h, hq => by
    rw [List.forIn_cons]
    exact wpAny_bind (h c (List.mem_cons_self ..) _ (forIn_skip cs (fun d hd => h d (List.mem_cons_of_mem _ hd)) hq))
theorem forIn_find {β : Type} {f : Value → β → Sem (ForInStep β)} {y0 x1 : β} (b : Value → Bool) {Q : β → Shared → Prop} : ∀ cs : List Value, (∀ c ∈ cs, ∀ R : ForInStep β → Shared → Prop, R (if b c = true then ForInStep.done x1 else ForInStep.yield y0) s → wpAny M A (f c y0) R E s) →
    Q (if cs.any b = true then x1 else y0) s → wpAny M A (forIn cs y0 f) Q E s
  | [], _, hq => by rw [List.forIn_nil]; exact wpAny_pure hq
  | c :: cs, h, hq => by
    rw [List.forIn_cons]
    refine wpAny_bind (h c (List.mem_cons_self ..) _ ?_)
    rw [List.any_cons] at hq
    cases hb : b c with
    | true =>
      rw [hb, Bool.true_or] at hq
      exact wpAny_pure hq
    | false =>
      rw [hb, Bool.false_or] at hq
      exact forIn_find b cs (fun d hd => h d (List.mem_cons_of_mem _ hd)) hq
theorem exmAny_each {cls : Value} : ∀ {us : List Value} {b : Bool}, exmAny K cls us = some b → (∀ c ∈ us, ∃ d, exmOne K cls c = some d) ∧ b = us.any fun c => exmOne K cls c == some true
  | [], b, h => by
    have e : some false = some b := h
    cases e
    exact ⟨fun _ h => (nomatch h), rfl⟩
  | c :: us, b, h => by
    obtain ⟨b1, d1, h1, h2, rfl⟩ := exmAny_cons h
    obtain ⟨i1, i2⟩ := exmAny_each h2
    refine ⟨fun x hx => ?_, ?_⟩
    · rcases List.mem_cons.mp hx with rfl | hx
      · exact ⟨b1, h1⟩
      · exact i1 x hx
    · rw [List.any_cons, ← i2, h1]
      cases b1 <;> rfl
/-- except (C1, .., Cn): does it name the class of e -/
theorem exm_any {cls : Value} {us : List Value} {tp e : Addr} {b : Bool} {h : Heap} (X : K.In h) (LT : Looks M h (typeOf (.ref e)) cls) (hp : h.get? tp = some { cls := .type "tuple", data := .seq us.toArray }) (hx : exmAny K cls us = some b) : Looks M h (excMatches (.ref e) (.ref tp)) b := by
  intro A Q E s k₀ q
  obtain ⟨hh, g, d, tk, os⟩ := s
  have k : ∀ b o, h.get? b = some o → hh.get? b = some o := k₀
  have LT0 : Looks M h (isInstance (.ref tp) (.type "tuple")) true := ((Looks.ld hp).andThen .now).andThen (Looks.of_pure isSubtype_tuple_tuple)
  obtain ⟨each, eb⟩ := exmAny_each hx
  have LT' := LT.keeps k; have LT0' := LT0.keeps k; have hp' := k _ _ hp
  unfold excMatches
  refine wpAny_bind (LT0'.at ?_); dsimp only; rw [if_pos rfl]
  first
    | refine wpAny_bind (wpAny_seqItems hp' rfl ?_)
    | refine wpAny_bind (wpAny_bind (wpAny_seqItems hp' rfl (wpAny_pure ?_)))
  dsimp only [Option.getD_some, Option.getD]
  refine wpAny_bind (wpAny_pure (wpAny_bind (forIn_skip us (fun c hc R hR => ?_) ?_)))
  · obtain ⟨dc, h1⟩ := each c hc
    obtain ⟨e1, _⟩ := exm_cls (M := M) X h1
    refine wpAny_bind ((e1.keeps k).at ?_)
    simp only [Bool.not_true, Bool.false_eq_true, if_false]
    exact wpAny_pure hR
  · refine wpAny_bind (LT'.at ?_)
    refine wpAny_bind (forIn_find (x1 := (some true, ())) (fun c => exmOne K cls c == some true) us (fun c hc R hR => ?_) ?_)
    · obtain ⟨dc, h1⟩ := each c hc
      obtain ⟨_, e2⟩ := exm_cls (M := M) X h1
      refine wpAny_bind ((e2.keeps k).at ?_)
      rw [h1] at hR
      cases dc with
      | true => exact wpAny_pure hR
      | false => exact wpAny_pure hR
    · rw [← eb]
      cases b with
      | true => exact wpAny_pure q
      | false => exact wpAny_pure q
end
end Bal

namespace Bal
open PySem PySem.Spec PyProof.Rows L2
/-! ### an error that was caught and is kept -/
/-- at a: an error of the class cls, its dict d -/
def ErV (cls : Value) (d : Option Addr) (a : Addr) : HO := .ext fun h => ∃ (oe : Obj) (vs : Array Value), h.get? a = some oe ∧ Zc cls d oe ∧ oe.data = .fields vs
theorem erV_ok {P : Program} {w : World} {H : Hp} {h : Heap} {a : Addr} {cls : Value} {d : Option Addr} {oe : Obj} {vs : Array Value} (e : h.get? a = some oe) (z : Zc cls d oe) (hd : oe.data = .fields vs) : ObjOk P w H h a (ErV cls d a) :=
  ⟨⟨oe, vs, e, z, hd⟩, ⟨oe, e⟩, fun _ _ ⟨o, v, q, r⟩ k => ⟨o, v, k o q, r⟩⟩
theorem erV_at {P : Program} {w : World} {H : Hp} {h : Heap} {a : Addr} {cls : Value} {d : Option Addr} (hok : HOk P w H h) (e : H a = some (ErV cls d a)) : ∃ (oe : Obj) (vs : Array Value), h.get? a = some oe ∧ Zc cls d oe ∧ oe.data = .fields vs := by
  have x : ObjOk P w H h a (.ext fun h => ∃ (oe : Obj) (vs : Array Value), h.get? a = some oe ∧ Zc cls d oe ∧ oe.data = .fields vs) := hok a _ e
  exact x.1
section
variable {X : Cx} {pins : List (Addr × Obj)} {σ : L2.St} {H : Hp} {s : Shared} {a : Addr} {oe : Obj}
/-- out of the suite, the error still in hand -/
theorem unsuiteK {pn' : List (Addr × Obj)} (I : Inv (X.suite a ((a, oe) :: (X.pn ++ pins))) pn' σ H s) (ok : X.Ok) : Inv X ((a, oe) :: pins) σ H s :=
  ⟨ok, I.os, I.bare, I.base, I.loc, I.cell, I.free, I.freeC, fun p hp => I.pin p (List.mem_append_left _ (by
    rcases List.mem_append.mp hp with h | h
    · exact List.mem_cons_of_mem _ (List.mem_append_left _ h)
    · rcases List.mem_cons.mp h with h | h
      · rw [h]; exact List.mem_cons_self ..
      · exact List.mem_cons_of_mem _ (List.mem_append_right _ h))), I.hok, I.len⟩
/-- what is in hand is put down, tracked -/
theorem putDown {cls : Value} {d : Option Addr} {vs : Array Value} (I : Inv X ((a, oe) :: pins) σ H s) (hz : Zc cls d oe) (hd : oe.data = .fields vs) (n0 : X.s_0.heap.get? a = none) (np : ∀ p ∈ X.pn ++ pins, p.1 ≠ a) :
    Inv X pins σ (upd H a (ErV cls d a)) s := by
  obtain ⟨ha, na, nL, nF, nc⟩ := I.pin (a, oe) (List.mem_append_right _ (List.mem_cons_self ..))
  have ne : ∀ {b : Addr} {o : HO}, H b = some o → b ≠ a := fun {b o} q z => by rw [z, na] at q; cases q
  refine ⟨I.ok, I.os, I.bare, ⟨I.base.keep, I.base.slot, fun b o e n hx => ?_, I.base.there, fun b xs e => ?_, fun b o u e => ?_, fun b ps e => ?_⟩, I.loc, I.cell, ?_, fun x c e => ?_, fun p hp => ?_, fun b u e => ?_, I.len⟩
  · rw [upd_ne (fun z => by rw [z, n0] at e; cases e)]
    exact I.base.free b o e n hx
  · have q := I.base.tups b xs e
    rw [upd_ne (ne q)]; exact q
  · have q := I.base.frzs b o u e
    rw [upd_ne (ne q)]; exact q
  · obtain ⟨m, q⟩ := I.base.tbls b ps e
    exact ⟨m, by rw [upd_ne (ne q)]; exact q⟩
  · rw [upd_ne (Ne.symm nL)]; exact I.free
  · have hc : c ≠ a := fun z => by
      obtain ⟨v, oc, h1, h2⟩ := I.cell x c e
      have ha' : s.heap.get? a = some oe := ha
      rw [z, ha'] at h1
      cases h1
      exact nc _ h2
    rw [upd_ne hc]; exact I.freeC x c e
  · have hp' : p ∈ X.pn ++ ((a, oe) :: pins) := by
      rcases List.mem_append.mp hp with h | h
      · exact List.mem_append_left _ h
      · exact List.mem_append_right _ (List.mem_cons_of_mem _ h)
    obtain ⟨q1, q2, q3⟩ := I.pin p hp'
    exact ⟨q1, by rw [upd_ne (np p hp)]; exact q2, q3⟩
  · by_cases hb : b = a
    · subst hb
      rw [upd_same] at e
      cases e
      exact erV_ok ha hz hd
    · rw [upd_ne hb] at e
      exact (I.hok b u e).stay (fun _ _ _ q => q) (fun c q => by rw [upd_ne (ne q)]; exact q) (fun c xs q => by rw [upd_ne (ne q)]; exact q)
end
/-- names of classes, told by their values -/
inductive NmAll (X : Cx) : List Expr → List Value → Prop
  | nil : NmAll X [] []
  | cons {x : Str} {c : Value} {np : Pos} {es : List Expr} {us : List Value} (h : Names X x c) (r : NmAll X es us) : NmAll X (.Name x np :: es) (c :: us)
theorem nm_run {X : Cx} {a : Addr} {pn : List (Addr × Obj)} {σ : L2.St} {H : Hp} {s : Shared} {pos : Pos} {E : Value → Shared → Prop} (S : Inv (X.suite a pn) [] σ H s) : ∀ {es : List Expr} {us : List Value} {Q : List Value → Shared → Prop}, NmAll X es us → Q us s →
    wpAny (model X.prog X.w) (X.A.mark (some (.ref a))) (spliced (backTo pos (starEach es X.env))) Q E s
  | _, _, _, .nil, h => Calls.spliced_nil h
  | _, _, Q, .cons (x := x) (c := c) (np := np) (es := es) (us := us) hc r, h => by
    show wpAny _ _ (spliced ((false, eval (.Name x np) X.env) :: backTo pos (starEach es X.env))) _ _ s
    refine Calls.spliced_cons ?_
    have go : wpAny (model X.prog X.w) (X.A.mark (some (.ref a))) (spliced (backTo pos (starEach es X.env))) (fun us s' => Q (c :: us) s') E s := nm_run S r h
    obtain ⟨hg, hdbg, hm | ⟨hm, hv, hnn⟩⟩ := hc
    · exact ld_glob (X := X.suite a pn) S hg hm go hdbg
    · exact ld_blt (X := X.suite a pn) S hg hm hv go hnn hdbg
theorem fl_keep {B h h' : Heap} {l : List Env} {a : Addr} {Z : Obj → Prop} (fl : HandSPX.FlyingZ B l a Z h) (k : ∀ b o, h.get? b = some o → h'.get? b = some o) : HandSPX.FlyingZ B l a Z h' := by
  obtain ⟨f1, f2, f3, oe, vs, T, oT, ts, g1, g2, g3, g4, g5, g6, g7, g8⟩ := fl
  exact ⟨fun b o e => k b o (f1 b o e), f2, Heap.FunFrames.of_keeps (fun b o e _ => ⟨o, k b o e, rfl⟩) f3, oe, vs, T, oT, ts, k _ _ g1, g2, g3, g4, g5, g6, k _ _ g7, g8⟩
/-- what 'except (C1, ..) as n' wishes, where the suite may keep the error: behind it the error stands in the heap -/
def wKeep (K : PySem.W.Frag) (us : List Value) (i : Nat) (ts : Addr → Value → Option Addr → TS) (Wout : WX) (D : Ends) : WX := fun cls d σ H =>
  ∃ b, PySem.W.exmAny K cls us = some b ∧ (b = true → ∀ a, H a = none → ts a cls d { nx := fun σ' H' => D.nx (σ'.set i none) (upd H' a (ErV cls d a)), rt := fun _ _ => False, bk := fun _ _ => False, ct := fun _ _ => False } (σ.set i (some (.ref a))) H) ∧ (b = false → Wout cls d σ H)
section
variable {X : Cx} {n : Str} {us : List Value} {es : List Expr} {i : Nat} {body suite : List Stmt} {b₀ : Stmt} {kx : Nat} {np pos pos' : Pos} {tb : WX → TS} {ts : Addr → Value → Option Addr → TS} {Wout : WX}
theorem ps_try_keep (hs : X.stack = X.env :: X.outer) (hf : X.env.frame = some X.env.locals) (hex : X.ex = []) (hN : X.N.Nodup) (hi : X.N[i]? = some n) (hln : X.env.kindOf n = some .local) (hc : NmAll X es us) (hel : us.length ≤ 1000) (tk : Takes X Wout)
    (hb : ∀ (W : WX) (pn : List (Addr × Obj)) (xe : Value → Shared → Prop), Takes (X.tr pn xe) W → PassesOwn (model X.prog X.w) X.A X.env xe → PSs (X.tr pn xe) body (tb W))
    (hsu : ∀ (a : Addr) (oe : Obj) (cls : Value) (d : Option Addr) (pn : List (Addr × Obj)), Zc cls d oe → (∃ vs, oe.data = .fields vs) → PSs (X.suite a ((a, oe) :: pn)) (b₀ :: suite) (ts a cls d)) :
    PS X (.Try body [.ExceptHandler (some (.Tuple es kx np)) (some n) (b₀ :: suite) pos'] [] [] pos) (fun D σ H => tb (wKeep X.K us i ts Wout D) D σ H) := by
  refine ⟨fun pins s σ H D I h => ?_⟩
  have ok := I.ok; have hfr : X.A.frames = some (X.env :: X.outer) := by rw [ok.frames, hs]
  have hloc : Loc X.env.scope n := .inl hln
  refine wpAny_Try_except ?_
  refine wpAny_mono ((hb (wKeep X.K us i ts Wout D) (X.pn ++ pins) (fun e s₁ => wpAny (model X.prog X.w) X.A (noteFrame e X.env) (fun _ s₂ => wpAny (model X.prog X.w) X.A (setFlight e none) (fun _ s₃ => wpAny (model X.prog X.w) X.A (handleBy e X.env [.ExceptHandler (some (.Tuple es kx np)) (some n) (b₀ :: suite) pos']) (SP X pins D) X.xe s₃) X.xe s₂) X.xe s₁) (fun u s' xx => ?_) PassesOwn.looking).run [] s σ H D (I.toTry _) h) (fun f s1 hsp => ?_) (fun e s1 he => he)
  · obtain ⟨a, B, sI, pins', σ', H', cls, d, rfl, J', nb, up, sky, na, os, ag, b, hb1, hyes, hno⟩ := xx
    have J : Inv X pins σ' H' sI := J'.ofTry ok
    have sky' : Sky B (X.env :: X.outer) a (Zc cls d) X.env.locals s'.heap := by rw [← hs]; exact sky
    show wpAny (model X.prog X.w) X.A (noteFrame (.ref a) X.env) _ _ _
    refine Sky.land Zc.steady hfr hf sky' fun h2 fl2 up2 => ?_
    have J2 : Inv X pins σ' H' { s' with heap := h2 } := J.landed nb fl2.1 (up.trans up2) os ag
    obtain ⟨oe2, vs2, he2, hz2, hd2⟩ := fl2.there
    have nfr : a ∉ frs (X.env :: X.outer) := fun hm => by
      obtain ⟨_, o', e', hnf⟩ := fl2.2.2.1.mem hm
      rw [he2] at e'; cases e'; exact hnf _ hd2
    have nL : a ≠ X.env.locals := fun z => nfr (List.mem_filterMap.mpr ⟨X.env, List.mem_cons_self, by rw [hf, z]⟩)
    have nF : a ∉ X.fs := fun hm => by
      obtain ⟨e, he, q⟩ := List.mem_filterMap.mp hm
      exact nfr (List.mem_filterMap.mpr ⟨e, List.mem_cons_of_mem _ he, q⟩)
    have noB : ∀ o, sI.heap.get? a ≠ some o := fun o q => by
      have z := nb a o q (by rw [hs]; exact nfr)
      have z' : B.get? a = none := fl2.2.1
      rw [z'] at z; cases z
    have n0 : X.s_0.heap.get? a = none := by
      cases q : X.s_0.heap.get? a with
      | none => rfl
      | some o =>
        obtain ⟨o', z⟩ := J.base.there a o q (by rw [hex]; exact fun y => nomatch y)
        exact absurd z (noB o')
    have npn : ∀ p ∈ X.pn ++ pins, p.1 ≠ a := fun p hp z => by
      obtain ⟨q, _⟩ := J.pin p hp
      rw [z] at q; exact noB _ q
    have S2 := J2.suite he2 hd2 na nL nF
    refine wpAny_handleBy_cons (codeAny_handlers_test ?_) (by intro q; cases q)
    refine Tuple_ (nm_run S2 hc ?_)
    refine wpAny_newObj_type ?_ (by show us.toArray.size ≤ sizeLine; rw [List.size_toArray]; exact Nat.le_of_lt (small1000 hel))
    have kp : ∀ b o, h2.get? b = some o → (h2.push { cls := .type "tuple", data := .seq us.toArray }).get? b = some o := fun b o e => Heap.get?_push_of_some _ e
    have htp : (h2.push { cls := .type "tuple", data := .seq us.toArray }).get? h2.objs.size = some { cls := .type "tuple", data := .seq us.toArray } := Heap.get?_push_size _ rfl
    have fl3 := fl_keep fl2 kp; have up3 := (up.trans up2).trans (Heap.UpToSlots.of_keeps kp)
    show wpAny _ _ (excMatches (.ref a) (.ref h2.objs.size)) _ _ { s' with heap := h2.push { cls := .type "tuple", data := .seq us.toArray } }
    generalize h2.push { cls := .type "tuple", data := .seq us.toArray } = h3 at kp htp fl3 up3 ⊢
    have J3 : Inv X pins σ' H' { s' with heap := h3 } := J.landed nb fl3.1 up3 os ag
    have LT : PySem.W.Looks (model X.prog X.w) h3 (typeOf (.ref a)) cls := fun A Q E s k q => wpAny_typeOf_ref (k _ _ (kp _ _ he2)) (by rw [hz2.1]; exact q)
    have LM := exm_any (M := model X.prog X.w) (J3.kIn) LT htp hb1
    refine LM.here ?_
    cases b with
    | true =>
      refine codeAny_handlers_suite_as ?_
      refine HandSPX.lands_againZ fl3 fun h4 fl4 up4 => ?_
      have J4 : Inv X pins σ' H' { s' with heap := h4 } := J.landed nb fl4.1 (up3.trans up4) os ag
      obtain ⟨oe4, vs4, he4, hz4, hd4⟩ := fl4.there
      have S4 := J4.suite he4 hd4 na nL nF
      refine store_ok (X := X.suite a ((a, oe4) :: (X.pn ++ pins))) (v := .ref a) S4 hN hi hloc rfl (fun s5 S5 => ?_) (.inr hln)
      refine wpAny_mono ((hsu a oe4 cls d (X.pn ++ pins) hz4 ⟨_, hd4⟩).run [] s5 _ H' _ S5 (hyes rfl a na)) (fun f s6 hsp => ?_) (fun _ _ z => False.elim z)
      cases f with
      | next =>
        obtain ⟨σ6, H6, S6, q6⟩ := hsp
        exact gone_ok (unsuiteK S6 ok) hN hi hln fun s7 J7 => ⟨_, _, putDown J7 hz4 hd4 n0 npn, q6⟩
      | brk => obtain ⟨_, _, _, q6⟩ := hsp; exact q6.elim
      | cont => obtain ⟨_, _, _, q6⟩ := hsp; exact q6.elim
      | ret u => obtain ⟨_, _, _, _, _, q6⟩ := hsp; exact q6.elim
    | false =>
      show wpAny _ X.A (handleBy (.ref a) X.env []) _ _ _
      refine wpAny_handleBy_nil ?_
      obtain ⟨k1, k2, k3, oe, vs, T, oT, ts', he, hz, hd, h1, hr⟩ := id fl3
      unfold PySem.passOn
      refine wpAny_bind (wpAny_field he hd h1 ?_)
      rw [if_neg (show ¬ ((Value.ref T == Value.none) = true) from by simp)]
      have fin : wpAny (model X.prog X.w) X.A (setFlight (.ref a) X.env.frame) (fun _ s4 => wpAny (model X.prog X.w) X.A (throw (.ref a) : Sem Flow) (SP X pins D) X.xe s4) X.xe { s' with heap := h3 } := by
        rw [hf]
        refine HandSPX.setFlight_upZ fl3 fun h4 hh4 up4 => wpAny_throw (tk _ _ ?_)
        exact ⟨a, B, sI, pins, σ', H', cls, d, rfl, J, nb, up3.trans up4, .inr (.inr (by rw [hs]; exact hh4)), na, os, ag, hno rfl⟩
      first
        | exact wpAny_bind (wpAny_pure (wpAny_bind fin))
        | exact wpAny_bind fin
  · cases f with
    | next => obtain ⟨σ', H', J', q⟩ := hsp; exact wpAny_execs_nil ⟨σ', H', J'.ofTry ok, q⟩
    | brk => obtain ⟨σ', H', J', q⟩ := hsp; exact ⟨σ', H', J'.ofTry ok, q⟩
    | cont => obtain ⟨σ', H', J', q⟩ := hsp; exact ⟨σ', H', J'.ofTry ok, q⟩
    | ret u => obtain ⟨v, σ', H', J', r, q⟩ := hsp; exact ⟨v, σ', H', J'.ofTry ok, r, q⟩
end
end Bal

namespace Bal
open PySem PySem.Spec PyProof.Rows L2
/-- the dict of a kept error, where it has one, stands -/
def DcOk (H : Hp) (d : Option Addr) : Prop := ∀ dd, d = some dd → ∃ fs, H dd = some (.xd fs)
theorem DcOk.none {H : Hp} : DcOk H Option.none := fun _ e => nomatch e
theorem DcOk.some {H : Hp} {dd : Addr} {fs : List (Str × V)} (h : H dd = some (.xd fs)) : DcOk H (Option.some dd) := fun _ e => by cases e; exact ⟨fs, h⟩
section
variable {X : Cx} {pins : List (Addr × Obj)} {σ : L2.St} {H : Hp} {s : Shared} {a D : Addr} {d : Option Addr}
theorem erV_inst (I : Inv X pins σ H s) (e : H a = some (ErV (.ref D) d a)) (k : DcOk H d) : ∃ ox od, PySem.W.InstAt s.heap a ox D od := by
  obtain ⟨oe, vs, hg, hz, hd⟩ := erV_at I.hok e
  cases d with
  | none => exact ⟨oe, Option.none, hg, hz.1, by unfold PySem.W.notCls; rw [hd], by rw [hz.2]; trivial⟩
  | some dd =>
    obtain ⟨fs, h⟩ := k dd rfl
    obtain ⟨mA, hns, _⟩ := (show ObjOk X.prog X.w H s.heap dd (.xd fs) from I.hok dd _ h)
    obtain ⟨od, ho, _⟩ := lookIn_ns hns
    exact ⟨oe, Option.some od, hg, hz.1, by unfold PySem.W.notCls; rw [hd], by rw [hz.2]; exact ho⟩
theorem kitV (C : ExcC X.K D) {ox : Obj} {od : Option Obj} : PySem.W.KitX X.K (.ref a) (.ref D) (fun h => PySem.W.InstAt h a ox D od) :=
  PySem.W.kitx_exc (by obtain ⟨cd, hc, _⟩ := PySem.W.any_some C.hd; rw [hc]; rfl) C.hg C.hk C.hs C.ha C.hn C.ht C.hm
/-- isinstance(e, C), e a kept error -/
def rIsV (K : PySem.W.Frag) : List V → Hp → VK → Prop := fun xs H Q => ∃ (a D : Addr) (d : Option Addr) (c : V) (u : Value) (b : Bool), xs = [.ref a, c] ∧ H a = some (ErV (.ref D) d a) ∧ ExcC K D ∧ DcOk H d ∧ ClsV c u ∧ PySem.W.kitOne K (.ref D) u = some b ∧ Q (.bl b) H
theorem call_isV : CallR X (.builtin "isinstance") (rIsV X.K) := by
  intro pins s σ H xs us Q I r h
  obtain ⟨a, D, d, c, u, b, rfl, e, C, dk, k, ek, q⟩ := h
  obtain ⟨u1, u2, rfl, r1, r2⟩ := vals2 r
  have e2 := k.eq r2
  subst e2
  cases (show u1 = Value.ref a from r1)
  obtain ⟨ox, od, J⟩ := erV_inst I e dk
  exact PySem.W.kia_one (kitV C) I.kIn J ek (fun z => nomatch z) fun tk => ⟨.bl b, H, I.tok tk, rfl, q⟩
/-- isinstance(e, (C1, ..)) -/
def rIsVT (K : PySem.W.Frag) : List V → Hp → VK → Prop := fun xs H Q => ∃ (a D : Addr) (d : Option Addr) (tp : Addr) (cs : List V) (us : List Value) (b : Bool), xs = [.ref a, .ref tp] ∧ H a = some (ErV (.ref D) d a) ∧ ExcC K D ∧ DcOk H d ∧ H tp = some (.tup cs) ∧ Paired ClsV cs us ∧ PySem.W.kitAny K (.ref D) us = some b ∧ Q (.bl b) H
theorem call_isVT : CallR X (.builtin "isinstance") (rIsVT X.K) := by
  intro pins s σ H xs us Q I r h
  obtain ⟨a, D, d, tp, cs, ws, b, rfl, e, C, dk, hT, k, ek, q⟩ := h
  obtain ⟨u1, u2, rfl, r1, r2⟩ := vals2 r
  cases (show u1 = Value.ref a from r1)
  cases (show u2 = Value.ref tp from r2)
  obtain ⟨ox, od, J⟩ := erV_inst I e dk
  obtain ⟨_, its, rv, o, h1, h2, n, h3⟩ := (show ObjOk X.prog X.w H s.heap tp (.tup cs) from I.hok tp _ hT)
  have e3 := ClsV.all k rv
  subst e3
  obtain ⟨oc, od', dt, sl⟩ := o
  simp only at h2 h3
  subst h2 h3
  exact PySem.W.kia_tup (kitV C) I.kIn J h1 ek (fun z => nomatch z) fun tk => ⟨.bl b, H, I.tok tk, rfl, q⟩
/-- e.f, e a kept error -/
def tFV (K : PySem.W.Frag) (f : Str) (te : TE) : TE := fun σ H Q => te σ H fun x H1 => ∃ (a D dd : Addr) (fs : List (Str × V)) (v : V), x = .ref a ∧ H1 a = some (ErV (.ref D) (some dd) a) ∧ ExcC K D ∧ PySem.W.findIn K (.ref D) f = some none ∧ H1 dd = some (.xd fs) ∧ fs.lookup f = some v ∧ Q v H1
theorem pe_fV {e : Expr} {te : TE} {pos : Pos} {n : Str} (he : PE X e te) (hb : attributeBase e n X.env (eval e X.env) = eval e X.env := by rfl) : PE X (.Attribute e n pos) (tFV X.K n te) := by
  refine ⟨fun pins s σ H Q I h => ?_⟩
  refine attr_of hb (thn (he.run pins s σ H _ I h) fun u s1 ⟨x, H1, I1, rx, a, D, dd, fs, v, ex, ea, C, hno, ed, l, q⟩ => ?_)
  subst ex
  obtain rfl : u = Value.ref a := rx
  obtain ⟨oe, vs, hg, hz, hd⟩ := erV_at I1.hok ea
  obtain ⟨mA, hns, hr⟩ := (show ObjOk X.prog X.w H1 s1.heap dd (.xd fs) from I1.hok dd _ ed)
  obtain ⟨od, ho, hl⟩ := lookIn_ns hns
  obtain ⟨u, hu, ru⟩ := RelO.some_of (v := v) (o := mA n) (by rw [← l]; exact hr n)
  have J : PySem.W.InstAt s1.heap a oe D (some od) := ⟨hg, hz.1, by unfold PySem.W.notCls; rw [hd], by rw [hz.2]; exact ho⟩
  exact HandSPX.exc_get I1.kIn J C.hg C.hk C.hs (PySem.W.findObj_own C.hd hno rfl (by rw [hl, hu])) (handed_of ru) ⟨v, H1, I1.tok _, ru, q⟩
/-! ### calls by names alone -/
/-- how such a call binds: g puts the values ws of the names ks in the parameters' order -/
structure KB0 (K : PySem.W.Frag) (fd : FuncData) (ps ks : List Str) (g : List Value → List Value) (gV : List V → List V) : Prop where
  to : ∀ (s : Shared) (ws : List Value), K.In s.heap → ws.length = ks.length → BindsTo s fd ⟨[], ks.zip ws⟩ (ps.zip (g ws))
  rel : ∀ {zs : List V} {ws : List Value}, zs.length = ks.length → Vals zs ws → Vals (gV zs) (g ws)
section
variable {CX : CXT} {x : Str} {f : Addr} {k : Nat} {fd : FuncData} {ps ks : List Str} {sp : Sp} {g : List Value → List Value} {gV : List V → List V} {E : XK} {kws : List Keyword} {tk : TA} {p pos : Pos}
def tCallK0 (n : Nat) (sp : Sp) (gV : List V → List V) (E : XK) (tk : TA) : TE := fun σ H Q => tk σ H fun zs H1 => zs.length = n ∧ sp (gV zs) H1 Q E
theorem pe_callK0 (F : FnOk X.prog X.w X.K X.mg X.base CX k f fd ps sp) (hr : Room k X.A) (hg : Gl X x) (hm : X.mg x = some (.ref f)) (hk : PySem.W.keepIn X.K (.ref f) = true) (hb : KB0 X.K fd ps ks g gV) (hx : Passes CX X E) (hkw : PK X kws tk)
    (hall : (backToKw pos (keywordEach kws X.env)).all (·.1.isSome) = true := by rfl) (hks : (backToKw pos (keywordEach kws X.env)).filterMap (·.1) = ks := by rfl) (hdb : (x == ("__debug__" : Str)) = false := by decide)
    (hpl : ((backTo pos (starEach [] X.env)).any (·.1) || (backToKw pos (keywordEach kws X.env)).any (·.1.isNone)) = false := by rfl) : PE X (.Call (.Name x p) [] kws pos) (tCallK0 ks.length sp gV E tk) := by
  refine ⟨fun pins s σ H Q I h => ?_⟩
  refine wpAny_Call_Name_kw (ld_glob I hg hm ?_ hdb)
  refine PySem.W.callWith_KW0 (h₀ := X.base) I.ok.mod.kin hk hall (thn (hkw.run pos pins s σ H _ I h) fun ws s2 ⟨zs, H2, I2, rz, hz, q2⟩ => ⟨I2.kIn, ?_⟩) hpl
  rw [hks]
  refine wpAny_call (codeAny_mono (F.run X.A X.stack s2 H2 ⟨[], ks.zip ws⟩ (g ws) (gV zs) Q E hr I2.env0 (hb.to s2 ws I2.kIn (by rw [← rz.length]; exact hz)) (hb.rel hz rz) q2) fun r s' hq => ?_)
  cases r with
  | error e => exact hx pins σ H2 s2 e s' I2 hq
  | ok fl =>
    cases fl with
    | ret u => exact I2.after hq
    | next => exact False.elim hq
    | brk => exact False.elim hq
    | cont => exact False.elim hq
end
/-- one name -/
theorem kb_one {K : PySem.W.Frag} {x qual : Str} {st : Stmt} {f : Addr} {fd : FuncData} {a : Str} (F : Fun K x qual st f fd)
    (h : ∀ (kV doc pm : Value) (an : Option Addr) (cdv ct : Value) (u : Value), bindArgs (PySem.W.fnOf x qual (defArgs st) (defBody st) (defScope st) .none kV doc pm an cdv ct) ⟨[], [(a, u)]⟩ = pure [(a, u)]) : KB0 K fd [a] [a] (fun w => w) (fun w => w) := by
  obtain ⟨oc, od, kV, doc, pm, an, cdv, ct, osl, rfl, lk, hcd⟩ := F.ex
  exact ⟨fun s ws _ hl => match ws, hl with | [u], _ => .of_eq (h kV doc pm an cdv ct u), fun _ r => r⟩
/-- two names, the other way about -/
def flip2 {α : Type} : List α → List α
  | [a, b] => [b, a]
  | l => l
theorem kb_flip {K : PySem.W.Frag} {x qual : Str} {st : Stmt} {f : Addr} {fd : FuncData} {a b : Str} (F : Fun K x qual st f fd)
    (h : ∀ (kV doc pm : Value) (an : Option Addr) (cdv ct : Value) (u v : Value), bindArgs (PySem.W.fnOf x qual (defArgs st) (defBody st) (defScope st) .none kV doc pm an cdv ct) ⟨[], [(b, u), (a, v)]⟩ = pure [(a, v), (b, u)]) : KB0 K fd [a, b] [b, a] flip2 flip2 := by
  obtain ⟨oc, od, kV, doc, pm, an, cdv, ct, osl, rfl, lk, hcd⟩ := F.ex
  refine ⟨fun s ws _ hl => match ws, hl with | [u, v], _ => .of_eq (h kV doc pm an cdv ct u v), fun {zs ws} hz r => ?_⟩
  match zs, hz with
  | [z1, z2], _ =>
    cases r with
    | cons r1 r =>
      cases r with
      | cons r2 r =>
        cases r
        exact .cons r2 (.cons r1 .nil)
end
/-! ### xs[::-1] of a list or a tuple -/
theorem rg_rev (n : Nat) : (List.range n).map (fun m => n - 1 - m) = (List.range n).reverse := by
  apply List.ext_getElem
  · simp
  · intro i h1 h2
    simp
theorem rev_pick (xs : Array Value) : ((List.range xs.size).filterMap fun (m : Nat) => xs[(((xs.size : Int) - 1) + (m : Int) * (-1)).toNat]?).toArray = xs.toList.reverse.toArray := by
  have e : (fun (m : Nat) => xs[(((xs.size : Int) - 1) + (m : Int) * (-1)).toNat]?) = (fun k : Nat => xs[k]?) ∘ fun m => xs.size - 1 - m := by
    funext m
    have : (((xs.size : Int) - 1) + (m : Int) * (-1)).toNat = xs.size - 1 - m := by omega
    show xs[(((xs.size : Int) - 1) + (m : Int) * (-1)).toNat]? = xs[xs.size - 1 - m]?
    rw [this]
  rw [e, ← List.filterMap_map, rg_rev, List.filterMap_reverse, PySem.W.krv_all]
section
variable {prog : Program} {w : World} {A : Around} {E : Value → Shared → Prop} {s : Shared}
theorem sl_rev {sl : Addr} {vk : Value} {n : Nat} {Q : Int × Int × Nat → Shared → Prop} (hs : s.heap.IsSliceOf sl .none .none vk) (pk : IsPart vk (some (-1))) (h : Q ((n : Int) - 1, -1, n) s) : wpAny (model prog w) A (Builtin.Slice.sliceApplied (.ref sl) (pure (n : Int))) Q E s := by
  obtain ⟨os, hos, hcs, hds⟩ := id hs
  unfold Builtin.Slice.sliceApplied Builtin.Slice.sliceFields
  refine wpAny_bind (wpAny_bind (wpAny_field hos hds (x := .none) rfl (wpAny_bind (wpAny_field hos hds (x := .none) rfl (wpAny_bind (wpAny_field hos hds (x := vk) rfl (wpAny_pure ?_)))))))
  refine wpAny_bind (HT.slicePart_ pk ?_)
  show wpAny _ _ (if ((-1 : Int) == 0) = true then _ else _) _ _ s
  rw [if_neg (by decide)]
  refine wpAny_bind (slicePart_none (wpAny_bind (slicePart_none (wpAny_bind (wpAny_pure ?_)))))
  show wpAny _ _ (pure ((n : Int) - 1, (-1 : Int), Builtin.Slice.slicePlaces ((n : Int) - 1) (-1) (-1))) _ _ s
  have e : Builtin.Slice.slicePlaces ((n : Int) - 1) (-1) (-1) = n := by
    unfold Builtin.Slice.slicePlaces
    rw [if_neg (by decide), show (-(-1 : Int)) = 1 from rfl, Int.ediv_one]
    split <;> omega
  rw [e]
  exact wpAny_pure h
theorem getItem_tup_rev {t sl : Addr} {items : Array Value} {vk : Value} {Q : Value → Shared → Prop} (ht : IsTup s.heap t items) (hs : s.heap.IsSliceOf sl .none .none vk) (pk : IsPart vk (some (-1)))
    (h : Q (.ref s.heap.objs.size) { s with heap := s.heap.push { cls := .type "tuple", data := .seq items.toList.reverse.toArray } }) (hsz : items.size ≤ sizeLine) : wpAny (model prog w) A (getItem (.ref t) (.ref sl)) Q E s := by
  have hok : sizeOk (.seq items.toList.reverse.toArray) := by
    show items.toList.reverse.toArray.size ≤ sizeLine
    rw [List.size_toArray, List.length_reverse, Array.length_toList]
    exact hsz
  obtain ⟨os, hos, hcs, hds⟩ := id hs; have hTs : s.TypeIs (.ref sl) "slice" := ⟨os, hos, hcs⟩
  unfold getItem
  try with_reducible refine wpAny_holding ?_
  first | refine wpAny_bind (wpAny_pure ?_) | skip
  refine wpAny_bind (wpAny_sequenceKey ht.typeIs (by decide) ?_)
  refine wpAny_bind (wpAny_callSpecial?_slot (name := Str.ofString "__getitem__") ht.typeIs PyProof.Rows.slot_tuple_getitem (wpAny_call_entry PyProof.Rows.slot_tuple_getitem ht.typeIs entry_tuple_getitem ?_ (args_tuple_getitem _ _)))
  show wpAny _ _ (Builtin.Tuple.tupleItemsOf (.ref t) >>= _) _ _ s
  refine wpAny_bind (tupleItemsOf_ ht ?_)
  refine wpAny_bind (wpAny_typeOf hTs ?_)
  rw [if_pos (by decide)]
  refine wpAny_bind (sl_rev hs pk ?_)
  have hno : ¬ ((((items.size : Int) - 1) == 0 && (-1 : Int) == 1 && items.size == items.size) = true) := by
    rw [show ((-1 : Int) == 1) = false from rfl, Bool.and_false, Bool.false_and]
    exact Bool.false_ne_true
  show wpAny _ _ (if (((items.size : Int) - 1) == 0 && (-1 : Int) == 1 && items.size == items.size) = true then _ else _) _ _ s
  rw [if_neg hno, rev_pick]
  first
    | exact wpAny_bind (m := Builtin.Tuple.tupleExact _) (wpAny_newObj_type (wpAny_pure ⟨_, rfl, wpAny_pure h⟩) hok)
    | exact wpAny_bind (m := Builtin.Tuple.tupleExact _) (wpAny_newObj_type (wpAny_bind (wpAny_pure (wpAny_pure ⟨_, rfl, wpAny_pure h⟩))) hok)
    | exact wpAny_bind (wpAny_bind (m := Builtin.Tuple.tupleExact _) (wpAny_newObj_type (wpAny_pure (wpAny_pure ⟨_, rfl, wpAny_pure h⟩)) hok))
    | exact wpAny_bind (wpAny_bind (m := Builtin.Tuple.tupleExact _) (wpAny_newObj_type (wpAny_pure ⟨_, rfl, wpAny_pure h⟩) hok))
end
section
variable {X : Cx}
/-- xs[::-1]: a new list, a new tuple -/
def tRevA (K : PySem.W.Frag) (te : TE) : TE := fun σ H Q => te σ H fun x H1 => ∃ a xs, x = .ref a ∧ ((SqL K H1 a xs ∧ ∀ p, H1 p = none → Q (.ref p) (upd H1 p (.lst xs.reverse))) ∨ (SqT K H1 a xs ∧ ∀ p, H1 p = none → Q (.ref p) (upd H1 p (.tup xs.reverse))))
theorem pe_revA {e : Expr} {te : TE} {k : Nat} {p1 p2 p3 pos : Pos} (he : PE X e te) : PE X (.Subscript e (.Slice none none (some (.UnaryOp .USub (.Constant (.int 1) k p1) p2)) p3) pos) (tRevA X.K te) := by
  refine ⟨fun pins s σ H Q I h => ?_⟩
  refine Subscript_ (thn (he.run pins s σ H _ I h) fun v s1 ⟨x, H1, I1, r1, a, xs, ex, q1⟩ => ?_)
  subst ex; cases r1
  have hst : PO X (some (.UnaryOp .USub (.Constant (.int 1) k p1) p2)) (tPart (tUn (rU fun i => .int (-i)) (tC (.int 1)))) := po_some (pe_un un_neg pe_int)
  refine wpAny_Slice (thn (po_none.run pins s1 σ H1 (fun o H2 => o = none ∧ H2 = H1) I1 ⟨rfl, rfl⟩) fun vl s2 ⟨l, H2, I2, pl, el, e2⟩ => ?_)
  subst el e2
  refine thn (po_none.run pins s2 σ H2 (fun o H3 => o = none ∧ H3 = H2) I2 ⟨rfl, rfl⟩) fun vu s3 ⟨u, H3, I3, pu, eu, e3⟩ => ?_
  subst eu e3
  refine thn (hst.run pins s3 σ H3 (fun o H4 => o = some (-1) ∧ H4 = H3) I3 ⟨1, rfl, -1, rfl, rfl, rfl⟩) fun vs s4 ⟨o, H4, I4, ps, eo, e4⟩ => ?_
  subst eo e4
  have I5 : Inv X pins σ H4 { s4 with heap := s4.heap.push { cls := .type "slice", data := .fields #[vl, vu, vs] } } := I4.kept (t' := s4.toks) fun b ob q => Heap.get?_push_of_some _ q
  show wpAny (model X.prog X.w) X.A (subscriptTail e (.Slice none none (some (.UnaryOp .USub (.Constant (.int 1) k p1) p2)) p3) (.ref a) (.ref s4.heap.objs.size)) (EP X pins σ Q) X.xe { s4 with heap := s4.heap.push { cls := .type "slice", data := .fields #[vl, vu, vs] } }
  rcases q1 with ⟨hx, q⟩ | ⟨hx, q⟩
  · obtain ⟨its, r, ht, hz⟩ := I5.list hx
    have hlen := r.length
    refine tail_any (ops := [.ref a, .ref s4.heap.objs.size]) ht.isList.typeIs (PySem.slot_list_getitem.lookup) ?_ (by with_unfolding_all rfl)
    refine wpAny_getItem_list_slice ht.isList (Heap.IsSliceOf.new _ vl vu vs) pl pu ps (by decide) ?_ (by rw [List.size_toArray]; omega)
    rw [PySem.W.krv_pick]
    exact ⟨.ref _, _, I5.laid (t' := s4.toks) (o := .lst xs.reverse) (fun b ob q => Heap.get?_push_of_some _ q) (Nat.le_refl _) ⟨by rw [List.length_reverse]; exact hz, _, 0, r.reverse, Heap.get?_push_size _ rfl⟩, rfl, q _ (I5.hok.fresh (Nat.le_refl _))⟩
  · obtain ⟨its, r, ht, hz⟩ := I5.tuple hx
    have hlen := r.length
    cases pl; cases pu
    refine tail_any (ops := [.ref a, .ref s4.heap.objs.size]) ht.typeIs (PyProof.Rows.slot_tuple_getitem.lookup) ?_ (by with_unfolding_all rfl)
    refine getItem_tup_rev ht (Heap.IsSliceOf.new _ _ _ vs) ps ?_ (by rw [List.size_toArray]; omega)
    exact ⟨.ref _, _, I5.laid (t' := s4.toks) (o := .tup xs.reverse) (fun b ob q => Heap.get?_push_of_some _ q) (Nat.le_refl _) ⟨by rw [List.length_reverse]; exact hz, _, r.reverse, IsTup.new _ _⟩, rfl, q _ (I5.hok.fresh (Nat.le_refl _))⟩
end
/-! ### what classes are to one another -/
theorem kit_self {K : PySem.W.Frag} {D : Addr} : PySem.W.kitOne K (.ref D) (.ref D) = some true := by
  unfold PySem.W.kitOne
  rw [if_pos (beq_self_eq_true _)]
theorem kit_no {K : PySem.W.Frag} {D C : Addr} (hd : PySem.W.hasDictIn K C = true) (ht : PySem.W.typeIn K (.ref C) = some (.type "type")) (hs : PySem.W.subIn K (.ref D) (.ref D) = some true) (h : PySem.W.subIn K (.ref D) (.ref C) = some false) : PySem.W.kitOne K (.ref D) (.ref C) = some false := by
  unfold PySem.W.kitOne
  have ne : ((Value.ref D == Value.ref C) = true) = False := by
    refine eq_false fun z => ?_
    have e : D = C := Value.ref.inj (beq_iff_eq.mp z)
    rw [e] at hs h
    rw [hs] at h
    cases h
  obtain ⟨cd, hc, _⟩ := PySem.W.any_some hd
  rw [if_neg (by rw [ne]; exact id)]
  show (if ((PySem.W.clsIn K C).isSome && PySem.W.typeIn K (.ref C) == some (.type "type")) = true then PySem.W.subIn K (.ref D) (.ref C) else none) = some false
  rw [hc, ht, if_pos (by rfl)]
  exact h
theorem kit_up {K : PySem.W.Frag} {D : Addr} {T : String} {b : Bool} (hm : PySem.W.kitMeta T = true) (h : PySem.W.subIn K (.ref D) (.type T) = some b) : PySem.W.kitOne K (.ref D) (.type T) = some b := by
  unfold PySem.W.kitOne
  have ne : ¬ (Value.ref D == Value.type T) = true := fun z => by
    have z := beq_iff_eq.mp z
    cases z
  rw [if_neg ne]
  show (if PySem.W.kitMeta T = true then PySem.W.subIn K (.ref D) (.type T) else none) = some b
  rw [if_pos hm]
  exact h
theorem kits_no {K : PySem.W.Frag} {t : Value} : ∀ {us : List Value}, (∀ u ∈ us, PySem.W.kitOne K t u = some false) → PySem.W.kitAny K t us = some false
  | [], _ => rfl
  | u :: us, h => by
    unfold PySem.W.kitAny
    rw [h u (List.mem_cons_self ..)]
    exact kits_no fun v hv => h v (List.mem_cons_of_mem _ hv)
theorem exms_yes {K : PySem.W.Frag} {cls : Value} : ∀ {us : List Value}, (∀ u ∈ us, ∃ b, PySem.W.exmOne K cls u = some b) → (∃ u ∈ us, PySem.W.exmOne K cls u = some true) → PySem.W.exmAny K cls us = some true := by
  have all : ∀ {us : List Value}, (∀ u ∈ us, ∃ b, PySem.W.exmOne K cls u = some b) → ∃ b, PySem.W.exmAny K cls us = some b := by
    intro us
    induction us with
    | nil => exact fun _ => ⟨false, rfl⟩
    | cons u us ih =>
      intro h
      obtain ⟨b, hb⟩ := h u (List.mem_cons_self ..)
      obtain ⟨d, hd⟩ := ih fun v hv => h v (List.mem_cons_of_mem _ hv)
      exact ⟨b || d, by unfold PySem.W.exmAny; rw [hb, hd]⟩
  intro us h ⟨u, hu, e⟩
  obtain ⟨b, hb⟩ := all h
  obtain ⟨_, eb⟩ := exmAny_each hb
  rw [hb, eb]
  have : (us.any fun c => PySem.W.exmOne K cls c == some true) = true := List.any_eq_true.mpr ⟨u, hu, by rw [e]; rfl⟩
  rw [this]
/-- a class of one's own among the errors: what is asked of it -/
structure ErK (K : PySem.W.Frag) (mg : Str → Option Value) (x : Str) (C : Addr) : Prop where
  g : mg x = some (.ref C)
  ex : PySem.W.subIn K (.ref C) (.type "BaseException") = some true
  hd : PySem.W.hasDictIn K C = true
  ty : PySem.W.typeIn K (.ref C) = some (.type "type")
theorem ErK.one {K : PySem.W.Frag} {mg : Str → Option Value} {x : Str} {C : Addr} (h : ErK K mg x C) {cls : Value} {b : Bool} (s : PySem.W.subIn K cls (.ref C) = some b) : PySem.W.exmOne K cls (.ref C) = some b := PySem.W.exm_ref h.ex h.hd h.ty s
/-- .. one with a field f, told by its __init__, and what makes its instances -/
structure ErT (K : PySem.W.Frag) (mg : Str → Option Value) (x f qual : Str) (st : Stmt) (C fI : Addr) (fdI : FuncData) (newId : String) (tail : List Value) : Prop where
  k : ErK K mg x C
  c : ErC K C newId tail
  i : ExcC K C
  iC : PySem.W.findIn K (.ref C) "__init__" = some (some (.ref fI))
  tI : PySem.W.typeIn K (.ref fI) = some (.type "function")
  F : Fun K "__init__" qual st fI fdI
  no : PySem.W.findIn K (.ref C) f = some none
  me : PySem.W.subIn K (.ref C) (.ref C) = some true
theorem mk_heap {H : Hp} {a dx : Addr} {o1 o2 o3 o4 : HO} (ha : H a = none) (ne : dx ≠ a) : upd (del (upd (upd (upd H a o1) dx o2) a o3) a) dx o4 = upd H dx o4 := by
  funext b
  by_cases h1 : b = dx
  · rw [h1, upd_same, upd_same]
  · rw [upd_ne h1, upd_ne h1]
    by_cases h2 : b = a
    · rw [h2, del_same, ha]
    · rw [del_ne h2, upd_ne h2, upd_ne h1, upd_ne h2]
/-- __init__(self, f): self.f = f -/
def spInit (K : PySem.W.Frag) (C : Addr) (f : Str) : Sp := fun vs H Q _ => ∃ (a : Addr) (v : V), vs = [.ref a, v] ∧ H a = some (exo a C none) ∧ ∀ dx, H dx = none → dx ≠ a → Q .non (upd (upd H dx (exd dx [(f, v)])) a (exo a C (some dx)))
/-- an error of the class at C is made of v -/
theorem made_er {K : PySem.W.Frag} {C : Addr} {f : Str} {v : V} {H : Hp} {Q : XK} (q : ∀ d, H d = none → Q (.ref C) (some d) (upd H d (.xd [(f, v)]))) : [v].length ≤ 1000 ∧ ∀ a, H a = none → spInit K C f (.ref a :: ([v] ++ [])) (upd H a (exo a C none))
    (fun v H2 => v = .non ∧ ∃ (d : Addr) (fs : List (Str × V)), H2 a = some (exo a C (some d)) ∧ H2 d = some (exd d fs) ∧ H d = none ∧ Q (.ref C) (some d) (upd (del H2 a) d (.xd fs))) (fun _ _ _ => False) := by
  refine ⟨by show 1 ≤ 1000; decide, fun a ha => ⟨a, v, rfl, upd_same, fun dx ndx ne => ⟨rfl, dx, [(f, v)], upd_same, ?_, ?_, ?_⟩⟩⟩
  · rw [upd_ne ne, upd_same]
  · rw [upd_ne ne] at ndx
    exact ndx
  · rw [mk_heap ha ne]
    rw [upd_ne ne] at ndx
    exact q dx ndx
theorem erT_mk {K : PySem.W.Frag} {mg : Str → Option Value} {x f qual : Str} {st : Stmt} {C fI : Addr} {fdI : FuncData} {newId : String} {tail : List Value} {nm qn : Str} {N : Addr} {bs : List Value} {sn : List Str} {sub : List Value} {ab : Bool} {col : Option Bool} {dd : Option Addr} {m0 m1 m2 m3 m5 : Option Value}
    (g : mg x = some (.ref C)) (xl : K.lookup C = some (excClassObj nm qn C N bs tail true sn sub ab col dd m0 m1 m2 m3 m5 newId)) (sa : PySem.W.findIn K (.ref C) "__setattr__" = some (some (.builtin "object.__setattr__"))) (ga : PySem.W.findIn K (.ref C) "__getattribute__" = some (some (.builtin "BaseException.__getattribute__")))
    (gg : PySem.W.findIn K (.ref C) "__getattr__" = some none) (no : PySem.W.findIn K (.ref C) f = some none) (iC : PySem.W.findIn K (.ref C) "__init__" = some (some (.ref fI))) (tI : PySem.W.typeIn K (.ref fI) = some (.type "function")) (F : Fun K "__init__" qual st fI fdI)
    (kC : PySem.W.keepIn K (.ref C) = true) (ex : PySem.W.subIn K (.ref C) (.type "BaseException") = some true) (ty : PySem.W.typeIn K (.ref C) = some (.type "type")) (hd : PySem.W.hasDictIn K C = true) (me : PySem.W.subIn K (.ref C) (.ref C) = some true)
    (ha : PySem.W.findIn K (.ref C) "__class__" = some (some (.builtin "object.__class__"))) (hm : PySem.W.mroIn K C (.type "object") = some true) (hn : PySem.W.specialIn K (.builtin "object.__class__") "__get__" = some (some (.builtin "getset_descriptor.__get__"))) (ht : PySem.W.takesIn K (.builtin "object.__class__") = some true) (bx : BaseX newId tail) :
    ErT K mg x f qual st C fI fdI newId tail := ⟨⟨g, ex, hd, ty⟩, ⟨bx, ⟨nm, qn, N, bs, sn, sub, ab, col, dd, m0, m1, m2, m3, m5, xl⟩, sa, ex, ty, kC⟩, ⟨ga, gg, ex, hd, ha, hn, ht, hm⟩, iC, tI, F, no, me⟩
end Bal

namespace Bal
open PySem PySem.Spec PyProof.Rows L2
abbrev sTurned : Stmt := topS 5
abbrev sExch : Stmt := topS 6
abbrev sSwapped : Stmt := topS 15
abbrev sTold : Stmt := topS 16
abbrev sRight : Stmt := topS 17
abbrev sLaw : Stmt := topS 18
theorem scTurned : FnScope ["row"] ["row"] (defScope sTurned) := ⟨rfl, rfl, rfl, by decide +kernel, rfl, by decide +kernel, by decide +kernel⟩
theorem scExch : FnScope ["row", "place", "heights"] ["row", "place"] (defScope sExch) := ⟨rfl, rfl, rfl, by decide +kernel, rfl, by decide +kernel, by decide +kernel⟩
theorem scSwapped : FnScope ["_law_line_here", "_law_spot"] ["_law_line_here", "_law_spot"] (defScope sSwapped) := ⟨rfl, rfl, rfl, by decide +kernel, rfl, by decide +kernel, by decide +kernel⟩
/-- those at i and i + 1 exchanged -/
def swp {α : Type} : List α → Nat → List α
  | x :: y :: r, 0 => y :: x :: r
  | x :: r, i + 1 => x :: swp r i
  | l, _ => l
theorem swp_cons {α : Type} (x : α) (l : List α) (i : Nat) : swp (x :: l) (i + 1) = x :: swp l i := by cases l <;> rfl
theorem swp_eq {α : Type} : ∀ (l : List α) (i : Nat) (h : i + 1 < l.length), swp l i = l.take i ++ [l[i + 1], l[i]] ++ l.drop (i + 2)
  | x :: y :: r, 0, _ => rfl
  | x :: y :: r, i + 1, h => by
    show x :: swp (y :: r) i = x :: ((y :: r).take i ++ [(y :: r)[i + 1]'(Nat.lt_of_succ_lt_succ h), (y :: r)[i]'(by have := h; simp at this ⊢; omega)] ++ (y :: r).drop (i + 2))
    rw [swp_eq (y :: r) i (Nat.lt_of_succ_lt_succ h)]
  | [x], i, h => by simp at h
  | [], i, h => by simp at h
theorem swp_len {α : Type} : ∀ (l : List α) (i : Nat), (swp l i).length = l.length
  | x :: y :: r, 0 => rfl
  | x :: y :: r, i + 1 => by
    show (swp (y :: r) i).length + 1 = (y :: r).length + 1
    rw [swp_len]
  | [x], 0 => rfl
  | [x], i + 1 => rfl
  | [], 0 => rfl
  | [], i + 1 => rfl
theorem swp_swp {α : Type} : ∀ (l : List α) (i : Nat), swp (swp l i) i = l
  | x :: y :: r, 0 => rfl
  | x :: r, i + 1 => by rw [swp_cons, swp_cons, swp_swp r i]
  | [x], 0 => rfl
  | [], 0 => rfl
  | [], i + 1 => rfl
theorem swp_map {α β : Type} (f : α → β) : ∀ (l : List α) (i : Nat), swp (l.map f) i = (swp l i).map f
  | x :: y :: r, 0 => rfl
  | x :: y :: r, i + 1 => by
    show f x :: swp ((y :: r).map f) i = f x :: (swp (y :: r) i).map f
    rw [swp_map]
  | [x], 0 => rfl
  | [x], i + 1 => rfl
  | [], 0 => rfl
  | [], i + 1 => rfl
section
variable {P : Program} {w : World} {K : PySem.W.Frag} {mg : Str → Option Value} {base : Heap}
/-! ### turned -/
def spTurned (K : PySem.W.Frag) : Sp := fun vs H Q _ => ∃ (a : Addr) (xs : List V), vs = [.ref a] ∧ (SqL K H a xs ∨ SqT K H a xs) ∧ ∀ p H', Same H H' → H' p = some (.tup xs.reverse) → Q (.ref p) H'
theorem ok_turned {f : Addr} {fd : FuncData} {k : Nat} (F : Fun K "turned" "turned" sTurned f fd) (mt : mg "tuple" = none) : FnOk P w K mg base CX0 (k + 1) f fd ["row"] (spTurned K) := by
  refine F.ok scTurned (fun vs H Q E h => ?_) (fun cdv A outer s H vs Q E hr h => ?_)
  · obtain ⟨a, xs, rfl, _⟩ := h
    rfl
  · obtain ⟨a, xs, rfl, hS, q⟩ := h
    refine ⟨_, pss_one (ps_ret (pe_callTy call_tuple_of (by rfl) mt (by decide +kernel) (pa_cons (pe_revA (pv 0)) pa_nil))), ?_⟩
    rcases hS with hS | hS
    · refine ⟨.ref a, rfl, a, xs, rfl, .inl ⟨hS, fun p np => ?_⟩⟩
      exact ⟨p, _, rfl, .inl ⟨.inl (.inl upd_same), fun t nt => q t _ ((sm_upd np).trans (sm_upd nt)) upd_same⟩⟩
    · refine ⟨.ref a, rfl, a, xs, rfl, .inr ⟨hS, fun p np => ?_⟩⟩
      exact ⟨p, _, rfl, .inr ⟨.inl (.inl upd_same), q p _ (sm_upd np) upd_same⟩⟩
/-! ### _law_swapped -/
def spSwapped (K : PySem.W.Frag) : Sp := fun vs H Q _ => ∃ (a : Addr) (xs : List V) (i : Nat), vs = [.ref a, .int i] ∧ SqT K H a xs ∧ i + 1 < xs.length ∧ xs.length ≤ 1000 ∧ ∀ p H', Same H H' → H' p = some (.tup (swp xs i)) → Q (.ref p) H'
theorem cut_to (xs : List V) (i : Nat) (h : i ≤ xs.length) : cutV xs none (some (i : Int)) = xs.take i := by
  unfold cutV
  rw [HT.sIx_none, HT.sIx_nat, Nat.min_eq_left h, Nat.sub_zero, List.drop_zero]
theorem cut_from (xs : List V) (i : Nat) (h : i ≤ xs.length) : cutV xs (some (i : Int)) none = xs.drop i := by
  unfold cutV
  rw [HT.sIx_none, HT.sIx_nat, Nat.min_eq_left h]
  exact List.take_of_length_le (by rw [List.length_drop]; exact Nat.le_refl _)
theorem ok_swapped {f : Addr} {fd : FuncData} {k : Nat} (F : Fun K "_law_swapped" "_law_swapped" sSwapped f fd) : FnOk P w K mg base CX0 (k + 1) f fd ["_law_line_here", "_law_spot"] (spSwapped K) := by
  refine F.ok scSwapped (fun vs H Q E h => ?_) (fun cdv A outer s H vs Q E hr h => ?_)
  · obtain ⟨a, xs, i, rfl, _⟩ := h
    rfl
  · obtain ⟨a, xs, i, rfl, hS, hi, hl, q⟩ := h
    refine ⟨_, pss_one (ps_ret (pe_op op_catA (pe_op op_catA (pe_slice sl_tupA (pv 0) po_none (po_some (pv 1))) (pe_tup (pa_cons (pe_ix ix_tup (pv 0) (pe_op op_add (pv 1) pe_int) (fun _ _ => rfl)) (pa_cons (pe_ix ix_tup (pv 0) (pv 1) (fun _ _ => rfl)) pa_nil))))
      (pe_slice sl_tupA (pv 0) (po_some (pe_op op_add (pv 1) pe_int)) po_none))), ?_⟩
    have sl : xs.length ≤ sizeLine := Nat.le_of_lt (small1000 hl)
    refine ⟨.ref a, rfl, .int i, rfl, i, rfl, a, xs, rfl, hS, fun z => ?_, fun _ p1 n1 => ?_⟩
    · obtain ⟨_, z⟩ := z
      rw [HT.sIx_nat] at z
      omega
    have s1 : Same H (upd H p1 (.tup (cutV xs none (some (i : Int))))) := sm_upd n1
    have h1 : upd H p1 (.tup (cutV xs none (some (i : Int)))) p1 = some (.tup (xs.take i)) := by rw [upd_same, cut_to _ _ (by omega)]
    generalize upd H p1 (.tup (cutV xs none (some (i : Int)))) = H1 at s1 h1
    have S1 := Same.sqT s1 hS
    have e1 : atI xs ((i : Int) + 1) = some xs[i + 1] := at_of (by omega) (List.getElem?_eq_getElem hi)
    have e2 : atI xs (i : Int) = some (xs[i]'(by omega)) := atI_nat (List.getElem?_eq_getElem (by omega))
    refine ⟨.ref a, rfl, .int i, rfl, _, _, rfl, rfl, a, xs, _, _, rfl, rfl, S1, e1, .ref a, rfl, .int i, rfl, a, xs, _, _, rfl, rfl, S1, e2, by show 2 ≤ sizeLine; decide, fun p2 n2 => ?_⟩
    have s2 : Same H1 (upd H1 p2 (.tup [xs[i + 1], xs[i]'(by omega)])) := sm_upd n2
    have h2 : upd H1 p2 (.tup [xs[i + 1], xs[i]'(by omega)]) p2 = some (.tup [xs[i + 1], xs[i]'(by omega)]) := upd_same
    generalize upd H1 p2 (.tup [xs[i + 1], xs[i]'(by omega)]) = H2 at s2 h2
    have fin : ∀ p3 H3, Same H2 H3 → H3 p3 = some (.tup (xs.take i ++ [xs[i + 1], xs[i]'(by omega)])) → tOp (rCatA K) (fun _ H' Q' => Q' (.ref p3) H') (tSl (rSlA K) (tVar 0) (tPart (tOp (rI0 fun i j => .int (i + j)) (tVar 1) (tC (.int 2)))) tNoPart) [some (.ref a), some (.int i)] H3 Q := by
      intro p3 H3 s3 h3
      have S3 := Same.sqT s3 (Same.sqT s2 S1)
      refine ⟨.ref a, rfl, .int i, rfl, _, _, rfl, rfl, _, rfl, a, xs, rfl, S3, fun z => ?_, fun _ p4 n4 => ?_⟩
      · obtain ⟨z, _⟩ := z
        rw [show (i : Int) + 2 = ((i + 2 : Nat) : Int) from by omega, HT.sIx_nat] at z
        omega
      have s4 : Same H3 (upd H3 p4 (.tup (cutV xs (some ((i : Int) + 2)) none))) := sm_upd n4
      have h4 : upd H3 p4 (.tup (cutV xs (some ((i : Int) + 2)) none)) p4 = some (.tup (xs.drop (i + 2))) := by
        rw [upd_same, show (i : Int) + 2 = ((i + 2 : Nat) : Int) from by omega, cut_from _ _ (by omega)]
      refine ⟨p3, p4, _, _, rfl, rfl, .inl (.inl (s4 _ _ h3)), .inl (.inl h4), ?_, fun z => ?_, fun _ z => ?_, fun _ _ p5 n5 => ?_⟩
      · simp only [List.length_append, List.length_take, List.length_drop, List.length_cons, List.length_nil]
        omega
      · simp at z
      · refine q p3 _ ((s1.trans s2).trans (s3.trans s4)) ?_
        rw [swp_eq xs i hi, z, List.append_nil]
        exact s4 _ _ h3
      · refine q p5 _ (((s1.trans s2).trans (s3.trans s4)).trans (sm_upd n5)) ?_
        rw [swp_eq xs i hi]
        exact upd_same
    refine ⟨p1, p2, _, _, rfl, rfl, .inl (.inl (s2 _ _ h1)), .inl (.inl h2), ?_, fun z => ?_, fun _ z => ?_, fun _ _ p3 n3 => ?_⟩
    · simp only [List.length_take, List.length_cons, List.length_nil]
      omega
    · exact fin p2 H2 (Same.refl _) (by rw [z]; exact h2)
    · simp at z
    · exact fin p3 _ (sm_upd n3) upd_same
/-! ### NoPlace and exchanged -/
abbrev sIP : Stmt := inClass (topS 2) 0
theorem scIP : FnScope ["self", "place"] ["self", "place"] (defScope sIP) := ⟨rfl, rfl, rfl, by decide +kernel, rfl, by decide +kernel, by decide +kernel⟩
variable {C fI : Addr} {fdI : FuncData} {newId : String} {tail : List Value}
theorem ok_iP {k : Nat} (T : ErT K mg "NoPlace" "place" "NoPlace.__init__" sIP C fI fdI newId tail) : FnOk P w K mg base CX0 (k + 1) fI fdI ["self", "place"] (spInit K C "place") := by
  refine T.F.ok scIP (fun vs H Q E h => ?_) (fun cdv A outer s H vs Q E hr h => ?_)
  · obtain ⟨a, v, rfl, _⟩ := h
    rfl
  · obtain ⟨a, v, rfl, ha, q⟩ := h
    refine ⟨_, pss_one (ps_est (pv 0) (pv 1)), ?_⟩
    exact ⟨v, rfl, .ref a, rfl, a, C, newId, tail, rfl, T.c, T.no, ha, fun dx nd ne => q dx nd ne⟩
/-- exchanged: the new row; or NoPlace -/
def spExch (K : PySem.W.Frag) (C : Addr) : Sp := fun vs H Q E => ∃ (a : Addr) (xs : List V) (i : Int), vs = [.ref a, .int i] ∧ (SqL K H a xs ∨ SqT K H a xs) ∧ xs.length ≤ 1000 ∧
  (¬ (0 ≤ i ∧ i < (xs.length : Int) - 1) → ∀ d, H d = none → E (.ref C) (some d) (upd H d (.xd [("place", .int i)]))) ∧
  (∀ j : Nat, i = j → j + 1 < xs.length → ∀ p H', Same H H' → H' p = some (.tup (swp xs j)) → Q (.ref p) H')
theorem swp_set {α : Type} : ∀ (l : List α) (i : Nat) (h : i + 1 < l.length), (l.set i l[i + 1]).set (i + 1) l[i] = swp l i
  | x :: y :: r, 0, _ => rfl
  | x :: y :: r, i + 1, h => by
    show x :: (((y :: r).set i ((y :: r)[i + 1]'(Nat.lt_of_succ_lt_succ h))).set (i + 1) ((y :: r)[i]'(by have := h; simp at this ⊢; omega))) = x :: swp (y :: r) i
    rw [swp_set (y :: r) i (Nat.lt_of_succ_lt_succ h)]
  | [x], i, h => by simp at h
  | [], i, h => by simp at h
theorem ok_exch {f : Addr} {fd : FuncData} {k : Nat} (F : Fun K "exchanged" "exchanged" sExch f fd) (T : ErT K mg "NoPlace" "place" "NoPlace.__init__" sIP C fI fdI newId tail) (bI : Binds K fdI ["self", "place"] []) (ml : mg "len" = none) (mli : mg "list" = none) (mt : mg "tuple" = none) :
    FnOk P w K mg base (L2.CX P w) (k + 3) f fd ["row", "place"] (spExch K C) := by
  have GI : FnOk P w K mg base CX0 (k + 1) fI fdI ["self", "place"] (spInit K C "place") := ok_iP T
  refine F.okX scExch (fun vs H Q E h => ?_) (fun cdv A outer s H vs Q E hr h => ?_)
  · obtain ⟨a, xs, i, rfl, _⟩ := h
    rfl
  · obtain ⟨a, xs, i, rfl, hS, hl, qe, q⟩ := h
    refine ⟨_, pss_cons (ps_if (pt_not (pt_chain op_le op_lt pe_int (pv 1) (pe_op op_sub (pe_callB call_len_seq (by rfl) ml PySem.boot_len (pa_cons (pv 0) pa_nil)) pe_int)))
        (pss_one (ps_raise rfl (takes_of rfl rfl rfl rfl) (pmk_er T.c T.iC T.tI GI hr bI .nil pass0 (by rfl) T.k.g (pa_cons (pv 1) pa_nil)))) pss_nil)
      (pss_cons (ps_set (i := 2) scExch.nd rfl (.inl rfl) (pe_callTy call_list_of (by rfl) mli (by decide +kernel) (pa_cons (pv 0) pa_nil)))
      (pss_cons (ps_asg (pe_tup (pa_cons (pe_ix ix_list (pv 2) (pe_op op_add (pv 1) pe_int) (fun _ _ => rfl)) (pa_cons (pe_ix ix_list (pv 2) (pv 1) (fun _ _ => rfl)) pa_nil)))
        (pg_tup rfl (pgs_cons (pg_sub (pv 2) (pv 1) set_list) (pgs_cons (pg_sub (pv 2) (pe_op op_add (pv 1) pe_int) set_list) pgs_nil))))
      (pss_one (ps_ret (pe_callTy call_tuple_of (by rfl) mt (by decide +kernel) (pa_cons (pv 2) pa_nil)))))), ?_⟩
    have no : ¬ (0 ≤ i ∧ i < (xs.length : Int) - 1) → tMkO C (spInit K C "place") [] (tCons (tVar 1) tNil) [some (.ref a), some (.int i), none] H (fun cls d H' => E cls d H') := fun h => ⟨.int i, rfl, made_er (qe h)⟩
    refine ⟨.int i, rfl, _, _, rfl, rfl, _, rfl, ite2 (fun e => ?_) (fun e => ?_)⟩
    · have e0 := of_decide_eq_true e
      refine ⟨.ref a, rfl, a, xs, rfl, hS, _, _, rfl, rfl, _, _, rfl, rfl, _, rfl, ite2 (fun e => ?_) (fun e => ?_)⟩
      · rw [Bool.not_eq_true', decide_eq_false_iff_not] at e
        exact no fun z => e z.2
      · have e1 : i < (xs.length : Int) - 1 := by
          cases hq : decide (i < (xs.length : Int) - 1) with
          | true => exact of_decide_eq_true hq
          | false =>
            rw [show decide (i < (xs.length : Int) - 1) = false from hq] at e
            exact absurd rfl e
        obtain ⟨j, rfl⟩ : ∃ j : Nat, i = j := ⟨i.toNat, by omega⟩
        have hj : j + 1 < xs.length := by omega
        refine ⟨.ref a, rfl, a, xs, rfl, hS, fun l nl => ?_⟩
        have s1 : Same H (upd H l (.lst xs)) := sm_upd nl
        have h1 : upd H l (.lst xs) l = some (.lst xs) := upd_same
        generalize upd H l (.lst xs) = H1 at s1 h1
        have a1 : atI xs ((j : Int) + 1) = some xs[j + 1] := at_of (by omega) (List.getElem?_eq_getElem hj)
        have a2 : atI xs (j : Int) = some (xs[j]'(by omega)) := atI_nat (List.getElem?_eq_getElem (by omega))
        refine ⟨.ref l, rfl, .int j, rfl, _, _, rfl, rfl, l, xs, _, _, rfl, rfl, .inl (.inl h1), a1, .ref l, rfl, .int j, rfl, l, xs, _, _, rfl, rfl, .inl (.inl h1), a2, by show 2 ≤ sizeLine; decide, fun t nt => ?_⟩
        have h2 := sm_upd (o := .tup [xs[j + 1], xs[j]'(by omega)]) nt _ _ h1
        refine ⟨t, _, rfl, .inl (.inl upd_same), rfl, _, _, rfl, .ref l, rfl, .int j, rfl, l, xs, j, j, rfl, rfl, h2, ixN_nat (by omega), _, _, rfl, .ref l, rfl, .int j, rfl, _, _, rfl, rfl, l, _, (j : Int) + 1, j + 1, rfl, rfl, upd_same, ?_, rfl, ?_⟩
        · rw [List.length_set]
          exact ixN_nat (i := j + 1) hj
        · refine ⟨.ref l, rfl, l, _, rfl, .inl ⟨.inl (.inl upd_same), fun p np => ?_⟩⟩
          have nl0 : H l = none := nl
          have sA := Same.put (o := .lst ((xs.set j xs[j + 1]).set (j + 1) (xs[j]'(by omega)))) (Same.put (o := .lst (xs.set j xs[j + 1])) (s1.trans (sm_upd (o := .tup [xs[j + 1], xs[j]'(by omega)]) nt)) nl0) nl0
          refine q j rfl hj p _ (sA.trans (sm_upd np)) ?_
          rw [upd_same, swp_set xs j hj]
    · have e0 : ¬ 0 ≤ i := fun z => e (decide_eq_true z)
      refine ⟨_, rfl, ?_⟩
      exact iteT (no fun z => e0 z.1)
/-! ### _law_told -/
theorem scTold : FnScope ["_law_line_here", "_law_spot", "_law_found", "_law_caught", "error", "_law_fine"] ["_law_line_here", "_law_spot"] (defScope sTold) := ⟨rfl, rfl, rfl, by decide +kernel, rfl, by decide +kernel, by decide +kernel⟩
def spTold (K : PySem.W.Frag) : Sp := fun vs H Q _ => ∃ (a : Addr) (xs : List V) (i : Int), vs = [.ref a, .int i] ∧ (SqL K H a xs ∨ SqT K H a xs) ∧ xs.length ≤ 1000 ∧
  (¬ (0 ≤ i ∧ i < (xs.length : Int) - 1) → ∀ H', Same H H' → Q (.int i) H') ∧ (∀ j : Nat, i = j → j + 1 < xs.length → ∀ p H', Same H H' → H' p = some (.tup (swp xs j)) → Q (.ref p) H')
theorem ok_told {f fX CO CR : Addr} {fd fdX : FuncData} {k : Nat} (F : Fun K "_law_told" "_law_told" sTold f fd) (FX : Fun K "exchanged" "exchanged" sExch fX fdX) (bX : Binds K fdX ["row", "place"] []) (gX : mg "exchanged" = some (.ref fX))
    (T : ErT K mg "NoPlace" "place" "NoPlace.__init__" sIP C fI fdI newId tail) (bI : Binds K fdI ["self", "place"] []) (TO : ErK K mg "NoOne" CO) (TR : ErK K mg "NoRow" CR) (nO : PySem.W.subIn K (.ref C) (.ref CO) = some false) (nR : PySem.W.subIn K (.ref C) (.ref CR) = some false) (uL : PySem.W.subIn K (.ref C) (.type "LookupError") = some true)
    (ml : mg "len" = none) (mli : mg "list" = none) (mt : mg "tuple" = none) (mis : mg "isinstance" = none) (mlk : mg "LookupError" = none) :
    FnOk P w K mg base CX0 (k + 4) f fd ["_law_line_here", "_law_spot"] (spTold K) := by
  have GX : FnOk P w K mg base (L2.CX P w) (k + 3) fX fdX ["row", "place"] (spExch K C) := ok_exch FX T bI ml mli mt
  refine F.ok scTold (fun vs H Q E h => ?_) (fun cdv A outer s H vs Q E hr h => ?_)
  · obtain ⟨a, xs, i, rfl, _⟩ := h
    rfl
  · obtain ⟨a, xs, i, rfl, hS, hl, qe, q⟩ := h
    refine ⟨_, pss_cons (ps_asg (pe_tup (pa_cons pe_non (pa_cons pe_non pa_nil))) (pg_tup rfl (pgs_cons (pg_name (i := 2) scTold.nd rfl (.inl rfl)) (pgs_cons (pg_name (i := 3) scTold.nd rfl (.inl rfl)) pgs_nil))))
      (pss_cons (ps_try_keep (i := 4) (tb := fun W => tAsg (tCallS (spExch K C) (WE W) (tCons (tVar 0) (tCons (tVar 1) tNil))) (gName 2)) (ts := fun _ _ _ => tAsg (tVar 4) (gName 3)) (Wout := fun _ _ _ _ => False) rfl rfl rfl scTold.nd rfl rfl
          (.cons ⟨rfl, by decide, .inl TO.g⟩ (.cons ⟨rfl, by decide, .inl T.k.g⟩ (.cons ⟨rfl, by decide, .inl TR.g⟩ .nil))) (by show 3 ≤ 1000; decide) takes0
          (fun W pn xe tk _ => pss_one (ps_set (i := 2) scTold.nd rfl (Or.inl rfl) (by exact (pe_callS GX hr rfl gX FX.kp bX (fun σ => passAt tk σ) (by exact (pa_cons (pv 0) (pa_cons (pv 1) pa_nil)))))))
          (fun a oe cls d pn hz hf => pss_one (ps_set (i := 3) scTold.nd rfl (Or.inl rfl) (by exact (pv 4)))))
      (pss_cons (ps_if (pt_cmpR op_isN (pv 3) pe_non (nomark _)) (pss_one (ps_ret (pv 2))) pss_nil)
      (pss_cons (ps_set (i := 5) scTold.nd rfl (.inl rfl) (pe_and (pe_callB call_isV (by rfl) mis (by decide +kernel) (pa_cons (pv 3) (pa_cons (pe_glob (v := .ref C) (by rfl) T.k.g rfl) pa_nil)))
        (pe_and (pe_callB call_isV (by rfl) mis (by decide +kernel) (pa_cons (pv 3) (pa_cons (pe_bltn (v := .ty "LookupError") (by rfl) mlk (by decide +kernel) rfl) pa_nil)))
        (pe_one (pe_not (pe_callB call_isVT (by rfl) mis (by decide +kernel) (pa_cons (pv 3) (pa_cons (pe_tup (pa_cons (pe_glob (v := .ref CO) (by rfl) TO.g rfl) (pa_cons (pe_glob (v := .ref CR) (by rfl) TR.g rfl) pa_nil))) pa_nil))))))))
      (pss_one (ps_ret (pe_ifExp (pt_val (pv 5)) (pe_fV (pv 3)) pe_non)))))), ?_⟩
    refine ⟨by show 2 ≤ sizeLine; decide, fun t0 nt0 => ?_⟩
    refine ⟨t0, _, rfl, .inl (.inl upd_same), rfl, _, _, rfl, _, _, rfl, rfl, ?_⟩
    have s0 : Same H (upd H t0 (.tup [.non, .non])) := sm_upd nt0
    have hS : SqL K (upd H t0 (.tup [.non, .non])) a xs ∨ SqT K (upd H t0 (.tup [.non, .non])) a xs := hS.imp (fun h => s0.seq h) (fun h => Same.sqT s0 h)
    generalize upd H t0 (.tup [.non, .non]) = H0 at s0 hS
    refine ⟨.ref a, rfl, .int i, rfl, a, xs, i, rfl, hS, hl, fun h d nd => ?_, fun j ej hj p H' s1 h1 => ?_⟩
    · refine ⟨true, exms_yes (fun u hu => ?_) ⟨.ref C, by simp, T.k.one T.me⟩, fun _ e ne => ?_, fun z => nomatch z⟩
      · simp only [List.mem_cons, List.not_mem_nil, or_false] at hu
        rcases hu with rfl | rfl | rfl
        · exact ⟨_, TO.one nO⟩
        · exact ⟨_, T.k.one T.me⟩
        · exact ⟨_, TR.one nR⟩
      · have s1 : Same H0 (upd H0 d (.xd [("place", .int i)])) := sm_upd nd
        have hd1 : upd H0 d (.xd [("place", .int i)]) d = some (.xd [("place", .int i)]) := upd_same
        have s2 : Same (upd H0 d (.xd [("place", .int i)])) (upd (upd H0 d (.xd [("place", .int i)])) e (ErV (.ref C) (some d) e)) := sm_upd ne
        have he2 : upd (upd H0 d (.xd [("place", .int i)])) e (ErV (.ref C) (some d) e) e = some (ErV (.ref C) (some d) e) := upd_same
        have hd2 := s2 _ _ hd1
        have sA := s0.trans (s1.trans s2)
        refine ⟨.ref e, rfl, ?_⟩
        refine ⟨.ref e, rfl, rfl, _, rfl, iteF ?_⟩
        refine ⟨.ref e, rfl, e, C, some d, .ref C, .ref C, true, rfl, he2, T.i, DcOk.some hd2, .own C, kit_self, _, rfl, iteT ?_⟩
        refine ⟨.ref e, rfl, e, C, some d, .ty "LookupError", _, true, rfl, he2, T.i, DcOk.some hd2, .ty _, kit_up (by decide +kernel) uL, _, rfl, iteT ?_⟩
        refine ⟨.ref e, rfl, by show 2 ≤ sizeLine; decide, fun tp ntp => ?_⟩
        have s3 := sm_upd (o := .tup [.ref CO, .ref CR]) ntp
        refine ⟨e, C, some d, tp, _, _, false, rfl, s3 _ _ he2, T.i, DcOk.some (s3 _ _ hd2), upd_same, .cons (.own _) (.cons (.own _) .nil), kits_no (fun u hu => ?_), _, rfl, ?_⟩
        · simp only [List.mem_cons, List.not_mem_nil, or_false] at hu
          rcases hu with rfl | rfl
          · exact kit_no TO.hd TO.ty T.me nO
          · exact kit_no TR.hd TR.ty T.me nR
        · refine ⟨_, rfl, _, rfl, iteT ?_⟩
          exact ⟨.ref e, rfl, e, C, d, _, .int i, rfl, s3 _ _ he2, T.i, T.no, s3 _ _ hd2, rfl, qe h _ (sA.trans s3)⟩
    · refine ⟨.non, rfl, rfl, _, rfl, iteT ?_⟩
      exact ⟨.ref p, rfl, q j ej hj p H' (s0.trans s1) h1⟩
end
end Bal

namespace Bal
open PySem PySem.Spec PyProof.Rows L2
theorem scRight : FnScope ["_law_pot_here", "_law_line_here", "_law_spot", "_law_due", "_law_odd"] ["_law_pot_here"] (defScope sRight) := ⟨rfl, rfl, rfl, by decide +kernel, rfl, by decide +kernel, by decide +kernel⟩
theorem scLaw : FnScope ["_law_script", "_law_k", "_law_pot_here", "_law_turn"] ["_law_script"] (defScope sLaw) := ⟨rfl, rfl, rfl, by decide +kernel, rfl, by decide +kernel, by decide +kernel⟩
/-- a tuple of numbers -/
def dT (ns : List Int) : PyData := .tuple (ns.map PyData.int)
theorem dT_dep (ns : List Int) : (dT ns).depth = 1 := by
  show PyData.depthAll (ns.map PyData.int) + 1 = 1
  rw [dep_ints]
theorem dT_small {ns : List Int} (h : ns.length ≤ 100000) : smallD (dT ns) = true := by
  show (decide ((ns.map PyData.int).length ≤ 100000) && smallA (ns.map PyData.int)) = true
  rw [small_ints, List.length_map, decide_eq_true h]
  rfl
theorem dp_T {K : PySem.W.Frag} {H : Hp} {p : Addr} {ns : List Int} (h : SqT K H p (ns.map V.int)) : Dp K H (.ref p) (dT ns) := .tup h (dps_ints ns)
section
variable {P : Program} {w : World} {K : PySem.W.Frag} {mg : Str → Option Value} {base : Heap} {C fI : Addr} {fdI : FuncData} {newId : String} {tail : List Value}
def spRight : Sp := fun vs H Q _ => ∃ (p : Addr) (c : Nat), vs = [.ref p] ∧ Pot H p c ∧ c ≤ 100000 ∧ ∀ H', Pot H' p (c + 100) → But p H H' → Q (.bl true) H'
theorem ok_right {f fT fL fS fU fW fD fX : Addr} {fd fdT fdL fdS fdU fdW fdD fdX : FuncData} {k : Nat} (F : Fun K "_law_right" "_law_right" sRight f fd)
    (FT : Fun K "_law_take" "_law_take" sTake fT fdT) (bT : Binds K fdT ["_law_pot_here", "_law_bound"] []) (gT : mg "_law_take" = some (.ref fT)) (GT : FnOk P w K mg base CX0 (k + 5) fT fdT ["_law_pot_here", "_law_bound"] spTake)
    (FL : Fun K "_law_line" "_law_line" sLine fL fdL) (bL : Binds K fdL ["_law_pot_here", "_law_count"] []) (gL : mg "_law_line" = some (.ref fL)) (GL : FnOk P w K mg base CX0 (k + 5) fL fdL ["_law_pot_here", "_law_count"] spLine)
    (FS : Fun K "_law_same" "_law_same" sSame fS fdS) (bS : Binds K fdS ["_law_found", "_law_due"] []) (gS : mg "_law_same" = some (.ref fS)) (GS : FnOk P w K mg base CX0 (k + 5) fS fdS ["_law_found", "_law_due"] (spSame K 2))
    (FU : Fun K "turned" "turned" sTurned fU fdU) (bU : Binds K fdU ["row"] []) (kU : KB0 K fdU ["row"] ["row"] (fun w => w) (fun w => w)) (gU : mg "turned" = some (.ref fU)) (GU : FnOk P w K mg base CX0 (k + 5) fU fdU ["row"] (spTurned K))
    (FW : Fun K "_law_swapped" "_law_swapped" sSwapped fW fdW) (bW : Binds K fdW ["_law_line_here", "_law_spot"] []) (gW : mg "_law_swapped" = some (.ref fW)) (GW : FnOk P w K mg base CX0 (k + 5) fW fdW ["_law_line_here", "_law_spot"] (spSwapped K))
    (FD : Fun K "_law_told" "_law_told" sTold fD fdD) (bD : Binds K fdD ["_law_line_here", "_law_spot"] []) (gD : mg "_law_told" = some (.ref fD)) (GD : FnOk P w K mg base CX0 (k + 5) fD fdD ["_law_line_here", "_law_spot"] (spTold K))
    (FX : Fun K "exchanged" "exchanged" sExch fX fdX) (bX : Binds K fdX ["row", "place"] []) (kX : KB0 K fdX ["row", "place"] ["place", "row"] flip2 flip2) (gX : mg "exchanged" = some (.ref fX)) (GX : FnOk P w K mg base (L2.CX P w) (k + 5) fX fdX ["row", "place"] (spExch K C))
    (ml : mg "len" = none) (mli : mg "list" = none) (mr : mg "range" = none) (ma : mg "all" = none) : FnOk P w K mg base CX0 (k + 6) f fd ["_law_pot_here"] spRight := by
  refine F.ok scRight (fun vs H Q E h => ?_) (fun cdv A outer s H vs Q E hr h => ?_)
  · obtain ⟨p, c, rfl, _⟩ := h
    rfl
  · obtain ⟨p, c, rfl, hP, hc, q⟩ := h
    refine ⟨_, pss_cons (ps_set (i := 1) scRight.nd rfl (.inr rfl) (pe_call GL hr (by rfl) gL FL.kp bL .nil pass0 (pa_cons (pv 0) (pa_cons (pe_op op_add pe_int (pe_call GT hr (by rfl) gT FT.kp bT .nil pass0 (pa_cons (pv 0) (pa_cons pe_int pa_nil)))) pa_nil))))
      (pss_cons (ps_if (pt_not (pt_val (pe_call GS hr (by rfl) gS FS.kp bS .nil pass0 (pa_cons (pe_lst (pa_cons (pe_call GU hr (by rfl) gU FU.kp bU .nil pass0 (pa_cons (pv 1) pa_nil))
          (pa_cons (pe_callK0 GU hr (by rfl) gU FU.kp kU pass0 (pk_cons (pe_callTy call_list_of (by rfl) mli (by decide +kernel) (pa_cons (pv 1) pa_nil)) pk_nil))
          (pa_cons (pe_call GU hr (by rfl) gU FU.kp bU .nil pass0 (pa_cons (pe_call GU hr (by rfl) gU FU.kp bU .nil pass0 (pa_cons (pv 1) pa_nil)) pa_nil)) pa_nil))))
          (pa_cons (pe_lst (pa_cons (pe_revA (pv 1)) (pa_cons (pe_revA (pv 1)) (pa_cons (pv 1) pa_nil)))) pa_nil))))) (pss_one (ps_ret pe_bl)) pss_nil)
      (pss_cons (ps_for PassesOwn.never rfl (pi_range1 (by rfl) mr (pa_cons (pe_op op_sub (pe_callB call_len_seq (by rfl) ml PySem.boot_len (pa_cons (pv 1) pa_nil)) pe_int) pa_nil)) (pg_name (i := 2) scRight.nd rfl (.inl rfl))
        (pss_cons (ps_set (i := 3) scRight.nd rfl (.inl rfl) (pe_call GW hr (by rfl) gW FW.kp bW .nil pass0 (pa_cons (pv 1) (pa_cons (pv 2) pa_nil))))
        (pss_cons (ps_if (pt_not (pt_val (pe_call GS hr (by rfl) gS FS.kp bS .nil pass0 (pa_cons (pe_lst (pa_cons (pe_call GD hr (by rfl) gD FD.kp bD .nil pass0 (pa_cons (pv 1) (pa_cons (pv 2) pa_nil)))
            (pa_cons (pe_callK0 GX hr (by rfl) gX FX.kp kX passL (pk_cons (pv 2) (pk_cons (pe_callTy call_list_of (by rfl) mli (by decide +kernel) (pa_cons (pv 1) pa_nil)) pk_nil))) pa_nil)))
            (pa_cons (pe_lst (pa_cons (pv 3) (pa_cons (pv 3) pa_nil))) pa_nil))))) (pss_one (ps_ret pe_bl)) pss_nil)
        (pss_one (ps_if (pt_cmpR (op_neD hr.units) (pe_call GX hr (by rfl) gX FX.kp bX .nil passL (pa_cons (pv 3) (pa_cons (pv 2) pa_nil))) (pv 1) (nomark _)) (pss_one (ps_ret pe_bl)) pss_nil)))))
      (pss_cons (ps_set (i := 4) scRight.nd rfl (.inl rfl) (pe_lst (pa_cons (pe_un un_neg pe_int) (pa_cons (pe_op op_sub (pe_callB call_len_seq (by rfl) ml PySem.boot_len (pa_cons (pv 1) pa_nil)) pe_int) (pa_cons (pe_callB call_len_seq (by rfl) ml PySem.boot_len (pa_cons (pv 1) pa_nil))
        (pa_cons (pe_un un_neg (pe_callB call_len_seq (by rfl) ml PySem.boot_len (pa_cons (pv 1) pa_nil))) (pa_cons (pe_op op_pow pe_int pe_int) pa_nil)))))))
      (pss_one (ps_ret (pe_callB (cr_all rfl) (by rfl) ma (by decide +kernel) (pa_cons (pe_lc (own := [("_law_spot", 2)]) (g := gName 2) (tt := tYes) (by rfl) scRight.nd (pi_list (pv 4))
        (blkOk_by (own := [("_law_spot", 2)]) (N := ["_law_pot_here", "_law_line_here", "_law_spot", "_law_due", "_law_odd"]) (sc := defScope sRight) (by decide +kernel))
        (fun _ _ _ _ _ => pg_name (i := 2) scRight.nd rfl (Or.inl rfl)) (fun _ _ _ _ _ => pts_nil)
        (fun _ _ _ _ _ => pe_call GS hr (by rfl) gS FS.kp bS .nil pass0 (pa_cons (pe_call GD hr (by rfl) gD FD.kp bD .nil pass0 (pa_cons (pv 1) (pa_cons (pv 2) pa_nil))) (pa_cons (pv 2) pa_nil)))) pa_nil))))))), ?_⟩
    -- the row
    refine ⟨.ref p, rfl, .ref p, rfl, p, 9, c, rfl, hP, by omega, by omega, by omega, fun r o1 lr ho1 => ⟨_, _, rfl, rfl, ?_⟩⟩
    have b1 : But p H (upd H p o1) := But.of_upd
    have P1 : Pot (upd H p o1) p (c + 1) := ⟨o1, upd_same, ho1⟩
    generalize upd H p o1 = H1 at b1 P1
    refine ⟨p, 1 + r, c + 1, congrArg (fun z => [V.ref p, V.int z]) (by omega), P1, by omega, by omega, fun a H2 xs na ha hl hnd hbd P2 b2 => ?_⟩
    have P2 := P2.mono (d := c + 100) (by omega)
    have b2 := b1.trans b2
    have ln : xs.length ≤ 9 := by omega
    have lm : (xs.map V.int).length ≤ 1000 := by rw [List.length_map]; omega
    have rv : (xs.map V.int).reverse = xs.reverse.map V.int := List.map_reverse.symm
    have at_ : ∀ {H'}, Same H2 H' → SqT K H' a (xs.map V.int) := fun s => .inl (.inl (s _ _ ha))
    -- turned
    refine ⟨.ref a, rfl, a, _, rfl, .inr (at_ (Same.refl _)), fun p1 H3 s3 h3 => ?_⟩
    refine ⟨.ref a, rfl, a, _, rfl, .inr (at_ s3), fun l nl => ⟨rfl, l, _, rfl, .inl (.inl (.inl upd_same)), fun p2 H4 s4 h4 => ?_⟩⟩
    have s4 : Same H3 H4 := (sm_upd nl).trans s4
    refine ⟨.ref a, rfl, a, _, rfl, .inr (at_ (s3.trans s4)), fun p3 H5 s5 h5 => ⟨p3, _, rfl, .inr (.inl (.inl h5)), fun p4 H6 s6 h6 => ?_⟩⟩
    have s6 : Same H4 H6 := s5.trans s6
    refine ⟨by show 3 ≤ sizeLine; decide, fun L1 nL1 => ?_⟩
    have s7 := sm_upd (o := .lst [.ref p1, .ref p2, .ref p4]) nL1
    have s37 := s4.trans (s6.trans s7)
    refine ⟨.ref a, rfl, a, _, rfl, .inr ⟨at_ (s3.trans s37), fun p5 n5 => ?_⟩⟩
    have s8 := sm_upd (o := .tup (xs.map V.int).reverse) n5
    refine ⟨.ref a, rfl, a, _, rfl, .inr ⟨at_ ((s3.trans s37).trans s8), fun p6 n6 => ?_⟩⟩
    have s9 := sm_upd (o := .tup (xs.map V.int).reverse) n6
    refine ⟨.ref a, rfl, by show 3 ≤ sizeLine; decide, fun L2 nL2 => ?_⟩
    have sT := sm_upd (o := .lst [.ref p5, .ref p6, .ref a]) nL2
    have s7T := s8.trans (s9.trans sT)
    refine ⟨.ref L1, .ref L2, .list [dT xs.reverse, dT xs.reverse, dT xs], rfl, ?_, ?_, ?_, ?_, fun H8 sE => ⟨_, rfl, iteF ?_⟩⟩
    · refine .lst (xs := [.ref p1, .ref p2, .ref p4]) (.inl (.inl (s7T _ _ upd_same))) (.cons (dp_T (.inl (.inl (s7T _ _ (s37 _ _ (by rw [← rv]; exact h3)))))) (.cons (dp_T (.inl (.inl (s7T _ _ (s7 _ _ (s6 _ _ (by rw [← rv]; exact h4))))))) (.cons (dp_T (.inl (.inl (s7T _ _ (s7 _ _ ?_))))) .nil)))
      rw [List.reverse_reverse] at h6
      exact h6
    · exact .lst (xs := [.ref p5, .ref p6, .ref a]) (.inl (.inl upd_same)) (.cons (dp_T (.inl (.inl (sT _ _ (s9 _ _ (by rw [← rv]; exact upd_same)))))) (.cons (dp_T (.inl (.inl (sT _ _ (by rw [← rv]; exact upd_same))))) (.cons (dp_T (at_ ((s3.trans s37).trans s7T))) .nil)))
    · show max (dT xs.reverse).depth (max (dT xs.reverse).depth (max (dT xs).depth 0)) + 1 ≤ 2
      rw [dT_dep, dT_dep]
      decide
    · have hr' : xs.reverse.length ≤ 100000 := by rw [List.length_reverse]; omega
      show (decide (3 ≤ 100000) && (smallD (dT xs.reverse) && (smallD (dT xs.reverse) && (smallD (dT xs) && true)))) = true
      rw [dT_small hr', dT_small (by omega)]
      rfl
    have s8' : Same H2 H8 := (s3.trans (s37.trans s7T)).trans sE
    have P8 := P2.same s8'
    have b8 := b2.trans (But.same s8' (p := p))
    have at8 : ∀ {H'}, Same H8 H' → SqT K H' a (xs.map V.int) := fun s => at_ (s8'.trans s)
    clear sE
    -- the loop
    refine ⟨.ref a, rfl, a, _, rfl, .inr (at8 (Same.refl _)), _, _, rfl, rfl, _, rfl, ?_, ?_, for_range (lo := 0) (n := (((xs.map V.int).length : Int) - 1).toNat) (fun i σ H3 => ∃ y2 y3 y4, σ = [some (.ref p), some (.ref a), y2, y3, y4] ∧ Same H8 H3) ⟨none, none, none, rfl, Same.refl _⟩ ?_ ?_⟩
    · rw [List.length_map]
      omega
    · rw [List.length_map]
      omega
    · rintro i σ H3 hi ⟨y2, y3, y4, rfl, s3⟩
      rw [List.length_map] at hi
      rw [show (0 : Int) + (i : Int) = i from by omega]
      have hi1 : i + 1 < (xs.map V.int).length := by rw [List.length_map]; omega
      have no : ∀ {A : Prop}, ¬ (0 ≤ (i : Int) ∧ (i : Int) < ((xs.map V.int).length : Int) - 1) → A := fun h => absurd ⟨by omega, by omega⟩ h
      have ls : (swp xs i).length ≤ 100000 := by rw [swp_len]; omega
      have lm2 : ((swp xs i).map V.int).length ≤ 1000 := by rw [List.length_map, swp_len]; omega
      refine ⟨.ref a, rfl, .int i, rfl, a, _, i, rfl, at8 s3, hi1, lm, fun pd H4 s4 h4 => ?_⟩
      rw [swp_map] at h4
      refine ⟨.ref a, rfl, .int i, rfl, a, _, i, rfl, .inr (at8 (s3.trans s4)), lm, no, fun j ej hj p1 H5 s5 h5 => ?_⟩
      obtain rfl : i = j := by omega
      rw [swp_map] at h5
      refine ⟨.int i, rfl, .ref a, rfl, a, _, rfl, .inr (at8 (s3.trans (s4.trans s5))), fun l nl => ⟨rfl, l, _, i, rfl, .inl (.inl (.inl upd_same)), lm, no, fun j ej hj p2 H6 s6 h6 => ?_⟩⟩
      obtain rfl : i = j := by omega
      rw [swp_map] at h6
      have s6 : Same H5 H6 := (sm_upd nl).trans s6
      refine ⟨by show 2 ≤ sizeLine; decide, fun L1 nL1 => ?_⟩
      have s7 := sm_upd (o := .lst [.ref p1, .ref p2]) nL1
      refine ⟨.ref pd, rfl, .ref pd, rfl, by show 2 ≤ sizeLine; decide, fun L2 nL2 => ?_⟩
      have s9 := sm_upd (o := .lst [.ref pd, .ref pd]) nL2
      refine ⟨.ref L1, .ref L2, .list [dT (swp xs i), dT (swp xs i)], rfl, ?_, ?_, ?_, ?_, fun H9 sE => ⟨_, rfl, iteF ?_⟩⟩
      · exact .lst (xs := [.ref p1, .ref p2]) (.inl (.inl (s9 _ _ upd_same))) (.cons (dp_T (.inl (.inl (s9 _ _ (s7 _ _ (s6 _ _ h5)))))) (.cons (dp_T (.inl (.inl (s9 _ _ (s7 _ _ h6))))) .nil))
      · have z := s9 _ _ (s7 _ _ (s6 _ _ (s5 _ _ h4)))
        exact .lst (xs := [.ref pd, .ref pd]) (.inl (.inl upd_same)) (.cons (dp_T (.inl (.inl z))) (.cons (dp_T (.inl (.inl z))) .nil))
      · show max (dT (swp xs i)).depth (max (dT (swp xs i)).depth 0) + 1 ≤ 2
        rw [dT_dep]
        decide
      · show (decide (2 ≤ 100000) && (smallD (dT (swp xs i)) && (smallD (dT (swp xs i)) && true))) = true
        rw [dT_small ls]
        rfl
      have sA : Same H4 H9 := ((s5.trans (s6.trans (s7.trans s9)))).trans sE
      have sB : Same H8 H9 := s3.trans (s4.trans sA)
      refine ⟨.ref pd, rfl, .int i, rfl, pd, _, i, rfl, .inr (.inl (.inl (sA _ _ h4))), lm2, fun h => ?_, fun j ej hj p3 HA sC h7 => ?_⟩
      · refine absurd ⟨by omega, ?_⟩ h
        rw [List.length_map, swp_len]
        omega
      obtain rfl : i = j := by omega
      rw [swp_map, swp_swp] at h7
      refine ⟨.ref a, rfl, dT xs, dT xs, dp_T (.inl (.inl h7)), dp_T (at8 (sB.trans sC)), shp_tup _, shp_tup _, _, rfl, ?_⟩
      rw [show PyData.eqv (dT xs) (dT xs) = true from (eqv_tup xs xs).trans (decide_eq_true rfl)]
      exact iteF ⟨_, _, _, rfl, sB.trans sC⟩
    · rintro σ H3 ⟨y2, y3, y4, rfl, s3⟩
      refine ⟨1, rfl, .ref a, rfl, a, _, rfl, .inr (at8 s3), _, _, rfl, rfl, .ref a, rfl, a, _, rfl, .inr (at8 s3), .ref a, rfl, a, _, rfl, .inr (at8 s3), _, rfl, 10, 15, rfl, rfl, ⟨by decide, by decide, by decide⟩, by show 5 ≤ sizeLine; decide, fun od nod => ?_⟩
      have s4 := sm_upd (o := .lst [.int (-1), .int (((xs.map V.int).length : Int) - 1), .int (xs.map V.int).length, .int (-((xs.map V.int).length : Int)), .int (10 ^ (15 : Int).toNat)]) nod
      have hod : (upd H3 od (.lst [.int (-1), .int (((xs.map V.int).length : Int) - 1), .int (xs.map V.int).length, .int (-((xs.map V.int).length : Int)), .int (10 ^ (15 : Int).toNat)])) od = some (.lst ([-1, ((xs.map V.int).length : Int) - 1, (xs.map V.int).length, -((xs.map V.int).length : Int), 10 ^ (15 : Int).toNat].map V.int)) := upd_same
      have bad : ∀ z ∈ [-1, ((xs.map V.int).length : Int) - 1, (xs.map V.int).length, -((xs.map V.int).length : Int), 10 ^ (15 : Int).toNat], ¬ (0 ≤ z ∧ z < ((xs.map V.int).length : Int) - 1) := by
        intro z hz
        rw [List.length_map] at hz ⊢
        have e15 : (10 : Int) ^ (15 : Int).toNat = 1000000000000000 := by decide
        rw [e15] at hz
        simp only [List.mem_cons, List.not_mem_nil, or_false] at hz
        rcases hz with rfl | rfl | rfl | rfl | rfl <;> omega
      have sB := s3.trans s4
      refine ⟨.ref od, rfl, od, rfl, ⟨_, .inl (.inl hod)⟩, fun D nD => ?_⟩
      have hzl : [-1, ((xs.map V.int).length : Int) - 1, (xs.map V.int).length, -((xs.map V.int).length : Int), 10 ^ (15 : Int).toNat].length = 5 := rfl
      generalize [-1, ((xs.map V.int).length : Int) - 1, (xs.map V.int).length, -((xs.map V.int).length : Int), 10 ^ (15 : Int).toNat] = zs at hod bad hzl
      generalize upd H3 od (.lst [.int (-1), .int (((xs.map V.int).length : Int) - 1), .int (xs.map V.int).length, .int (-((xs.map V.int).length : Int)), .int (10 ^ (15 : Int).toNat)]) = H4 at s4 hod sB nD
      refine lc_list (K := K) (a := od) (xs := zs.map V.int) (fun i H5 => Same H4 H5 ∧ H5 D = some (.lst ((List.replicate i true).map V.bl))) ⟨sm_upd nD, upd_same⟩ (fun i H5 _ h => .inl (.inl (h.1 _ _ hod))) (fun i x H5 hx h => ?_) (fun H5 h => ?_)
      · obtain ⟨z, hz, rfl⟩ : ∃ z, zs[i]? = some z ∧ V.int z = x := by
          rw [List.getElem?_map] at hx
          cases e : zs[i]? with
          | none => rw [e] at hx; cases hx
          | some z => rw [e] at hx; exact ⟨z, rfl, Option.some.inj hx⟩
        have hi : i < zs.length := (List.getElem?_eq_some_iff.mp hz).1
        refine ⟨rfl, ?_⟩
        refine ⟨.ref a, rfl, .int z, rfl, a, _, z, rfl, .inr (at8 (sB.trans h.1)), lm, fun _ H6 s6 => ?_, fun j ej hj => ?_⟩
        · refine ⟨.int z, rfl, .int z, .int z, .int z, rfl, .int z, .int z, by show 0 ≤ 2; decide, rfl, fun H7 s7 => ?_⟩
          have s57 := s6.trans s7
          refine ⟨_, s57 _ _ h.2, ?_, Same.put (h.1.trans s57) nD, ?_⟩
          · rw [List.length_map, List.length_replicate]
            exact line_lt (by omega)
          · rw [upd_same, rep_add, List.map_append]
            rfl
        · exact absurd ⟨by omega, by omega⟩ (bad z (List.mem_of_getElem? hz))
      · refine ⟨D, List.replicate (zs.map V.int).length true, rfl, .inl (.inl h.2), ?_⟩
        exact q_eq (congrArg V.bl (all_rep _)) (q _ (P8.same (sB.trans h.1)) (b8.trans (But.same (sB.trans h.1))))
/-! ### the law -/
def spLaw (K : PySem.W.Frag) : Sp := fun vs H Q _ => ∃ (a : Addr) (ns : List Int), vs = [.ref a] ∧ SqL K H a (ns.map V.int) ∧ ns.length ≤ 63 ∧ ∀ H', Q (.bl true) H'
theorem ok_law {f fP fR : Addr} {fd fdP fdR : FuncData} {k : Nat} (F : Fun K "law" "law" sLaw f fd)
    (FP : Fun K "_law_pot" "_law_pot" sPot fP fdP) (bP : Binds K fdP ["_law_script", "_law_k"] []) (gP : mg "_law_pot" = some (.ref fP)) (GP : FnOk P w K mg base CX0 (k + 6) fP fdP ["_law_script", "_law_k"] (spPot K))
    (FR : Fun K "_law_right" "_law_right" sRight fR fdR) (bR : Binds K fdR ["_law_pot_here"] []) (gR : mg "_law_right" = some (.ref fR)) (GR : FnOk P w K mg base CX0 (k + 6) fR fdR ["_law_pot_here"] spRight)
    (ml : mg "len" = none) (mr : mg "range" = none) (ma : mg "all" = none) (mmx : mg "max" = none) (mmn : mg "min" = none) : FnOk P w K mg base CX0 (k + 7) f fd ["_law_script"] (spLaw K) := by
  refine F.ok scLaw (fun vs H Q E h => ?_) (fun cdv A outer s H vs Q E hr h => ?_)
  · obtain ⟨a, ns, rfl, _⟩ := h
    rfl
  · obtain ⟨a, ns, rfl, hS, hl, q⟩ := h
    refine ⟨_, pss_cons (ps_for PassesOwn.never rfl (pi_range1 (by rfl) mr (pa_cons (pe_callB (call_max2 rfl) (by rfl) mmx (by decide +kernel) (pa_cons pe_int (pa_cons (pe_callB (call_min2 rfl) (by rfl) mmn (by decide +kernel) (pa_cons pe_int (pa_cons (pe_callB call_len_seq (by rfl) ml PySem.boot_len (pa_cons (pv 0) pa_nil)) pa_nil))) pa_nil))) pa_nil)) (pg_name (i := 1) scLaw.nd rfl (.inl rfl))
        (pss_cons (ps_set (i := 2) scLaw.nd rfl (.inr rfl) (pe_call GP hr (by rfl) gP FP.kp bP .nil pass0 (pa_cons (pv 0) (pa_cons (pv 1) pa_nil))))
        (pss_one (ps_if (pt_not (pt_val (pe_callB (cr_all rfl) (by rfl) ma (by decide +kernel) (pa_cons (pe_lc (own := [("_law_turn", 3)]) (g := gName 3) (tt := tYes) (by rfl) scLaw.nd (pi_range1 (by rfl) mr (pa_cons pe_int pa_nil))
          (blkOk_by (own := [("_law_turn", 3)]) (N := ["_law_script", "_law_k", "_law_pot_here", "_law_turn"]) (sc := defScope sLaw) (by decide +kernel))
          (fun _ _ _ _ _ => pg_name (i := 3) scLaw.nd rfl (Or.inl rfl)) (fun _ _ _ _ _ => pts_nil)
          (fun _ _ _ _ _ => pe_call GR hr (by rfl) gR FR.kp bR .nil pass0 (pa_cons (pv 2) pa_nil))) pa_nil)))) (pss_one (ps_ret pe_bl)) pss_nil))))
      (pss_one (ps_ret pe_bl)), ?_⟩
    refine ⟨.ref a, rfl, a, _, rfl, .inl hS, _, _, rfl, _, _, rfl, ?_⟩
    rw [List.length_map]
    have hm : ∃ m : Nat, (if (if (ns.length : Int) < 3 then (ns.length : Int) else 3) > 1 then (if (ns.length : Int) < 3 then (ns.length : Int) else 3) else 1) = (m : Int) ∧ m ≤ 3 := by
      by_cases h1 : (ns.length : Int) < 3
      · rw [if_pos h1]
        by_cases h2 : (ns.length : Int) > 1
        · rw [if_pos h2]; exact ⟨ns.length, rfl, by omega⟩
        · rw [if_neg h2]; exact ⟨1, rfl, by omega⟩
      · rw [if_neg h1, if_pos (by decide)]; exact ⟨3, rfl, by omega⟩
    obtain ⟨m, em, lm⟩ := hm
    refine ⟨(m : Int), congrArg (fun z => [V.int z]) em, by omega, by omega, for_range (lo := 0) (n := m) (fun i σ H3 => ∃ y1 y2 y3, σ = [some (.ref a), y1, y2, y3] ∧ Same H H3) ⟨none, none, none, rfl, Same.refl _⟩ ?_ ?_⟩
    · rintro i σ H3 hi ⟨y1, y2, y3, rfl, s3⟩
      rw [show (0 : Int) + (i : Int) = i from by omega]
      refine ⟨.ref a, rfl, .int i, rfl, a, ns, i, rfl, s3.seq hS, by omega, fun p o np ho => ?_⟩
      have s4 := sm_upd (o := o) np
      have P4 : Pot (upd H3 p o) p 0 := ⟨o, upd_same, ho⟩
      have npH : H p = none := s3.free np
      have sB := s3.trans s4
      generalize upd H3 p o = H4 at s4 P4 sB
      refine ⟨4, rfl, by decide, by decide, fun D nD => ?_⟩
      have nDp : D ≠ p := P4.ne nD
      refine lc_range (lo := 0) (n := 4) (fun i H5 => Pot H5 p (100 * i) ∧ But p H4 H5 ∧ H5 D = some (.lst ((List.replicate i true).map V.bl))) ⟨P4.upd nDp, But.same (sm_upd nD), upd_same⟩ (fun i H5 hi h => ?_) (fun H5 h => ?_)
      · refine ⟨rfl, ?_⟩
        refine ⟨.ref p, rfl, p, 100 * i, rfl, h.1, by omega, fun H6 P6 b6 => ?_⟩
        refine ⟨_, b6 _ _ nDp h.2.2, ?_, ?_, (h.2.1.trans b6).put nD, ?_⟩
        · rw [List.length_map, List.length_replicate]
          exact line_lt (by omega)
        · exact (P6.upd nDp).mono (by omega)
        · rw [upd_same, rep_add, List.map_append]
          rfl
      · refine ⟨D, List.replicate 4 true, rfl, .inl (.inl h.2.2), _, rfl, ?_⟩
        refine iteF ⟨_, _, _, rfl, fun b o e => ?_⟩
        exact h.2.1 b o (ne_of_none e npH) (sB b o e)
    · rintro σ H3 ⟨y1, y2, y3, rfl, s3⟩
      exact q _
end
end Bal

namespace Bal
open PySem PySem.Spec PyProof.Rows L2
/-! ### what the top has written -/
theorem all_mk {l : PySem.W.OpenLaw} {w : World} {K : PySem.W.Frag} {h : Heap} {mg : Str → Option Value} {fa : Addr} (X : K.In h) (G : h.Ns mainGlobals mg) (hfa : mg "law" = some (.ref fa))
    {fU : Addr} {odU anU : Option Addr} {slU : Array (Option Value)} {ocU kVU dcU pmU cdU ctU : Value}
    {fX : Addr} {odX anX : Option Addr} {slX : Array (Option Value)} {ocX kVX dcX pmX cdX ctX : Value}
    {fP : Addr} {odP anP : Option Addr} {slP : Array (Option Value)} {ocP kVP dcP pmP cdP ctP : Value}
    {fT : Addr} {odT anT : Option Addr} {slT : Array (Option Value)} {ocT kVT dcT pmT cdT ctT : Value}
    {fK : Addr} {odK anK : Option Addr} {slK : Array (Option Value)} {ocK kVK dcK pmK cdK ctK : Value}
    {fS : Addr} {odS anS : Option Addr} {slS : Array (Option Value)} {ocS kVS dcS pmS cdS ctS : Value}
    {fA : Addr} {odA anA : Option Addr} {slA : Array (Option Value)} {ocA kVA dcA pmA cdA ctA : Value}
    {fN : Addr} {odN anN : Option Addr} {slN : Array (Option Value)} {ocN kVN dcN pmN cdN ctN : Value}
    {fL : Addr} {odL anL : Option Addr} {slL : Array (Option Value)} {ocL kVL dcL pmL cdL ctL : Value}
    {fW : Addr} {odW anW : Option Addr} {slW : Array (Option Value)} {ocW kVW dcW pmW cdW ctW : Value}
    {fD : Addr} {odD anD : Option Addr} {slD : Array (Option Value)} {ocD kVD dcD pmD cdD ctD : Value}
    {fR : Addr} {odR anR : Option Addr} {slR : Array (Option Value)} {ocR kVR dcR pmR cdR ctR : Value}
    {fZ : Addr} {odZ anZ : Option Addr} {slZ : Array (Option Value)} {ocZ kVZ dcZ pmZ cdZ ctZ : Value}
    {Cp ip : Addr} {nmp qnp : Str} {Np : Addr} {bsp : List Value} {snp : List Str} {sbp : List Value} {abp : Bool} {cop : Option Bool} {ddp : Option Addr} {m0p m1p m2p m3p m5p : Option Value} {odp anp : Option Addr} {slp : Array (Option Value)} {ocp kVp dcp pmp cdp ctp : Value}
    {Cno : Addr}
    {Cnr : Addr}
    (aU : PySem.W.nsIn K mainGlobals "turned" = some (some (.ref fU))) (lU : K.lookup fU = some ⟨ocU, odU, .func (PySem.W.fnOf "turned" "turned" (defArgs sTurned) (defBody sTurned) (defScope sTurned) .none kVU dcU pmU anU cdU ctU), slU⟩) (cU : PySem.W.codeIn K cdU "turned" = true) (kU : PySem.W.keepIn K (.ref fU) = true)
    (aX : PySem.W.nsIn K mainGlobals "exchanged" = some (some (.ref fX))) (lX : K.lookup fX = some ⟨ocX, odX, .func (PySem.W.fnOf "exchanged" "exchanged" (defArgs sExch) (defBody sExch) (defScope sExch) .none kVX dcX pmX anX cdX ctX), slX⟩) (cX : PySem.W.codeIn K cdX "exchanged" = true) (kX : PySem.W.keepIn K (.ref fX) = true)
    (aP : PySem.W.nsIn K mainGlobals "_law_pot" = some (some (.ref fP))) (lP : K.lookup fP = some ⟨ocP, odP, .func (PySem.W.fnOf "_law_pot" "_law_pot" (defArgs sPot) (defBody sPot) (defScope sPot) .none kVP dcP pmP anP cdP ctP), slP⟩) (cP : PySem.W.codeIn K cdP "_law_pot" = true) (kP : PySem.W.keepIn K (.ref fP) = true)
    (aT : PySem.W.nsIn K mainGlobals "_law_take" = some (some (.ref fT))) (lT : K.lookup fT = some ⟨ocT, odT, .func (PySem.W.fnOf "_law_take" "_law_take" (defArgs sTake) (defBody sTake) (defScope sTake) .none kVT dcT pmT anT cdT ctT), slT⟩) (cT : PySem.W.codeIn K cdT "_law_take" = true) (kT : PySem.W.keepIn K (.ref fT) = true)
    (aK : PySem.W.nsIn K mainGlobals "_law_pick" = some (some (.ref fK))) (lK : K.lookup fK = some ⟨ocK, odK, .func (PySem.W.fnOf "_law_pick" "_law_pick" (defArgs sPick) (defBody sPick) (defScope sPick) .none kVK dcK pmK anK cdK ctK), slK⟩) (cK : PySem.W.codeIn K cdK "_law_pick" = true) (kK : PySem.W.keepIn K (.ref fK) = true)
    (aS : PySem.W.nsIn K mainGlobals "_law_same" = some (some (.ref fS))) (lS : K.lookup fS = some ⟨ocS, odS, .func (PySem.W.fnOf "_law_same" "_law_same" (defArgs sSame) (defBody sSame) (defScope sSame) .none kVS dcS pmS anS cdS ctS), slS⟩) (cS : PySem.W.codeIn K cdS "_law_same" = true) (kS : PySem.W.keepIn K (.ref fS) = true)
    (aA : PySem.W.nsIn K mainGlobals "_law_tall" = some (some (.ref fA))) (lA : K.lookup fA = some ⟨ocA, odA, .func (PySem.W.fnOf "_law_tall" "_law_tall" (defArgs sTall) (defBody sTall) (defScope sTall) .none kVA dcA pmA anA cdA ctA), slA⟩) (cA : PySem.W.codeIn K cdA "_law_tall" = true) (kA : PySem.W.keepIn K (.ref fA) = true)
    (aN : PySem.W.nsIn K mainGlobals "_law_strewn" = some (some (.ref fN))) (lN : K.lookup fN = some ⟨ocN, odN, .func (PySem.W.fnOf "_law_strewn" "_law_strewn" (defArgs sStrewn) (defBody sStrewn) (defScope sStrewn) .none kVN dcN pmN anN cdN ctN), slN⟩) (cN : PySem.W.codeIn K cdN "_law_strewn" = true) (kN : PySem.W.keepIn K (.ref fN) = true)
    (aL : PySem.W.nsIn K mainGlobals "_law_line" = some (some (.ref fL))) (lL : K.lookup fL = some ⟨ocL, odL, .func (PySem.W.fnOf "_law_line" "_law_line" (defArgs sLine) (defBody sLine) (defScope sLine) .none kVL dcL pmL anL cdL ctL), slL⟩) (cL : PySem.W.codeIn K cdL "_law_line" = true) (kL : PySem.W.keepIn K (.ref fL) = true)
    (aW : PySem.W.nsIn K mainGlobals "_law_swapped" = some (some (.ref fW))) (lW : K.lookup fW = some ⟨ocW, odW, .func (PySem.W.fnOf "_law_swapped" "_law_swapped" (defArgs sSwapped) (defBody sSwapped) (defScope sSwapped) .none kVW dcW pmW anW cdW ctW), slW⟩) (cW : PySem.W.codeIn K cdW "_law_swapped" = true) (kW : PySem.W.keepIn K (.ref fW) = true)
    (aD : PySem.W.nsIn K mainGlobals "_law_told" = some (some (.ref fD))) (lD : K.lookup fD = some ⟨ocD, odD, .func (PySem.W.fnOf "_law_told" "_law_told" (defArgs sTold) (defBody sTold) (defScope sTold) .none kVD dcD pmD anD cdD ctD), slD⟩) (cD : PySem.W.codeIn K cdD "_law_told" = true) (kD : PySem.W.keepIn K (.ref fD) = true)
    (aR : PySem.W.nsIn K mainGlobals "_law_right" = some (some (.ref fR))) (lR : K.lookup fR = some ⟨ocR, odR, .func (PySem.W.fnOf "_law_right" "_law_right" (defArgs sRight) (defBody sRight) (defScope sRight) .none kVR dcR pmR anR cdR ctR), slR⟩) (cR : PySem.W.codeIn K cdR "_law_right" = true) (kR : PySem.W.keepIn K (.ref fR) = true)
    (aZ : PySem.W.nsIn K mainGlobals "law" = some (some (.ref fZ))) (lZ : K.lookup fZ = some ⟨ocZ, odZ, .func (PySem.W.fnOf "law" "law" (defArgs sLaw) (defBody sLaw) (defScope sLaw) .none kVZ dcZ pmZ anZ cdZ ctZ), slZ⟩) (cZ : PySem.W.codeIn K cdZ "law" = true) (kZ : PySem.W.keepIn K (.ref fZ) = true)
    (ap : PySem.W.nsIn K mainGlobals "NoPlace" = some (some (.ref Cp)))
    (xp : K.lookup Cp = some (excClassObj nmp qnp Cp Np bsp [.type "LookupError", .type "Exception", .type "BaseException", .type "object"] true snp sbp abp cop ddp m0p m1p m2p m3p m5p "LookupError.__new__"))
    (sp : PySem.W.findIn K (.ref Cp) "__setattr__" = some (some (.builtin "object.__setattr__"))) (gp : PySem.W.findIn K (.ref Cp) "__getattribute__" = some (some (.builtin "BaseException.__getattribute__"))) (hp : PySem.W.findIn K (.ref Cp) "__getattr__" = some none) (np : PySem.W.findIn K (.ref Cp) "place" = some none)
    (jp : PySem.W.findIn K (.ref Cp) "__init__" = some (some (.ref ip))) (tp : PySem.W.typeIn K (.ref ip) = some (.type "function"))
    (lp : K.lookup ip = some ⟨ocp, odp, .func (PySem.W.fnOf "__init__" "NoPlace.__init__" (defArgs sIP) (defBody sIP) (defScope sIP) .none kVp dcp pmp anp cdp ctp), slp⟩) (cp : PySem.W.codeIn K cdp "NoPlace.__init__" = true) (kp : PySem.W.keepIn K (.ref ip) = true)
    (yp : PySem.W.keepIn K (.ref Cp) = true) (ep : PySem.W.subIn K (.ref Cp) (.type "BaseException") = some true) (up : PySem.W.typeIn K (.ref Cp) = some (.type "type")) (dp : PySem.W.hasDictIn K Cp = true) (vp : PySem.W.subIn K (.ref Cp) (.ref Cp) = some true)
    (wp : PySem.W.findIn K (.ref Cp) "__class__" = some (some (.builtin "object.__class__"))) (zp : PySem.W.mroIn K Cp (.type "object") = some true)
    (gsG : PySem.W.specialIn K (.builtin "object.__class__") "__get__" = some (some (.builtin "getset_descriptor.__get__"))) (gsT : PySem.W.takesIn K (.builtin "object.__class__") = some true)
    (ano : PySem.W.nsIn K mainGlobals "NoOne" = some (some (.ref Cno))) (eno : PySem.W.subIn K (.ref Cno) (.type "BaseException") = some true) (uno : PySem.W.typeIn K (.ref Cno) = some (.type "type")) (dno : PySem.W.hasDictIn K Cno = true)
    (anr : PySem.W.nsIn K mainGlobals "NoRow" = some (some (.ref Cnr))) (enr : PySem.W.subIn K (.ref Cnr) (.type "BaseException") = some true) (unr : PySem.W.typeIn K (.ref Cnr) = some (.type "type")) (dnr : PySem.W.hasDictIn K Cnr = true)
    (q0 : PySem.W.subIn K (.ref Cp) (.ref Cno) = some false)
    (q1 : PySem.W.subIn K (.ref Cp) (.ref Cnr) = some false)
    (r0 : PySem.W.subIn K (.ref Cp) (.type "LookupError") = some true)
    (b_len : PySem.W.nsIn K mainGlobals "len" = some none)
    (b_abs : PySem.W.nsIn K mainGlobals "abs" = some none)
    (b_int : PySem.W.nsIn K mainGlobals "int" = some none)
    (b_bool : PySem.W.nsIn K mainGlobals "bool" = some none)
    (b_str : PySem.W.nsIn K mainGlobals "str" = some none)
    (b_list : PySem.W.nsIn K mainGlobals "list" = some none)
    (b_tuple : PySem.W.nsIn K mainGlobals "tuple" = some none)
    (b_range : PySem.W.nsIn K mainGlobals "range" = some none)
    (b_zip : PySem.W.nsIn K mainGlobals "zip" = some none)
    (b_all : PySem.W.nsIn K mainGlobals "all" = some none)
    (b_max : PySem.W.nsIn K mainGlobals "max" = some none)
    (b_min : PySem.W.nsIn K mainGlobals "min" = some none)
    (b_isinstance : PySem.W.nsIn K mainGlobals "isinstance" = some none)
    (b_LookupError : PySem.W.nsIn K mainGlobals "LookupError" = some none) :
    ∃ fd : FuncData, (∀ (s : Shared) (v : Value), BindsTo s fd ⟨[v], []⟩ [("_law_script", v)]) ∧ ∀ base : Heap, K.In base → base.Ns mainGlobals mg → FnOk l.prog w K mg base CX0 7 fa fd ["_law_script"] (spLaw K) := by
  have e := hfa.symm.trans (PySem.W.mg_of X G aZ)
  cases e
  have FU := fun_mk (st := sTurned) lU cU kU
  have gU := PySem.W.mg_of X G aU
  have FX := fun_mk (st := sExch) lX cX kX
  have gX := PySem.W.mg_of X G aX
  have FP := fun_mk (st := sPot) lP cP kP
  have gP := PySem.W.mg_of X G aP
  have FT := fun_mk (st := sTake) lT cT kT
  have gT := PySem.W.mg_of X G aT
  have FK := fun_mk (st := sPick) lK cK kK
  have gK := PySem.W.mg_of X G aK
  have FS := fun_mk (st := sSame) lS cS kS
  have gS := PySem.W.mg_of X G aS
  have FA := fun_mk (st := sTall) lA cA kA
  have gA := PySem.W.mg_of X G aA
  have FN := fun_mk (st := sStrewn) lN cN kN
  have gN := PySem.W.mg_of X G aN
  have FL := fun_mk (st := sLine) lL cL kL
  have gL := PySem.W.mg_of X G aL
  have FW := fun_mk (st := sSwapped) lW cW kW
  have gW := PySem.W.mg_of X G aW
  have FD := fun_mk (st := sTold) lD cD kD
  have gD := PySem.W.mg_of X G aD
  have FR := fun_mk (st := sRight) lR cR kR
  have gR := PySem.W.mg_of X G aR
  have FZ := fun_mk (st := sLaw) lZ cZ kZ
  have gZ := PySem.W.mg_of X G aZ
  have FIp := fun_mk (st := sIP) lp cp kp
  have Tp := erT_mk (f := "place") (PySem.W.mg_of X G ap) xp sp gp hp np jp tp FIp yp ep up dp vp wp zp gsG gsT bx_lookup
  have Tno : ErK K mg "NoOne" Cno := ⟨PySem.W.mg_of X G ano, eno, dno, uno⟩
  have Tnr : ErK K mg "NoRow" Cnr := ⟨PySem.W.mg_of X G anr, enr, dnr, unr⟩
  have m_len := PySem.W.mg_none_of X G b_len
  have m_abs := PySem.W.mg_none_of X G b_abs
  have m_int := PySem.W.mg_none_of X G b_int
  have m_bool := PySem.W.mg_none_of X G b_bool
  have m_str := PySem.W.mg_none_of X G b_str
  have m_list := PySem.W.mg_none_of X G b_list
  have m_tuple := PySem.W.mg_none_of X G b_tuple
  have m_range := PySem.W.mg_none_of X G b_range
  have m_zip := PySem.W.mg_none_of X G b_zip
  have m_all := PySem.W.mg_none_of X G b_all
  have m_max := PySem.W.mg_none_of X G b_max
  have m_min := PySem.W.mg_none_of X G b_min
  have m_isinstance := PySem.W.mg_none_of X G b_isinstance
  have m_LookupError := PySem.W.mg_none_of X G b_LookupError
  have bT := FT.binds (ps := ["_law_pot_here", "_law_bound"]) fun _ _ _ _ _ _ us hl => match us, hl with | [_, _], _ => rfl
  have bK := FK.binds (ps := ["_law_pot_here", "_law_some"]) fun _ _ _ _ _ _ us hl => match us, hl with | [_, _], _ => rfl
  have bS := FS.binds (ps := ["_law_found", "_law_due"]) fun _ _ _ _ _ _ us hl => match us, hl with | [_, _], _ => rfl
  have bA := FA.binds (ps := ["_law_pot_here", "_law_count"]) fun _ _ _ _ _ _ us hl => match us, hl with | [_, _], _ => rfl
  have bN := FN.binds (ps := ["_law_pot_here", "_law_some"]) fun _ _ _ _ _ _ us hl => match us, hl with | [_, _], _ => rfl
  have bL := FL.binds (ps := ["_law_pot_here", "_law_count"]) fun _ _ _ _ _ _ us hl => match us, hl with | [_, _], _ => rfl
  have bW := FW.binds (ps := ["_law_line_here", "_law_spot"]) fun _ _ _ _ _ _ us hl => match us, hl with | [_, _], _ => rfl
  have bD := FD.binds (ps := ["_law_line_here", "_law_spot"]) fun _ _ _ _ _ _ us hl => match us, hl with | [_, _], _ => rfl
  have bX := FX.binds (ps := ["row", "place"]) fun _ _ _ _ _ _ us hl => match us, hl with | [_, _], _ => rfl
  have bU := FU.binds (ps := ["row"]) fun _ _ _ _ _ _ us hl => match us, hl with | [_], _ => rfl
  have bP := FP.binds (ps := ["_law_script", "_law_k"]) fun _ _ _ _ _ _ us hl => match us, hl with | [_, _], _ => rfl
  have bR := FR.binds (ps := ["_law_pot_here"]) fun _ _ _ _ _ _ us hl => match us, hl with | [_], _ => rfl
  have bI := FIp.binds (ps := ["self", "place"]) fun _ _ _ _ _ _ us hl => match us, hl with | [_, _], _ => rfl
  have kU := kb_one (a := "row") FU fun _ _ _ _ _ _ u => by rfl
  have kX := kb_flip (a := "row") (b := "place") FX fun _ _ _ _ _ _ u v => by rfl
  have fin : ∀ base : Heap, FnOk l.prog w K mg base CX0 7 fa _ ["_law_script"] (spLaw K) := fun base =>
    ok_law (k := 0) FZ FP bP gP (ok_pot FP m_len m_abs m_int)
      FR bR gR (ok_right (k := 0) FR FT bT gT (ok_take FT) FL bL gL (ok_line (k := 1) FL FT bT gT FK bK gK FA bA gA FN bN gN m_len m_list m_range m_tuple)
        FS bS gS ((ok_same FS bS gS m_len m_list m_tuple m_int m_bool m_str m_isinstance m_zip m_all 2).mono (by decide)) FU bU kU gU (ok_turned FU m_tuple) FW bW gW (ok_swapped FW)
        FD bD gD (ok_told (k := 1) FD FX bX gX Tp bI Tno Tnr q0 q1 r0 m_len m_list m_tuple m_isinstance m_LookupError) FX bX kX gX (ok_exch (k := 2) FX Tp bI m_len m_list m_tuple) m_len m_list m_range m_all)
      m_len m_range m_all m_max m_min
  exact ⟨PySem.W.fnOf "law" "law" (defArgs sLaw) (defBody sLaw) (defScope sLaw) .none kVZ dcZ pmZ anZ cdZ ctZ, fun s v => .of_eq rfl, fun base _ _ => fin base⟩
end Bal
open PySem PySem.W PyProof.Rows
set_option maxHeartbeats 0 in
theorem PySem.Challenge.cw_balconyrow_k03_rows_turned_and_exchanged_holds : PySem.Challenge.rw_balconyrow_k03_rows_turned_and_exchanged.Holds := by
  w_on; o_law; k_head; (case hw => w_witness2)
  k_fill
  refine L2.walk_of (l := PySem.Challenge.rw_balconyrow_k03_rows_turned_and_exchanged) (n := 63) (k := 7) (x := "_law_script") (CX := fun _ => L2.CX0) (sp := fun w => Bal.spLaw _) rfl (by decide) rfl ⟨rfl, by decide, by decide⟩ (fun w h Y => PySem.W.kIn_of Y) ?F (fun _ _ a ns hl _ hS => ⟨a, ns, rfl, hS, hl, fun _ => rfl⟩) (fun _ _ _ _ _ h => h)
  case F =>
    intro w mg fa h KX G hmg
    refine' Bal.all_mk KX G hmg ?aU ?lU ?cU ?kU ?aX ?lX ?cX ?kX ?aP ?lP ?cP ?kP ?aT ?lT ?cT ?kT ?aK ?lK ?cK ?kK ?aS ?lS ?cS ?kS ?aA ?lA ?cA ?kA ?aN ?lN ?cN ?kN ?aL ?lL ?cL ?kL ?aW ?lW ?cW ?kW ?aD ?lD ?cD ?kD ?aR ?lR ?cR ?kR ?aZ ?lZ ?cZ ?kZ ?ap ?xp ?sp ?gp ?hp ?np ?jp ?tp ?lp ?cp ?kp ?yp ?ep ?up ?dp ?vp ?wp ?zp ?gsG ?gsT ?ano ?eno ?uno ?dno ?anr ?enr ?unr ?dnr ?q0 ?q1 ?r0 ?b_len ?b_abs ?b_int ?b_bool ?b_str ?b_list ?b_tuple ?b_range ?b_zip ?b_all ?b_max ?b_min ?b_isinstance ?b_LookupError
    (case aU => k_is); (case lU => k_is); (case cU => k_is); (case kU => k_is); (case aX => k_is); (case lX => k_is); (case cX => k_is); (case kX => k_is)
    (case aP => k_is); (case lP => k_is); (case cP => k_is); (case kP => k_is); (case aT => k_is); (case lT => k_is); (case cT => k_is); (case kT => k_is)
    (case aK => k_is); (case lK => k_is); (case cK => k_is); (case kK => k_is); (case aS => k_is); (case lS => k_is); (case cS => k_is); (case kS => k_is)
    (case aA => k_is); (case lA => k_is); (case cA => k_is); (case kA => k_is); (case aN => k_is); (case lN => k_is); (case cN => k_is); (case kN => k_is)
    (case aL => k_is); (case lL => k_is); (case cL => k_is); (case kL => k_is); (case aW => k_is); (case lW => k_is); (case cW => k_is); (case kW => k_is)
    (case aD => k_is); (case lD => k_is); (case cD => k_is); (case kD => k_is); (case aR => k_is); (case lR => k_is); (case cR => k_is); (case kR => k_is)
    (case aZ => k_is); (case lZ => k_is); (case cZ => k_is); (case kZ => k_is); (case ap => k_is); (case xp => k_is); (case sp => k_is); (case gp => k_is)
    (case hp => k_is); (case np => k_is); (case jp => k_is); (case tp => k_is); (case lp => k_is); (case cp => k_is); (case kp => k_is); (case yp => k_is)
    (case ep => k_is); (case up => k_is); (case dp => k_is); (case vp => k_is); (case wp => k_is); (case zp => k_is); (case gsG => k_is); (case gsT => k_is)
    (case ano => k_is); (case eno => k_is); (case uno => k_is); (case dno => k_is); (case anr => k_is); (case enr => k_is); (case unr => k_is); (case dnr => k_is)
    (case q0 => k_is); (case q1 => k_is); (case r0 => k_is); (case b_len => k_is); (case b_abs => k_is); (case b_int => k_is); (case b_bool => k_is); (case b_str => k_is)
    (case b_list => k_is); (case b_tuple => k_is); (case b_range => k_is); (case b_zip => k_is); (case b_all => k_is); (case b_max => k_is); (case b_min => k_is); (case b_isinstance => k_is)
    (case b_LookupError => k_is)
