import PyProof.Rows.All
import Wide.All
import OpenK.AllK
import Wide.FinOn
import HandS.ForMost
import HandS.ForExc
import HandS.Zip
import HandS.IsInst
import HandS.TupAny
import HandS.Style
import HandS.Flow
import HandS.Defaults
import HandS.ExcField
import HandS.ExcIs
import HandS.TryMany
import HandS.ExcInit
import HandS.ExcValue
import KE.KExcInit
import KE.KTryMore
import KE.KExcIs
import HandS.SortKw
import HandS.SortInts
import HandS.More
import KE.KIndexOf
import KE.DatumOrd
import PyProof.ReprRoads
import KE.GoesMore
import KE.GoesEnum
import HandS.TupMul
import HandS.Conv
import HandS.SetFor
import HandS.RaiseMore
import PyProof.Rows.IntBool
import PyProof.Rows.EqBoolInt
import HandS.TupSets
import HandS.Star
import HandS.Lambda
import HandS.EndTab
import HandS.Deep
import HandS.TryOnly
import KE.KDictZip
import PyProof.ListNew
import KE.KItemsList
import HandS.TupLe
import HandS.Dict
import HandS.Small
import HandS.SortRule
import HandS.Strs
import HandS.EndOwn
import HandS.DictComp
import HandS.Wide
import KE.SortData
import PyProof.TupleKey
import KE.KDictDisplayH
import HandS.SetKeys
import HandS.ListItems
import KE.KDictList
import KE.KDictWalk
import HandS.Finally
import HandS.MakeKwOnly
import HandS.OwnEq
import HandS.FStr
import KE.Datum
import KE.DatumIndex
import PyProof.InstEq
import PySem.Challenge.RW_balconyrow_k70_known_gallery
set_option Elab.async false
set_option linter.all false
set_option maxRecDepth 100000
set_option maxHeartbeats 4000000
namespace Bal
open PySem PySem.Spec PyProof.Rows L2
/-! ### heaps -/
theorem sm_upd {H : Hp} {p : Addr} {o : HO} (h : H p = none) : Same H (upd H p o) := fun b x e => by
  rw [upd_ne (ne_of_none e h)]
  exact e
/-- the draws' pot: three numbers, the last one at most c -/
def PotO (c : Nat) (o : HO) : Prop := ∃ x0 x1 x2 : Int, o = .lst [.int x0, .int x1, .int x2] ∧ 0 ≤ x0 ∧ 0 ≤ x1 ∧ x1 < 2147483648 ∧ 0 ≤ x2 ∧ x2 ≤ c
def Pot (H : Hp) (p : Addr) (c : Nat) : Prop := ∃ o, H p = some o ∧ PotO c o
/-- all that stood, but p, stands -/
def But (p : Addr) (H H' : Hp) : Prop := ∀ q o, q ≠ p → H q = some o → H' q = some o
theorem But.refl (p : Addr) (H : Hp) : But p H H := fun _ _ _ e => e
theorem But.trans {p : Addr} {H H1 H2 : Hp} (a : But p H H1) (b : But p H1 H2) : But p H H2 := fun q o n e => b q o n (a q o n e)
theorem But.same {p : Addr} {H H1 : Hp} (a : Same H H1) : But p H H1 := fun q o _ e => a q o e
theorem But.sqT {K : PySem.W.Frag} {p a : Addr} {H H' : Hp} {xs : List V} (b : But p H H') (n : a ≠ p) (h : SqT K H a xs) : SqT K H' a xs := by
  rcases h with (h | ⟨o, h⟩) | h
  · exact .inl (.inl (b _ _ n h))
  · exact .inl (.inr ⟨o, b _ _ n h⟩)
  · exact .inr h
theorem Same.sqT {K : PySem.W.Frag} {a : Addr} {H H' : Hp} {xs : List V} (b : Same H H') (h : SqT K H a xs) : SqT K H' a xs := by
  rcases h with (h | ⟨o, h⟩) | h
  · exact .inl (.inl (b _ _ h))
  · exact .inl (.inr ⟨o, b _ _ h⟩)
  · exact .inr h
theorem Pot.mono {H : Hp} {p : Addr} {c d : Nat} (h : Pot H p c) (l : c ≤ d) : Pot H p d := by
  obtain ⟨o, e, x0, x1, x2, a, h0, h1, h2, h3, h4⟩ := h
  exact ⟨o, e, x0, x1, x2, a, h0, h1, h2, h3, by omega⟩
theorem Pot.same {H H' : Hp} {p : Addr} {c : Nat} (h : Pot H p c) (s : Same H H') : Pot H' p c := by
  obtain ⟨o, e, r⟩ := h
  exact ⟨o, s _ _ e, r⟩
theorem Pot.ne {H : Hp} {p q : Addr} {c : Nat} (h : Pot H p c) (n : H q = none) : q ≠ p := fun e => by
  obtain ⟨o, z, _⟩ := h
  rw [← e, n] at z
  cases z
theorem But.none {p a : Addr} {H H' : Hp} (b : But p H H') (n : a ≠ p) (h : H' a = none) : H a = none := by
  cases e : H a with
  | none => rfl
  | some o =>
    rw [b a o n e] at h
    cases h
theorem But.put {p a : Addr} {H H' : Hp} {o : HO} (b : But p H H') (h : H a = Option.none) : But p H (upd H' a o) := fun q o' n e => by
  rw [upd_ne (ne_of_none e h)]
  exact b q o' n e
theorem Same.put {a : Addr} {H H' : Hp} {o : HO} (b : Same H H') (h : H a = Option.none) : Same H (upd H' a o) := fun q o' e => by
  rw [upd_ne (ne_of_none e h)]
  exact b q o' e
theorem Pot.upd {H : Hp} {p a : Addr} {c : Nat} {o : HO} (h : Pot H p c) (n : a ≠ p) : Pot (upd H a o) p c := by
  obtain ⟨o', e, r⟩ := h
  exact ⟨o', by rw [upd_ne (Ne.symm n)]; exact e, r⟩
/-! ### comprehensions over anything -/
theorem lc_gen {J : It} {n : Nat} {g : TG} {tt : TT} {te : TE} {vs : List Nat} {σ : L2.St} {H1 : Hp} {D : Addr} {Qd : Hp → Prop} (Pv : Nat → Hp → Prop) (h0 : Pv 0 (upd H1 D (.lst [])))
    (hgo : ∀ i H, i < n → Pv i H → J.go i H) (hst : ∀ H, Pv n H → J.stop n H)
    (hs : ∀ i H x H', i < n → Pv i H → J.yld i H x H' → g x (wipe σ vs) H' fun σ2 H2 => wipe σ2 vs = wipe σ vs ∧ tt σ2 H2 fun b H3 =>
      if b = true then te σ2 H3 fun y H4 => ∃ acc, H4 D = some (.lst acc) ∧ acc.length < sizeLine ∧ Pv (i + 1) (upd H4 D (.lst (acc ++ [y]))) else Pv (i + 1) H3) (hd : ∀ H, Pv n H → Qd H) :
    ∃ W : Nat → Nat → Hp → Prop, (∃ m, W 0 m (upd H1 D (.lst []))) ∧ ∀ i m H, W i m H →
      (J.stop i H ∧ Qd H) ∨ (J.go i H ∧ ∃ Nx : Hp → Prop, (∀ H', Nx H' → ∃ m', m' < m ∧ W (i + 1) m' H') ∧ ∀ x H', J.yld i H x H' → g x (wipe σ vs) H' fun σ2 H2 => wipe σ2 vs = wipe σ vs ∧ tt σ2 H2 fun b H3 =>
        if b = true then te σ2 H3 fun y H4 => ∃ acc, H4 D = some (.lst acc) ∧ acc.length < sizeLine ∧ Nx (upd H4 D (.lst (acc ++ [y]))) else Nx H3) := by
  refine ⟨fun i m H => m = n - i ∧ i ≤ n ∧ Pv i H, ⟨n, by simp, Nat.zero_le _, h0⟩, ?_⟩
  rintro i m H ⟨rfl, hi, p⟩
  by_cases hlt : i < n
  · exact .inr ⟨hgo i H hlt p, Pv (i + 1), fun H' p' => ⟨n - (i + 1), by omega, rfl, hlt, p'⟩, fun x H' y => hs i H x H' hlt p y⟩
  · have e : i = n := by omega
    subst e
    exact .inl ⟨hst H p, hd H p⟩
/-! ### data -/
theorem lay_ints : ∀ ns : List Int, PyData.canLayAll0 (ns.map PyData.int) = true
  | [] => rfl
  | n :: ns => by
    show (PyData.canLay0 (.int n) && PyData.canLayAll0 (ns.map PyData.int)) = true
    rw [lay_ints ns]
    rfl
theorem eqv_ints : ∀ ns ms : List Int, PyData.eqvAll (ns.map PyData.int) (ms.map PyData.int) = decide (ns = ms)
  | [], [] => rfl
  | [], m :: ms => rfl
  | n :: ns, [] => rfl
  | n :: ns, m :: ms => by
    show (PyData.eqv (.int n) (.int m) && PyData.eqvAll (ns.map PyData.int) (ms.map PyData.int)) = _
    rw [eqv_ints ns ms]
    show ((n == m) && decide (ns = ms)) = decide (n :: ns = m :: ms)
    by_cases h : n = m
    · subst h
      simp
    · simp [h]
theorem cls2 {a b : String} : Paired ClsV [.ty a, .ty b] [.type a, .type b] := .cons (.ty _) (.cons (.ty _) .nil)
theorem kA_no {K : PySem.W.Frag} {a : String} (h1 : kitB a "list" = some false) (h2 : kitB a "tuple" = some false) : PySem.W.kitAny K (.type a) [.type "list", .type "tuple"] = some false :=
  kitAny_cons (b := false) (kit_ty h1) (fun _ => kitAny_cons (b := false) (kit_ty h2) (fun _ => rfl) (fun z => Bool.noConfusion z)) (fun z => Bool.noConfusion z)
theorem kA_lst {K : PySem.W.Frag} : PySem.W.kitAny K (.type "list") [.type "list", .type "tuple"] = some true :=
  kitAny_cons (b := true) (kit_ty (by decide +kernel)) (fun z => Bool.noConfusion z) (fun _ => rfl)
theorem kA_tup {K : PySem.W.Frag} : PySem.W.kitAny K (.type "tuple") [.type "list", .type "tuple"] = some true :=
  kitAny_cons (b := false) (kit_ty (by decide +kernel)) (fun _ => kitAny_cons (b := true) (kit_ty (by decide +kernel)) (fun z => Bool.noConfusion z) (fun _ => rfl)) (fun z => Bool.noConfusion z)
mutual
theorem dp_same {K : PySem.W.Frag} {H H' : Hp} (s : Same H H') : ∀ {d : PyData} {x : V}, Dp K H x d → Dp K H' x d
  | _, _, .non => .non
  | _, _, .bl b => .bl b
  | _, _, .int b => .int b
  | _, _, .str b => .str b
  | _, _, .lst h a => .lst (s.seq h) (dps_same s a)
  | _, _, .tup h a => .tup (Same.sqT s h) (dps_same s a)
theorem dps_same {K : PySem.W.Frag} {H H' : Hp} (s : Same H H') : ∀ {ds : List PyData} {xs : List V}, DpAll K H xs ds → DpAll K H' xs ds
  | _, _, .nil => .nil
  | _, _, .cons a b => .cons (dp_same s a) (dps_same s b)
end
end Bal

namespace Bal
open PySem PySem.Spec PyProof.Rows L2
/-! ### own errors over any of Python's own, each with one field -/
/-- what is asked of the base -/
structure BaseX (newId : String) (tail : List Value) : Prop where
  ex : ∃ B initId, ExcBaseFacts B newId initId tail
  pass : ∀ self, refuseLoop self "__setattr__" tail = pure ()
  ob : tail.contains (.type "object") = true
theorem bx_lookup : BaseX "LookupError.__new__" [.type "LookupError", .type "Exception", .type "BaseException", .type "object"] := ⟨⟨_, _, PySem.F.excBase_LookupError⟩, PySem.F.store_LookupError.passes, by decide +kernel⟩
theorem bx_value : BaseX "ValueError.__new__" [.type "ValueError", .type "Exception", .type "BaseException", .type "object"] := ⟨⟨_, _, PySem.F.excBase_ValueError⟩, PySem.F.store_ValueError.passes, by decide +kernel⟩
theorem bx_runtime : BaseX "RuntimeError.__new__" [.type "RuntimeError", .type "Exception", .type "BaseException", .type "object"] := ⟨⟨_, _, PySem.F.excBase_RuntimeError⟩, PySem.F.store_RuntimeError.passes, by decide +kernel⟩
/-- what the written part says of such a class at C -/
structure ErC (K : PySem.W.Frag) (C : Addr) (newId : String) (tail : List Value) : Prop where
  bx : BaseX newId tail
  cls : ∃ nm q N bs sn sub ab col dd k0 k1 k2 k3 k5, K.lookup C = some (excClassObj nm q C N bs tail true sn sub ab col dd k0 k1 k2 k3 k5 newId)
  sa : PySem.W.findIn K (.ref C) "__setattr__" = some (some (.builtin "object.__setattr__"))
  exC : PySem.W.subIn K (.ref C) (.type "BaseException") = some true
  tyC : PySem.W.typeIn K (.ref C) = some (.type "type")
  kC : PySem.W.keepIn K (.ref C) = true
section
open PySem.W PySem.Calls PySem.HandSPX Builtin Builtin.ObjectAttr
variable {prog : Program} {w : World} {A : Around} {E : Value → Shared → Prop} {R : Result → Shared → Prop} {hp : Heap} {g : Array GenState} {d : Drawn} {t : Nat} {os : OsState}
/-- the first field of a new error, whatever its base -/
theorem osaG {K : W.Frag} {name : Str} {tk : Tok} {v : Value} {x C : Addr} {fv : Array Value} {cd : ClassData} (X : K.In hp) (hx : hp.get? x = some { cls := .ref C, data := .fields fv }) (hcd : W.clsIn K C = some cd)
    (ne : cd.mro.isEmpty = false) (hob : cd.mro.contains (.type "object") = true) (hps : refuseLoop (.ref x) "__setattr__" cd.mro = pure ()) (hh : cd.hasDict = true) (ha : W.findIn K (.ref C) name = some none)
    (hq : ∀ h' tk' dx, (∀ b o, b ≠ x → hp.get? b = some o → h'.get? b = some o) → hp.objs.size ≤ dx → dx ≠ x → h'.get? x = some { cls := .ref C, dict := some dx, data := .fields fv } → h'.Ns1 dx (fun y => if y = name then some v else none) → R (.ok (.ret .none)) ⟨h', g, d, tk', os⟩) :
    codeAny (model prog w) A (.call (.builtin "object.__setattr__") ⟨[.ref x, .str name tk, v], []⟩) R ⟨hp, g, d, t, os⟩ := by
  have I : W.InstAt hp x { cls := .ref C, data := .fields fv } C none := ⟨hx, rfl, rfl, trivial⟩
  have hxs : x ≠ hp.objs.size := Nat.ne_of_lt (Heap.lt_size hx); have SF := F.store_object
  have sub : W.Looks (model prog w) hp (isInstance (.ref x) (.type "object")) true := I.type.andThen (W.looks_mroIn X (by unfold W.mroIn; rw [hcd, Option.bind_some, if_neg (by rw [ne]; decide), hob]))
  refine codeAny_call_builtin SF.slot.plain SF.entry (@W.check_slot (model prog w) _ _ ⟨hp, g, d, t, os⟩ "object.__setattr__" "object" "__setattr__" (.ref x) [.str name tk, v] [] _ SF.kind SF.split sub (SF.args (.ref x) (.str name tk) v) ?_)
  have hmr : W.Looks (model prog w) hp (mroOf (.ref C)) cd.mro := (W.looks_clsIn X hcd).andThen .now; have L3 : W.Looks (model prog w) hp (storeTaker? none) none := .now; have hcls : W.Looks (model prog w) hp (classData C) cd := W.looks_clsIn X hcd
  rw [W.osa_eq, refuse_eq]; refine wpAny_bind (wpAny_bind (I.type.at (wpAny_bind (hmr.at ?_)))); rw [hps]
  refine wpAny_pure (wpAny_bind (I.type.at (wpAny_bind ((W.looks_findIn X ha).at (wpAny_bind (L3.at ?_)))))); show wpAny _ _ (storeInOwnDict (.ref x) (.ref C) (.str name tk) name v false) _ _ _
  obtain ⟨nm, bs, mro, ns, qn, hd, sn, sb, ab, col, del⟩ := cd; dsimp only at hh; subst hh; unfold storeInOwnDict ownDictForStores
  repeat (first | with_reducible refine store_in_new ?_ ?_ | with_reducible refine wpAny_loadPart_at hx ?_ | with_reducible refine hcls.at ?_ | wp_step)
  · exact ⟨_, #[], _, (Heap.get?_update_ne _ _ _ _ hxs.symm).trans (Heap.get?_push_at rfl rfl), rfl, fun e he => absurd he (by simp), fun _ => rfl⟩
  · intro h' tk' hn' hs; have hx₁ : (hp.push { cls := .type "dict", data := .dict #[] }).get? x = some { cls := .ref C, data := .fields fv } := Heap.get?_push_of_some _ hx
    refine hq h' tk' hp.objs.size (fun b o hb ho => ?_) (Nat.le_refl _) hxs.symm ?_ hn'
    · exact (hs.2 b (Nat.ne_of_lt (Heap.lt_size ho))).trans ((Heap.get?_update_ne _ _ _ _ hb).trans (Heap.get?_push_of_some _ ho))
    · exact (hs.2 x hxs).trans (Heap.get?_update_self _ hx₁ rfl)
end
section
variable {X : Cx} {pins : List (Addr × Obj)} {σ : L2.St} {H : Hp} {s : Shared} {a C : Addr} {f : Str} {y : V} {u : Value} {Q : Unit → Shared → Prop} {E : Value → Shared → Prop} {A : Around} {newId : String} {tail : List Value}
theorem er_store (T : ErC X.K C newId tail) (I : Inv X pins σ H s) (e : H a = some (exo a C none)) (hno : PySem.W.findIn X.K (.ref C) f = some none) (ry : RelV y u)
    (h : ∀ dx s', H dx = none → dx ≠ a → Inv X pins σ (upd (upd H dx (exd dx [(f, y)])) a (exo a C (some dx))) s' → Q () s') : wpAny (model X.prog X.w) A (setAttr (.ref a) f u) Q E s := by
  obtain ⟨nm, q, N, bs, sn, sub, ab, col, dd, k0, k1, k2, k3, k5, hC⟩ := T.cls
  have hcl : PySem.W.clsIn X.K C = some { name := nm, bases := bs, mro := .ref C :: tail, ns := N, qualname := q, hasDict := true, slotNames := sn, subclasses := sub, abstract := ab, collection := col, hasDel := false } := by unfold PySem.W.clsIn; rw [hC] <;> rfl
  obtain ⟨t1, ho⟩ := exo_at I.hok e; obtain ⟨hp, g, d, t, os⟩ := s
  refine PySem.W.set_plain I.kIn (ox := { cls := .ref C, dict := none, data := .fields #[.ref t1, .none, .none, .none, .bool false, .none] }) (od := none) ⟨ho, rfl, rfl, trivial⟩ T.sa ?_
  refine osaG I.kIn ho hcl rfl (by show (Value.ref C :: tail).contains (.type "object") = true; rw [List.contains_cons, T.bx.ob, Bool.or_true]) (by show refuseLoop (.ref a) "__setattr__" (.ref C :: tail) = pure (); rw [refuseLoop_ref]; exact T.bx.pass _) rfl hno (fun h' tk' dx k dn dne hx hn => ?_)
  have hnd : H dx = none := I.hok.fresh dn; have nd : ∀ {b : Addr} {o : Obj}, hp.get? b = some o → b ≠ dx := fun {b o} q => Nat.ne_of_lt (Nat.lt_of_lt_of_le (Heap.lt_size q) dn)
  have na : ∀ {b : Addr}, H b = none → b ≠ a := fun {b} n z => by rw [z, e] at n; cases n
  have U : Un X.fs [] H (upd (upd H dx (exd dx [(f, y)])) a (exo a C (some dx))) hp h' := { keep := fun b o q n _ _ => k b o (na n) q, slot := fun b o q n _ _ => ⟨o.slots, k b o (na n) q⟩, free := fun b o q n _ => by rw [upd_ne (na n), upd_ne (nd q)]; exact n, there := fun b o q _ => if hb : b = a then ⟨_, (congrArg h'.get? hb).trans hx⟩ else ⟨o, k b o hb q⟩, tups := fun b xs q => by rw [upd_ne (at_ne e q exo_tup), upd_ne (ne_of_none q hnd)]; exact q, frzs := fun b o v q => by rw [upd_ne (at_ne e q exo_frz), upd_ne (ne_of_none q hnd)]; exact q, tbls := fun b ps q => ⟨#[], by rw [upd_ne (at_ne e q exo_tbl), upd_ne (ne_of_none q hnd), q]; simp⟩ }
  refine h dx _ hnd dne (I.un (t' := tk') U fun b o q => ?_)
  by_cases hb : b = a
  · subst hb; rw [upd_same] at q; cases q; exact exo_ok hx
  · rw [upd_ne hb] at q
    by_cases hd : b = dx
    · subst hd; rw [upd_same] at q; cases q; exact exd_ok hn (relO_put (fs := []) ry fun g => True.intro)
    · rw [upd_ne hd] at q
      refine (I.hok b o q).stay (fun c v hc z => k c v ?_ z) (fun c hc => by rw [upd_ne (at_ne e hc exo_own), upd_ne (ne_of_none hc hnd)]; exact hc) (fun c xs hc => by rw [upd_ne (at_ne e hc exo_tup), upd_ne (ne_of_none hc hnd)]; exact hc)
      rcases hc with hc | hc
      · rw [hc]; exact hb
      · exact at_ne e hc exo_own
/-- self.f = e within the __init__ of such a class -/
def tEst (K : PySem.W.Frag) (f : Str) (to te : TE) : TS := fun D σ H => te σ H fun y H1 => to σ H1 fun x H2 => ∃ (a C : Addr) (newId : String) (tail : List Value), x = .ref a ∧ ErC K C newId tail ∧ PySem.W.findIn K (.ref C) f = some none ∧
  H2 a = some (exo a C none) ∧ ∀ dx, H2 dx = none → dx ≠ a → D.nx σ (upd (upd H2 dx (exd dx [(f, y)])) a (exo a C (some dx)))
theorem ps_est {o e : Expr} {to te : TE} {p' pos : Pos} (ho : PE X o to) (he : PE X e te) (hs : swapsWith e (some (.Attribute o f p')) pos.line X.env = pure false := by rfl) : PS X (.Assign [.Attribute o f p'] e pos) (tEst X.K f to te) := by
  refine ⟨fun pins s σ H D I h => ?_⟩
  refine plainObj_wpAny_Assign_Attribute (thn (he.run pins s σ H _ I h) fun v s1 ⟨y, H1, I1, r1, q1⟩ => thn (ho.run pins s1 σ H1 _ I1 q1) fun u s2 ⟨x, H2, I2, r2, a, C, nw, tl, ex, T, hno, ea, q⟩ => ?_) hs
  subst ex; obtain rfl : u = Value.ref a := r2; exact er_store T I2 ea hno r1 fun dx s' n ne J => ⟨σ, _, J, q dx n ne⟩
/-- C(e, ..): such an error is made -/
theorem pmk_er {CX : CXT} {x : Str} {C fI : Addr} {k : Nat} {fd : FuncData} {ps : List Str} {sp : Sp} {ds : List Value} {dvs : List V} {e : Expr} {es : List Expr} {ta : TA} {p pos : Pos} (T : ErC X.K C newId tail) (iC : PySem.W.findIn X.K (.ref C) "__init__" = some (some (.ref fI))) (tI : PySem.W.typeIn X.K (.ref fI) = some (.type "function"))
    (F1 : FnOk X.prog X.w X.K X.mg X.base CX k fI fd ps sp) (hr : Room (k + 1) X.A) (hb : Binds X.K fd ps ds) (hd : Vals dvs ds) (hx : Passes CX X (fun _ _ _ => False)) (hg : Gl X x) (hm : X.mg x = some (.ref C)) (ha : PA X (e :: es) ta)
    (hdb : (x == ("__debug__" : Str)) = false := by decide) (he : starEach (e :: es) X.env = (false, eval e X.env) :: starEach es X.env := by rfl) (hpl : (backTo pos (starEach es X.env)).any (·.1) = false := by rfl) : PMk X (.Call (.Name x p) (e :: es) [] pos) (tMkO C sp dvs ta) := by
  intro pins s σ H Q I h; obtain ⟨nm, q, N, bs, sn, sub, ab, col, dd, k0, k1, k2, k3, k5, hC⟩ := T.cls; obtain ⟨B, ini, FB⟩ := T.bx.ex
  refine wpAny_Call_Name_kw (ld_glob I hg hm ?_ hdb)
  refine PySem.W.callWith_K (h₀ := X.base) I.ok.mod.kin T.kC (thn (ha.run pos pins s σ H _ I h) fun us s1 ⟨vs, H1, I1, r1, hz, q1⟩ => ⟨I1.kIn, ?_⟩) he hpl
  show wpAny _ _ (call (.ref C) us) _ _ _; obtain ⟨hp, g, dr, tk, os⟩ := s1
  have hsz : hp.objs.size ≤ hp.objs.size + 1 := Nat.le_succ _; have hn : H1 (hp.objs.size + 1) = none := I1.hok.fresh hsz; have hq := q1 (hp.objs.size + 1) hn
  have kk : ∀ b o, hp.get? b = some o → ((hp.push (PySem.W.kdv_tup us)).push (PySem.HandSPX.excO C hp.objs.size)).get? b = some o := fun b o e => Heap.get?_push_of_some _ (Heap.get?_push_of_some _ e)
  have hget : ((hp.push (PySem.W.kdv_tup us)).push (PySem.HandSPX.excO C hp.objs.size)).get? (hp.objs.size + 1) = some (PySem.HandSPX.excO C hp.objs.size) := by heap_get
  have I2 : Inv X pins σ (upd H1 (hp.objs.size + 1) (exo (hp.objs.size + 1) C none)) ⟨(hp.push (PySem.W.kdv_tup us)).push (PySem.HandSPX.excO C hp.objs.size), g, dr, tk, os⟩ := I1.laid (t' := tk) (a := hp.objs.size + 1) (o := exo (hp.objs.size + 1) C none) (h' := (hp.push (PySem.W.kdv_tup us)).push (PySem.HandSPX.excO C hp.objs.size)) kk hsz (exo_ok hget)
  have r2 : Vals (V.ref (hp.objs.size + 1) :: (vs ++ dvs)) (Value.ref (hp.objs.size + 1) :: (us ++ ds)) := .cons rfl (r1.append hd)
  have hl : (Value.ref (hp.objs.size + 1) :: us ++ ds).length = ps.length := by have e := r2.length; rw [F1.len _ _ _ _ hq] at e; exact e.symm
  have hus : us.length ≤ sizeLine := by rw [← Paired.length r1, sizeLine_eq]; omega
  refine wpAny_call (PySem.HandSPX.call_own FB (fun _ => rfl) (I1.kIn _ _ hC) (PySem.W.looks_findIn I1.kIn iC) (fun self => PySem.W.bind_fn I1.kIn self tI) hus (codeAny_mono (F1.run _ X.stack _ _ ⟨Value.ref (hp.objs.size + 1) :: us, []⟩ (Value.ref (hp.objs.size + 1) :: (us ++ ds)) _ _ (fun _ _ _ => False) (hr.make C us []) (I2.env0.make C us []) (hb _ (Value.ref (hp.objs.size + 1) :: us) I2.kIn hl) r2 hq) fun r s' hq' => ?_))
  cases r with
  | error er => exact hx pins σ _ _ er s' I2 hq'
  | ok fl =>
    cases fl with
    | ret u =>
      obtain ⟨v, H2, os2, bare2, un2, hok2, rv, ev, d, fs, ea, ed, hd1, q2⟩ := hq'; subst ev; obtain ⟨h2, g2, d2, t2, os'⟩ := s'
      exact ⟨rv, mk_end (raises_own T.exC T.tyC) I1 hsz kk un2 hok2 os2 bare2 ea ed hd1 q2⟩
    | next => exact False.elim hq'
    | brk => exact False.elim hq'
    | cont => exact False.elim hq'
end
end Bal

namespace Bal
open PySem PySem.Spec PyProof.Rows L2
section
open PySem.W PySem.Calls
variable {M : Model} {K : Frag} {A : Around} {E : Value → Shared → Prop} {s : Shared}
theorem forIn_skip {f : Value → PUnit → Sem (ForInStep PUnit)} {Q : PUnit → Shared → Prop} : ∀ cs : List Value, (∀ c ∈ cs, ∀ R : ForInStep PUnit → Shared → Prop, R (ForInStep.yield ⟨⟩) s → wpAny M A (f c ⟨⟩) R E s) → Q ⟨⟩ s → wpAny M A (forIn cs PUnit.unit f) Q E s
  | [], _, hq => by rw [List.forIn_nil]; exact wpAny_pure hq
  | c :: cs, h, hq => by
    rw [List.forIn_cons]
    exact wpAny_bind (h c (List.mem_cons_self ..) _ (forIn_skip cs (fun d hd => h d (List.mem_cons_of_mem _ hd)) hq))
theorem forIn_find {β : Type} {f : Value → β → Sem (ForInStep β)} {y0 x1 : β} (b : Value → Bool) {Q : β → Shared → Prop} : ∀ cs : List Value, (∀ c ∈ cs, ∀ R : ForInStep β → Shared → Prop, R (if b c = true then ForInStep.done x1 else ForInStep.yield y0) s → wpAny M A (f c y0) R E s) →
    Q (if cs.any b = true then x1 else y0) s → wpAny M A (forIn cs y0 f) Q E s
  | [], _, hq => by rw [List.forIn_nil]; exact wpAny_pure hq
  | c :: cs, h, hq => by
    rw [List.forIn_cons]
    refine wpAny_bind (h c (List.mem_cons_self ..) _ ?_)
    rw [List.any_cons] at hq
    cases hb : b c with
    | true =>
      rw [hb, Bool.true_or] at hq
      exact wpAny_pure hq
    | false =>
      rw [hb, Bool.false_or] at hq
      exact forIn_find b cs (fun d hd => h d (List.mem_cons_of_mem _ hd)) hq
theorem exmAny_each {cls : Value} : ∀ {us : List Value} {b : Bool}, exmAny K cls us = some b → (∀ c ∈ us, ∃ d, exmOne K cls c = some d) ∧ b = us.any fun c => exmOne K cls c == some true
  | [], b, h => by
    have e : some false = some b := h
    cases e
    exact ⟨fun _ h => (nomatch h), rfl⟩
  | c :: us, b, h => by
    obtain ⟨b1, d1, h1, h2, rfl⟩ := exmAny_cons h
    obtain ⟨i1, i2⟩ := exmAny_each h2
    refine ⟨fun x hx => ?_, ?_⟩
    · rcases List.mem_cons.mp hx with rfl | hx
      · exact ⟨b1, h1⟩
      · exact i1 x hx
    · rw [List.any_cons, ← i2, h1]
      cases b1 <;> rfl
/-- except (C1, .., Cn): does it name the class of e -/
theorem exm_any {cls : Value} {us : List Value} {tp e : Addr} {b : Bool} {h : Heap} (X : K.In h) (LT : Looks M h (typeOf (.ref e)) cls) (hp : h.get? tp = some { cls := .type "tuple", data := .seq us.toArray }) (hx : exmAny K cls us = some b) : Looks M h (excMatches (.ref e) (.ref tp)) b := by
  intro A Q E s k₀ q
  obtain ⟨hh, g, d, tk, os⟩ := s
  have k : ∀ b o, h.get? b = some o → hh.get? b = some o := k₀
  have LT0 : Looks M h (isInstance (.ref tp) (.type "tuple")) true := ((Looks.ld hp).andThen .now).andThen (Looks.of_pure isSubtype_tuple_tuple)
  obtain ⟨each, eb⟩ := exmAny_each hx
  have LT' := LT.keeps k; have LT0' := LT0.keeps k; have hp' := k _ _ hp
  unfold excMatches
  refine wpAny_bind (LT0'.at ?_); dsimp only; rw [if_pos rfl]
  first
    | refine wpAny_bind (wpAny_seqItems hp' rfl ?_)
    | refine wpAny_bind (wpAny_bind (wpAny_seqItems hp' rfl (wpAny_pure ?_)))
  dsimp only [Option.getD_some, Option.getD]
  refine wpAny_bind (wpAny_pure (wpAny_bind (forIn_skip us (fun c hc R hR => ?_) ?_)))
  · obtain ⟨dc, h1⟩ := each c hc
    obtain ⟨e1, _⟩ := exm_cls (M := M) X h1
    refine wpAny_bind ((e1.keeps k).at ?_)
    simp only [Bool.not_true, Bool.false_eq_true, if_false]
    exact wpAny_pure hR
  · refine wpAny_bind (LT'.at ?_)
    refine wpAny_bind (forIn_find (x1 := (some true, ())) (fun c => exmOne K cls c == some true) us (fun c hc R hR => ?_) ?_)
    · obtain ⟨dc, h1⟩ := each c hc
      obtain ⟨_, e2⟩ := exm_cls (M := M) X h1
      refine wpAny_bind ((e2.keeps k).at ?_)
      rw [h1] at hR
      cases dc with
      | true => exact wpAny_pure hR
      | false => exact wpAny_pure hR
    · rw [← eb]
      cases b with
      | true => exact wpAny_pure q
      | false => exact wpAny_pure q
end
end Bal

namespace Bal
open PySem PySem.Spec PyProof.Rows L2
/-! ### an error that was caught and is kept -/
/-- at a: an error of the class cls, its dict d -/
def ErV (cls : Value) (d : Option Addr) (a : Addr) : HO := .ext fun h => ∃ (oe : Obj) (vs : Array Value), h.get? a = some oe ∧ Zc cls d oe ∧ oe.data = .fields vs
theorem erV_ok {P : Program} {w : World} {H : Hp} {h : Heap} {a : Addr} {cls : Value} {d : Option Addr} {oe : Obj} {vs : Array Value} (e : h.get? a = some oe) (z : Zc cls d oe) (hd : oe.data = .fields vs) : ObjOk P w H h a (ErV cls d a) :=
  ⟨⟨oe, vs, e, z, hd⟩, ⟨oe, e⟩, fun _ _ ⟨o, v, q, r⟩ k => ⟨o, v, k o q, r⟩⟩
theorem erV_at {P : Program} {w : World} {H : Hp} {h : Heap} {a : Addr} {cls : Value} {d : Option Addr} (hok : HOk P w H h) (e : H a = some (ErV cls d a)) : ∃ (oe : Obj) (vs : Array Value), h.get? a = some oe ∧ Zc cls d oe ∧ oe.data = .fields vs := by
  have x : ObjOk P w H h a (.ext fun h => ∃ (oe : Obj) (vs : Array Value), h.get? a = some oe ∧ Zc cls d oe ∧ oe.data = .fields vs) := hok a _ e
  exact x.1
section
variable {X : Cx} {pins : List (Addr × Obj)} {σ : L2.St} {H : Hp} {s : Shared} {a : Addr} {oe : Obj}
/-- out of the suite, the error still in hand -/
theorem unsuiteK {pn' : List (Addr × Obj)} (I : Inv (X.suite a ((a, oe) :: (X.pn ++ pins))) pn' σ H s) (ok : X.Ok) : Inv X ((a, oe) :: pins) σ H s :=
  ⟨ok, I.os, I.bare, I.base, I.loc, I.cell, I.free, I.freeC, fun p hp => I.pin p (List.mem_append_left _ (by
    rcases List.mem_append.mp hp with h | h
    · exact List.mem_cons_of_mem _ (List.mem_append_left _ h)
    · rcases List.mem_cons.mp h with h | h
      · rw [h]; exact List.mem_cons_self ..
      · exact List.mem_cons_of_mem _ (List.mem_append_right _ h))), I.hok, I.len⟩
/-- what is in hand is put down, tracked -/
theorem putDown {cls : Value} {d : Option Addr} {vs : Array Value} (I : Inv X ((a, oe) :: pins) σ H s) (hz : Zc cls d oe) (hd : oe.data = .fields vs) (n0 : X.s_0.heap.get? a = none) (np : ∀ p ∈ X.pn ++ pins, p.1 ≠ a) :
    Inv X pins σ (upd H a (ErV cls d a)) s := by
  obtain ⟨ha, na, nL, nF, nc⟩ := I.pin (a, oe) (List.mem_append_right _ (List.mem_cons_self ..))
  have ne : ∀ {b : Addr} {o : HO}, H b = some o → b ≠ a := fun {b o} q z => by rw [z, na] at q; cases q
  refine ⟨I.ok, I.os, I.bare, ⟨I.base.keep, I.base.slot, fun b o e n hx => ?_, I.base.there, fun b xs e => ?_, fun b o u e => ?_, fun b ps e => ?_⟩, I.loc, I.cell, ?_, fun x c e => ?_, fun p hp => ?_, fun b u e => ?_, I.len⟩
  · rw [upd_ne (fun z => by rw [z, n0] at e; cases e)]
    exact I.base.free b o e n hx
  · have q := I.base.tups b xs e
    rw [upd_ne (ne q)]; exact q
  · have q := I.base.frzs b o u e
    rw [upd_ne (ne q)]; exact q
  · obtain ⟨m, q⟩ := I.base.tbls b ps e
    exact ⟨m, by rw [upd_ne (ne q)]; exact q⟩
  · rw [upd_ne (Ne.symm nL)]; exact I.free
  · have hc : c ≠ a := fun z => by
      obtain ⟨v, oc, h1, h2⟩ := I.cell x c e
      have ha' : s.heap.get? a = some oe := ha
      rw [z, ha'] at h1
      cases h1
      exact nc _ h2
    rw [upd_ne hc]; exact I.freeC x c e
  · have hp' : p ∈ X.pn ++ ((a, oe) :: pins) := by
      rcases List.mem_append.mp hp with h | h
      · exact List.mem_append_left _ h
      · exact List.mem_append_right _ (List.mem_cons_of_mem _ h)
    obtain ⟨q1, q2, q3⟩ := I.pin p hp'
    exact ⟨q1, by rw [upd_ne (np p hp)]; exact q2, q3⟩
  · by_cases hb : b = a
    · subst hb
      rw [upd_same] at e
      cases e
      exact erV_ok ha hz hd
    · rw [upd_ne hb] at e
      exact (I.hok b u e).stay (fun _ _ _ q => q) (fun c q => by rw [upd_ne (ne q)]; exact q) (fun c xs q => by rw [upd_ne (ne q)]; exact q)
end
/-- names of classes, told by their values -/
inductive NmAll (X : Cx) : List Expr → List Value → Prop
  | nil : NmAll X [] []
  | cons {x : Str} {c : Value} {np : Pos} {es : List Expr} {us : List Value} (h : Names X x c) (r : NmAll X es us) : NmAll X (.Name x np :: es) (c :: us)
theorem nm_run {X : Cx} {a : Addr} {pn : List (Addr × Obj)} {σ : L2.St} {H : Hp} {s : Shared} {pos : Pos} {E : Value → Shared → Prop} (S : Inv (X.suite a pn) [] σ H s) : ∀ {es : List Expr} {us : List Value} {Q : List Value → Shared → Prop}, NmAll X es us → Q us s →
    wpAny (model X.prog X.w) (X.A.mark (some (.ref a))) (spliced (backTo pos (starEach es X.env))) Q E s
  | _, _, _, .nil, h => Calls.spliced_nil h
  | _, _, Q, .cons (x := x) (c := c) (np := np) (es := es) (us := us) hc r, h => by
    show wpAny _ _ (spliced ((false, eval (.Name x np) X.env) :: backTo pos (starEach es X.env))) _ _ s
    refine Calls.spliced_cons ?_
    have go : wpAny (model X.prog X.w) (X.A.mark (some (.ref a))) (spliced (backTo pos (starEach es X.env))) (fun us s' => Q (c :: us) s') E s := nm_run S r h
    obtain ⟨hg, hdbg, hm | ⟨hm, hv, hnn⟩⟩ := hc
    · exact ld_glob (X := X.suite a pn) S hg hm go hdbg
    · exact ld_blt (X := X.suite a pn) S hg hm hv go hnn hdbg
theorem fl_keep {B h h' : Heap} {l : List Env} {a : Addr} {Z : Obj → Prop} (fl : HandSPX.FlyingZ B l a Z h) (k : ∀ b o, h.get? b = some o → h'.get? b = some o) : HandSPX.FlyingZ B l a Z h' := by
  obtain ⟨f1, f2, f3, oe, vs, T, oT, ts, g1, g2, g3, g4, g5, g6, g7, g8⟩ := fl
  exact ⟨fun b o e => k b o (f1 b o e), f2, Heap.FunFrames.of_keeps (fun b o e _ => ⟨o, k b o e, rfl⟩) f3, oe, vs, T, oT, ts, k _ _ g1, g2, g3, g4, g5, g6, k _ _ g7, g8⟩
/-- what 'except (C1, ..) as n' wishes, where the suite may keep the error: behind it the error stands in the heap -/
def wKeep (K : PySem.W.Frag) (us : List Value) (i : Nat) (ts : Addr → Value → Option Addr → TS) (Wout : WX) (D : Ends) : WX := fun cls d σ H =>
  ∃ b, PySem.W.exmAny K cls us = some b ∧ (b = true → ∀ a, H a = none → ts a cls d { nx := fun σ' H' => D.nx (σ'.set i none) (upd H' a (ErV cls d a)), rt := fun _ _ => False, bk := fun _ _ => False, ct := fun _ _ => False } (σ.set i (some (.ref a))) H) ∧ (b = false → Wout cls d σ H)
section
variable {X : Cx} {n : Str} {us : List Value} {es : List Expr} {i : Nat} {body suite : List Stmt} {b₀ : Stmt} {kx : Nat} {np pos pos' : Pos} {tb : WX → TS} {ts : Addr → Value → Option Addr → TS} {Wout : WX}
theorem ps_try_keep (hs : X.stack = X.env :: X.outer) (hf : X.env.frame = some X.env.locals) (hex : X.ex = []) (hN : X.N.Nodup) (hi : X.N[i]? = some n) (hln : X.env.kindOf n = some .local) (hc : NmAll X es us) (hel : us.length ≤ 1000) (tk : Takes X Wout)
    (hb : ∀ (W : WX) (pn : List (Addr × Obj)) (xe : Value → Shared → Prop), Takes (X.tr pn xe) W → PassesOwn (model X.prog X.w) X.A X.env xe → PSs (X.tr pn xe) body (tb W))
    (hsu : ∀ (a : Addr) (oe : Obj) (cls : Value) (d : Option Addr) (pn : List (Addr × Obj)), Zc cls d oe → (∃ vs, oe.data = .fields vs) → PSs (X.suite a ((a, oe) :: pn)) (b₀ :: suite) (ts a cls d)) :
    PS X (.Try body [.ExceptHandler (some (.Tuple es kx np)) (some n) (b₀ :: suite) pos'] [] [] pos) (fun D σ H => tb (wKeep X.K us i ts Wout D) D σ H) := by
  refine ⟨fun pins s σ H D I h => ?_⟩
  have ok := I.ok; have hfr : X.A.frames = some (X.env :: X.outer) := by rw [ok.frames, hs]
  have hloc : Loc X.env.scope n := .inl hln
  refine wpAny_Try_except ?_
  refine wpAny_mono ((hb (wKeep X.K us i ts Wout D) (X.pn ++ pins) (fun e s₁ => wpAny (model X.prog X.w) X.A (noteFrame e X.env) (fun _ s₂ => wpAny (model X.prog X.w) X.A (setFlight e none) (fun _ s₃ => wpAny (model X.prog X.w) X.A (handleBy e X.env [.ExceptHandler (some (.Tuple es kx np)) (some n) (b₀ :: suite) pos']) (SP X pins D) X.xe s₃) X.xe s₂) X.xe s₁) (fun u s' xx => ?_) PassesOwn.looking).run [] s σ H D (I.toTry _) h) (fun f s1 hsp => ?_) (fun e s1 he => he)
  · obtain ⟨a, B, sI, pins', σ', H', cls, d, rfl, J', nb, up, sky, na, os, ag, b, hb1, hyes, hno⟩ := xx
    have J : Inv X pins σ' H' sI := J'.ofTry ok
    have sky' : Sky B (X.env :: X.outer) a (Zc cls d) X.env.locals s'.heap := by rw [← hs]; exact sky
    show wpAny (model X.prog X.w) X.A (noteFrame (.ref a) X.env) _ _ _
    refine Sky.land Zc.steady hfr hf sky' fun h2 fl2 up2 => ?_
    have J2 : Inv X pins σ' H' { s' with heap := h2 } := J.landed nb fl2.1 (up.trans up2) os ag
    obtain ⟨oe2, vs2, he2, hz2, hd2⟩ := fl2.there
    have nfr : a ∉ frs (X.env :: X.outer) := fun hm => by
      obtain ⟨_, o', e', hnf⟩ := fl2.2.2.1.mem hm
      rw [he2] at e'; cases e'; exact hnf _ hd2
    have nL : a ≠ X.env.locals := fun z => nfr (List.mem_filterMap.mpr ⟨X.env, List.mem_cons_self, by rw [hf, z]⟩)
    have nF : a ∉ X.fs := fun hm => by
      obtain ⟨e, he, q⟩ := List.mem_filterMap.mp hm
      exact nfr (List.mem_filterMap.mpr ⟨e, List.mem_cons_of_mem _ he, q⟩)
    have noB : ∀ o, sI.heap.get? a ≠ some o := fun o q => by
      have z := nb a o q (by rw [hs]; exact nfr)
      have z' : B.get? a = none := fl2.2.1
      rw [z'] at z; cases z
    have n0 : X.s_0.heap.get? a = none := by
      cases q : X.s_0.heap.get? a with
      | none => rfl
      | some o =>
        obtain ⟨o', z⟩ := J.base.there a o q (by rw [hex]; exact fun y => nomatch y)
        exact absurd z (noB o')
    have npn : ∀ p ∈ X.pn ++ pins, p.1 ≠ a := fun p hp z => by
      obtain ⟨q, _⟩ := J.pin p hp
      rw [z] at q; exact noB _ q
    have S2 := J2.suite he2 hd2 na nL nF
    refine wpAny_handleBy_cons (codeAny_handlers_test ?_) (by intro q; cases q)
    refine Tuple_ (nm_run S2 hc ?_)
    refine wpAny_newObj_type ?_ (by show us.toArray.size ≤ sizeLine; rw [List.size_toArray]; exact Nat.le_of_lt (small1000 hel))
    have kp : ∀ b o, h2.get? b = some o → (h2.push { cls := .type "tuple", data := .seq us.toArray }).get? b = some o := fun b o e => Heap.get?_push_of_some _ e
    have htp : (h2.push { cls := .type "tuple", data := .seq us.toArray }).get? h2.objs.size = some { cls := .type "tuple", data := .seq us.toArray } := Heap.get?_push_size _ rfl
    have fl3 := fl_keep fl2 kp; have up3 := (up.trans up2).trans (Heap.UpToSlots.of_keeps kp)
    show wpAny _ _ (excMatches (.ref a) (.ref h2.objs.size)) _ _ { s' with heap := h2.push { cls := .type "tuple", data := .seq us.toArray } }
    generalize h2.push { cls := .type "tuple", data := .seq us.toArray } = h3 at kp htp fl3 up3 ⊢
    have J3 : Inv X pins σ' H' { s' with heap := h3 } := J.landed nb fl3.1 up3 os ag
    have LT : PySem.W.Looks (model X.prog X.w) h3 (typeOf (.ref a)) cls := fun A Q E s k q => wpAny_typeOf_ref (k _ _ (kp _ _ he2)) (by rw [hz2.1]; exact q)
    have LM := exm_any (M := model X.prog X.w) (J3.kIn) LT htp hb1
    refine LM.here ?_
    cases b with
    | true =>
      refine codeAny_handlers_suite_as ?_
      refine HandSPX.lands_againZ fl3 fun h4 fl4 up4 => ?_
      have J4 : Inv X pins σ' H' { s' with heap := h4 } := J.landed nb fl4.1 (up3.trans up4) os ag
      obtain ⟨oe4, vs4, he4, hz4, hd4⟩ := fl4.there
      have S4 := J4.suite he4 hd4 na nL nF
      refine store_ok (X := X.suite a ((a, oe4) :: (X.pn ++ pins))) (v := .ref a) S4 hN hi hloc rfl (fun s5 S5 => ?_) (.inr hln)
      refine wpAny_mono ((hsu a oe4 cls d (X.pn ++ pins) hz4 ⟨_, hd4⟩).run [] s5 _ H' _ S5 (hyes rfl a na)) (fun f s6 hsp => ?_) (fun _ _ z => False.elim z)
      cases f with
      | next =>
        obtain ⟨σ6, H6, S6, q6⟩ := hsp
        exact gone_ok (unsuiteK S6 ok) hN hi hln fun s7 J7 => ⟨_, _, putDown J7 hz4 hd4 n0 npn, q6⟩
      | brk => obtain ⟨_, _, _, q6⟩ := hsp; exact q6.elim
      | cont => obtain ⟨_, _, _, q6⟩ := hsp; exact q6.elim
      | ret u => obtain ⟨_, _, _, _, _, q6⟩ := hsp; exact q6.elim
    | false =>
      show wpAny _ X.A (handleBy (.ref a) X.env []) _ _ _
      refine wpAny_handleBy_nil ?_
      obtain ⟨k1, k2, k3, oe, vs, T, oT, ts', he, hz, hd, h1, hr⟩ := id fl3
      unfold PySem.passOn
      refine wpAny_bind (wpAny_field he hd h1 ?_)
      rw [if_neg (show ¬ ((Value.ref T == Value.none) = true) from by simp)]
      have fin : wpAny (model X.prog X.w) X.A (setFlight (.ref a) X.env.frame) (fun _ s4 => wpAny (model X.prog X.w) X.A (throw (.ref a) : Sem Flow) (SP X pins D) X.xe s4) X.xe { s' with heap := h3 } := by
        rw [hf]
        refine HandSPX.setFlight_upZ fl3 fun h4 hh4 up4 => wpAny_throw (tk _ _ ?_)
        exact ⟨a, B, sI, pins, σ', H', cls, d, rfl, J, nb, up3.trans up4, .inr (.inr (by rw [hs]; exact hh4)), na, os, ag, hno rfl⟩
      first
        | exact wpAny_bind (wpAny_pure (wpAny_bind fin))
        | exact wpAny_bind fin
  · cases f with
    | next => obtain ⟨σ', H', J', q⟩ := hsp; exact wpAny_execs_nil ⟨σ', H', J'.ofTry ok, q⟩
    | brk => obtain ⟨σ', H', J', q⟩ := hsp; exact ⟨σ', H', J'.ofTry ok, q⟩
    | cont => obtain ⟨σ', H', J', q⟩ := hsp; exact ⟨σ', H', J'.ofTry ok, q⟩
    | ret u => obtain ⟨v, σ', H', J', r, q⟩ := hsp; exact ⟨v, σ', H', J'.ofTry ok, r, q⟩
end
end Bal

namespace Bal
open PySem PySem.Spec PyProof.Rows L2
/-- the dict of a kept error, where it has one, stands -/
def DcOk (H : Hp) (d : Option Addr) : Prop := ∀ dd, d = some dd → ∃ fs, H dd = some (.xd fs)
theorem DcOk.none {H : Hp} : DcOk H Option.none := fun _ e => nomatch e
theorem DcOk.some {H : Hp} {dd : Addr} {fs : List (Str × V)} (h : H dd = some (.xd fs)) : DcOk H (Option.some dd) := fun _ e => by cases e; exact ⟨fs, h⟩
section
variable {X : Cx} {pins : List (Addr × Obj)} {σ : L2.St} {H : Hp} {s : Shared} {a D : Addr} {d : Option Addr}
theorem erV_inst (I : Inv X pins σ H s) (e : H a = some (ErV (.ref D) d a)) (k : DcOk H d) : ∃ ox od, PySem.W.InstAt s.heap a ox D od := by
  obtain ⟨oe, vs, hg, hz, hd⟩ := erV_at I.hok e
  cases d with
  | none => exact ⟨oe, Option.none, hg, hz.1, by unfold PySem.W.notCls; rw [hd], by rw [hz.2]; trivial⟩
  | some dd =>
    obtain ⟨fs, h⟩ := k dd rfl
    obtain ⟨mA, hns, _⟩ := (show ObjOk X.prog X.w H s.heap dd (.xd fs) from I.hok dd _ h)
    obtain ⟨od, ho, _⟩ := lookIn_ns hns
    exact ⟨oe, Option.some od, hg, hz.1, by unfold PySem.W.notCls; rw [hd], by rw [hz.2]; exact ho⟩
theorem kitV (C : ExcC X.K D) {ox : Obj} {od : Option Obj} : PySem.W.KitX X.K (.ref a) (.ref D) (fun h => PySem.W.InstAt h a ox D od) :=
  PySem.W.kitx_exc (by obtain ⟨cd, hc, _⟩ := PySem.W.any_some C.hd; rw [hc]; rfl) C.hg C.hk C.hs C.ha C.hn C.ht C.hm
/-- isinstance(e, C), e a kept error -/
def rIsV (K : PySem.W.Frag) : List V → Hp → VK → Prop := fun xs H Q => ∃ (a D : Addr) (d : Option Addr) (c : V) (u : Value) (b : Bool), xs = [.ref a, c] ∧ H a = some (ErV (.ref D) d a) ∧ ExcC K D ∧ DcOk H d ∧ ClsV c u ∧ PySem.W.kitOne K (.ref D) u = some b ∧ Q (.bl b) H
theorem call_isV : CallR X (.builtin "isinstance") (rIsV X.K) := by
  intro pins s σ H xs us Q I r h
  obtain ⟨a, D, d, c, u, b, rfl, e, C, dk, k, ek, q⟩ := h
  obtain ⟨u1, u2, rfl, r1, r2⟩ := vals2 r
  have e2 := k.eq r2
  subst e2
  cases (show u1 = Value.ref a from r1)
  obtain ⟨ox, od, J⟩ := erV_inst I e dk
  exact PySem.W.kia_one (kitV C) I.kIn J ek (fun z => nomatch z) fun tk => ⟨.bl b, H, I.tok tk, rfl, q⟩
/-- e.f, e a kept error -/
def tFV (K : PySem.W.Frag) (f : Str) (te : TE) : TE := fun σ H Q => te σ H fun x H1 => ∃ (a D dd : Addr) (fs : List (Str × V)) (v : V), x = .ref a ∧ H1 a = some (ErV (.ref D) (some dd) a) ∧ ExcC K D ∧ PySem.W.findIn K (.ref D) f = some none ∧ H1 dd = some (.xd fs) ∧ fs.lookup f = some v ∧ Q v H1
theorem pe_fV {e : Expr} {te : TE} {pos : Pos} {n : Str} (he : PE X e te) (hb : attributeBase e n X.env (eval e X.env) = eval e X.env := by rfl) : PE X (.Attribute e n pos) (tFV X.K n te) := by
  refine ⟨fun pins s σ H Q I h => ?_⟩
  refine attr_of hb (thn (he.run pins s σ H _ I h) fun u s1 ⟨x, H1, I1, rx, a, D, dd, fs, v, ex, ea, C, hno, ed, l, q⟩ => ?_)
  subst ex
  obtain rfl : u = Value.ref a := rx
  obtain ⟨oe, vs, hg, hz, hd⟩ := erV_at I1.hok ea
  obtain ⟨mA, hns, hr⟩ := (show ObjOk X.prog X.w H1 s1.heap dd (.xd fs) from I1.hok dd _ ed)
  obtain ⟨od, ho, hl⟩ := lookIn_ns hns
  obtain ⟨u, hu, ru⟩ := RelO.some_of (v := v) (o := mA n) (by rw [← l]; exact hr n)
  have J : PySem.W.InstAt s1.heap a oe D (some od) := ⟨hg, hz.1, by unfold PySem.W.notCls; rw [hd], by rw [hz.2]; exact ho⟩
  exact HandSPX.exc_get I1.kIn J C.hg C.hk C.hs (PySem.W.findObj_own C.hd hno rfl (by rw [hl, hu])) (handed_of ru) ⟨v, H1, I1.tok _, ru, q⟩
/-! ### calls by names alone -/
end
/-! ### xs[::-1] of a list or a tuple -/
theorem rg_rev (n : Nat) : (List.range n).map (fun m => n - 1 - m) = (List.range n).reverse := by
  apply List.ext_getElem
  · simp
  · intro i h1 h2
    simp
theorem rev_pick (xs : Array Value) : ((List.range xs.size).filterMap fun (m : Nat) => xs[(((xs.size : Int) - 1) + (m : Int) * (-1)).toNat]?).toArray = xs.toList.reverse.toArray := by
  have e : (fun (m : Nat) => xs[(((xs.size : Int) - 1) + (m : Int) * (-1)).toNat]?) = (fun k : Nat => xs[k]?) ∘ fun m => xs.size - 1 - m := by
    funext m
    have : (((xs.size : Int) - 1) + (m : Int) * (-1)).toNat = xs.size - 1 - m := by omega
    show xs[(((xs.size : Int) - 1) + (m : Int) * (-1)).toNat]? = xs[xs.size - 1 - m]?
    rw [this]
  rw [e, ← List.filterMap_map, rg_rev, List.filterMap_reverse, PySem.W.krv_all]
section
variable {prog : Program} {w : World} {A : Around} {E : Value → Shared → Prop} {s : Shared}
theorem sl_rev {sl : Addr} {vk : Value} {n : Nat} {Q : Int × Int × Nat → Shared → Prop} (hs : s.heap.IsSliceOf sl .none .none vk) (pk : IsPart vk (some (-1))) (h : Q ((n : Int) - 1, -1, n) s) : wpAny (model prog w) A (Builtin.Slice.sliceApplied (.ref sl) (pure (n : Int))) Q E s := by
  obtain ⟨os, hos, hcs, hds⟩ := id hs
  unfold Builtin.Slice.sliceApplied Builtin.Slice.sliceFields
  refine wpAny_bind (wpAny_bind (wpAny_field hos hds (x := .none) rfl (wpAny_bind (wpAny_field hos hds (x := .none) rfl (wpAny_bind (wpAny_field hos hds (x := vk) rfl (wpAny_pure ?_)))))))
  refine wpAny_bind (HT.slicePart_ pk ?_)
  show wpAny _ _ (if ((-1 : Int) == 0) = true then _ else _) _ _ s
  rw [if_neg (by decide)]
  refine wpAny_bind (slicePart_none (wpAny_bind (slicePart_none (wpAny_bind (wpAny_pure ?_)))))
  show wpAny _ _ (pure ((n : Int) - 1, (-1 : Int), Builtin.Slice.slicePlaces ((n : Int) - 1) (-1) (-1))) _ _ s
  have e : Builtin.Slice.slicePlaces ((n : Int) - 1) (-1) (-1) = n := by
    unfold Builtin.Slice.slicePlaces
    rw [if_neg (by decide), show (-(-1 : Int)) = 1 from rfl, Int.ediv_one]
    split <;> omega
  rw [e]
  exact wpAny_pure h
theorem getItem_tup_rev {t sl : Addr} {items : Array Value} {vk : Value} {Q : Value → Shared → Prop} (ht : IsTup s.heap t items) (hs : s.heap.IsSliceOf sl .none .none vk) (pk : IsPart vk (some (-1)))
    (h : Q (.ref s.heap.objs.size) { s with heap := s.heap.push { cls := .type "tuple", data := .seq items.toList.reverse.toArray } }) (hsz : items.size ≤ sizeLine) : wpAny (model prog w) A (getItem (.ref t) (.ref sl)) Q E s := by
  have hok : sizeOk (.seq items.toList.reverse.toArray) := by
    show items.toList.reverse.toArray.size ≤ sizeLine
    rw [List.size_toArray, List.length_reverse, Array.length_toList]
    exact hsz
  obtain ⟨os, hos, hcs, hds⟩ := id hs; have hTs : s.TypeIs (.ref sl) "slice" := ⟨os, hos, hcs⟩
  unfold getItem
  try with_reducible refine wpAny_holding ?_
  first | refine wpAny_bind (wpAny_pure ?_) | skip
  refine wpAny_bind (wpAny_sequenceKey ht.typeIs (by decide) ?_)
  refine wpAny_bind (wpAny_callSpecial?_slot (name := Str.ofString "__getitem__") ht.typeIs PyProof.Rows.slot_tuple_getitem (wpAny_call_entry PyProof.Rows.slot_tuple_getitem ht.typeIs entry_tuple_getitem ?_ (args_tuple_getitem _ _)))
  show wpAny _ _ (Builtin.Tuple.tupleItemsOf (.ref t) >>= _) _ _ s
  refine wpAny_bind (tupleItemsOf_ ht ?_)
  refine wpAny_bind (wpAny_typeOf hTs ?_)
  rw [if_pos (by decide)]
  refine wpAny_bind (sl_rev hs pk ?_)
  have hno : ¬ ((((items.size : Int) - 1) == 0 && (-1 : Int) == 1 && items.size == items.size) = true) := by
    rw [show ((-1 : Int) == 1) = false from rfl, Bool.and_false, Bool.false_and]
    exact Bool.false_ne_true
  show wpAny _ _ (if (((items.size : Int) - 1) == 0 && (-1 : Int) == 1 && items.size == items.size) = true then _ else _) _ _ s
  rw [if_neg hno, rev_pick]
  first
    | exact wpAny_bind (m := Builtin.Tuple.tupleExact _) (wpAny_newObj_type (wpAny_pure ⟨_, rfl, wpAny_pure h⟩) hok)
    | exact wpAny_bind (m := Builtin.Tuple.tupleExact _) (wpAny_newObj_type (wpAny_bind (wpAny_pure (wpAny_pure ⟨_, rfl, wpAny_pure h⟩))) hok)
    | exact wpAny_bind (wpAny_bind (m := Builtin.Tuple.tupleExact _) (wpAny_newObj_type (wpAny_pure (wpAny_pure ⟨_, rfl, wpAny_pure h⟩)) hok))
    | exact wpAny_bind (wpAny_bind (m := Builtin.Tuple.tupleExact _) (wpAny_newObj_type (wpAny_pure ⟨_, rfl, wpAny_pure h⟩) hok))
end
/-! ### what classes are to one another -/
theorem kit_self {K : PySem.W.Frag} {D : Addr} : PySem.W.kitOne K (.ref D) (.ref D) = some true := by
  unfold PySem.W.kitOne
  rw [if_pos (beq_self_eq_true _)]
theorem kit_no {K : PySem.W.Frag} {D C : Addr} (hd : PySem.W.hasDictIn K C = true) (ht : PySem.W.typeIn K (.ref C) = some (.type "type")) (hs : PySem.W.subIn K (.ref D) (.ref D) = some true) (h : PySem.W.subIn K (.ref D) (.ref C) = some false) : PySem.W.kitOne K (.ref D) (.ref C) = some false := by
  unfold PySem.W.kitOne
  have ne : ((Value.ref D == Value.ref C) = true) = False := by
    refine eq_false fun z => ?_
    have e : D = C := Value.ref.inj (beq_iff_eq.mp z)
    rw [e] at hs h
    rw [hs] at h
    cases h
  obtain ⟨cd, hc, _⟩ := PySem.W.any_some hd
  rw [if_neg (by rw [ne]; exact id)]
  show (if ((PySem.W.clsIn K C).isSome && PySem.W.typeIn K (.ref C) == some (.type "type")) = true then PySem.W.subIn K (.ref D) (.ref C) else none) = some false
  rw [hc, ht, if_pos (by rfl)]
  exact h
theorem kit_up {K : PySem.W.Frag} {D : Addr} {T : String} {b : Bool} (hm : PySem.W.kitMeta T = true) (h : PySem.W.subIn K (.ref D) (.type T) = some b) : PySem.W.kitOne K (.ref D) (.type T) = some b := by
  unfold PySem.W.kitOne
  have ne : ¬ (Value.ref D == Value.type T) = true := fun z => by
    have z := beq_iff_eq.mp z
    cases z
  rw [if_neg ne]
  show (if PySem.W.kitMeta T = true then PySem.W.subIn K (.ref D) (.type T) else none) = some b
  rw [if_pos hm]
  exact h
/-- a class of one's own among the errors: what is asked of it -/
structure ErK (K : PySem.W.Frag) (mg : Str → Option Value) (x : Str) (C : Addr) : Prop where
  g : mg x = some (.ref C)
  ex : PySem.W.subIn K (.ref C) (.type "BaseException") = some true
  hd : PySem.W.hasDictIn K C = true
  ty : PySem.W.typeIn K (.ref C) = some (.type "type")
theorem ErK.one {K : PySem.W.Frag} {mg : Str → Option Value} {x : Str} {C : Addr} (h : ErK K mg x C) {cls : Value} {b : Bool} (s : PySem.W.subIn K cls (.ref C) = some b) : PySem.W.exmOne K cls (.ref C) = some b := PySem.W.exm_ref h.ex h.hd h.ty s
/-- .. one with a field f, told by its __init__, and what makes its instances -/
structure ErT (K : PySem.W.Frag) (mg : Str → Option Value) (x f qual : Str) (st : Stmt) (C fI : Addr) (fdI : FuncData) (newId : String) (tail : List Value) : Prop where
  k : ErK K mg x C
  c : ErC K C newId tail
  i : ExcC K C
  iC : PySem.W.findIn K (.ref C) "__init__" = some (some (.ref fI))
  tI : PySem.W.typeIn K (.ref fI) = some (.type "function")
  F : Fun K "__init__" qual st fI fdI
  no : PySem.W.findIn K (.ref C) f = some none
  me : PySem.W.subIn K (.ref C) (.ref C) = some true
theorem mk_heap {H : Hp} {a dx : Addr} {o1 o2 o3 o4 : HO} (ha : H a = none) (ne : dx ≠ a) : upd (del (upd (upd (upd H a o1) dx o2) a o3) a) dx o4 = upd H dx o4 := by
  funext b
  by_cases h1 : b = dx
  · rw [h1, upd_same, upd_same]
  · rw [upd_ne h1, upd_ne h1]
    by_cases h2 : b = a
    · rw [h2, del_same, ha]
    · rw [del_ne h2, upd_ne h2, upd_ne h1, upd_ne h2]
/-- __init__(self, f): self.f = f -/
def spInit (K : PySem.W.Frag) (C : Addr) (f : Str) : Sp := fun vs H Q _ => ∃ (a : Addr) (v : V), vs = [.ref a, v] ∧ H a = some (exo a C none) ∧ ∀ dx, H dx = none → dx ≠ a → Q .non (upd (upd H dx (exd dx [(f, v)])) a (exo a C (some dx)))
/-- an error of the class at C is made of v -/
theorem made_er {K : PySem.W.Frag} {C : Addr} {f : Str} {v : V} {H : Hp} {Q : XK} (q : ∀ d, H d = none → Q (.ref C) (some d) (upd H d (.xd [(f, v)]))) : [v].length ≤ 1000 ∧ ∀ a, H a = none → spInit K C f (.ref a :: ([v] ++ [])) (upd H a (exo a C none))
    (fun v H2 => v = .non ∧ ∃ (d : Addr) (fs : List (Str × V)), H2 a = some (exo a C (some d)) ∧ H2 d = some (exd d fs) ∧ H d = none ∧ Q (.ref C) (some d) (upd (del H2 a) d (.xd fs))) (fun _ _ _ => False) := by
  refine ⟨by show 1 ≤ 1000; decide, fun a ha => ⟨a, v, rfl, upd_same, fun dx ndx ne => ⟨rfl, dx, [(f, v)], upd_same, ?_, ?_, ?_⟩⟩⟩
  · rw [upd_ne ne, upd_same]
  · rw [upd_ne ne] at ndx
    exact ndx
  · rw [mk_heap ha ne]
    rw [upd_ne ne] at ndx
    exact q dx ndx
theorem erT_mk {K : PySem.W.Frag} {mg : Str → Option Value} {x f qual : Str} {st : Stmt} {C fI : Addr} {fdI : FuncData} {newId : String} {tail : List Value} {nm qn : Str} {N : Addr} {bs : List Value} {sn : List Str} {sub : List Value} {ab : Bool} {col : Option Bool} {dd : Option Addr} {m0 m1 m2 m3 m5 : Option Value}
    (g : mg x = some (.ref C)) (xl : K.lookup C = some (excClassObj nm qn C N bs tail true sn sub ab col dd m0 m1 m2 m3 m5 newId)) (sa : PySem.W.findIn K (.ref C) "__setattr__" = some (some (.builtin "object.__setattr__"))) (ga : PySem.W.findIn K (.ref C) "__getattribute__" = some (some (.builtin "BaseException.__getattribute__")))
    (gg : PySem.W.findIn K (.ref C) "__getattr__" = some none) (no : PySem.W.findIn K (.ref C) f = some none) (iC : PySem.W.findIn K (.ref C) "__init__" = some (some (.ref fI))) (tI : PySem.W.typeIn K (.ref fI) = some (.type "function")) (F : Fun K "__init__" qual st fI fdI)
    (kC : PySem.W.keepIn K (.ref C) = true) (ex : PySem.W.subIn K (.ref C) (.type "BaseException") = some true) (ty : PySem.W.typeIn K (.ref C) = some (.type "type")) (hd : PySem.W.hasDictIn K C = true) (me : PySem.W.subIn K (.ref C) (.ref C) = some true)
    (ha : PySem.W.findIn K (.ref C) "__class__" = some (some (.builtin "object.__class__"))) (hm : PySem.W.mroIn K C (.type "object") = some true) (hn : PySem.W.specialIn K (.builtin "object.__class__") "__get__" = some (some (.builtin "getset_descriptor.__get__"))) (ht : PySem.W.takesIn K (.builtin "object.__class__") = some true) (bx : BaseX newId tail) :
    ErT K mg x f qual st C fI fdI newId tail := ⟨⟨g, ex, hd, ty⟩, ⟨bx, ⟨nm, qn, N, bs, sn, sub, ab, col, dd, m0, m1, m2, m3, m5, xl⟩, sa, ex, ty, kC⟩, ⟨ga, gg, ex, hd, ha, hn, ht, hm⟩, iC, tI, F, no, me⟩
end Bal

namespace Bal
open PySem PySem.Spec PyProof.Rows L2
/-! ### one of two readings -/
/-- a list or a tuple -/
def SqA (K : PySem.W.Frag) (H : Hp) (a : Addr) (xs : List V) : Prop := SqL K H a xs ∨ SqT K H a xs
theorem SqA.same {K : PySem.W.Frag} {H H' : Hp} {a : Addr} {xs : List V} (h : SqA K H a xs) (s : Same H H') : SqA K H' a xs := h.imp (fun h => s.seq h) (fun h => Same.sqT s h)
section
variable {X : Cx} {pins : List (Addr × Obj)} {σ : L2.St} {H : Hp} {s : Shared} {a : Addr}
theorem sq_obj {xs : List V} (I : Inv X pins σ H s) (h : SqA X.K H a xs) : ∃ (its : List Value) (T : String) (o : Obj) (n : Nat), Vals xs its ∧ its.length ≤ sizeLine ∧ (T = "list" ∨ T = "tuple") ∧ s.heap.get? a = some o ∧ o.cls = .type T ∧ o.data = .seq its.toArray n := by
  rcases h with h | h
  · obtain ⟨its, r, ⟨o, n, ho, hc, _, hd⟩, hz⟩ := I.list h
    exact ⟨its, "list", o, n, r, by rw [← r.length]; exact hz, .inl rfl, ho, hc, hd⟩
  · obtain ⟨its, r, ⟨o, ho, hc, n, hd⟩, hz⟩ := I.tuple h
    exact ⟨its, "tuple", o, n, r, by rw [← r.length]; exact hz, .inr rfl, ho, hc, hd⟩
/-- sorted(xs, ..) of numbers, xs a list or a tuple; kw says reverse=b -/
theorem sorted_go {b : Bool} {kw : List (Str × Value)} {ns : List Int} {Q : VK} (I : Inv X pins σ H s) (hs : SqA X.K H a (ns.map V.int)) (hk : ∀ a, Builtin.«list.sort» ⟨[.ref a], kw⟩ = Builtin.«list.sort» ⟨[.ref a], [(Str.ofString "reverse", .bool b)]⟩)
    (ha1 : argsOk "sorted" ⟨[.ref a], kw⟩) (ha2 : ∀ a, argsOk "list.sort" ⟨[a], kw⟩) (q : ∀ (ns' : List Int) (p : Addr), ns'.Perm ns → OrdB b ns' → H p = none → Q (.ref p) (upd H p (.lst (ns'.map V.int)))) :
    wpAny (model X.prog X.w) X.A (call (.builtin "sorted") [.ref a] kw) (EP X pins σ Q) X.xe s := by
  obtain ⟨its, T, o, n, rv, hz, hT, ho, hc, hd⟩ := sq_obj I hs
  have hi := rv.ints
  refine call_function_entry_kw kind_sorted plain_sorted entry_sorted ha1 ?_
  unfold Builtin.«sorted»
  refine wpAny_bind (m := checkCount "sorted" 1 1 _) (wpAny_pure ?_)
  refine wpAny_bind (wpAny_collect_seq a hT ho hc hd (fun h' k => ?_) (by rw [List.size_toArray]; exact hz))
  rw [show its.toArray.toList = its from rfl]
  refine wpAny_bind (wpAny_newList ?_ hz)
  have hoL : (h'.push (seqObj "list" its.toArray 0)).get? h'.objs.size = some (seqObj "list" its.toArray 0) := Heap.get?_push_size _ rfl
  have kk : ∀ b o, s.heap.get? b = some o → (h'.push (seqObj "list" its.toArray 0)).get? b = some o := fun b o e => Heap.get?_push_of_some _ (k b o e)
  have fr : H h'.objs.size = none := (I.kept (t' := s.toks) k).hok.fresh (Nat.le_refl _)
  show wpAny _ _ _ _ _ { s with heap := h'.push (seqObj "list" its.toArray 0) }
  refine wpAny_bind (wpAny_holding (wpAny_call_entry_kw slot_list_sort ⟨_, hoL, rfl⟩ entry_list_sort ?_ (ha2 _)))
  rw [hk]
  refine SrtR.list_sort_ordR SrtO.swo_int hoL hz (fun h2 => SrtO.ints_sortable hi h2) fun out h1 h2 => ⟨_, rfl, ?_⟩
  obtain ⟨ns', k1, k2, k3⟩ := SrtR.ints_outR hi h1 h2
  obtain ⟨ep, he'⟩ := PyProof.Rows.sortedHeap_at (out := if b = true then out.toArray.reverse else out.toArray) hoL
  have hlen : (ns'.map V.int).length ≤ sizeLine := by
    rw [List.length_map, k2.length_eq, ← List.length_map (f := V.int), rv.length]
    exact hz
  have e0 : ((if b = true then out.toArray.reverse else out.toArray).toList).toArray = (if b = true then out.toArray.reverse else out.toArray) := by rw [Array.toArray_toList]
  have old : ∀ c u, s.heap.get? c = some u → (sortedHeap (h'.push (seqObj "list" its.toArray 0)) h'.objs.size its (if b = true then out.toArray.reverse else out.toArray)).get? c = some u := fun c u e => by
    have lt : c < h'.objs.size := Heap.lt_size (k c u e)
    rw [PyProof.Rows.sortedHeap_old (Nat.ne_of_lt lt) (by rw [size_push']; exact Nat.lt_succ_of_lt lt)]
    exact kk c u e
  have hp0 : s.heap.get? h'.objs.size = none := by
    cases e : s.heap.get? h'.objs.size with
    | none => rfl
    | some u => exact absurd (Heap.lt_size (k _ _ e)) (Nat.lt_irrefl _)
  exact wpAny_pure ⟨_, rfl, .ref _, upd H h'.objs.size (.lst (ns'.map V.int)), I.laidN (t' := s.toks) old hp0 fr ⟨hlen, _, ep, vals_of_ints k1, by rw [e0]; exact he'⟩, rfl, q _ _ k2 k3 fr⟩
def rSrtR (K : PySem.W.Frag) (b : Bool) : List V → List V → Hp → VK → Prop := fun vs zs H Q => ∃ (a : Addr) (ns : List Int), vs = [V.ref a] ∧ zs = [.bl b] ∧ SqA K H a (ns.map V.int) ∧ ∀ (ns' : List Int) (p : Addr), ns'.Perm ns → OrdB b ns' → H p = none → Q (.ref p) (upd H p (.lst (ns'.map V.int)))
theorem cr_srtR {b : Bool} : CallRK X (.builtin "sorted") [Str.ofString "reverse"] (rSrtR X.K b) := by
  intro pins s σ H vs zs us ws Q I r rz h
  obtain ⟨a, ns, rfl, rfl, hs, q⟩ := h
  obtain rfl := Vals.ref1 r
  obtain ⟨w1, rfl, e1⟩ := vals1 rz
  obtain rfl : w1 = Value.bool b := e1
  exact sorted_go I hs (fun _ => rfl) (PyProof.Rows.args_sorted_rev _ _) (fun _ => PyProof.Rows.args_list_sort_rev _ _) q
def rSrt (K : PySem.W.Frag) : List V → Hp → VK → Prop := fun vs H Q => ∃ (a : Addr) (ns : List Int), vs = [V.ref a] ∧ SqA K H a (ns.map V.int) ∧ ∀ (ns' : List Int) (p : Addr), ns'.Perm ns → ns'.Pairwise (· ≤ ·) → H p = none → Q (.ref p) (upd H p (.lst (ns'.map V.int)))
theorem sort_plain (a : Addr) : Builtin.«list.sort» ⟨[.ref a], []⟩ = Builtin.«list.sort» ⟨[.ref a], [(Str.ofString "reverse", .bool false)]⟩ := by
  rw [list_sort_rev]
  first | rfl | kernel_rfl
theorem cr_srt : CallR X (.builtin "sorted") (rSrt X.K) := by
  intro pins s σ H vs us Q I r h
  obtain ⟨a, ns, rfl, hs, q⟩ := h
  obtain rfl := Vals.ref1 r
  exact sorted_go (b := false) (kw := []) I hs sort_plain (args_sorted1 _) (fun _ => args_list_sort _) (fun ns' p pm o n => q ns' p pm o n)
/-! ### xs.index(x) of numbers -/
def rIdx (K : PySem.W.Frag) : V → List V → Hp → VK → Prop := fun x xs H Q => ∃ (a : Addr) (ns : List Int) (k : Int), x = .ref a ∧ xs = [.int k] ∧ SqL K H a (ns.map V.int) ∧ k ∈ ns ∧ Q (.int (ns.idxOf k : Nat)) H
def rIdxT (K : PySem.W.Frag) : V → List V → Hp → VK → Prop := fun x xs H Q => ∃ (a : Addr) (ns : List Int) (k : Int), x = .ref a ∧ xs = [.int k] ∧ SqT K H a (ns.map V.int) ∧ k ∈ ns ∧ Q (.int (ns.idxOf k : Nat)) H
theorem mt_idx : MtR X "list.index" (rIdx X.K) := by
  intro pins s σ H x xs v us Q I rx rs h
  obtain ⟨a, ns, k, rfl, rfl, hs, hk, q⟩ := h
  cases rx
  obtain ⟨u, rfl, t, rfl⟩ := vals1 rs
  obtain ⟨its, r, p, hz⟩ := I.list hs
  exact PySem.SeqAt.list_index_ints p.isList r.ints (by rw [List.length_map] at hz; exact hz) hk ⟨.int (ns.idxOf k : Nat), H, I.tok _, ⟨_, rfl⟩, q⟩
theorem mt_idxT : MtR X "tuple.index" (rIdxT X.K) := by
  intro pins s σ H x xs v us Q I rx rs h
  obtain ⟨a, ns, k, rfl, rfl, hs, hk, q⟩ := h
  cases rx
  obtain ⟨u, rfl, t, rfl⟩ := vals1 rs
  obtain ⟨its, r, p, hz⟩ := I.tuple hs
  exact PySem.SeqAt.tuple_index_ints (show s.heap.IsTuple a its.toArray from p) r.ints hk ⟨.int (ns.idxOf k : Nat), H, I.tok _, ⟨_, rfl⟩, q⟩
/-! ### max and min of a tuple of numbers -/
end
end Bal

namespace Bal
open PySem PySem.Spec PyProof.Rows L2
/-! ### tuples that are known to have no dict -/
def TupN (H : Hp) (a : Addr) (xs : List V) : Prop := ∃ o : Obj, o.dict = none ∧ H a = some (.frz o (.tup xs))
theorem TupN.sq {K : PySem.W.Frag} {H : Hp} {a : Addr} {xs : List V} (h : TupN H a xs) : SqT K H a xs := by
  obtain ⟨o, _, e⟩ := h
  exact .inl (.inr ⟨o, e⟩)
theorem TupN.same {H H' : Hp} {a : Addr} {xs : List V} (h : TupN H a xs) (s : Same H H') : TupN H' a xs := by
  obtain ⟨o, d, e⟩ := h
  exact ⟨o, d, s _ _ e⟩
theorem TupN.new {H : Hp} {a : Addr} {xs : List V} {o : Obj} (h : o.dict = none) : TupN (upd H a (.frz o (.tup xs))) a xs := ⟨o, h, upd_same⟩
/-- a list, or such a tuple -/
def SqB (K : PySem.W.Frag) (H : Hp) (a : Addr) (xs : List V) : Prop := SqL K H a xs ∨ TupN H a xs
theorem SqB.a {K : PySem.W.Frag} {H : Hp} {a : Addr} {xs : List V} (h : SqB K H a xs) : SqA K H a xs := h.imp id (fun h => h.sq)
theorem SqB.same {K : PySem.W.Frag} {H H' : Hp} {a : Addr} {xs : List V} (h : SqB K H a xs) (s : Same H H') : SqB K H' a xs := h.imp (fun h => s.seq h) (fun h => h.same s)
section
variable {X : Cx} {pins : List (Addr × Obj)} {σ : L2.St} {H : Hp} {s : Shared} {a : Addr}
theorem frz_tup {P : Program} {w : World} {H : Hp} {h : Heap} {a : Addr} {xs : List V} {its : List Value} (hz : xs.length ≤ sizeLine) (r : Vals xs its) (e : h.get? a = some { cls := .type "tuple", data := .seq its.toArray }) : ObjOk P w H h a (.frz { cls := .type "tuple", data := .seq its.toArray } (.tup xs)) :=
  ⟨e, hz, its, r, _, e, rfl, _, rfl⟩
/-- tuple(xs) -/
def rTupN (K : PySem.W.Frag) : List V → Hp → VK → Prop := fun xs H Q => ∃ p ys, xs = [.ref p] ∧ ((SqL K H p ys ∧ ∀ l o, o.dict = none → H l = none → Q (.ref l) (upd H l (.frz o (.tup ys)))) ∨ (SqT K H p ys ∧ Q (.ref p) H))
theorem call_tupN : CallR X (.type "tuple") (rTupN X.K) := by
  intro pins s σ H xs us Q I r h
  obtain ⟨p, ys, rfl, h⟩ := h
  obtain ⟨u, rfl, rx⟩ := vals1 r
  cases rx
  rcases h with ⟨hq, q⟩ | ⟨hq, q⟩
  · obtain ⟨its, r', pl, hz⟩ := I.list hq
    have hlen := r'.length
    refine call_tuple_list pl.isList (fun h' kp => ?_) (by simp only [List.size_toArray] <;> omega)
    have I1 : Inv X pins σ H { s with heap := h' } := I.kept (t' := s.toks) kp
    exact ⟨.ref h'.objs.size, _, I1.laid (t' := s.toks) (fun b o e => Heap.get?_push_of_some _ e) (Nat.le_refl _) (frz_tup hz r' (Heap.get?_push_size _ rfl)), rfl, q _ _ rfl (I1.hok.fresh (Nat.le_refl _))⟩
  · obtain ⟨its, r', pl, hz⟩ := I.tuple hq
    exact call_tuple_same pl ⟨.ref p, H, I, rfl, q⟩
/-- xs[::-1] -/
def tRevN (K : PySem.W.Frag) (te : TE) : TE := fun σ H Q => te σ H fun x H1 => ∃ a xs, x = .ref a ∧ ((SqL K H1 a xs ∧ ∀ p, H1 p = none → Q (.ref p) (upd H1 p (.lst xs.reverse))) ∨ (SqT K H1 a xs ∧ ∀ p o, o.dict = none → H1 p = none → Q (.ref p) (upd H1 p (.frz o (.tup xs.reverse)))))
theorem pe_revN {e : Expr} {te : TE} {k : Nat} {p1 p2 p3 pos : Pos} (he : PE X e te) : PE X (.Subscript e (.Slice none none (some (.UnaryOp .USub (.Constant (.int 1) k p1) p2)) p3) pos) (tRevN X.K te) := by
  refine ⟨fun pins s σ H Q I h => ?_⟩
  refine Subscript_ (thn (he.run pins s σ H _ I h) fun v s1 ⟨x, H1, I1, r1, a, xs, ex, q1⟩ => ?_)
  subst ex; cases r1
  have hst : PO X (some (.UnaryOp .USub (.Constant (.int 1) k p1) p2)) (tPart (tUn (rU fun i => .int (-i)) (tC (.int 1)))) := po_some (pe_un un_neg pe_int)
  refine wpAny_Slice (thn (po_none.run pins s1 σ H1 (fun o H2 => o = none ∧ H2 = H1) I1 ⟨rfl, rfl⟩) fun vl s2 ⟨l, H2, I2, pl, el, e2⟩ => ?_)
  subst el e2
  refine thn (po_none.run pins s2 σ H2 (fun o H3 => o = none ∧ H3 = H2) I2 ⟨rfl, rfl⟩) fun vu s3 ⟨u, H3, I3, pu, eu, e3⟩ => ?_
  subst eu e3
  refine thn (hst.run pins s3 σ H3 (fun o H4 => o = some (-1) ∧ H4 = H3) I3 ⟨1, rfl, -1, rfl, rfl, rfl⟩) fun vs s4 ⟨o, H4, I4, ps, eo, e4⟩ => ?_
  subst eo e4
  have I5 : Inv X pins σ H4 { s4 with heap := s4.heap.push { cls := .type "slice", data := .fields #[vl, vu, vs] } } := I4.kept (t' := s4.toks) fun b ob q => Heap.get?_push_of_some _ q
  show wpAny (model X.prog X.w) X.A (subscriptTail e (.Slice none none (some (.UnaryOp .USub (.Constant (.int 1) k p1) p2)) p3) (.ref a) (.ref s4.heap.objs.size)) (EP X pins σ Q) X.xe { s4 with heap := s4.heap.push { cls := .type "slice", data := .fields #[vl, vu, vs] } }
  rcases q1 with ⟨hx, q⟩ | ⟨hx, q⟩
  · obtain ⟨its, r, ht, hz⟩ := I5.list hx
    have hlen := r.length
    refine tail_any (ops := [.ref a, .ref s4.heap.objs.size]) ht.isList.typeIs (PySem.slot_list_getitem.lookup) ?_ (by with_unfolding_all rfl)
    refine wpAny_getItem_list_slice ht.isList (Heap.IsSliceOf.new _ vl vu vs) pl pu ps (by decide) ?_ (by rw [List.size_toArray]; omega)
    rw [PySem.W.krv_pick]
    exact ⟨.ref _, _, I5.laid (t' := s4.toks) (o := .lst xs.reverse) (fun b ob q => Heap.get?_push_of_some _ q) (Nat.le_refl _) ⟨by rw [List.length_reverse]; exact hz, _, 0, r.reverse, Heap.get?_push_size _ rfl⟩, rfl, q _ (I5.hok.fresh (Nat.le_refl _))⟩
  · obtain ⟨its, r, ht, hz⟩ := I5.tuple hx
    have hlen := r.length
    cases pl; cases pu
    refine tail_any (ops := [.ref a, .ref s4.heap.objs.size]) ht.typeIs (PyProof.Rows.slot_tuple_getitem.lookup) ?_ (by with_unfolding_all rfl)
    refine getItem_tup_rev ht (Heap.IsSliceOf.new _ _ _ vs) ps ?_ (by rw [List.size_toArray]; omega)
    exact ⟨.ref _, _, I5.laid (t' := s4.toks) (o := .frz { cls := .type "tuple", data := .seq its.reverse.toArray } (.tup xs.reverse)) (fun b ob q => Heap.get?_push_of_some _ q) (Nat.le_refl _) (frz_tup (by rw [List.length_reverse]; exact hz) r.reverse (Heap.get?_push_size _ rfl)), rfl, q _ _ rfl (I5.hok.fresh (Nat.le_refl _))⟩
end
end Bal

namespace Bal
open PySem PySem.Spec PyProof.Rows L2
/-! ### defs that are called outside of every repr: what they promise there -/
structure FnG (P : Program) (w : World) (K : PySem.W.Frag) (mg : Str → Option Value) (base : Heap) (k : Nat) (f : Addr) (fd : FuncData) (ps : List Str) (sp : Sp) : Prop where
  lenG : ∀ vs H Q E, sp vs H Q E → vs.length = ps.length
  runG : ∀ (A : Around) (outer : List Env) (s : Shared) (H : Hp) (args : Args) (us : List Value) (vs : List V) (Q : VK) (E : XK), A.guards = some [] → Room k A → Env0 P w K mg base A outer s H → BindsTo s fd args (ps.zip us) → Vals vs us → sp vs H Q E → codeAny (model P w) A (.call (.ref f) args) (CR CX0 outer P w H s Q E) s
end Bal

namespace Bal
open PySem PySem.Spec PyProof.Rows L2
/-! ### repr -/
end Bal

namespace Bal
open PySem PySem.Spec PyProof.Rows L2
/-! ### truths among numbers -/
def nv : V → Option Int
  | .int i => some i
  | .bl b => some (if b = true then 1 else 0)
  | _ => none
section
variable {X : Cx}
theorem op_addN : OpR X (binaryOp .Add) (fun x y H Q => ∃ i j, nv x = some i ∧ y = .int j ∧ Q (.int (i + j)) H) := by
  intro pins s σ H x y v u Q I rx ry ⟨i, j, hx, hy, q⟩
  subst hy; obtain ⟨t, rfl⟩ := ry
  cases x with
  | int a => cases hx; obtain ⟨t', rfl⟩ := rx; exact add_int ⟨.int _, H, I.tok _, ⟨_, rfl⟩, q⟩
  | bl b => cases hx; cases rx; exact PySem.IntBool.add_bool_int ⟨.int _, H, I.tok _, ⟨_, rfl⟩, q⟩
  | _ => cases hx
end
/-! ### enumerate of a tuple -/
end Bal

namespace Bal
open PySem PySem.Spec PyProof.Rows L2
/-! ### xs[a:c] = ys, c maybe behind the end -/
/-! ### len(set(t)), t a tuple of numbers -/
end Bal

namespace Bal
open PySem PySem.Spec PyProof.Rows L2
/-! ### which kind a thing is -/
/-! ### the heap without the draws' pot, and without lists that are still being made -/
def hid (N : Addr → Bool) (H : Hp) : Hp := fun q => if N q = true then none else H q
theorem hid_at {N : Addr → Bool} {q : Addr} {H : Hp} (n : N q = false) : hid N H q = H q := if_neg (by rw [n]; exact Bool.false_ne_true)
theorem hid_p {N : Addr → Bool} {q : Addr} {H : Hp} (n : N q = true) : hid N H q = none := if_pos n
theorem hid_some {N : Addr → Bool} {q : Addr} {H : Hp} {o : HO} (e : hid N H q = some o) : N q = false ∧ H q = some o := by
  cases n : N q with
  | true =>
    rw [hid_p n] at e
    cases e
  | false =>
    rw [hid_at n] at e
    exact ⟨rfl, e⟩
theorem hid_but {N : Addr → Bool} {p : Addr} {H H' : Hp} (np : N p = true) (b : But p H H') : Same (hid N H) (hid N H') := fun q o e => by
  obtain ⟨h1, h2⟩ := hid_some e
  rw [hid_at h1]
  refine b q o (fun z => ?_) h2
  rw [z, np] at h1
  cases h1
theorem hid_get {N : Addr → Bool} {q : Addr} {H : Hp} {o : HO} (n : N q = false) (h : H q = some o) : hid N H q = some o := by
  rw [hid_at n]
  exact h
/-- the pot, and what is hidden stands -/
structure PotN (N : Addr → Bool) (H : Hp) (p : Addr) (c : Nat) : Prop where
  pot : Pot H p c
  np : N p = true
  tr : ∀ q, N q = true → ∃ o, H q = some o
theorem PotN.ne {N : Addr → Bool} {H : Hp} {p q : Addr} {c : Nat} (h : PotN N H p c) (n : H q = none) : N q = false := by
  cases e : N q with
  | false => rfl
  | true =>
    obtain ⟨o, z⟩ := h.tr q e
    rw [n] at z
    cases z
theorem PotN.same {N : Addr → Bool} {H H' : Hp} {p : Addr} {c : Nat} (h : PotN N H p c) (s : Same H H') : PotN N H' p c := ⟨h.pot.same s, h.np, fun q e => let ⟨o, z⟩ := h.tr q e; ⟨o, s _ _ z⟩⟩
theorem PotN.but {N : Addr → Bool} {H H' : Hp} {p : Addr} {c c' : Nat} (h : PotN N H p c) (b : But p H H') (P : Pot H' p c') : PotN N H' p c' := ⟨P, h.np, fun q e => by
  by_cases z : q = p
  · subst z
    obtain ⟨o, e, _⟩ := P
    exact ⟨o, e⟩
  · obtain ⟨o, e⟩ := h.tr q e
    exact ⟨o, b q o z e⟩⟩
/-- one more is hidden -/
theorem potN_more {N : Addr → Bool} {H : Hp} {p r : Addr} {c : Nat} {o : HO} (h : PotN N H p c) (hr : H r = some o) : PotN (fun q => N q || decide (q = r)) H p c := ⟨h.pot, by rw [h.np]; rfl, fun q e => by
  rcases Bool.or_eq_true_iff.mp e with e | e
  · exact h.tr q e
  · rw [of_decide_eq_true e]
    exact ⟨o, hr⟩⟩
/-! ### things that are small enough -/
mutual
def okD (M : Nat) : PyData → Bool
  | .none => true
  | .bool _ => true
  | .int i => decide (i.natAbs ≤ M)
  | .str x => PyData.strOk x && decide (x.length ≤ 30)
  | .list xs => okA M xs
  | .tuple xs => okA M xs
  | .dict _ => false
def okA (M : Nat) : List PyData → Bool
  | [] => true
  | x :: xs => okD M x && okA M xs
end
mutual
def siz : PyData → Nat
  | .list xs => sizA xs + 1
  | .tuple xs => sizA xs + 1
  | _ => 1
def sizA : List PyData → Nat
  | [] => 0
  | x :: xs => siz x + sizA xs
end
structure Fit (M S D : Nat) (d : PyData) : Prop where
  ok : okD M d = true
  sz : siz d ≤ S
  dp : d.depth ≤ D
theorem Fit.mono {M S D M' S' D' : Nat} {d : PyData} (h : Fit M S D d) (h0 : okD M d = true → okD M' d = true) (h1 : S ≤ S') (h2 : D ≤ D') : Fit M' S' D' d := ⟨h0 h.ok, Nat.le_trans h.sz h1, Nat.le_trans h.dp h2⟩
mutual
theorem okD_mono {M M' : Nat} (h : M ≤ M') : ∀ d : PyData, okD M d = true → okD M' d = true
  | .none, _ => rfl
  | .bool _, _ => rfl
  | .int i, e => decide_eq_true (Nat.le_trans (of_decide_eq_true e) h)
  | .str x, e => e
  | .list xs, e => okA_mono h xs e
  | .tuple xs, e => okA_mono h xs e
  | .dict _, e => nomatch (show false = true from e)
theorem okA_mono {M M' : Nat} (h : M ≤ M') : ∀ xs : List PyData, okA M xs = true → okA M' xs = true
  | [], _ => rfl
  | x :: xs, e => by
    obtain ⟨a, b⟩ := Bool.and_eq_true_iff.mp (show (okD M x && okA M xs) = true from e)
    show (okD M' x && okA M' xs) = true
    rw [okD_mono h x a, okA_mono h xs b]
    rfl
end
theorem sizA_app : ∀ xs ys : List PyData, sizA (xs ++ ys) = sizA xs + sizA ys
  | [], ys => (Nat.zero_add _).symm
  | x :: xs, ys => by
    show siz x + sizA (xs ++ ys) = siz x + sizA xs + sizA ys
    rw [sizA_app xs ys, Nat.add_assoc]
/-- all parts of a list of things: as a list, as a tuple -/
structure FitA (M S D : Nat) (ds : List PyData) : Prop where
  ok : ∀ d ∈ ds, okD M d = true
  sz : sizA ds ≤ S
  dp : ∀ d ∈ ds, d.depth ≤ D
/-! ### what these are good for -/
/-! ### good things: data out of the pot's reach, small -/
def Gv (K : PySem.W.Frag) (N : Addr → Bool) (H : Hp) (M S D : Nat) (v : V) : Prop := ∃ d, Dp K (hid N H) v d ∧ Fit M S D d
theorem Gv.but {K : PySem.W.Frag} {N : Addr → Bool} {p : Addr} {H H' : Hp} {M S D : Nat} {v : V} (h : Gv K N H M S D v) (np : N p = true) (b : But p H H') : Gv K N H' M S D v := by
  obtain ⟨d, a, f⟩ := h
  exact ⟨d, dp_same (hid_but np b) a, f⟩
theorem Gv.mono {K : PySem.W.Frag} {N : Addr → Bool} {H : Hp} {M S D M' S' D' : Nat} {v : V} (h : Gv K N H M S D v) (h0 : M ≤ M') (h1 : S ≤ S') (h2 : D ≤ D') : Gv K N H M' S' D' v := by
  obtain ⟨d, a, f⟩ := h
  exact ⟨d, a, f.mono (okD_mono h0 d) h1 h2⟩
end Bal

namespace Bal
open PySem PySem.Spec PyProof.Rows L2
theorem sizA_sub {xs ys : List PyData} (h : xs.Sublist ys) : sizA xs ≤ sizA ys := by
  induction h with
  | slnil => exact Nat.le_refl _
  | cons a _ ih => exact Nat.le_trans ih (Nat.le_add_left _ _)
  | cons_cons a _ ih => exact Nat.add_le_add_left ih _
theorem FitA.sub {M S D : Nat} {xs ys : List PyData} (f : FitA M S D ys) (h : xs.Sublist ys) : FitA M S D xs := ⟨fun d hd => f.ok d (h.mem hd), Nat.le_trans (sizA_sub h) f.sz, fun d hd => f.dp d (h.mem hd)⟩
theorem sizA_rev : ∀ xs : List PyData, sizA xs.reverse = sizA xs
  | [] => rfl
  | x :: xs => by
    rw [List.reverse_cons, sizA_app, sizA_rev xs]
    show sizA xs + (siz x + 0) = siz x + sizA xs
    omega
theorem FitA.rev {M S D : Nat} {xs : List PyData} (f : FitA M S D xs) : FitA M S D xs.reverse := ⟨fun d hd => f.ok d (List.mem_reverse.mp hd), by rw [sizA_rev]; exact f.sz, fun d hd => f.dp d (List.mem_reverse.mp hd)⟩
theorem FitA.mono {M S D M' S' D' : Nat} {xs : List PyData} (f : FitA M S D xs) (h0 : M ≤ M') (h1 : S ≤ S') (h2 : D ≤ D') : FitA M' S' D' xs := ⟨fun d hd => okD_mono h0 d (f.ok d hd), Nat.le_trans f.sz h1, fun d hd => Nat.le_trans (f.dp d hd) h2⟩
end Bal

namespace Bal
open PySem PySem.Spec PyProof.Rows L2
/-! ### a walk over a list or a tuple, whichever it is -/
section
variable {X : Cx} {tg : Expr}
def iEi (K : PySem.W.Frag) (tl : TE) : TI := fun σ H R => tl σ H fun x H1 => ∃ a, x = .ref a ∧ (((∃ xs, SqL K H1 a xs) ∧ R (Itl K a) H1) ∨ ((∃ xs, SqT K H1 a xs) ∧ R (Itt K a) H1))
theorem pi_ei {l : Expr} {tl : TE} (hl : PE X l tl) : PI X tg l (iEi X.K tl) := by
  refine ⟨fun pins s σ H R I h => thn (hl.run pins s σ H _ I h) fun v s1 ⟨x, H1, I1, r1, a, ea, q1⟩ => ?_⟩
  subst ea; cases r1
  have fr : ∀ b ∈ [s1.heap.objs.size], FpOk X pins H1 b := fun b hb => by
    rw [show b = s1.heap.objs.size by simpa using hb]
    exact I1.fpOk (Nat.le_refl _) (I1.hok.fresh (Nat.le_refl _))
  rcases q1 with ⟨⟨xs, hq⟩, q⟩ | ⟨⟨xs, hq⟩, q⟩
  · obtain ⟨its, rv, p, hz⟩ := I1.list hq
    exact wpAny_pyIter_list p.isList ⟨s1.heap.objs.size, [s1.heap.objs.size], _, _, H1, rfl, I1.kept (t' := s1.toks) fun b o e => Heap.get?_push_of_some _ e, turn_list a _, ⟨_, Heap.get?_push_size _ rfl, rfl, rfl⟩, fr, q⟩
  · obtain ⟨its, rv, p, hz⟩ := I1.tuple hq
    exact wpAny_pyIter_tuple (show s1.heap.IsTuple a its.toArray from p) ⟨s1.heap.objs.size, [s1.heap.objs.size], _, _, H1, rfl, I1.kept (t' := s1.toks) fun b o e => Heap.get?_push_of_some _ e, turn_tuple a _, ⟨_, Heap.get?_push_size _ rfl, rfl, rfl⟩, fr, q⟩
end
/-! ### what is hidden stands -/
def TrN (N : Addr → Bool) (H : Hp) : Prop := ∀ q, N q = true → ∃ o, H q = some o
/-- D hidden too -/
def plus (N : Addr → Bool) (D : Addr) : Addr → Bool := fun q => N q || decide (q = D)
theorem TrN.none {H : Hp} : TrN (fun _ => false) H := fun _ e => Bool.noConfusion e
theorem TrN.same {N : Addr → Bool} {H H' : Hp} (t : TrN N H) (s : Same H H') : TrN N H' := fun q e => let ⟨o, z⟩ := t q e; ⟨o, s _ _ z⟩
theorem TrN.ne {N : Addr → Bool} {H : Hp} {q : Addr} (t : TrN N H) (n : H q = Option.none) : N q = false := by
  cases e : N q with
  | false => rfl
  | true =>
    obtain ⟨o, z⟩ := t q e
    rw [n] at z
    cases z
theorem TrN.plus {N : Addr → Bool} {H : Hp} {D : Addr} {o : HO} (t : TrN N H) (h : H D = some o) : TrN (plus N D) H := fun q e => by
  rcases Bool.or_eq_true_iff.mp e with e | e
  · exact t q e
  · rw [of_decide_eq_true e]
    exact ⟨o, h⟩
theorem hid_sm {N : Addr → Bool} {H H' : Hp} (s : Same H H') : Same (hid N H) (hid N H') := fun q o e => hid_get (hid_some e).1 (s _ _ (hid_some e).2)
theorem hid_in {N : Addr → Bool} {G G' : Hp} {D : Addr} (n : G D = none) (s : Same G G') : Same (hid N G) (hid (plus N D) G') := fun q o hq => by
  obtain ⟨z1, z2⟩ := hid_some hq
  have z3 : q ≠ D := fun z => by
    rw [z, n] at z2
    cases z2
  exact hid_get (by show (N q || decide (q = D)) = false; rw [z1, decide_eq_false z3]; rfl) (s _ _ z2)
/-! ### tuples as lists, at every depth -/
end Bal

namespace Bal
open PySem PySem.Spec PyProof.Rows L2
/-! ### written things -/
theorem pe_of {X : Cx} {e : Expr} {t t' : TE} (h : PE X e t) (f : ∀ σ H Q, t' σ H Q → t σ H Q) : PE X e t' := ⟨fun pins s σ H Q I q => h.run pins s σ H Q I (f σ H Q q)⟩
theorem pa_of {X : Cx} {es : List Expr} {t t' : TA} (h : PA X es t) (f : ∀ σ H Q, t' σ H Q → t σ H Q) : PA X es t' := ⟨fun pos pins s σ H Q I q => h.run pos pins s σ H Q I (f σ H Q q)⟩
/-! ### many small things at once -/
theorem Gv.sm {K : PySem.W.Frag} {N : Addr → Bool} {H H' : Hp} {M S D : Nat} {v : V} (h : Gv K N H M S D v) (s : Same H H') : Gv K N H' M S D v := by
  obtain ⟨d, a, f⟩ := h
  exact ⟨d, dp_same (hid_sm s) a, f⟩
theorem Gv.into {K : PySem.W.Frag} {N : Addr → Bool} {H H' : Hp} {M S D : Nat} {v : V} {T : Addr} (h : Gv K N H M S D v) (n : H T = none) (s : Same H H') : Gv K (plus N T) H' M S D v := by
  obtain ⟨d, a, f⟩ := h
  exact ⟨d, dp_same (hid_in n s) a, f⟩
theorem PotN.plus {N : Addr → Bool} {H : Hp} {p T : Addr} {c : Nat} {o : HO} (h : PotN N H p c) (e : H T = some o) : PotN (plus N T) H p c := potN_more h e
theorem PotN.putD {N : Addr → Bool} {H : Hp} {p T : Addr} {c : Nat} {o : HO} (h : PotN N H p c) (n : T ≠ p) : PotN N (upd H T o) p c := ⟨h.pot.upd n, h.np, fun q hq => by
  by_cases z : q = T
  · rw [z]
    exact ⟨_, upd_same⟩
  · rw [upd_ne z]
    exact h.tr q hq⟩
end Bal

namespace Bal
open PySem PySem.Spec PyProof.Rows L2
/-- a loop over anything of n items -/
theorem for_gen {J : It} {n : Nat} {g : TG} {tb : TS} {D : Ends} {σ : L2.St} {H : Hp} (Pv : Nat → L2.St → Hp → Prop) (h0 : Pv 0 σ H) (hgo : ∀ i σ H, i < n → Pv i σ H → J.go i H) (hst : ∀ σ H, Pv n σ H → J.stop n H)
    (hs : ∀ i σ H x H', i < n → Pv i σ H → J.yld i H x H' → g x σ H' fun σ2 H2 => tb { D with nx := Pv (i + 1), ct := Pv (i + 1), bk := D.nx } σ2 H2) (hd : ∀ σ H, Pv n σ H → D.nx σ H) :
    ∃ W : Nat → Nat → L2.St → Hp → Prop, (∃ m, W 0 m σ H) ∧ ∀ i m σ H, W i m σ H →
      (J.stop i H ∧ D.nx σ H) ∨ (J.go i H ∧ ∃ N : L2.St → Hp → Prop, (∀ σ' H', N σ' H' → ∃ m', m' < m ∧ W (i + 1) m' σ' H') ∧ ∀ x H', J.yld i H x H' → g x σ H' fun σ2 H2 => tb { D with nx := N, ct := N, bk := D.nx } σ2 H2) := by
  refine ⟨fun i m σ H => m = n - i ∧ i ≤ n ∧ Pv i σ H, ⟨n, by simp, Nat.zero_le _, h0⟩, ?_⟩
  rintro i m σ H ⟨rfl, hi, p⟩
  by_cases hlt : i < n
  · exact .inr ⟨hgo i σ H hlt p, Pv (i + 1), fun σ' H' p' => ⟨n - (i + 1), by omega, rfl, hlt, p'⟩, fun x H' y => hs i σ H x H' hlt p y⟩
  · have e : i = n := by omega
    subst e
    exact .inl ⟨hst σ H p, hd σ H p⟩
/-! ### boxes: somebody, the least and the greatest number of taller ones ahead -/
end Bal

namespace Bal
open PySem PySem.Spec PyProof.Rows L2
end Bal

namespace Den
open PySem PySem.Spec PyProof.Rows L2 Bal
/-! ### values by what they are: tuples and lists that nobody changes by their items, lists that change by their number in a store -/
inductive W where
  | non | bl (b : Bool) | int (i : Int) | str (x : Str) | tup (ws : List W) | cl (ws : List W) | sc (ws : List W) | lst (n : Nat) | dct (n : Nat) | dtt (n : Nat) | ins (n : Nat) | exn (c f : Str) (ws : List W) | lam (f c : Addr) (q : Str) (xs : List V) (ws : List W)
abbrev Store := List (List W)
abbrev En := List (Option W)
inductive Out (α : Type) where
  | ok (a : α) (S : Store)
  | err (c f : Str) (ws : List W) (S : Store)
  | bad
abbrev Mo (α : Type) := Store → Out α
def bnd {α β : Type} (m : Mo α) (f : α → Mo β) : Mo β := fun S => match m S with
  | .ok a S' => f a S'
  | .err c g ws S' => .err c g ws S'
  | .bad => .bad
def ret {α : Type} (a : α) : Mo α := fun S => .ok a S
def bad {α : Type} : Mo α := fun _ => .bad
/-! ### how a value of the machine is such a one -/
/-- the written part, the module's names, the lists that are still being made -/
structure Gm where
  K : PySem.W.Frag
  mg : Str → Option Value
  δ : List Addr
def KTup (K : PySem.W.Frag) (a : Addr) (xs : List V) : Prop := ∃ (o : Obj) (its : Array Value) (n : Nat), K.lookup a = some o ∧ o.dict = none ∧ o.cls = .type "tuple" ∧ o.data = .seq its n ∧ its.size ≤ sizeLine ∧ Vals xs its.toList
def KLst (K : PySem.W.Frag) (a : Addr) (xs : List V) : Prop := ∃ (o : Obj) (its : Array Value) (n : Nat), K.lookup a = some o ∧ o.cls = .type "list" ∧ o.dict = none ∧ o.data = .seq its n ∧ its.size ≤ sizeLine ∧ Vals xs its.toList
def TupAt (Γ : Gm) (H : Hp) (μ : List Addr) (a : Addr) (xs : List V) : Prop := (TupN H a xs ∧ a ∉ μ ∧ a ∉ Γ.δ) ∨ KTup Γ.K a xs
def LstAt (Γ : Gm) (H : Hp) (μ : List Addr) (a : Addr) (xs : List V) : Prop := (Rd H a (.lst xs) ∧ a ∉ μ ∧ a ∉ Γ.δ) ∨ KLst Γ.K a xs
section
variable {Γ : Gm} {H H' H'' : Hp} {μ μ' μ'' : List Addr} {S S' : Store} {a : Addr} {xs : List V}
theorem TupAt.sq (h : TupAt Γ H μ a xs) : SqT Γ.K H a xs := h.elim (fun z => z.1.sq) fun ⟨o, its, n, h1, _, h2⟩ => .inr ⟨o, its, n, h1, h2⟩
theorem LstAt.sq (h : LstAt Γ H μ a xs) : SqL Γ.K H a xs := h.imp (fun z => z.1) fun z => z
end
/-! a dict by tuples of numbers: its keys are objects that stand by themselves -/
def hashI (ks : List Int) : Int := reduceHash (Builtin.Tuple.tupleHashOf (ks.map hashInt))
def DTe (p : (Addr × List Int) × V) (e : DictEntry) : Prop := e.hash = hashI p.1.2 ∧ e.key = .ref p.1.1 ∧ RelV p.2 e.val
def DTf (a : Addr) (kvs : List ((Addr × List Int) × V)) : Heap → Prop := fun h => (a == sysModules) = false ∧ ∃ (o : Obj) (es : Array DictEntry) (ep : Nat), h.get? a = some o ∧ o.ExactDict ∧ o.data = .dict es ep ∧ Paired DTe kvs es.toList ∧ (kvs.map fun p => p.1.2).Nodup
def DTo (a : Addr) (kvs : List ((Addr × List Int) × V)) : HO := .ext (DTf a kvs)
open Classical in
/-- what kind of dict a locked thing is -/
noncomputable def kdf : HO → Nat
  | .dK _ => 1
  | .ext φ => if ∃ a kvs, φ = DTf a kvs then 2 else 3
  | _ => 3
theorem kdf_ne0 (u : HO) : kdf u ≠ 0 := by
  unfold kdf
  split
  · decide
  · split <;> decide
  · decide
/-- the attributes of an instance of an own class, in the order in which they are made -/
def insNames : List Str := ["past", "notes"]
open Classical in
/-- what kind of thing an object of the store is: a list, a dict by numbers and texts, a dict by tuples of numbers -/
noncomputable def kd : HO → Nat
  | .lst _ => 0
  | .dK _ => 1
  | .ext φ => if ∃ a kvs, φ = DTf a kvs then 2 else 3
  | .frz _ u => kdf u
  | .ins C _ _ => C + 4
  | _ => 3
theorem kdf_dt (a : Addr) (kvs : List ((Addr × List Int) × V)) : kdf (DTo a kvs) = 2 := by
  unfold DTo kdf
  exact if_pos ⟨a, kvs, rfl⟩
theorem kd_dt (a : Addr) (kvs : List ((Addr × List Int) × V)) : kd (DTo a kvs) = 2 := by
  unfold DTo kd
  exact if_pos ⟨a, kvs, rfl⟩
theorem kd_ext (φ : Heap → Prop) : kd (.ext φ) = 2 ∨ kd (.ext φ) = 3 := by
  by_cases h : ∃ a kvs, φ = DTf a kvs
  · exact .inl (if_pos h)
  · exact .inr (if_neg h)
theorem all_get (O : Obj) (hO : O.isFreed = false) : ∀ n : Nat, ∃ h : Heap, h.objs.size = n ∧ (∀ b, b < n → h.get? b = some O) ∧ ∀ b o, h.get? b = some o → o = O
  | 0 => ⟨{ objs := #[] }, rfl, fun b hb => absurd hb (Nat.not_lt_zero b), fun b o e => absurd (Heap.lt_size e) (Nat.not_lt_zero b)⟩
  | n + 1 => by
    obtain ⟨h, h1, h2, h3⟩ := all_get O hO n
    have hp : (h.push O).get? h.objs.size = some O := Heap.get?_push_size _ hO
    have hz : (h.push O).objs.size = h.objs.size + 1 := Heap.size_push ..
    refine ⟨h.push O, by rw [hz, h1], fun b hb => ?_, fun b o e => ?_⟩
    · by_cases hbn : b < n
      · exact Heap.get?_push_of_some _ (h2 b hbn)
      · have : b = h.objs.size := by rw [h1]; exact Nat.le_antisymm (Nat.le_of_lt_succ hb) (Nat.le_of_not_lt hbn)
        rw [this]
        exact hp
    · have hb := Heap.lt_size e
      rw [hz] at hb
      by_cases hbn : b < n
      · have e2 : (h.push O).get? b = some O := Heap.get?_push_of_some _ (h2 b hbn)
        rw [e] at e2
        exact Option.some.inj e2
      · have : b = h.objs.size := by rw [h1] at hb ⊢; exact Nat.le_antisymm (Nat.le_of_lt_succ hb) (Nat.le_of_not_lt hbn)
        rw [this, hp] at e
        exact (Option.some.inj e).symm
theorem kd_code (c : Addr) (q : Str) : kd (LamX.CodeO c q) = 3 := by
  unfold LamX.CodeO kd
  refine if_neg ?_
  rintro ⟨a, kvs, e⟩
  obtain ⟨h, _, h2, h3⟩ := all_get { cls := .none, data := .fields #[.none, .str q default] } rfl (c + 1)
  have := congrFun e h
  have h4 : DTf a kvs h := by
    rw [← this]
    exact ⟨_, _, default, h2 c (Nat.lt_succ_self c), rfl, rfl⟩
  obtain ⟨_, o, es, ep, h5, _, h6, _⟩ := h4
  rw [h3 a o h5] at h6
  cases h6
def Kd_ (H : Hp) (a : Addr) (k : Nat) : Prop := ∃ o, H a = some o ∧ kd o = k
def kW : Key → W
  | .inl i => .int i
  | .inr x => .str x
def pairW (k u : W) : W := .tup [k, u]
/-- a dict that is being walked has this ahead of its pairs -/
abbrev mkW : W := .tup []
/-- how a dict of the store is laid by its entry -/
def EntD : Addr → HO → List W → List V → List W → Prop
  | _, .dK kvs, ws, xs, us => xs = kvs.map (·.2) ∧ ws = List.zipWith pairW (kvs.map fun p => kW p.1) us
  | a, .ext φ, ws, xs, us => ∃ (kvs : List ((Addr × List Int) × V)) (uv : List W), φ = DTf a kvs ∧ xs = kvs.map (fun p => V.ref p.1.1) ++ kvs.map (·.2) ∧ us = kvs.map (fun p => W.tup (p.1.2.map W.int)) ++ uv ∧ uv.length = kvs.length ∧ ws = List.zipWith pairW (kvs.map fun p => W.tup (p.1.2.map W.int)) uv
  | _, _, _, _, _ => False
/-- how an object of the store is laid by its entry: the values in it, what they are told as -/
def Ent : Addr → HO → List W → List V → List W → Prop
  | _, .lst ys, ws, xs, us => xs = ys ∧ us = ws
  | a, .frz _ u, ws, xs, us => ∃ ws0, ws = mkW :: ws0 ∧ EntD a u ws0 xs us
  | _, .ins _ _ fs, ws, xs, us => xs = fs.map (·.2) ∧ us = ws ∧ fs.map (·.1) = insNames.take fs.length
  | _, .dK kvs, ws, xs, us => xs = kvs.map (·.2) ∧ ws = List.zipWith pairW (kvs.map fun p => kW p.1) us
  | a, .ext φ, ws, xs, us => ∃ (kvs : List ((Addr × List Int) × V)) (uv : List W), φ = DTf a kvs ∧ xs = kvs.map (fun p => V.ref p.1.1) ++ kvs.map (·.2) ∧ us = kvs.map (fun p => W.tup (p.1.2.map W.int)) ++ uv ∧ uv.length = kvs.length ∧ ws = List.zipWith pairW (kvs.map fun p => W.tup (p.1.2.map W.int)) uv
  | _, _, _, _, _ => False
theorem Ent.kd {a : Addr} {o : HO} {ws us : List W} {xs : List V} (h : Ent a o ws xs us) : Den.kd o ≠ 3 := by
  intro z
  cases o with
  | frz ob u =>
    obtain ⟨ws0, _, h⟩ := h
    have z : kdf u = 3 := z
    cases u <;> first | (cases z; done) | exact h.elim | skip
    obtain ⟨kvs, uv, e, _⟩ := h
    subst e
    have := kdf_dt a kvs
    unfold DTo at this
    rw [this] at z
    cases z
  | ext φ =>
    obtain ⟨kvs, uv, e, _⟩ := h
    subst e
    have := kd_dt a kvs
    unfold DTo at this
    rw [this] at z
    cases z
  | ins C dx fs => exact absurd z (Nat.ne_of_gt (Nat.lt_of_lt_of_le (show 3 < 4 by decide) (Nat.le_add_left 4 C)))
  | _ => first | (cases z; done) | exact h.elim
mutual
inductive Rp (Γ : Gm) (H : Hp) (μ : List Addr) : V → W → Prop
  | non : Rp Γ H μ .non .non
  | bl (b : Bool) : Rp Γ H μ (.bl b) (.bl b)
  | int (i : Int) : Rp Γ H μ (.int i) (.int i)
  | str (x : Str) : Rp Γ H μ (.str x) (.str x)
  | tup {a : Addr} {xs : List V} {ws : List W} : TupAt Γ H μ a xs → xs.length ≤ sizeLine → Rps Γ H μ xs ws → Rp Γ H μ (.ref a) (.tup ws)
  | cl {a : Addr} {xs : List V} {ws : List W} : H a = some (.lst xs) → a ∉ μ → a ∉ Γ.δ → xs.length ≤ sizeLine → Rps Γ H μ xs ws → Rp Γ H μ (.ref a) (.cl ws)
  | sc {a : Addr} {xs : List V} {ws : List W} : LstAt Γ H μ a xs → Rps Γ H μ xs ws → Rp Γ H μ (.ref a) (.sc ws)
  | lst {a : Addr} {n : Nat} : μ[n]? = some a → Kd_ H a 0 → Rp Γ H μ (.ref a) (.lst n)
  | dct {a : Addr} {n : Nat} : μ[n]? = some a → Kd_ H a 1 → Rp Γ H μ (.ref a) (.dct n)
  | dtt {a : Addr} {n : Nat} : μ[n]? = some a → Kd_ H a 2 → Rp Γ H μ (.ref a) (.dtt n)
  | ins {a C : Addr} {n : Nat} : μ[n]? = some a → Kd_ H a (C + 4) → Γ.mg "Gallery" = some (.ref C) → Rp Γ H μ (.ref a) (.ins n)
  | exn {a C : Addr} {c f : Str} {d : Addr} {xs : List V} {ws : List W} : Γ.mg c = some (.ref C) → H a = some (ErV (.ref C) (some d) a) → a ∉ μ → a ∉ Γ.δ → H d = some (.xd (xs.map fun x => (f, x))) → d ∉ μ → d ∉ Γ.δ → xs.length ≤ 1 → Rps Γ H μ xs ws → Rp Γ H μ (.ref a) (.exn c f ws)
  | exn0 {a C : Addr} {c f : Str} : Γ.mg c = some (.ref C) → H a = some (ErV (.ref C) none a) → a ∉ μ → a ∉ Γ.δ → Rp Γ H μ (.ref a) (.exn c f [])
  | lam {f c : Addr} {q : Str} {xs : List V} {ws : List W} : H c = some (LamX.CodeO c q) → c ∉ μ → c ∉ Γ.δ → Rps Γ H μ xs ws → Rp Γ H μ (.ref f) (.lam f c q xs ws)
inductive Rps (Γ : Gm) (H : Hp) (μ : List Addr) : List V → List W → Prop
  | nil : Rps Γ H μ [] []
  | cons {v : V} {vs : List V} {w : W} {ws : List W} : Rp Γ H μ v w → Rps Γ H μ vs ws → Rps Γ H μ (v :: vs) (w :: ws)
end
/-- what may have become of the heap: what is no list of the store is as it was -/
def NT (o : HO) : Prop := ∀ ps, o ≠ .tbl ps
theorem nt_er {c : Value} {d : Option Addr} {a : Addr} : NT (ErV c d a) := fun _ z => by
  unfold ErV at z
  cases z
theorem nt_co {c : Addr} {q : Str} : NT (LamX.CodeO c q) := LamX.codeO_ne
theorem nt_kd {o : HO} (h : kd o ≠ 3) : NT o := fun ps z => by
  subst z
  exact h rfl
structure Gr (H : Hp) (μ : List Addr) (H' : Hp) (μ' : List Addr) : Prop where
  pre : ∃ r, μ' = μ ++ r
  keepN : ∀ a o, H a = some o → a ∉ μ → NT o → H' a = some o ∧ a ∉ μ'
  kind : ∀ a k, a ∈ μ → Kd_ H a k → Kd_ H' a k
  frz : ∀ a o u, a ∈ μ → H a = some (.frz o u) → H' a = some (.frz o u)
theorem Gr.keep {H H' : Hp} {μ μ' : List Addr} (g : Gr H μ H' μ') (a : Addr) (o : HO) (h : H a = some o) (n : a ∉ μ) (nt : NT o := by first | exact nt_er | exact nt_co | (intro ps z; cases z)) : H' a = some o ∧ a ∉ μ' := g.keepN a o h n nt
/-- the tables of the code objects of the defs in which lambdas are made -/
def lamNames : List Str := ["_law_right", "_law_all_right"]
def tabOf (K : PySem.W.Frag) (mg : Str → Option Value) (nm : Str) : Option (Addr × Str) := match mg nm with
  | some (.ref f) => match K.lookup f with
    | some ⟨_, _, .func fd, _⟩ => match fd.code with
      | .ref c => match K.lookup c with
        | some ⟨_, _, .fields vs, _⟩ => match (vs[11]? : Option Value) with
          | some (.ref P) => some (P, (nm ++ ".<locals>.") ++ "<lambda>")
          | _ => none
        | _ => none
      | _ => none
    | _ => none
  | _ => none
def tabsOf (K : PySem.W.Frag) (mg : Str → Option Value) : List (Addr × Str) := lamNames.filterMap (tabOf K mg)
theorem tabs_upd {T : List (Addr × Str)} {H : Hp} {a : Addr} {x : HO} (t : LamX.Tabs T H) (ha : ∀ o, H a = some o → kd o ≠ 3) : LamX.Tabs T (upd H a x) := fun p hp => by
  obtain ⟨ps, h1, h2, h3⟩ := t p hp
  refine ⟨ps, by rw [upd_ne (fun z => ha _ (by rw [← z]; exact h1) rfl)]; exact h1, h2, fun pos cv hc => ?_⟩
  obtain ⟨c, e1, e2⟩ := h3 pos cv hc
  exact ⟨c, e1, by rw [upd_ne (fun z => ha _ (by rw [← z]; exact e2) (kd_code _ _))]; exact e2⟩
structure Ok (Γ : Gm) (H : Hp) (μ : List Addr) (S : Store) : Prop where
  len : μ.length = S.length
  nd : μ.Nodup
  dl : ∀ a ∈ Γ.δ, (∃ o, H a = some o ∧ kd o ≠ 3) ∧ a ∉ μ
  at_ : ∀ (n : Nat) (a : Addr), μ[n]? = some a → ∃ (o : HO) (ws : List W) (xs : List V) (us : List W), S[n]? = some ws ∧ H a = some o ∧ Ent a o ws xs us ∧ xs.length ≤ sizeLine ∧ Rps Γ H μ xs us
  tb : LamX.Tabs (tabsOf Γ.K Γ.mg) H
section
variable {Γ : Gm} {H H' H'' : Hp} {μ μ' μ'' : List Addr} {S S' : Store}
theorem Gr.refl : Gr H μ H μ := ⟨⟨[], by simp⟩, fun _ _ h n _ => ⟨h, n⟩, fun _ _ _ h => h, fun _ _ _ _ h => h⟩
theorem Gr.trans (a : Gr H μ H' μ') (b : Gr H' μ' H'' μ'') : Gr H μ H'' μ'' := by
  obtain ⟨r, e⟩ := a.pre
  obtain ⟨r2, e2⟩ := b.pre
  exact ⟨⟨r ++ r2, by rw [e2, e, List.append_assoc]⟩, fun x o h n q => let ⟨h1, n1⟩ := a.keep x o h n q; b.keep x o h1 n1 q, fun x k m h => b.kind x k (by rw [e]; exact List.mem_append_left _ m) (a.kind x k m h), fun x o u m h => b.frz x o u (by rw [e]; exact List.mem_append_left _ m) (a.frz x o u m h)⟩
theorem Gr.get {n : Nat} {a : Addr} (g : Gr H μ H' μ') (h : μ[n]? = some a) : μ'[n]? = some a := by
  obtain ⟨r, e⟩ := g.pre
  rw [e, List.getElem?_append_left (List.getElem?_eq_some_iff.mp h).1]
  exact h
theorem TupAt.gr {a : Addr} {xs : List V} (g : Gr H μ H' μ') (h : TupAt Γ H μ a xs) : TupAt Γ H' μ' a xs := by
  rcases h with ⟨⟨o, hd, h⟩, n, m⟩ | h
  · exact .inl ⟨⟨o, hd, (g.keep _ _ h n).1⟩, (g.keep _ _ h n).2, m⟩
  · exact .inr h
theorem LstAt.gr {a : Addr} {xs : List V} (g : Gr H μ H' μ') (h : LstAt Γ H μ a xs) : LstAt Γ H' μ' a xs := by
  rcases h with ⟨h | ⟨o, h⟩, n, m⟩ | h
  · exact .inl ⟨.inl (g.keep _ _ h n).1, (g.keep _ _ h n).2, m⟩
  · exact .inl ⟨.inr ⟨o, (g.keep _ _ h n).1⟩, (g.keep _ _ h n).2, m⟩
  · exact .inr h
mutual
theorem Rp.gr (g : Gr H μ H' μ') : ∀ {v : V} {w : W}, Rp Γ H μ v w → Rp Γ H' μ' v w
  | _, _, .non => .non
  | _, _, .bl b => .bl b
  | _, _, .int i => .int i
  | _, _, .str x => .str x
  | _, _, .tup h l r => .tup (h.gr g) l (Rps.gr g r)
  | _, _, .cl h n m l r => .cl (g.keep _ _ h n).1 (g.keep _ _ h n).2 m l (Rps.gr g r)
  | _, _, .sc h r => .sc (h.gr g) (Rps.gr g r)
  | _, _, .lst h q => .lst (g.get h) (g.kind _ _ (List.mem_of_getElem? h) q)
  | _, _, .dct h q => .dct (g.get h) (g.kind _ _ (List.mem_of_getElem? h) q)
  | _, _, .dtt h q => .dtt (g.get h) (g.kind _ _ (List.mem_of_getElem? h) q)
  | _, _, .ins h q m => .ins (g.get h) (g.kind _ _ (List.mem_of_getElem? h) q) m
  | _, _, .exn m h n z hd nd zd l r => .exn m (g.keep _ _ h n).1 (g.keep _ _ h n).2 z (g.keep _ _ hd nd).1 (g.keep _ _ hd nd).2 zd l (Rps.gr g r)
  | _, _, .exn0 m h n z => .exn0 m (g.keep _ _ h n).1 (g.keep _ _ h n).2 z
  | _, _, .lam h n z r => .lam (g.keep _ _ h n).1 (g.keep _ _ h n).2 z (Rps.gr g r)
theorem Rps.gr (g : Gr H μ H' μ') : ∀ {vs : List V} {ws : List W}, Rps Γ H μ vs ws → Rps Γ H' μ' vs ws
  | _, _, .nil => .nil
  | _, _, .cons a b => .cons (Rp.gr g a) (Rps.gr g b)
end
theorem Rps.len : ∀ {vs : List V} {ws : List W}, Rps Γ H μ vs ws → vs.length = ws.length
  | _, _, .nil => rfl
  | _, _, .cons _ b => congrArg (· + 1) (Rps.len b)
theorem Rps.app : ∀ {vs us : List V} {ws zs : List W}, Rps Γ H μ vs ws → Rps Γ H μ us zs → Rps Γ H μ (vs ++ us) (ws ++ zs)
  | _, _, _, _, .nil, h => h
  | _, _, _, _, .cons a b, h => .cons a (Rps.app b h)
theorem Rps.get : ∀ {vs : List V} {ws : List W} {i : Nat} {v : V}, Rps Γ H μ vs ws → vs[i]? = some v → ∃ w, ws[i]? = some w ∧ Rp Γ H μ v w
  | _, _, _, _, .nil, h => by simp at h
  | _, _, 0, _, .cons a _, h => by simp at h; subst h; exact ⟨_, rfl, a⟩
  | _, _, i + 1, v, .cons _ b, h => by
    obtain ⟨w, e, r⟩ := Rps.get (i := i) (v := v) b (by simpa using h)
    exact ⟨w, by simpa using e, r⟩
theorem Rps.getW {vs : List V} {ws : List W} {i : Nat} {w : W} (r : Rps Γ H μ vs ws) (h : ws[i]? = some w) : ∃ v, vs[i]? = some v ∧ Rp Γ H μ v w := by
  have hi : i < vs.length := by rw [r.len]; exact (List.getElem?_eq_some_iff.mp h).1
  obtain ⟨w', e, q⟩ := r.get (List.getElem?_eq_getElem hi)
  rw [h] at e
  cases e
  exact ⟨_, List.getElem?_eq_getElem hi, q⟩
theorem Rps.take : ∀ {vs : List V} {ws : List W} (n : Nat), Rps Γ H μ vs ws → Rps Γ H μ (vs.take n) (ws.take n)
  | _, _, 0, _ => by simp; exact .nil
  | _, _, _ + 1, .nil => .nil
  | _, _, n + 1, .cons a b => .cons a (Rps.take n b)
theorem Rps.drop : ∀ {vs : List V} {ws : List W} (n : Nat), Rps Γ H μ vs ws → Rps Γ H μ (vs.drop n) (ws.drop n)
  | _, _, 0, h => h
  | _, _, _ + 1, .nil => .nil
  | _, _, n + 1, .cons _ b => Rps.drop n b
theorem Rps.rev : ∀ {vs : List V} {ws : List W}, Rps Γ H μ vs ws → Rps Γ H μ vs.reverse ws.reverse
  | _, _, .nil => .nil
  | _, _, .cons a b => by
    rw [List.reverse_cons, List.reverse_cons]
    exact (Rps.rev b).app (.cons a .nil)
theorem Rps.set : ∀ {vs : List V} {ws : List W} {v : V} {w : W} (n : Nat), Rps Γ H μ vs ws → Rp Γ H μ v w → Rps Γ H μ (vs.set n v) (ws.set n w)
  | _, _, _, _, _, .nil, _ => .nil
  | _, _, _, _, 0, .cons _ b, h => .cons h b
  | _, _, _, _, n + 1, .cons a b, h => .cons a (Rps.set n b h)
theorem Rps.erase : ∀ {vs : List V} {ws : List W} (n : Nat), Rps Γ H μ vs ws → Rps Γ H μ (vs.eraseIdx n) (ws.eraseIdx n)
  | _, _, _, .nil => .nil
  | _, _, 0, .cons _ b => b
  | _, _, n + 1, .cons a b => .cons a (Rps.erase n b)
/-! ### heaps that grow -/
theorem Ok.ne (k : Ok Γ H μ S) {p : Addr} (h : H p = none) : p ∉ μ := fun z => by
  obtain ⟨n, hn, e⟩ := List.getElem_of_mem z
  obtain ⟨_, _, _, _, _, q, _⟩ := k.at_ n p (by rw [List.getElem?_eq_getElem hn, e])
  rw [h] at q
  cases q
theorem Ok.nδ (k : Ok Γ H μ S) {p : Addr} (h : H p = none) : p ∉ Γ.δ := fun z => by
  obtain ⟨⟨o, e, _⟩, _⟩ := k.dl p z
  rw [h] at e
  cases e
theorem Gr.new {p : Addr} {o : HO} (h : H p = none) (n : p ∉ μ) : Gr H μ (upd H p o) μ := ⟨⟨[], by simp⟩, fun a u e na _ => ⟨by rw [upd_ne (ne_of_none e h)]; exact e, na⟩, fun a k _ ⟨u, e, q⟩ => ⟨u, by rw [upd_ne (ne_of_none e h)]; exact e, q⟩, fun a o u _ e => by rw [upd_ne (ne_of_none e h)]; exact e⟩
theorem Ok.new {p : Addr} {o : HO} (k : Ok Γ H μ S) (h : H p = none) : Ok Γ (upd H p o) μ S := ⟨k.len, k.nd, fun a ha => let ⟨⟨u, e, q⟩, n⟩ := k.dl a ha; ⟨⟨u, by rw [upd_ne (ne_of_none e h)]; exact e, q⟩, n⟩, fun n a e => by
  obtain ⟨o, ws, xs, us, e1, e2, en, l, r⟩ := k.at_ n a e
  exact ⟨o, ws, xs, us, e1, by rw [upd_ne (ne_of_none e2 h)]; exact e2, en, l, r.gr (Gr.new h (k.ne h))⟩, tabs_upd k.tb fun o e => by rw [h] at e; cases e⟩
/-- any growth that leaves the lists of the store alone -/
theorem Ok.same (k : Ok Γ H μ S) (s : Same H H') : Ok Γ H' μ S ∧ Gr H μ H' μ := by
  have g : Gr H μ H' μ := ⟨⟨[], by simp⟩, fun a o h n _ => ⟨s _ _ h, n⟩, fun a k _ ⟨u, e, q⟩ => ⟨u, s _ _ e, q⟩, fun a o u _ h => s _ _ h⟩
  exact ⟨⟨k.len, k.nd, fun a ha => let ⟨⟨u, e, q⟩, n⟩ := k.dl a ha; ⟨⟨u, s _ _ e, q⟩, n⟩, fun n a e => by
    obtain ⟨o, ws, xs, us, e1, e2, en, l, r⟩ := k.at_ n a e
    exact ⟨o, ws, xs, us, e1, s _ _ e2, en, l, r.gr g⟩, k.tb.ext s⟩, g⟩
theorem Ok.allocO {p : Addr} {o : HO} {xs : List V} {ws us : List W} (k : Ok Γ H μ S) (h : H p = none) (en : Ent p o ws xs us) (l : xs.length ≤ sizeLine) (r : Rps Γ H μ xs us) : Ok Γ (upd H p o) (μ ++ [p]) (S ++ [ws]) ∧ Gr H μ (upd H p o) (μ ++ [p]) := by
  have np := k.ne h
  have g : Gr H μ (upd H p o) (μ ++ [p]) := ⟨⟨[p], rfl⟩, fun a u e na _ => ⟨by rw [upd_ne (ne_of_none e h)]; exact e, by
    rw [List.mem_append, List.mem_singleton]
    rintro (z | z)
    · exact na z
    · exact ne_of_none e h z⟩, fun a k _ ⟨u, e, q⟩ => ⟨u, by rw [upd_ne (ne_of_none e h)]; exact e, q⟩, fun a o u _ e => by rw [upd_ne (ne_of_none e h)]; exact e⟩
  refine ⟨⟨by simp [k.len], ?_, fun a ha => ?_, fun n a e => ?_, tabs_upd k.tb fun o e => by rw [h] at e; cases e⟩, g⟩
  · rw [List.nodup_append]
    refine ⟨k.nd, by simp, fun a ha b hb => ?_⟩
    rw [List.mem_singleton] at hb
    subst hb
    exact fun z => np (z ▸ ha)
  · obtain ⟨⟨u, e, q⟩, n⟩ := k.dl a ha
    exact ⟨⟨u, (g.keep _ _ e n (nt_kd q)).1, q⟩, (g.keep _ _ e n (nt_kd q)).2⟩
  · by_cases hn : n < μ.length
    · rw [List.getElem?_append_left hn] at e
      obtain ⟨o2, ws2, ys, zs, e1, e2, en2, l2, r2⟩ := k.at_ n a e
      exact ⟨o2, ws2, ys, zs, by rw [List.getElem?_append_left (by rw [← k.len]; exact hn)]; exact e1, by rw [upd_ne (ne_of_none e2 h)]; exact e2, en2, l2, r2.gr g⟩
    · rw [List.getElem?_append_right (by omega)] at e
      have hn2 : n = μ.length := by
        have := (List.getElem?_eq_some_iff.mp e).1
        simp at this
        omega
      subst hn2
      simp at e
      subst e
      exact ⟨o, ws, xs, us, by rw [k.len, List.getElem?_append_right (Nat.le_refl _)]; simp, upd_same, en, l, r.gr g⟩
theorem Ok.alloc {p : Addr} {xs : List V} {ws : List W} (k : Ok Γ H μ S) (h : H p = none) (l : xs.length ≤ sizeLine) (r : Rps Γ H μ xs ws) : Ok Γ (upd H p (.lst xs)) (μ ++ [p]) (S ++ [ws]) ∧ Gr H μ (upd H p (.lst xs)) (μ ++ [p]) := k.allocO h (o := .lst xs) ⟨rfl, rfl⟩ l r
theorem Ok.setO {n : Nat} {a : Addr} {o : HO} {xs : List V} {ws us : List W} (k : Ok Γ H μ S) (e : μ[n]? = some a) (hk : Kd_ H a (kd o)) (hf : ∀ q u, H a ≠ some (.frz q u)) (en : Ent a o ws xs us) (l : xs.length ≤ sizeLine) (r : Rps Γ H μ xs us) : Ok Γ (upd H a o) μ (S.set n ws) ∧ Gr H μ (upd H a o) μ := by
  have ma : a ∈ μ := List.mem_of_getElem? e
  have g : Gr H μ (upd H a o) μ := ⟨⟨[], by simp⟩, fun b u q nb _ => ⟨by rw [upd_ne (show b ≠ a from fun z => nb (z ▸ ma))]; exact q, nb⟩, fun b k _ ⟨u, e2, q2⟩ => by
    by_cases hb : b = a
    · subst hb
      obtain ⟨u', e3, q3⟩ := hk
      rw [e2] at e3
      cases e3
      exact ⟨o, upd_same, q3.symm.trans q2⟩
    · exact ⟨u, by rw [upd_ne hb]; exact e2, q2⟩, fun b q u _ e2 => by rw [upd_ne (show b ≠ a from fun z => hf q u (z ▸ e2))]; exact e2⟩
  refine ⟨⟨by rw [List.length_set]; exact k.len, k.nd, fun b hb => let ⟨⟨u, e, q⟩, n⟩ := k.dl b hb; ⟨⟨u, (g.keep _ _ e n (nt_kd q)).1, q⟩, n⟩, fun m b q => ?_, tabs_upd k.tb fun o' e' => ?_⟩, g⟩
  by_cases hm : m = n
  · subst hm
    rw [e] at q
    cases q
    have hl : m < S.length := by rw [← k.len]; exact (List.getElem?_eq_some_iff.mp e).1
    exact ⟨o, ws, xs, us, by rw [List.getElem?_set_self hl], upd_same, en, l, r.gr g⟩
  · obtain ⟨o2, ws2, ys, zs, e1, e2, en2, l2, r2⟩ := k.at_ m b q
    have hb : b ≠ a := fun z => by
      subst z
      obtain ⟨i1, j1⟩ := List.getElem?_eq_some_iff.mp e
      obtain ⟨i2, j2⟩ := List.getElem?_eq_some_iff.mp q
      exact hm ((List.getElem_inj k.nd).mp (j2.trans j1.symm))
    exact ⟨o2, ws2, ys, zs, by rw [List.getElem?_set_ne (Ne.symm hm)]; exact e1, by rw [upd_ne hb]; exact e2, en2, l2, r2.gr g⟩
  · obtain ⟨o2, ws2, ys, zs, _, e2, en2, _⟩ := k.at_ n a e
    rw [e'] at e2
    cases e2
    exact en2.kd
theorem Ok.set {n : Nat} {a : Addr} {xs : List V} {ws : List W} (k : Ok Γ H μ S) (e : μ[n]? = some a) (q : Kd_ H a 0) (l : xs.length ≤ sizeLine) (r : Rps Γ H μ xs ws) : Ok Γ (upd H a (.lst xs)) μ (S.set n ws) ∧ Gr H μ (upd H a (.lst xs)) μ := k.setO e (o := .lst xs) q (fun ob u z => by
  obtain ⟨o, e1, q1⟩ := q
  rw [z] at e1
  cases e1
  exact kdf_ne0 u q1) ⟨rfl, rfl⟩ l r
theorem Ok.lat {n : Nat} {a : Addr} (k : Ok Γ H μ S) (e : μ[n]? = some a) (q : Kd_ H a 0) : ∃ (xs : List V) (ws : List W), S[n]? = some ws ∧ H a = some (.lst xs) ∧ xs.length ≤ sizeLine ∧ Rps Γ H μ xs ws := by
  obtain ⟨o, ws, xs, us, e1, e2, en, l, r⟩ := k.at_ n a e
  obtain ⟨o', e3, q⟩ := q
  rw [e2] at e3
  cases e3
  cases o <;> first | (cases q; done) | (rename_i φ; rcases kd_ext φ with z | z <;> (rw [z] at q; cases q)) | (exact absurd q (kdf_ne0 _)) | skip
  obtain ⟨rfl, rfl⟩ := en
  exact ⟨_, _, e1, e2, l, r⟩
/-- whether a dict stands as it is, or is being walked -/
def Lk (H : Hp) (a : Addr) (u : HO) (pre : List W) : Prop := (pre = [] ∧ H a = some u) ∨ (pre = [mkW] ∧ ∃ ob, H a = some (.frz ob u))
theorem Lk.rd {a : Addr} {u : HO} {pre : List W} (h : Lk H a u pre) : Rd H a u := h.elim (fun z => .inl z.2) fun z => .inr z.2
theorem Lk.nil {a : Addr} {u : HO} (h : Lk H a u []) : H a = some u := by
  rcases h with z | ⟨z, _⟩
  · exact z.2
  · cases z
theorem Ok.dat1 {n : Nat} {a : Addr} (k : Ok Γ H μ S) (e : μ[n]? = some a) (q : Kd_ H a 1) : ∃ (kvs : List (Key × V)) (us : List W) (pre : List W), S[n]? = some (pre ++ List.zipWith pairW (kvs.map fun p => kW p.1) us) ∧ Lk H a (.dK kvs) pre ∧ kvs.length ≤ sizeLine ∧ Rps Γ H μ (kvs.map (·.2)) us := by
  obtain ⟨o, ws, xs, us, e1, e2, en, l, r⟩ := k.at_ n a e
  obtain ⟨o', e3, q⟩ := q
  rw [e2] at e3
  cases e3
  cases o with
  | dK kvs =>
    obtain ⟨rfl, rfl⟩ := en
    exact ⟨_, _, [], e1, .inl ⟨rfl, e2⟩, by simpa using l, r⟩
  | frz ob u =>
    have q : kdf u = 1 := q
    obtain ⟨ws0, rfl, en⟩ := en
    cases u with
    | dK kvs =>
      obtain ⟨rfl, rfl⟩ := en
      exact ⟨_, _, [mkW], e1, .inr ⟨rfl, ob, e2⟩, by simpa using l, r⟩
    | ext φ => rcases kd_ext φ with z | z <;> (have z : kdf (.ext φ) = _ := z; rw [z] at q; cases q)
    | _ => cases q
  | ext φ => rcases kd_ext φ with z | z <;> (rw [z] at q; cases q)
  | _ => cases q
end
/-! ### a list that is still being made -/
theorem ne_mem {l : List Addr} {a D : Addr} (hD : D ∈ l) (m : a ∉ l) : a ≠ D := fun z => m (by rw [z]; exact hD)
section
variable {Γ : Gm} {H : Hp} {μ : List Addr} {S : Store} {D : Addr} {o : HO}
abbrev Gm.und (Γ : Gm) (D : Addr) : Gm := ⟨Γ.K, Γ.mg, D :: Γ.δ⟩
theorem kd_at {n k : Nat} {a : Addr} (hμ : D ∉ μ) (h : μ[n]? = some a) (q : Kd_ H a k) : Kd_ (upd H D o) a k := let ⟨u, e, z⟩ := q; ⟨u, by rw [upd_ne (show a ≠ D from fun y => hμ (y ▸ List.mem_of_getElem? h))]; exact e, z⟩
theorem kd_new {k : Nat} {a : Addr} (n : H D = none) (q : Kd_ H a k) : Kd_ (upd H D o) a k := let ⟨u, e, z⟩ := q; ⟨u, by rw [upd_ne (ne_of_none e n)]; exact e, z⟩
mutual
theorem Rp.at_ (hD : D ∈ Γ.δ) (hμ : D ∉ μ) : ∀ {v : V} {w : W}, Rp Γ H μ v w → Rp Γ (upd H D o) μ v w
  | _, _, .non => .non
  | _, _, .bl b => .bl b
  | _, _, .int i => .int i
  | _, _, .str x => .str x
  | _, _, .tup h l r => .tup (h.imp (fun ⟨⟨ob, hd, e⟩, n, m⟩ => ⟨⟨ob, hd, by rw [upd_ne (ne_mem hD m)]; exact e⟩, n, m⟩) id) l (Rps.at_ hD hμ r)
  | _, _, .cl h n m l r => .cl (by rw [upd_ne (ne_mem hD m)]; exact h) n m l (Rps.at_ hD hμ r)
  | _, _, .sc h r => .sc (h.imp (fun ⟨e, n, m⟩ => ⟨e.imp (fun e => by rw [upd_ne (ne_mem hD m)]; exact e) (fun ⟨ob, e⟩ => ⟨ob, by rw [upd_ne (ne_mem hD m)]; exact e⟩), n, m⟩) id) (Rps.at_ hD hμ r)
  | _, _, .lst h q => .lst h (kd_at hμ h q)
  | _, _, .dct h q => .dct h (kd_at hμ h q)
  | _, _, .dtt h q => .dtt h (kd_at hμ h q)
  | _, _, .ins h q m => .ins h (kd_at hμ h q) m
  | _, _, .exn m h n z hd nd zd l r => .exn m (by rw [upd_ne (ne_mem hD z)]; exact h) n z (by rw [upd_ne (ne_mem hD zd)]; exact hd) nd zd l (Rps.at_ hD hμ r)
  | _, _, .exn0 m h n z => .exn0 m (by rw [upd_ne (ne_mem hD z)]; exact h) n z
  | _, _, .lam h n z r => .lam (by rw [upd_ne (ne_mem hD z)]; exact h) n z (Rps.at_ hD hμ r)
theorem Rps.at_ (hD : D ∈ Γ.δ) (hμ : D ∉ μ) : ∀ {vs : List V} {ws : List W}, Rps Γ H μ vs ws → Rps Γ (upd H D o) μ vs ws
  | _, _, .nil => .nil
  | _, _, .cons a b => .cons (Rp.at_ hD hμ a) (Rps.at_ hD hμ b)
end
mutual
theorem Rp.out : ∀ {v : V} {w : W}, Rp (Γ.und D) H μ v w → Rp Γ H μ v w
  | _, _, .non => .non
  | _, _, .bl b => .bl b
  | _, _, .int i => .int i
  | _, _, .str x => .str x
  | _, _, .tup h l r => .tup (h.imp (fun ⟨e, n, m⟩ => ⟨e, n, fun z => m (List.mem_cons_of_mem _ z)⟩) id) l (Rps.out r)
  | _, _, .cl h n m l r => .cl h n (fun z => m (List.mem_cons_of_mem _ z)) l (Rps.out r)
  | _, _, .sc h r => .sc (h.imp (fun ⟨e, n, m⟩ => ⟨e, n, fun z => m (List.mem_cons_of_mem _ z)⟩) id) (Rps.out r)
  | _, _, .lst h q => .lst h q
  | _, _, .dct h q => .dct h q
  | _, _, .dtt h q => .dtt h q
  | _, _, .ins h q m => .ins h q m
  | _, _, .exn m h n z hd nd zd l r => .exn m h n (fun y => z (List.mem_cons_of_mem _ y)) hd nd (fun y => zd (List.mem_cons_of_mem _ y)) l (Rps.out r)
  | _, _, .exn0 m h n z => .exn0 m h n (fun y => z (List.mem_cons_of_mem _ y))
  | _, _, .lam h n z r => .lam h n (fun y => z (List.mem_cons_of_mem _ y)) (Rps.out r)
theorem Rps.out : ∀ {vs : List V} {ws : List W}, Rps (Γ.und D) H μ vs ws → Rps Γ H μ vs ws
  | _, _, .nil => .nil
  | _, _, .cons a b => .cons (Rp.out a) (Rps.out b)
end
mutual
theorem Rp.into (n : H D = none) : ∀ {v : V} {w : W}, Rp Γ H μ v w → Rp (Γ.und D) (upd H D o) μ v w
  | _, _, .non => .non
  | _, _, .bl b => .bl b
  | _, _, .int i => .int i
  | _, _, .str x => .str x
  | _, _, .tup h l r => .tup (h.imp (fun ⟨⟨ob, hd, e⟩, k, m⟩ => ⟨⟨ob, hd, by rw [upd_ne (ne_of_none e n)]; exact e⟩, k, fun z => (List.mem_cons.mp z).elim (ne_of_none e n) m⟩) id) l (Rps.into n r)
  | _, _, .cl h k m l r => .cl (by rw [upd_ne (ne_of_none h n)]; exact h) k (fun z => (List.mem_cons.mp z).elim (ne_of_none h n) m) l (Rps.into n r)
  | _, _, .sc h r => .sc (h.imp (fun ⟨e, k, m⟩ => by
      rcases e with e | ⟨ob, e⟩
      · exact ⟨.inl (by rw [upd_ne (ne_of_none e n)]; exact e), k, fun z => (List.mem_cons.mp z).elim (ne_of_none e n) m⟩
      · exact ⟨.inr ⟨ob, by rw [upd_ne (ne_of_none e n)]; exact e⟩, k, fun z => (List.mem_cons.mp z).elim (ne_of_none e n) m⟩) id) (Rps.into n r)
  | _, _, .lst h q => .lst h (kd_new n q)
  | _, _, .dct h q => .dct h (kd_new n q)
  | _, _, .dtt h q => .dtt h (kd_new n q)
  | _, _, .ins h q m => .ins h (kd_new n q) m
  | _, _, .exn m h k z hd nd zd l r => .exn m (by rw [upd_ne (ne_of_none h n)]; exact h) k (fun y => (List.mem_cons.mp y).elim (ne_of_none h n) z) (by rw [upd_ne (ne_of_none hd n)]; exact hd) nd (fun y => (List.mem_cons.mp y).elim (ne_of_none hd n) zd) l (Rps.into n r)
  | _, _, .exn0 m h k z => .exn0 m (by rw [upd_ne (ne_of_none h n)]; exact h) k (fun y => (List.mem_cons.mp y).elim (ne_of_none h n) z)
  | _, _, .lam h k z r => .lam (by rw [upd_ne (ne_of_none h n)]; exact h) k (fun y => (List.mem_cons.mp y).elim (ne_of_none h n) z) (Rps.into n r)
theorem Rps.into (n : H D = none) : ∀ {vs : List V} {ws : List W}, Rps Γ H μ vs ws → Rps (Γ.und D) (upd H D o) μ vs ws
  | _, _, .nil => .nil
  | _, _, .cons a b => .cons (Rp.into n a) (Rps.into n b)
end
theorem Ok.at_D (hD : D ∈ Γ.δ) (k : Ok Γ H μ S) (ho : kd o ≠ 3 := by exact fun z => nomatch z) : Ok Γ (upd H D o) μ S := ⟨k.len, k.nd, fun a ha => ⟨by
    by_cases e : a = D
    · exact ⟨o, by rw [e, upd_same], ho⟩
    · obtain ⟨⟨u, q, q2⟩, _⟩ := k.dl a ha
      exact ⟨u, by rw [upd_ne e]; exact q, q2⟩, (k.dl a ha).2⟩, fun n a e => by
  obtain ⟨u, ws, xs, us, e1, e2, en, l, r⟩ := k.at_ n a e
  exact ⟨u, ws, xs, us, e1, by rw [upd_ne (Ne.symm (ne_mem (List.mem_of_getElem? e) (k.dl D hD).2))]; exact e2, en, l, r.at_ hD (k.dl D hD).2⟩, tabs_upd k.tb fun o' e' => by
  obtain ⟨⟨u, q, q2⟩, _⟩ := k.dl D hD
  rw [e'] at q
  cases q
  exact q2⟩
theorem Ok.into (n : H D = none) (k : Ok Γ H μ S) (ho : kd o ≠ 3 := by exact fun z => nomatch z) : Ok (Γ.und D) (upd H D o) μ S := ⟨k.len, k.nd, fun a ha => by
    rcases List.mem_cons.mp ha with e | e
    · subst e
      exact ⟨⟨o, upd_same, ho⟩, k.ne n⟩
    · obtain ⟨⟨u, q, q2⟩, z⟩ := k.dl a e
      exact ⟨⟨u, by rw [upd_ne (ne_of_none q n)]; exact q, q2⟩, z⟩, fun m a e => by
  obtain ⟨u, ws, xs, us, e1, e2, en, l, r⟩ := k.at_ m a e
  exact ⟨u, ws, xs, us, e1, by rw [upd_ne (ne_of_none e2 n)]; exact e2, en, l, r.into n⟩, tabs_upd k.tb fun o' e' => by rw [n] at e'; cases e'⟩
theorem Ok.out (k : Ok (Γ.und D) H μ S) : Ok Γ H μ S := ⟨k.len, k.nd, fun a ha => k.dl a (List.mem_cons_of_mem _ ha), fun m a e => by
  obtain ⟨u, ws, xs, us, e1, e2, en, l, r⟩ := k.at_ m a e
  exact ⟨u, ws, xs, us, e1, e2, en, l, r.out⟩, k.tb⟩
end
/-! ### slots -/
def Rσ (Γ : Gm) (H : Hp) (μ : List Addr) (σ : L2.St) (ρ : En) : Prop := σ.length = ρ.length ∧ ∀ (i : Nat) (w : W), ρ[i]? = some (some w) → ∃ v, σ[i]? = some (some v) ∧ Rp Γ H μ v w
section
variable {Γ : Gm} {H H' H'' : Hp} {μ μ' μ'' : List Addr} {S S' : Store} {σ : L2.St} {ρ : En}
theorem rσ_gr (g : Gr H μ H' μ') (h : Rσ Γ H μ σ ρ) : Rσ Γ H' μ' σ ρ := ⟨h.1, fun i w e => let ⟨v, e1, r⟩ := h.2 i w e; ⟨v, e1, r.gr g⟩⟩
theorem rσ_set {i : Nat} {v : V} {w : W} (h : Rσ Γ H μ σ ρ) (r : Rp Γ H μ v w) : Rσ Γ H μ (σ.set i (some v)) (ρ.set i (some w)) := ⟨by rw [List.length_set, List.length_set]; exact h.1, fun j x e => by
  by_cases hj : i = j
  · subst hj
    by_cases hi : i < ρ.length
    · rw [List.getElem?_set_self hi] at e
      cases e
      exact ⟨v, by rw [List.getElem?_set_self (by rw [h.1]; exact hi)], r⟩
    · rw [List.getElem?_eq_none (by rw [List.length_set]; omega)] at e
      cases e
  · rw [List.getElem?_set_ne hj] at e ⊢
    exact h.2 j x e⟩
theorem rσ_wipe {vs : List Nat} (h : Rσ Γ H μ σ ρ) (hn : ∀ i ∈ vs, ∀ w, ρ[i]? ≠ some (some w)) : Rσ Γ H μ (wipe σ vs) ρ := ⟨by rw [wipe_length]; exact h.1, fun i w e => by
  obtain ⟨v, e1, r⟩ := h.2 i w e
  refine ⟨v, ?_, r⟩
  have hi : i ∉ vs := fun z => hn i z w e
  clear hn
  induction vs with
  | nil => exact e1
  | cons x xs ih =>
    unfold wipe
    rw [List.getElem?_set_ne (fun z => hi (by simp [z]))]
    exact ih (fun z => hi (by simp [z]))⟩
/-- the slots of a comprehension's own names forgotten -/
def wipeW (ρ : En) : List Nat → En
  | [] => ρ
  | v :: vs => (wipeW ρ vs).set v none
theorem wipeW_some {ρ : En} {i : Nat} {x : W} : ∀ {vs : List Nat}, (wipeW ρ vs)[i]? = some (some x) → ρ[i]? = some (some x) ∧ i ∉ vs
  | [], h => ⟨h, by simp⟩
  | v :: vs, h => by
    unfold wipeW at h
    by_cases hi : v = i
    · subst hi
      by_cases hv : v < (wipeW ρ vs).length
      · rw [List.getElem?_set_self hv] at h; cases h
      · rw [List.getElem?_eq_none (by simpa using hv)] at h; cases h
    · rw [List.getElem?_set_ne hi] at h
      obtain ⟨h1, h2⟩ := wipeW_some h
      exact ⟨h1, by simp only [List.mem_cons, not_or]; exact ⟨fun e => hi e.symm, h2⟩⟩
theorem wipeW_len : ∀ vs : List Nat, (wipeW ρ vs).length = ρ.length
  | [] => rfl
  | v :: vs => by unfold wipeW; rw [List.length_set, wipeW_len vs]
theorem rσ_wipeW {vs : List Nat} (h : Rσ Γ H μ σ ρ) : Rσ Γ H μ (wipe σ vs) (wipeW ρ vs) := by
  have h2 : Rσ Γ H μ σ (wipeW ρ vs) := ⟨by rw [wipeW_len]; exact h.1, fun i w e => h.2 i w (wipeW_some e).1⟩
  exact rσ_wipe h2 fun i hi w e => (wipeW_some e).2 hi
end
end Den

namespace Den
open PySem PySem.Spec PyProof.Rows L2 Bal
/-! ### what is wanted behind a computation -/
def RpX (Γ : Gm) (H : Hp) (μ : List Addr) (cls : Value) (d : Option Addr) (c f : Str) (ws : List W) : Prop :=
  ∃ C, Γ.mg c = some (.ref C) ∧ cls = .ref C ∧ ((d = none ∧ ws = []) ∨ ∃ dd xs, d = some dd ∧ H dd = some (.xd (xs.map fun x => (f, x))) ∧ dd ∉ μ ∧ dd ∉ Γ.δ ∧ xs.length ≤ 1 ∧ Rps Γ H μ xs ws)
theorem RpX.gr {Γ : Gm} {H H' : Hp} {μ μ' : List Addr} {cls : Value} {d : Option Addr} {c f : Str} {ws : List W} (g : Gr H μ H' μ') (h : RpX Γ H μ cls d c f ws) : RpX Γ H' μ' cls d c f ws := by
  obtain ⟨C, e, e1, h | ⟨dd, xs, e2, hd, n, nn, l, r⟩⟩ := h
  · exact ⟨C, e, e1, .inl h⟩
  · exact ⟨C, e, e1, .inr ⟨dd, xs, e2, (g.keep _ _ hd n).1, (g.keep _ _ hd n).2, nn, l, r.gr g⟩⟩
def Res {α : Type} (Γ : Gm) (E : XK) (H : Hp) (μ : List Addr) (o : Out α) (q : α → Hp → List Addr → Store → Prop) : Prop := match o with
  | .ok a S' => ∀ H' μ', Gr H μ H' μ' → Ok Γ H' μ' S' → q a H' μ' S'
  | .err c f ws S' => ∀ H' μ', Gr H μ H' μ' → Ok Γ H' μ' S' → ∀ cls d, RpX Γ H' μ' cls d c f ws → E cls d H'
  | .bad => False
section
variable {α β : Type} {Γ : Gm} {E : XK} {H H' : Hp} {μ μ' : List Addr} {S S' : Store}
theorem Res.gr {o : Out α} {q : α → Hp → List Addr → Store → Prop} (g : Gr H μ H' μ') (h : Res Γ E H μ o q) : Res Γ E H' μ' o q := by
  cases o with
  | ok a S' => exact fun H2 μ2 g2 k => h H2 μ2 (g.trans g2) k
  | err c f ws S' => exact fun H2 μ2 g2 k => h H2 μ2 (g.trans g2) k
  | bad => exact h
theorem Res.step {m : Mo α} {f : α → Mo β} {q : β → Hp → List Addr → Store → Prop} {q' : α → Hp → List Addr → Store → Prop} (h : Res Γ E H μ (bnd m f S) q)
    (n : ∀ a S' H' μ', Gr H μ H' μ' → Ok Γ H' μ' S' → Res Γ E H' μ' (f a S') q → q' a H' μ' S') : Res Γ E H μ (m S) q' := by
  unfold bnd at h
  cases e : m S with
  | ok a S' =>
    rw [e] at h
    exact fun H' μ' g k => n a S' H' μ' g k (Res.gr g h)
  | err c g ws S' =>
    rw [e] at h
    exact h
  | bad =>
    rw [e] at h
    exact h
theorem Res.now {a : α} {q : α → Hp → List Addr → Store → Prop} (k : Ok Γ H μ S) (h : Res Γ E H μ (.ok a S) q) : q a H μ S := h H μ Gr.refl k
end
abbrev DE := En → Mo W
abbrev DT := En → Mo Bool
abbrev DA := En → Mo (List W)
def tOf (K : PySem.W.Frag) (mg : Str → Option Value) (E : L2.St → XK) (d : DE) : TE := fun σ H Q => ∃ δ μ S ρ, Ok ⟨K, mg, δ⟩ H μ S ∧ Rσ ⟨K, mg, δ⟩ H μ σ ρ ∧ Res ⟨K, mg, δ⟩ (E σ) H μ (d ρ S) fun w H' μ' _ => ∀ v, Rp ⟨K, mg, δ⟩ H' μ' v w → Q v H'
def ttOf (K : PySem.W.Frag) (mg : Str → Option Value) (E : L2.St → XK) (d : DT) : TT := fun σ H Q => ∃ δ μ S ρ, Ok ⟨K, mg, δ⟩ H μ S ∧ Rσ ⟨K, mg, δ⟩ H μ σ ρ ∧ Res ⟨K, mg, δ⟩ (E σ) H μ (d ρ S) fun b H' _ _ => Q b H'
def taOf (K : PySem.W.Frag) (mg : Str → Option Value) (E : L2.St → XK) (d : DA) : TA := fun σ H Q => ∃ δ μ S ρ, Ok ⟨K, mg, δ⟩ H μ S ∧ Rσ ⟨K, mg, δ⟩ H μ σ ρ ∧ Res ⟨K, mg, δ⟩ (E σ) H μ (d ρ S) fun ws H' μ' _ => ∀ vs, Rps ⟨K, mg, δ⟩ H' μ' vs ws → Q vs H'
abbrev PD (X : Cx) (E : L2.St → XK) (e : Expr) (d : DE) : Prop := PE X e (tOf X.K X.mg E d)
abbrev PDT (X : Cx) (E : L2.St → XK) (e : Expr) (d : DT) : Prop := PT X e (ttOf X.K X.mg E d)
abbrev PDA (X : Cx) (E : L2.St → XK) (es : List Expr) (d : DA) : Prop := PA X es (taOf X.K X.mg E d)
theorem pt_of {X : Cx} {e : Expr} {t t' : TT} (h : PT X e t) (f : ∀ σ H Q, t' σ H Q → t σ H Q) : PT X e t' := ⟨fun pins s σ H Q I q => h.run pins s σ H Q I (f σ H Q q)⟩
theorem pw_of {X : Cx} {e : Expr} {t t' : TT} (h : PW X e t) (f : ∀ σ H Q, t' σ H Q → t σ H Q) : PW X e t' := ⟨fun wh pins s σ H Q I q => h.run wh pins s σ H Q I (f σ H Q q)⟩
section
variable {X : Cx} {E : L2.St → XK} {a b c : Expr} {pos : Pos}
/-! ### names, constants -/
def dVar (i : Nat) : DE := fun ρ S => match ρ[i]? with
  | some (some w) => .ok w S
  | _ => .bad
def dC (w : W) : DE := fun _ S => .ok w S
theorem de_var (i : Nat) {x : Str} {pos : Pos} (hN : X.N[i]? = some x := by rfl) (hv : Vis X.env.scope x := by first | exact Or.inl rfl | exact Or.inr (Or.inl rfl) | exact Or.inr (Or.inr rfl)) (hd : (x == ("__debug__" : Str)) = false := by decide)
    (hcd : (x == ("__classdict__" : Str)) = false := by decide) : PD X E (.Name x pos) (dVar i) := pe_of (pv i hN hv hd hcd) fun σ H Q ⟨δ, μ, S, ρ, k, s, h⟩ => by
  unfold dVar at h
  cases e : ρ[i]? with
  | none => rw [e] at h; exact h.elim
  | some o =>
    rw [e] at h
    cases o with
    | none => exact h.elim
    | some w =>
      obtain ⟨v, e1, r⟩ := s.2 i w e
      exact ⟨v, e1, Res.now k h v r⟩
theorem de_int {i j} : PD X E (.Constant (.int i) j pos) (dC (.int i)) := pe_of pe_int fun σ H Q ⟨δ, μ, S, ρ, k, s, h⟩ => Res.now k h _ (.int i)
theorem de_bl {b j} : PD X E (.Constant (.bool b) j pos) (dC (.bl b)) := pe_of pe_bl fun σ H Q ⟨δ, μ, S, ρ, k, s, h⟩ => Res.now k h _ (.bl b)
theorem de_non {j} : PD X E (.Constant .none j pos) (dC .non) := pe_of pe_non fun σ H Q ⟨δ, μ, S, ρ, k, s, h⟩ => Res.now k h _ .non
theorem de_str {x j} : PD X E (.Constant (.str x) j pos) (dC (.str x)) := pe_of pe_str fun σ H Q ⟨δ, μ, S, ρ, k, s, h⟩ => Res.now k h _ (.str x)
theorem de_glob {x : Str} {v : V} {w : W} {u : Value} (hg : Gl X x) (hm : X.mg x = some u) (r : RelV v u) (rp : ∀ δ H μ, Rp ⟨X.K, X.mg, δ⟩ H μ v w) (hd : (x == ("__debug__" : Str)) = false := by decide) : PD X E (.Name x pos) (dC w) := pe_of (pe_glob hg hm r hd) fun σ H Q ⟨δ, μ, S, ρ, k, s, h⟩ => Res.now k h _ (rp δ H μ)
/-! ### operations that read -/
def rdS (g : Store → Option W) : Mo W := fun S => match g S with
  | some w => .ok w S
  | none => .bad
/-- what a two-place operation tells, by values -/
def Op2 (K : PySem.W.Frag) (mg : Str → Option Value) (r : R2) (f : Store → W → W → Option W) : Prop := ∀ {δ : List Addr} {H : Hp} {μ : List Addr} {S : Store} {v u : V} {x y w : W} {Q : VK}, Ok ⟨K, mg, δ⟩ H μ S → Rp ⟨K, mg, δ⟩ H μ v x → Rp ⟨K, mg, δ⟩ H μ u y → f S x y = some w →
  (∀ z H', Gr H μ H' μ → Ok ⟨K, mg, δ⟩ H' μ S → Rp ⟨K, mg, δ⟩ H' μ z w → Q z H') → r v u H Q
def Op1 (K : PySem.W.Frag) (mg : Str → Option Value) (r : V → Hp → VK → Prop) (f : Store → W → Option W) : Prop := ∀ {δ : List Addr} {H : Hp} {μ : List Addr} {S : Store} {v : V} {x w : W} {Q : VK}, Ok ⟨K, mg, δ⟩ H μ S → Rp ⟨K, mg, δ⟩ H μ v x → f S x = some w →
  (∀ z H', Gr H μ H' μ → Ok ⟨K, mg, δ⟩ H' μ S → Rp ⟨K, mg, δ⟩ H' μ z w → Q z H') → r v H Q
def OpN (K : PySem.W.Frag) (mg : Str → Option Value) (r : List V → Hp → VK → Prop) (f : Store → List W → Option W) : Prop := ∀ {δ : List Addr} {H : Hp} {μ : List Addr} {S : Store} {vs : List V} {xs : List W} {w : W} {Q : VK}, Ok ⟨K, mg, δ⟩ H μ S → Rps ⟨K, mg, δ⟩ H μ vs xs → f S xs = some w →
  (∀ z H', Gr H μ H' μ → Ok ⟨K, mg, δ⟩ H' μ S → Rp ⟨K, mg, δ⟩ H' μ z w → Q z H') → r vs H Q
theorem rd_ok {Γ : Gm} {E : XK} {H : Hp} {μ : List Addr} {S : Store} {g : Store → Option W} {Q : VK} (h : Res Γ E H μ (rdS g S) fun w H' μ' _ => ∀ v, Rp Γ H' μ' v w → Q v H') :
    ∃ w, g S = some w ∧ ∀ z H', Gr H μ H' μ → Ok Γ H' μ S → Rp Γ H' μ z w → Q z H' := by
  unfold rdS at h
  cases e : g S with
  | none => rw [e] at h; exact h.elim
  | some w => rw [e] at h; exact ⟨w, rfl, fun z H' gr k r => h H' μ gr k z r⟩
def dBin (f : Store → W → W → Option W) (da db : DE) : DE := fun ρ => bnd (da ρ) fun x => bnd (db ρ) fun y => rdS fun S => f S x y
def dUn (f : Store → W → Option W) (da : DE) : DE := fun ρ => bnd (da ρ) fun x => rdS fun S => f S x
theorem bin_ok {K : PySem.W.Frag} {mg : Str → Option Value} {r : R2} {f : Store → W → W → Option W} (hf : Op2 K mg r f) {da db : DE} {σ : L2.St} {H : Hp} {Q : VK} (h : tOf K mg E (dBin f da db) σ H Q) : tOp r (tOf K mg E da) (tOf K mg E db) σ H Q := by
  obtain ⟨δ, μ, S, ρ, k, s, h⟩ := h
  refine ⟨δ, μ, S, ρ, k, s, Res.step h fun x S1 H1 μ1 g1 k1 h1 v rv => ⟨δ, μ1, S1, ρ, k1, rσ_gr g1 s, Res.step h1 fun y S2 H2 μ2 g2 k2 h2 u ru => ?_⟩⟩
  obtain ⟨w, e, q⟩ := rd_ok h2
  exact hf k2 (rv.gr g2) ru e q
variable {da db dc : DE}
theorem de_bin {op : Operator} {r : R2} {f : Store → W → W → Option W} (ho : OpR X (binaryOp op) r) (hf : Op2 X.K X.mg r f) (ha : PD X E a da) (hb : PD X E b db) : PD X E (.BinOp a op b pos) (dBin f da db) := pe_of (pe_op ho ha hb) fun _ _ _ h => bin_ok hf h
theorem de_cmp {op : CmpOp} {r : R2} {f : Store → W → W → Option W} (ho : OpR X (compareOp op) r) (hf : Op2 X.K X.mg r f) (ha : PD X E a da) (hb : PD X E b db) (hm : behindInMarks op b = false := by first | exact nomark _ | rfl) : PD X E (.Compare a [op] [b] pos) (dBin f da db) := pe_of (pe_cmpR ho ha hb hm) fun _ _ _ h => bin_ok hf h
theorem de_ix {r : R2} {f : Store → W → W → Option W} (ho : IxR X r) (hf : Op2 X.K X.mg r f) (ha : PD X E a da) (hb : PD X E b db) (hs : PlainIx b := by exact fun _ _ => rfl) : PD X E (.Subscript a b pos) (dBin f da db) := pe_of (pe_ix ho ha hb hs) fun _ _ _ h => bin_ok hf h
theorem de_un {op : UnaryOp} {r : V → Hp → VK → Prop} {f : Store → W → Option W} (ho : UnR X (unaryOp op) r) (hf : Op1 X.K X.mg r f) (ha : PD X E a da) : PD X E (.UnaryOp op a pos) (dUn f da) := pe_of (pe_un ho ha) fun σ H Q ⟨δ, μ, S, ρ, k, s, h⟩ =>
  ⟨δ, μ, S, ρ, k, s, Res.step h fun x S1 H1 μ1 g1 k1 h1 v rv => let ⟨w, e, q⟩ := rd_ok h1; hf k1 rv e q⟩
/-! ### tests -/
def toB : W → Mo Bool
  | .bl b => ret b
  | _ => bad
def dTst (d : DE) : DT := fun ρ => bnd (d ρ) toB
theorem tst_ok {K : PySem.W.Frag} {mg : Str → Option Value} {d : DE} {σ : L2.St} {H : Hp} {Q : Bool → Hp → Prop} (h : ttOf K mg E (dTst d) σ H Q) : tOf K mg E d σ H fun x H1 => ∃ c, x = .bl c ∧ Q c H1 := by
  obtain ⟨δ, μ, S, ρ, k, s, h⟩ := h
  refine ⟨δ, μ, S, ρ, k, s, Res.step h fun w S1 H1 μ1 g1 k1 h1 v rv => ?_⟩
  cases rv <;> first | exact h1.elim | exact ⟨_, rfl, Res.now k1 h1⟩
/-- an expression as a test -/
theorem dt_val {e : Expr} {d : DE} (h : PD X E e d) (he : ∀ whole, isTrue e X.env whole = (do let v ← whole; standAt e.pos; holding [v] (truthy v)) := by intro _; rfl) : PDT X E e (dTst d) := pt_of (pt_val h he) fun _ _ _ h => tst_ok h
theorem dt_cmp {op : CmpOp} {r : R2} {f : Store → W → W → Option W} (ho : OpR X (compareOp op) r) (hf : Op2 X.K X.mg r f) (ha : PD X E a da) (hb : PD X E b db) (hm : behindInMarks op b = false := by first | exact nomark _ | rfl) : PDT X E (.Compare a [op] [b] pos) (dTst (dBin f da db)) :=
  pt_of (pt_cmpR ho ha hb hm) fun _ _ _ h => bin_ok hf (tst_ok h)
def dNotT (d : DT) : DT := fun ρ => bnd (d ρ) fun b => ret (!b)
theorem dt_not {d : DT} (h : PDT X E a d) : PDT X E (.UnaryOp .Not a pos) (dNotT d) := pt_of (pt_not h) fun σ H Q ⟨δ, μ, S, ρ, k, s, h⟩ => ⟨δ, μ, S, ρ, k, s, Res.step h fun w S1 H1 μ1 g1 k1 h1 => Res.now k1 h1⟩
def dOrT (d e : DT) : DT := fun ρ => bnd (d ρ) fun b => if b = true then ret true else e ρ
variable {rest : List Expr} {tA tB : DT}
abbrev PDW (X : Cx) (E : L2.St → XK) (e : Expr) (d : DT) : Prop := PW X e (ttOf X.K X.mg E d)
theorem dw_or1 (ha : PDT X E a tA) : PDW X E (.BoolOp .Or [a] pos) tA := pw_or1 ha
theorem dw_or (ha : PDT X E a tA) (hb : PDW X E (.BoolOp .Or (b :: rest) pos) tB) : PDW X E (.BoolOp .Or (a :: b :: rest) pos) (dOrT tA tB) := pw_of (pw_or ha hb) fun σ H Q ⟨δ, μ, S, ρ, k, s, h⟩ =>
  ⟨δ, μ, S, ρ, k, s, Res.step h fun w S1 H1 μ1 g1 k1 h1 => by
    cases w with
    | true => rw [if_pos rfl] at h1 ⊢; exact Res.now k1 h1
    | false => rw [if_neg (by decide)] at h1 ⊢; exact ⟨δ, μ1, S1, ρ, k1, rσ_gr g1 s, h1⟩⟩
/-- .. as values -/
def dAnd (d e : DE) : DE := fun ρ => bnd (dTst d ρ) fun b => if b = true then e ρ else ret (.bl false)
theorem tst_step {β : Type} {Γ : Gm} {E : XK} {d : DE} {ρ : En} {S : Store} {H : Hp} {μ : List Addr} {f : Bool → Mo β} {q : β → Hp → List Addr → Store → Prop} {q' : W → Hp → List Addr → Store → Prop} (h : Res Γ E H μ (bnd (dTst d ρ) f S) q)
    (n : ∀ b S' H' μ', Gr H μ H' μ' → Ok Γ H' μ' S' → Res Γ E H' μ' (f b S') q → q' (.bl b) H' μ' S') : Res Γ E H μ (d ρ S) q' := by
  refine Res.step (Res.step h (q' := fun b H' μ' S' => q' (.bl b) H' μ' S') fun b S1 H1 μ1 g1 k1 h1 => n b S1 H1 μ1 g1 k1 h1) fun w S1 H1 μ1 g1 k1 h1 => ?_
  cases w <;> first | exact h1.elim | exact h1 H1 μ1 Gr.refl k1
theorem de_one {op} {d : DE} (h : PD X E a d) : PD X E (.BoolOp op [a] pos) d := pe_one h
theorem de_and (ha : PD X E a da) (hb : PD X E (.BoolOp .And (b :: rest) pos) db) : PD X E (.BoolOp .And (a :: b :: rest) pos) (dAnd da db) := pe_of (pe_and ha hb) fun σ H Q ⟨δ, μ, S, ρ, k, s, h⟩ =>
  ⟨δ, μ, S, ρ, k, s, tst_step h fun w S1 H1 μ1 g1 k1 h1 v rv => by
    cases rv
    refine ⟨w, rfl, ?_⟩
    cases w with
    | true => rw [if_pos rfl] at h1 ⊢; exact ⟨δ, μ1, S1, ρ, k1, rσ_gr g1 s, h1⟩
    | false => rw [if_neg (by decide)] at h1 ⊢; exact Res.now k1 h1 _ (.bl false)⟩
def dIf (t : DT) (d e : DE) : DE := fun ρ => bnd (t ρ) fun b => if b = true then d ρ else e ρ
theorem de_if {t : DT} (hc : PDT X E c t) (ha : PD X E a da) (hb : PD X E b db) : PD X E (.IfExp c a b pos) (dIf t da db) := pe_of (pe_ifExp hc ha hb) fun σ H Q ⟨δ, μ, S, ρ, k, s, h⟩ =>
  ⟨δ, μ, S, ρ, k, s, Res.step h fun w S1 H1 μ1 g1 k1 h1 => by
    cases w with
    | true => rw [if_pos rfl] at h1 ⊢; exact ⟨δ, μ1, S1, ρ, k1, rσ_gr g1 s, h1⟩
    | false => rw [if_neg (by decide)] at h1 ⊢; exact ⟨δ, μ1, S1, ρ, k1, rσ_gr g1 s, h1⟩⟩
/-! ### chains -/
def dChain (f g : Store → W → W → Option W) (da db dc : DE) : DE := fun ρ => bnd (da ρ) fun x => bnd (db ρ) fun y => bnd (bnd (rdS fun S => f S x y) toB) fun b => if b = true then bnd (dc ρ) fun z => rdS fun S => g S y z else ret (.bl false)
theorem chain_ok {K : PySem.W.Frag} {mg : Str → Option Value} {r r' : R2} {f g : Store → W → W → Option W} (hf : Op2 K mg r f) (hg : Op2 K mg r' g) {da db dc : DE} {σ : L2.St} {H : Hp} {Q : VK} (h : tOf K mg E (dChain f g da db dc) σ H Q) : tChain r r' (tOf K mg E da) (tOf K mg E db) (tOf K mg E dc) σ H Q := by
  obtain ⟨δ, μ, S, ρ, k, s, h⟩ := h
  refine ⟨δ, μ, S, ρ, k, s, Res.step h fun x S1 H1 μ1 g1 k1 h1 v rv => ⟨δ, μ1, S1, ρ, k1, rσ_gr g1 s, Res.step h1 fun y S2 H2 μ2 g2 k2 h2 u ru => ?_⟩⟩
  have h3 : Res ⟨K, mg, δ⟩ (E σ) H2 μ2 ((rdS fun S => f S x y) S2) fun w H' μ' S' => ∀ z, Rp ⟨K, mg, δ⟩ H' μ' z w → ∃ c, z = .bl c ∧ (if c = true then tOf K mg E dc σ H' (fun w' H4 => r' u w' H4 Q) else Q (.bl false) H') := by
    refine Res.step (Res.step h2 (q' := fun b H' μ' S' => (if b = true then tOf K mg E dc σ H' (fun w' H4 => r' u w' H4 Q) else Q (.bl false) H')) fun b S3 H3 μ3 g3 k3 h3 => ?_) fun w S3 H3 μ3 g3 k3 h3 z rz => ?_
    · cases b with
      | true =>
        rw [if_pos rfl] at h3 ⊢
        refine ⟨δ, μ3, S3, ρ, k3, rσ_gr g3 (rσ_gr g2 (rσ_gr g1 s)), Res.step h3 fun z S4 H4 μ4 g4 k4 h4 t rt => ?_⟩
        obtain ⟨w, e, q⟩ := rd_ok h4
        exact hg k4 (ru.gr (g3.trans g4)) rt e q
      | false => rw [if_neg (by decide)] at h3 ⊢; exact Res.now k3 h3 _ (.bl false)
    · cases rz <;> first | exact h3.elim | exact ⟨_, rfl, Res.now k3 h3⟩
  obtain ⟨w, e, q⟩ := rd_ok h3
  exact hf k2 (rv.gr g2) ru e q
theorem dt_chain {op op' : CmpOp} {r r' : R2} {f g : Store → W → W → Option W} (ho : OpR X (compareOp op) r) (ho' : OpR X (compareOp op') r') (hf : Op2 X.K X.mg r f) (hg : Op2 X.K X.mg r' g) (ha : PD X E a da) (hb : PD X E b db) (hc : PD X E c dc)
    (hm : lastMarks [op, op'] [b, c] = false := by with_unfolding_all rfl) : PDT X E (.Compare a [op, op'] [b, c] pos) (dTst (dChain f g da db dc)) := pt_of (pt_chain ho ho' ha hb hc hm) fun _ _ _ h => chain_ok hf hg (tst_ok h)
/-! ### argument lists -/
def dNil : DA := fun _ => ret []
def dCons (d : DE) (r : DA) : DA := fun ρ => bnd (d ρ) fun w => bnd (r ρ) fun ws => ret (w :: ws)
theorem da_nil : PDA X E [] dNil := pa_of pa_nil fun σ H Q ⟨δ, μ, S, ρ, k, s, h⟩ => Res.now k h [] .nil
theorem da_cons {es : List Expr} {d : DE} {r : DA} (ha : PD X E a d) (hr : PDA X E es r) (hs : starEach (a :: es) X.env = (false, eval a X.env) :: starEach es X.env := by rfl) : PDA X E (a :: es) (dCons d r) := pa_of (pa_cons ha hr hs) fun σ H Q ⟨δ, μ, S, ρ, k, s, h⟩ =>
  ⟨δ, μ, S, ρ, k, s, Res.step h fun x S1 H1 μ1 g1 k1 h1 v rv => ⟨δ, μ1, S1, ρ, k1, rσ_gr g1 s, Res.step h1 fun ws S2 H2 μ2 g2 k2 h2 vs rs => Res.now k2 h2 _ (.cons (rv.gr g2) rs)⟩⟩
/-- items of a sequence, a changing list among them -/
def itmsS (S : Store) : W → Option (List W)
  | .tup ws => some ws
  | .cl ws => some ws
  | .lst n => S[n]?
  | _ => none
def dStar (d : DE) (r : DA) : DA := fun ρ => bnd (d ρ) fun w => fun S => match itmsS S w with
  | some us => bnd (r ρ) (fun ws => ret (us ++ ws)) S
  | none => .bad
theorem Rp.seq {Γ : Gm} {H : Hp} {μ : List Addr} {S : Store} (k : Ok Γ H μ S) {v : V} {w : W} {ws : List W} (r : Rp Γ H μ v w) (e : itmsS S w = some ws) : ∃ p xs, v = .ref p ∧ (SqT Γ.K H p xs ∨ SqL Γ.K H p xs) ∧ xs.length ≤ sizeLine ∧ Rps Γ H μ xs ws := by
  cases r with
  | tup h l q => cases e; exact ⟨_, _, rfl, .inl h.sq, l, q⟩
  | cl h n m l q => cases e; exact ⟨_, _, rfl, .inr (.inl (.inl h)), l, q⟩
  | lst h hq =>
    obtain ⟨xs, zs, e1, e2, l, q⟩ := k.lat h hq
    have e : S[_]? = some ws := e
    rw [e1] at e
    cases e
    exact ⟨_, _, rfl, .inr (.inl (.inl e2)), l, q⟩
  | _ => cases e
theorem da_star {es : List Expr} {d : DE} {r : DA} {p : Pos} (ha : PD X E a d) (hr : PDA X E es r) (hs : starEach (.Starred a p :: es) X.env = (true, eval a X.env) :: starEach es X.env := by rfl) : PDA X E (.Starred a p :: es) (dStar d r) := pa_of (StX.pa_star ha hr hs) fun σ H Q ⟨δ, μ, S, ρ, k, s, h⟩ =>
  ⟨δ, μ, S, ρ, k, s, Res.step h fun x S1 H1 μ1 g1 k1 h1 v rv => by
    cases e : itmsS S1 x with
    | none => rw [e] at h1; exact h1.elim
    | some us =>
      rw [e] at h1
      obtain ⟨p, xs, rfl, hq, l, q⟩ := rv.seq k1 e
      exact ⟨p, xs, rfl, hq, δ, μ1, S1, ρ, k1, rσ_gr g1 s, Res.step h1 fun ws S2 H2 μ2 g2 k2 h2 vs rs => Res.now k2 h2 _ ((q.gr g2).app rs)⟩⟩
/-! ### displays -/
def tTupN (t : TA) : TE := fun σ H Q => t σ H fun xs H1 => xs.length ≤ sizeLine ∧ ∀ p o, o.dict = none → H1 p = none → Q (.ref p) (upd H1 p (.frz o (.tup xs)))
theorem pe_tupN {es : List Expr} {t : TA} {x1} (h : PA X es t) : PE X (.Tuple es x1 pos) (tTupN t) := by
  refine ⟨fun pins s σ H Q I hq => ?_⟩
  refine wpAny_Tuple_spliced (thn (h.run pos pins s σ H _ I hq) fun us s1 ⟨xs, H1, I1, r, z, q⟩ => ⟨by rw [← r.length]; exact z, ?_⟩)
  exact ⟨.ref s1.heap.objs.size, _, I1.laid (t' := s1.toks) (o := .frz { cls := .type "tuple", data := .seq us.toArray } (.tup xs)) (fun b u e => Heap.get?_push_of_some _ e) (Nat.le_refl _) (frz_tup z r (Heap.get?_push_size _ rfl)), rfl, q _ _ rfl (I1.hok.fresh (Nat.le_refl _))⟩
def szB (n : Nat) : Bool := decide (n ≤ 16777216)
theorem sz_ok {n : Nat} (h : szB n = true) : n ≤ sizeLine := by rw [sizeLine_eq]; exact of_decide_eq_true h
def mkT (ws : List W) : Mo W := fun S => if szB ws.length = true then .ok (.tup ws) S else .bad
def mkC (ws : List W) : Mo W := fun S => if szB ws.length = true then .ok (.cl ws) S else .bad
def mkL (ws : List W) : Mo W := fun S => if szB ws.length = true then .ok (.lst S.length) (S ++ [ws]) else .bad
def dTup (d : DA) : DE := fun ρ => bnd (d ρ) mkT
def dCl (d : DA) : DE := fun ρ => bnd (d ρ) mkC
def dLst (d : DA) : DE := fun ρ => bnd (d ρ) mkL
theorem new_tup {Γ : Gm} {H : Hp} {μ : List Addr} {S : Store} {p : Addr} {o : Obj} {xs : List V} {ws : List W} (k : Ok Γ H μ S) (hp : H p = none) (ho : o.dict = none) (l : xs.length ≤ sizeLine) (r : Rps Γ H μ xs ws) :
    Gr H μ (upd H p (.frz o (.tup xs))) μ ∧ Ok Γ (upd H p (.frz o (.tup xs))) μ S ∧ Rp Γ (upd H p (.frz o (.tup xs))) μ (.ref p) (.tup ws) :=
  have g := Gr.new hp (k.ne hp)
  ⟨g, k.new hp, .tup (.inl ⟨TupN.new ho, k.ne hp, k.nδ hp⟩) l (r.gr g)⟩
theorem new_cl {Γ : Gm} {H : Hp} {μ : List Addr} {S : Store} {p : Addr} {xs : List V} {ws : List W} (k : Ok Γ H μ S) (hp : H p = none) (l : xs.length ≤ sizeLine) (r : Rps Γ H μ xs ws) :
    Gr H μ (upd H p (.lst xs)) μ ∧ Ok Γ (upd H p (.lst xs)) μ S ∧ Rp Γ (upd H p (.lst xs)) μ (.ref p) (.cl ws) :=
  have g := Gr.new hp (k.ne hp)
  ⟨g, k.new hp, .cl upd_same (k.ne hp) (k.nδ hp) l (r.gr g)⟩
theorem de_tup {es : List Expr} {d : DA} {x1} (h : PDA X E es d) : PD X E (.Tuple es x1 pos) (dTup d) := pe_of (pe_tupN h) fun σ H Q ⟨δ, μ, S, ρ, k, s, h⟩ =>
  ⟨δ, μ, S, ρ, k, s, Res.step h fun ws S1 H1 μ1 g1 k1 h1 vs rs => by
    unfold mkT at h1
    by_cases hz : szB ws.length = true
    · rw [if_pos hz] at h1
      have l : vs.length ≤ sizeLine := by rw [rs.len]; exact sz_ok hz
      refine ⟨l, fun p o ho hp => ?_⟩
      obtain ⟨g, k2, r⟩ := new_tup k1 hp ho l rs
      exact h1 _ _ g k2 _ r
    · rw [if_neg hz] at h1
      exact h1.elim⟩
theorem de_cl {es : List Expr} {d : DA} (h : PDA X E es d) : PD X E (.List es pos) (dCl d) := pe_of (pe_lst h) fun σ H Q ⟨δ, μ, S, ρ, k, s, h⟩ =>
  ⟨δ, μ, S, ρ, k, s, Res.step h fun ws S1 H1 μ1 g1 k1 h1 vs rs => by
    unfold mkC at h1
    by_cases hz : szB ws.length = true
    · rw [if_pos hz] at h1
      have l : vs.length ≤ sizeLine := by rw [rs.len]; exact sz_ok hz
      refine ⟨l, fun p hp => ?_⟩
      obtain ⟨g, k2, r⟩ := new_cl k1 hp l rs
      exact h1 _ _ g k2 _ r
    · rw [if_neg hz] at h1
      exact h1.elim⟩
theorem de_lst {es : List Expr} {d : DA} (h : PDA X E es d) : PD X E (.List es pos) (dLst d) := pe_of (pe_lst h) fun σ H Q ⟨δ, μ, S, ρ, k, s, h⟩ =>
  ⟨δ, μ, S, ρ, k, s, Res.step h fun ws S1 H1 μ1 g1 k1 h1 vs rs => by
    unfold mkL at h1
    by_cases hz : szB ws.length = true
    · rw [if_pos hz] at h1
      have l : vs.length ≤ sizeLine := by rw [rs.len]; exact sz_ok hz
      refine ⟨l, fun p hp => ?_⟩
      obtain ⟨k2, g⟩ := k1.alloc hp l rs
      refine h1 _ _ g k2 _ (.lst ?_ ⟨_, upd_same, rfl⟩)
      rw [← k1.len, List.getElem?_append_right (Nat.le_refl _), Nat.sub_self]
      rfl
    · rw [if_neg hz] at h1
      exact h1.elim⟩
end
end Den

namespace Den
open PySem PySem.Spec PyProof.Rows L2 Bal
section
variable {X : Cx} {E : L2.St → XK} {a b c : Expr} {pos : Pos} {K : PySem.W.Frag} {mg : Str → Option Value} {Γ : Gm} {H : Hp} {μ : List Addr} {S : Store}
/-! ### either of two rules -/
def rOr (r r' : R2) : R2 := fun x y H Q => r x y H Q ∨ r' x y H Q
theorem OpR.or {f : Value → Value → Sem Value} {r r' : R2} (h : OpR X f r) (h' : OpR X f r') : OpR X f (rOr r r') := fun pins s σ H x y v u Q I rx ry q => q.elim (h pins s σ H x y v u Q I rx ry) (h' pins s σ H x y v u Q I rx ry)
theorem IxR.or {r r' : R2} (h : IxR X r) (h' : IxR X r') : IxR X (rOr r r') := fun va sl pins s σ H x y v u Q I rx ry q hs => q.elim (fun q => h va sl pins s σ H x y v u Q I rx ry q hs) (fun q => h' va sl pins s σ H x y v u Q I rx ry q hs)
theorem CallR.or {f : Value} {r r' : List V → Hp → VK → Prop} (h : CallR X f r) (h' : CallR X f r') : CallR X f (fun xs H Q => r xs H Q ∨ r' xs H Q) := fun pins s σ H xs us Q I rx q => q.elim (h pins s σ H xs us Q I rx) (h' pins s σ H xs us Q I rx)
/-! ### tuples joined and cut, with no dict of their own -/
def rCatN (K : PySem.W.Frag) : R2 := fun x y H Q => ∃ a b xs ys, x = .ref a ∧ y = .ref b ∧ SqT K H a xs ∧ SqT K H b ys ∧ xs.length + ys.length ≤ sizeLine ∧
  (xs = [] → Q (.ref b) H) ∧ (xs ≠ [] → ys = [] → Q (.ref a) H) ∧ (xs ≠ [] → ys ≠ [] → ∀ p o, o.dict = none → H p = none → Q (.ref p) (upd H p (.frz o (.tup (xs ++ ys)))))
theorem op_catN : OpR X (binaryOp .Add) (rCatN X.K) := by
  intro pins s σ H x y v u Q I rx ry h
  obtain ⟨a, b, xs, ys, rfl, rfl, ha, hb, hz, q0, q1, q2⟩ := h
  cases rx; cases ry
  obtain ⟨its, r1, p1, _⟩ := I.tuple ha
  obtain ⟨jts, r2, p2, _⟩ := I.tuple hb
  by_cases hx : xs = []
  · subst hx
    cases r1
    exact cat_tup0 p1 p2 ⟨.ref b, H, I, rfl, q0 rfl⟩
  · refine HT.cat_tup p1 p2 (fun z => hx (r1.nil_iff.mp z)) (fun z => ⟨.ref a, H, I, rfl, q1 hx (r2.nil_iff.mp z)⟩) (fun z => ?_) (by rw [← r1.length, ← r2.length]; exact hz)
    exact ⟨.ref s.heap.objs.size, _, I.laid (t' := s.toks) (o := .frz { cls := .type "tuple", data := .seq (its ++ jts).toArray } (.tup (xs ++ ys))) (fun b ob q => Heap.get?_push_of_some _ q) (Nat.le_refl _)
      (frz_tup (by rw [List.length_append]; exact hz) (r1.append r2) (Heap.get?_push_size _ rfl)), rfl, q2 hx (fun w => z (r2.nil_iff.mpr w)) _ _ rfl (I.hok.fresh (Nat.le_refl _))⟩
def rSlN (K : PySem.W.Frag) : V → Option Int → Option Int → Hp → VK → Prop := fun x lo hi H Q => ∃ a xs, x = .ref a ∧ SqT K H a xs ∧
  (HT.sIx xs.length 0 lo = 0 ∧ HT.sIx xs.length xs.length hi = xs.length → Q (.ref a) H) ∧ (¬ (HT.sIx xs.length 0 lo = 0 ∧ HT.sIx xs.length xs.length hi = xs.length) → ∀ p o, o.dict = none → H p = none → Q (.ref p) (upd H p (.frz o (.tup (cutV xs lo hi)))))
theorem sl_tupN : SlR X (rSlN X.K) := by
  intro pins s σ H x v vl vu lo hi sl Q I rx hs pl pu h
  obtain ⟨a, xs, rfl, hx, q1, q2⟩ := h
  cases rx
  obtain ⟨its, r, ht, hz⟩ := I.tuple hx
  have hlen : its.toArray.size = xs.length := by rw [List.size_toArray]; exact Eq.symm r.length
  refine ⟨"tuple", _, PyProof.Rows.slot_tuple_getitem.lookup, ht.typeIs, ?_⟩
  by_cases hw : HT.sIx xs.length 0 lo = 0 ∧ HT.sIx xs.length xs.length hi = xs.length
  · exact getItem_tuple_whole ht hs pl pu (by rw [hlen]; exact hw) ⟨.ref a, H, I, rfl, q1 hw⟩
  · refine HT.getItem_tuple_cut ht hs pl pu (by rw [hlen]; exact hw) ?_ (by rw [hlen]; exact hz)
    rw [hlen]
    have hf := q2 hw _ { cls := .type "tuple", data := .seq (((its.drop (HT.sIx xs.length 0 lo)).take (HT.sIx xs.length xs.length hi - HT.sIx xs.length 0 lo)).toArray) } rfl (I.hok.fresh (Nat.le_refl _))
    exact ⟨.ref s.heap.objs.size, _, I.laid (t' := s.toks) (fun b ob q => Heap.get?_push_of_some _ q) (Nat.le_refl _) (frz_tup (Nat.le_trans (cutV_length xs lo hi) hz) ((r.drop _).take _) (Heap.get?_push_size _ rfl)), rfl, hf⟩
/-! ### what values say -/
/-- a flat value -/
def flW : W → Option V
  | .non => some .non
  | .bl b => some (.bl b)
  | .int i => some (.int i)
  | .str x => some (.str x)
  | _ => none
def flWs : List W → Option (List V)
  | [] => some []
  | w :: ws => match flW w, flWs ws with
    | some v, some vs => some (v :: vs)
    | _, _ => none
theorem flW_ok {v u : V} {w : W} (r : Rp Γ H μ v w) (e : flW w = some u) : v = u ∧ flatV v = true := by
  cases r <;> first | (cases e; exact ⟨rfl, rfl⟩) | cases e
theorem flWs_ok : ∀ {vs us : List V} {ws : List W}, Rps Γ H μ vs ws → flWs ws = some us → vs = us ∧ vs.all flatV = true
  | _, us, _, .nil, e => by cases e; exact ⟨rfl, rfl⟩
  | _, us, _, .cons (w := w) (ws := ws) a b, e => by
    unfold flWs at e
    cases e1 : flW w with
    | none => rw [e1] at e; cases e
    | some u =>
      cases e2 : flWs ws with
      | none => rw [e1, e2] at e; cases e
      | some us' =>
        rw [e1, e2] at e
        cases e
        obtain ⟨h1, h2⟩ := flW_ok a e1
        obtain ⟨h3, h4⟩ := flWs_ok b e2
        exact ⟨by rw [h1, h3], by rw [List.all_cons, h2, h4]; rfl⟩
def inT : List W → Option (List Int)
  | [] => some []
  | .int i :: ws => (inT ws).map (i :: ·)
  | _ :: _ => none
theorem inT_ok : ∀ {vs : List V} {ws : List W} {ns : List Int}, Rps Γ H μ vs ws → inT ws = some ns → vs = ns.map V.int ∧ ws = ns.map W.int
  | _, _, ns, .nil, e => by cases e; exact ⟨rfl, rfl⟩
  | _, _, ns, .cons (w := w) (ws := ws) a b, e => by
    cases a <;> first | cases e | skip
    rename_i i
    have e : (inT ws).map (i :: ·) = some ns := e
    cases e2 : inT ws with
    | none => rw [e2] at e; cases e
    | some ms =>
      rw [e2] at e
      cases e
      obtain ⟨h1, h2⟩ := inT_ok b e2
      exact ⟨by rw [h1]; rfl, by rw [h2]; rfl⟩
def blT : List W → Option (List Bool)
  | [] => some []
  | .bl i :: ws => (blT ws).map (i :: ·)
  | _ :: _ => none
theorem blT_ok : ∀ {vs : List V} {ws : List W} {ns : List Bool}, Rps Γ H μ vs ws → blT ws = some ns → vs = ns.map V.bl
  | _, _, ns, .nil, e => by cases e; rfl
  | _, _, ns, .cons (w := w) (ws := ws) a b, e => by
    cases a <;> first | cases e | skip
    rename_i i
    have e : (blT ws).map (i :: ·) = some ns := e
    cases e2 : blT ws with
    | none => rw [e2] at e; cases e
    | some ms =>
      rw [e2] at e
      cases e
      rw [blT_ok b e2]
      rfl
/-- as data, the lists of the store read -/
def dat (S : Store) : Nat → W → Option PyData
  | 0, _ => none
  | _ + 1, .non => some .none
  | _ + 1, .bl b => some (.bool b)
  | _ + 1, .int i => some (.int i)
  | _ + 1, .str x => some (.str x)
  | n + 1, .tup ws => (ws.mapM (dat S n)).map .tuple
  | n + 1, .cl ws => (ws.mapM (dat S n)).map .list
  | n + 1, .lst m => match S[m]? with
    | some ws => (ws.mapM (dat S n)).map .list
    | none => none
  | _ + 1, _ => none
theorem rps_dat {f : W → Option PyData} (h : ∀ v w d, Rp Γ H μ v w → f w = some d → Dp Γ.K H v d) : ∀ {vs : List V} {ws : List W} {ds : List PyData}, Rps Γ H μ vs ws → ws.mapM f = some ds → DpAll Γ.K H vs ds
  | _, _, ds, .nil, e => by
    rw [List.mapM_nil] at e
    cases e
    exact .nil
  | _, _, ds, .cons (w := w) (ws := ws) a b, e => by
    rw [List.mapM_cons] at e
    cases e1 : f w with
    | none => rw [e1] at e; cases e
    | some d =>
      cases e2 : ws.mapM f with
      | none => rw [e1, e2] at e; cases e
      | some ds' =>
        rw [e1, e2] at e
        cases e
        exact .cons (h _ _ _ a e1) (rps_dat h b e2)
theorem dat_ok (k : Ok Γ H μ S) : ∀ (n : Nat) (v : V) (w : W) (d : PyData), Rp Γ H μ v w → dat S n w = some d → Dp Γ.K H v d
  | 0, _, _, _, _, e => by cases e
  | n + 1, v, w, d, r, e => by
    have ih := dat_ok k n
    cases r with
    | non => cases e; exact .non
    | bl b => cases e; exact .bl b
    | int i => cases e; exact .int i
    | str x => cases e; exact .str x
    | @tup a xs ws h l q =>
      have e : (ws.mapM (dat S n)).map PyData.tuple = some d := e
      cases e1 : ws.mapM (dat S n) with
      | none => rw [e1] at e; cases e
      | some ds => rw [e1] at e; cases e; exact .tup h.sq (rps_dat ih q e1)
    | @cl a xs ws h nn mm l q =>
      have e : (ws.mapM (dat S n)).map PyData.list = some d := e
      cases e1 : ws.mapM (dat S n) with
      | none => rw [e1] at e; cases e
      | some ds => rw [e1] at e; cases e; exact .lst (.inl (.inl h)) (rps_dat ih q e1)
    | @lst a m h hq =>
      obtain ⟨xs, ws, e1, e2, l, q⟩ := k.lat h hq
      have e : (match S[m]? with | some ws => (ws.mapM (dat S n)).map PyData.list | none => none) = some d := e
      rw [e1] at e
      have e : (ws.mapM (dat S n)).map PyData.list = some d := e
      cases e3 : ws.mapM (dat S n) with
      | none => rw [e3] at e; cases e
      | some ds => rw [e3] at e; cases e; exact .lst (.inl (.inl e2)) (rps_dat ih q e3)
    | _ => cases e
/-- data of a shape that is told apart -/
def datS (S : Store) (w : W) : Option PyData := match dat S 12 w with
  | some d => if SeqAt.shaped d = true then some d else none
  | none => none
theorem datS_ok (k : Ok Γ H μ S) {v : V} {w : W} {d : PyData} (r : Rp Γ H μ v w) (e : datS S w = some d) : Dp Γ.K H v d ∧ SeqAt.shaped d = true := by
  unfold datS at e
  cases e1 : dat S 12 w with
  | none => rw [e1] at e; cases e
  | some d' =>
    rw [e1] at e
    by_cases hs : SeqAt.shaped d' = true
    · simp only [hs, if_true] at e
      cases e
      exact ⟨dat_ok k 12 v w d r e1, hs⟩
    · simp only [hs, if_false] at e
      cases e
/-! ### two-place operations -/
def lstS (S : Store) : W → Option (List W)
  | .cl ws => some ws
  | .lst n => S[n]?
  | _ => none
theorem Rp.lstS (k : Ok Γ H μ S) {v : V} {w : W} {ws : List W} (r : Rp Γ H μ v w) (e : lstS S w = some ws) : ∃ p xs, v = .ref p ∧ H p = some (.lst xs) ∧ xs.length ≤ sizeLine ∧ Rps Γ H μ xs ws := by
  cases r with
  | cl h n m l q => cases e; exact ⟨_, _, rfl, h, l, q⟩
  | lst h hq =>
    obtain ⟨xs, zs, e1, e2, l, q⟩ := k.lat h hq
    have e : S[_]? = some ws := e
    rw [e1] at e
    cases e
    exact ⟨_, _, rfl, e2, l, q⟩
  | _ => cases e
def fAdd (S : Store) : W → W → Option W
  | .int i, .int j => some (.int (i + j))
  | .bl b, .int j => some (.int ((if b then 1 else 0) + j))
  | .tup x, .tup y => if szB (x.length + y.length) = true then some (.tup (x ++ y)) else none
  | x, y => match lstS S x, lstS S y with
    | some p, some q => if szB (p.length + q.length) = true then some (.cl (p ++ q)) else none
    | _, _ => none
abbrev rAddW (K : PySem.W.Frag) : R2 := rOr (fun x y H Q => ∃ i j, nv x = some i ∧ y = .int j ∧ Q (.int (i + j)) H) (rOr (rCatN K) rCat)
theorem op_addW : OpR X (binaryOp .Add) (rAddW X.K) := OpR.or op_addN (OpR.or op_catN op_cat)
theorem fAdd_ok : Op2 K mg (rAddW K) fAdd := by
  intro δ H μ S v u x y w Q k rx ry e q
  have lists : ∀ {x y : W} {v u : V}, Rp ⟨K, mg, δ⟩ H μ v x → Rp ⟨K, mg, δ⟩ H μ u y → (match lstS S x, lstS S y with | some p, some q => if szB (p.length + q.length) = true then some (W.cl (p ++ q)) else none | _, _ => none) = some w → rAddW K v u H Q := fun {x y v u} rx ry e => by
    cases e1 : lstS S x with
    | none => rw [e1] at e; cases e
    | some p =>
      cases e2 : lstS S y with
      | none => rw [e1, e2] at e; cases e
      | some q' =>
        rw [e1, e2] at e
        by_cases hz : szB (p.length + q'.length) = true
        · have e : (if szB (p.length + q'.length) = true then some (W.cl (p ++ q')) else none) = some w := e
          rw [if_pos hz] at e
          cases e
          obtain ⟨a1, xs, rfl, h1, l1, r1⟩ := rx.lstS k e1
          obtain ⟨a2, ys, rfl, h2, l2, r2⟩ := ry.lstS k e2
          have l3 : xs.length + ys.length ≤ sizeLine := by rw [r1.len, r2.len]; exact sz_ok hz
          refine .inr (.inr ⟨a1, a2, xs, ys, rfl, rfl, h1, h2, l3, fun p hp => ?_⟩)
          obtain ⟨g, k2, r⟩ := new_cl k hp (by rw [List.length_append]; exact l3) (r1.app r2)
          exact q _ _ g k2 r
        · have e : (if szB (p.length + q'.length) = true then some (W.cl (p ++ q')) else none) = some w := e
          rw [if_neg hz] at e
          cases e
  cases rx with
  | int i =>
    cases ry with
    | int j => cases e; exact .inl ⟨i, j, rfl, rfl, q _ _ Gr.refl k (.int _)⟩
    | _ => cases e
  | bl b =>
    cases ry with
    | int j => cases e; exact .inl ⟨_, j, rfl, rfl, q _ _ Gr.refl k (.int _)⟩
    | _ => cases e
  | @tup a1 xs1 ws1 h1 l1 r1 =>
    cases ry with
    | @tup a2 xs2 ws2 h2 l2 r2 =>
      have e : (if szB (ws1.length + ws2.length) = true then some (W.tup (ws1 ++ ws2)) else none) = some w := e
      by_cases hz : szB (ws1.length + ws2.length) = true
      · rw [if_pos hz] at e
        cases e
        have l3 : xs1.length + xs2.length ≤ sizeLine := by rw [r1.len, r2.len]; exact sz_ok hz
        refine .inr (.inl ⟨a1, a2, xs1, xs2, rfl, rfl, h1.sq, h2.sq, l3, fun z => ?_, fun _ z => ?_, fun _ _ p o ho hp => ?_⟩)
        · subst z
          cases r1
          exact q _ _ Gr.refl k (.tup h2 l2 r2)
        · subst z
          cases r2
          rw [List.append_nil] at q
          exact q _ _ Gr.refl k (.tup h1 l1 r1)
        · obtain ⟨g, k2, r⟩ := new_tup k hp ho (by rw [List.length_append]; exact l3) (r1.app r2)
          exact q _ _ g k2 r
      · rw [if_neg hz] at e
        cases e
    | _ => cases e
  | cl h n m l r => exact lists (.cl h n m l r) ry e
  | lst h hq => exact lists (.lst h hq) ry e
  | _ => cases e
def fSub (_ : Store) : W → W → Option W
  | .int i, .int j => some (.int (i - j))
  | _, _ => none
theorem fSub_ok : Op2 K mg (rI0 fun i j => .int (i - j)) fSub := by
  intro δ H μ S v u x y w Q k rx ry e q
  cases rx <;> first | cases e | skip
  cases ry <;> first | cases e | skip
  exact ⟨_, _, rfl, rfl, q _ _ Gr.refl k (.int _)⟩
def mulB (i j : Int) : Bool := (decide (-(2 ^ 64) < i) && decide (i < 2 ^ 64)) || (decide (-(2 ^ 64) < j) && decide (j < 2 ^ 64))
def fMul (S : Store) : W → W → Option W
  | .int i, .int j => if mulB i j = true then some (.int (i * j)) else none
  | x, .int j => match lstS S x with
    | some p => if decide (0 ≤ j ∧ j ≤ 1000) && szB (p.length * j.toNat) then some (.cl (List.replicate j.toNat p).flatten) else none
    | none => none
  | _, _ => none
theorem rps_rep {vs : List V} {ws : List W} (r : Rps Γ H μ vs ws) : ∀ n : Nat, Rps Γ H μ (List.replicate n vs).flatten (List.replicate n ws).flatten
  | 0 => .nil
  | n + 1 => by
    rw [List.replicate_succ, List.replicate_succ, List.flatten_cons, List.flatten_cons]
    exact r.app (rps_rep r n)
theorem fMul_ok : Op2 K mg (rOr (rI CMul fun i j => .int (i * j)) rRep) fMul := by
  intro δ H μ S v u x y w Q k rx ry e q
  have lists : ∀ {x : W} {v u : V} {j : Int}, Rp ⟨K, mg, δ⟩ H μ v x → u = .int j → (match lstS S x with | some p => if decide (0 ≤ j ∧ j ≤ 1000) && szB (p.length * j.toNat) then some (W.cl (List.replicate j.toNat p).flatten) else none | none => none) = some w → rOr (rI CMul fun i j => .int (i * j)) rRep v u H Q := fun {x v u j} rx eu e => by
    subst eu
    cases e1 : lstS S x with
    | none => rw [e1] at e; cases e
    | some p =>
      rw [e1] at e
      by_cases hz : (decide (0 ≤ j ∧ j ≤ 1000) && szB (p.length * j.toNat)) = true
      · have e : (if (decide (0 ≤ j ∧ j ≤ 1000) && szB (p.length * j.toNat)) = true then some (W.cl (List.replicate j.toNat p).flatten) else none) = some w := e
        rw [if_pos hz] at e
        cases e
        obtain ⟨hj, hz⟩ := Bool.and_eq_true_iff.mp hz
        have hj := of_decide_eq_true hj
        obtain ⟨a1, xs, rfl, h1, l1, r1⟩ := rx.lstS k e1
        have l3 : xs.length * j.toNat ≤ sizeLine := by rw [r1.len]; exact sz_ok hz
        refine .inr ⟨a1, j, xs, rfl, rfl, h1, by omega, by omega, l3, fun p hp => ?_⟩
        obtain ⟨g, k2, r⟩ := new_cl k hp (by rw [List.length_flatten, List.map_replicate, List.sum_replicate_nat, Nat.mul_comm]; exact l3) (rps_rep r1 j.toNat)
        exact q _ _ g k2 r
      · have e : (if (decide (0 ≤ j ∧ j ≤ 1000) && szB (p.length * j.toNat)) = true then some (W.cl (List.replicate j.toNat p).flatten) else none) = some w := e
        rw [if_neg hz] at e
        cases e
  cases rx with
  | int i =>
    cases ry with
    | int j =>
      have e : (if mulB i j = true then some (W.int (i * j)) else none) = some w := e
      by_cases hm : mulB i j = true
      · rw [if_pos hm] at e
        cases e
        refine .inl ⟨i, j, rfl, rfl, ?_, q _ _ Gr.refl k (.int _)⟩
        unfold mulB at hm
        rcases Bool.or_eq_true_iff.mp hm with h | h
        · obtain ⟨h1, h2⟩ := Bool.and_eq_true_iff.mp h
          exact .inl ⟨of_decide_eq_true h1, of_decide_eq_true h2⟩
        · obtain ⟨h1, h2⟩ := Bool.and_eq_true_iff.mp h
          exact .inr ⟨of_decide_eq_true h1, of_decide_eq_true h2⟩
      · rw [if_neg hm] at e
        cases e
    | _ => cases e
  | cl h n m l r =>
    cases ry <;> first | (exact lists (.cl h n m l r) rfl e) | cases e
  | lst h hq =>
    cases ry <;> first | (exact lists (.lst h hq) rfl e) | cases e
  | _ => cases ry <;> cases e
def fDiv (_ : Store) : W → W → Option W
  | .int i, .int j => if decide (0 < j ∧ j < 1073741824) = true then some (.int (i / j)) else none
  | _, _ => none
theorem fDiv_ok : Op2 K mg (rI CDiv fun i j => .int (i / j)) fDiv := by
  intro δ H μ S v u x y w Q k rx ry e q
  cases rx <;> first | cases e | skip
  cases ry <;> first | cases e | skip
  rename_i i j
  have e : (if decide (0 < j ∧ j < 1073741824) = true then some (W.int (i / j)) else none) = some w := e
  by_cases hm : decide (0 < j ∧ j < 1073741824) = true
  · rw [if_pos hm] at e
    cases e
    exact ⟨_, _, rfl, rfl, (by have z := of_decide_eq_true hm; exact z), q _ _ Gr.refl k (.int _)⟩
  · rw [if_neg hm] at e
    cases e
def fMod (_ : Store) : W → W → Option W
  | .int i, .int j => if decide (0 < j) = true then some (.int (i % j)) else none
  | _, _ => none
theorem fMod_ok : Op2 K mg (rI (fun _ j => 0 < j) fun i j => .int (i % j)) fMod := by
  intro δ H μ S v u x y w Q k rx ry e q
  cases rx <;> first | cases e | skip
  cases ry <;> first | cases e | skip
  rename_i i j
  have e : (if decide (0 < j) = true then some (W.int (i % j)) else none) = some w := e
  by_cases hm : decide (0 < j) = true
  · rw [if_pos hm] at e
    cases e
    exact ⟨_, _, rfl, rfl, (by have z := of_decide_eq_true hm; exact z), q _ _ Gr.refl k (.int _)⟩
  · rw [if_neg hm] at e
    cases e
def fPow (_ : Store) : W → W → Option W
  | .int i, .int j => if decide (0 ≤ j ∧ j ≤ 1000000 ∧ i.natAbs < 2 ^ 64) = true then some (.int (i ^ j.toNat)) else none
  | _, _ => none
theorem fPow_ok : Op2 K mg (rI CPow fun i j => .int (i ^ j.toNat)) fPow := by
  intro δ H μ S v u x y w Q k rx ry e q
  cases rx <;> first | cases e | skip
  cases ry <;> first | cases e | skip
  rename_i i j
  have e : (if decide (0 ≤ j ∧ j ≤ 1000000 ∧ i.natAbs < 2 ^ 64) = true then some (W.int (i ^ j.toNat)) else none) = some w := e
  by_cases hm : decide (0 ≤ j ∧ j ≤ 1000000 ∧ i.natAbs < 2 ^ 64) = true
  · rw [if_pos hm] at e
    cases e
    exact ⟨_, _, rfl, rfl, (by have z := of_decide_eq_true hm; exact z), q _ _ Gr.refl k (.int _)⟩
  · rw [if_neg hm] at e
    cases e
/-! ### comparisons -/
def fCmp (p : Int → Int → Bool) (_ : Store) : W → W → Option W
  | .int i, .int j => some (.bl (p i j))
  | _, _ => none
theorem fCmp_ok {p : Int → Int → Bool} : Op2 K mg (rI0 fun i j => .bl (p i j)) (fCmp p) := by
  intro δ H μ S v u x y w Q k rx ry e q
  cases rx <;> first | cases e | skip
  cases ry <;> first | cases e | skip
  exact ⟨_, _, rfl, rfl, q _ _ Gr.refl k (.bl _)⟩
abbrev pLt : Int → Int → Bool := fun i j => decide (i < j)
abbrev pLe : Int → Int → Bool := fun i j => decide (i ≤ j)
abbrev pGt : Int → Int → Bool := fun i j => decide (j < i)
abbrev pGe : Int → Int → Bool := fun i j => decide (j ≤ i)
def eqD (S : Store) (x y : W) : Option Bool := match datS S x, datS S y with
  | some d, some e => some (PyData.eqv d e)
  | _, _ => none
def fEq (S : Store) (x y : W) : Option W := (eqD S x y).map .bl
def fNe (S : Store) (x y : W) : Option W := (eqD S x y).map fun b => .bl (!b)
theorem eqD_ok (k : Ok Γ H μ S) {v u : V} {x y : W} {b : Bool} (rx : Rp Γ H μ v x) (ry : Rp Γ H μ u y) (e : eqD S x y = some b) : ∃ d f, Dp Γ.K H v d ∧ Dp Γ.K H u f ∧ SeqAt.shaped d = true ∧ SeqAt.shaped f = true ∧ b = PyData.eqv d f := by
  unfold eqD at e
  cases e1 : datS S x with
  | none => rw [e1] at e; cases e
  | some d =>
    cases e2 : datS S y with
    | none => rw [e1, e2] at e; cases e
    | some f =>
      rw [e1, e2] at e
      cases e
      obtain ⟨h1, h2⟩ := datS_ok k rx e1
      obtain ⟨h3, h4⟩ := datS_ok k ry e2
      exact ⟨d, f, h1, h3, h2, h4, rfl⟩
theorem fEq_ok : Op2 K mg (rEqD K) fEq := by
  intro δ H μ S v u x y w Q k rx ry e q
  unfold fEq at e
  cases e1 : eqD S x y with
  | none => rw [e1] at e; cases e
  | some b =>
    rw [e1] at e
    cases e
    obtain ⟨d, f, h1, h2, h3, h4, rfl⟩ := eqD_ok k rx ry e1
    exact ⟨d, f, h1, h2, h3, h4, q _ _ Gr.refl k (.bl _)⟩
theorem fNe_ok : Op2 K mg (rNeD K) fNe := by
  intro δ H μ S v u x y w Q k rx ry e q
  unfold fNe at e
  cases e1 : eqD S x y with
  | none => rw [e1] at e; cases e
  | some b =>
    rw [e1] at e
    cases e
    obtain ⟨d, f, h1, h2, h3, h4, rfl⟩ := eqD_ok k rx ry e1
    exact ⟨d, f, h1, h2, h3, h4, q _ _ Gr.refl k (.bl _)⟩
/-- is None -/
def isN : W → Bool
  | .non => true
  | _ => false
def fIs (_ : Store) (x : W) : W → Option W
  | .non => some (.bl (isN x))
  | _ => none
theorem isN_ok {v : V} {x : W} (r : Rp Γ H μ v x) : decide (v = .non) = isN x := by
  cases r <;> first | rfl | exact decide_eq_false fun z => nomatch z
theorem fIs_ok : Op2 K mg (fun x y H Q => y = .non ∧ Q (.bl (decide (x = .non))) H) fIs := by
  intro δ H μ S v u x y w Q k rx ry e q
  cases ry <;> first | cases e | skip
  refine ⟨rfl, ?_⟩
  rw [isN_ok rx]
  exact q _ _ Gr.refl k (.bl _)
/-- in: of flat values in a list or a tuple of such; of data in a list of such -/
def inW (S : Store) (x y : W) : Option Bool := match itmsS S y with
  | some ws => match flW x, flWs ws with
    | some v, some vs => some (inV v vs)
    | _, _ => match datS S x, lstS S y, datS S y with
      | some d, some _, some (.list ds) => some (ds.any fun z => PyData.eqv z d)
      | _, _, _ => none
  | none => none
def fIn (S : Store) (x y : W) : Option W := (inW S x y).map .bl
def fNotIn (S : Store) (x y : W) : Option W := (inW S x y).map fun b => .bl (!b)
theorem inW_ok (k : Ok Γ H μ S) {v u : V} {x y : W} {b : Bool} (rx : Rp Γ H μ v x) (ry : Rp Γ H μ u y) (e : inW S x y = some b) :
    (∃ p xs, u = .ref p ∧ (SqL Γ.K H p xs ∨ SqT Γ.K H p xs) ∧ flatV v = true ∧ xs.all flatV = true ∧ b = inV v xs) ∨ ∃ d ds, Dp Γ.K H v d ∧ Dp Γ.K H u (.list ds) ∧ SeqAt.shaped d = true ∧ SeqAt.shaped (.list ds) = true ∧ b = ds.any fun z => PyData.eqv z d := by
  unfold inW at e
  cases e1 : itmsS S y with
  | none => rw [e1] at e; cases e
  | some ws =>
    rw [e1] at e
    obtain ⟨p, xs, rfl, hq, l, r⟩ := ry.seq k e1
    have deep : (match datS S x, lstS S y, datS S y with | some d, some _, some (.list ds) => some (ds.any fun z => PyData.eqv z d) | _, _, _ => none) = some b → (∃ d ds, Dp Γ.K H v d ∧ Dp Γ.K H (.ref p) (.list ds) ∧ SeqAt.shaped d = true ∧ SeqAt.shaped (.list ds) = true ∧ b = ds.any fun z => PyData.eqv z d) := fun e => by
      split at e
      · rename_i d _ ds e3 e4 e5
        cases e
        obtain ⟨h1, h2⟩ := datS_ok k rx e3
        obtain ⟨h3, h4⟩ := datS_ok k ry e5
        exact ⟨d, ds, h1, h3, h2, h4, rfl⟩
      · cases e
    cases e2 : flW x with
    | none => simp only [e2] at e; exact .inr (deep e)
    | some v' =>
      cases e3 : flWs ws with
      | none => simp only [e2, e3] at e; exact .inr (deep e)
      | some vs =>
        simp only [e2, e3] at e
        cases e
        obtain ⟨rfl, h1⟩ := flW_ok rx e2
        obtain ⟨rfl, h2⟩ := flWs_ok r e3
        exact .inl ⟨p, xs, rfl, hq.symm, h1, h2, rfl⟩
theorem fIn_ok : Op2 K mg (rOr (rIn K false) (rInD K)) fIn := by
  intro δ H μ S v u x y w Q k rx ry e q
  unfold fIn at e
  cases e1 : inW S x y with
  | none => rw [e1] at e; cases e
  | some b =>
    rw [e1] at e
    cases e
    rcases inW_ok k rx ry e1 with ⟨p, xs, rfl, hq, h1, h2, rfl⟩ | ⟨d, ds, h1, h2, h3, h4, rfl⟩
    · exact .inl ⟨p, xs, rfl, hq, h1, h2, q _ _ Gr.refl k (.bl _)⟩
    · exact .inr ⟨d, ds, h1, h2, h3, h4, q _ _ Gr.refl k (.bl _)⟩
theorem fNotIn_ok : Op2 K mg (rOr (rIn K true) (rNotInD K)) fNotIn := by
  intro δ H μ S v u x y w Q k rx ry e q
  unfold fNotIn at e
  cases e1 : inW S x y with
  | none => rw [e1] at e; cases e
  | some b =>
    rw [e1] at e
    cases e
    rcases inW_ok k rx ry e1 with ⟨p, xs, rfl, hq, h1, h2, rfl⟩ | ⟨d, ds, h1, h2, h3, h4, rfl⟩
    · exact .inl ⟨p, xs, rfl, hq, h1, h2, q _ _ Gr.refl k (.bl _)⟩
    · exact .inr ⟨d, ds, h1, h2, h3, h4, q _ _ Gr.refl k (.bl _)⟩
/-! ### places -/
def ixW (S : Store) : W → Option (List W)
  | .sc ws => some ws
  | w => itmsS S w
def fIx (S : Store) (x : W) : W → Option W
  | .int i => match ixW S x with
    | some ws => atI ws i
    | none => none
  | _ => none
theorem atI_rps {vs : List V} {ws : List W} {i : Int} {w : W} (r : Rps Γ H μ vs ws) (e : atI ws i = some w) : ∃ v, atI vs i = some v ∧ Rp Γ H μ v w := by
  unfold atI at e ⊢
  rw [r.len]
  cases e1 : ixN ws.length i with
  | none => rw [e1] at e; cases e
  | some j =>
    rw [e1] at e
    exact r.getW e
theorem fIx_ok : Op2 K mg (rOr (rIxL K) (rIxT K)) fIx := by
  intro δ H μ S v u x y w Q k rx ry e q
  cases ry <;> first | cases e | skip
  rename_i i
  have e : (match ixW S x with | some ws => atI ws i | none => none) = some w := e
  cases e1 : ixW S x with
  | none => rw [e1] at e; cases e
  | some ws =>
    rw [e1] at e
    have seq : itmsS S x = some ws → rOr (rIxL K) (rIxT K) v (.int i) H Q := fun e1 => by
      obtain ⟨p, xs, rfl, hq, l, r⟩ := rx.seq k e1
      obtain ⟨z, h1, h2⟩ := atI_rps r e
      rcases hq with hq | hq
      · exact .inr ⟨p, xs, i, z, rfl, rfl, hq, h1, q _ _ Gr.refl k h2⟩
      · exact .inl ⟨p, xs, i, z, rfl, rfl, hq, h1, q _ _ Gr.refl k h2⟩
    cases rx with
    | sc h r =>
      cases e1
      obtain ⟨z, h1, h2⟩ := atI_rps r e
      exact .inl ⟨_, _, i, z, rfl, rfl, h.sq, h1, q _ _ Gr.refl k h2⟩
    | _ => exact seq e1
def fNeg (_ : Store) : W → Option W
  | .int i => some (.int (-i))
  | _ => none
theorem fNeg_ok : Op1 K mg (rU fun i => .int (-i)) fNeg := by
  intro δ H μ S v x w Q k rx e q
  cases rx <;> first | cases e | skip
  exact ⟨_, rfl, q _ _ Gr.refl k (.int _)⟩
end
end Den

namespace Den
open PySem PySem.Spec PyProof.Rows L2 Bal
section
variable {X : Cx} {E : L2.St → XK} {e a b c : Expr} {es : List Expr} {pos p : Pos} {K : PySem.W.Frag} {mg : Str → Option Value} {Γ : Gm} {H : Hp} {μ : List Addr} {S : Store} {x : Str} {idn T : String} {r : List V → Hp → VK → Prop}
/-! ### calls of built-ins -/
def dCallN (f : Store → List W → Option W) (d : DA) : DE := fun ρ => bnd (d ρ) fun ws => rdS fun S => f S ws
theorem callN_ok {f : Store → List W → Option W} {d : DA} (hf : OpN K mg r f) {σ : L2.St} {Q : VK} (h : tOf K mg E (dCallN f d) σ H Q) : tCB r (taOf K mg E d) σ H Q := by
  obtain ⟨δ, μ, S, ρ, k, s, h⟩ := h
  refine ⟨δ, μ, S, ρ, k, s, Res.step h fun ws S1 H1 μ1 g1 k1 h1 vs rs => ?_⟩
  obtain ⟨w, e, q⟩ := rd_ok h1
  exact hf k1 rs e q
theorem de_callB {f : Store → List W → Option W} {d : DA} (hc : CallR X (.builtin idn) r) (hf : OpN X.K X.mg r f) (hg : Gl X x) (hm : X.mg x = none) (hv : bootBuiltins x = some (.builtin idn)) (ha : PDA X E (e :: es) d) (hn : x ≠ "__name__" := by decide) (hdb : (x == ("__debug__" : Str)) = false := by decide)
    (he : starEach (e :: es) X.env = (false, eval e X.env) :: starEach es X.env := by rfl) (hpl : (backTo pos (starEach es X.env)).any (·.1) = false := by rfl) : PD X E (.Call (.Name x p) (e :: es) [] pos) (dCallN f d) := pe_of (pe_callB hc hg hm hv ha hn hdb he hpl) fun _ _ _ h => callN_ok hf h
theorem de_callTy {f : Store → List W → Option W} {d : DA} (hc : CallR X (.type T) r) (hf : OpN X.K X.mg r f) (hg : Gl X x) (hm : X.mg x = none) (hv : bootBuiltins x = some (.type T)) (ha : PDA X E (e :: es) d) (hn : x ≠ "__name__" := by decide) (hdb : (x == ("__debug__" : Str)) = false := by decide)
    (he : starEach (e :: es) X.env = (false, eval e X.env) :: starEach es X.env := by rfl) (hpl : (backTo pos (starEach es X.env)).any (·.1) = false := by rfl) : PD X E (.Call (.Name x p) (e :: es) [] pos) (dCallN f d) := pe_of (pe_callTy hc hg hm hv ha hn hdb he hpl) fun _ _ _ h => callN_ok hf h
/-! ### that make a new list -/
def OpF (K : PySem.W.Frag) (mg : Str → Option Value) (r : List V → Hp → VK → Prop) (f : Store → List W → Option (List W)) : Prop := ∀ {δ : List Addr} {H : Hp} {μ : List Addr} {S : Store} {vs : List V} {xs us : List W} {Q : VK}, Ok ⟨K, mg, δ⟩ H μ S → Rps ⟨K, mg, δ⟩ H μ vs xs → f S xs = some us →
  (∀ p ys, H p = none → ys.length ≤ sizeLine → Rps ⟨K, mg, δ⟩ H μ ys us → Q (.ref p) (upd H p (.lst ys))) → r vs H Q
/-- how a new list is kept: as one that nobody changes, or in the store -/
inductive Kp where | cl | st
def newK : Kp → List W → Mo W
  | .cl, us => fun S => .ok (.cl us) S
  | .st, us => fun S => .ok (.lst S.length) (S ++ [us])
theorem newK_ok {E : XK} (kp : Kp) {us : List W} {Q : VK} (k : Ok Γ H μ S) (h : Res Γ E H μ (newK kp us S) fun w H' μ' _ => ∀ v, Rp Γ H' μ' v w → Q v H') {p : Addr} {ys : List V} (hp : H p = none) (l : ys.length ≤ sizeLine) (r : Rps Γ H μ ys us) : Q (.ref p) (upd H p (.lst ys)) := by
  cases kp with
  | cl =>
    obtain ⟨g, k2, r2⟩ := new_cl k hp l r
    exact h _ _ g k2 _ r2
  | st =>
    obtain ⟨k2, g⟩ := k.alloc hp l r
    refine h _ _ g k2 _ (.lst ?_ ⟨_, upd_same, rfl⟩)
    rw [← k.len, List.getElem?_append_right (Nat.le_refl _), Nat.sub_self]
    rfl
def dCallF (kp : Kp) (f : Store → List W → Option (List W)) (d : DA) : DE := fun ρ => bnd (d ρ) fun ws S => match f S ws with
  | some us => newK kp us S
  | none => .bad
theorem callF_ok {kp : Kp} {f : Store → List W → Option (List W)} {d : DA} (hf : OpF K mg r f) {σ : L2.St} {Q : VK} (h : tOf K mg E (dCallF kp f d) σ H Q) : tCB r (taOf K mg E d) σ H Q := by
  obtain ⟨δ, μ, S, ρ, k, s, h⟩ := h
  refine ⟨δ, μ, S, ρ, k, s, Res.step h fun ws S1 H1 μ1 g1 k1 h1 vs rs => ?_⟩
  cases e : f S1 ws with
  | none => rw [e] at h1; exact h1.elim
  | some us =>
    rw [e] at h1
    exact hf k1 rs e fun p ys hp l r => newK_ok kp k1 h1 hp l r
theorem de_callFB (kp : Kp) {f : Store → List W → Option (List W)} {d : DA} (hc : CallR X (.builtin idn) r) (hf : OpF X.K X.mg r f) (hg : Gl X x) (hm : X.mg x = none) (hv : bootBuiltins x = some (.builtin idn)) (ha : PDA X E (e :: es) d) (hn : x ≠ "__name__" := by decide) (hdb : (x == ("__debug__" : Str)) = false := by decide)
    (he : starEach (e :: es) X.env = (false, eval e X.env) :: starEach es X.env := by rfl) (hpl : (backTo pos (starEach es X.env)).any (·.1) = false := by rfl) : PD X E (.Call (.Name x p) (e :: es) [] pos) (dCallF kp f d) := pe_of (pe_callB hc hg hm hv ha hn hdb he hpl) fun _ _ _ h => callF_ok hf h
theorem de_callFT (kp : Kp) {f : Store → List W → Option (List W)} {d : DA} (hc : CallR X (.type T) r) (hf : OpF X.K X.mg r f) (hg : Gl X x) (hm : X.mg x = none) (hv : bootBuiltins x = some (.type T)) (ha : PDA X E (e :: es) d) (hn : x ≠ "__name__" := by decide) (hdb : (x == ("__debug__" : Str)) = false := by decide)
    (he : starEach (e :: es) X.env = (false, eval e X.env) :: starEach es X.env := by rfl) (hpl : (backTo pos (starEach es X.env)).any (·.1) = false := by rfl) : PD X E (.Call (.Name x p) (e :: es) [] pos) (dCallF kp f d) := pe_of (pe_callTy hc hg hm hv ha hn hdb he hpl) fun _ _ _ h => callF_ok hf h
/-- x + y of lists, kept in the store -/
def dCatL (da db : DE) : DE := fun ρ => bnd (da ρ) fun x => bnd (db ρ) fun y => fun S => match lstS S x, lstS S y with
  | some p, some q => if szB (p.length + q.length) = true then newK .st (p ++ q) S else .bad
  | _, _ => .bad
theorem de_catL {da db : DE} (ha : PD X E a da) (hb : PD X E b db) : PD X E (.BinOp a .Add b pos) (dCatL da db) := pe_of (pe_op op_cat ha hb) fun σ H Q ⟨δ, μ, S, ρ, k, s, h⟩ =>
  ⟨δ, μ, S, ρ, k, s, Res.step h fun x S1 H1 μ1 g1 k1 h1 v rv => ⟨δ, μ1, S1, ρ, k1, rσ_gr g1 s, Res.step h1 fun y S2 H2 μ2 g2 k2 h2 u ru => by
    cases e1 : lstS S2 x with
    | none => rw [e1] at h2; exact h2.elim
    | some p =>
      cases e2 : lstS S2 y with
      | none => rw [e1, e2] at h2; exact h2.elim
      | some q =>
        rw [e1, e2] at h2
        by_cases hz : szB (p.length + q.length) = true
        · simp only [hz, if_true] at h2
          obtain ⟨a1, xs, rfl, h3, l1, r1⟩ := (rv.gr g2).lstS k2 e1
          obtain ⟨a2, ys, rfl, h4, l2, r2⟩ := ru.lstS k2 e2
          have l3 : xs.length + ys.length ≤ sizeLine := by rw [r1.len, r2.len]; exact sz_ok hz
          exact ⟨a1, a2, xs, ys, rfl, rfl, h3, h4, l3, fun p hp => newK_ok .st k2 h2 hp (by rw [List.length_append]; exact l3) (r1.app r2)⟩
        · simp only [hz, if_false] at h2
          exact h2.elim⟩⟩
/-! ### len, tuple, list, all, any, abs, int, max, min, sorted -/
theorem Rps.one {vs : List V} {ws : List W} {w : W} (r : Rps Γ H μ vs ws) (e : ws = [w]) : ∃ v, vs = [v] ∧ Rp Γ H μ v w := by
  subst e
  cases r with
  | cons a b => cases b; exact ⟨_, rfl, a⟩
theorem Rps.two {vs : List V} {ws : List W} {w z : W} (r : Rps Γ H μ vs ws) (e : ws = [w, z]) : ∃ v u, vs = [v, u] ∧ Rp Γ H μ v w ∧ Rp Γ H μ u z := by
  subst e
  cases r with
  | cons a b =>
    obtain ⟨u, rfl, h⟩ := Rps.one b rfl
    exact ⟨_, _, rfl, a, h⟩
def fLen (S : Store) : List W → Option W
  | [w] => match ixW S w with
    | some ws => some (.int (ws.length : Nat))
    | none => none
  | _ => none
theorem fLen_ok : OpN K mg (fun xs H Q => ∃ p ys, xs = [.ref p] ∧ (SqL K H p ys ∨ SqT K H p ys) ∧ Q (.int ys.length) H) fLen := by
  intro δ H μ S vs xs w Q k rs e q
  match xs, e with
  | [x], e =>
    obtain ⟨v, rfl, rx⟩ := rs.one rfl
    have e : (match ixW S x with | some ws => some (W.int (ws.length : Nat)) | none => none) = some w := e
    cases e1 : ixW S x with
    | none => rw [e1] at e; cases e
    | some ws =>
      rw [e1] at e
      cases e
      have seq : itmsS S x = some ws → ∃ p ys, [v] = [.ref p] ∧ (SqL K H p ys ∨ SqT K H p ys) ∧ Q (.int ys.length) H := fun e1 => by
        obtain ⟨p, xs, rfl, hq, l, r⟩ := rx.seq k e1
        exact ⟨p, xs, rfl, hq.symm, by rw [r.len]; exact q _ _ Gr.refl k (.int _)⟩
      cases rx with
      | sc h r =>
        cases e1
        exact ⟨_, _, rfl, .inl h.sq, by rw [r.len]; exact q _ _ Gr.refl k (.int _)⟩
      | _ => exact seq e1
def fTuple (S : Store) : List W → Option W
  | [w] => (itmsS S w).map .tup
  | _ => none
theorem fTuple_ok : OpN K mg (rTupN K) fTuple := by
  intro δ H μ S vs xs w Q k rs e q
  match xs, e with
  | [x], e =>
    obtain ⟨v, rfl, rx⟩ := rs.one rfl
    have e : (itmsS S x).map W.tup = some w := e
    cases e1 : itmsS S x with
    | none => rw [e1] at e; cases e
    | some ws =>
      rw [e1] at e
      cases e
      cases rx with
      | tup h l r => cases e1; exact ⟨_, _, rfl, .inr ⟨h.sq, q _ _ Gr.refl k (.tup h l r)⟩⟩
      | cl h n m l r =>
        cases e1
        refine ⟨_, _, rfl, .inl ⟨.inl (.inl h), fun p o ho hp => ?_⟩⟩
        obtain ⟨g, k2, r⟩ := new_tup k hp ho l r
        exact q _ _ g k2 r
      | lst h hq =>
        obtain ⟨ys, zs, e2, e3, l, r⟩ := k.lat h hq
        have e1 : S[_]? = some ws := e1
        rw [e2] at e1
        cases e1
        refine ⟨_, _, rfl, .inl ⟨.inl (.inl e3), fun p o ho hp => ?_⟩⟩
        obtain ⟨g, k2, r⟩ := new_tup k hp ho l r
        exact q _ _ g k2 r
      | _ => cases e1
def fList (S : Store) : List W → Option (List W)
  | [w] => itmsS S w
  | _ => none
theorem fList_ok : OpF K mg (fun xs H Q => ∃ p ys, xs = [.ref p] ∧ (SqL K H p ys ∨ SqT K H p ys) ∧ ∀ l, H l = none → Q (.ref l) (upd H l (.lst ys))) fList := by
  intro δ H μ S vs xs us Q k rs e q
  match xs, e with
  | [x], e =>
    obtain ⟨v, rfl, rx⟩ := rs.one rfl
    obtain ⟨p, ys, rfl, hq, l, r⟩ := rx.seq k e
    exact ⟨p, ys, rfl, hq.symm, fun l' hl => q _ _ hl l r⟩
def fAll (S : Store) : List W → Option W
  | [w] => match lstS S w with
    | some ws => (blT ws).map fun bs => .bl (bs.all id)
    | none => none
  | _ => none
theorem bls_ok (k : Ok Γ H μ S) {v : V} {x : W} {ws : List W} {bs : List Bool} (rx : Rp Γ H μ v x) (e1 : lstS S x = some ws) (e2 : blT ws = some bs) : ∃ p, v = .ref p ∧ SqL Γ.K H p (bs.map V.bl) := by
  obtain ⟨p, ys, rfl, h, l, r⟩ := rx.lstS k e1
  rw [blT_ok r e2] at h
  exact ⟨p, rfl, .inl (.inl h)⟩
theorem fAll_ok : OpN K mg (rAll K) fAll := by
  intro δ H μ S vs xs w Q k rs e q
  match xs, e with
  | [x], e =>
    obtain ⟨v, rfl, rx⟩ := rs.one rfl
    have e : (match lstS S x with | some ws => (blT ws).map fun bs => W.bl (bs.all id) | none => none) = some w := e
    cases e1 : lstS S x with
    | none => rw [e1] at e; cases e
    | some ws =>
      rw [e1] at e
      have e : (blT ws).map (fun bs => W.bl (bs.all id)) = some w := e
      cases e2 : blT ws with
      | none => rw [e2] at e; cases e
      | some bs =>
        rw [e2] at e
        cases e
        obtain ⟨p, rfl, h⟩ := bls_ok k rx e1 e2
        exact ⟨p, bs, rfl, h, q _ _ Gr.refl k (.bl _)⟩
def fAbs (_ : Store) : List W → Option W
  | [.int i] => some (.int (if i < 0 then -i else i))
  | _ => none
theorem fAbs_ok : OpN K mg (fun xs H Q => ∃ i, xs = [.int i] ∧ Q (.int (if i < 0 then -i else i)) H) fAbs := by
  intro δ H μ S vs xs w Q k rs e q
  match xs, e with
  | [.int i], e =>
    cases e
    obtain ⟨v, rfl, rx⟩ := rs.one rfl
    cases rx
    exact ⟨i, rfl, q _ _ Gr.refl k (.int _)⟩
def fInt (_ : Store) : List W → Option W
  | [.int i] => some (.int i)
  | [.bl b] => some (.int (if b then 1 else 0))
  | _ => none
theorem fInt_ok : OpN K mg (fun xs H Q => (∃ i, xs = [.int i] ∧ Q (.int i) H) ∨ ∃ k, xs = [.bl k] ∧ Q (.int (if k then 1 else 0)) H) fInt := by
  intro δ H μ S vs xs w Q k rs e q
  match xs, e with
  | [.int i], e =>
    cases e
    obtain ⟨v, rfl, rx⟩ := rs.one rfl
    cases rx
    exact .inl ⟨i, rfl, q _ _ Gr.refl k (.int _)⟩
  | [.bl b], e =>
    cases e
    obtain ⟨v, rfl, rx⟩ := rs.one rfl
    cases rx
    exact .inr ⟨b, rfl, q _ _ Gr.refl k (.int _)⟩
def fMax2 (_ : Store) : List W → Option W
  | [.int i, .int j] => some (.int (if j > i then j else i))
  | _ => none
theorem fMax2_ok : OpN K mg (fun xs H Q => ∃ i j, xs = [.int i, .int j] ∧ Q (.int (if j > i then j else i)) H) fMax2 := by
  intro δ H μ S vs xs w Q k rs e q
  match xs, e with
  | [.int i, .int j], e =>
    cases e
    obtain ⟨v, u, rfl, rx, ry⟩ := rs.two rfl
    cases rx; cases ry
    exact ⟨i, j, rfl, q _ _ Gr.refl k (.int _)⟩
def fMin2 (_ : Store) : List W → Option W
  | [.int i, .int j] => some (.int (if j < i then j else i))
  | _ => none
theorem fMin2_ok : OpN K mg (fun xs H Q => ∃ i j, xs = [.int i, .int j] ∧ Q (.int (if j < i then j else i)) H) fMin2 := by
  intro δ H μ S vs xs w Q k rs e q
  match xs, e with
  | [.int i, .int j], e =>
    cases e
    obtain ⟨v, u, rfl, rx, ry⟩ := rs.two rfl
    cases rx; cases ry
    exact ⟨i, j, rfl, q _ _ Gr.refl k (.int _)⟩
/-- sorted numbers -/
def srt (ns : List Int) : List Int := ns.mergeSort (fun a b => decide (a ≤ b))
theorem srt_perm (ns : List Int) : (srt ns).Perm ns := List.mergeSort_perm _ _
theorem srt_le (ns : List Int) : (srt ns).Pairwise (· ≤ ·) := by
  have h := List.pairwise_mergeSort (le := fun a b : Int => decide (a ≤ b)) (fun a b c h1 h2 => decide_eq_true (Int.le_trans (of_decide_eq_true h1) (of_decide_eq_true h2))) (fun a b => by
    rcases Int.le_total a b with h | h
    · rw [decide_eq_true h]; rfl
    · rw [decide_eq_true h, Bool.or_true]) ns
  exact h.imp fun h => of_decide_eq_true h
theorem srt_uniq {ms ns : List Int} (p : ms.Perm ns) (h : ms.Pairwise (· ≤ ·)) : ms = srt ns := (p.trans (srt_perm ns).symm).eq_of_pairwise (fun a b _ _ h1 h2 => Int.le_antisymm h1 h2) h (srt_le ns)
theorem srt_uniqR {ms ns : List Int} (p : ms.Perm ns) (h : ms.Pairwise (· ≥ ·)) : ms = (srt ns).reverse := by
  have h2 : ms.reverse = srt ns := srt_uniq ((List.reverse_perm ms).trans p) (by rw [List.pairwise_reverse]; exact h)
  rw [← h2, List.reverse_reverse]
theorem ints_sq (k : Ok Γ H μ S) {v : V} {x : W} {ws : List W} {ns : List Int} (rx : Rp Γ H μ v x) (e1 : itmsS S x = some ws) (e2 : inT ws = some ns) : ∃ p, v = .ref p ∧ SqA Γ.K H p (ns.map V.int) ∧ ns.length ≤ sizeLine := by
  obtain ⟨p, ys, rfl, h, l, r⟩ := rx.seq k e1
  obtain ⟨h1, h2⟩ := inT_ok r e2
  rw [h1] at h l
  rw [List.length_map] at l
  exact ⟨p, rfl, h.symm, l⟩
theorem rps_ints : ∀ ns : List Int, Rps Γ H μ (ns.map V.int) (ns.map W.int)
  | [] => .nil
  | n :: ns => .cons (.int n) (rps_ints ns)
def intsOf (S : Store) (w : W) : Option (List Int) := match itmsS S w with
  | some ws => inT ws
  | none => none
theorem intsOf_ok (k : Ok Γ H μ S) {v : V} {x : W} {ns : List Int} (rx : Rp Γ H μ v x) (e : intsOf S x = some ns) : ∃ p, v = .ref p ∧ SqA Γ.K H p (ns.map V.int) ∧ ns.length ≤ sizeLine := by
  unfold intsOf at e
  cases e1 : itmsS S x with
  | none => rw [e1] at e; cases e
  | some ws => rw [e1] at e; exact ints_sq k rx e1 e
def fSorted (S : Store) : List W → Option (List W)
  | [w] => (intsOf S w).map fun ns => (srt ns).map .int
  | _ => none
theorem fSorted_ok : OpF K mg (rSrt K) fSorted := by
  intro δ H μ S vs xs us Q k rs e q
  match xs, e with
  | [x], e =>
    obtain ⟨v, rfl, rx⟩ := rs.one rfl
    have e : (intsOf S x).map (fun ns => (srt ns).map W.int) = some us := e
    cases e1 : intsOf S x with
    | none => rw [e1] at e; cases e
    | some ns =>
      rw [e1] at e
      cases e
      obtain ⟨p, rfl, h, l⟩ := intsOf_ok k rx e1
      refine ⟨p, ns, rfl, h, fun ms t pm hw ht => ?_⟩
      rw [srt_uniq pm hw]
      exact q _ _ ht (by rw [List.length_map, (srt_perm ns).length_eq]; exact l) (rps_ints _)
/-- sorted(x, reverse=True) -/
def fSortedR (b : Bool) (S : Store) : List W → Option (List W)
  | [w] => (intsOf S w).map fun ns => (if b then (srt ns).reverse else srt ns).map .int
  | _ => none
def dSortR (kp : Kp) (b : Bool) (d : DA) : DE := dCallF kp (fSortedR b) d
theorem de_sortR (kp : Kp) {b : Bool} {d : DA} {jj : Nat} {p2 kpos : Pos} {nm : Option Str} (hg : Gl X "sorted") (hm : X.mg "sorted" = none) (ha : PDA X E (e :: es) d)
    (he : backTo pos (starEach (e :: es) X.env) = (false, eval e X.env) :: backTo pos (starEach es X.env) := by rfl) (hpl : (backTo pos (starEach (e :: es) X.env)).any (·.1) = false := by rfl)
    (hall : (backToKw pos (keywordEach [⟨nm, .Constant (.bool b) jj p2, kpos⟩] X.env)).all (·.1.isSome) = true := by rfl) (hnone : (backToKw pos (keywordEach [⟨nm, .Constant (.bool b) jj p2, kpos⟩] X.env)).any (·.1.isNone) = false := by rfl) (hks : (backToKw pos (keywordEach [⟨nm, .Constant (.bool b) jj p2, kpos⟩] X.env)).filterMap (·.1) = [Str.ofString "reverse"] := by rfl) :
    PD X E (.Call (.Name "sorted" p) (e :: es) [⟨nm, .Constant (.bool b) jj p2, kpos⟩] pos) (dSortR kp b d) := pe_of (pe_callBK (cr_srtR (b := b)) hg hm (by decide +kernel) ha (pk_cons pe_bl pk_nil) (by decide) (by decide) he hpl hall hnone hks) fun σ H Q ⟨δ, μ, S, ρ, k, s, h⟩ =>
  ⟨δ, μ, S, ρ, k, s, Res.step h fun ws S1 H1 μ1 g1 k1 h1 vs rs => by
    cases e : fSortedR b S1 ws with
    | none => rw [e] at h1; exact h1.elim
    | some us =>
      rw [e] at h1
      match ws, e with
      | [x], e =>
        obtain ⟨v, rfl, rx⟩ := rs.one rfl
        have e : (intsOf S1 x).map (fun ns => (if b then (srt ns).reverse else srt ns).map W.int) = some us := e
        cases e1 : intsOf S1 x with
        | none => rw [e1] at e; cases e
        | some ns =>
          rw [e1] at e
          cases e
          obtain ⟨p, rfl, h, l⟩ := intsOf_ok k1 rx e1
          refine ⟨p, ns, rfl, rfl, h, fun ms t pm hw ht => ?_⟩
          have em : ms = if b then (srt ns).reverse else srt ns := by
            unfold OrdB at hw
            cases b with
            | true => rw [if_pos rfl] at hw ⊢; exact srt_uniqR pm hw
            | false => rw [if_neg (by decide)] at hw ⊢; exact srt_uniq pm hw
          rw [em] at pm ⊢
          exact newK_ok kp k1 h1 ht (by rw [List.length_map, pm.length_eq]; exact l) (rps_ints _)⟩
/-! ### isinstance of data -/
inductive Kd where | non | bl | int | str | tup | lst
def Kd.nm : Kd → String
  | .non => "NoneType" | .bl => "bool" | .int => "int" | .str => "str" | .tup => "tuple" | .lst => "list"
def kdW : W → Option Kd
  | .non => some .non | .bl _ => some .bl | .int _ => some .int | .str _ => some .str | .tup _ => some .tup | .cl _ => some .lst | .lst _ => some .lst | _ => none
theorem kd_ty (k : Ok Γ H μ S) {v : V} {w : W} {n : Kd} (r : Rp Γ H μ v w) (e : kdW w = some n) : TyX Γ.K H v (.type n.nm) := by
  cases r with
  | non => cases e; exact .base .non
  | bl b => cases e; exact .base (.bl b)
  | int i => cases e; exact .base (.int i)
  | str x => cases e; exact .base (.str x)
  | tup h l q =>
    cases e
    rcases h with ⟨⟨o, _, h⟩, _⟩ | ⟨o, its, n, h1, _, h2, _⟩
    · exact .fTuple h
    · exact .kTuple h1 h2
  | cl h n m l q => cases e; exact .base (.lst h)
  | lst h hq =>
    cases e
    obtain ⟨xs, ws, _, e2, _⟩ := k.lat h hq
    exact .base (.lst e2)
  | _ => cases e
def dIs (f : Kd → Bool) (d : DE) : DE := fun ρ => bnd (d ρ) fun w => match kdW w with
  | some n => ret (.bl (f n))
  | none => bad
def kInt : Kd → Bool | .int => true | .bl => true | _ => false
def kBool : Kd → Bool | .bl => true | _ => false
def kTup : Kd → Bool | .tup => true | _ => false
def kLst : Kd → Bool | .lst => true | _ => false
def kStr : Kd → Bool | .str => true | _ => false
def kSeq : Kd → Bool | .tup => true | .lst => true | _ => false
/-- isinstance(x, T) -/
theorem de_is {f : Kd → Bool} {d : DE} {n : String} {y : Str} {p2 : Pos} (hk : ∀ k : Kd, kitB k.nm n = some (f k)) (hg : Gl X "isinstance") (hm : X.mg "isinstance" = none) (hg2 : Gl X y) (hm2 : X.mg y = none) (hv2 : bootBuiltins y = some (.type n)) (ha : PD X E a d) (hn : y ≠ "__name__" := by decide) (hd2 : (y == ("__debug__" : Str)) = false := by decide)
    (he : starEach (a :: [.Name y p2]) X.env = (false, eval a X.env) :: starEach [.Name y p2] X.env := by rfl) (hpl : (backTo pos (starEach [.Name y p2] X.env)).any (·.1) = false := by rfl) : PD X E (.Call (.Name "isinstance" p) [a, .Name y p2] [] pos) (dIs f d) :=
  pe_of (pe_callB call_isi hg hm (by decide +kernel) (pa_cons ha (pa_cons (pe_bltn (v := .ty n) hg2 hm2 hv2 rfl hn hd2) pa_nil) he) (by decide) (by decide) he hpl) fun σ H Q ⟨δ, μ, S, ρ, k, s, h⟩ =>
  ⟨δ, μ, S, ρ, k, s, Res.step h fun w S1 H1 μ1 g1 k1 h1 v rv => by
    cases e : kdW w with
    | none => rw [e] at h1; exact h1.elim
    | some n' =>
      rw [e] at h1
      exact ⟨v, .ty n, _, _, f n', rfl, .ty _, kd_ty k1 rv e, kit_ty (hk n'), Res.now k1 h1 _ (.bl _)⟩⟩
theorem is_int (k : Kd) : kitB k.nm "int" = some (kInt k) := by cases k <;> decide +kernel
theorem is_bool (k : Kd) : kitB k.nm "bool" = some (kBool k) := by cases k <;> decide +kernel
theorem is_tup (k : Kd) : kitB k.nm "tuple" = some (kTup k) := by cases k <;> decide +kernel
theorem is_lst (k : Kd) : kitB k.nm "list" = some (kLst k) := by cases k <;> decide +kernel
theorem is_str (k : Kd) : kitB k.nm "str" = some (kStr k) := by cases k <;> decide +kernel
/-- isinstance(x, (list, tuple)) -/
theorem de_isSeq {d : DE} {p2 p3 p4 : Pos} {kk : Nat} (hg : Gl X "isinstance") (hm : X.mg "isinstance" = none) (hg2 : Gl X "list") (hm2 : X.mg "list" = none) (hg3 : Gl X "tuple") (hm3 : X.mg "tuple" = none) (ha : PD X E a d)
    (he : starEach (a :: [.Tuple [.Name "list" p2, .Name "tuple" p3] kk p4]) X.env = (false, eval a X.env) :: starEach [.Tuple [.Name "list" p2, .Name "tuple" p3] kk p4] X.env := by rfl) (hpl : (backTo pos (starEach [.Tuple [.Name "list" p2, .Name "tuple" p3] kk p4] X.env)).any (·.1) = false := by rfl) : PD X E (.Call (.Name "isinstance" p) [a, .Tuple [.Name "list" p2, .Name "tuple" p3] kk p4] [] pos) (dIs kSeq d) :=
  pe_of (pe_callB call_isiT hg hm (by decide +kernel) (pa_cons ha (pa_cons (pe_tup (pa_cons (pe_bltn (v := .ty "list") hg2 hm2 (by decide +kernel) rfl) (pa_cons (pe_bltn (v := .ty "tuple") hg3 hm3 (by decide +kernel) rfl) pa_nil))) pa_nil) he) (by decide) (by decide) he hpl) fun σ H Q ⟨δ, μ, S, ρ, k, s, h⟩ =>
  ⟨δ, μ, S, ρ, k, s, Res.step h fun w S1 H1 μ1 g1 k1 h1 v rv => by
    cases e : kdW w with
    | none => rw [e] at h1; exact h1.elim
    | some n' =>
      rw [e] at h1
      refine ⟨by show 2 ≤ sizeLine; decide, fun tp ntp => ?_⟩
      have g2 := Gr.new (o := .tup [.ty "list", .ty "tuple"]) ntp (k1.ne ntp)
      have k2 := k1.new (o := .tup [.ty "list", .ty "tuple"]) ntp
      refine ⟨v, tp, _, _, _, kSeq n', rfl, upd_same, cls2, kd_ty k2 (rv.gr g2) e, ?_, h1 _ _ g2 k2 _ (.bl _)⟩
      cases n' with
      | lst => exact kA_lst
      | tup => exact kA_tup
      | _ => exact kA_no (by decide +kernel) (by decide +kernel)⟩
/-! ### cuts -/
abbrev DO := En → Mo (Option Int)
def toOf (K : PySem.W.Frag) (mg : Str → Option Value) (E : L2.St → XK) (d : DO) : TO := fun σ H Q => ∃ δ μ S ρ, Ok ⟨K, mg, δ⟩ H μ S ∧ Rσ ⟨K, mg, δ⟩ H μ σ ρ ∧ Res ⟨K, mg, δ⟩ (E σ) H μ (d ρ S) fun o H' _ _ => Q o H'
theorem po_of {o : Option Expr} {t t' : TO} (h : PO X o t) (f : ∀ σ H Q, t' σ H Q → t σ H Q) : PO X o t' := ⟨fun pins s σ H Q I q => h.run pins s σ H Q I (f σ H Q q)⟩
def oNone : DO := fun _ => ret none
def oSome (d : DE) : DO := fun ρ => bnd (d ρ) fun w => match w with
  | .int i => ret (some i)
  | _ => bad
theorem do_none : PO X none (toOf X.K X.mg E oNone) := po_of po_none fun σ H Q ⟨δ, μ, S, ρ, k, s, h⟩ => Res.now k h
theorem do_some {d : DE} (h : PD X E a d) : PO X (some a) (toOf X.K X.mg E (oSome d)) := po_of (po_some h) fun σ H Q ⟨δ, μ, S, ρ, k, s, h⟩ =>
  ⟨δ, μ, S, ρ, k, s, Res.step h fun w S1 H1 μ1 g1 k1 h1 v rv => by
    cases rv <;> first | exact h1.elim | exact ⟨_, rfl, Res.now k1 h1⟩⟩
def cutW (xs : List W) (lo hi : Option Int) : List W := (xs.drop (HT.sIx xs.length 0 lo)).take (HT.sIx xs.length xs.length hi - HT.sIx xs.length 0 lo)
theorem rps_cut {vs : List V} {ws : List W} (r : Rps Γ H μ vs ws) (lo hi : Option Int) : Rps Γ H μ (cutV vs lo hi) (cutW ws lo hi) := by
  unfold cutV cutW
  rw [r.len]
  exact (r.drop _).take _
def fCut (kp : Kp) (w : W) (lo hi : Option Int) : Mo W := fun S => match w with
  | .tup ws => .ok (.tup (cutW ws lo hi)) S
  | w => match lstS S w with
    | some ws => newK kp (cutW ws lo hi) S
    | none => .bad
def dCut (kp : Kp) (d : DE) (l u : DO) : DE := fun ρ => bnd (d ρ) fun w => bnd (l ρ) fun lo => bnd (u ρ) fun hi => fCut kp w lo hi
theorem de_cut (kp : Kp) {d : DE} {l u : DO} {lo hi : Option Expr} {p2 : Pos} (ha : PD X E a d) (hl : PO X lo (toOf X.K X.mg E l)) (hu : PO X hi (toOf X.K X.mg E u)) : PD X E (.Subscript a (.Slice lo hi none p2) pos) (dCut kp d l u) := pe_of (pe_slice (SlR.or sl_tupN sl_list) ha hl hu) fun σ H Q ⟨δ, μ, S, ρ, k, s, h⟩ =>
  ⟨δ, μ, S, ρ, k, s, Res.step h fun w S1 H1 μ1 g1 k1 h1 v rv => ⟨δ, μ1, S1, ρ, k1, rσ_gr g1 s, Res.step h1 fun lo S2 H2 μ2 g2 k2 h2 => ⟨δ, μ2, S2, ρ, k2, rσ_gr (g1.trans g2) s, Res.step h2 fun hi S3 H3 μ3 g3 k3 h3 => by
    have rv3 := rv.gr (g2.trans g3)
    have lists : ∀ {v : V} {w : W}, Rp ⟨X.K, X.mg, δ⟩ H3 μ3 v w → Res ⟨X.K, X.mg, δ⟩ (E σ) H3 μ3 (match lstS S3 w with | some ws => newK kp (cutW ws lo hi) S3 | none => .bad) (fun w H' μ' _ => ∀ v, Rp ⟨X.K, X.mg, δ⟩ H' μ' v w → Q v H') → rSlL X.K v lo hi H3 Q := fun {v w} rv h3 => by
      cases e : lstS S3 w with
      | none => rw [e] at h3; exact h3.elim
      | some ws =>
        rw [e] at h3
        obtain ⟨p, xs, rfl, hx, l, r⟩ := rv.lstS k3 e
        exact ⟨p, xs, rfl, .inl (.inl hx), fun p hp => newK_ok kp k3 h3 hp (Nat.le_trans (cutV_length _ _ _) l) (rps_cut r lo hi)⟩
    cases rv3 with
    | @tup a xs ws ht l r =>
      have h3 : Res ⟨X.K, X.mg, δ⟩ (E σ) H3 μ3 (.ok (.tup (cutW ws lo hi)) S3) (fun w H' μ' _ => ∀ v, Rp ⟨X.K, X.mg, δ⟩ H' μ' v w → Q v H') := h3
      refine .inl ⟨a, xs, rfl, ht.sq, fun hw => ?_, fun hw p o ho hp => ?_⟩
      · have ew : cutW ws lo hi = ws := by
          rw [r.len] at hw
          unfold cutW
          rw [hw.1, hw.2, List.drop_zero, Nat.sub_zero, List.take_length]
        rw [ew] at h3
        exact Res.now k3 h3 _ (.tup ht l r)
      · obtain ⟨g, k4, r4⟩ := new_tup k3 hp ho (Nat.le_trans (cutV_length _ _ _) l) (rps_cut r lo hi)
        exact h3 _ _ g k4 _ r4
    | cl hh n m l r => exact .inr (lists (.cl hh n m l r) h3)
    | lst hh hq => exact .inr (lists (.lst hh hq) h3)
    | _ => exact h3.elim⟩⟩⟩
/-- xs[::-1] -/
def fRev (kp : Kp) (w : W) : Mo W := fun S => match w with
  | .tup ws => .ok (.tup ws.reverse) S
  | w => match lstS S w with
    | some ws => newK kp ws.reverse S
    | none => .bad
def dRev (kp : Kp) (d : DE) : DE := fun ρ => bnd (d ρ) (fRev kp)
theorem de_rev (kp : Kp) {d : DE} {kk : Nat} {p1 p2 p3 : Pos} (ha : PD X E a d) : PD X E (.Subscript a (.Slice none none (some (.UnaryOp .USub (.Constant (.int 1) kk p1) p2)) p3) pos) (dRev kp d) := pe_of (pe_revN ha) fun σ H Q ⟨δ, μ, S, ρ, k, s, h⟩ =>
  ⟨δ, μ, S, ρ, k, s, Res.step h fun w S1 H1 μ1 g1 k1 h1 v rv => by
    have lists : ∀ {v : V} {w : W}, Rp ⟨X.K, X.mg, δ⟩ H1 μ1 v w → Res ⟨X.K, X.mg, δ⟩ (E σ) H1 μ1 (match lstS S1 w with | some ws => newK kp ws.reverse S1 | none => .bad) (fun w H' μ' _ => ∀ v, Rp ⟨X.K, X.mg, δ⟩ H' μ' v w → Q v H') → ∃ a xs, v = .ref a ∧ (SqL X.K H1 a xs ∧ ∀ p, H1 p = none → Q (.ref p) (upd H1 p (.lst xs.reverse))) := fun {v w} rv h3 => by
      cases e : lstS S1 w with
      | none => rw [e] at h3; exact h3.elim
      | some ws =>
        rw [e] at h3
        obtain ⟨p, xs, rfl, hx, l, r⟩ := rv.lstS k1 e
        exact ⟨p, xs, rfl, .inl (.inl hx), fun p hp => newK_ok kp k1 h3 hp (by rw [List.length_reverse]; exact l) r.rev⟩
    cases rv with
    | @tup a xs ws ht l r =>
      have h1 : Res ⟨X.K, X.mg, δ⟩ (E σ) H1 μ1 (.ok (.tup ws.reverse) S1) (fun w H' μ' _ => ∀ v, Rp ⟨X.K, X.mg, δ⟩ H' μ' v w → Q v H') := h1
      refine ⟨a, xs, rfl, .inr ⟨ht.sq, fun p o ho hp => ?_⟩⟩
      obtain ⟨g, k4, r4⟩ := new_tup k1 hp ho (by rw [List.length_reverse]; exact l) r.rev
      exact h1 _ _ g k4 _ r4
    | cl hh n m l r => obtain ⟨a, xs, e, h⟩ := lists (.cl hh n m l r) h1; exact ⟨a, xs, e, .inl h⟩
    | lst hh hq => obtain ⟨a, xs, e, h⟩ := lists (.lst hh hq) h1; exact ⟨a, xs, e, .inl h⟩
    | _ => exact h1.elim⟩
end
end Den

namespace Den
open PySem PySem.Spec PyProof.Rows L2 Bal
/-! ### targets -/
inductive Tg where
  | nm (i : Nat) | tp (ts : List Tg)
mutual
def gT (K : PySem.W.Frag) : Tg → TG
  | .nm i => gName i
  | .tp ts => fun v σ H Q => gTup K ts.length (gTs K ts) v σ H Q ∨ gLst K ts.length (gTs K ts) v σ H Q
def gTs (K : PySem.W.Frag) : List Tg → TGs
  | [] => gNil
  | t :: ts => gCons (gT K t) (gTs K ts)
end
mutual
def setT (S : Store) : Tg → W → En → Option En
  | .nm i, w, ρ => some (ρ.set i (some w))
  | .tp ts, w, ρ => match itmsS S w with
    | some ws => setTs S ts ws ρ
    | none => none
def setTs (S : Store) : List Tg → List W → En → Option En
  | [], [], ρ => some ρ
  | t :: ts, w :: ws, ρ => match setT S t w ρ with
    | some ρ1 => setTs S ts ws ρ1
    | none => none
  | _, _, _ => none
end
mutual
def slt : Tg → List Nat
  | .nm i => [i]
  | .tp ts => slts ts
def slts : List Tg → List Nat
  | [] => []
  | t :: ts => slt t ++ slts ts
end
theorem wipe_set (σ : L2.St) (i : Nat) (x : Option V) : ∀ vs : List Nat, i ∈ vs → wipe (σ.set i x) vs = wipe σ vs
  | [], h => by simp at h
  | v :: vs, h => by
    unfold wipe
    by_cases hv : i ∈ vs
    · rw [wipe_set σ i x vs hv]
    · have e : i = v := by
        rcases List.mem_cons.mp h with h | h
        · exact h
        · exact absurd h hv
      subst e
      clear h
      have h2 : ∀ (us : List Nat) (τ : L2.St), i ∉ us → wipe (τ.set i x) us = (wipe τ us).set i x := by
        intro us
        induction us with
        | nil => intro τ _; rfl
        | cons u us ih =>
          intro τ hu
          unfold wipe
          rw [ih τ (fun z => hu (List.mem_cons_of_mem _ z)), List.set_comm _ _ (fun z => hu (by rw [z]; exact List.mem_cons_self ..))]
      rw [h2 vs σ hv, List.set_set]
theorem wipe_wipe (σ : L2.St) : ∀ vs : List Nat, wipe (wipe σ vs) vs = wipe σ vs := by
  intro vs
  apply List.ext_getElem?
  intro i
  by_cases hi : i ∈ vs
  · have h : ∀ (us : List Nat) (τ : L2.St), i ∈ us → (wipe τ us)[i]? = if i < τ.length then some none else none := by
      intro us
      induction us with
      | nil => intro τ h; simp at h
      | cons u us ih =>
        intro τ h
        unfold wipe
        by_cases hu : u = i
        · subst hu
          by_cases hl : u < τ.length
          · rw [if_pos hl, List.getElem?_set_self (by rw [wipe_length]; exact hl)]
          · rw [if_neg hl, List.getElem?_eq_none (by rw [List.length_set, wipe_length]; omega)]
        · rw [List.getElem?_set_ne hu]
          exact ih τ ((List.mem_cons.mp h).elim (fun z => absurd z.symm hu) id)
    rw [h vs _ hi, h vs _ hi, wipe_length]
  · have h : ∀ (us : List Nat) (τ : L2.St), i ∉ us → (wipe τ us)[i]? = τ[i]? := by
      intro us
      induction us with
      | nil => intro τ _; rfl
      | cons u us ih =>
        intro τ h
        unfold wipe
        rw [List.getElem?_set_ne (fun z => h (by rw [z]; exact List.mem_cons_self ..))]
        exact ih τ fun z => h (List.mem_cons_of_mem _ z)
    rw [h vs _ hi]
section
variable {Γ : Gm} {H : Hp} {μ : List Addr} {S : Store}
theorem setTs_len : ∀ (ts : List Tg) (ws : List W) (ρ ρ' : En), setTs S ts ws ρ = some ρ' → ws.length = ts.length
  | [], [], _, _, _ => rfl
  | [], _ :: _, _, _, e => by unfold setTs at e; cases e
  | _ :: _, [], _, _, e => by unfold setTs at e; cases e
  | t :: ts, w :: ws, ρ, ρ', e => by
    unfold setTs at e
    cases e1 : setT S t w ρ with
    | none => rw [e1] at e; cases e
    | some ρ1 =>
      rw [e1] at e
      exact congrArg (· + 1) (setTs_len ts ws ρ1 ρ' e)
mutual
theorem gT_ok (k : Ok Γ H μ S) : ∀ (t : Tg) {v : V} {w : W} {σ : L2.St} {ρ ρ' : En} {Q : L2.St → Hp → Prop}, Rp Γ H μ v w → Rσ Γ H μ σ ρ → setT S t w ρ = some ρ' →
    (∀ σ', Rσ Γ H μ σ' ρ' → (∀ vs : List Nat, (∀ i ∈ slt t, i ∈ vs) → wipe σ' vs = wipe σ vs) → Q σ' H) → gT Γ.K t v σ H Q
  | .nm i, v, w, σ, ρ, ρ', Q, r, s, e, q => by
    unfold gT
    unfold setT at e
    cases e
    exact q _ (rσ_set s r) fun vs h => wipe_set σ i _ vs (h i (by unfold slt; exact List.mem_singleton.mpr rfl))
  | .tp ts, v, w, σ, ρ, ρ', Q, r, s, e, q => by
    unfold gT
    unfold setT at e
    cases e1 : itmsS S w with
    | none => rw [e1] at e; cases e
    | some ws =>
      rw [e1] at e
      have e : setTs S ts ws ρ = some ρ' := e
      obtain ⟨p, xs, rfl, hq, l, rs⟩ := r.seq k e1
      have h := gTs_ok k ts rs s e (Q := Q) fun σ' h1 h2 => q σ' h1 fun vs h => h2 vs (by unfold slt at h; exact h)
      have hl : xs.length = ts.length := rs.len.trans (setTs_len ts ws ρ ρ' e)
      rcases hq with hq | hq
      · exact .inl ⟨p, xs, rfl, hq, hl, h⟩
      · exact .inr ⟨p, xs, rfl, hq, hl, h⟩
theorem gTs_ok (k : Ok Γ H μ S) : ∀ (ts : List Tg) {vs : List V} {ws : List W} {σ : L2.St} {ρ ρ' : En} {Q : L2.St → Hp → Prop}, Rps Γ H μ vs ws → Rσ Γ H μ σ ρ → setTs S ts ws ρ = some ρ' →
    (∀ σ', Rσ Γ H μ σ' ρ' → (∀ us : List Nat, (∀ i ∈ slts ts, i ∈ us) → wipe σ' us = wipe σ us) → Q σ' H) → gTs Γ.K ts vs σ H Q
  | [], vs, ws, σ, ρ, ρ', Q, rs, s, e, q => by
    cases rs with
    | nil =>
      unfold setTs at e
      cases e
      unfold gTs
      exact ⟨rfl, q σ s fun _ _ => rfl⟩
    | cons a b => unfold setTs at e; cases e
  | t :: ts, vs, ws, σ, ρ, ρ', Q, rs, s, e, q => by
    cases rs with
    | nil => unfold setTs at e; cases e
    | @cons v vs w ws a b =>
      unfold setTs at e
      cases e1 : setT S t w ρ with
      | none => rw [e1] at e; cases e
      | some ρ1 =>
        rw [e1] at e
        have e : setTs S ts ws ρ1 = some ρ' := e
        unfold gTs
        refine ⟨v, vs, rfl, gT_ok k t a s e1 fun σ' h1 h2 => ?_⟩
        exact gTs_ok k ts b h1 e fun σ2 h3 h4 => q σ2 h3 fun us h => by
          rw [h4 us (fun i hi => h i (by unfold slts; exact List.mem_append_right _ hi)), h2 us (fun i hi => h i (by unfold slts; exact List.mem_append_left _ hi))]
end
end
/-! ### the rules of targets -/
section
variable {X : Cx} {pos : Pos}
theorem PG.or {tg : Expr} {t t' : TG} (h : PG X tg t) (h' : PG X tg t') : PG X tg (fun v σ H Q => t v σ H Q ∨ t' v σ H Q) := ⟨fun pins s σ H v u Q I r hw => hw.elim (h.run pins s σ H v u Q I r) (h'.run pins s σ H v u Q I r)⟩
theorem pg_of {tg : Expr} {t t' : TG} (h : PG X tg t) (f : ∀ v σ H Q, t' v σ H Q → t v σ H Q) : PG X tg t' := ⟨fun pins s σ H v u Q I r hw => h.run pins s σ H v u Q I r (f _ _ _ _ hw)⟩
theorem pgs_of {tg : List Expr} {t t' : TGs} (h : PGs X tg t) (f : ∀ v σ H Q, t' v σ H Q → t v σ H Q) : PGs X tg t' := ⟨fun pins s σ H v u Q I r hw => h.run pins s σ H v u Q I r (f _ _ _ _ hw)⟩
theorem dg_nm (i : Nat) {x : Str} (hN : X.N.Nodup) (hi : X.N[i]? = some x := by rfl) (hx : Loc X.env.scope x := by first | exact .inl rfl | exact .inr rfl) (hf : X.fn x = true ∨ X.env.scope.names.lookup x = some .local := by first | exact .inl rfl | exact .inr rfl | assumption) : PG X (.Name x pos) (gT X.K (.nm i)) :=
  pg_of (pg_name hN hi hx hf) fun v σ H Q h => by unfold gT at h; exact h
theorem dgs_nil : PGs X [] (gTs X.K []) := pgs_of pgs_nil fun v σ H Q h => by unfold gTs at h; exact h
theorem dgs_cons {e : Expr} {es : List Expr} {t : Tg} {ts : List Tg} (h1 : PG X e (gT X.K t)) (h2 : PGs X es (gTs X.K ts)) (hs : (assignEach (e :: es) X.env).map (·.2) = assign e X.env :: (assignEach es X.env).map (·.2) := by rfl) : PGs X (e :: es) (gTs X.K (t :: ts)) :=
  pgs_of (pgs_cons h1 h2 hs) fun v σ H Q h => by unfold gTs at h; exact h
theorem dg_tp {es : List Expr} {k : Nat} {ts : List Tg} (hc : X.calm = true) (h : PGs X es (gTs X.K ts)) (hn : (assignEach es X.env).length = ts.length := by rfl) (hst : (assignEach es X.env).findIdx? (·.1) = none := by rfl) : PG X (.Tuple es k pos) (gT X.K (.tp ts)) :=
  pg_of (PG.or (pg_tup hc h hn hst) (pg_lst hc h hn hst)) fun v σ H Q h => by unfold gT at h; exact h
end
/-! ### equal values -/
mutual
def eqW : W → W → Bool
  | .non, .non => true
  | .bl a, .bl b => a == b
  | .int a, .int b => a == b
  | .str a, .str b => a == b
  | .tup a, .tup b => eqWs a b
  | .cl a, .cl b => eqWs a b
  | .sc a, .sc b => eqWs a b
  | .lst a, .lst b => a == b
  | .dct a, .dct b => a == b
  | .dtt a, .dtt b => a == b
  | .ins a, .ins b => a == b
  | .exn a b c, .exn d e f => a == d && (b == e && eqWs c f)
  | .lam a b c x y, .lam d e f z u => (a == d && (b == e && (c == f && x == z))) && eqWs y u
  | _, _ => false
def eqWs : List W → List W → Bool
  | [], [] => true
  | a :: r, b :: t => eqW a b && eqWs r t
  | _, _ => false
end
mutual
theorem eqW_to : ∀ (a b : W), eqW a b = true → a = b
  | .non, b, h => by cases b <;> simp [eqW] at h ⊢
  | .bl x, b, h => by cases b <;> simp [eqW] at h ⊢; exact h
  | .int x, b, h => by cases b <;> simp [eqW] at h ⊢; exact h
  | .str x, b, h => by cases b <;> simp [eqW] at h ⊢; exact h
  | .tup x, b, h => by cases b <;> simp [eqW] at h ⊢; exact eqWs_to _ _ h
  | .cl x, b, h => by cases b <;> simp [eqW] at h ⊢; exact eqWs_to _ _ h
  | .sc x, b, h => by cases b <;> simp [eqW] at h ⊢; exact eqWs_to _ _ h
  | .lst x, b, h => by cases b <;> simp [eqW] at h ⊢; exact h
  | .dct x, b, h => by cases b <;> simp [eqW] at h ⊢; exact h
  | .dtt x, b, h => by cases b <;> simp [eqW] at h ⊢; exact h
  | .ins x, b, h => by cases b <;> simp [eqW] at h ⊢; exact h
  | .exn x y z, b, h => by cases b <;> simp [eqW] at h ⊢; exact ⟨h.1, h.2.1, eqWs_to _ _ h.2.2⟩
  | .lam x y z u v, b, h => by cases b <;> simp [eqW] at h ⊢; exact ⟨h.1.1, h.1.2.1, h.1.2.2.1, h.1.2.2.2, eqWs_to _ _ h.2⟩
theorem eqWs_to : ∀ (a b : List W), eqWs a b = true → a = b
  | [], b, h => by cases b <;> simp [eqWs] at h ⊢
  | x :: r, b, h => by
    cases b with
    | nil => simp [eqWs] at h
    | cons y t =>
      simp [eqWs] at h
      rw [eqW_to _ _ h.1, eqWs_to _ _ h.2]
end
mutual
theorem eqW_rfl : ∀ a : W, eqW a a = true
  | .non => by simp [eqW]
  | .bl x => by simp [eqW]
  | .int x => by simp [eqW]
  | .str x => by simp [eqW]
  | .tup x => by simp [eqW, eqWs_rfl x]
  | .cl x => by simp [eqW, eqWs_rfl x]
  | .sc x => by simp [eqW, eqWs_rfl x]
  | .lst x => by simp [eqW]
  | .dct x => by simp [eqW]
  | .dtt x => by simp [eqW]
  | .ins x => by simp [eqW]
  | .exn x y z => by simp [eqW, eqWs_rfl z]
  | .lam x y z u v => by simp [eqW, eqWs_rfl v]
theorem eqWs_rfl : ∀ a : List W, eqWs a a = true
  | [] => by simp [eqWs]
  | x :: r => by simp [eqWs, eqW_rfl x, eqWs_rfl r]
end
/-- these lists of the store are as they were -/
def kept (S0 S : Store) : List Nat → Bool
  | [] => true
  | n :: ns => (match S0[n]?, S[n]? with
    | some a, some b => eqWs a b
    | _, _ => false) && kept S0 S ns
theorem kept_to {S0 S : Store} : ∀ {ns : List Nat}, kept S0 S ns = true → ∀ n ∈ ns, S[n]? = S0[n]?
  | [], _, n, h => by simp at h
  | m :: ns, e, n, h => by
    unfold kept at e
    obtain ⟨e1, e2⟩ := Bool.and_eq_true_iff.mp e
    rcases List.mem_cons.mp h with h | h
    · subst h
      cases h1 : S0[n]? with
      | none => rw [h1] at e1; cases e1
      | some a =>
        cases h2 : S[n]? with
        | none => rw [h1, h2] at e1; cases e1
        | some b => rw [h1, h2] at e1; rw [eqWs_to _ _ e1]
    · exact kept_to e2 n h
theorem kept_of {S0 S : Store} : ∀ {ns : List Nat}, (∀ n ∈ ns, n < S0.length ∧ S[n]? = S0[n]?) → kept S0 S ns = true
  | [], _ => rfl
  | m :: ns, h => by
    unfold kept
    obtain ⟨h1, h2⟩ := h m (List.mem_cons_self ..)
    rw [h2, List.getElem?_eq_getElem h1, kept_of fun n hn => h n (List.mem_cons_of_mem _ hn)]
    simp only [eqWs_rfl, Bool.and_self]
@[simp] theorem kept_nil {S0 S : Store} : kept S0 S [] = true := rfl
/-! ### what is walked -/
def Srv (Γ : Gm) (J : It) (ws : List W) (keep : List Nat) (H0 : Hp) (μ0 : List Addr) (S0 : Store) : Prop := ws.length ≤ sizeLine ∧ ∀ {Γ' : Gm} H μ S, Γ'.K = Γ.K → Gr H0 μ0 H μ → Ok Γ' H μ S → (∀ n ∈ keep, S[n]? = S0[n]?) → (∀ v w, Rp Γ H0 μ0 v w → Rp Γ' H μ v w) →
  (∀ i, i < ws.length → J.go i H ∧ ∀ x H', J.yld i H x H' → ∃ w, ws[i]? = some w ∧ Same H H' ∧ Rp Γ' H' μ x w) ∧ J.stop ws.length H
abbrev DI := En → Mo (List W × List Nat)
def iOf (K : PySem.W.Frag) (mg : Str → Option Value) (E : L2.St → XK) (d : DI) : TI := fun σ H R => ∃ δ μ S ρ, Ok ⟨K, mg, δ⟩ H μ S ∧ Rσ ⟨K, mg, δ⟩ H μ σ ρ ∧ Res ⟨K, mg, δ⟩ (E σ) H μ (d ρ S) fun x H' μ' S' => ∀ J, Srv ⟨K, mg, δ⟩ J x.1 x.2 H' μ' S' → R J H'
theorem pi_of {X : Cx} {tg it : Expr} {t t' : TI} (h : PI X tg it t) (f : ∀ σ H R, t' σ H R → t σ H R) : PI X tg it t' := ⟨fun pins s σ H R I q => h.run pins s σ H R I (f σ H R q)⟩
def seqI (S : Store) : W → Option (List W × List Nat)
  | .tup ws => some (ws, [])
  | .cl ws => some (ws, [])
  | .lst n => (S[n]?).map fun ws => (ws, [n])
  | _ => none
def rdI (g : Store → Option (List W × List Nat)) : Mo (List W × List Nat) := fun S => match g S with
  | some x => .ok x S
  | none => .bad
/-- a list or a tuple -/
def iSeq (d : DE) : DI := fun ρ => bnd (d ρ) fun w => rdI fun S => seqI S w
section
variable {X : Cx} {E : L2.St → XK} {tg a : Expr}
theorem srv_tup {Γ : Gm} {H0 : Hp} {μ0 : List Addr} {S0 : Store} {p : Addr} {xs : List V} {ws : List W} (h : TupAt Γ H0 μ0 p xs) (l : xs.length ≤ sizeLine) (r : Rps Γ H0 μ0 xs ws) : Srv Γ (Itt Γ.K p) ws [] H0 μ0 S0 := by
  refine ⟨by rw [← r.len]; exact l, fun {Γ'} H μ S hK g k _ up => ?_⟩
  have h1 : SqT Γ.K H p xs := by
    have h0 := up (.ref p) (.tup ws) (.tup h l r)
    have := h.gr g
    exact this.sq
  refine ⟨fun i hi => ⟨⟨xs, xs[i]'(by rw [r.len]; exact hi), h1, List.getElem?_eq_getElem _⟩, fun x H' y => ?_⟩, ⟨xs, h1, by rw [r.len]; exact Nat.le_refl _⟩⟩
  obtain ⟨e, y⟩ := y
  subst e
  obtain ⟨w, e1, r1⟩ := r.get (y xs h1)
  exact ⟨w, e1, Same.refl _, up _ _ r1⟩
theorem srv_cl {Γ : Gm} {H0 : Hp} {μ0 : List Addr} {S0 : Store} {p : Addr} {xs : List V} {ws : List W} (h : H0 p = some (.lst xs)) (n : p ∉ μ0) (l : xs.length ≤ sizeLine) (r : Rps Γ H0 μ0 xs ws) : Srv Γ (Itl Γ.K p) ws [] H0 μ0 S0 := by
  refine ⟨by rw [← r.len]; exact l, fun {Γ'} H μ S hK g k _ up => ?_⟩
  have h1 : SqL Γ.K H p xs := .inl (.inl (g.keep _ _ h n).1)
  refine ⟨fun i hi => ⟨⟨xs, xs[i]'(by rw [r.len]; exact hi), h1, List.getElem?_eq_getElem _⟩, fun x H' y => ?_⟩, ⟨xs, h1, by rw [r.len]; exact Nat.le_refl _⟩⟩
  obtain ⟨e, y⟩ := y
  subst e
  obtain ⟨w, e1, r1⟩ := r.get (y xs h1)
  exact ⟨w, e1, Same.refl _, up _ _ r1⟩
theorem srv_lst {Γ : Gm} {H0 : Hp} {μ0 : List Addr} {S0 : Store} {n : Nat} {p : Addr} {ws : List W} (e0 : μ0[n]? = some p) (hq : Kd_ H0 p 0) (es : S0[n]? = some ws) (hl : ws.length ≤ sizeLine) : Srv Γ (Itl Γ.K p) ws [n] H0 μ0 S0 := by
  refine ⟨hl, fun {Γ'} H μ S hK g k hk up => ?_⟩
  have en := g.get e0
  obtain ⟨xs, us, e1, e2, l, r⟩ := k.lat en (g.kind _ _ (List.mem_of_getElem? e0) hq)
  rw [hk n (List.mem_singleton.mpr rfl), es] at e1
  cases e1
  have h1 : SqL Γ.K H p xs := .inl (.inl e2)
  refine ⟨fun i hi => ⟨⟨xs, xs[i]'(by rw [r.len]; exact hi), h1, List.getElem?_eq_getElem _⟩, fun x H' y => ?_⟩, ⟨xs, h1, by rw [r.len]; exact Nat.le_refl _⟩⟩
  obtain ⟨e, y⟩ := y
  subst e
  obtain ⟨w, e1, r1⟩ := r.get (y xs h1)
  exact ⟨w, e1, Same.refl _, r1⟩
theorem di_seq {d : DE} (h : PD X E a d) : PI X tg a (iOf X.K X.mg E (iSeq d)) := pi_of (pi_ei h) fun σ H R ⟨δ, μ, S, ρ, k, s, h⟩ =>
  ⟨δ, μ, S, ρ, k, s, Res.step h fun w S1 H1 μ1 g1 k1 h1 v rv => by
    unfold rdI at h1
    cases rv with
    | tup hh l r => exact ⟨_, rfl, .inr ⟨⟨_, hh.sq⟩, Res.now k1 h1 _ (srv_tup hh l r)⟩⟩
    | cl hh n m l r => exact ⟨_, rfl, .inl ⟨⟨_, .inl (.inl hh)⟩, Res.now k1 h1 _ (srv_cl hh n l r)⟩⟩
    | @lst a n hh hq =>
      obtain ⟨xs, ws, e1, e2, l, r⟩ := k1.lat hh hq
      have es : seqI S1 (.lst n) = some (ws, [n]) := by
        show (S1[n]?).map _ = _
        rw [e1]
        rfl
      simp only [es] at h1
      exact ⟨_, rfl, .inl ⟨⟨_, .inl (.inl e2)⟩, Res.now k1 h1 _ (srv_lst hh hq e1 (by rw [← r.len]; exact l))⟩⟩
    | _ => exact h1.elim⟩
/-- range(n), range(m, n) -/
def rgW (lo n : Int) : List W := (List.range (n - lo).toNat).map fun i : Nat => .int (lo + i)
def iRg1 (d : DA) : DI := fun ρ => bnd (d ρ) fun ws => rdI fun _ => match ws with
  | [.int n] => if szB n.toNat && decide (-1000000000 ≤ n) then some (rgW 0 n, []) else none
  | _ => none
theorem srv_rg {Γ : Gm} {H0 : Hp} {μ0 : List Addr} {S0 : Store} {lo n : Int} (hz : (n - lo).toNat ≤ sizeLine) : Srv Γ (Itr lo (n - lo).toNat) (rgW lo n) [] H0 μ0 S0 := by
  have hl : (rgW lo n).length = (n - lo).toNat := by unfold rgW; rw [List.length_map, List.length_range]
  refine ⟨by rw [hl]; exact hz, fun {Γ'} H μ S hK g k _ up => ?_⟩
  rw [hl]
  refine ⟨fun i hi => ⟨hi, fun x H' y => ?_⟩, Nat.le_refl _⟩
  obtain ⟨e, rfl⟩ := y
  subst e
  refine ⟨.int (lo + i), ?_, Same.refl _, .int _⟩
  unfold rgW
  rw [List.getElem?_map, List.getElem?_range hi]
  rfl
theorem di_rg1 {d : DA} {p pos : Pos} (hg : Gl X "range") (hm : X.mg "range" = none) (ha : PDA X E [a] d) (hs : starEach [a] X.env = [(false, eval a X.env)] := by rfl) : PI X tg (.Call (.Name "range" p) [a] [] pos) (iOf X.K X.mg E (iRg1 d)) := pi_of (pi_range1 hg hm ha hs) fun σ H R ⟨δ, μ, S, ρ, k, s, h⟩ =>
  ⟨δ, μ, S, ρ, k, s, Res.step h fun ws S1 H1 μ1 g1 k1 h1 vs rs => by
    unfold rdI at h1
    match ws, h1 with
    | [.int n], h1 =>
      obtain ⟨v, rfl, rx⟩ := rs.one rfl
      cases rx
      by_cases hz : (szB n.toNat && decide (-1000000000 ≤ n)) = true
      · simp only [hz, if_true] at h1
        obtain ⟨h2, h3⟩ := Bool.and_eq_true_iff.mp hz
        have h3 := of_decide_eq_true h3
        have h4 := of_decide_eq_true h2
        refine ⟨n, rfl, by omega, by omega, ?_⟩
        have q := Res.now k1 h1 (Itr 0 n.toNat) (by
          have z := srv_rg (Γ := ⟨X.K, X.mg, δ⟩) (H0 := H1) (μ0 := μ1) (S0 := S1) (lo := 0) (n := n) (by rw [Int.sub_zero]; exact sz_ok h2)
          rw [Int.sub_zero] at z
          exact z)
        exact q
      · simp only [hz] at h1
        exact h1.elim⟩
end
end Den

namespace Den
open PySem PySem.Spec PyProof.Rows L2 Bal
abbrev noE : L2.St → XK := fun _ _ _ _ => False
theorem not_app {a D : Addr} {μ δ : List Addr} (n : a ∉ μ) (m : a ∉ D :: δ) : a ∉ μ ++ [D] := fun z => by
  rcases List.mem_append.mp z with z | z
  · exact n z
  · rw [List.mem_singleton] at z
    exact m (by rw [z]; exact List.mem_cons_self ..)
mutual
theorem rp_put {Γ : Gm} {H : Hp} {μ : List Addr} {D : Addr} : ∀ {v : V} {w : W}, Rp (Γ.und D) H μ v w → Rp Γ H (μ ++ [D]) v w
  | _, _, .non => .non
  | _, _, .bl b => .bl b
  | _, _, .int i => .int i
  | _, _, .str x => .str x
  | _, _, .tup h l r => .tup (h.imp (fun ⟨e, n, m⟩ => ⟨e, not_app n m, fun z => m (List.mem_cons_of_mem _ z)⟩) id) l (rps_put r)
  | _, _, .cl h n m l r => .cl h (not_app n m) (fun z => m (List.mem_cons_of_mem _ z)) l (rps_put r)
  | _, _, .sc h r => .sc (h.imp (fun ⟨e, n, m⟩ => ⟨e, not_app n m, fun z => m (List.mem_cons_of_mem _ z)⟩) id) (rps_put r)
  | _, _, .lst h q => .lst (by rw [List.getElem?_append_left (List.getElem?_eq_some_iff.mp h).1]; exact h) q
  | _, _, .dct h q => .dct (by rw [List.getElem?_append_left (List.getElem?_eq_some_iff.mp h).1]; exact h) q
  | _, _, .dtt h q => .dtt (by rw [List.getElem?_append_left (List.getElem?_eq_some_iff.mp h).1]; exact h) q
  | _, _, .ins h q m => .ins (by rw [List.getElem?_append_left (List.getElem?_eq_some_iff.mp h).1]; exact h) q m
  | _, _, .exn m h n z hd nd zd l r => .exn m h (not_app n z) (fun y => z (List.mem_cons_of_mem _ y)) hd (not_app nd zd) (fun y => zd (List.mem_cons_of_mem _ y)) l (rps_put r)
  | _, _, .exn0 m h n z => .exn0 m h (not_app n z) (fun y => z (List.mem_cons_of_mem _ y))
  | _, _, .lam h n z r => .lam h (not_app n z) (fun y => z (List.mem_cons_of_mem _ y)) (rps_put r)
theorem rps_put {Γ : Gm} {H : Hp} {μ : List Addr} {D : Addr} : ∀ {vs : List V} {ws : List W}, Rps (Γ.und D) H μ vs ws → Rps Γ H (μ ++ [D]) vs ws
  | _, _, .nil => .nil
  | _, _, .cons a b => .cons (rp_put a) (rps_put b)
end
/-! ### comprehensions -/
def lcL (t : Tg) (tt : DT) (de : DE) (ρ : En) (S0 : Store) (keep : List Nat) : List W → Store → Out (List W)
  | [], S => .ok [] S
  | w :: ws, S => match setT S t w ρ with
    | none => .bad
    | some ρ1 => match tt ρ1 S with
      | .ok true S2 => match de ρ1 S2 with
        | .ok u S3 => if kept S0 S3 keep = true then (match lcL t tt de ρ S0 keep ws S3 with
            | .ok us S4 => .ok (u :: us) S4
            | _ => .bad) else .bad
        | _ => .bad
      | .ok false S2 => if kept S0 S2 keep = true then lcL t tt de ρ S0 keep ws S2 else .bad
      | _ => .bad
def dLc (kp : Kp) (vs : List Nat) (di : DI) (t : Tg) (tt : DT) (de : DE) : DE := fun ρ => bnd (di ρ) fun x => fun S1 => match lcL t tt de (wipeW ρ vs) S1 x.2 x.1 S1 with
  | .ok us S2 => newK kp us S2
  | _ => .bad
def dYes : DT := fun _ => ret true
section
variable {X : Cx} {E : L2.St → XK}
abbrev PDTs (X : Cx) (E : L2.St → XK) (es : List Expr) (d : DT) : Prop := PTs X es (ttOf X.K X.mg E d)
theorem dts_nil : PDTs X E [] dYes := ⟨fun pins s σ H Q I ⟨δ, μ, S, ρ, k, s', h⟩ => pts_nil.run pins s σ H Q I (Res.now k h)⟩
theorem dts_one {c : Expr} {d : DT} (h : PDT X E c d) : PDTs X E [c] d := pts_one h
theorem lc_ok {K : PySem.W.Frag} {mg : Str → Option Value} {kp : Kp} {vs : List Nat} {di : DI} {t : Tg} {tt : DT} {de : DE} {σ : L2.St} {H : Hp} {Q : VK} (hv : ∀ i ∈ slt t, i ∈ vs) (h : tOf K mg E (dLc kp vs di t tt de) σ H Q) :
    tLc (iOf K mg E di) (gT K t) (ttOf K mg noE tt) (tOf K mg noE de) vs σ H Q := by
  obtain ⟨δ, μ, S, ρ, k, s, h⟩ := h
  refine ⟨δ, μ, S, ρ, k, s, Res.step h fun x S1 H1 μ1 g1 k1 h1 J srv D nD => ?_⟩
  have s1 := rσ_gr g1 s
  obtain ⟨hlen, srv⟩ := srv
  cases e : lcL t tt de (wipeW ρ vs) S1 x.2 x.1 S1 with
  | bad => simp only [e] at h1; exact h1.elim
  | err _ _ _ _ => simp only [e] at h1; exact h1.elim
  | ok us S2 =>
    simp only [e] at h1
    have ΓD : Gm := (⟨K, mg, δ⟩ : Gm).und D
    -- the invariant: so many are done, their values in D; the rest is still to be gone through
    refine lc_gen (n := x.1.length) (fun i G => ∃ (μ2 : List Addr) (S3 : Store) (ys : List V) (done rest : List W), Ok ((⟨K, mg, δ⟩ : Gm).und D) G μ2 S3 ∧ Gr H1 μ1 G μ2 ∧ (∀ v w, Rp ⟨K, mg, δ⟩ H1 μ1 v w → Rp ((⟨K, mg, δ⟩ : Gm).und D) G μ2 v w) ∧ (∀ n ∈ x.2, S3[n]? = S1[n]?) ∧
        G D = some (.lst ys) ∧ Rps ((⟨K, mg, δ⟩ : Gm).und D) G μ2 ys done ∧ done.length ≤ i ∧ lcL t tt de (wipeW ρ vs) S1 x.2 (x.1.drop i) S3 = .ok rest S2 ∧ us = done ++ rest)
      ⟨μ1, S1, [], [], us, k1.into nD, ⟨⟨[], by simp⟩, fun a o ha hn _ => ⟨by rw [upd_ne (ne_of_none ha nD)]; exact ha, hn⟩, fun a k _ q => kd_new nD q, fun a o u _ e => by rw [upd_ne (ne_of_none e nD)]; exact e⟩, fun v w r => r.into nD, fun _ _ => rfl, upd_same, .nil, Nat.zero_le _, by rw [List.drop_zero]; exact e, rfl⟩
      (fun i G hi ⟨μ2, S3, ys, done, rest, k2, g2, up, hk, hD, rs, dl, e2, eu⟩ => ?_) (fun G ⟨μ2, S3, ys, done, rest, k2, g2, up, hk, hD, rs, dl, e2, eu⟩ => ?_) (fun i G v G2 hi ⟨μ2, S3, ys, done, rest, k2, g2, up, hk, hD, rs, dl, e2, eu⟩ hy => ?_) (fun G ⟨μ2, S3, ys, done, rest, k2, g2, up, hk, hD, rs, dl, e2, eu⟩ => ?_)
    · exact ((srv (Γ' := (⟨K, mg, δ⟩ : Gm).und D) G μ2 S3 rfl g2 k2 hk up).1 i hi).1
    · exact (srv (Γ' := (⟨K, mg, δ⟩ : Gm).und D) G μ2 S3 rfl g2 k2 hk up).2
    · obtain ⟨w, ew, sG, rw⟩ := ((srv (Γ' := (⟨K, mg, δ⟩ : Gm).und D) G μ2 S3 rfl g2 k2 hk up).1 i hi).2 v G2 hy
      have ed : x.1.drop i = w :: x.1.drop (i + 1) := by
        have := List.getElem?_eq_some_iff.mp ew
        rw [← this.2, List.drop_eq_getElem_cons hi]
      rw [ed] at e2
      unfold lcL at e2
      obtain ⟨k3, g3⟩ := k2.same sG
      have hD3 := sG _ _ hD
      cases e3 : setT S3 t w (wipeW ρ vs) with
      | none => simp only [e3] at e2; cases e2
      | some ρ1 =>
        simp only [e3] at e2
        have sw : Rσ ((⟨K, mg, δ⟩ : Gm).und D) G2 μ2 (wipe σ vs) (wipeW ρ vs) := rσ_wipeW ⟨s1.1, fun i w hw => let ⟨v, h1, h2⟩ := s1.2 i w hw; ⟨v, h1, (up v w h2).gr g3⟩⟩
        refine gT_ok (Γ := (⟨K, mg, δ⟩ : Gm).und D) k3 t rw sw e3 fun σ2 s2 hw => ⟨by rw [hw vs hv, wipe_wipe], ?_⟩
        -- what every way from here comes to
        have fin : ∀ (G4 : Hp) (μ4 : List Addr) (S4 : Store) (y : V) (u : W), Gr G2 μ2 G4 μ4 → Ok ((⟨K, mg, δ⟩ : Gm).und D) G4 μ4 S4 → Rp ((⟨K, mg, δ⟩ : Gm).und D) G4 μ4 y u → ∀ rest', lcL t tt de (wipeW ρ vs) S1 x.2 (x.1.drop (i + 1)) S4 = .ok rest' S2 → rest = u :: rest' → kept S1 S4 x.2 = true → ∃ acc, G4 D = some (.lst acc) ∧ acc.length < sizeLine ∧ ∃ (μ2 : List Addr) (S3 : Store) (ys : List V) (done rest : List W), Ok ((⟨K, mg, δ⟩ : Gm).und D) (upd G4 D (.lst (acc ++ [y]))) μ2 S3 ∧ Gr H1 μ1 (upd G4 D (.lst (acc ++ [y]))) μ2 ∧ (∀ v w, Rp ⟨K, mg, δ⟩ H1 μ1 v w → Rp ((⟨K, mg, δ⟩ : Gm).und D) (upd G4 D (.lst (acc ++ [y]))) μ2 v w) ∧ (∀ n ∈ x.2, S3[n]? = S1[n]?) ∧
            (upd G4 D (.lst (acc ++ [y]))) D = some (.lst ys) ∧ Rps ((⟨K, mg, δ⟩ : Gm).und D) (upd G4 D (.lst (acc ++ [y]))) μ2 ys done ∧ done.length ≤ i + 1 ∧ lcL t tt de (wipeW ρ vs) S1 x.2 (x.1.drop (i + 1)) S3 = .ok rest S2 ∧ us = done ++ rest := fun G4 μ4 S4 y u g4 k4 ry rest' e4 er hkp => by
          have mD : D ∈ ((⟨K, mg, δ⟩ : Gm).und D).δ := List.mem_cons_self ..
          have nDμ : D ∉ μ2 := (k2.dl D mD).2
          have hD4 := (g4.keep _ _ hD3 nDμ).1
          have nD4 := (g4.keep _ _ hD3 nDμ).2
          refine ⟨ys, hD4, ?_, μ4, S4, ys ++ [y], done ++ [u], rest', k4.at_D mD, ?_, fun v w r => Rp.at_ mD nD4 (((up v w r).gr g3).gr g4), fun n hn => kept_to hkp n hn, upd_same, ?_, by rw [List.length_append]; simp; omega, e4, by rw [eu, er, List.append_assoc]; rfl⟩
          · rw [rs.len]
            omega
          · have gg := g2.trans (g3.trans g4)
            exact ⟨gg.pre, fun a o ha hn nt => ⟨by rw [upd_ne (ne_of_none ha nD)]; exact (gg.keep a o ha hn nt).1, (gg.keep a o ha hn nt).2⟩, fun a k m ⟨u, eu, qu⟩ => let ⟨u', e', q'⟩ := gg.kind a k m ⟨u, eu, qu⟩; ⟨u', by rw [upd_ne (ne_of_none eu nD)]; exact e', q'⟩, fun a o u m eu => by rw [upd_ne (ne_of_none eu nD)]; exact gg.frz a o u m eu⟩
          · exact Rps.at_ mD nD4 (((rs.gr g3).gr g4).app (.cons ry .nil))
        cases e4 : tt ρ1 S3 with
        | bad => simp only [e4] at e2; cases e2
        | err _ _ _ _ => simp only [e4] at e2; cases e2
        | ok b S4 =>
          simp only [e4] at e2
          refine ⟨D :: δ, μ2, S3, ρ1, k3, s2, ?_⟩
          rw [e4]
          intro G4 μ4 g4 k4
          cases b with
          | true =>
            rw [if_pos rfl]
            cases e5 : de ρ1 S4 with
            | bad => simp only [e5] at e2; cases e2
            | err _ _ _ _ => simp only [e5] at e2; cases e2
            | ok u S5 =>
              simp only [e5] at e2
              refine ⟨D :: δ, μ4, S4, ρ1, k4, rσ_gr g4 s2, ?_⟩
              rw [e5]
              intro G5 μ5 g5 k5 y ry
              by_cases hkp : kept S1 S5 x.2 = true
              · rw [if_pos hkp] at e2
                cases e6 : lcL t tt de (wipeW ρ vs) S1 x.2 (x.1.drop (i + 1)) S5 with
                | bad => simp only [e6] at e2; cases e2
                | err _ _ _ _ => simp only [e6] at e2; cases e2
                | ok us' S6 =>
                  simp only [e6] at e2
                  cases e2
                  exact fin G5 μ5 S5 y u (g4.trans g5) k5 ry us' e6 rfl hkp
              · rw [if_neg hkp] at e2
                cases e2
          | false =>
            rw [if_neg (by decide)]
            by_cases hkp : kept S1 S4 x.2 = true
            · simp only [hkp, if_true] at e2
              have mD : D ∈ ((⟨K, mg, δ⟩ : Gm).und D).δ := List.mem_cons_self ..
              have nDμ : D ∉ μ2 := (k2.dl D mD).2
              exact ⟨μ4, S4, ys, done, rest, k4, g2.trans (g3.trans g4), fun v w r => ((up v w r).gr g3).gr g4, fun n hn => kept_to hkp n hn, (g4.keep _ _ hD3 nDμ).1, (rs.gr g3).gr g4, by omega, e2, eu⟩
            · simp only [hkp, if_false] at e2
              cases e2
    · rw [List.drop_length] at e2
      unfold lcL at e2
      cases e2
      rw [List.append_nil] at eu
      subst eu
      have mD : D ∈ ((⟨K, mg, δ⟩ : Gm).und D).δ := List.mem_cons_self ..
      have nDμ : D ∉ μ2 := (k2.dl D mD).2
      have nDδ : D ∉ δ := fun z => (k1.nδ nD) z
      have hl : ys.length ≤ sizeLine := by rw [rs.len]; omega
      cases kp with
      | cl => exact h1 _ _ g2 k2.out _ (.cl hD nDμ nDδ hl rs.out)
      | st =>
        -- D itself becomes the last list of the store
        have k4 : Ok ⟨K, mg, δ⟩ G (μ2 ++ [D]) (S2 ++ [us]) ∧ Gr H1 μ1 G (μ2 ++ [D]) := by
          have gD : ∀ v w, Rp ((⟨K, mg, δ⟩ : Gm).und D) G μ2 v w → Rp ⟨K, mg, δ⟩ G (μ2 ++ [D]) v w := fun v w r => rp_put r
          refine ⟨⟨by simp [k2.len], ?_, fun a ha => ?_, fun n a ea => ?_, k2.tb⟩, ⟨?_, fun a o ha hn nt => ?_, fun a k m h => g2.kind a k m h, fun a o u m h => g2.frz a o u m h⟩⟩
          · rw [List.nodup_append]
            refine ⟨k2.nd, by simp, fun a ha b hb => ?_⟩
            rw [List.mem_singleton] at hb
            subst hb
            exact fun z => nDμ (z ▸ ha)
          · obtain ⟨h1, h2⟩ := k2.dl a (List.mem_cons_of_mem _ ha)
            refine ⟨h1, fun z => ?_⟩
            rcases List.mem_append.mp z with z | z
            · exact h2 z
            · rw [List.mem_singleton] at z
              exact nDδ (z ▸ ha)
          · by_cases hn : n < μ2.length
            · rw [List.getElem?_append_left hn] at ea
              obtain ⟨ob, zs, qs, vs, e1, e2, en, l2, r2⟩ := k2.at_ n a ea
              exact ⟨ob, zs, qs, vs, by rw [List.getElem?_append_left (by rw [← k2.len]; exact hn)]; exact e1, e2, en, l2, rps_put r2⟩
            · rw [List.getElem?_append_right (by omega)] at ea
              have hn2 : n = μ2.length := by
                have := (List.getElem?_eq_some_iff.mp ea).1
                simp at this
                omega
              subst hn2
              simp at ea
              subst ea
              exact ⟨.lst ys, us, ys, us, by rw [k2.len, List.getElem?_append_right (Nat.le_refl _)]; simp, hD, ⟨rfl, rfl⟩, hl, rps_put rs⟩
          · obtain ⟨r, er⟩ := g2.pre
            exact ⟨r ++ [D], by rw [er, List.append_assoc]⟩
          · refine ⟨(g2.keep a o ha hn nt).1, fun z => ?_⟩
            rcases List.mem_append.mp z with z | z
            · exact (g2.keep a o ha hn nt).2 z
            · rw [List.mem_singleton] at z
              exact ne_of_none ha nD z
        refine h1 _ _ k4.2 k4.1 _ (.lst ?_ ⟨_, hD, rfl⟩)
        rw [← k2.len, List.getElem?_append_right (Nat.le_refl _), Nat.sub_self]
        rfl
variable {elt tg iter : Expr} {ifs : List Expr} {scope : Scope} {own : List (Str × Nat)} {pos : Pos} {di : DI} {t : Tg} {tt : DT} {de : DE}
theorem de_lc (kp : Kp) (hc : X.calm = true) (hN : X.N.Nodup) (hi : PI X tg iter (iOf X.K X.mg E di)) (ok : BlkOk X.N X.env.scope scope own)
    (hg : ∀ (s : Shared) (H : Hp) (C : Addr) (cl : List (Str × Addr)) (fp : List Addr), PG (X.blk s H scope (compEnvC scope cl C X.env) fp) tg (gT X.K t)) (ht : ∀ (s : Shared) (H : Hp) (C : Addr) (cl : List (Str × Addr)) (fp : List Addr), PDTs (X.blk s H scope (compEnvC scope cl C X.env) fp) noE ifs tt)
    (he : ∀ (s : Shared) (H : Hp) (C : Addr) (cl : List (Str × Addr)) (fp : List Addr), PD (X.blk s H scope (compEnvC scope cl C X.env) fp) noE elt de) (hv : ∀ i ∈ slt t, i ∈ own.map (·.2) := by decide) (hs : ∀ x, foldedSetIterable iter X.env x = pure x := by intro _; rfl) :
    PD X E (.ListComp elt [⟨tg, iter, ifs, 0⟩] scope pos) (dLc kp (own.map (·.2)) di t tt de) := pe_of (pe_lc hc hN hi ok hg ht he hs) fun _ _ _ h => lc_ok hv h
end
end Den

namespace Den
open PySem PySem.Spec PyProof.Rows L2 Bal
/-! ### statements -/
inductive Fl where
  | nx (ρ : En) | rt (w : W) | bk (ρ : En) | ct (ρ : En) | er (c f : Str) (ws : List W) (ρ : En)
abbrev DS := En → Mo Fl
def EndS (Γ : Gm) (E : L2.St → XK) (D : Ends) (H : Hp) (μ : List Addr) : Fl → Prop
  | .nx ρ => ∀ σ, Rσ Γ H μ σ ρ → D.nx σ H
  | .rt w => ∀ v, Rp Γ H μ v w → D.rt v H
  | .bk ρ => ∀ σ, Rσ Γ H μ σ ρ → D.bk σ H
  | .ct ρ => ∀ σ, Rσ Γ H μ σ ρ → D.ct σ H
  | .er c f ws ρ => ∀ σ, Rσ Γ H μ σ ρ → ∀ cls d, RpX Γ H μ cls d c f ws → E σ cls d H
def ResS (Γ : Gm) (E : L2.St → XK) (D : Ends) (H : Hp) (μ : List Addr) : Out Fl → Prop
  | .ok fl S' => ∀ H' μ', Gr H μ H' μ' → Ok Γ H' μ' S' → EndS Γ E D H' μ' fl
  | _ => False
def tsOf (K : PySem.W.Frag) (mg : Str → Option Value) (E : L2.St → XK) (d : DS) : TS := fun D σ H => ∃ δ μ S ρ, Ok ⟨K, mg, δ⟩ H μ S ∧ Rσ ⟨K, mg, δ⟩ H μ σ ρ ∧ ResS ⟨K, mg, δ⟩ E D H μ (d ρ S)
abbrev PDS (X : Cx) (E : L2.St → XK) (st : Stmt) (d : DS) : Prop := PS X st (tsOf X.K X.mg E d)
abbrev PDSs (X : Cx) (E : L2.St → XK) (st : List Stmt) (d : DS) : Prop := PSs X st (tsOf X.K X.mg E d)
theorem ps_of {X : Cx} {st : Stmt} {t t' : TS} (h : PS X st t) (f : ∀ D σ H, t' D σ H → t D σ H) : PS X st t' := ⟨fun pins s σ H D I q => h.run pins s σ H D I (f D σ H q)⟩
theorem pss_of {X : Cx} {st : List Stmt} {t t' : TS} (h : PSs X st t) (f : ∀ D σ H, t' D σ H → t D σ H) : PSs X st t' := ⟨fun pins s σ H D I q => h.run pins s σ H D I (f D σ H q)⟩
/-- an expression's value, then a statement's rest -/
def lft {α : Type} (m : Mo α) (ρ : En) (f : α → Mo Fl) : Mo Fl := fun S => match m S with
  | .ok a S' => f a S'
  | .err c g ws S' => .ok (.er c g ws ρ) S'
  | .bad => .bad
section
variable {Γ : Gm} {E : L2.St → XK} {D : Ends} {H H' : Hp} {μ μ' : List Addr} {S : Store}
theorem ResS.gr {o : Out Fl} (g : Gr H μ H' μ') (h : ResS Γ E D H μ o) : ResS Γ E D H' μ' o := by
  cases o with
  | ok a S' => exact fun H2 μ2 g2 k => h H2 μ2 (g.trans g2) k
  | err c f ws S' => exact h
  | bad => exact h
theorem ResS.step {α : Type} {m : Mo α} {f : α → Mo Fl} {σ : L2.St} {ρ : En} {q : α → Hp → List Addr → Store → Prop} (s : Rσ Γ H μ σ ρ) (h : ResS Γ E D H μ (lft m ρ f S))
    (n : ∀ a S' H' μ', Gr H μ H' μ' → Ok Γ H' μ' S' → ResS Γ E D H' μ' (f a S') → q a H' μ' S') : Res Γ (E σ) H μ (m S) q := by
  unfold lft at h
  cases e : m S with
  | ok a S' =>
    rw [e] at h
    exact fun H' μ' g k => n a S' H' μ' g k (ResS.gr g h)
  | err c g ws S' =>
    rw [e] at h
    exact fun H' μ' g k cls d r => h H' μ' g k σ (rσ_gr g s) cls d r
  | bad =>
    rw [e] at h
    exact h
theorem ResS.now {fl : Fl} (k : Ok Γ H μ S) (h : ResS Γ E D H μ (.ok fl S)) : EndS Γ E D H μ fl := h H μ Gr.refl k
end
section
variable {X : Cx} {E : L2.St → XK} {e a b c tg iter : Expr} {pos : Pos} {st : Stmt} {rest body els : List Stmt} {d : DE} {dt : DT} {s1 s2 : DS}
def sNil : DS := fun ρ => ret (.nx ρ)
def sSeq (s t : DS) : DS := fun ρ S => match s ρ S with
  | .ok (.nx ρ') S' => t ρ' S'
  | o => o
theorem dss_nil : PDSs X E [] sNil := pss_of pss_nil fun D σ H ⟨δ, μ, S, ρ, k, s, h⟩ => ResS.now k h σ s
theorem dss_one (h : PDS X E st s1) : PDSs X E [st] s1 := pss_one h
theorem dss_cons (h1 : PDS X E st s1) (h2 : PDSs X E rest s2) : PDSs X E (st :: rest) (sSeq s1 s2) := pss_of (pss_cons h1 h2) fun D σ H ⟨δ, μ, S, ρ, k, s, h⟩ => by
  refine ⟨δ, μ, S, ρ, k, s, ?_⟩
  unfold sSeq at h
  cases e1 : s1 ρ S with
  | bad => rw [e1] at h; exact h
  | err _ _ _ _ => rw [e1] at h; exact h
  | ok fl S1 =>
    rw [e1] at h
    intro H1 μ1 g1 k1
    cases fl with
    | nx ρ1 => exact fun σ1 q => ⟨δ, μ1, S1, ρ1, k1, q, ResS.gr g1 h⟩
    | rt w => exact h H1 μ1 g1 k1
    | bk ρ1 => exact h H1 μ1 g1 k1
    | ct ρ1 => exact h H1 μ1 g1 k1
    | er _ _ _ _ => exact h H1 μ1 g1 k1
def sRet (d : DE) : DS := fun ρ => lft (d ρ) ρ fun w => ret (.rt w)
theorem ds_ret (h : PD X E e d) : PDS X E (.Return (some e) pos) (sRet d) := ps_of (ps_ret h) fun D σ H ⟨δ, μ, S, ρ, k, s, h⟩ =>
  ⟨δ, μ, S, ρ, k, s, ResS.step s h fun w S1 H1 μ1 g1 k1 h1 v rv => ResS.now k1 h1 v rv⟩
def sDrop (d : DE) : DS := fun ρ => lft (d ρ) ρ fun _ => ret (.nx ρ)
theorem ds_expr (h : PD X E e d) (hs : swapsWith e none pos.line X.env = pure false := by rfl) : PDS X E (.Expr e pos) (sDrop d) := ps_of (ps_expr h hs) fun D σ H ⟨δ, μ, S, ρ, k, s, h⟩ =>
  ⟨δ, μ, S, ρ, k, s, ResS.step s h fun w S1 H1 μ1 g1 k1 h1 v rv => ResS.now k1 h1 σ (rσ_gr g1 s)⟩
def sIf (t : DT) (s u : DS) : DS := fun ρ => lft (t ρ) ρ fun b => if b = true then s ρ else u ρ
theorem ds_if (hc : PDT X E c dt) (ha : PDSs X E body s1) (hb : PDSs X E els s2) : PDS X E (.If c body els pos) (sIf dt s1 s2) := ps_of (ps_if hc ha hb) fun D σ H ⟨δ, μ, S, ρ, k, s, h⟩ =>
  ⟨δ, μ, S, ρ, k, s, ResS.step s h fun w S1 H1 μ1 g1 k1 h1 => by
    cases w with
    | true => rw [if_pos rfl] at h1 ⊢; exact ⟨δ, μ1, S1, ρ, k1, rσ_gr g1 s, h1⟩
    | false => rw [if_neg (by decide)] at h1 ⊢; exact ⟨δ, μ1, S1, ρ, k1, rσ_gr g1 s, h1⟩⟩
/-! ### assignments -/
def sAsg (t : Tg) (d : DE) : DS := fun ρ => lft (d ρ) ρ fun w S => match setT S t w ρ with
  | some ρ' => .ok (.nx ρ') S
  | none => .bad
abbrev sSet (i : Nat) (d : DE) : DS := sAsg (.nm i) d
theorem asg_ok {K : PySem.W.Frag} {mg : Str → Option Value} {t : Tg} {D : Ends} {σ : L2.St} {H : Hp} (h : tsOf K mg E (sAsg t d) D σ H) : tOf K mg E d σ H fun x H1 => gT K t x σ H1 D.nx := by
  obtain ⟨δ, μ, S, ρ, k, s, h⟩ := h
  refine ⟨δ, μ, S, ρ, k, s, ResS.step s h fun w S1 H1 μ1 g1 k1 h1 v rv => ?_⟩
  cases e1 : setT S1 t w ρ with
  | none => rw [e1] at h1; exact h1.elim
  | some ρ' =>
    rw [e1] at h1
    exact gT_ok (Γ := ⟨K, mg, δ⟩) k1 t rv (rσ_gr g1 s) e1 fun σ' s' _ => ResS.now k1 h1 σ' s'
theorem ds_set (i : Nat) {x : Str} {p' : Pos} (hN : X.N.Nodup) (h : PD X E e d) (hi : X.N[i]? = some x := by rfl) (hx : Loc X.env.scope x := by first | exact .inl rfl | exact .inr rfl) (hs : swapsWith e (some (.Name x p')) pos.line X.env = pure false := by rfl) (hf : X.fn x = true ∨ X.env.scope.names.lookup x = some .local := by first | exact .inl rfl | exact .inr rfl | assumption) :
    PDS X E (.Assign [.Name x p'] e pos) (sSet i d) := ps_of (ps_set (i := i) hN hi hx h hs hf) fun D σ H h => by
  have h := asg_ok h
  unfold gT at h
  exact h
theorem ds_asg {t : Tg} (h : PD X E e d) (hg : PG X tg (gT X.K t)) (hs : swapsWithSole [tg] e pos.line X.env = pure false := by rfl) (hw : swappedStores [tg] e X.env = pure none := by rfl)
    (h1 : (assignEach [tg] X.env).map (·.2) = [assign tg X.env] := by rfl) : PDS X E (.Assign [tg] e pos) (sAsg t d) := ps_of (ps_asg h hg hs hw h1) fun D σ H h => asg_ok h
/-- a, b = x, y -/
theorem ds_par {i j : Nat} {x y : Str} {da db : DE} {px py pt : Pos} {kt k2 pt2} (hc : X.calm = true) (hN : X.N.Nodup) (ha : PD X E a da) (hb : PD X E b db) (hi : X.N[i]? = some x := by rfl) (hj : X.N[j]? = some y := by rfl) (hij : i ≠ j := by decide)
    (hx : X.env.scope.names.lookup x = some .local := by rfl) (hy : X.env.scope.names.lookup y = some .local := by rfl) (hs1 : starEach [a, b] X.env = (false, eval a X.env) :: starEach [b] X.env := by rfl) (hs2 : starEach [b] X.env = (false, eval b X.env) :: starEach [] X.env := by rfl)
    (hw : swappedStores [.Tuple [.Name x px, .Name y py] kt pt] (.Tuple [a, b] k2 pt2) X.env = pure (some [x, y]) := by rfl)
    (hs : swapsWithSole [.Tuple [.Name x px, .Name y py] kt pt] (.Tuple [a, b] k2 pt2) pos.line X.env = pure false := by rfl) :
    PDS X E (.Assign [.Tuple [.Name x px, .Name y py] kt pt] (.Tuple [a, b] k2 pt2) pos) (sAsg (.tp [.nm i, .nm j]) (dTup (dCons da (dCons db dNil)))) :=
  ps_of (ps_par hc hN hi hj hij hx hy (da_cons ha (da_cons hb da_nil hs2) hs1) hw hs) fun D σ H ⟨δ, μ, S, ρ, k, s, h⟩ => by
    have h2 : ResS ⟨X.K, X.mg, δ⟩ E D H μ (lft (bnd (dCons da (dCons db dNil) ρ) mkT) ρ (fun w S => match setT S (.tp [.nm i, .nm j]) w ρ with | some ρ' => .ok (.nx ρ') S | none => .bad) S) := h
    refine ⟨δ, μ, S, ρ, k, s, Res.step (q := fun w H' μ' S' => ResS ⟨X.K, X.mg, δ⟩ E D H' μ' (match setT S' (.tp [.nm i, .nm j]) w ρ with | some ρ' => .ok (.nx ρ') S' | none => .bad)) (ResS.step s h2 fun w S1 H1 μ1 g1 k1 h1 => h1) fun ws S1 H1 μ1 g1 k1 h1 vs rs => ?_⟩
    unfold mkT at h1
    by_cases hz : szB ws.length = true
    · rw [if_pos hz] at h1
      have h1 := Res.now k1 h1
      match ws, rs, h1 with
      | [w1, w2], rs, h1 =>
        obtain ⟨v, u, rfl, rv, ru⟩ := rs.two rfl
        have e : setT S1 (.tp [.nm i, .nm j]) (.tup [w1, w2]) ρ = some ((ρ.set i (some w1)).set j (some w2)) := by
          simp [setT, setTs, itmsS]
        rw [e] at h1
        exact ⟨v, u, rfl, ResS.now k1 h1 _ (rσ_set (rσ_set (rσ_gr g1 s) rv) ru)⟩
      | [], rs, h1 => simp [setT, setTs, itmsS] at h1; exact h1.elim
      | [w1], rs, h1 => simp [setT, setTs, itmsS] at h1; exact h1.elim
      | w1 :: w2 :: w3 :: r, rs, h1 => simp [setT, setTs, itmsS] at h1; exact h1.elim
    · rw [if_neg hz] at h1
      exact h1.elim
/-! ### loops -/
def forL (t : Tg) (b : DS) (keep : List Nat) (S0 : Store) : List W → En → Store → Out Fl
  | [], ρ, S => .ok (.nx ρ) S
  | w :: ws, ρ, S => match setT S t w ρ with
    | none => .bad
    | some ρ1 => match b ρ1 S with
      | .ok (.nx ρ2) S2 => if kept S0 S2 keep = true then forL t b keep S0 ws ρ2 S2 else .bad
      | .ok (.ct ρ2) S2 => if kept S0 S2 keep = true then forL t b keep S0 ws ρ2 S2 else .bad
      | .ok (.bk ρ2) S2 => .ok (.nx ρ2) S2
      | .ok (.rt w) S2 => .ok (.rt w) S2
      | .ok (.er c f us ρ2) S2 => .ok (.er c f us ρ2) S2
      | _ => .bad
def sFor (di : DI) (t : Tg) (b : DS) : DS := fun ρ => lft (di ρ) ρ fun x S => forL t b x.2 S x.1 ρ S
theorem ds_for {di : DI} {t : Tg} {bd : DS} (hp : PassesOwn (model X.prog X.w) X.A X.env X.xe) (hc : X.calm = true) (hi : PI X tg iter (iOf X.K X.mg E di)) (hg : PG X tg (gT X.K t)) (hb : PDSs X E body bd)
    (hs : ∀ x, foldedSetIterable iter X.env x = pure x := by intro _; rfl) : PDS X E (.For tg iter body [] pos) (sFor di t bd) := ps_of (ps_for hp hc hi hg hb hs) fun D σ H ⟨δ, μ, S, ρ, k, s, h⟩ =>
  ⟨δ, μ, S, ρ, k, s, ResS.step s h fun x S1 H1 μ1 g1 k1 h1 J srv => by
    obtain ⟨hlen, srv⟩ := srv
    refine for_gen (n := x.1.length) (fun i τ G => ∃ (μ2 : List Addr) (S2 : Store) (ρ2 : En), Ok ⟨X.K, X.mg, δ⟩ G μ2 S2 ∧ Gr H1 μ1 G μ2 ∧ Rσ ⟨X.K, X.mg, δ⟩ G μ2 τ ρ2 ∧ (∀ n ∈ x.2, S2[n]? = S1[n]?) ∧ ResS ⟨X.K, X.mg, δ⟩ E D G μ2 (forL t bd x.2 S1 (x.1.drop i) ρ2 S2))
      ⟨μ1, S1, ρ, k1, Gr.refl, rσ_gr g1 s, fun _ _ => rfl, by rw [List.drop_zero]; exact h1⟩ (fun i τ G hi ⟨μ2, S2, ρ2, k2, g2, s2, hk, h2⟩ => ?_) (fun τ G ⟨μ2, S2, ρ2, k2, g2, s2, hk, h2⟩ => ?_) (fun i τ G v G2 hi ⟨μ2, S2, ρ2, k2, g2, s2, hk, h2⟩ hy => ?_) (fun τ G ⟨μ2, S2, ρ2, k2, g2, s2, hk, h2⟩ => ?_)
    · exact ((srv (Γ' := ⟨X.K, X.mg, δ⟩) G μ2 S2 rfl g2 k2 hk (fun v w r => r.gr g2)).1 i hi).1
    · exact (srv (Γ' := ⟨X.K, X.mg, δ⟩) G μ2 S2 rfl g2 k2 hk (fun v w r => r.gr g2)).2
    · obtain ⟨w, ew, sG, rw⟩ := ((srv (Γ' := ⟨X.K, X.mg, δ⟩) G μ2 S2 rfl g2 k2 hk (fun v w r => r.gr g2)).1 i hi).2 v G2 hy
      have ed : x.1.drop i = w :: x.1.drop (i + 1) := by
        have := List.getElem?_eq_some_iff.mp ew
        rw [← this.2, List.drop_eq_getElem_cons hi]
      rw [ed] at h2
      unfold forL at h2
      obtain ⟨k3, g3⟩ := k2.same sG
      cases e3 : setT S2 t w ρ2 with
      | none => simp only [e3] at h2; exact h2.elim
      | some ρ3 =>
        simp only [e3] at h2
        refine gT_ok (Γ := ⟨X.K, X.mg, δ⟩) k3 t rw (rσ_gr g3 s2) e3 fun σ4 s4 _ => ⟨δ, μ2, S2, ρ3, k3, s4, ?_⟩
        cases e4 : bd ρ3 S2 with
        | bad => simp only [e4] at h2; exact h2.elim
        | err _ _ _ _ => simp only [e4] at h2; exact h2.elim
        | ok fl S4 =>
          simp only [e4] at h2
          intro G5 μ5 g5 k5
          have h2 := ResS.gr (g3.trans g5) h2
          have again : ∀ (ρ6 : En), ResS ⟨X.K, X.mg, δ⟩ E D G5 μ5 (if kept S1 S4 x.2 = true then forL t bd x.2 S1 (x.1.drop (i + 1)) ρ6 S4 else .bad) → ∀ σ6, Rσ ⟨X.K, X.mg, δ⟩ G5 μ5 σ6 ρ6 → ∃ (μ2 : List Addr) (S2 : Store) (ρ2 : En), Ok ⟨X.K, X.mg, δ⟩ G5 μ2 S2 ∧ Gr H1 μ1 G5 μ2 ∧ Rσ ⟨X.K, X.mg, δ⟩ G5 μ2 σ6 ρ2 ∧ (∀ n ∈ x.2, S2[n]? = S1[n]?) ∧ ResS ⟨X.K, X.mg, δ⟩ E D G5 μ2 (forL t bd x.2 S1 (x.1.drop (i + 1)) ρ2 S2) := fun ρ6 h6 σ6 s6 => by
            by_cases hkp : kept S1 S4 x.2 = true
            · rw [if_pos hkp] at h6
              exact ⟨μ5, S4, ρ6, k5, g2.trans (g3.trans g5), s6, fun n hn => kept_to hkp n hn, h6⟩
            · rw [if_neg hkp] at h6
              exact h6.elim
          cases fl with
          | nx ρ6 => exact again ρ6 h2
          | ct ρ6 => exact again ρ6 h2
          | bk ρ6 => exact fun σ6 s6 => ResS.now k5 h2 σ6 s6
          | rt w => exact fun v r => ResS.now k5 h2 v r
          | er c f us ρ6 => exact fun σ6 s6 => ResS.now k5 h2 σ6 s6
    · rw [List.drop_length] at h2
      unfold forL at h2
      exact ResS.now k2 h2 τ s2⟩
def whL (t : DT) (b : DS) : Nat → En → Store → Out Fl
  | 0, _, _ => .bad
  | n + 1, ρ, S => lft (t ρ) ρ (fun c => if c = true then (fun S1 => match b ρ S1 with
      | .ok (.nx ρ2) S2 => whL t b n ρ2 S2
      | .ok (.ct ρ2) S2 => whL t b n ρ2 S2
      | .ok (.bk ρ2) S2 => .ok (.nx ρ2) S2
      | .ok (.rt w) S2 => .ok (.rt w) S2
      | .ok (.er c f us ρ2) S2 => .ok (.er c f us ρ2) S2
      | _ => .bad) else ret (.nx ρ)) S
def sWhile (n : Nat) (t : DT) (b : DS) : DS := whL t b n
theorem ds_while (n : Nat) {bd : DS} (hp : PassesOwn (model X.prog X.w) X.A X.env X.xe) (hc : PDT X E c dt) (hb : PDSs X E body bd) : PDS X E (.While c body [] pos) (sWhile n dt bd) := ps_of (ps_while hp hc hb) fun D σ H ⟨δ, μ, S, ρ, k, s, h⟩ => by
  refine ⟨fun m τ G => ∃ (μ2 : List Addr) (S2 : Store) (ρ2 : En), Ok ⟨X.K, X.mg, δ⟩ G μ2 S2 ∧ Rσ ⟨X.K, X.mg, δ⟩ G μ2 τ ρ2 ∧ ResS ⟨X.K, X.mg, δ⟩ E D G μ2 (whL dt bd m ρ2 S2), ⟨n, μ, S, ρ, k, s, h⟩, ?_⟩
  rintro m τ G ⟨μ2, S2, ρ2, k2, s2, h2⟩
  cases m with
  | zero => exact h2.elim
  | succ m =>
    unfold whL at h2
    refine ⟨δ, μ2, S2, ρ2, k2, s2, ResS.step s2 h2 fun b S3 H3 μ3 g3 k3 h3 => ?_⟩
    cases b with
    | false => rw [if_neg (by decide)] at h3 ⊢; exact ResS.now k3 h3 τ (rσ_gr g3 s2)
    | true =>
      rw [if_pos rfl] at h3 ⊢
      refine ⟨fun τ' G' => ∃ (μ2 : List Addr) (S2 : Store) (ρ2 : En), Ok ⟨X.K, X.mg, δ⟩ G' μ2 S2 ∧ Rσ ⟨X.K, X.mg, δ⟩ G' μ2 τ' ρ2 ∧ ResS ⟨X.K, X.mg, δ⟩ E D G' μ2 (whL dt bd m ρ2 S2), fun τ' G' h => ⟨m, Nat.lt_succ_self m, h⟩, δ, μ3, S3, ρ2, k3, rσ_gr g3 s2, ?_⟩
      cases e4 : bd ρ2 S3 with
      | bad => simp only [e4] at h3; exact h3.elim
      | err _ _ _ _ => simp only [e4] at h3; exact h3.elim
      | ok fl S4 =>
        simp only [e4] at h3
        intro G5 μ5 g5 k5
        have h3 := ResS.gr g5 h3
        cases fl with
        | nx ρ6 => exact fun σ6 s6 => ⟨μ5, S4, ρ6, k5, s6, h3⟩
        | ct ρ6 => exact fun σ6 s6 => ⟨μ5, S4, ρ6, k5, s6, h3⟩
        | bk ρ6 => exact fun σ6 s6 => ResS.now k5 h3 σ6 s6
        | rt w => exact fun v r => ResS.now k5 h3 v r
        | er c f us ρ6 => exact fun σ6 s6 => ResS.now k5 h3 σ6 s6
end
end Den

namespace Den
open PySem PySem.Spec PyProof.Rows L2 Bal
/-! ### methods of lists -/
def MtW (K : PySem.W.Frag) (mg : Str → Option Value) (r : V → List V → Hp → VK → Prop) (f : Store → W → List W → Option (W × Store)) : Prop := ∀ {δ : List Addr} {H : Hp} {μ : List Addr} {S S' : Store} {v : V} {vs : List V} {x w : W} {ws : List W} {Q : VK}, Ok ⟨K, mg, δ⟩ H μ S → Rp ⟨K, mg, δ⟩ H μ v x → Rps ⟨K, mg, δ⟩ H μ vs ws → f S x ws = some (w, S') →
  (∀ z H', Gr H μ H' μ → Ok ⟨K, mg, δ⟩ H' μ S' → Rp ⟨K, mg, δ⟩ H' μ z w → Q z H') → r v vs H Q
def lsB : W → Bool
  | .cl _ => true
  | .lst _ => true
  | _ => false
def wrS (g : Store → Option (W × Store)) : Mo W := fun S => match g S with
  | some (w, S') => .ok w S'
  | none => .bad
def dMth (f : Store → W → List W → Option (W × Store)) (d : DE) (da : DA) : DE := fun ρ => bnd (d ρ) fun x => if lsB x = true then bnd (da ρ) fun ws => wrS fun S => f S x ws else bad
section
variable {X : Cx} {E : L2.St → XK} {o e a b : Expr} {es : List Expr} {name : Str} {apos cpos pos p : Pos} {idn : String} {K : PySem.W.Frag} {mg : Str → Option Value} {Γ : Gm} {H : Hp} {μ : List Addr} {S : Store}
theorem ls_ty (k : Ok Γ H μ S) {v : V} {x : W} (r : Rp Γ H μ v x) (h : lsB x = true) : tyV Γ.K "list" v H := by
  cases r with
  | cl hh n m l q => exact .inl ⟨rfl, _, .inl (.inl hh)⟩
  | lst hh hq =>
    obtain ⟨xs, ws, _, e2, _⟩ := k.lat hh hq
    exact .inl ⟨rfl, _, .inl (.inl e2)⟩
  | _ => cases h
theorem mth_ok {r : V → List V → Hp → VK → Prop} {f : Store → W → List W → Option (W × Store)} {d : DE} {da : DA} (hf : MtW K mg r f) {σ : L2.St} {Q : VK} (h : tOf K mg E (dMth f d da) σ H Q) : tBM K "list" r (tOf K mg E d) (taOf K mg E da) σ H Q := by
  obtain ⟨δ, μ, S, ρ, k, s, h⟩ := h
  refine ⟨δ, μ, S, ρ, k, s, Res.step h fun x S1 H1 μ1 g1 k1 h1 v rv => ?_⟩
  by_cases hb : lsB x = true
  · rw [if_pos hb] at h1
    refine ⟨ls_ty k1 rv hb, δ, μ1, S1, ρ, k1, rσ_gr g1 s, Res.step h1 fun ws S2 H2 μ2 g2 k2 h2 vs rs => ?_⟩
    unfold wrS at h2
    cases e1 : f S2 x ws with
    | none => simp only [e1] at h2; exact h2.elim
    | some y =>
      simp only [e1] at h2
      exact hf k2 (rv.gr g2) rs e1 fun z H' g k r => h2 H' μ2 g k z r
  · rw [if_neg hb] at h1
    exact h1.elim
theorem de_mth {r : V → List V → Hp → VK → Prop} {f : Store → W → List W → Option (W × Store)} {d : DE} {da : DA} (slot : Slot "list" name idn) (hty : typeOf (.builtin idn) = pure (.type "method_descriptor")) (hm : MtR X idn r) (hf : MtW X.K X.mg r f) (ho : PD X E o d) (ha : PDA X E (e :: es) da)
    (hbase : attributeBase o name X.env (eval o X.env) = eval o X.env := by rfl) (hfew : ((backTo cpos (starEach (e :: es) X.env)).all (fun x => !x.1) && (backToKw cpos (keywordEach [] X.env)).all (fun x => x.1.isSome) && decide ((e :: es).length + ([] : List Keyword).length + (if ([] : List Keyword).isEmpty then 0 else 1) < 30)) = true := by rfl) (hline : (apos.endLine == cpos.line) = true := by rfl) (hs : starEach (e :: es) X.env = (false, eval e X.env) :: starEach es X.env := by rfl) (hplain : (backTo cpos (starEach es X.env)).any (·.1) = false := by rfl) :
    PD X E (.Call (.Attribute o name apos) (e :: es) [] cpos) (dMth f d da) := pe_of (pe_bm PySem.F.plainAttrs_list slot hty hm ho ha hbase hfew hline hs hplain) fun _ _ _ h => mth_ok hf h
/-- the n-th list of the store changed -/
def chS (S : Store) (n : Nat) (g : List W → Option (W × List W)) : Option (W × Store) := match S[n]? with
  | some ws => match g ws with
    | some (w, us) => if szB us.length = true then some (w, S.set n us) else none
    | none => none
  | none => none
theorem chS_some {n : Nat} {g : List W → Option (W × List W)} {w : W} {S' : Store} (e : chS S n g = some (w, S')) : ∃ ws us, S[n]? = some ws ∧ g ws = some (w, us) ∧ us.length ≤ sizeLine ∧ S' = S.set n us := by
  unfold chS at e
  cases e1 : S[n]? with
  | none => rw [e1] at e; cases e
  | some ws =>
    rw [e1] at e
    cases e2 : g ws with
    | none => simp only [e2] at e; cases e
    | some y =>
      obtain ⟨w', us⟩ := y
      simp only [e2] at e
      by_cases hz : szB us.length = true
      · rw [if_pos hz] at e
        cases e
        exact ⟨ws, us, rfl, e2, sz_ok hz, rfl⟩
      · rw [if_neg hz] at e
        cases e
def fAppend (S : Store) : W → List W → Option (W × Store)
  | .lst n, [y] => chS S n fun ws => if szB (ws.length + 1) = true then some (.non, ws ++ [y]) else none
  | _, _ => none
theorem fAppend_ok : MtW K mg rAppend fAppend := by
  intro δ H μ S S' v vs x w ws Q k rx rs e q
  cases rx with
  | @lst a n hh hq =>
    match ws, rs, e with
    | [y], rs, e =>
      obtain ⟨u, rfl, ry⟩ := rs.one rfl
      obtain ⟨zs, us, e1, e2, l, rfl⟩ := chS_some (show chS S n _ = _ from e)
      obtain ⟨xs, zs', e3, e4, l4, r4⟩ := k.lat hh hq
      rw [e1] at e3
      cases e3
      by_cases hz : szB (zs.length + 1) = true
      · rw [if_pos hz] at e2
        cases e2
        have hl : xs.length + 1 ≤ sizeLine := by rw [r4.len]; exact sz_ok hz
        obtain ⟨k2, g2⟩ := k.set hh hq (xs := xs ++ [u]) (by rw [List.length_append]; exact hl) (r4.app (.cons ry .nil))
        exact ⟨a, xs, u, rfl, rfl, e4, by omega, q _ _ g2 k2 .non⟩
      · rw [if_neg hz] at e2
        cases e2
  | _ => cases e
def fInsert (S : Store) : W → List W → Option (W × Store)
  | .lst n, [.int i, y] => chS S n fun ws => if szB (ws.length + 1) && decide (0 ≤ i ∧ i < 2 ^ 63) then some (.non, ws.take i.toNat ++ [y] ++ ws.drop i.toNat) else none
  | _, _ => none
theorem fInsert_ok : MtW K mg (fun x vs H Q => ∃ (l : Addr) (xs : List V) (i : Int) (y : V), x = .ref l ∧ vs = [.int i, y] ∧ H l = some (.lst xs) ∧ xs.length < sizeLine ∧ 0 ≤ i ∧ i < 2 ^ 63 ∧ Q .non (upd H l (.lst (xs.take i.toNat ++ [y] ++ xs.drop i.toNat)))) fInsert := by
  intro δ H μ S S' v vs x w ws Q k rx rs e q
  cases rx with
  | @lst a n hh hq =>
    match ws, rs, e with
    | [.int i, y], rs, e =>
      obtain ⟨t, u, rfl, rt, ry⟩ := rs.two rfl
      cases rt
      obtain ⟨zs, us, e1, e2, l, rfl⟩ := chS_some (show chS S n _ = _ from e)
      obtain ⟨xs, zs', e3, e4, l4, r4⟩ := k.lat hh hq
      rw [e1] at e3
      cases e3
      by_cases hz : (szB (zs.length + 1) && decide (0 ≤ i ∧ i < 2 ^ 63)) = true
      · rw [if_pos hz] at e2
        cases e2
        obtain ⟨hz, hi⟩ := Bool.and_eq_true_iff.mp hz
        have hi := of_decide_eq_true hi
        have hl : xs.length + 1 ≤ sizeLine := by rw [r4.len]; exact sz_ok hz
        obtain ⟨k2, g2⟩ := k.set hh hq (xs := xs.take i.toNat ++ [u] ++ xs.drop i.toNat) (by simp only [List.length_append, List.length_take, List.length_drop, List.length_cons, List.length_nil]; omega) (((r4.take _).app (.cons ry .nil)).app (r4.drop _))
        exact ⟨a, xs, i, u, rfl, rfl, e4, by omega, hi.1, hi.2, q _ _ g2 k2 .non⟩
      · rw [if_neg hz] at e2
        cases e2
  | _ => cases e
/-- xs.index(k) of numbers -/
def fIdx (S : Store) (x : W) : W → Option W
  | .int k => match intsOf S x with
    | some ns => if k ∈ ns then some (.int (ns.idxOf k : Nat)) else none
    | none => none
  | _ => none
def sqB : W → Bool
  | .cl _ => true
  | .lst _ => true
  | .tup _ => true
  | _ => false
def dIdx (d da : DE) : DE := fun ρ => bnd (d ρ) fun x => if sqB x = true then bnd (da ρ) fun y => rdS fun S => fIdx S x y else bad
/-- a value of that type, with no dict of its own -/
def NoD (K : PySem.W.Frag) (H : Hp) (x : V) (T : String) : Prop := tyV K T x H ∨ (T = "tuple" ∧ ∃ a xs, x = .ref a ∧ TupN H a xs)
theorem noD_is {pins : List (Addr × Obj)} {σ : L2.St} {s : Shared} {T : String} {x : V} {v : Value} (I : Inv X pins σ H s) (r : RelV x v) (h : NoD X.K H x T) : s.TypeIs v T ∧ ∀ a, v = .ref a → ∃ ob, s.heap.get? a = some ob ∧ ob.dict = none := by
  rcases h with h | ⟨rfl, a, xs, rfl, ot, hd, et⟩
  · exact tyV_is I r h
  · obtain rfl : v = Value.ref a := r
    obtain ⟨hg, _, its, _, o', hg', hc, _⟩ := (show ObjOk X.prog X.w H s.heap a (.frz ot (.tup xs)) from I.hok a _ et)
    exact ⟨⟨o', hg', hc⟩, fun b eb => by cases eb; exact ⟨ot, hg, hd⟩⟩
/-- a method that lists and tuples have -/
def tB2 (K : PySem.W.Frag) (r1 r2 : V → List V → Hp → VK → Prop) (to : TE) (t : TA) : TE := fun σ H Q => to σ H fun x H1 => (NoD K H1 x "list" ∧ t σ H1 fun xs H2 => r1 x xs H2 Q) ∨ (NoD K H1 x "tuple" ∧ t σ H1 fun xs H2 => r2 x xs H2 Q)
theorem pe_b2 {to : TE} {t : TA} {id1 id2 : String} {r1 r2 : V → List V → Hp → VK → Prop} (slot1 : Slot "list" name id1) (hty1 : typeOf (.builtin id1) = pure (.type "method_descriptor")) (hm1 : MtR X id1 r1) (slot2 : Slot "tuple" name id2) (hty2 : typeOf (.builtin id2) = pure (.type "method_descriptor")) (hm2 : MtR X id2 r2) (ho : PE X o to) (ha : PA X (e :: es) t)
    (hbase : attributeBase o name X.env (eval o X.env) = eval o X.env := by rfl) (hfew : ((backTo cpos (starEach (e :: es) X.env)).all (fun x => !x.1) && (backToKw cpos (keywordEach [] X.env)).all (fun x => x.1.isSome) && decide ((e :: es).length + ([] : List Keyword).length + (if ([] : List Keyword).isEmpty then 0 else 1) < 30)) = true := by rfl) (hline : (apos.endLine == cpos.line) = true := by rfl)
    (hs : starEach (e :: es) X.env = (false, eval e X.env) :: starEach es X.env := by rfl) (hplain : (backTo cpos (starEach es X.env)).any (·.1) = false := by rfl) : PE X (.Call (.Attribute o name apos) (e :: es) [] cpos) (tB2 X.K r1 r2 to t) := by
  refine ⟨fun pins s σ H Q I h => ?_⟩
  refine wpAny_Call_method_late hbase hfew hline rfl (thn (ho.run pins s σ H _ I h) fun v s1 ⟨x, H1, I1, rx, q⟩ => ?_)
  rcases q with ⟨ty, q⟩ | ⟨ty, q⟩
  · obtain ⟨h1, h2⟩ := noD_is I1 rx ty
    refine ⟨"list", id1, PySem.F.plainAttrs_list, slot1, hty1, h1, h2, ?_⟩
    have hA := ha.run cpos pins s1 σ H1 _ I1 q
    rw [hs] at hA ⊢
    exact Calls.callWith_builtin (by show (false || (backTo cpos (starEach es X.env)).any (·.1)) = false; rw [hplain] <;> rfl) (Calls.evalArgs_plain (thn hA fun us s2 ⟨vs, H2, I2, r3, q2⟩ => hm1 pins s2 σ H2 x vs v us Q I2 rx r3 q2))
  · obtain ⟨h1, h2⟩ := noD_is I1 rx ty
    refine ⟨"tuple", id2, PySem.F.plainAttrs_tuple, slot2, hty2, h1, h2, ?_⟩
    have hA := ha.run cpos pins s1 σ H1 _ I1 q
    rw [hs] at hA ⊢
    exact Calls.callWith_builtin (by show (false || (backTo cpos (starEach es X.env)).any (·.1)) = false; rw [hplain] <;> rfl) (Calls.evalArgs_plain (thn hA fun us s2 ⟨vs, H2, I2, r3, q2⟩ => hm2 pins s2 σ H2 x vs v us Q I2 rx r3 q2))
theorem da_one {da : DE} {σ : L2.St} {δ : List Addr} {ρ : En} {f : W → Mo W} {q : W → Hp → List Addr → Store → Prop} {q' : List V → Hp → Prop} (k : Ok ⟨K, mg, δ⟩ H μ S) (s : Rσ ⟨K, mg, δ⟩ H μ σ ρ) (h : Res ⟨K, mg, δ⟩ (E σ) H μ (bnd (da ρ) f S) q)
    (n : ∀ y S' H' μ', Gr H μ H' μ' → Ok ⟨K, mg, δ⟩ H' μ' S' → Res ⟨K, mg, δ⟩ (E σ) H' μ' (f y S') q → ∀ u, Rp ⟨K, mg, δ⟩ H' μ' u y → q' [u] H') : taOf K mg E (dCons da dNil) σ H q' := by
  refine ⟨δ, μ, S, ρ, k, s, ?_⟩
  unfold dCons dNil ret
  unfold bnd at h ⊢
  cases e1 : da ρ S with
  | bad => rw [e1] at h; exact h
  | err _ _ _ _ => rw [e1] at h; exact h
  | ok y S2 =>
    rw [e1] at h
    intro H2 μ2 g2 k2 vs rs
    obtain ⟨u, rfl, ru⟩ := rs.one rfl
    exact n y S2 H2 μ2 g2 k2 (Res.gr g2 h) u ru
theorem de_idx {d da : DE} (ho : PD X E o d) (ha : PD X E e da) (hbase : attributeBase o "index" X.env (eval o X.env) = eval o X.env := by rfl) (hfew : ((backTo cpos (starEach [e] X.env)).all (fun x => !x.1) && (backToKw cpos (keywordEach [] X.env)).all (fun x => x.1.isSome) && decide ([e].length + ([] : List Keyword).length + (if ([] : List Keyword).isEmpty then 0 else 1) < 30)) = true := by rfl)
    (hline : (apos.endLine == cpos.line) = true := by rfl) (hs : starEach [e] X.env = (false, eval e X.env) :: starEach [] X.env := by rfl) (hplain : (backTo cpos (starEach [] X.env)).any (·.1) = false := by rfl) : PD X E (.Call (.Attribute o "index" apos) [e] [] cpos) (dIdx d da) :=
  pe_of (pe_b2 PySem.F.slot_list_index PySem.F.type_list_index mt_idx PySem.F.slot_tuple_index PySem.F.type_tuple_index mt_idxT ho (da_cons ha da_nil hs) hbase hfew hline hs hplain) fun σ H Q ⟨δ, μ, S, ρ, k, s, h⟩ =>
  ⟨δ, μ, S, ρ, k, s, Res.step h fun x S1 H1 μ1 g1 k1 h1 v rv => by
    by_cases hsq : sqB x = true
    · rw [if_pos hsq] at h1
      have fin : ∀ {S2 : Store} {H2 : Hp} {μ2 : List Addr} {y : W} {u : V}, Ok ⟨X.K, X.mg, δ⟩ H2 μ2 S2 → Rp ⟨X.K, X.mg, δ⟩ H2 μ2 u y → Res ⟨X.K, X.mg, δ⟩ (E σ) H2 μ2 (rdS (fun S => fIdx S x y) S2) (fun w H' μ' _ => ∀ v, Rp ⟨X.K, X.mg, δ⟩ H' μ' v w → Q v H') → ∃ i ns, u = .int i ∧ intsOf S2 x = some ns ∧ i ∈ ns ∧ Q (.int (ns.idxOf i : Nat)) H2 := fun {S2 H2 μ2 y u} k2 ru h2 => by
        obtain ⟨w, e, q⟩ := rd_ok h2
        cases ru <;> first | cases e | skip
        rename_i i
        have e : (match intsOf S2 x with | some ns => if i ∈ ns then some (W.int (ns.idxOf i : Nat)) else none | none => none) = some w := e
        cases e1 : intsOf S2 x with
        | none => rw [e1] at e; cases e
        | some ns =>
          rw [e1] at e
          have e : (if i ∈ ns then some (W.int (ns.idxOf i : Nat)) else none) = some w := e
          by_cases hi : i ∈ ns
          · rw [if_pos hi] at e
            cases e
            exact ⟨i, ns, rfl, rfl, hi, q _ _ Gr.refl k2 (.int _)⟩
          · rw [if_neg hi] at e
            cases e
      by_cases hl : lsB x = true
      · refine .inl ⟨.inl (ls_ty k1 rv hl), da_one k1 (rσ_gr g1 s) h1 fun y S2 H2 μ2 g2 k2 h2 u ru => ?_⟩
        obtain ⟨i, ns, rfl, e1, hi, q⟩ := fin k2 ru h2
        have es : lstS S2 x = itmsS S2 x := by cases x <;> first | rfl | cases hl
        unfold intsOf at e1
        cases e2 : itmsS S2 x with
        | none => rw [e2] at e1; cases e1
        | some ws =>
          rw [e2] at e1
          obtain ⟨p, xs, rfl, h3, l3, r3⟩ := (rv.gr g2).lstS k2 (es.trans e2)
          obtain ⟨e4, _⟩ := inT_ok r3 e1
          rw [e4] at h3
          exact ⟨p, ns, i, rfl, rfl, .inl (.inl h3), hi, q⟩
      · cases rv with
        | @tup p xs ws ht l r =>
          refine .inr ⟨?_, da_one k1 (rσ_gr g1 s) h1 fun y S2 H2 μ2 g2 k2 h2 u ru => ?_⟩
          · rcases ht with ⟨ht, _⟩ | ⟨ob, its, n, h3, h4, h5, _⟩
            · exact .inr ⟨rfl, p, xs, rfl, ht⟩
            · exact .inl (.inr (.inl ⟨rfl, ob, h3, h5, h4⟩))
          · obtain ⟨i, ns, rfl, e1, hi, q⟩ := fin k2 ru h2
            obtain ⟨e4, _⟩ := inT_ok r (show inT ws = some ns from e1)
            have h3 := (ht.gr g2).sq
            rw [e4] at h3
            exact ⟨p, ns, i, rfl, rfl, h3, hi, q⟩
        | cl _ _ _ _ _ => exact absurd rfl hl
        | lst _ => exact absurd rfl hl
        | _ => cases hsq
    · rw [if_neg hsq] at h1
      exact h1.elim⟩
end
end Den

namespace Den
open PySem PySem.Spec PyProof.Rows L2 Bal
/-! ### defs -/
def spD (K : PySem.W.Frag) (mg : Str → Option Value) (n : Nat) (g : List W → Mo W) : Sp := fun vs H Q E => vs.length = n ∧ ∃ δ μ S ws, Ok ⟨K, mg, δ⟩ H μ S ∧ Rps ⟨K, mg, δ⟩ H μ vs ws ∧ Res ⟨K, mg, δ⟩ E H μ (g ws S) fun w H' μ' _ => ∀ v, Rp ⟨K, mg, δ⟩ H' μ' v w → Q v H'
def fnW (N : Nat) (d : DS) : List W → Mo W := fun ws S => match d (ws.map some ++ List.replicate (N - ws.length) none) S with
  | .ok (.rt w) S' => .ok w S'
  | .ok (.nx _) S' => .ok .non S'
  | .ok (.er c f us _) S' => .err c f us S'
  | _ => .bad
theorem rσ_start {Γ : Gm} {H : Hp} {μ : List Addr} {vs : List V} {ws : List W} (r : Rps Γ H μ vs ws) (N : List Str) : Rσ Γ H μ (L2.start N vs) (ws.map some ++ List.replicate (N.length - ws.length) none) := by
  unfold L2.start
  refine ⟨by simp [r.len], fun i w e => ?_⟩
  by_cases hi : i < ws.length
  · rw [List.getElem?_append_left (by simpa using hi), List.getElem?_map] at e
    cases e1 : ws[i]? with
    | none => rw [e1] at e; cases e
    | some w' =>
      rw [e1] at e
      cases e
      obtain ⟨v, e2, r2⟩ := r.getW e1
      exact ⟨v, by rw [List.getElem?_append_left (by simp [r.len]; exact hi), List.getElem?_map, e2]; rfl, r2⟩
  · rw [List.getElem?_append_right (by simpa using hi)] at e
    have := List.mem_of_getElem? e
    rw [List.mem_replicate] at this
    cases this.2
/-- from a def's body to what it tells -/
theorem fn_den {P : Program} {w : World} {K : PySem.W.Frag} {mg : Str → Option Value} {base : Heap} {x qual : Str} {st : Stmt} {f : Addr} {fd : FuncData} {N ps : List Str} {k : Nat} {d : DS} (F : Fun K x qual st f fd) (S : FnScope N ps (defScope st))
    (hbody : ∀ (cdv : Value) (A : Around) (outer : List Env) (s : Shared) (H : Hp) (E : XK), Room k (A.deeper (envOfC qual (defScope st) s.heap.objs.size f cdv)) → PDSs (cxOf (L2.CX P w) P w K mg base N qual (defScope st) f cdv A outer s H E) (fun _ => E) (defBody st) d) :
    FnOk P w K mg base (L2.CX P w) (k + 1) f fd ps (spD K mg ps.length (fnW N.length d)) := by
  refine F.okX S (fun vs H Q E h => h.1) (fun cdv A outer s H vs Q E hr h => ?_)
  obtain ⟨_, δ, μ, T, ws, ok, rs, h⟩ := h
  refine ⟨_, hbody cdv A outer s H E hr, δ, μ, T, _, ok, rσ_start rs N, ?_⟩
  unfold fnW at h
  cases e : d (ws.map some ++ List.replicate (N.length - ws.length) none) T with
  | bad => rw [e] at h; exact h
  | err _ _ _ _ => rw [e] at h; exact h.elim
  | ok fl S' =>
    rw [e] at h
    intro H1 μ1 g1 k1
    cases fl with
    | nx ρ => exact fun σ s => h H1 μ1 g1 k1 _ .non
    | rt w => exact fun v r => h H1 μ1 g1 k1 v r
    | bk ρ => exact h.elim
    | ct ρ => exact h.elim
    | er c f us ρ => exact fun σ s cls d r => h H1 μ1 g1 k1 cls d r
section
variable {X : Cx} {E : L2.St → XK} {e a b o : Expr} {es : List Expr} {pos p p1 : Pos} {x : Str} {k n : Nat} {f : Addr} {fd : FuncData} {ps : List Str} {g : List W → Mo W}
abbrev PX (X : Cx) (E : L2.St → XK) : Prop := ∀ σ, PassesAt (L2.CX X.prog X.w) X σ (E σ)
theorem px0 : PX X noE := fun σ pins H s e s' I h => by
  obtain ⟨_, _, _, _, _, _, _, _, _, _, _, _, z⟩ := h
  exact z.elim
def dCall (n : Nat) (g : List W → Mo W) (d : DA) : DE := fun ρ => bnd (d ρ) fun ws => if ws.length = n then g ws else bad
theorem de_call {d : DA} (F : FnOk X.prog X.w X.K X.mg X.base (L2.CX X.prog X.w) k f fd ps (spD X.K X.mg n g)) (hr : Room k X.A) (hg : Gl X x) (hm : X.mg x = some (.ref f)) (hk : PySem.W.keepIn X.K (.ref f) = true) (hb : Binds X.K fd ps []) (hx : PX X E) (ha : PDA X E (e :: es) d) (hdb : (x == ("__debug__" : Str)) = false := by decide)
    (he : starEach (e :: es) X.env = (false, eval e X.env) :: starEach es X.env := by rfl) (hpl : (backTo pos (starEach es X.env)).any (·.1) = false := by rfl) : PD X E (.Call (.Name x p) (e :: es) [] pos) (dCall n g d) := pe_of (pe_callS F hr hg hm hk hb hx ha hdb he hpl) fun σ H Q ⟨δ, μ, S, ρ, k, s, h⟩ =>
  ⟨δ, μ, S, ρ, k, s, Res.step h fun ws S1 H1 μ1 g1 k1 h1 vs rs => by
    by_cases hn : ws.length = n
    · rw [if_pos hn] at h1
      exact ⟨rs.len.trans hn, δ, μ1, S1, ws, k1, rs, h1⟩
    · rw [if_neg hn] at h1
      exact h1.elim⟩
/-! ### .. by names -/
def gp {α : Type} (π : List Nat) (l : List α) : List α := π.filterMap fun i => l[i]?
theorem gp_vals {zs : List V} {ws : List Value} (r : Vals zs ws) : ∀ π : List Nat, Vals (gp π zs) (gp π ws)
  | [] => .nil
  | i :: π => by
    have ih := gp_vals r π
    unfold gp at ih ⊢
    cases e : zs[i]? with
    | none => rw [List.filterMap_cons_none e, List.filterMap_cons_none (r.none_of e)]; exact ih
    | some v =>
      obtain ⟨u, e2, r2⟩ := r.get e
      rw [List.filterMap_cons_some e, List.filterMap_cons_some e2]
      exact .cons r2 ih
theorem gp_rps {Γ : Gm} {H : Hp} {μ : List Addr} {zs : List V} {ws : List W} (r : Rps Γ H μ zs ws) : ∀ π : List Nat, Rps Γ H μ (gp π zs) (gp π ws)
  | [] => .nil
  | i :: π => by
    have ih := gp_rps r π
    unfold gp at ih ⊢
    cases e : zs[i]? with
    | none =>
      have e2 : ws[i]? = none := by rw [List.getElem?_eq_none_iff] at e ⊢; rw [← r.len]; exact e
      rw [List.filterMap_cons_none e, List.filterMap_cons_none e2]
      exact ih
    | some v =>
      obtain ⟨u, e2, r2⟩ := r.get e
      rw [List.filterMap_cons_some e, List.filterMap_cons_some e2]
      exact .cons r2 ih
abbrev PDK (X : Cx) (E : L2.St → XK) (kws : List Keyword) (d : DA) : Prop := PK X kws (taOf X.K X.mg E d)
theorem pk_of {kws : List Keyword} {t t' : TA} (h : PK X kws t) (f : ∀ σ H Q, t' σ H Q → t σ H Q) : PK X kws t' := ⟨fun pos pins s σ H Q I q => h.run pos pins s σ H Q I (f σ H Q q)⟩
theorem dk_nil : PDK X E [] dNil := pk_of pk_nil fun σ H Q ⟨δ, μ, S, ρ, k, s, h⟩ => Res.now k h [] .nil
theorem dk_cons {kws : List Keyword} {d : DE} {r : DA} {nm : Option Str} {kpos : Pos} (ha : PD X E a d) (hr : PDK X E kws r) : PDK X E (⟨nm, a, kpos⟩ :: kws) (dCons d r) := pk_of (pk_cons ha hr) fun σ H Q ⟨δ, μ, S, ρ, k, s, h⟩ =>
  ⟨δ, μ, S, ρ, k, s, Res.step h fun x S1 H1 μ1 g1 k1 h1 v rv => ⟨δ, μ1, S1, ρ, k1, rσ_gr g1 s, Res.step h1 fun ws S2 H2 μ2 g2 k2 h2 vs rs => Res.now k2 h2 _ (.cons (rv.gr g2) rs)⟩⟩
/-! ### targets that are places of lists -/
abbrev DG := W → En → Mo En
def tgOf (K : PySem.W.Frag) (mg : Str → Option Value) (g : DG) : TG := fun v σ H Q => ∃ δ μ S ρ w, Ok ⟨K, mg, δ⟩ H μ S ∧ Rσ ⟨K, mg, δ⟩ H μ σ ρ ∧ Rp ⟨K, mg, δ⟩ H μ v w ∧ Res ⟨K, mg, δ⟩ (fun _ _ _ => False) H μ (g w ρ S) fun ρ' H' μ' _ => ∀ σ', Rσ ⟨K, mg, δ⟩ H' μ' σ' ρ' → Q σ' H'
def tgsOf (K : PySem.W.Frag) (mg : Str → Option Value) (g : List W → En → Mo En) : TGs := fun vs σ H Q => ∃ δ μ S ρ ws, Ok ⟨K, mg, δ⟩ H μ S ∧ Rσ ⟨K, mg, δ⟩ H μ σ ρ ∧ Rps ⟨K, mg, δ⟩ H μ vs ws ∧ Res ⟨K, mg, δ⟩ (fun _ _ _ => False) H μ (g ws ρ S) fun ρ' H' μ' _ => ∀ σ', Rσ ⟨K, mg, δ⟩ H' μ' σ' ρ' → Q σ' H'
/-- o[i] = w -/
def putW (o i w : W) : Mo Unit := fun S => match o, i with
  | .lst n, .int j => match S[n]? with
    | some ws => match ixN ws.length j with
      | some m => .ok () (S.set n (ws.set m w))
      | none => .bad
    | none => .bad
  | _, _ => .bad
def gPut (d di : DE) : DG := fun w ρ => bnd (d ρ) fun o => bnd (di ρ) fun i => bnd (putW o i w) fun _ => ret ρ
theorem dm_put {d di : DE} {i : Expr} (ho : PD X noE o d) (hi : PD X noE i di)
    (ha : ∀ v, assign (.Subscript o i pos) X.env v = (do let ov ← holding [v] (eval o X.env); let iv ← holding [v, ov] (eval i X.env); standAt pos; holding [v, ov, iv] (setItem ov iv v); release [v, ov, iv] []) := by intro _; rfl) : PG X (.Subscript o i pos) (tgOf X.K X.mg (gPut d di)) :=
  pg_of (pg_sub ho hi set_list ha) fun v σ H Q ⟨δ, μ, S, ρ, w, k, s, r, h⟩ =>
    ⟨δ, μ, S, ρ, k, s, Res.step h fun ow S1 H1 μ1 g1 k1 h1 ov ro => ⟨δ, μ1, S1, ρ, k1, rσ_gr g1 s, Res.step h1 fun iw S2 H2 μ2 g2 k2 h2 iv ri => by
      have r2 := r.gr (g1.trans g2)
      have ro2 := ro.gr g2
      unfold bnd putW at h2
      cases ro2 with
      | @lst a n hh hq =>
        cases ri with
        | int j =>
          obtain ⟨xs, ws, e1, e2, l, rs⟩ := k2.lat hh hq
          simp only [e1] at h2
          cases e3 : ixN ws.length j with
          | none => simp only [e3] at h2; exact h2.elim
          | some m =>
            simp only [e3] at h2
            obtain ⟨k3, g3⟩ := k2.set hh hq (xs := xs.set m v) (by rw [List.length_set]; exact l) (rs.set m r2)
            exact ⟨a, xs, j, m, rfl, rfl, e2, by rw [rs.len]; exact e3, h2 _ _ g3 k3 _ (rσ_gr g3 (rσ_gr (g1.trans g2) s))⟩
        | _ => exact h2.elim
      | _ => exact h2.elim⟩⟩
def gsNil : List W → En → Mo En := fun ws ρ => match ws with
  | [] => ret ρ
  | _ => bad
def gsCons (g : DG) (r : List W → En → Mo En) : List W → En → Mo En := fun ws ρ => match ws with
  | w :: us => bnd (g w ρ) (r us)
  | [] => bad
theorem dms_nil : PGs X [] (tgsOf X.K X.mg gsNil) := pgs_of pgs_nil fun vs σ H Q ⟨δ, μ, S, ρ, ws, k, s, rs, h⟩ => by
  cases rs with
  | nil => exact ⟨rfl, Res.now k h σ s⟩
  | cons _ _ => exact h.elim
theorem dms_cons {g : DG} {r : List W → En → Mo En} (h1 : PG X e (tgOf X.K X.mg g)) (h2 : PGs X es (tgsOf X.K X.mg r)) (hs : (assignEach (e :: es) X.env).map (·.2) = assign e X.env :: (assignEach es X.env).map (·.2) := by rfl) : PGs X (e :: es) (tgsOf X.K X.mg (gsCons g r)) :=
  pgs_of (pgs_cons h1 h2 hs) fun vs σ H Q ⟨δ, μ, S, ρ, ws, k, s, rs, h⟩ => by
    cases rs with
    | nil => exact h.elim
    | @cons v vs w ws a b =>
      exact ⟨v, vs, rfl, δ, μ, S, ρ, w, k, s, a, Res.step h fun ρ1 S1 H1 μ1 g1 k1 h1 σ1 s1 => ⟨δ, μ1, S1, ρ1, ws, k1, s1, b.gr g1, h1⟩⟩
def gTp (n : Nat) (g : List W → En → Mo En) : DG := fun w ρ S => match itmsS S w with
  | some ws => if ws.length = n then g ws ρ S else .bad
  | none => .bad
theorem dm_tp {kk : Nat} {g : List W → En → Mo En} (hc : X.calm = true) (h : PGs X es (tgsOf X.K X.mg g)) (hn : (assignEach es X.env).length = n := by rfl) (hst : (assignEach es X.env).findIdx? (·.1) = none := by rfl) : PG X (.Tuple es kk pos) (tgOf X.K X.mg (gTp n g)) :=
  pg_of (PG.or (pg_tup hc h hn hst) (pg_lst hc h hn hst)) fun v σ H Q ⟨δ, μ, S, ρ, w, k, s, r, h⟩ => by
    unfold gTp at h
    cases e : itmsS S w with
    | none => simp only [e] at h; exact h.elim
    | some ws =>
      simp only [e] at h
      by_cases hl : ws.length = n
      · rw [if_pos hl] at h
        obtain ⟨q, xs, rfl, hq, l, rs⟩ := r.seq k e
        rcases hq with hq | hq
        · exact .inl ⟨q, xs, rfl, hq, rs.len.trans hl, δ, μ, S, ρ, ws, k, s, rs, h⟩
        · exact .inr ⟨q, xs, rfl, hq, rs.len.trans hl, δ, μ, S, ρ, ws, k, s, rs, h⟩
      · rw [if_neg hl] at h
        exact h.elim
def sAsgM (g : DG) (d : DE) : DS := fun ρ => lft (d ρ) ρ fun w S => match g w ρ S with
  | .ok ρ' S' => .ok (.nx ρ') S'
  | _ => .bad
theorem ds_asgM {tg : Expr} {g : DG} {d : DE} (h : PD X E e d) (hg : PG X tg (tgOf X.K X.mg g)) (hs : swapsWithSole [tg] e pos.line X.env = pure false := by rfl) (hw : swappedStores [tg] e X.env = pure none := by rfl)
    (h1 : (assignEach [tg] X.env).map (·.2) = [assign tg X.env] := by rfl) : PDS X E (.Assign [tg] e pos) (sAsgM g d) := ps_of (ps_asg h hg hs hw h1) fun D σ H ⟨δ, μ, S, ρ, k, s, h⟩ =>
  ⟨δ, μ, S, ρ, k, s, ResS.step s h fun w S1 H1 μ1 g1 k1 h1 v rv => by
    refine ⟨δ, μ1, S1, ρ, w, k1, rσ_gr g1 s, rv, ?_⟩
    cases e : g w ρ S1 with
    | bad => rw [e] at h1; exact h1
    | err _ _ _ _ => rw [e] at h1; exact h1.elim
    | ok ρ' S' =>
      rw [e] at h1
      exact fun H2 μ2 g2 k2 σ' s' => h1 H2 μ2 g2 k2 σ' s'⟩
end
end Den

namespace Den
open PySem PySem.Spec PyProof.Rows L2 Bal
/-! ### errors -/
/-- the errors of the program: what classes they are, none under another one -/
structure ErS (K : PySem.W.Frag) (mg : Str → Option Value) (all : List Str) : Prop where
  k : ∀ c ∈ all, ∃ C, ErK K mg c C
  ec : ∀ c ∈ all, ∀ C, mg c = some (.ref C) → ExcC K C
  sub : ∀ c ∈ all, ∀ d ∈ all, ∀ C D, mg c = some (.ref C) → mg d = some (.ref D) → PySem.W.subIn K (.ref C) (.ref D) = some (decide (c = d))
theorem ErS.at {K : PySem.W.Frag} {mg : Str → Option Value} {all : List Str} (T : ErS K mg all) {c : Str} (h : c ∈ all) {C : Addr} (e : mg c = some (.ref C)) : ErK K mg c C := by
  obtain ⟨D, k⟩ := T.k c h
  have := k.g
  rw [e] at this
  cases this
  exact k
theorem exm_val {K : PySem.W.Frag} {cls : Value} : ∀ {us : List Value}, (∀ u ∈ us, ∃ b, PySem.W.exmOne K cls u = some b) → PySem.W.exmAny K cls us = some (us.any fun c => PySem.W.exmOne K cls c == some true) := by
  have all : ∀ {us : List Value}, (∀ u ∈ us, ∃ b, PySem.W.exmOne K cls u = some b) → ∃ b, PySem.W.exmAny K cls us = some b := by
    intro us
    induction us with
    | nil => exact fun _ => ⟨false, rfl⟩
    | cons u us ih =>
      intro h
      obtain ⟨b, hb⟩ := h u (List.mem_cons_self ..)
      obtain ⟨d, hd⟩ := ih fun v hv => h v (List.mem_cons_of_mem _ hv)
      exact ⟨b || d, by unfold PySem.W.exmAny; rw [hb, hd]⟩
  intro us h
  obtain ⟨b, hb⟩ := all h
  obtain ⟨_, eb⟩ := exmAny_each hb
  rw [hb, eb]
/-- the classes that are named, by their values -/
inductive NmS (mg : Str → Option Value) : List Str → List Value → Prop
  | nil : NmS mg [] []
  | cons {c : Str} {C : Addr} {cs : List Str} {us : List Value} (h : mg c = some (.ref C)) (r : NmS mg cs us) : NmS mg (c :: cs) (.ref C :: us)
theorem nmS_exm {K : PySem.W.Frag} {mg : Str → Option Value} {all : List Str} (T : ErS K mg all) {c : Str} (hc : c ∈ all) {C : Addr} (e : mg c = some (.ref C)) : ∀ {cs : List Str} {us : List Value}, NmS mg cs us → (∀ d ∈ cs, d ∈ all) → (∀ u ∈ us, ∃ b, PySem.W.exmOne K (.ref C) u = some b) ∧ (us.any fun u => PySem.W.exmOne K (.ref C) u == some true) = cs.contains c
  | _, _, .nil, _ => ⟨fun _ h => (nomatch h), rfl⟩
  | _, _, .cons (c := d) (C := D) (cs := cs) (us := us) h r, hs => by
    have e1 : PySem.W.exmOne K (.ref C) (.ref D) = some (decide (c = d)) := (T.at (hs d (List.mem_cons_self ..)) h).one (T.sub c hc d (hs d (List.mem_cons_self ..)) C D e h)
    obtain ⟨i1, i2⟩ := nmS_exm T hc e r fun d hd => hs d (List.mem_cons_of_mem _ hd)
    refine ⟨fun u hu => ?_, ?_⟩
    · rcases List.mem_cons.mp hu with rfl | hu
      · exact ⟨_, e1⟩
      · exact i1 u hu
    · rw [List.any_cons, e1, i2, List.contains_cons]
      congr 1
      rw [Bool.eq_iff_iff]
      simp
section
variable {X : Cx} {E : L2.St → XK} {e a b : Expr} {es : List Expr} {pos p p1 : Pos} {x : Str} {k n i j : Nat} {all : List Str}
/-- raise C(e) -/
def sRaise (c f : Str) (d : DE) : DS := fun ρ => lft (d ρ) ρ fun w => ret (.er c f [w] ρ)
theorem ds_raise {c f qual : Str} {st : Stmt} {C fI : Addr} {fdI : FuncData} {newId : String} {tail : List Value} {d : DE} (hc : X.calm = true) (tk : Takes X (fun cls d σ H => E σ cls d H)) (T : ErT X.K X.mg c f qual st C fI fdI newId tail) (GI : FnOk X.prog X.w X.K X.mg X.base CX0 k fI fdI ["self", f] (spInit X.K C f)) (hr : Room (k + 1) X.A) (bI : Binds X.K fdI ["self", f] [])
    (hg : Gl X c) (ha : PD X E a d) (hdb : (c == ("__debug__" : Str)) = false := by decide) (he : starEach [a] X.env = (false, eval a X.env) :: starEach [] X.env := by rfl) (hpl : (backTo p1 (starEach [] X.env)).any (·.1) = false := by rfl) : PDS X E (.Raise (some (.Call (.Name c p) [a] [] p1)) none pos) (sRaise c f d) :=
  ps_of (ps_raise hc tk (pmk_er T.c T.iC T.tI GI hr bI .nil pass0 hg T.k.g (da_cons ha da_nil he) hdb he hpl)) fun D σ H ⟨δ, μ, S, ρ, k, s, h⟩ => by
    have h2 : ResS ⟨X.K, X.mg, δ⟩ E D H μ (lft (d ρ) ρ (fun w => ret (.er c f [w] ρ)) S) := h
    refine da_one k s (f := fun w => ret w) (q := fun w H' μ' S' => Ok ⟨X.K, X.mg, δ⟩ H' μ' S' ∧ Gr H μ H' μ' ∧ ResS ⟨X.K, X.mg, δ⟩ E D H' μ' (.ok (.er c f [w] ρ) S')) ?_ fun y S1 H1 μ1 g1 k1 h1 u ru => ?_
    · have h3 := ResS.step s h2 (q := fun w H' μ' S' => Ok ⟨X.K, X.mg, δ⟩ H' μ' S' ∧ Gr H μ H' μ' ∧ ResS ⟨X.K, X.mg, δ⟩ E D H' μ' (.ok (.er c f [w] ρ) S')) fun w S1 H1 μ1 g1 k1 h1 => ⟨k1, g1, h1⟩
      unfold bnd
      cases e : d ρ S with
      | bad => rw [e] at h3; exact h3
      | err _ _ _ _ => rw [e] at h3; exact h3
      | ok w S' => rw [e] at h3; exact h3
    · obtain ⟨_, _, h4⟩ := Res.now k1 h1
      refine made_er fun dd nd => ?_
      have g2 := Gr.new (o := .xd [(f, u)]) nd (k1.ne nd)
      have k2 := k1.new (o := .xd [(f, u)]) nd
      exact h4 _ _ g2 k2 σ (rσ_gr (g1.trans g2) s) _ _ ⟨C, T.k.g, rfl, .inr ⟨dd, [u], rfl, upd_same, k1.ne nd, k1.nδ nd, by show 1 ≤ 1; decide, .cons (ru.gr g2) .nil⟩⟩
/-- try: .. except (C1, ..) as n: kept = n -/
def sTry (all cs : List Str) (i j : Nat) (b : DS) : DS := fun ρ S => match b ρ S with
  | .ok (.er c f ws ρ') S' => if (all.contains c && decide (i < ρ'.length)) = true then (if cs.contains c = true then .ok (.nx (((ρ'.set i none).set j (some (.exn c f ws))).set i none)) S' else .ok (.er c f ws ρ') S') else .bad
  | o => o
theorem rσ_none {Γ : Gm} {H : Hp} {μ : List Addr} {σ : L2.St} {ρ : En} (i : Nat) (v : Option V) (s : Rσ Γ H μ σ ρ) : Rσ Γ H μ (σ.set i v) (ρ.set i none) := ⟨by rw [List.length_set, List.length_set]; exact s.1, fun m w e => by
  by_cases hm : i = m
  · subst hm
    by_cases hi : i < ρ.length
    · rw [List.getElem?_set_self hi] at e; cases e
    · rw [List.getElem?_eq_none (by rw [List.length_set]; omega)] at e; cases e
  · rw [List.getElem?_set_ne hm] at e ⊢
    exact s.2 m w e⟩
theorem ds_try {nm y : Str} {cs : List Str} {us : List Value} {body : List Stmt} {bd : DS} {kx : Nat} {np pos' px pa pv' : Pos} (T : ErS X.K X.mg all) (hcs : ∀ c ∈ cs, c ∈ all) (hcu : NmS X.mg cs us) (hs : X.stack = X.env :: X.outer) (hf : X.env.frame = some X.env.locals) (hex : X.ex = []) (hN : X.N.Nodup) (hi : X.N[i]? = some nm) (hln : X.env.kindOf nm = some .local) (hj : X.N[j]? = some y) (hly : X.env.kindOf y = some .local) (hij : i ≠ j) (hc : NmAll X es us) (hel : us.length ≤ 1000) (tk : Takes X (fun cls d σ H => E σ cls d H))
    (hb : ∀ (W : WX) (pn : List (Addr × Obj)) (xe : Value → Shared → Prop), Takes (X.tr pn xe) W → PassesOwn (model X.prog X.w) X.A X.env xe → PDSs (X.tr pn xe) (WE W) body bd)
    (hsu : ∀ (a : Addr) (oe : Obj) (pn : List (Addr × Obj)), PSs (X.suite a ((a, oe) :: pn)) [.Assign [.Name y px] (.Name nm pv') pa] (tAsg (tVar i) (gName j))) :
    PDS X E (.Try body [.ExceptHandler (some (.Tuple es kx np)) (some nm) [.Assign [.Name y px] (.Name nm pv') pa] pos'] [] [] pos) (sTry all cs i j bd) :=
  ps_of (ps_try_keep (i := i) (tb := fun W => tsOf X.K X.mg (WE W) bd) (ts := fun _ _ _ => tAsg (tVar i) (gName j)) (Wout := fun cls d σ H => E σ cls d H) hs hf hex hN hi hln hc hel tk (fun W pn xe tk ho => hb W pn xe tk ho) (fun a oe cls d pn _ _ => hsu a oe pn)) fun D σ H ⟨δ, μ, S, ρ, k, s, h⟩ => by
    refine ⟨δ, μ, S, ρ, k, s, ?_⟩
    unfold sTry at h
    cases eb : bd ρ S with
    | bad => rw [eb] at h; exact h
    | err _ _ _ _ => rw [eb] at h; exact h
    | ok fl S1 =>
      rw [eb] at h
      cases fl with
      | nx ρ1 => exact h
      | rt w => exact h
      | bk ρ1 => exact h
      | ct ρ1 => exact h
      | er c f ws ρ1 =>
        intro H1 μ1 g1 k1 σ1 s1 cls d rx
        by_cases hin : (all.contains c && decide (i < ρ1.length)) = true
        · simp only [hin, if_true] at h
          obtain ⟨hin, hl⟩ := Bool.and_eq_true_iff.mp hin
          have hl := of_decide_eq_true hl
          have hc : c ∈ all := by simpa using hin
          obtain ⟨C, eC, rfl, rd⟩ := id rx
          obtain ⟨q1, q2⟩ := nmS_exm T hc eC hcu hcs
          refine ⟨cs.contains c, by rw [exm_val q1, q2], fun hy a na => ?_, fun hn => ?_⟩
          · rw [if_pos hy] at h
            have li : i < σ1.length := by rw [s1.1]; exact hl
            refine ⟨.ref a, by rw [List.getElem?_set_self li], ?_⟩
            have g2 := Gr.new (o := ErV (.ref C) d a) na (k1.ne na)
            have k2 := k1.new (o := ErV (.ref C) d a) na
            refine h _ _ (g1.trans g2) k2 _ (rσ_none i none (rσ_set (rσ_none i _ (rσ_gr g2 s1)) ?_))
            rcases rd with ⟨rfl, rfl⟩ | ⟨dd, xs, rfl, hd, nd, ndd, l, r⟩
            · exact .exn0 eC upd_same (k1.ne na) (k1.nδ na)
            · exact .exn eC upd_same (k1.ne na) (k1.nδ na) (by rw [upd_ne (ne_of_none hd na)]; exact hd) nd ndd l (r.gr g2)
          · rw [hn] at h
            simp only [Bool.false_eq_true, if_false] at h
            exact h H1 μ1 g1 k1 σ1 s1 _ _ rx
        · simp only [hin, if_false] at h
          exact h.elim
/-! ### what an error is -/
/-- isinstance(x, C), isinstance(x, T), isinstance(x, (C1, ..)) of an error -/
def dIsX (all : List Str) (f : Str → Bool) (d : DE) : DE := fun ρ => bnd (d ρ) fun w => match w with
  | .exn c _ _ => if all.contains c = true then ret (.bl (f c)) else bad
  | _ => bad
theorem exn_at {Γ : Gm} {H : Hp} {μ : List Addr} {v : V} {c f : Str} {ws : List W} (r : Rp Γ H μ v (.exn c f ws)) : ∃ a C d, v = .ref a ∧ Γ.mg c = some (.ref C) ∧ H a = some (ErV (.ref C) d a) ∧ DcOk H d := by
  cases r with
  | exn m h n z hd nd zd l q => exact ⟨_, _, _, rfl, m, h, DcOk.some hd⟩
  | exn0 m h n z => exact ⟨_, _, _, rfl, m, h, DcOk.none⟩
theorem de_isX {f : Str → Bool} {d : DE} {c : Expr} {cv : V} {u : Value} (T : ErS X.K X.mg all) (hc : PE X c (tC cv)) (hcl : ClsV cv u) (hk : ∀ c ∈ all, ∀ C, X.mg c = some (.ref C) → PySem.W.kitOne X.K (.ref C) u = some (f c)) (hg : Gl X "isinstance") (hm : X.mg "isinstance" = none) (ha : PD X E a d)
    (he : starEach (a :: [c]) X.env = (false, eval a X.env) :: starEach [c] X.env := by rfl) (he2 : starEach [c] X.env = (false, eval c X.env) :: starEach [] X.env := by rfl) (hpl : (backTo pos (starEach [c] X.env)).any (·.1) = false := by rfl) : PD X E (.Call (.Name "isinstance" p) [a, c] [] pos) (dIsX all f d) :=
  pe_of (pe_callB call_isV hg hm (by decide +kernel) (pa_cons ha (pa_cons hc pa_nil he2) he) (by decide) (by decide) he hpl) fun σ H Q ⟨δ, μ, S, ρ, k, s, h⟩ =>
  ⟨δ, μ, S, ρ, k, s, Res.step h fun w S1 H1 μ1 g1 k1 h1 v rv => by
    cases w with
    | exn c' f' ws =>
      by_cases hin : all.contains c' = true
      · simp only [hin, if_true] at h1
        have hc' : c' ∈ all := by simpa using hin
        obtain ⟨a', C, dd, rfl, e1, e2, e3⟩ := exn_at rv
        exact ⟨a', C, dd, cv, u, f c', rfl, e2, T.ec c' hc' C e1, e3, hcl, hk c' hc' C e1, Res.now k1 h1 _ (.bl _)⟩
      · simp only [hin, if_false] at h1
        exact h1.elim
    | _ => exact h1.elim⟩
theorem nmS_kit {K : PySem.W.Frag} {mg : Str → Option Value} (T : ErS K mg all) {c : Str} (hc : c ∈ all) {C : Addr} (e : mg c = some (.ref C)) {d : Str} (hd : d ∈ all) {D : Addr} (e2 : mg d = some (.ref D)) : PySem.W.kitOne K (.ref C) (.ref D) = some (decide (c = d)) := by
  by_cases h : c = d
  · subst h
    rw [e] at e2
    cases e2
    rw [decide_eq_true rfl]
    exact kit_self
  · rw [decide_eq_false h]
    have z := T.at hd e2
    refine kit_no z.hd z.ty ?_ ?_
    · have := T.sub c hc c hc C C e e
      rw [decide_eq_true rfl] at this
      exact this
    · have := T.sub c hc d hd C D e e2
      rw [decide_eq_false h] at this
      exact this
/-- x.f of an error -/
def dFld (all : List Str) (n : Str) (d : DE) : DE := fun ρ => bnd (d ρ) fun w => match w with
  | .exn c f [u] => if (all.contains c && (f == n)) = true then ret u else bad
  | _ => bad
theorem de_fld {d : DE} {nm : Str} (T : ErS X.K X.mg all) (hno : ∀ c ∈ all, ∀ C, X.mg c = some (.ref C) → PySem.W.findIn X.K (.ref C) nm = some none) (ha : PD X E a d) (hb : attributeBase a nm X.env (eval a X.env) = eval a X.env := by rfl) : PD X E (.Attribute a nm pos) (dFld all nm d) :=
  pe_of (pe_fV ha hb) fun σ H Q ⟨δ, μ, S, ρ, k, s, h⟩ =>
  ⟨δ, μ, S, ρ, k, s, Res.step h fun w S1 H1 μ1 g1 k1 h1 v rv => by
    cases w with
    | exn c f ws =>
      match ws, rv, h1 with
      | [u], rv, h5 =>
        by_cases hin : (all.contains c && (f == nm)) = true
        · have h6 : Res ⟨X.K, X.mg, δ⟩ (E σ) H1 μ1 ((if (all.contains c && (f == nm)) = true then ret u else bad) S1) (fun w H' μ' _ => ∀ v, Rp ⟨X.K, X.mg, δ⟩ H' μ' v w → Q v H') := h5
          rw [if_pos hin] at h6
          obtain ⟨hin, hf⟩ := Bool.and_eq_true_iff.mp hin
          have hc' : c ∈ all := by simpa using hin
          have hf := beq_iff_eq.mp hf
          subst hf
          cases rv with
          | @exn a' C _ _ dd xs _ m hh n z hd nd zd l q =>
            obtain ⟨v1, rfl, r1⟩ := q.one rfl
            exact ⟨a', C, dd, [(f, v1)], v1, rfl, hh, T.ec c hc' C m, hno c hc' C m, hd, by rw [List.lookup_cons, beq_self_eq_true], Res.now k1 h6 _ r1⟩
        · have h6 : Res ⟨X.K, X.mg, δ⟩ (E σ) H1 μ1 ((if (all.contains c && (f == nm)) = true then ret u else bad) S1) (fun w H' μ' _ => ∀ v, Rp ⟨X.K, X.mg, δ⟩ H' μ' v w → Q v H') := h5
          rw [if_neg hin] at h6
          exact h6.elim
    | _ => exact h1.elim⟩
end
end Den

namespace Den
open PySem PySem.Spec PyProof.Rows L2 Bal
/-! ### zip of any number of lists and tuples -/
structure Zc where
  it : Addr
  l : Addr
  b : Bool
  xs : Array Value
def itS : Bool → Heap → Addr → Addr → Nat → Prop
  | true, h, it, l, k => h.IsListIter it l k
  | false, h, it, l, k => h.IsTupleIter it l k
def sqS : Bool → Heap → Addr → Array Value → Prop
  | true, h, l, xs => h.IsList l xs
  | false, h, l, xs => h.IsTuple l xs
def Zc.st (c : Zc) (i : Nat) (h : Heap) : Prop := itS c.b h c.it c.l i ∧ sqS c.b h c.l c.xs
theorem Zc.dr {prog : Program} {w : World} {A : Around} (hh : A.handled = none) (c : Zc) (ne : c.l ≠ c.it) : Draws prog w A c.it [c.it, c.l] c.xs.size (fun i v => c.xs[i]? = some v) c.st := by
  obtain ⟨it, l, b, xs⟩ := c
  cases b with
  | true => exact Draws.list hh it l ne xs
  | false => exact Draws.tuple hh it l ne xs
abbrev TupO (h : Heap) (T : Addr) (vs : List Value) : Prop := h.get? T = some { cls := .type "tuple", data := .seq vs.toArray }
structure ZSep (z TI TO : Addr) (cs : List Zc) : Prop where
  TIz : TI ≠ z
  TOz : TO ≠ z
  TITO : TI ≠ TO
  TIc : ∀ c ∈ cs, TI ≠ c.it
  zc : ∀ c ∈ cs, z ≠ c.it ∧ z ≠ c.l
  Tc : ∀ c ∈ cs, TO ≠ c.it ∧ TO ≠ c.l
  ne : ∀ c ∈ cs, c.l ≠ c.it
  pw : ∀ (j k : Nat) (c d : Zc), cs[j]? = some c → cs[k]? = some d → j ≠ k → c.it ≠ d.it ∧ c.it ≠ d.l
section
variable {prog : Program} {w : World} {A : Around} {E : Value → Shared → Prop} {s : Shared}
theorem updT {T : Addr} {vs : List Value} {x : Value} {k : Nat} {Q : Unit → Shared → Prop} (hT : TupO s.heap T vs) (hl : vs.length ≤ 1000) (h : ∀ h', TupO h' T (vs.set k x) → Heap.SameBut T s.heap h' → Q () { s with heap := h' }) : wpAny (model prog w) A (updateSeq T (·.setIfInBounds k x)) Q E s := by
  have hsz : vs.toArray.size ≤ sizeLine := by rw [List.size_toArray, sizeLine_eq]; omega
  have hsz' : (vs.toArray.setIfInBounds k x).size ≤ sizeLine + 1 := by rw [Array.size_setIfInBounds]; omega
  refine wpAny_updateSeq hT rfl (h _ ?_ (Heap.SameBut.update ..)) (by assumption) (by assumption)
  show Heap.get? _ T = _
  rw [Heap.get?_update_self _ hT rfl]
  simp [Obj.mapSeq]
theorem forIn_stp {β : Type} {M : Model} {f : Value × Nat → β → Sem (ForInStep β)} {b : β} {Q : β → Shared → Prop} (I : Nat → Shared → Prop) : ∀ (L : List (Value × Nat)) (n : Nat) {s : Shared}, (∀ (j : Nat) (p : Value × Nat) (s : Shared), L[j]? = some p → I (n + j) s → wpAny M A (f p b) (fun r s' => r = ForInStep.yield b ∧ I (n + j + 1) s') E s) → I n s →
    (∀ s', I (n + L.length) s' → Q b s') → wpAny M A (forIn L b f) Q E s
  | [], n, s, _, h0, hq => by
    rw [List.forIn_nil]
    exact wpAny_pure (hq s h0)
  | p :: L, n, s, hs, h0, hq => by
    rw [List.forIn_cons]
    refine wpAny_bind (wpAny_mono (hs 0 p s rfl h0) (fun r s' hr => ?_) fun _ _ x => x)
    obtain ⟨er, h1⟩ := hr
    rw [er]
    exact forIn_stp I L (n + 1) (fun j q s hj hi => by
      have := hs (j + 1) q s (by simpa using hj) (by rw [← Nat.add_assoc, Nat.add_right_comm]; exact hi)
      rw [← Nat.add_assoc, Nat.add_right_comm n j 1] at this
      exact this) h1 fun s' h => hq s' (by rw [List.length_cons, ← Nat.add_assoc, Nat.add_right_comm]; exact h)
/-- so far m of the iterators are drawn from -/
def ZAt (z TI TO : Addr) (cs : List Zc) (i : Nat) (s0 : Shared) (m : Nat) (s' : Shared) : Prop := ∃ h' tk' vs, s' = { s0 with heap := h', toks := tk' } ∧ IsZip h' z TI TO .ellipsis ∧ vs.length = cs.length ∧ TupO h' TO vs ∧ (∀ (j : Nat) (c : Zc) (v : Value), j < m → cs[j]? = some c → vs[j]? = some v → c.xs[i]? = some v) ∧
  (∀ (j : Nat) (c : Zc), cs[j]? = some c → c.st (if j < m then i + 1 else i) h') ∧ h'.objs.size = s0.heap.objs.size ∧ (∀ c o, c ≠ z → c ≠ TO → (∀ d ∈ cs, c ≠ d.it) → s0.heap.get? c = some o → h'.get? c = some o)
theorem zipN_item {z TI TO : Addr} {cs : List Zc} {i : Nat} {olds : List Value} {Q : Value → Shared → Prop} (hh : A.handled = none) (S : ZSep z TI TO cs) (h0 : cs ≠ []) (hz : IsZip s.heap z TI TO .none) (hTI : TupO s.heap TI (cs.map fun c => .ref c.it)) (hTO : TupO s.heap TO olds) (hl : olds.length = cs.length) (hc : cs.length ≤ 100) (st : ∀ c ∈ cs, c.st i s.heap) (lt : ∀ c ∈ cs, i < c.xs.size)
    (hQ : ∀ vs h' tk, vs.length = cs.length → (∀ (j : Nat) (c : Zc) (v : Value), cs[j]? = some c → vs[j]? = some v → c.xs[i]? = some v) → IsZip h' z TI TO (rawInt s.heap.objs.size) → TupO h' TO vs → (∀ c ∈ cs, c.st (i + 1) h') → TupO h' s.heap.objs.size vs → h'.objs.size = s.heap.objs.size + 1 →
      (∀ c o, c ≠ z → c ≠ TO → (∀ d ∈ cs, c ≠ d.it) → s.heap.get? c = some o → h'.get? c = some o) → Q (.ref s.heap.objs.size) { s with heap := h', toks := tk }) :
    wpAny (model prog w) A (Builtin.«zip.__next__» ⟨[.ref z], []⟩) (fun fin s' => ∃ v, fin = .done (.ret v) ∧ Q v s') E s := by
  obtain ⟨hp, g, d, tk0, os⟩ := s
  show wpAny _ _ (field (.ref z) 2 >>= _) _ _ _
  refine wpAny_bind (wpAny_field hz rfl (x := .bool false) rfl ?_)
  show wpAny _ _ (field (.ref z) 3 >>= _) _ _ _
  refine wpAny_bind (wpAny_field hz rfl (x := .ref TI) rfl (wpAny_bind (wpAny_seqItems hTI rfl ?_)))
  have hem : (cs.map fun c => Value.ref c.it).toArray.isEmpty = false := by
    cases cs with
    | nil => exact absurd rfl h0
    | cons c r => simp
  show wpAny _ _ (if (cs.map fun c => Value.ref c.it).toArray.isEmpty = true then _ else _) _ _ _
  rw [hem, if_neg (by decide)]
  show wpAny _ _ (Builtin.SmallTypes.ownedTupleIsFree (.ref z) >>= _) _ _ _
  refine wpAny_bind ?_
  unfold Builtin.SmallTypes.ownedTupleIsFree
  refine wpAny_bind (wpAny_field hz rfl (x := .none) rfl (wpAny_pure ?_))
  rw [if_pos rfl]
  refine wpAny_bind (wpAny_rule (wpAny_bind (wpAny_field hz rfl (x := .ref TO) rfl ?_)))
  refine wpAny_bind (wpAny_setField_rec hz (by simp) fun g0 hz0 hs0 => ?_)
  have hz0' : IsZip g0 z TI TO .ellipsis := hz0
  have hs0' : Heap.SameBut z hp g0 := hs0
  refine wpAny_bind (forIn_stp (ZAt z TI TO cs i ⟨hp, g, d, tk0, os⟩) _ 0 (fun j p s' hj hI => ?_) ?_ (fun s' hI => ?_))
  · obtain ⟨h1, tk1, vs, rfl, hz1, l1, hT1, hv1, hst1, hsz1, hk1⟩ := hI
    rw [Nat.zero_add] at hst1 hv1 ⊢
    obtain ⟨c, hcj, rfl⟩ : ∃ c, cs[j]? = some c ∧ p = (.ref c.it, j) := by
      rw [List.getElem?_zipIdx] at hj
      cases e : cs[j]? with
      | none => simp [e] at hj
      | some c => exact ⟨c, rfl, by simpa [e, eq_comm] using hj⟩
    have mc : c ∈ cs := List.mem_of_getElem? hcj
    have hjl : j < cs.length := (List.getElem?_eq_some_iff.mp hcj).1
    refine wpAny_bind (wpAny_onRaise ?_)
    show wpAny _ _ (Builtin.SmallTypes.nextOf (.ref c.it) >>= _) _ _ ⟨h1, g, d, tk1, os⟩
    have stc := hst1 j c hcj
    rw [if_neg (Nat.lt_irrefl j)] at stc
    refine wpAny_bind ((c.dr hh (S.ne c mc)).item i _ _ _ (lt c mc) stc fun x p1 tk2 hx sn hp1 => wpAny_pure ?_)
    have hp1' : Heap.SameBut c.it h1 p1 := hp1
    have hU1 : TupO p1 TO vs := hp1'.extBut _ _ (S.Tc c mc).1 hT1
    refine wpAny_bind (wpAny_seqItems (s := ⟨p1, g, d, tk2, os⟩) hU1 rfl ?_)
    refine wpAny_bind (updT (s := ⟨p1, g, d, tk2, os⟩) hU1 (by omega) fun g1 hT2 hs1 => ?_)
    have hs1' : Heap.SameBut TO p1 g1 := hs1
    refine wpAny_bind (wpAny_letGo (wpAny_pure ⟨rfl, g1, tk2, vs.set j x, rfl, ?_, by rw [List.length_set]; exact l1, hT2, fun j' c' v' hlt hc' hv' => ?_, fun j' c' hc' => ?_, ?_, fun a o az aT ac e => ?_⟩))
    · exact hs1'.extBut _ _ (Ne.symm S.TOz) (hp1'.extBut _ _ (S.zc c mc).1 hz1)
    · by_cases hjj : j = j'
      · subst hjj
        rw [hcj] at hc'
        cases hc'
        rw [List.getElem?_set_self (by rw [l1]; exact hjl)] at hv'
        cases hv'
        exact hx
      · rw [List.getElem?_set_ne hjj] at hv'
        exact hv1 j' c' v' (by omega) hc' hv'
    · have mc' : c' ∈ cs := List.mem_of_getElem? hc'
      have fr : ∀ k, c'.st k p1 → c'.st k g1 := fun k hk => (c'.dr (A := A) (prog := prog) (w := w) hh (S.ne c' mc')).over hk hs1' (by simp; exact S.Tc c' mc')
      refine fr _ ?_
      by_cases hjj : j = j'
      · subst hjj
        rw [hcj] at hc'
        cases hc'
        rw [if_pos (Nat.lt_succ_self j)]
        exact sn
      · have e : (if j' < j + 1 then i + 1 else i) = (if j' < j then i + 1 else i) := by
          by_cases hlt : j' < j
          · rw [if_pos hlt, if_pos (by omega)]
          · rw [if_neg hlt, if_neg (by omega)]
        rw [e]
        exact (c'.dr (A := A) (prog := prog) (w := w) hh (S.ne c' mc')).over (hst1 j' c' hc') hp1' (by simp; exact S.pw j j' c c' hcj hc' hjj)
    · rw [hs1'.1, hp1'.1]
      exact hsz1
    · exact hs1'.extBut _ _ aT (hp1'.extBut _ _ (ac c mc) (hk1 a o az aT ac e))
  · refine ⟨g0, tk0, olds, rfl, hz0', hl, hs0'.extBut _ _ S.TOz hTO, fun _ _ _ hlt => absurd hlt (Nat.not_lt_zero _), fun j c hcj => ?_, hs0'.1, fun a o az aT ac e => hs0'.extBut _ _ az e⟩
    rw [if_neg (Nat.not_lt_zero _)]
    have mc : c ∈ cs := List.mem_of_getElem? hcj
    exact (c.dr (A := A) (prog := prog) (w := w) hh (S.ne c mc)).over (st c mc) hs0' (by simp; exact S.zc c mc)
  · obtain ⟨h1, tk1, vs, rfl, hz1, l1, hT1, hv1, hst1, hsz1, hk1⟩ := hI
    rw [Nat.zero_add] at hst1 hv1
    have hlen : ((cs.map fun c => Value.ref c.it).toArray.toList.zipIdx).length = cs.length := by simp
    rw [hlen] at hst1 hv1
    have hst2 : ∀ c ∈ cs, c.st (i + 1) h1 := fun c mc => by
      obtain ⟨j, hj, e⟩ := List.getElem_of_mem mc
      have := hst1 j c (by rw [List.getElem?_eq_getElem hj, e])
      rw [if_pos hj] at this
      exact this
    refine wpAny_bind (wpAny_seqItems (s := ⟨h1, g, d, tk1, os⟩) hT1 rfl ?_)
    refine wpAny_bind (wpAny_newTuple ?_)
    have hzlt : z < h1.objs.size := Heap.lt_size hz1
    show wpAny _ _ (Builtin.SmallTypes.ownedTupleHandOut (.ref z) (.ref h1.objs.size) >>= _) _ _ ⟨h1.push { cls := .type "tuple", data := .seq vs.toArray }, g, d, tk1, os⟩
    refine wpAny_bind ?_
    unfold Builtin.SmallTypes.ownedTupleHandOut
    have hz6 : IsZip (h1.push { cls := .type "tuple", data := .seq vs.toArray }) z TI TO .ellipsis := Heap.get?_push_of_some _ hz1
    refine wpAny_bind (wpAny_setField_rec hz6 (by simp) fun h7 hz7 hs7 => ?_)
    have hz7' : IsZip h7 z TI TO (rawInt h1.objs.size) := hz7
    have hs7' : Heap.SameBut z (h1.push { cls := .type "tuple", data := .seq vs.toArray }) h7 := hs7
    refine wpAny_setField_rec hz7' (by simp) fun h8 hz8 hs8 => ?_
    have hz8' : IsZip h8 z TI TO (rawInt h1.objs.size) := hz8
    have hs8' : Heap.SameBut z h7 h8 := hs8
    have up : ∀ c o, c ≠ z → h1.get? c = some o → h8.get? c = some o := fun c o c1 e => hs8'.extBut _ _ c1 (hs7'.extBut _ _ c1 (Heap.get?_push_of_some _ e))
    have hT8 : TupO h8 h1.objs.size vs := hs8'.extBut _ _ (Nat.ne_of_gt hzlt) (hs7'.extBut _ _ (Nat.ne_of_gt hzlt) (Heap.get?_push_size _ rfl))
    have sz8 : h8.objs.size = h1.objs.size + 1 := by rw [hs8'.1, hs7'.1, Heap.size_push]
    have hsz1' : h1.objs.size = hp.objs.size := hsz1
    rw [hsz1'] at hz8' hT8 sz8
    refine wpAny_pure ⟨_, rfl, ?_⟩
    show Q (.ref h1.objs.size) ⟨h8, g, d, tk1, os⟩
    rw [hsz1']
    exact hQ vs h8 tk1 l1 (fun j c v hc hv => hv1 j c v (List.getElem?_eq_some_iff.mp hc).1 hc hv) hz8' (up _ _ S.TOz hT1) (fun c mc => (c.dr (A := A) (prog := prog) (w := w) hh (S.ne c mc)).frame _ _ _ (hst2 c mc) fun b hb o e => up b o (by
      rcases (by simpa using hb : b = c.it ∨ b = c.l) with q | q
      · rw [q]; exact Ne.symm (S.zc c mc).1
      · rw [q]; exact Ne.symm (S.zc c mc).2) e) hT8 sz8 fun c o cz cT cc e => up c o cz (hk1 c o cz cT cc e)
theorem zipN_end {z TI TO : Addr} {cs : List Zc} {i : Nat} {olds : List Value} {Q : Fin → Shared → Prop} (hh : A.handled = none) (S : ZSep z TI TO cs) (h0 : cs ≠ []) (hz : IsZip s.heap z TI TO .none) (hTI : TupO s.heap TI (cs.map fun c => .ref c.it)) (hTO : TupO s.heap TO olds) (hl : olds.length = cs.length) (hc : cs.length ≤ 100) (st : ∀ c ∈ cs, c.st i s.heap) (le : ∀ c ∈ cs, i ≤ c.xs.size)
    (m : Nat) (cm : Zc) (hm : cs[m]? = some cm) (em : i = cm.xs.size) (lt : ∀ (j : Nat) (c : Zc), j < m → cs[j]? = some c → i < c.xs.size)
    (hE : ∀ h' tk e, (∀ c o, c ≠ z → c ≠ TO → (∀ d ∈ cs, c ≠ d.it) → s.heap.get? c = some o → h'.get? c = some o) → (∃ o, h'.get? e = some o ∧ o.cls = .type "StopIteration") → E (.ref e) { s with heap := h', toks := tk }) :
    wpAny (model prog w) A (Builtin.«zip.__next__» ⟨[.ref z], []⟩) Q E s := by
  obtain ⟨hp, g, d, tk0, os⟩ := s
  show wpAny _ _ (field (.ref z) 2 >>= _) _ _ _
  refine wpAny_bind (wpAny_field hz rfl (x := .bool false) rfl ?_)
  show wpAny _ _ (field (.ref z) 3 >>= _) _ _ _
  refine wpAny_bind (wpAny_field hz rfl (x := .ref TI) rfl (wpAny_bind (wpAny_seqItems hTI rfl ?_)))
  have hem : (cs.map fun c => Value.ref c.it).toArray.isEmpty = false := by
    cases cs with
    | nil => exact absurd rfl h0
    | cons c r => simp
  show wpAny _ _ (if (cs.map fun c => Value.ref c.it).toArray.isEmpty = true then _ else _) _ _ _
  rw [hem, if_neg (by decide)]
  show wpAny _ _ (Builtin.SmallTypes.ownedTupleIsFree (.ref z) >>= _) _ _ _
  refine wpAny_bind ?_
  unfold Builtin.SmallTypes.ownedTupleIsFree
  refine wpAny_bind (wpAny_field hz rfl (x := .none) rfl (wpAny_pure ?_))
  rw [if_pos rfl]
  refine wpAny_bind (wpAny_rule (wpAny_bind (wpAny_field hz rfl (x := .ref TO) rfl ?_)))
  refine wpAny_bind (wpAny_setField_rec hz (by simp) fun g0 hz0 hs0 => ?_)
  have hz0' : IsZip g0 z TI TO .ellipsis := hz0
  have hs0' : Heap.SameBut z hp g0 := hs0
  refine wpAny_bind (forIn_stp (fun n s' => n ≤ m ∧ ZAt z TI TO cs i ⟨hp, g, d, tk0, os⟩ n s') _ 0 (fun j p s' hj hI => ?_) ?_ (fun s' hI => ?_))
  · obtain ⟨hjm, h1, tk1, vs, rfl, hz1, l1, hT1, hv1, hst1, hsz1, hk1⟩ := hI
    rw [Nat.zero_add] at hst1 hv1 hjm ⊢
    obtain ⟨c, hcj, rfl⟩ : ∃ c, cs[j]? = some c ∧ p = (.ref c.it, j) := by
      rw [List.getElem?_zipIdx] at hj
      cases e : cs[j]? with
      | none => simp [e] at hj
      | some c => exact ⟨c, rfl, by simpa [e, eq_comm] using hj⟩
    have mc : c ∈ cs := List.mem_of_getElem? hcj
    have hjl : j < cs.length := (List.getElem?_eq_some_iff.mp hcj).1
    refine wpAny_bind (wpAny_onRaise ?_)
    show wpAny _ _ (Builtin.SmallTypes.nextOf (.ref c.it) >>= _) _ _ ⟨h1, g, d, tk1, os⟩
    have stc := hst1 j c hcj
    rw [if_neg (Nat.lt_irrefl j)] at stc
    by_cases hend : j = m
    · subst hend
      rw [hm] at hcj
      cases hcj
      refine wpAny_bind ((cm.dr hh (S.ne cm mc)).done ⟨h1, g, d, tk1, os⟩ _ _ (by rw [← em]; exact stc) fun q e hq he => ?_)
      have hq' : Heap.ExtBut cm.it h1 q := hq
      obtain ⟨oe, hoe, hce⟩ := he
      have hoe' : q.get? e = some oe := hoe
      have hzq : IsZip q z TI TO .ellipsis := hq' _ _ (S.zc cm mc).1 hz1
      have hez : e ≠ z := fun x => by subst x; rw [hzq] at hoe'; cases hoe'; simp at hce
      refine wpAny_setField_rec (s := ⟨q, g, d, tk1, os⟩) hzq (by simp) fun q' _ hq2 => ?_
      have hq2' : Heap.SameBut z q q' := hq2
      exact hE q' tk1 e (fun a o az aT ac x => hq2'.extBut _ _ az (hq' _ _ (ac cm mc) (hk1 a o az aT ac x))) ⟨oe, hq2'.extBut _ _ hez hoe', hce⟩
    refine wpAny_bind ((c.dr hh (S.ne c mc)).item i _ _ _ (lt j c (by omega) hcj) stc fun x p1 tk2 hx sn hp1 => wpAny_pure ?_)
    have hp1' : Heap.SameBut c.it h1 p1 := hp1
    have hU1 : TupO p1 TO vs := hp1'.extBut _ _ (S.Tc c mc).1 hT1
    refine wpAny_bind (wpAny_seqItems (s := ⟨p1, g, d, tk2, os⟩) hU1 rfl ?_)
    refine wpAny_bind (updT (s := ⟨p1, g, d, tk2, os⟩) hU1 (by omega) fun g1 hT2 hs1 => ?_)
    have hs1' : Heap.SameBut TO p1 g1 := hs1
    refine wpAny_bind (wpAny_letGo (wpAny_pure ⟨rfl, by omega, g1, tk2, vs.set j x, rfl, ?_, by rw [List.length_set]; exact l1, hT2, fun j' c' v' hlt hc' hv' => ?_, fun j' c' hc' => ?_, ?_, fun a o az aT ac e => ?_⟩))
    · exact hs1'.extBut _ _ (Ne.symm S.TOz) (hp1'.extBut _ _ (S.zc c mc).1 hz1)
    · by_cases hjj : j = j'
      · subst hjj
        rw [hcj] at hc'
        cases hc'
        rw [List.getElem?_set_self (by rw [l1]; exact hjl)] at hv'
        cases hv'
        exact hx
      · rw [List.getElem?_set_ne hjj] at hv'
        exact hv1 j' c' v' (by omega) hc' hv'
    · have mc' : c' ∈ cs := List.mem_of_getElem? hc'
      have fr : ∀ k, c'.st k p1 → c'.st k g1 := fun k hk => (c'.dr (A := A) (prog := prog) (w := w) hh (S.ne c' mc')).over hk hs1' (by simp; exact S.Tc c' mc')
      refine fr _ ?_
      by_cases hjj : j = j'
      · subst hjj
        rw [hcj] at hc'
        cases hc'
        rw [if_pos (Nat.lt_succ_self j)]
        exact sn
      · have e : (if j' < j + 1 then i + 1 else i) = (if j' < j then i + 1 else i) := by
          by_cases hlt : j' < j
          · rw [if_pos hlt, if_pos (by omega)]
          · rw [if_neg hlt, if_neg (by omega)]
        rw [e]
        exact (c'.dr (A := A) (prog := prog) (w := w) hh (S.ne c' mc')).over (hst1 j' c' hc') hp1' (by simp; exact S.pw j j' c c' hcj hc' hjj)
    · rw [hs1'.1, hp1'.1]
      exact hsz1
    · exact hs1'.extBut _ _ aT (hp1'.extBut _ _ (ac c mc) (hk1 a o az aT ac e))
  · refine ⟨Nat.zero_le _, g0, tk0, olds, rfl, hz0', hl, hs0'.extBut _ _ S.TOz hTO, fun _ _ _ hlt => absurd hlt (Nat.not_lt_zero _), fun j c hcj => ?_, hs0'.1, fun a o az aT ac e => hs0'.extBut _ _ az e⟩
    rw [if_neg (Nat.not_lt_zero _)]
    have mc : c ∈ cs := List.mem_of_getElem? hcj
    exact (c.dr (A := A) (prog := prog) (w := w) hh (S.ne c mc)).over (st c mc) hs0' (by simp; exact S.zc c mc)
  · obtain ⟨hle, _⟩ := hI
    have hlen : ((cs.map fun c => Value.ref c.it).toArray.toList.zipIdx).length = cs.length := by simp
    rw [hlen] at hle
    have := (List.getElem?_eq_some_iff.mp hm).1
    omega
theorem in1_h (h : A.handled = none) : A.in1.handled = none := h
theorem nextN_item {z TI TO : Addr} {cs : List Zc} {i : Nat} {olds : List Value} {Q : Option Value → Shared → Prop} (hh : A.handled = none) (S : ZSep z TI TO cs) (h0 : cs ≠ []) (hz : IsZip s.heap z TI TO .none) (hTI : TupO s.heap TI (cs.map fun c => .ref c.it)) (hTO : TupO s.heap TO olds) (hl : olds.length = cs.length) (hc : cs.length ≤ 100) (st : ∀ c ∈ cs, c.st i s.heap) (lt : ∀ c ∈ cs, i < c.xs.size)
    (hQ : ∀ vs h' tk, vs.length = cs.length → (∀ (j : Nat) (c : Zc) (v : Value), cs[j]? = some c → vs[j]? = some v → c.xs[i]? = some v) → IsZip h' z TI TO (rawInt s.heap.objs.size) → TupO h' TO vs → (∀ c ∈ cs, c.st (i + 1) h') → TupO h' s.heap.objs.size vs → h'.objs.size = s.heap.objs.size + 1 →
      (∀ c o, c ≠ z → c ≠ TO → (∀ d ∈ cs, c ≠ d.it) → s.heap.get? c = some o → h'.get? c = some o) → Q (some (.ref s.heap.objs.size)) { s with heap := h', toks := tk }) : wpAny (model prog w) A (pyNext (.ref z)) Q E s := by
  have hT : s.TypeIs (.ref z) "zip" := ⟨_, hz, rfl⟩
  unfold pyNext
  exact wpAny_bind (wpAny_attempt (wpAny_callSpecial?_slot (name := Str.ofString "__next__") hT F.slot_zip_next (wpAny_call_entry F.slot_zip_next hT F.entry_zip_next (zipN_item (in1_h hh) S h0 hz hTI hTO hl hc st lt fun vs h' tk a1 a2 a3 a4 a5 a6 a7 a8 => wpAny_pure (hQ vs h' tk a1 a2 a3 a4 a5 a6 a7 a8)) (F.args_zip_next_1 _))))
theorem nextN_end {z TI TO : Addr} {cs : List Zc} {i : Nat} {olds : List Value} {Q : Option Value → Shared → Prop} (hh : A.handled = none) (S : ZSep z TI TO cs) (h0 : cs ≠ []) (hz : IsZip s.heap z TI TO .none) (hTI : TupO s.heap TI (cs.map fun c => .ref c.it)) (hTO : TupO s.heap TO olds) (hl : olds.length = cs.length) (hc : cs.length ≤ 100) (st : ∀ c ∈ cs, c.st i s.heap) (le : ∀ c ∈ cs, i ≤ c.xs.size) (he : ∃ c ∈ cs, i = c.xs.size)
    (hQ : ∀ h' tk, (∀ c o, c ≠ z → c ≠ TO → (∀ d ∈ cs, c ≠ d.it) → s.heap.get? c = some o → h'.get? c = some o) → Q none { s with heap := h', toks := tk }) : wpAny (model prog w) A (pyNext (.ref z)) Q E s := by
  have hT : s.TypeIs (.ref z) "zip" := ⟨_, hz, rfl⟩
  -- the first that is at its end
  have first : ∀ n : Nat, (∃ j c, j < n ∧ cs[j]? = some c ∧ i = c.xs.size) → ∃ m cm, cs[m]? = some cm ∧ i = cm.xs.size ∧ ∀ (j : Nat) (c : Zc), j < m → cs[j]? = some c → i < c.xs.size := by
    intro n
    induction n with
    | zero => rintro ⟨j, c, h, _⟩; exact absurd h (Nat.not_lt_zero _)
    | succ n ih =>
      rintro ⟨j, c, h1, h2, h3⟩
      by_cases hx : ∃ j c, j < n ∧ cs[j]? = some c ∧ i = c.xs.size
      · exact ih hx
      · have ej : j = n := by
          by_cases hj : j = n
          · exact hj
          · exact absurd ⟨j, c, by omega, h2, h3⟩ hx
        subst ej
        refine ⟨j, c, h2, h3, fun k d hk hd => ?_⟩
        have l1 := le d (List.mem_of_getElem? hd)
        by_cases hq : i = d.xs.size
        · exact absurd ⟨k, d, hk, hd, hq⟩ hx
        · omega
  obtain ⟨c0, mc0, e0⟩ := he
  obtain ⟨j0, hj0, ej0⟩ := List.getElem_of_mem mc0
  obtain ⟨m, cm, hm, em, hlt⟩ := first cs.length ⟨j0, c0, hj0, by rw [List.getElem?_eq_getElem hj0, ej0], e0⟩
  unfold pyNext
  refine wpAny_bind (wpAny_attempt (wpAny_callSpecial?_slot (name := Str.ofString "__next__") hT F.slot_zip_next (wpAny_call_entry F.slot_zip_next hT F.entry_zip_next (zipN_end (in1_h hh) S h0 hz hTI hTO hl hc st le m cm hm em hlt fun h' tk e hk hx => ?_) (F.args_zip_next_1 _))))
  obtain ⟨o, ho, hcl⟩ := hx
  exact wpAny_bind (wpAny_isInstance (T := "StopIteration") (b := true) ⟨o, ho, hcl⟩ isSubtype_stop (wpAny_pure (hQ _ _ hk)))
end
end Den

namespace Den
open PySem PySem.Spec PyProof.Rows L2 Bal
/-- a list, a tuple, read -/
def SqK (K : PySem.W.Frag) (H : Hp) : Bool × Addr → List V → Prop
  | (true, a), xs => SqL K H a xs
  | (false, a), xs => SqT K H a xs
def ItN (K : PySem.W.Frag) (ps : List (Bool × Addr)) : It :=
  ⟨fun i H => ∀ p ∈ ps, ∃ xs x, SqK K H p xs ∧ xs[i]? = some x,
    fun i H v H' => ∃ (T : Addr) (ys : List V) (o : Obj), v = .ref T ∧ H T = none ∧ o.dict = none ∧ H' = upd H T (.frz o (.tup ys)) ∧ ys.length = ps.length ∧ ∀ (j : Nat) (p : Bool × Addr) (y : V), ps[j]? = some p → ys[j]? = some y → ∀ xs, SqK K H p xs → xs[i]? = some y,
    fun i H => (∀ p ∈ ps, ∃ xs, SqK K H p xs ∧ i ≤ xs.length) ∧ ∃ p ∈ ps, ∃ xs, SqK K H p xs ∧ xs.length ≤ i⟩
section
variable {X : Cx} {pins : List (Addr × Obj)} {σ : L2.St} {H : Hp} {s : Shared}
theorem sqK_obj (I : Inv X pins σ H s) {p : Bool × Addr} {xs : List V} (h : SqK X.K H p xs) : ∃ its : List Value, Vals xs its ∧ sqS p.1 s.heap p.2 its.toArray ∧ p.2 < s.heap.objs.size := by
  obtain ⟨b, a⟩ := p
  cases b with
  | true =>
    obtain ⟨its, r, pl, _⟩ := I.list h
    exact ⟨its, r, pl.isList, pl.lt⟩
  | false =>
    obtain ⟨its, r, pl, _⟩ := I.tuple h
    exact ⟨its, r, (show s.heap.IsTuple a its.toArray from pl), pl.lt⟩
theorem sqK_inj (I : Inv X pins σ H s) {p : Bool × Addr} {xs ys : List V} (h : SqK X.K H p xs) (h' : SqK X.K H p ys) : xs = ys := by
  obtain ⟨b, a⟩ := p
  cases b with
  | true => exact I.list_inj h h'
  | false => exact I.tuple_inj h h'
/-- the iterators with what they walk, as it stands -/
theorem zcs (I : Inv X pins σ H s) (f : List V → Prop) : ∀ (ts : List Addr) (ps : List (Bool × Addr)), ts.length = ps.length → (∀ p ∈ ps, ∃ xs, SqK X.K H p xs ∧ f xs) →
    ∃ cs : List Zc, cs.map (·.it) = ts ∧ cs.map (fun c => (c.b, c.l)) = ps ∧ ∀ c ∈ cs, ∃ xs : List V, SqK X.K H (c.b, c.l) xs ∧ f xs ∧ Vals xs c.xs.toList ∧ sqS c.b s.heap c.l c.xs
  | [], [], _, _ => ⟨[], rfl, rfl, fun _ h => (nomatch h)⟩
  | t :: ts, p :: ps, hl, h => by
    obtain ⟨cs, e1, e2, h1⟩ := zcs I f ts ps (Nat.succ.inj hl) fun q hq => h q (List.mem_cons_of_mem _ hq)
    obtain ⟨xs, hs, hf⟩ := h p (List.mem_cons_self ..)
    obtain ⟨its, r, hq, _⟩ := sqK_obj I hs
    refine ⟨⟨t, p.2, p.1, its.toArray⟩ :: cs, by rw [List.map_cons, e1], by rw [List.map_cons, e2], fun c hc => ?_⟩
    rcases List.mem_cons.mp hc with rfl | hc
    · exact ⟨xs, hs, hf, by simpa using r, hq⟩
    · exact h1 c hc
theorem itS_keep {b : Bool} {h h' : Heap} {it l : Addr} {k : Nat} (x : itS b h it l k) (kp : ∀ o, h.get? it = some o → h'.get? it = some o) : itS b h' it l k := by
  cases b with
  | true => exact Heap.IsListIter.at x kp
  | false => exact Heap.IsTupleIter.at x kp
theorem itS_obj {b : Bool} {h : Heap} {it l : Addr} {k : Nat} (x : itS b h it l k) : ∃ o, h.get? it = some o ∧ ∀ v, o.data ≠ .cell v := by
  cases b with
  | true =>
    obtain ⟨o, e, _, d⟩ := x
    exact ⟨o, e, fun v q => by rw [d] at q; cases q⟩
  | false =>
    obtain ⟨o, e, _, d⟩ := x
    exact ⟨o, e, fun v q => by rw [d] at q; cases q⟩
end
/-- the cells lie apart -/
structure Apt (z TI TO : Addr) (ts : List Addr) (ps : List (Bool × Addr)) : Prop where
  len : ts.length = ps.length
  few : ts.length ≤ 100
  one : ts ≠ []
  TIz : TI ≠ z
  TOz : TO ≠ z
  TITO : TI ≠ TO
  zt : z ∉ ts
  It : TI ∉ ts
  Ot : TO ∉ ts
  nd : ts.Nodup
  pz : ∀ p ∈ ps, p.2 ≠ z ∧ p.2 ≠ TO ∧ p.2 ∉ ts
def ZTn (z TI TO : Addr) (ts : List Addr) (ps : List (Bool × Addr)) (i : Nat) (h : Heap) : Prop := IsZip h z TI TO .none ∧ TupO h TI (ts.map .ref) ∧ (∃ olds, olds.length = ts.length ∧ TupO h TO olds) ∧ ∀ (j : Nat) (t : Addr) (p : Bool × Addr), ts[j]? = some t → ps[j]? = some p → itS p.1 h t p.2 i
theorem apt_sep {z TI TO : Addr} {cs : List Zc} (D : Apt z TI TO (cs.map (·.it)) (cs.map fun c => (c.b, c.l))) : ZSep z TI TO cs where
  TIz := D.TIz
  TOz := D.TOz
  TITO := D.TITO
  TIc := fun c hc e => D.It (by rw [e]; exact List.mem_map.mpr ⟨c, hc, rfl⟩)
  zc := fun c hc => ⟨fun e => D.zt (by rw [e]; exact List.mem_map.mpr ⟨c, hc, rfl⟩), fun e => (D.pz (c.b, c.l) (List.mem_map.mpr ⟨c, hc, rfl⟩)).1 e.symm⟩
  Tc := fun c hc => ⟨fun e => D.Ot (by rw [e]; exact List.mem_map.mpr ⟨c, hc, rfl⟩), fun e => (D.pz (c.b, c.l) (List.mem_map.mpr ⟨c, hc, rfl⟩)).2.1 e.symm⟩
  ne := fun c hc e => (D.pz (c.b, c.l) (List.mem_map.mpr ⟨c, hc, rfl⟩)).2.2 (by show c.l ∈ _; rw [e]; exact List.mem_map.mpr ⟨c, hc, rfl⟩)
  pw := fun j k c d hj hk hjk => ⟨fun e => by
      have h1 : (cs.map (·.it))[j]? = some c.it := by rw [List.getElem?_map, hj]; rfl
      have h2 : (cs.map (·.it))[k]? = some c.it := by rw [List.getElem?_map, hk, e]; rfl
      obtain ⟨l1, e1⟩ := List.getElem?_eq_some_iff.mp h1
      obtain ⟨l2, e2⟩ := List.getElem?_eq_some_iff.mp h2
      exact hjk ((List.getElem_inj D.nd).mp (e1.trans e2.symm)), fun e => (D.pz (d.b, d.l) (List.mem_map.mpr ⟨d, List.mem_of_getElem? hk, rfl⟩)).2.2 (by show d.l ∈ _; rw [← e]; exact List.mem_map.mpr ⟨c, List.mem_of_getElem? hj, rfl⟩)⟩
theorem turnN {P : Program} {w : World} {K : PySem.W.Frag} {elts : List Expr} {kk : Nat} {tpos : Pos} {z TI TO : Addr} {ts : List Addr} {ps : List (Bool × Addr)} (D : Apt z TI TO ts ps) : Turn P w K (.Tuple elts kk tpos) (ItN K ps) (z :: TI :: TO :: ts) z (ZTn z TI TO ts ps) where
  mem := List.mem_cons_self ..
  obj := fun i h st c hc => by
    obtain ⟨hz, hTI, ⟨olds, _, hTO⟩, hi⟩ := st
    rcases List.mem_cons.mp hc with rfl | hc
    · exact ⟨_, hz, fun v q => nomatch q⟩
    rcases List.mem_cons.mp hc with rfl | hc
    · exact ⟨_, hTI, fun v q => nomatch q⟩
    rcases List.mem_cons.mp hc with rfl | hc
    · exact ⟨_, hTO, fun v q => nomatch q⟩
    obtain ⟨j, hj, e⟩ := List.getElem_of_mem hc
    exact itS_obj (hi j c _ (by rw [List.getElem?_eq_getElem hj, e]) (List.getElem?_eq_getElem (by rw [← D.len]; exact hj)))
  keep := fun i h h' st k => by
    obtain ⟨hz, hTI, ⟨olds, l, hTO⟩, hi⟩ := st
    refine ⟨k z (List.mem_cons_self ..) _ hz, k TI (List.mem_cons_of_mem _ (List.mem_cons_self ..)) _ hTI, ⟨olds, l, k TO (List.mem_cons_of_mem _ (List.mem_cons_of_mem _ (List.mem_cons_self ..))) _ hTO⟩, fun j t p hj hp => itS_keep (hi j t p hj hp) fun o q => ?_⟩
    exact k t (List.mem_cons_of_mem _ (List.mem_cons_of_mem _ (List.mem_cons_of_mem _ (List.mem_of_getElem? hj)))) o q
  item := by
    intro X hP hw hK hc i pins s σ H E I hf st hg
    subst hP hw hK
    obtain ⟨hz, hTI, ⟨olds, lo, hTO⟩, hi⟩ := st
    obtain ⟨cs, e1, e2, hcs⟩ := zcs I (fun xs => ∃ x, xs[i]? = some x) ts ps D.len fun p hp => let ⟨xs, x, h1, h2⟩ := hg p hp; ⟨xs, h1, x, h2⟩
    subst e1 e2
    have S := apt_sep D
    have hzl : z < s.heap.objs.size := Heap.lt_size hz
    have gc : ∀ (j : Nat) (c : Zc), cs[j]? = some c → (cs.map (·.it))[j]? = some c.it ∧ (cs.map fun c => (c.b, c.l))[j]? = some (c.b, c.l) := fun j c h => by
      rw [List.getElem?_map, List.getElem?_map, h]
      exact ⟨rfl, rfl⟩
    have sts : ∀ c ∈ cs, c.st i s.heap := fun c mc => by
      obtain ⟨j, hj, e⟩ := List.getElem_of_mem mc
      have hc : cs[j]? = some c := by rw [List.getElem?_eq_getElem hj, e]
      obtain ⟨xs, _, _, _, hq⟩ := hcs c mc
      exact ⟨hi j c.it (c.b, c.l) (gc j c hc).1 (gc j c hc).2, hq⟩
    have lts : ∀ c ∈ cs, i < c.xs.size := fun c mc => by
      obtain ⟨xs, _, ⟨x, hx⟩, r, _⟩ := hcs c mc
      have := (List.getElem?_eq_some_iff.mp hx).1
      have e : xs.length = c.xs.size := by rw [Vals.length r, Array.length_toList]
      omega
    have h0 : cs ≠ [] := fun e => D.one (by rw [e]; rfl)
    have hTI' : TupO s.heap TI (cs.map fun c => .ref c.it) := by rw [List.map_map] at hTI; exact hTI
    refine nextN_item (I.ok.hd hc) S h0 hz hTI' hTO (by rw [lo, List.length_map]) (by have := D.few; rw [List.length_map] at this; exact this) sts lts fun vs h' tk lv hv z' TO' sts' hT hsz hk => ?_
    refine ⟨_, rfl, wpAny_letOwnedTupleGo_zip (s := { s with heap := h', toks := tk }) z' fun h'' z'' sb => ?_⟩
    have sb' : Heap.SameBut z h' h'' := sb
    have hT2 : TupO h'' s.heap.objs.size vs := (sb'.2 _ (Nat.ne_of_gt hzl)).trans hT
    -- what was drawn, as values
    have drawn : ∀ (cs : List Zc) (vs : List Value), vs.length = cs.length → (∀ (j : Nat) (c : Zc) (v : Value), cs[j]? = some c → vs[j]? = some v → c.xs[i]? = some v) → (∀ c ∈ cs, ∃ xs : List V, SqK X.K H (c.b, c.l) xs ∧ (∃ x, xs[i]? = some x) ∧ Vals xs c.xs.toList ∧ sqS c.b s.heap c.l c.xs) → ∃ ys : List V, Vals ys vs ∧ ∀ (j : Nat) (c : Zc) (y : V), cs[j]? = some c → ys[j]? = some y → ∀ xs, SqK X.K H (c.b, c.l) xs → xs[i]? = some y := by
      intro cs
      induction cs with
      | nil => intro vs lv _ _; cases vs with | nil => exact ⟨[], .nil, fun j c y h => by simp at h⟩ | cons _ _ => simp at lv
      | cons c cs ih =>
        intro vs lv hv hcs
        cases vs with
        | nil => simp at lv
        | cons v vs =>
          obtain ⟨ys, r, hy⟩ := ih vs (Nat.succ.inj lv) (fun j c' v' h1 h2 => hv (j + 1) c' v' (by simpa using h1) (by simpa using h2)) fun c' hc' => hcs c' (List.mem_cons_of_mem _ hc')
          obtain ⟨xs, hs, ⟨x, hx⟩, rx, _⟩ := hcs c (List.mem_cons_self ..)
          obtain ⟨u, hu, ru⟩ := rx.get hx
          have e1 := hv 0 c v rfl rfl
          have eu : u = v := by
            rw [Array.getElem?_toList] at hu
            rw [hu] at e1
            exact Option.some.inj e1
          subst eu
          refine ⟨x :: ys, .cons ru r, fun j c' y h1 h2 xs' hs' => ?_⟩
          cases j with
          | zero =>
            simp at h1 h2
            subst h1 h2
            rw [sqK_inj I hs' hs]
            exact hx
          | succ j => exact hy j c' y (by simpa using h1) (by simpa using h2) xs' hs'
    obtain ⟨ys, ry, hy⟩ := drawn cs vs lv hv hcs
    have ly : ys.length = cs.length := ry.length.trans lv
    have fpm : ∀ {c : Addr}, c ∉ (z :: TI :: TO :: cs.map (·.it)) → c ≠ z ∧ c ≠ TO ∧ ∀ d ∈ cs, c ≠ d.it := fun {c} hc => ⟨fun e => hc (by rw [e]; exact List.mem_cons_self ..), fun e => hc (by rw [e]; exact List.mem_cons_of_mem _ (List.mem_cons_of_mem _ (List.mem_cons_self ..))), fun d hd e => hc (by rw [e]; exact List.mem_cons_of_mem _ (List.mem_cons_of_mem _ (List.mem_cons_of_mem _ (List.mem_map.mpr ⟨d, hd, rfl⟩))))⟩
    have I1 : Inv X pins σ (upd H s.heap.objs.size (.frz { cls := .type "tuple", data := .seq vs.toArray } (.tup ys))) { s with heap := h'', toks := tk } :=
      I.turnedNew (t' := tk) (ch := z :: TI :: TO :: cs.map (·.it)) (fun c o hb q => (sb'.2 c (fpm hb).1).trans (hk c o (fpm hb).1 (fpm hb).2.1 (fpm hb).2.2 q)) hf (Nat.le_refl _) (frz_tup (by rw [ly, sizeLine_eq]; have := D.few; rw [List.length_map] at this; omega) ry hT2)
    refine ⟨.ref s.heap.objs.size, _, I1, rfl, ⟨_, ys, _, rfl, I.hok.fresh (Nat.le_refl _), rfl, rfl, by rw [ly, List.length_map], fun j p y hp hy2 xs hs => ?_⟩, ⟨z'', ?_, ⟨vs, by rw [lv, List.length_map], (sb'.2 _ S.TOz).trans TO'⟩, fun j t p hj hp => ?_⟩, fun c hcm => ?_⟩
    · rw [List.getElem?_map] at hp
      cases ec : cs[j]? with
      | none => rw [ec] at hp; cases hp
      | some c =>
        rw [ec] at hp
        cases hp
        exact hy j c y ec hy2 xs hs
    · exact (sb'.2 _ S.TIz).trans (hk _ _ S.TIz S.TITO (fun d hd => S.TIc d hd) hTI)
    · rw [List.getElem?_map] at hj hp
      cases ec : cs[j]? with
      | none => rw [ec] at hj; cases hj
      | some c =>
        rw [ec] at hj hp
        cases hj
        cases hp
        have mc := List.mem_of_getElem? ec
        exact itS_keep (sts' c mc).1 fun o q => (sb'.2 _ (Ne.symm (S.zc c mc).1)).trans q
    · have hlt : c < s.heap.objs.size := by
        rcases List.mem_cons.mp hcm with rfl | hcm
        · exact hzl
        rcases List.mem_cons.mp hcm with rfl | hcm
        · exact Heap.lt_size hTI
        rcases List.mem_cons.mp hcm with rfl | hcm
        · exact Heap.lt_size hTO
        obtain ⟨d, hd, rfl⟩ := List.mem_map.mp hcm
        obtain ⟨o, e, _⟩ := itS_obj (sts d hd).1
        exact Heap.lt_size e
      rw [upd_ne (Nat.ne_of_lt hlt)]
      exact (hf c hcm).1
  done := by
    intro X hP hw hK hc i pins s σ H E I hf st hg
    subst hP hw hK
    obtain ⟨hz, hTI, ⟨olds, lo, hTO⟩, hi⟩ := st
    obtain ⟨hall, p0, hp0, xs0, hs0, hl0⟩ := hg
    obtain ⟨cs, e1, e2, hcs⟩ := zcs I (fun xs => i ≤ xs.length) ts ps D.len hall
    subst e1 e2
    have S := apt_sep D
    have gc : ∀ (j : Nat) (c : Zc), cs[j]? = some c → (cs.map (·.it))[j]? = some c.it ∧ (cs.map fun c => (c.b, c.l))[j]? = some (c.b, c.l) := fun j c h => by
      rw [List.getElem?_map, List.getElem?_map, h]
      exact ⟨rfl, rfl⟩
    have sts : ∀ c ∈ cs, c.st i s.heap := fun c mc => by
      obtain ⟨j, hj, e⟩ := List.getElem_of_mem mc
      have hc : cs[j]? = some c := by rw [List.getElem?_eq_getElem hj, e]
      obtain ⟨xs, _, _, _, hq⟩ := hcs c mc
      exact ⟨hi j c.it (c.b, c.l) (gc j c hc).1 (gc j c hc).2, hq⟩
    have les : ∀ c ∈ cs, i ≤ c.xs.size := fun c mc => by
      obtain ⟨xs, _, hx, r, _⟩ := hcs c mc
      have e : xs.length = c.xs.size := by rw [Vals.length r, Array.length_toList]
      omega
    have hend : ∃ c ∈ cs, i = c.xs.size := by
      obtain ⟨c, mc, rfl⟩ := List.mem_map.mp hp0
      obtain ⟨xs, hs, hx, r, _⟩ := hcs c mc
      have e : xs.length = c.xs.size := by rw [Vals.length r, Array.length_toList]
      rw [sqK_inj I hs0 hs] at hl0
      exact ⟨c, mc, by omega⟩
    have h0 : cs ≠ [] := fun e => D.one (by rw [e]; rfl)
    have hTI' : TupO s.heap TI (cs.map fun c => .ref c.it) := by rw [List.map_map] at hTI; exact hTI
    refine nextN_end (I.ok.hd hc) S h0 hz hTI' hTO (by rw [lo, List.length_map]) (by have := D.few; rw [List.length_map] at this; exact this) sts les hend fun h' tk hk => ⟨rfl, I.turnedL (t' := tk) (ch := z :: TI :: TO :: cs.map (·.it)) (fun c o hb q => hk c o (fun e => hb (by rw [e]; exact List.mem_cons_self ..)) (fun e => hb (by rw [e]; exact List.mem_cons_of_mem _ (List.mem_cons_of_mem _ (List.mem_cons_self ..)))) (fun d hd e => hb (by rw [e]; exact List.mem_cons_of_mem _ (List.mem_cons_of_mem _ (List.mem_cons_of_mem _ (List.mem_map.mpr ⟨d, hd, rfl⟩))))) q) hf⟩
  self := fun A i s Q E st h => wpAny_pyIter_zip st.1 h
end Den

namespace Den
open PySem PySem.Spec PyProof.Rows L2 Bal
/-! ### what zip tells -/
def minL : List (List W) → Nat
  | [] => 0
  | [l] => l.length
  | l :: r => min l.length (minL r)
def atR (i : Nat) : List (List W) → List W
  | [] => []
  | l :: r => (l[i]?.getD .non) :: atR i r
def zipL (ls : List (List W)) : List W := (List.range (minL ls)).map fun i => .tup (atR i ls)
theorem minL_le : ∀ {ls : List (List W)} {l : List W}, l ∈ ls → minL ls ≤ l.length
  | [l], _, h => by simp at h; subst h; exact Nat.le_refl _
  | l :: m :: r, k, h => by
    rcases List.mem_cons.mp h with rfl | h
    · exact Nat.min_le_left ..
    · exact Nat.le_trans (Nat.min_le_right ..) (minL_le (ls := m :: r) h)
theorem minL_eq : ∀ {ls : List (List W)}, ls ≠ [] → ∃ l ∈ ls, minL ls = l.length
  | [], h => absurd rfl h
  | [l], _ => ⟨l, List.mem_cons_self .., rfl⟩
  | l :: m :: r, _ => by
    obtain ⟨k, hk, e⟩ := minL_eq (ls := m :: r) (by simp)
    show ∃ l' : List W, l' ∈ l :: m :: r ∧ min l.length (minL (m :: r)) = l'.length
    rcases Nat.le_total l.length (minL (m :: r)) with h | h
    · exact ⟨l, List.mem_cons_self .., by rw [Nat.min_eq_left h]⟩
    · exact ⟨k, List.mem_cons_of_mem _ hk, by rw [Nat.min_eq_right h]; exact e⟩
/-- an argument of zip, as it is walked -/
def ArgSv (Γ : Gm) (p : Bool × Addr) (ws : List W) (keep : List Nat) (H0 : Hp) (μ0 : List Addr) (S0 : Store) : Prop := ws.length ≤ sizeLine ∧ ∀ {Γ' : Gm} H μ S, Γ'.K = Γ.K → Gr H0 μ0 H μ → Ok Γ' H μ S → (∀ n ∈ keep, S[n]? = S0[n]?) → (∀ v w, Rp Γ H0 μ0 v w → Rp Γ' H μ v w) → ∃ xs, SqK Γ.K H p xs ∧ Rps Γ' H μ xs ws
def sqI (S : Store) : List W → Option (List (List W) × List Nat)
  | [] => some ([], [])
  | w :: ws => match seqI S w, sqI S ws with
    | some (a, k), some (r, m) => some (a :: r, k ++ m)
    | _, _ => none
theorem arg_one {Γ : Gm} {H0 : Hp} {μ0 : List Addr} {S0 : Store} (k0 : Ok Γ H0 μ0 S0) {v : V} {w : W} {ws : List W} {keep : List Nat} (r : Rp Γ H0 μ0 v w) (e : seqI S0 w = some (ws, keep)) : ∃ p : Bool × Addr, v = .ref p.2 ∧ (∃ xs, SqK Γ.K H0 p xs) ∧ ArgSv Γ p ws keep H0 μ0 S0 := by
  have rsU : ∀ {Γ' : Gm} {H : Hp} {μ : List Addr}, (∀ v w, Rp Γ H0 μ0 v w → Rp Γ' H μ v w) → ∀ {xs : List V} {ws : List W}, Rps Γ H0 μ0 xs ws → Rps Γ' H μ xs ws := fun {Γ' H μ} up => by
    intro xs
    induction xs with
    | nil => intro ws r; cases r; exact .nil
    | cons x xs ih => intro ws r; cases r with | cons a b => exact .cons (up _ _ a) (ih b)
  cases r with
  | @tup a xs us h l q =>
    cases e
    exact ⟨(false, a), rfl, ⟨xs, h.sq⟩, by rw [← q.len]; exact l, fun {Γ'} H μ S hK g k _ up => ⟨xs, (h.gr g).sq, rsU up q⟩⟩
  | @cl a xs us h n m l q =>
    cases e
    exact ⟨(true, a), rfl, ⟨xs, .inl (.inl h)⟩, by rw [← q.len]; exact l, fun {Γ'} H μ S hK g k _ up => ⟨xs, .inl (.inl (g.keep _ _ h n).1), rsU up q⟩⟩
  | @lst a n h hq =>
    obtain ⟨xs, us, e1, e2, l, q⟩ := k0.lat h hq
    have e : (S0[n]?).map (fun ws => (ws, [n])) = some (ws, keep) := e
    rw [e1] at e
    cases e
    refine ⟨(true, a), rfl, ⟨xs, .inl (.inl e2)⟩, by rw [← q.len]; exact l, fun {Γ'} H μ S hK g k hk up => ?_⟩
    obtain ⟨ys, vs, e3, e4, l4, q4⟩ := k.lat (g.get h) (g.kind _ _ (List.mem_of_getElem? h) hq)
    rw [hk n (List.mem_singleton.mpr rfl), e1] at e3
    cases e3
    exact ⟨ys, .inl (.inl e4), q4⟩
  | _ => cases e
theorem args_all {Γ : Gm} {H0 : Hp} {μ0 : List Addr} {S0 : Store} (k0 : Ok Γ H0 μ0 S0) : ∀ {vs : List V} {ws : List W} {ls : List (List W)} {keep : List Nat}, Rps Γ H0 μ0 vs ws → sqI S0 ws = some (ls, keep) →
    ∃ ps : List (Bool × Addr), vs = ps.map (fun p => .ref p.2) ∧ ps.length = ls.length ∧ ∀ (j : Nat) (p : Bool × Addr) (l : List W), ps[j]? = some p → ls[j]? = some l → (∃ xs, SqK Γ.K H0 p xs) ∧ ArgSv Γ p l keep H0 μ0 S0
  | _, _, ls, keep, .nil, e => by
    cases e
    exact ⟨[], rfl, rfl, fun j p l h => by simp at h⟩
  | _, _, ls, keep, .cons (w := w) (ws := ws) a b, e => by
    unfold sqI at e
    cases e1 : seqI S0 w with
    | none => rw [e1] at e; cases e
    | some x =>
      cases e2 : sqI S0 ws with
      | none => rw [e1, e2] at e; cases e
      | some y =>
        obtain ⟨x1, x2⟩ := x
        obtain ⟨y1, y2⟩ := y
        rw [e1, e2] at e
        cases e
        obtain ⟨p, rfl, hp, sv⟩ := arg_one k0 a e1
        obtain ⟨ps, rfl, hl, hs⟩ := args_all k0 b e2
        refine ⟨p :: ps, rfl, by simp [hl], fun j q l hq hl => ?_⟩
        cases j with
        | zero =>
          simp at hq hl
          subst hq hl
          exact ⟨hp, sv.1, fun {Γ'} H μ S hK g k hk up => sv.2 H μ S hK g k (fun n hn => hk n (List.mem_append_left _ hn)) up⟩
        | succ j =>
          obtain ⟨h1, h2⟩ := hs j q l (by simpa using hq) (by simpa using hl)
          exact ⟨h1, h2.1, fun {Γ'} H μ S hK g k hk up => h2.2 H μ S hK g k (fun n hn => hk n (List.mem_append_right _ hn)) up⟩
/-- zip serves the rows -/
theorem srv_zip {Γ : Gm} {H0 : Hp} {μ0 : List Addr} {S0 : Store} {ps : List (Bool × Addr)} {ls : List (List W)} {keep : List Nat} (hl : ps.length = ls.length) (h0 : ps ≠ []) (hf : ps.length ≤ 100) (hs : ∀ (j : Nat) (p : Bool × Addr) (l : List W), ps[j]? = some p → ls[j]? = some l → ArgSv Γ p l keep H0 μ0 S0) : Srv Γ (ItN Γ.K ps) (zipL ls) keep H0 μ0 S0 := by
  have hz : (zipL ls).length = minL ls := by unfold zipL; rw [List.length_map, List.length_range]
  have h1 : ls ≠ [] := fun e => h0 (by rw [e] at hl; exact List.eq_nil_of_length_eq_zero hl)
  obtain ⟨l0, ml0, el0⟩ := minL_eq h1
  have pl : ∀ p ∈ ps, ∃ l ∈ ls, ArgSv Γ p l keep H0 μ0 S0 := fun p mp => by
    obtain ⟨j, hj, e⟩ := List.getElem_of_mem mp
    have hj2 : j < ls.length := by omega
    exact ⟨ls[j], List.getElem_mem hj2, hs j p ls[j] (by rw [List.getElem?_eq_getElem hj, e]) (List.getElem?_eq_getElem hj2)⟩
  have lp : ∀ l ∈ ls, ∃ p ∈ ps, ArgSv Γ p l keep H0 μ0 S0 := fun l ml => by
    obtain ⟨j, hj, e⟩ := List.getElem_of_mem ml
    have hj2 : j < ps.length := by omega
    exact ⟨ps[j], List.getElem_mem hj2, hs j ps[j] l (List.getElem?_eq_getElem hj2) (by rw [List.getElem?_eq_getElem hj, e])⟩
  refine ⟨?_, fun {Γ'} H μ S hK g k hk up => ?_⟩
  · rw [hz, el0]
    obtain ⟨p, _, sv⟩ := lp l0 ml0
    exact sv.1
  rw [hz]
  refine ⟨fun i hi => ⟨fun p mp => ?_, fun x H' y => ?_⟩, fun p mp => ?_, ?_⟩
  · obtain ⟨l, ml, sv⟩ := pl p mp
    obtain ⟨xs, h2, r⟩ := sv.2 H μ S hK g k hk up
    have hlt : i < xs.length := by
      rw [r.len]
      exact Nat.lt_of_lt_of_le hi (minL_le ml)
    exact ⟨xs, xs[i], h2, List.getElem?_eq_getElem hlt⟩
  · obtain ⟨T, ys, o, rfl, nT, ho, rfl, ly, hy⟩ := y
    refine ⟨.tup (atR i ls), ?_, sm_upd nT, ?_⟩
    · unfold zipL
      rw [List.getElem?_map, List.getElem?_range hi]
      rfl
    · have rr : ∀ (ps : List (Bool × Addr)) (ls : List (List W)) (ys : List V), ps.length = ls.length → ys.length = ps.length → (∀ l ∈ ls, i < l.length) → (∀ (j : Nat) (p : Bool × Addr) (l : List W), ps[j]? = some p → ls[j]? = some l → ArgSv Γ p l keep H0 μ0 S0) → (∀ (j : Nat) (p : Bool × Addr) (y : V), ps[j]? = some p → ys[j]? = some y → ∀ xs, SqK Γ.K H p xs → xs[i]? = some y) → Rps Γ' H μ ys (atR i ls) := by
        intro ps
        induction ps with
        | nil =>
          intro ls ys h1 h2 _ _ _
          cases ls with
          | nil => cases ys with | nil => exact .nil | cons _ _ => simp at h2
          | cons _ _ => simp at h1
        | cons p ps ih =>
          intro ls ys h1 h2 hlt hs hy
          cases ls with
          | nil => simp at h1
          | cons l ls =>
            cases ys with
            | nil => simp at h2
            | cons y ys =>
              obtain ⟨xs, h3, r⟩ := (hs 0 p l rfl rfl).2 H μ S hK g k hk up
              have e := hy 0 p y rfl rfl xs h3
              obtain ⟨w, e2, r2⟩ := r.get e
              refine .cons ?_ (ih ls ys (Nat.succ.inj h1) (Nat.succ.inj h2) (fun l hl => hlt l (List.mem_cons_of_mem _ hl)) (fun j p l a b => hs (j + 1) p l (by simpa using a) (by simpa using b)) (fun j p y a b => hy (j + 1) p y (by simpa using a) (by simpa using b)))
              rw [e2]
              exact r2
      have r := rr ps ls ys hl ly (fun l ml => Nat.lt_of_lt_of_le hi (minL_le ml)) hs hy
      exact (new_tup k nT ho (by rw [ly, sizeLine_eq]; omega) r).2.2
  · obtain ⟨l, ml, sv⟩ := pl p mp
    obtain ⟨xs, h2, r⟩ := sv.2 H μ S hK g k hk up
    exact ⟨xs, h2, by rw [r.len]; exact minL_le ml⟩
  · obtain ⟨p, mp, sv⟩ := lp l0 ml0
    obtain ⟨xs, h2, r⟩ := sv.2 H μ S hK g k hk up
    exact ⟨p, mp, xs, h2, by rw [r.len, el0]; exact Nat.le_refl _⟩
def zipI (n : Nat) (S : Store) (ws : List W) : Option (List W × List Nat) := if ws.length = n then (match sqI S ws with
  | some (ls, keep) => some (zipL ls, keep)
  | none => none) else none
def iZip (n : Nat) (d : DA) : DI := fun ρ => bnd (d ρ) fun ws => rdI fun S => zipI n S ws
/-! ### zip is made -/
def itO : Bool × Addr → Obj
  | (true, l) => { cls := .type "list_iterator", data := .fields #[.ref l, .int 0 0] }
  | (false, l) => { cls := .type "tuple_iterator", data := .fields #[.ref l, .int 0 0] }
theorem beg (p : Bool × Addr) (items : Array Value) : Begins (.ref p.2) (itO p) fun h => sqS p.1 h p.2 items := by
  obtain ⟨b, a⟩ := p
  cases b with
  | true => exact begins_list a items
  | false => exact begins_tuple a items
theorem itO_at {p : Bool × Addr} {h : Heap} {t : Addr} (e : h.get? t = some (itO p)) : itS p.1 h t p.2 0 := by
  obtain ⟨b, a⟩ := p
  cases b with
  | true => exact ⟨_, e, rfl, rfl⟩
  | false => exact ⟨_, e, rfl, rfl⟩
section
variable {X : Cx} {pins : List (Addr × Obj)} {σ : L2.St} {H : Hp} {s : Shared}
theorem adn {a b : Nat} (h : a < b ∨ b < a) : (show Addr from a) ≠ (show Addr from b) := fun e => by
  have e : a = b := e
  omega
theorem apt_new {N : Nat} {ps : List (Bool × Addr)} (h : ∀ p ∈ ps, p.2 < N) (h0 : ps ≠ []) (hf : ps.length ≤ 100) : Apt (N + ps.length + 2) (N + ps.length) (N + ps.length + 1) ((List.range ps.length).map (N + ·)) ps where
  len := by simp
  few := by simpa using hf
  one := fun e => h0 (by
    have := congrArg List.length e
    simp at this
    exact this)
  TIz := adn (.inl (by omega))
  TOz := adn (.inl (by omega))
  TITO := adn (.inl (by omega))
  zt := fun e => by
    obtain ⟨j, hj, e⟩ := List.mem_map.mp e
    have := List.mem_range.mp hj
    exact adn (.inl (by omega)) e
  It := fun e => by
    obtain ⟨j, hj, e⟩ := List.mem_map.mp e
    have := List.mem_range.mp hj
    exact adn (.inl (by omega)) e
  Ot := fun e => by
    obtain ⟨j, hj, e⟩ := List.mem_map.mp e
    have := List.mem_range.mp hj
    exact adn (.inl (by omega)) e
  nd := by
    rw [List.nodup_iff_pairwise_ne]
    exact List.Pairwise.map _ (fun a b h e => h (Nat.add_left_cancel (show (N + a : Nat) = N + b from e))) List.nodup_range
  pz := fun p hp => by
    have h1 := h p hp
    refine ⟨adn (.inl (Nat.lt_of_lt_of_le h1 (by omega))), adn (.inl (Nat.lt_of_lt_of_le h1 (by omega))), fun e => ?_⟩
    obtain ⟨j, hj, e⟩ := List.mem_map.mp e
    exact adn (.inr (Nat.lt_of_lt_of_le h1 (Nat.le_add_right ..))) e
theorem pie_zip {elts : List Expr} {kk : Nat} {tpos : Pos} {R : It → Hp → Prop} {E : Value → Shared → Prop} {ps : List (Bool × Addr)} {h' : Heap} (I : Inv X pins σ H s) (hp : ∀ p ∈ ps, ∃ xs, SqK X.K H p xs) (h0 : ps ≠ []) (hf : ps.length ≤ 100) (hz : IsZip h' (s.heap.objs.size + ps.length + 2) (s.heap.objs.size + ps.length) (s.heap.objs.size + ps.length + 1) .none)
    (hTI : TupO h' (s.heap.objs.size + ps.length) (((List.range ps.length).map (s.heap.objs.size + ·)).map .ref)) (hTO : TupO h' (s.heap.objs.size + ps.length + 1) (List.replicate ps.length .none)) (hi : ∀ (j : Nat) (p : Bool × Addr), ps[j]? = some p → h'.get? (s.heap.objs.size + j) = some (itO p)) (kp : ∀ c o, s.heap.get? c = some o → h'.get? c = some o) (q : R (ItN X.K ps) H) :
    wpAny (model X.prog X.w) X.A (pyIter (.ref (s.heap.objs.size + ps.length + 2))) (PIE X pins σ (.Tuple elts kk tpos) R) E { s with heap := h' } := by
  refine wpAny_pyIter_zip hz ?_
  have I2 : Inv X pins σ H { s with heap := h' } := I.kept (t' := s.toks) kp
  refine ⟨_, _, _, _, H, rfl, I2, turnN (apt_new (fun p mp => let ⟨xs, hx⟩ := hp p mp; (sqK_obj I hx).choose_spec.2.2) h0 hf), ⟨hz, hTI, ⟨_, by simp, hTO⟩, fun j t p hj hpj => ?_⟩, fun b hb => ?_, q⟩
  · rw [List.getElem?_map] at hj
    have hjl : j < ps.length := (List.getElem?_eq_some_iff.mp hpj).1
    rw [List.getElem?_range hjl] at hj
    cases hj
    exact itO_at (hi j p hpj)
  · have hle : s.heap.objs.size ≤ b := by
      rcases List.mem_cons.mp hb with rfl | hb
      · omega
      rcases List.mem_cons.mp hb with rfl | hb
      · omega
      rcases List.mem_cons.mp hb with rfl | hb
      · omega
      obtain ⟨j, _, rfl⟩ := List.mem_map.mp hb
      exact Nat.le_add_right ..
    exact I.fpOk hle (I.hok.fresh hle)
end
section
variable {X : Cx} {E : L2.St → XK} {e1 e2 e3 e4 : Expr} {p pos tpos : Pos} {elts : List Expr} {kk : Nat} {d : DA}
theorem zip_go {σ : L2.St} {δ : List Addr} {H1 : Hp} {μ1 : List Addr} {S1 : Store} {ws : List W} {vs : List V} {R : It → Hp → Prop} {n : Nat} (k1 : Ok ⟨X.K, X.mg, δ⟩ H1 μ1 S1) (rs : Rps ⟨X.K, X.mg, δ⟩ H1 μ1 vs ws) (h0 : 0 < n) (hf : n ≤ 100)
    (h1 : Res ⟨X.K, X.mg, δ⟩ (E σ) H1 μ1 (rdI (fun S => zipI n S ws) S1) fun x H' μ' S' => ∀ J, Srv ⟨X.K, X.mg, δ⟩ J x.1 x.2 H' μ' S' → R J H') :
    ∃ ps : List (Bool × Addr), vs = ps.map (fun p => .ref p.2) ∧ ps.length = n ∧ (∀ p ∈ ps, ∃ xs, SqK X.K H1 p xs) ∧ R (ItN X.K ps) H1 := by
  unfold rdI zipI at h1
  by_cases hn : ws.length = n
  · simp only [hn, if_true] at h1
    cases e : sqI S1 ws with
    | none => simp only [e] at h1; exact h1.elim
    | some y =>
      obtain ⟨ls, keep⟩ := y
      simp only [e] at h1
      obtain ⟨ps, ev, hl, hs⟩ := args_all k1 rs e
      have hpn : ps.length = n := by rw [← hn, ← rs.len, ev, List.length_map]
      refine ⟨ps, ev, hpn, fun q mq => ?_, Res.now k1 h1 _ (srv_zip hl (fun z => by rw [z] at hpn; simp at hpn; omega) (by omega) fun j p l hp hl2 => (hs j p l hp hl2).2)⟩
      obtain ⟨j, hj, ej⟩ := List.getElem_of_mem mq
      have hj2 : j < ls.length := by omega
      exact (hs j q ls[j] (by rw [List.getElem?_eq_getElem hj, ej]) (List.getElem?_eq_getElem hj2)).1
  · simp only [hn, if_false] at h1
    exact h1.elim
def ZQ (X : Cx) (n : Nat) (R : It → Hp → Prop) (vs : List V) (H1 : Hp) : Prop := ∃ ps : List (Bool × Addr), vs = ps.map (fun p => .ref p.2) ∧ ps.length = n ∧ (∀ p ∈ ps, ∃ xs, SqK X.K H1 p xs) ∧ R (ItN X.K ps) H1
theorem zip_args {n : Nat} (h0 : 0 < n) (hf : n ≤ 100) {σ : L2.St} {H : Hp} {R : It → Hp → Prop} (h : iOf X.K X.mg E (iZip n d) σ H R) : taOf X.K X.mg E d σ H (ZQ X n R) := by
  obtain ⟨δ, μ, S, ρ, k, sσ, h⟩ := h
  exact ⟨δ, μ, S, ρ, k, sσ, Res.step h fun ws S1 H1 μ1 g1 k1 h1 vs rs => zip_go k1 rs h0 hf h1⟩
/-- zip(a, b) -/
theorem di_zip2 (hg : Gl X "zip") (hm : X.mg "zip" = none) (ha : PDA X E [e1, e2] d) (hs : starEach [e1, e2] X.env = (false, eval e1 X.env) :: starEach [e2] X.env := by rfl) (hpl : (backTo pos (starEach [e2] X.env)).any (·.1) = false := by rfl) : PI X (.Tuple elts kk tpos) (.Call (.Name "zip" p) [e1, e2] [] pos) (iOf X.K X.mg E (iZip 2 d)) := by
  refine ⟨fun pins s σ H R I h => ?_⟩
  refine Call_ (ld_blt I hg hm PyProof.Rows.boot_zip (PyProof.Rows.callWith_type1 (thn (ha.run pos pins s σ H (ZQ X 2 R) I (zip_args (by decide) (by decide) h)) fun us s1 ⟨vs, H1, I1, r1, ps, ev, hl, hp, q⟩ => ?_) hs hpl))
  match ps, hl with
  | [p1, p2], _ =>
    subst ev
    cases r1 with
    | cons r rr =>
      cases rr with
      | cons r' rr =>
        cases rr
        cases r
        cases r'
        obtain ⟨xs1, h1⟩ := hp p1 (by simp)
        obtain ⟨xs2, h2⟩ := hp p2 (by simp)
        obtain ⟨i1, _, q1, _⟩ := sqK_obj I1 h1
        obtain ⟨i2, _, q2, _⟩ := sqK_obj I1 h2
        refine zip_begins2 (beg p1 _) (beg p2 _) q1 q2 fun h' hz hTI hTO g1 g2 _ kp => ?_
        exact pie_zip (ps := [p1, p2]) I1 hp (by simp) (by show 2 ≤ 100; decide) hz hTI hTO (fun j p hj => match j, hj with | 0, hj => by cases hj; exact g1 | 1, hj => by cases hj; exact g2 | n + 2, hj => by simp at hj) kp q
theorem di_zip3 (hg : Gl X "zip") (hm : X.mg "zip" = none) (ha : PDA X E [e1, e2, e3] d) (hs : starEach [e1, e2, e3] X.env = (false, eval e1 X.env) :: starEach [e2, e3] X.env := by rfl) (hpl : (backTo pos (starEach [e2, e3] X.env)).any (·.1) = false := by rfl) : PI X (.Tuple elts kk tpos) (.Call (.Name "zip" p) [e1, e2, e3] [] pos) (iOf X.K X.mg E (iZip 3 d)) := by
  refine ⟨fun pins s σ H R I h => ?_⟩
  refine Call_ (ld_blt I hg hm PyProof.Rows.boot_zip (PyProof.Rows.callWith_type1 (thn (ha.run pos pins s σ H (ZQ X 3 R) I (zip_args (by decide) (by decide) h)) fun us s1 ⟨vs, H1, I1, r1, ps, ev, hl, hp, q⟩ => ?_) hs hpl))
  match ps, hl with
  | [p1, p2, p3], _ =>
    subst ev
    cases r1 with
    | cons r rr =>
      cases rr with
      | cons r' rr =>
        cases rr with
        | cons r'' rr =>
          cases rr
          cases r
          cases r'
          cases r''
          obtain ⟨xs1, h1⟩ := hp p1 (by simp)
          obtain ⟨xs2, h2⟩ := hp p2 (by simp)
          obtain ⟨xs3, h3⟩ := hp p3 (by simp)
          obtain ⟨i1, _, q1, _⟩ := sqK_obj I1 h1
          obtain ⟨i2, _, q2, _⟩ := sqK_obj I1 h2
          obtain ⟨i3, _, q3, _⟩ := sqK_obj I1 h3
          refine zip_begins3 (beg p1 _) (beg p2 _) (beg p3 _) q1 q2 q3 fun h' hz hTI hTO g1 g2 g3 _ kp => ?_
          exact pie_zip (ps := [p1, p2, p3]) I1 hp (by simp) (by show 3 ≤ 100; decide) hz hTI hTO (fun j p hj => match j, hj with | 0, hj => by cases hj; exact g1 | 1, hj => by cases hj; exact g2 | 2, hj => by cases hj; exact g3 | n + 3, hj => by simp at hj) kp q
end
end Den

namespace Den
open PySem PySem.Spec PyProof.Rows L2 Bal
/-! ### zip of two, its rows kept -/
end Den

namespace Den
open PySem PySem.Spec PyProof.Rows L2 Bal
/-! ### list(zip(a, b)) -/
end Den

namespace Den
open PySem PySem.Spec PyProof.Rows L2 Bal
/-! ### many new things seen at once -/
end Den

namespace Den
open PySem PySem.Spec PyProof.Rows L2 Bal
/-! ### zip of four -/
end Den

namespace Den
open PySem PySem.Spec PyProof.Rows L2 Bal
/-! ### max, min of numbers in a row -/
section
variable {K : PySem.W.Frag} {mg : Str → Option Value}
def fIsB (_ : Store) : W → W → Option W
  | .bl i, .bl j => some (.bl (decide (i = j)))
  | _, _ => none
theorem fIsB_ok : Op2 K mg (fun x y H Q => ∃ a b, x = .bl a ∧ y = .bl b ∧ Q (.bl (decide (a = b))) H) fIsB := by
  intro δ H μ S v u x y w Q k rx ry e q
  cases rx <;> first | cases e | skip
  cases ry <;> first | cases e | skip
  exact ⟨_, _, rfl, rfl, q _ _ Gr.refl k (.bl _)⟩
end
end Den

namespace Den
open PySem PySem.Spec PyProof.Rows L2 Bal
theorem un65 {k : Nat} {A : Around} (r : Room k A) : A.units + 65 < cLine := by have := r.un; omega
theorem passes {X : Cx} {K : Value → Shared → Prop} {E₁ : Value → Shared → Prop} (hx : X.xe = fun e s' => wpAny (model X.prog X.w) X.A (leaving X.env e) (fun _ s'' => K e s'') E₁ s') : PassesOwn (model X.prog X.w) X.A X.env X.xe := passes_of hx
theorem pt_wordOr {X : Cx} {e : Expr} {t : TT} (h : PW X e t) : PT X e t := h.pt
theorem call_list1 {X : Cx} : CallR X (.type "list") (fun xs H Q => ∃ p ys, xs = [.ref p] ∧ (SqL X.K H p ys ∨ SqT X.K H p ys) ∧ ∀ l, H l = none → Q (.ref l) (upd H l (.lst ys))) := call_list_of
/-- nothing is said of what it tells -/
theorem fn_bad {P : Program} {w : World} {K : PySem.W.Frag} {mg : Str → Option Value} {base : Heap} {x qual : Str} {st : Stmt} {f : Addr} {fd : FuncData} {N ps : List Str} {k : Nat} (F : Fun K x qual st f fd) (S : FnScope N ps (defScope st)) : FnOk P w K mg base (L2.CX P w) (k + 1) f fd ps (spD K mg ps.length fun _ _ => .bad) :=
  F.okX S (fun vs H Q E h => h.1) fun cdv A outer s H vs Q E hr h => by
    obtain ⟨_, δ, μ, T, ws, ok, rs, h⟩ := h
    exact h.elim
end Den

namespace Den
open PySem PySem.Spec PyProof.Rows L2 Bal
/-! ### how functions are worked out -/
theorem srt_eq {ns ms : List Int} (p : ms.Perm ns) (h : ms.Pairwise (· ≤ ·)) : srt ns = ms := (srt_uniq p h).symm
theorem pGt_ap (i j : Int) : pGt i j = decide (j < i) := rfl
theorem pLt_ap (i j : Int) : pLt i j = decide (i < j) := rfl
theorem pGe_ap (i j : Int) : pGe i j = decide (j ≤ i) := rfl
theorem pLe_ap (i j : Int) : pLe i j = decide (i ≤ j) := rfl
end Den

namespace Den
open PySem PySem.Spec PyProof.Rows L2 Bal
def iW (ns : List Int) : List W := ns.map .int
@[simp] theorem fil_yes {α : Type} : ∀ l : List α, l.filter (fun _ => true) = l
  | [] => rfl
  | x :: l => by rw [List.filter_cons_of_pos rfl, fil_yes l]
theorem iW_cons (n : Int) (ns : List Int) : iW (n :: ns) = .int n :: iW ns := rfl
@[simp] theorem iW_len (ns : List Int) : (iW ns).length = ns.length := by simp [iW]
@[simp] theorem iW_rev (ns : List Int) : (iW ns).reverse = iW ns.reverse := by simp [iW]
@[simp] theorem inT_iW : ∀ ns : List Int, inT (iW ns) = some ns
  | [] => rfl
  | n :: ns => by
    have ih := inT_iW ns
    show (inT (iW ns)).map (n :: ·) = _
    rw [ih]
    rfl
theorem lc_iW {i : Nat} {tt : DT} {de : DE} {ρ : En} {S : Store} (p : Int → Bool) (f : Int → W) : ∀ ns : List Int, (∀ n ∈ ns, tt (ρ.set i (some (.int n))) S = .ok (p n) S ∧ (p n = true → de (ρ.set i (some (.int n))) S = .ok (f n) S)) → lcL (.nm i) tt de ρ S [] (iW ns) S = .ok ((ns.filter p).map f) S
  | [], _ => rfl
  | n :: ns, h => by
    have e : iW (n :: ns) = .int n :: iW ns := rfl
    rw [e]
    have ih := lc_iW p f ns fun m hm => h m (List.mem_cons_of_mem _ hm)
    obtain ⟨h1, h2⟩ := h n (List.mem_cons_self ..)
    cases hp : p n with
    | true =>
      have h2 := h2 hp
      rw [hp] at h1
      simp [lcL, setT, h1, h2, ih, hp]
    | false =>
      rw [hp] at h1
      simp [lcL, setT, h1, ih, hp]
theorem in_iW (S : Store) (w : Int) (r : List Int) : inW S (.int w) (.tup (iW r)) = some (decide (w ∈ r)) := by
  have h1 : flWs (iW r) = some (r.map V.int) := by
    induction r with
    | nil => rfl
    | cons x r ih =>
      have ih : flWs (List.map W.int r) = some (List.map V.int r) := ih
      show (match flW (.int x), flWs (List.map W.int r) with | some v, some vs => some (v :: vs) | _, _ => none) = _
      simp [flW, ih]
  have h2 : inV (.int w) (r.map V.int) = decide (w ∈ r) := by
    clear h1
    induction r with
    | nil => rfl
    | cons x r ih =>
      unfold inV at ih ⊢
      rw [List.map_cons, List.any_cons, ih]
      by_cases hx : x = w
      · subst hx
        simp [eqV]
      · have hw : ¬ w = x := fun z => hx z.symm
        simp [eqV, hx, hw]
  unfold inW
  simp only [itmsS, h1, flW, h2]
theorem cut_to (r : List Int) (k : Nat) (h : k ≤ r.length) : cutW (iW r) none (some (k : Int)) = iW (r.take k) := by
  unfold cutW
  rw [HT.sIx_nat, HT.sIx_none]
  simp [iW, Nat.min_eq_left h]
theorem cut_from (r : List Int) (k : Nat) (h : k ≤ r.length) : cutW (iW r) (some (k : Int)) none = iW (r.drop k) := by
  unfold cutW
  rw [HT.sIx_nat, HT.sIx_none]
  simp [iW, Nat.min_eq_left h, List.take_of_length_le]
end Den

namespace Den
open PySem PySem.Spec PyProof.Rows L2 Bal
theorem lc_all {t : Tg} {de : DE} {ρ : En} {S : Store} {keep : List Nat} (hk : kept S S keep = true) (u : W) : ∀ ws : List W, (∀ w ∈ ws, ∃ ρ1, setT S t w ρ = some ρ1 ∧ de ρ1 S = .ok u S) → lcL t dYes de ρ S keep ws S = .ok (List.replicate ws.length u) S
  | [], _ => rfl
  | w :: ws, h => by
    have ih := lc_all hk u ws fun m hm => h m (List.mem_cons_of_mem _ hm)
    obtain ⟨ρ1, h0, h2⟩ := h w (List.mem_cons_self ..)
    simp [lcL, h0, h2, ih, dYes, ret, hk, List.replicate_succ]
def all2 (f : W → W → Bool) : List W → List W → Bool
  | [], [] => true
  | x :: xs, y :: ys => f x y && all2 f xs ys
  | _, _ => false
theorem all2_len {f : W → W → Bool} : ∀ {xs ys : List W}, all2 f xs ys = true → xs.length = ys.length
  | [], [], _ => rfl
  | _ :: _, _ :: _, h => by
    unfold all2 at h
    rw [Bool.and_eq_true] at h
    exact congrArg (· + 1) (all2_len h.2)
theorem all2_at {f : W → W → Bool} : ∀ {xs ys : List W}, all2 f xs ys = true → ∀ (i : Nat), i < xs.length → f (xs[i]?.getD .non) (ys[i]?.getD .non) = true
  | [], [], _, i, hi => by simp at hi
  | x :: xs, y :: ys, h, i, hi => by
    unfold all2 at h
    rw [Bool.and_eq_true] at h
    cases i with
    | zero => simpa using h.1
    | succ i => simpa using all2_at h.2 i (by simpa using hi)
/-- alike, kind by kind, lists by what they hold -/
def likeB (S : Store) : Nat → W → W → Bool
  | 0, _, _ => false
  | _ + 1, .int i, .int j => decide (i = j)
  | _ + 1, .bl i, .bl j => decide (i = j)
  | _ + 1, .str i, .str j => decide (i = j) && PyData.canLay0 (.str i)
  | n + 1, .tup xs, .tup ys => all2 (likeB S n) xs ys
  | n + 1, x, y => match lstS S x, lstS S y with
    | some xs, some ys => all2 (likeB S n) xs ys
    | _, _ => false
theorem zipL_two {xs ys : List W} (h : xs.length = ys.length) : zipL [xs, ys] = (List.range xs.length).map fun i => W.tup [xs[i]?.getD .non, ys[i]?.getD .non] := by
  unfold zipL
  have : minL [xs, ys] = xs.length := by simp [minL, h]
  rw [this]
  rfl
end Den

namespace Den
open PySem PySem.Spec PyProof.Rows L2 Bal
/-! ### dicts by numbers and texts, in the store by their pairs -/
def keyB : W → Bool
  | .int _ => true
  | .str _ => true
  | _ => false
/-- whether a dict is being walked -/
def fzB : List W → Bool
  | .tup [] :: _ => true
  | _ => false
def dgetW : List W → W → Option W
  | [], _ => none
  | .tup [k, u] :: r, y => if eqW k y = true then some u else dgetW r y
  | _ :: r, y => dgetW r y
def dsetW (y u : W) : W → W
  | .tup [k, x] => if eqW k y = true then .tup [k, u] else .tup [k, x]
  | p => p
def dputW (ws : List W) (y u : W) : List W := if (dgetW ws y).isSome = true then ws.map (dsetW y u) else ws ++ [.tup [y, u]]
section
variable {Γ : Gm} {H : Hp} {μ : List Addr} {S : Store}
theorem dget_pre {u : HO} {a : Addr} {pre ws : List W} {y : W} (h : Lk H a u pre) : dgetW (pre ++ ws) y = dgetW ws y := by
  rcases h with ⟨rfl, _⟩ | ⟨rfl, _⟩ <;> rfl
theorem DGet.rd {a : Addr} {kvs : List (Key × V)} {k : Key} (e : Rd H a (.dK kvs)) : DGet H a (kV k) (valV kvs k) := .inl ⟨kvs, k, e, rfl, rfl⟩
theorem kW_key {y : W} (h : keyB y = true) : ∃ k : Key, y = kW k := by
  cases y <;> first | (cases h; done) | skip
  · exact ⟨.inl _, rfl⟩
  · exact ⟨.inr _, rfl⟩
theorem kW_rp {v : V} {k : Key} (r : Rp Γ H μ v (kW k)) : v = kV k := by
  cases k <;> (cases r; rfl)
theorem kW_eq {j k : Key} : eqW (kW j) (kW k) = true ↔ j = k := by
  constructor
  · intro h
    have := eqW_to _ _ h
    cases j <;> cases k <;> simp only [kW] at this <;> first | (cases this; done) | (injection this with z; rw [z])
  · rintro rfl
    exact eqW_rfl _
theorem dget_is (k : Key) : ∀ {kvs : List (Key × V)} {us : List W}, Rps Γ H μ (kvs.map (·.2)) us →
    (valV kvs k = none ∧ dgetW (List.zipWith pairW (kvs.map fun p => kW p.1) us) (kW k) = none) ∨
    ∃ v u, valV kvs k = some v ∧ dgetW (List.zipWith pairW (kvs.map fun p => kW p.1) us) (kW k) = some u ∧ Rp Γ H μ v u
  | [], _, .nil => .inl ⟨rfl, rfl⟩
  | p :: kvs, _, .cons (w := w) (ws := ws) a b => by
    have ih := dget_is k b
    simp only [List.map_cons, List.zipWith_cons_cons, pairW, dgetW]
    by_cases e : p.1 = k
    · rw [valV_pos e, if_pos (kW_eq.mpr e)]
      exact .inr ⟨_, _, rfl, rfl, a⟩
    · rw [valV_neg e, if_neg (fun z => e (kW_eq.mp z))]
      exact ih
theorem dput_is (k : Key) {v : V} {u : W} (ru : Rp Γ H μ v u) {kvs : List (Key × V)} {us : List W} (r : Rps Γ H μ (kvs.map (·.2)) us) :
    ∃ us', dputW (List.zipWith pairW (kvs.map fun p => kW p.1) us) (kW k) u = List.zipWith pairW ((putK kvs k v).map fun p => kW p.1) us' ∧ Rps Γ H μ ((putK kvs k v).map (·.2)) us' := by
  have mp : ∀ {kvs : List (Key × V)} {us : List W}, Rps Γ H μ (kvs.map (·.2)) us → ∃ us', (List.zipWith pairW (kvs.map fun p => kW p.1) us).map (dsetW (kW k) u) = List.zipWith pairW ((kvs.map fun kv => if kv.1 = k then (kv.1, v) else kv).map fun p => kW p.1) us' ∧ Rps Γ H μ ((kvs.map fun kv => if kv.1 = k then (kv.1, v) else kv).map (·.2)) us' := by
    intro kvs
    induction kvs with
    | nil => intro us r; exact ⟨[], by cases r; rfl, .nil⟩
    | cons p kvs ih =>
      intro us r
      cases r with
      | @cons _ _ w ws a b =>
        obtain ⟨us', e1, r1⟩ := ih b
        by_cases e : p.1 = k
        · refine ⟨u :: us', ?_, ?_⟩
          · simp only [List.map_cons, List.zipWith_cons_cons, e1, if_pos e]
            simp only [pairW, dsetW, if_pos (kW_eq.mpr e)]
          · simp only [List.map_cons, if_pos e]
            exact .cons ru r1
        · refine ⟨w :: us', ?_, ?_⟩
          · simp only [List.map_cons, List.zipWith_cons_cons, e1, if_neg e]
            simp only [pairW, dsetW, if_neg (fun z => e (kW_eq.mp z))]
          · simp only [List.map_cons, if_neg e]
            exact .cons a r1
  unfold dputW putK
  rw [valV_any k kvs]
  rcases dget_is (Γ := Γ) (H := H) (μ := μ) k r with ⟨e1, e2⟩ | ⟨v', u', e1, e2, _⟩
  · rw [e1, e2]
    refine ⟨us ++ [u], ?_, ?_⟩
    · simp only [Option.isSome_none, Bool.false_eq_true, if_false, List.map_append, List.map_cons, List.map_nil]
      rw [List.zipWith_append (by have := r.len; simpa using this)]
      rfl
    · simp only [Option.isSome_none, Bool.false_eq_true, if_false, List.map_append, List.map_cons, List.map_nil]
      exact r.app (.cons ru .nil)
  · rw [e1, e2]
    simp only [Option.isSome_some, if_true]
    exact mp r
end
/-- d[y] -/
def fDGet (S : Store) : W → W → Option W
  | .dct n, y => if keyB y = true then (match S[n]? with
    | some ws => dgetW ws y
    | none => none) else none
  | _, _ => none
def rDGet : R2 := fun x y H Q => ∃ a v, x = .ref a ∧ DGet H a y (some v) ∧ Q v H
section
variable {X : Cx} {E : L2.St → XK} {o e a b i : Expr} {pos : Pos} {K : PySem.W.Frag} {mg : Str → Option Value} {da db : DE}
theorem fDGet_ok : Op2 K mg rDGet fDGet := by
  intro δ H μ S v u x y w Q k rx ry e q
  cases rx with
  | @dct a n hh hq =>
    have e : (if keyB y = true then (match S[n]? with | some ws => dgetW ws y | none => none) else none) = some w := e
    by_cases hy : keyB y = true
    · rw [if_pos hy] at e
      obtain ⟨kvs, us, pre, e1, e2, l, r⟩ := k.dat1 hh hq
      obtain ⟨j, rfl⟩ := kW_key hy
      rw [e1] at e
      have e : dgetW (pre ++ List.zipWith pairW (kvs.map fun p => kW p.1) us) (kW j) = some w := e
      rw [dget_pre e2] at e
      obtain rfl := kW_rp ry
      rcases dget_is j r with ⟨_, z⟩ | ⟨v', u', z1, z2, rr⟩
      · rw [z] at e; cases e
      · rw [z2] at e
        cases e
        exact ⟨a, v', rfl, by rw [← z1]; exact DGet.rd e2.rd, q _ _ Gr.refl k rr⟩
    · rw [if_neg hy] at e
      cases e
  | _ => cases e
theorem un1 {k : Nat} {A : Around} (r : Room k A) : A.units + 1 < cLine := by have := r.un; omega
theorem de_dget (hu : X.A.units + 1 < cLine) (ha : PD X E a da) (hb : PD X E b db) (hs : NoSl b := by exact fun _ _ => rfl) : PD X E (.Subscript a b pos) (dBin fDGet da db) := pe_of (pe_dget hu ha hb hs) fun _ _ _ h => bin_ok fDGet_ok h
/-- {} -/
def dDNew : DE := fun _ S => .ok (.dct S.length) (S ++ [[]])
theorem de_dnew : PD X E (.Dict [] [] pos) dDNew := pe_of pe_dnewK fun σ H Q ⟨δ, μ, S, ρ, k, s, h⟩ => fun p hp => by
  obtain ⟨k2, g⟩ := k.allocO hp (o := .dK []) (ws := []) (xs := []) (us := []) ⟨rfl, rfl⟩ (Nat.zero_le _) .nil
  refine h _ _ g k2 _ (.dct ?_ ⟨_, upd_same, rfl⟩)
  rw [← k.len, List.getElem?_append_right (Nat.le_refl _), Nat.sub_self]
  rfl
/-- o[i] = w -/
def putD (o i w : W) : Mo Unit := fun S => match o with
  | .dct n => if keyB i = true then (match S[n]? with
    | some ws => if (szB (ws.length + 1) && !fzB ws) = true then .ok () (S.set n (dputW ws i w)) else .bad
    | none => .bad) else .bad
  | _ => .bad
def gPutD (d di : DE) : DG := fun w ρ => bnd (d ρ) fun o => bnd (di ρ) fun i => bnd (putD o i w) fun _ => ret ρ
theorem putK_le {kvs : List (Key × V)} {k : Key} {v : V} : (putK kvs k v).length ≤ kvs.length + 1 := by
  unfold putK
  split
  · rw [List.length_map]; omega
  · rw [List.length_append]; simp
theorem dm_putD {d di : DE} {i : Expr} (hu : X.A.units + 1 < cLine) (ho : PD X noE o d) (hi : PD X noE i di)
    (ha : ∀ v, assign (.Subscript o i pos) X.env v = (do let ov ← holding [v] (eval o X.env); let iv ← holding [v, ov] (eval i X.env); standAt pos; holding [v, ov, iv] (setItem ov iv v); release [v, ov, iv] []) := by intro _; rfl) : PG X (.Subscript o i pos) (tgOf X.K X.mg (gPutD d di)) :=
  pg_of (pg_sub ho hi (set_dict hu) ha) fun v σ H Q ⟨δ, μ, S, ρ, w, k, s, r, h⟩ =>
    ⟨δ, μ, S, ρ, k, s, Res.step h fun ow S1 H1 μ1 g1 k1 h1 ov ro => ⟨δ, μ1, S1, ρ, k1, rσ_gr g1 s, Res.step h1 fun iw S2 H2 μ2 g2 k2 h2 iv ri => by
      have r2 := r.gr (g1.trans g2)
      have ro2 := ro.gr g2
      unfold bnd putD at h2
      cases ro2 with
      | @dct a n hh hq =>
        by_cases hy : keyB iw = true
        · obtain ⟨kvs, us, pre, e1, e2, l, rs⟩ := k2.dat1 hh hq
          obtain ⟨j, rfl⟩ := kW_key hy
          obtain rfl := kW_rp ri
          simp only [hy, if_true, e1] at h2
          by_cases hz : (szB ((pre ++ List.zipWith pairW (kvs.map fun p => kW p.1) us).length + 1) && !fzB (pre ++ List.zipWith pairW (kvs.map fun p => kW p.1) us)) = true
          · simp only [hz, if_true] at h2
            obtain ⟨hz, hz2⟩ := Bool.and_eq_true_iff.mp hz
            have hp : pre = [] := by
              rcases e2 with ⟨z, _⟩ | ⟨z, _⟩
              · exact z
              · subst z; cases hz2
            subst hp
            have e2 := e2.nil
            rw [List.nil_append] at h2 hz
            have hl : kvs.length + 1 ≤ sizeLine := by
              have := sz_ok hz
              have hlen := rs.len
              simp only [List.length_zipWith, List.length_map] at this hlen
              omega
            obtain ⟨us', e3, r3⟩ := dput_is j r2 rs
            rw [e3] at h2
            obtain ⟨k3, g3⟩ := k2.setO hh (o := .dK (putK kvs j v)) hq (fun ob u z => by rw [e2] at z; cases z) ⟨rfl, rfl⟩ (by rw [List.length_map]; exact Nat.le_trans putK_le hl) r3
            exact ⟨a, _, rfl, DPut.k e2 (by omega), h2 _ _ g3 k3 _ (rσ_gr g3 (rσ_gr (g1.trans g2) s))⟩
          · simp only [hz, if_false] at h2
            exact h2.elim
        · simp only [hy, if_false, Bool.false_eq_true] at h2
          exact h2.elim
      | _ => exact h2.elim⟩⟩
end
end Den

namespace Den
open PySem PySem.Spec PyProof.Rows L2 Bal
/-! ### where one belongs among those ahead -/
def tb (l : List Int) (x : Int) : Nat := (l.filter (fun i => decide (x < i))).length
abbrev Desc (l : List Int) : Prop := l.Pairwise (· > ·)
theorem tb_nil (x : Int) : tb [] x = 0 := rfl
theorem tb_cons (a : Int) (l : List Int) (x : Int) : tb (a :: l) x = (if x < a then 1 else 0) + tb l x := by
  unfold tb
  by_cases h : x < a
  · simp [List.filter_cons, h]; omega
  · simp [List.filter_cons, h]
theorem tb_le (l : List Int) (x : Int) : tb l x ≤ l.length := List.length_filter_le ..
theorem tb_perm {l m : List Int} (h : l.Perm m) (x : Int) : tb l x = tb m x := (h.filter _).length_eq
theorem tb_zero {l : List Int} {x : Int} (h : ∀ y ∈ l, ¬ x < y) : tb l x = 0 := by
  unfold tb
  rw [List.filter_eq_nil_iff.mpr (fun y hy => by simpa using h y hy)]
  rfl
theorem desc_at {x : Int} : ∀ {l : List Int}, Desc l → ∀ i (hi : i < l.length), (x < l[i] ↔ i < tb l x)
  | [], _, i, hi => by simp at hi
  | a :: l, h, i, hi => by
    rw [Desc, List.pairwise_cons] at h
    rw [tb_cons]
    by_cases hx : x < a
    · rw [if_pos hx]
      cases i with
      | zero => simp [hx]; omega
      | succ j =>
        have := desc_at (x := x) h.2 j (by simpa using hi)
        simp only [List.getElem_cons_succ, this]
        omega
    · rw [if_neg hx]
      have hz : tb l x = 0 := tb_zero fun y hy => by have := h.1 y hy; omega
      cases i with
      | zero => simp [hx, hz]
      | succ j =>
        have hj : j < l.length := by simpa using hi
        have hm := h.1 l[j] (List.getElem_mem hj)
        simp only [List.getElem_cons_succ, hz]
        omega
def insD (l : List Int) (x : Int) : List Int := l.take (tb l x) ++ [x] ++ l.drop (tb l x)
theorem insD_perm (l : List Int) (x : Int) : (insD l x).Perm (l ++ [x]) := by
  unfold insD
  have h : l = l.take (tb l x) ++ l.drop (tb l x) := (List.take_append_drop ..).symm
  have : (l.take (tb l x) ++ [x] ++ l.drop (tb l x)).Perm (l.take (tb l x) ++ l.drop (tb l x) ++ [x]) := by
    rw [List.append_assoc, List.append_assoc]
    exact List.Perm.append_left _ List.perm_append_comm
  rwa [List.take_append_drop] at this
theorem insD_len (l : List Int) (x : Int) : (insD l x).length = l.length + 1 := by rw [(insD_perm l x).length_eq]; simp
theorem insD_cons_lt {a : Int} {l : List Int} {x : Int} (h : x < a) : insD (a :: l) x = a :: insD l x := by
  unfold insD
  rw [tb_cons, if_pos h, Nat.add_comm]
  simp
theorem insD_desc {x : Int} : ∀ {l : List Int}, Desc l → x ∉ l → Desc (insD l x)
  | [], _, _ => by simp [insD, tb_nil, Desc]
  | a :: l, h, n => by
    rw [Desc, List.pairwise_cons] at h
    rw [List.mem_cons, not_or] at n
    by_cases hx : x < a
    · rw [insD_cons_lt hx, Desc, List.pairwise_cons]
      refine ⟨fun y hy => ?_, insD_desc h.2 n.2⟩
      have := (insD_perm l x).mem_iff.mp hy
      rcases List.mem_append.mp this with z | z
      · exact h.1 y z
      · rw [List.mem_singleton.mp z]; exact hx
    · have hz : tb (a :: l) x = 0 := tb_zero fun y hy => by
        rcases List.mem_cons.mp hy with z | z
        · omega
        · have := h.1 y z; omega
      unfold insD
      rw [hz]
      simp only [List.take_zero, List.drop_zero, List.nil_append, List.singleton_append]
      rw [Desc, List.pairwise_cons]
      refine ⟨fun y hy => ?_, List.pairwise_cons.mpr h⟩
      rcases List.mem_cons.mp hy with z | z
      · omega
      · have := h.1 y z; omega
def fal (F : List Int) : List Int → List Int
  | [] => F
  | x :: r => fal (insD F x) r
def ents (pre : List Int) : List Int → List W
  | [] => []
  | x :: r => .tup [.int x, .int (tb pre x : Nat)] :: ents (pre ++ [x]) r
theorem ents_len : ∀ (pre r : List Int), (ents pre r).length = r.length
  | _, [] => rfl
  | pre, x :: r => by simp [ents, ents_len (pre ++ [x]) r]
theorem eqW_int (i j : Int) : eqW (.int i) (.int j) = decide (i = j) := by
  unfold eqW
  by_cases h : i = j <;> simp [h]
theorem dget_ents {x : Int} : ∀ {r : List Int} (pre : List Int), x ∈ r → dgetW (ents pre r) (.int x) = some (.int (tb (pre ++ r.take (r.idxOf x)) x : Nat))
  | [], _, h => by simp at h
  | y :: r, pre, h => by
    unfold ents dgetW
    rw [eqW_int]
    by_cases e : y = x
    · subst e
      simp
    · have hx : x ∈ r := by
        rcases List.mem_cons.mp h with z | z
        · exact absurd z.symm e
        · exact z
      have ih := dget_ents (x := x) (pre ++ [y]) hx
      have nb : (y == x) = false := by simp [e]
      simp only [decide_eq_true_eq, if_neg e]
      rw [ih, List.idxOf_cons, nb]
      simp
theorem dget_none {x : Int} : ∀ {r : List Int} (pre : List Int), x ∉ r → dgetW (ents pre r) (.int x) = none
  | [], _, _ => rfl
  | y :: r, pre, h => by
    rw [List.mem_cons, not_or] at h
    unfold ents dgetW
    rw [eqW_int]
    simp only [decide_eq_true_eq, if_neg (fun z : y = x => h.1 z.symm)]
    exact dget_none _ h.2
theorem ents_snoc {x : Int} : ∀ (r pre : List Int), ents pre (r ++ [x]) = ents pre r ++ [.tup [.int x, .int (tb (pre ++ r) x : Nat)]]
  | [], pre => by simp [ents]
  | y :: r, pre => by
    have := ents_snoc (x := x) r (pre ++ [y])
    simp [ents, this]
theorem dput_ents {x : Int} {r : List Int} (h : x ∉ r) : dputW (ents [] r) (.int x) (.int (tb r x : Nat)) = ents [] (r ++ [x]) := by
  unfold dputW
  rw [dget_none [] h, ents_snoc]
  simp
end Den

namespace Den
open PySem PySem.Spec PyProof.Rows L2 Bal
/-! ### the dict of how many taller ones each has ahead -/
abbrev aT : DT := dTst (dBin (fCmp pLt) (dVar 4) (dVar 5))
abbrev aB : DS := (sSeq (sSet 6 (dBin fDiv (dBin fAdd (dVar 4) (dVar 5)) (dC (.int 2)))) (sIf (dTst (dBin (fCmp pGt) (dBin fIx (dVar 2) (dVar 6)) (dVar 3))) (sSet 4 (dBin fAdd (dVar 6) (dC (.int 1)))) (sSet 5 (dVar 6))))
abbrev aL : DS := (sSeq (sAsg (.tp [.nm 4, .nm 5]) (dTup (dCons (dC (.int 0)) (dCons (dCallN fLen (dCons (dVar 2) dNil)) dNil)))) (sSeq (sWhile 64 aT aB) (sSeq (sDrop (dMth fInsert (dVar 2) (dCons (dVar 4) (dCons (dVar 3) dNil)))) (sAsgM (gPutD (dVar 1) (dVar 3)) (dVar 4)))))
abbrev dATA : DS := (sSeq (sSet 1 dDNew) (sSeq (sSet 2 (dLst dNil)) (sSeq (sFor (iSeq (dVar 0)) (.nm 3) aL) (sRet (dVar 1)))))
theorem wh_ok {l : List Int} {x : Int} {m : Nat} {S : Store} {r0 r1 : Option W} (hd : Desc l) (hS : S[m]? = some (iW l)) : ∀ (n lo hi : Nat) (mid : Option W), hi - lo < n → lo ≤ tb l x → tb l x ≤ hi → hi ≤ l.length →
    ∃ mid', whL aT aB n [r0, r1, some (.lst m), some (.int x), some (.int (lo : Nat)), some (.int (hi : Nat)), mid] S = .ok (.nx [r0, r1, some (.lst m), some (.int x), some (.int (tb l x : Nat)), some (.int (tb l x : Nat)), mid']) S
  | 0, _, _, _, h, _, _, _ => by omega
  | n + 1, lo, hi, mid, h, h1, h2, h3 => by
    by_cases hlt : lo < hi
    · have em : ((lo : Int) + (hi : Int)) / 2 = (((lo + hi) / 2 : Nat) : Int) := by omega
      generalize hk : (lo + hi) / 2 = k at em
      have hk1 : lo ≤ k := by omega
      have hk2 : k < hi := by omega
      have hkl : k < l.length := by omega
      have ea : atI (iW l) (k : Int) = some (.int l[k]) := by
        unfold atI ixN
        rw [iW_len, if_pos (by omega), if_pos (by omega)]
        simp [iW, List.getElem?_eq_getElem hkl]
      have hc := desc_at (x := x) hd k hkl
      have h0 : (lo : Int) < (hi : Int) := by omega
      have tst : aT [r0, r1, some (.lst m), some (.int x), some (.int (lo : Nat)), some (.int (hi : Nat)), mid] S = .ok true S := by
        simp [aT, dTst, dBin, dVar, bnd, rdS, fCmp, toB, ret, pLt_ap, hlt]
      by_cases hx : x < l[k]
      · have ih := wh_ok (x := x) (r0 := r0) (r1 := r1) hd hS n (k + 1) hi (some (.int (k : Nat))) (by omega) (by have := hc.mp hx; omega) h2 h3
        obtain ⟨mid', ih⟩ := ih
        refine ⟨mid', ?_⟩
        rw [← ih]
        have e1 : ((k : Int) + 1) = ((k + 1 : Nat) : Int) := by omega
        have bd : aB [r0, r1, some (.lst m), some (.int x), some (.int (lo : Nat)), some (.int (hi : Nat)), mid] S = .ok (.nx [r0, r1, some (.lst m), some (.int x), some (.int ((k + 1 : Nat) : Int)), some (.int (hi : Nat)), some (.int (k : Nat))]) S := by
          simp [aB, lft, dTst, dBin, dVar, bnd, rdS, fCmp, toB, ret, pLt_ap, pGt_ap, sSeq, sAsg, sIf, setT, fAdd, fDiv, dC, fIx, ixW, itmsS, hS, ea, hx, em]
        conv => lhs; unfold whL
        simp only [lft, tst, bd, if_true]
      · have ih := wh_ok (x := x) (r0 := r0) (r1 := r1) hd hS n lo k (some (.int (k : Nat))) (by omega) h1 (by have := mt hc.mpr hx; omega) (by omega)
        obtain ⟨mid', ih⟩ := ih
        refine ⟨mid', ?_⟩
        rw [← ih]
        have bd : aB [r0, r1, some (.lst m), some (.int x), some (.int (lo : Nat)), some (.int (hi : Nat)), mid] S = .ok (.nx [r0, r1, some (.lst m), some (.int x), some (.int (lo : Nat)), some (.int (k : Nat)), some (.int (k : Nat))]) S := by
          simp [aB, lft, dTst, dBin, dVar, bnd, rdS, fCmp, toB, ret, pLt_ap, pGt_ap, sSeq, sAsg, sIf, setT, fAdd, fDiv, dC, fIx, ixW, itmsS, hS, ea, hx, em]
        conv => lhs; unfold whL
        simp only [lft, tst, bd, if_true]
    · have e1 : lo = tb l x := by omega
      have e2 : hi = tb l x := by omega
      refine ⟨mid, ?_⟩
      rw [e1, e2]
      unfold whL
      simp [lft, dTst, dBin, dVar, bnd, rdS, fCmp, toB, ret, pLt_ap]
theorem iW_ins (F : List Int) (x : Int) : (iW F).take (tb F x) ++ [W.int x] ++ (iW F).drop (tb F x) = iW (insD F x) := by
  unfold iW insD
  rw [List.map_append, List.map_append, List.map_take, List.map_drop]
  rfl
theorem ata_loop {S S0 : Store} {row : W} : ∀ (rest done F : List Int) (w3 w4 w5 w6 : Option W), Desc F → F.Perm done → (done ++ rest).Nodup → (done ++ rest).length ≤ 60 →
    ∃ z3 z4 z5 z6, forL (.nm 3) aL [] S0 (iW rest) [some row, some (.dct S.length), some (.lst (S.length + 1)), w3, w4, w5, w6] (S ++ [ents [] done, iW F]) = .ok (.nx [some row, some (.dct S.length), some (.lst (S.length + 1)), z3, z4, z5, z6]) (S ++ [ents [] (done ++ rest), iW (fal F rest)])
  | [], done, F, w3, w4, w5, w6, _, _, _, _ => ⟨w3, w4, w5, w6, by simp [forL, iW, fal]⟩
  | x :: rest, done, F, w3, w4, w5, w6, hd, hp, nd, hl => by
    have hx : x ∉ done := fun z => by
      rw [List.nodup_append] at nd
      exact nd.2.2 x z x (List.mem_cons_self ..) rfl
    have hxF : x ∉ F := fun z => hx (hp.mem_iff.mp z)
    have hFl : F.length = done.length := hp.length_eq
    have hle := tb_le F x
    have hlen : done.length + (rest.length + 1) ≤ 60 := by simpa using hl
    obtain ⟨mid', hw⟩ := wh_ok (l := F) (x := x) (m := S.length + 1) (S := S ++ [ents [] done, iW F]) (r0 := some row) (r1 := some (.dct S.length)) hd (by simp) 64 0 F.length w6 (by omega) (Nat.zero_le _) hle (Nat.le_refl _)
    obtain ⟨z3, z4, z5, z6, ih⟩ := ata_loop (S := S) (S0 := S0) (row := row) rest (done ++ [x]) (insD F x) (some (.int x)) (some (.int (tb F x : Nat))) (some (.int (tb F x : Nat))) mid' (insD_desc hd hxF) ((insD_perm F x).trans (hp.append_right _)) (by simpa using nd) (by simpa using hl)
    refine ⟨z3, z4, z5, z6, ?_⟩
    have a1 : (S ++ [ents [] done, iW F])[S.length + 1]? = some (iW F) := by simp
    have a2 : ∀ y : List W, (S ++ [ents [] done, iW F]).set (S.length + 1) y = S ++ [ents [] done, y] := fun y => by simp
    have a3 : ∀ y : List W, (S ++ [ents [] done, y])[S.length]? = some (ents [] done) := fun y => by simp
    have a4 : ∀ y z : List W, (S ++ [ents [] done, y]).set S.length z = S ++ [z, y] := fun y z => by simp
    have hw : whL aT aB 64 [some row, some (.dct S.length), some (.lst (S.length + 1)), some (.int x), some (.int 0), some (.int (F.length : Nat)), w6] (S ++ [ents [] done, iW F]) = _ := hw
    have c1 : (tb F x : Int) < 9223372036854775808 := by omega
    have c2 : F.length + 1 ≤ 16777216 := by omega
    have c3 : (ents [] done).length + 1 ≤ 16777216 := by rw [ents_len]; omega
    have e5 : dputW (ents [] done) (.int x) (.int (tb F x : Nat)) = ents [] (done ++ [x]) := by rw [tb_perm hp]; exact dput_ents hx
    have e6 : szB ((iW F).take (tb F x) ++ [W.int x] ++ (iW F).drop (tb F x)).length = true := by rw [iW_ins, iW_len, insD_len]; simp [szB]; omega
    have e7 : (iW F).take (tb F x) ++ W.int x :: (iW F).drop (tb F x) = iW (insD F x) := by rw [← iW_ins]; simp
    have e8 : done ++ [x] ++ rest = done ++ x :: rest := by simp
    rw [e8] at ih
    have step : aL [some row, some (.dct S.length), some (.lst (S.length + 1)), some (.int x), w4, w5, w6] (S ++ [ents [] done, iW F]) = .ok (.nx [some row, some (.dct S.length), some (.lst (S.length + 1)), some (.int x), some (.int (tb F x : Nat)), some (.int (tb F x : Nat)), mid']) (S ++ [ents [] (done ++ [x]), iW (insD F x)]) := by
      have s1 : sAsg (.tp [.nm 4, .nm 5]) (dTup (dCons (dC (.int 0)) (dCons (dCallN fLen (dCons (dVar 2) dNil)) dNil))) [some row, some (.dct S.length), some (.lst (S.length + 1)), some (.int x), w4, w5, w6] (S ++ [ents [] done, iW F]) = .ok (.nx [some row, some (.dct S.length), some (.lst (S.length + 1)), some (.int x), some (.int 0), some (.int (F.length : Nat)), w6]) (S ++ [ents [] done, iW F]) := by
        simp [sAsg, lft, dTup, dCons, dNil, dC, dCallN, dVar, bnd, ret, rdS, fLen, ixW, itmsS, mkT, szB, setT, setTs]
      have s3 : sDrop (dMth fInsert (dVar 2) (dCons (dVar 4) (dCons (dVar 3) dNil))) [some row, some (.dct S.length), some (.lst (S.length + 1)), some (.int x), some (.int (tb F x : Nat)), some (.int (tb F x : Nat)), mid'] (S ++ [ents [] done, iW F]) = .ok (.nx [some row, some (.dct S.length), some (.lst (S.length + 1)), some (.int x), some (.int (tb F x : Nat)), some (.int (tb F x : Nat)), mid']) (S ++ [ents [] done, iW (insD F x)]) := by
        have c4 : F.length ≤ 16777215 := by omega
        simp [sDrop, lft, dMth, bnd, dVar, ret, lsB, dCons, dNil, wrS, fInsert, chS, szB, c1, c4, e7, insD_len]
      have s4 : sAsgM (gPutD (dVar 1) (dVar 3)) (dVar 4) [some row, some (.dct S.length), some (.lst (S.length + 1)), some (.int x), some (.int (tb F x : Nat)), some (.int (tb F x : Nat)), mid'] (S ++ [ents [] done, iW (insD F x)]) = .ok (.nx [some row, some (.dct S.length), some (.lst (S.length + 1)), some (.int x), some (.int (tb F x : Nat)), some (.int (tb F x : Nat)), mid']) (S ++ [ents [] (done ++ [x]), iW (insD F x)]) := by
        have c4 : (ents [] done).length ≤ 16777215 := by rw [ents_len]; omega
        have fz : fzB (ents [] done) = false := by cases done <;> rfl
        simp [sAsgM, gPutD, putD, bnd, dVar, ret, lft, keyB, szB, c4, e5, fz]
      simp only [aL, sSeq, sWhile, s1, hw, s3, s4]
    rw [iW_cons]
    unfold forL
    simp only [setT, List.set_cons_succ, List.set_cons_zero, step, kept_nil, if_true]
    exact ih
theorem ata_ok {S : Store} {r : List Int} {row : W} (nd : r.Nodup) (hl : r.length ≤ 60) (hw : ∀ S : Store, seqI S row = some (iW r, [])) : fnW 7 dATA [row] S = .ok (.dct S.length) (S ++ [ents [] r, iW (fal [] r)]) := by
  obtain ⟨z3, z4, z5, z6, h⟩ := ata_loop (S := S) (S0 := S ++ [[], []]) (row := row) r [] [] none none none none List.Pairwise.nil (List.Perm.refl _) (by simpa using nd) (by simpa using hl)
  have h : forL (.nm 3) aL [] (S ++ [[], []]) (iW r) [some row, some (.dct S.length), some (.lst (S.length + 1)), none, none, none, none] (S ++ [[], []]) = _ := h
  simp only [fnW, dATA, sSeq, sAsg, dDNew, lft, setT, dLst, dNil, bnd, ret, mkL, szB, List.length_nil, List.map_cons, List.map_nil, List.length_cons, List.cons_append, List.nil_append, List.set_cons_succ, List.set_cons_zero, Nat.reduceAdd, Nat.reduceSub, List.replicate]
  simp [hw, sFor, iSeq, lft, bnd, dVar, rdI, h, sRet, ret]
end Den

namespace Den
open PySem PySem.Spec PyProof.Rows L2 Bal
/-! ### the end -/
def spLaw (K : PySem.W.Frag) (mg : Str → Option Value) : Sp := fun vs H Q _ => ∃ (a : Addr) (ns : List Int), vs = [.ref a] ∧ SqL K H a (ns.map V.int) ∧ ns.length ≤ 63 ∧ LamX.Tabs (tabsOf K mg) H ∧ ∀ H', Q (.bl true) H'
theorem law_end {P : Program} {w : World} {K : PySem.W.Frag} {mg : Str → Option Value} {base : Heap} {k : Nat} {f : Addr} {fd : FuncData} {ps : List Str} {g : List W → Mo W} (hg : ∀ ns : List Int, ns.length ≤ 63 → ∃ S', g [.sc (iW ns)] [] = .ok (.bl true) S') (F : FnOk P w K mg base (L2.CX P w) k f fd ps (spD K mg 1 g)) : FnOk P w K mg base (L2.CX P w) k f fd ps (spLaw K mg) :=
  F.imp fun vs H Q E ⟨a, ns, e, hS, hl, tb, q⟩ => by
    subst e
    obtain ⟨S', e⟩ := hg ns hl
    refine ⟨rfl, [], [], [], [.sc (iW ns)], ⟨rfl, List.nodup_nil, fun _ h => (nomatch h), fun n b h => by simp at h, tb⟩, .cons (.sc (hS.imp (fun z => ⟨z, by simp, by simp⟩) id) (rps_ints ns)) .nil, ?_⟩
    rw [e]
    intro H' μ' _ _ v r
    cases r
    exact q H'
theorem cx_no {P : Program} {w : World} {l : List Env} {H : Hp} {s : Shared} {e : Value} {s' : Shared} (h : L2.CX P w l H s (fun _ _ _ => False) e s') : False := by
  obtain ⟨_, _, _, _, _, _, _, _, _, _, _, _, z⟩ := h
  exact z.elim
end Den

namespace Bal
/-! ### rows and their codes, in plain words -/
/-- how many taller ones x has ahead in l -/
def ahead (l : List Int) (x : Int) : Nat := ((l.take (l.idxOf x)).filter (fun y => decide (x < y))).length
def behind (l : List Int) (x : Int) : Nat := ((l.drop (l.idxOf x)).filter (fun y => decide (x < y))).length
/-- the same, by going along -/
def frn : List Int → Int → Nat
  | [], _ => 0
  | y :: r, x => if y = x then 0 else (if x < y then 1 else 0) + frn r x
theorem frn_ahead : ∀ (l : List Int) (x : Int), frn l x = ahead l x
  | [], x => rfl
  | y :: r, x => by
    unfold ahead
    by_cases h : y = x
    · subst h
      simp [frn]
    · have ih := frn_ahead r x
      unfold ahead at ih
      have e : (y :: r).idxOf x = r.idxOf x + 1 := by
        rw [List.idxOf_cons, beq_eq_false_iff_ne.mpr h]
        rfl
      rw [e, List.take_succ_cons, List.filter_cons]
      by_cases h2 : x < y
      · simp [frn, h, h2, ih]
        omega
      · simp [frn, h, h2, ih]
theorem split_at : ∀ {l : List Int} {x : Int}, x ∈ l → ∃ pre post, l = pre ++ x :: post ∧ x ∉ pre ∧ l.idxOf x = pre.length
  | [], x, h => by simp at h
  | y :: r, x, h => by
    by_cases e : y = x
    · subst e
      exact ⟨[], r, rfl, by simp, by simp⟩
    · have hx : x ∈ r := by
        rcases List.mem_cons.mp h with z | z
        · exact absurd z.symm e
        · exact z
      obtain ⟨pre, post, h1, h2, h3⟩ := split_at hx
      refine ⟨y :: pre, post, by rw [h1]; rfl, ?_, ?_⟩
      · intro z
        rcases List.mem_cons.mp z with z | z
        · exact e z.symm
        · exact h2 z
      · rw [List.idxOf_cons, h3, beq_eq_false_iff_ne.mpr e]
        rfl
theorem frn_app : ∀ (a b : List Int) (x : Int), x ∉ a → frn (a ++ x :: b) x = (a.filter (fun y => decide (x < y))).length
  | [], b, x, _ => by simp [frn]
  | y :: a, b, x, h => by
    have hy : y ≠ x := fun e => h (by rw [e]; exact List.mem_cons_self ..)
    have ih := frn_app a b x (fun z => h (List.mem_cons_of_mem _ z))
    show (if y = x then 0 else (if x < y then 1 else 0) + frn (a ++ x :: b) x) = _
    rw [if_neg hy, ih, List.filter_cons]
    by_cases h2 : x < y
    · simp [h2]
      omega
    · simp [h2]
theorem frn_rev {l : List Int} {x : Int} (hn : l.Nodup) (hx : x ∈ l) : frn l.reverse x = behind l x := by
  obtain ⟨pre, post, h1, h2, h3⟩ := split_at hx
  have hp : x ∉ post := by
    rw [h1] at hn
    have := (List.nodup_append.mp hn).2.1
    exact (List.nodup_cons.mp this).1
  unfold behind
  rw [h3, h1, List.drop_left, List.reverse_append, List.reverse_cons, List.append_assoc]
  show frn (post.reverse ++ x :: pre.reverse) x = _
  rw [frn_app _ _ _ (by rw [List.mem_reverse]; exact hp), List.filter_reverse, List.length_reverse, List.filter_cons]
  simp
/-- x put in at place i -/
def ins (acc : List Int) (i : Nat) (x : Int) : List Int := acc.take i ++ [x] ++ acc.drop i
/-- those of the row who are among the first i -/
def part (l F : List Int) (i : Nat) : List Int := l.filter (fun y => decide (y ∈ F.take i))
end Bal

namespace Den
open PySem PySem.Spec PyProof.Rows L2 Bal
/-! ### classes named in a row -/
end Den

namespace Den
open PySem PySem.Spec PyProof.Rows L2 Bal
/-! ### enumerate of a list or a tuple -/
/-! ### what is walked -/
end Den

namespace Den
open PySem PySem.Spec PyProof.Rows L2 Bal
/-! ### three names at once -/
section
variable {X : Cx} {E : L2.St → XK} {a b c : Expr} {pos : Pos}
theorem Rps.three {Γ : Gm} {H : Hp} {μ : List Addr} {vs : List V} {w1 w2 w3 : W} (r : Rps Γ H μ vs [w1, w2, w3]) : ∃ v1 v2 v3, vs = [v1, v2, v3] ∧ Rp Γ H μ v1 w1 ∧ Rp Γ H μ v2 w2 ∧ Rp Γ H μ v3 w3 := by
  cases r with
  | cons a r =>
    obtain ⟨v, u, rfl, b, c⟩ := r.two rfl
    exact ⟨_, v, u, rfl, a, b, c⟩
end
end Den

namespace Den
open PySem PySem.Spec PyProof.Rows L2 Bal
/-! ### repr, of small data, and the defs that ask it -/
theorem _root_.Bal.FnG.mono {P : Program} {w : World} {K : PySem.W.Frag} {mg : Str → Option Value} {base : Heap} {k k' : Nat} {f : Addr} {fd : FuncData} {ps : List Str} {sp : Sp} (F : FnG P w K mg base k f fd ps sp) (h : k ≤ k') : FnG P w K mg base k' f fd ps sp := ⟨F.lenG, fun A outer s H args us vs Q E hg hr => F.runG A outer s H args us vs Q E hg (hr.mono h)⟩
end Den

namespace Den
open PySem PySem.Spec PyProof.Rows L2 Bal
/-! ### list(range(a, b)) -/
/-! ### sorted of pairs -/
abbrev Pr := Int × Int
end Den

namespace Den
open PySem PySem.Spec PyProof.Rows L2 Bal
/-! ### sorted(set(..)) of pairs -/
abbrev pl (p : Pr) : List Int := [p.1, p.2]
end Den

namespace Den
open PySem PySem.Spec PyProof.Rows L2 Bal
/-! ### numbers rising, each once -/
/-! ### pairs of any numbers, in their order -/
end Den

namespace Den
open PySem PySem.Spec PyProof.Rows L2 Bal
section
variable {P : Program} {w : World} {A : Around} {E : Value → Shared → Prop} {s : Shared}
/-- the bare set that set(..) starts with -/
abbrev bare (w : World) : Obj := { cls := .type "set", dict := none, data := .set #[] 0 (.fresh 0 0 (!w.params.followText "set-order")) }
end
end Den

namespace Den
open PySem PySem.Spec PyProof.Rows L2 Bal
/-! ### sorted(set(..)) of ints -/
def nT : List W → Option (List Int)
  | [] => some []
  | .int a :: ws => (nT ws).map (a :: ·)
  | _ :: _ => none
/-! ### sorted of pairs of any numbers -/
end Den

namespace Den
open PySem PySem.Spec PyProof.Rows L2 Bal
section
variable {K : PySem.W.Frag} {mg : Str → Option Value}
/-- texts held together -/
def fEqS (_ : Store) : W → W → Option W
  | .str x, .str y => some (.bl (decide (x = y)))
  | _, _ => none
theorem fEqS_ok : Op2 K mg rEq fEqS := by
  intro δ H μ S v u x y w Q k rx ry e q
  cases rx <;> first | (cases e; done) | skip
  cases ry <;> first | (cases e; done) | skip
  rename_i x y
  have e : some (W.bl (decide (x = y))) = some w := e
  cases e
  refine ⟨rfl, ?_⟩
  have : decide (V.str x = V.str y) = decide (x = y) := decide_eq_decide.mpr ⟨fun z => by injection z, fun z => by rw [z]⟩
  rw [this]
  exact q _ _ Gr.refl k (.bl _)
end
end Den

namespace Den
open PySem PySem.Spec PyProof.Rows L2 Bal
end Den

namespace Bal
open PySem PySem.Spec PyProof.Rows L2
/-! ### one class named in an except -/
end Bal
namespace Den
open PySem PySem.Spec PyProof.Rows L2 Bal
end Den

namespace Den
open PySem PySem.Spec PyProof.Rows L2 Bal
section
variable {K : PySem.W.Frag} {mg : Str → Option Value}
/-! ### x -= n, sum of a list of numbers -/
def fSum (S : Store) : List W → Option W
  | [w] => match lstS S w with
    | some ws => (inT ws).map fun ns => .int ns.sum
    | none => none
  | _ => none
theorem fSum_ok : OpN K mg (rSum K) fSum := by
  intro δ H μ S vs xs w Q k rs e q
  match xs, e with
  | [x], e =>
    obtain ⟨v, rfl, rx⟩ := rs.one rfl
    have e : (match lstS S x with | some ws => (inT ws).map fun ns => W.int ns.sum | none => none) = some w := e
    cases e1 : lstS S x with
    | none => rw [e1] at e; cases e
    | some ws =>
      rw [e1] at e
      have e : (inT ws).map (fun ns => W.int ns.sum) = some w := e
      cases e2 : inT ws with
      | none => rw [e2] at e; cases e
      | some ns =>
        rw [e2] at e
        cases e
        obtain ⟨p, ys, rfl, h, l, r⟩ := rx.lstS k e1
        obtain ⟨rfl, _⟩ := inT_ok r e2
        exact ⟨p, ns, rfl, .inl (.inl h), q _ _ Gr.refl k (.int _)⟩
end
end Den

namespace Den
open PySem PySem.Spec PyProof.Rows L2 Bal
/-! ### f(a, b, k = c) -/
theorem vals_app {vs zs : List V} {us ws : List Value} (r : Vals vs us) (q : Vals zs ws) : Vals (vs ++ zs) (us ++ ws) := by
  induction r with
  | nil => exact q
  | cons h _ ih => exact .cons h ih
theorem rps_app {Γ : Gm} {H : Hp} {μ : List Addr} {vs zs : List V} {us ws : List W} (r : Rps Γ H μ vs us) (q : Rps Γ H μ zs ws) : Rps Γ H μ (vs ++ zs) (us ++ ws) := by
  induction vs generalizing us with
  | nil => cases r; exact q
  | cons v vs ih =>
    cases r with
    | cons h t => exact .cons h (ih t)
theorem kbn_gp {K : PySem.W.Frag} {x qual : Str} {st : Stmt} {f : Addr} {fd : FuncData} {ps ks : List Str} {n : Nat} (π : List Nat) (F : Fun K x qual st f fd)
    (h : ∀ (kV doc pm : Value) (an : Option Addr) (cdv ct : Value) (us ws : List Value), us.length = n → ws.length = ks.length → bindArgs (PySem.W.fnOf x qual (defArgs st) (defBody st) (defScope st) .none kV doc pm an cdv ct) ⟨us, ks.zip ws⟩ = pure (ps.zip (gp π (us ++ ws)))) : KBn K fd ps n ks (fun us ws => gp π (us ++ ws)) (fun us ws => gp π (us ++ ws)) := by
  obtain ⟨oc, od, kV, doc, pm, an, cdv, ct, osl, rfl, lk, hcd⟩ := F.ex
  exact ⟨fun s us ws _ l1 l2 => .of_eq (h kV doc pm an cdv ct us ws l1 l2), fun r1 r2 => gp_vals (vals_app r1 r2) π⟩
section
variable {X : Cx} {E : L2.St → XK} {e : Expr} {es : List Expr} {pos p : Pos} {x : Str} {k n : Nat} {f : Addr} {fd : FuncData} {ps : List Str} {g : List W → Mo W}
def tCallNS (n m : Nat) (sp : Sp) (gV : List V → List V → List V) (E : L2.St → XK) (t tk : TA) : TE := fun σ H Q => t σ H fun vs H1 => tk σ H1 fun zs H2 => vs.length = n ∧ zs.length = m ∧ sp (gV vs zs) H2 Q (E σ)
theorem pe_callNS {CX : CXT} {ks : List Str} {sp : Sp} {gl : List Value → List Value → List Value} {gV : List V → List V → List V} {kws : List Keyword} {t tk : TA} (F : FnOk X.prog X.w X.K X.mg X.base CX k f fd ps sp) (hr : Room k X.A) (hg : Gl X x) (hm : X.mg x = some (.ref f)) (hk : PySem.W.keepIn X.K (.ref f) = true) (hb : KBn X.K fd ps n ks gl gV) (hx : ∀ σ, PassesAt CX X σ (E σ)) (ha : PA X (e :: es) t) (hkw : PK X kws tk)
    (hall : (backToKw pos (keywordEach kws X.env)).all (·.1.isSome) = true) (hks : (backToKw pos (keywordEach kws X.env)).filterMap (·.1) = ks) (hdb : (x == ("__debug__" : Str)) = false) (he : starEach (e :: es) X.env = (false, eval e X.env) :: starEach es X.env) (hpl : ((backTo pos (starEach (e :: es) X.env)).any (·.1) || (backToKw pos (keywordEach kws X.env)).any (·.1.isNone)) = false) : PE X (.Call (.Name x p) (e :: es) kws pos) (tCallNS n ks.length sp gV E t tk) := by
  refine ⟨fun pins s σ H Q I h => wpAny_Call_Name_kw (ld_glob I hg hm ?_ hdb)⟩
  refine PySem.W.callWith_KW (h₀ := X.base) I.ok.mod.kin hk hall (thn (ha.run pos pins s σ H _ I h) fun us s1 ⟨vs, H1, I1, r, q⟩ => ?_) hpl he
  refine thn (hkw.run pos pins s1 σ H1 _ I1 q) fun ws s2 ⟨zs, H2, I2, rz, l1, l2, q2⟩ => ⟨I2.kIn, ?_⟩
  rw [hks]
  refine wpAny_call (codeAny_mono (F.run X.A X.stack s2 H2 ⟨us, ks.zip ws⟩ (gl us ws) (gV vs zs) Q (E σ) hr I2.env0 (hb.to s2 us ws I2.kIn (r.length.symm.trans l1) (rz.length.symm.trans l2)) (hb.rel r rz) q2) fun r s' hq => ?_)
  match r, hq with
  | .error e, hq => exact hx σ pins H2 s2 e s' I2 hq
  | .ok (.ret u), hq => exact I2.after hq
  | .ok .next, hq => exact False.elim hq
  | .ok .brk, hq => exact False.elim hq
  | .ok .cont, hq => exact False.elim hq
def dCallM (n m l : Nat) (π : List Nat) (g : List W → Mo W) (d dk : DA) : DE := fun ρ => bnd (d ρ) fun us => bnd (dk ρ) fun ws => if us.length = n ∧ ws.length = m ∧ (gp π (us ++ ws)).length = l then g (gp π (us ++ ws)) else bad
theorem de_callM {ks : List Str} {l : Nat} {π : List Nat} {kws : List Keyword} {d dk : DA} (F : FnOk X.prog X.w X.K X.mg X.base (L2.CX X.prog X.w) k f fd ps (spD X.K X.mg l g)) (hr : Room k X.A) (hg : Gl X x) (hm : X.mg x = some (.ref f)) (hk : PySem.W.keepIn X.K (.ref f) = true) (hb : KBn X.K fd ps n ks (fun us ws => gp π (us ++ ws)) (fun us ws => gp π (us ++ ws))) (hx : PX X E) (ha : PDA X E (e :: es) d) (hkw : PDK X E kws dk)
    (hall : (backToKw pos (keywordEach kws X.env)).all (·.1.isSome) = true := by rfl) (hks : (backToKw pos (keywordEach kws X.env)).filterMap (·.1) = ks := by rfl) (hdb : (x == ("__debug__" : Str)) = false := by decide) (he : starEach (e :: es) X.env = (false, eval e X.env) :: starEach es X.env := by rfl) (hpl : ((backTo pos (starEach (e :: es) X.env)).any (·.1) || (backToKw pos (keywordEach kws X.env)).any (·.1.isNone)) = false := by rfl) :
    PD X E (.Call (.Name x p) (e :: es) kws pos) (dCallM n ks.length l π g d dk) := pe_of (pe_callNS F hr hg hm hk hb hx ha hkw hall hks hdb he hpl) fun σ H Q ⟨δ, μ, S, ρ, k, s, h⟩ =>
  ⟨δ, μ, S, ρ, k, s, Res.step h fun us S1 H1 μ1 g1 k1 h1 vs rs => ⟨δ, μ1, S1, ρ, k1, rσ_gr g1 s, Res.step h1 fun ws S2 H2 μ2 g2 k2 h2 zs rz => by
    by_cases hn : us.length = n ∧ ws.length = ks.length ∧ (gp π (us ++ ws)).length = l
    · rw [if_pos hn] at h2
      have r2 := gp_rps (rps_app (rs.gr g2) rz) π
      exact ⟨rs.len.trans hn.1, rz.len.trans hn.2.1, r2.len.trans hn.2.2, δ, μ2, S2, _, k2, r2, h2⟩
    · rw [if_neg hn] at h2
      exact h2.elim⟩⟩
end
/-! ### list(range(b)) -/
end Den

namespace Den
open PySem PySem.Spec PyProof.Rows L2 Bal
/-! ### xs.pop() -/
def dMth0 (f : Store → W → List W → Option (W × Store)) (d : DE) : DE := fun ρ => bnd (d ρ) fun x => if lsB x = true then wrS fun S => f S x [] else bad
section
variable {X : Cx} {E : L2.St → XK} {o : Expr} {name : Str} {apos cpos : Pos} {idn : String} {K : PySem.W.Frag} {mg : Str → Option Value}
theorem mth0_ok {r : V → List V → Hp → VK → Prop} {f : Store → W → List W → Option (W × Store)} {d : DE} (hf : MtW K mg r f) {σ : L2.St} {H : Hp} {Q : VK} (h : tOf K mg E (dMth0 f d) σ H Q) : tBM0 K "list" r (tOf K mg E d) σ H Q := by
  obtain ⟨δ, μ, S, ρ, k, s, h⟩ := h
  refine ⟨δ, μ, S, ρ, k, s, Res.step h fun x S1 H1 μ1 g1 k1 h1 v rv => ?_⟩
  by_cases hb : lsB x = true
  · rw [if_pos hb] at h1
    refine ⟨ls_ty k1 rv hb, ?_⟩
    unfold wrS at h1
    cases e1 : f S1 x [] with
    | none => simp only [e1] at h1; exact h1.elim
    | some y =>
      simp only [e1] at h1
      exact hf k1 rv .nil e1 fun z H' g k r => h1 H' μ1 g k z r
  · rw [if_neg hb] at h1
    exact h1.elim
theorem de_mth0 {r : V → List V → Hp → VK → Prop} {f : Store → W → List W → Option (W × Store)} {d : DE} (slot : Slot "list" name idn) (hty : typeOf (.builtin idn) = pure (.type "method_descriptor")) (hm : MtR X idn r) (hf : MtW X.K X.mg r f) (ho : PD X E o d)
    (hbase : attributeBase o name X.env (eval o X.env) = eval o X.env := by rfl) (hline : (apos.endLine == cpos.line) = true := by rfl) : PD X E (.Call (.Attribute o name apos) [] [] cpos) (dMth0 f d) := pe_of (pe_bm0 PySem.F.plainAttrs_list slot hty hm ho hbase hline) fun _ _ _ h => mth0_ok hf h
def fPop (S : Store) : W → List W → Option (W × Store)
  | .lst n, [] => chS S n fun ws => (ws[ws.length - 1]?).map fun y => (y, ws.eraseIdx (ws.length - 1))
  | _, _ => none
theorem drop_erase {α : Type} (xs : List α) : xs.dropLast = xs.eraseIdx (xs.length - 1) := by
  induction xs with
  | nil => rfl
  | cons a l ih =>
    cases l with
    | nil => rfl
    | cons b l => simpa using ih
theorem fPop_ok : MtW K mg rPop fPop := by
  intro δ H μ S S' v vs x w ws Q k rx rs e q
  cases rx with
  | @lst a n hh hq =>
    match ws, rs, e with
    | [], rs, e =>
      cases rs
      obtain ⟨zs, us, e1, e2, l, rfl⟩ := chS_some (show chS S n _ = _ from e)
      obtain ⟨xs, zs', e3, e4, l4, r4⟩ := k.lat hh hq
      rw [e1] at e3
      cases e3
      cases e6 : zs[zs.length - 1]? with
      | none => rw [e6] at e2; cases e2
      | some y =>
        rw [e6] at e2
        cases e2
        obtain ⟨u, e7, r7⟩ := r4.getW e6
        have hl : xs.length = zs.length := r4.len
        obtain ⟨k2, g2⟩ := k.set hh hq (xs := xs.eraseIdx (zs.length - 1)) (Nat.le_trans (List.length_eraseIdx_le ..) l4) (r4.erase (zs.length - 1))
        exact ⟨a, xs, u, rfl, rfl, e4, by rw [hl]; exact e7, by rw [drop_erase, hl]; exact q _ _ g2 k2 (r7.gr g2)⟩
  | _ => cases e
end
/-! ### continue, break -/
end Den

namespace Den
open PySem PySem.Spec PyProof.Rows L2 Bal
/-! ### tables may grow -/
/-! ### the slots of the maker, as they are handed on -/
/-! ### what was handed in, called -/
def dAct (i : Nat) (f c : Addr) (q : Str) (xs : List V) (qd : List W → Mo W) : DE := fun ρ S => match ρ[i]? with
  | some (some (.lam f' c' q' xs' ws)) => if f' = f ∧ c' = c ∧ q' = q ∧ xs' = xs then qd ws S else .bad
  | _ => .bad
def ActOk (Z : Cx) (a : Str) (d : DE) : Prop := ∀ (W : WX) (pn : List (Addr × Obj)) (xe : Value → Shared → Prop) (p1 p2 : Pos), Takes (Z.tr pn xe) W → PD (Z.tr pn xe) (WE W) (.Call (.Name a p1) [] [] p2) d
/-- a def that gets such a thing, and calls it in a try: what it tells of what that tells -/
def LamFn (P : Program) (w : World) (K : PySem.W.Frag) (mg : Str → Option Value) (base : Heap) (k : Nat) (x : Str) (st : Stmt) (g : Addr) (a : Str) (Ng : List Str) (n : Nat) (G : Mo W → List W → Mo W) : Prop :=
  ∃ d : Addr → Addr → Str → List V → (List W → Mo W) → DS,
    (∀ f c q xs qd ws us S, us.length = n → fnW Ng.length (d f c q xs qd) (.lam f c q xs ws :: us) S = G (qd ws) us S) ∧
    ∀ (f c : Addr) (q : Str) (xs : List V) (qd : List W → Mo W) (cdv : Value) (A : Around) (outer : List Env) (s : Shared) (H : Hp) (E : XK), Room k (A.deeper (envOfC x (defScope st) s.heap.objs.size g cdv)) →
      ActOk (cxOf (L2.CX P w) P w K mg base Ng x (defScope st) g cdv A outer s H E) a (dAct 0 f c q xs qd) → PDSs (cxOf (L2.CX P w) P w K mg base Ng x (defScope st) g cdv A outer s H E) (fun _ => E) (defBody st) (d f c q xs qd)
theorem LamFn.mono {P : Program} {w : World} {K : PySem.W.Frag} {mg : Str → Option Value} {base : Heap} {k k' : Nat} {x : Str} {st : Stmt} {g : Addr} {a : Str} {Ng : List Str} {n : Nat} {G : Mo W → List W → Mo W} (h : LamFn P w K mg base k x st g a Ng n G) (hk : k ≤ k') : LamFn P w K mg base k' x st g a Ng n G :=
  let ⟨d, h1, h2⟩ := h
  ⟨d, h1, fun f c q xs qd cdv A outer s H E r => h2 f c q xs qd cdv A outer s H E (r.mono hk)⟩
end Den

namespace Den
open PySem PySem.Spec PyProof.Rows L2 Bal
/-! ### the end, with tables -/
/-- the code object of the def at f is written, its table is bare -/
def OwnT (K : PySem.W.Frag) (f : Addr) (h : Heap) : Prop := ∀ (c P : Addr) (o : Obj) (fd : FuncData) (e : Value) (dd : Option Addr) (vs : Array Value) (sl : Array (Option Value)), K.lookup f = some o → o.data = .func fd → fd.code = .ref c →
  K.lookup c = some ⟨e, dd, .fields vs, sl⟩ → vs[11]? = some (.ref P) → h.get? P = some (PySem.W.tabObj #[]) ∧ PySem.W.CodeHd h c P
theorem walk_tab {l : PySem.W.OpenLaw} {n k : Nat} {q : Program} {loose : List Str} {XP : (Str → Option Value) → Heap → Prop} {YP : World → Heap → Prop} {d : DefRec} {K : Params → PySem.W.Frag} {CX : World → CXT} {x : Str}
    (hn : l.most = some n) (hn2 : n ≤ sizeLine) (hdf : d.params.defaults = []) (hr : Room k callerA) (hY : ∀ (w : World) (h : Heap), YP w h → (K w.params).In h)
    (F : ∀ (w : World) (mg : Str → Option Value) (fa : Addr) (h : Heap), (K w.params).In h → h.Ns mainGlobals mg → mg d.name = some (.ref fa) → (∀ (nm : Str) (f : Addr), ((recsOf q).any fun e => e.name == nm) = true → mg nm = some (.ref f) → OwnT (K w.params) f h) → LamX.LawAtS l w (K w.params) (CX w) k n x mg fa h)
    (hCX : ∀ (w : World) (H : Hp) (s : Shared) (e : Value) (s' : Shared), CX w [] H s (fun _ _ _ => False) e s' → False) : PySem.W.WalkO q loose XP YP l.row.toRowW d [] (fun f vs => PySem.call f vs) := by
  refine Att.attach_callB hn hdf fun w s₀ s₁ mg mb fa o pm cd doc a vs ns G Y ho hd hcd hmg hobj hints hlen hbits hg => ?_
  have KX := hY w _ Y
  have own : ∀ (nm : Str) (f : Addr), ((recsOf q).any fun e => e.name == nm) = true → mg nm = some (.ref f) → OwnT (K w.params) f s₁.heap := fun nm f hrec hf c P o1 fd1 e dd vs1 sl k1 k2 k3 k4 k5 => by
    obtain ⟨dL, mL, nL⟩ := List.any_eq_true.mp hrec
    obtain ⟨a', o', fd', c', P', h1, h2, h3, h4, h5, h6⟩ := G.T.tab dL mL
    rw [beq_iff_eq.mp nL, hf] at h1
    cases h1
    rw [KX _ _ k1] at h2
    cases h2
    rw [k2] at h3
    cases h3
    rw [k3] at h4
    cases h4
    obtain ⟨⟨oc, vc, e1, e2, e3, e4⟩, hP⟩ := id h6
    rw [KX _ _ k4] at e1
    cases e1
    cases e3
    rw [k5] at e4
    cases e4
    exact ⟨hP, PySem.W.CodeHd.of h5 h6⟩
  obtain ⟨fd, cs, sp, hT, nT, C, hb, hsp, hF⟩ := F w mg fa _ KX G.T.g hmg own
  exact LamX.law_callTs KX G.T.g G.T.b G.T.builtins G.T.nolimit hg hT nT C G.T.bmain hobj hints (Nat.le_trans hlen hn2) hr hF hb (fun H hH hS => hsp H a ns hlen hbits hH hS) fun H e s' => hCX w H s₁ e s'
theorem tab_of {K : PySem.W.Frag} {mg : Str → Option Value} {nm : Str} {f c P : Addr} {oc : Value} {od : Option Addr} {fd : FuncData} {osl : Array (Option Value)} {e : Value} {dd : Option Addr} {vs : Array Value} {sl : Array (Option Value)} (g : mg nm = some (.ref f)) (l : K.lookup f = some ⟨oc, od, .func fd, osl⟩) (o : fd.code = .ref c) (v : K.lookup c = some ⟨e, dd, .fields vs, sl⟩) (p : vs[11]? = some (.ref P)) :
    tabOf K mg nm = some (P, (nm ++ ".<locals>.") ++ "<lambda>") := by
  unfold tabOf
  simp only [g, l, o, v, p]
theorem tab_no {K : PySem.W.Frag} {mg : Str → Option Value} {nm : Str} (g : mg nm = none) : tabOf K mg nm = none := by
  unfold tabOf
  simp only [g]
/-- what is known at the head, from a promise of the law over such tables -/
theorem at_head {l : PySem.W.OpenLaw} {w : World} {K : PySem.W.Frag} {CX : CXT} {k : Nat} {x : Str} {mg : Str → Option Value} {fa : Addr} {h : Heap} {fd : FuncData} {cs : List (Addr × Addr)} (hT : ∀ p ∈ cs, h.get? p.2 = some (PySem.W.tabObj #[])) (nT : ∀ p ∈ cs, K.lookup p.2 = none) (C : ∀ p ∈ cs, PySem.W.CodeHd h p.1 p.2) (hc : ∀ p ∈ tabsOf K mg, ∃ c, (c, p.1) ∈ cs)
    (hb : ∀ (s : Shared) (u : Value), BindsTo s fd ⟨[u], []⟩ [(x, u)]) (F : ∀ base : Heap, (∀ p ∈ cs, LamX.TabB base mg p.1 p.2) → FnOk l.prog w K mg base CX k fa fd [x] (spLaw K mg)) : LamX.LawAtS l w K CX k 63 x mg fa h :=
  ⟨fd, cs, spLaw K mg, hT, nT, C, hb, fun H a ns hl _ hH hS => ⟨a, ns, rfl, hS, hl, fun p hp => let ⟨c, m⟩ := hc p hp; LamX.TabS.nil (hH _ m), fun _ => rfl⟩, fun base _ _ TB => F base TB⟩
/-! ### a def whose code object is known -/
/-- an error without a field -/
structure ErB (K : PySem.W.Frag) (mg : Str → Option Value) (x : Str) (C : Addr) : Prop where
  k : ErK K mg x C
  i : ExcC K C
  me : PySem.W.subIn K (.ref C) (.ref C) = some true
/-! ### what a def tells does not hang on which thing it got, but on what that tells -/
end Den

namespace Den
open PySem PySem.Spec PyProof.Rows L2 Bal
/-! ### an own error that has no field, raised -/
section
variable {X : Cx} {E : L2.St → XK}
/-- what is known of such a class -/
structure ErR (K : PySem.W.Frag) (mg : Str → Option Value) (x : Str) (C : Addr) (newId : String) (tail : List Value) : Prop where
  k : ErK K mg x C
  bx : BaseX newId tail
  q : PySem.W.excIn K C tail newId = true
  kC : PySem.W.keepIn K (.ref C) = true
theorem pmk_bare {x : Str} {C : Addr} {newId : String} {tail : List Value} {p pos : Pos} (T : ErR X.K X.mg x C newId tail) (hg : Gl X x) (hdb : (x == ("__debug__" : Str)) = false := by decide) : PMk X (.Call (.Name x p) [] [] pos) (fun _ H Q => Q (.ref C) none H) := by
  intro pins s σ H Q I h
  obtain ⟨B, ini, F⟩ := T.bx.ex
  refine wpAny_Call_Name_kw (ld_glob I hg T.k.g (PySem.W.callWith_K0 I.kIn T.kC ?_) hdb)
  obtain ⟨bm, N, nm, qn, bs, hdct, sn, sub, ab, col, dd, k0, k1, k2, k3, k5, mN, hC, hN, hni, own⟩ := exc_obj I.kIn T.q
  exact wpAny_call_exc_subT F own hC hN hni (fun h' e hm => mk_of I hm (raises_own T.k.ex T.k.ty) h (I.hok.gone hm.new)) (by show 0 ≤ sizeLine; omega)
/-- raise C() -/
def sRaise0 (c : Str) : DS := fun ρ => ret (.er c "" [] ρ)
theorem ds_raise0 {c : Str} {C : Addr} {newId : String} {tail : List Value} {p p1 pos : Pos} (hc : X.calm = true) (tk : Takes X (fun cls d σ H => E σ cls d H)) (T : ErR X.K X.mg c C newId tail) (hg : Gl X c) (hdb : (c == ("__debug__" : Str)) = false := by decide) : PDS X E (.Raise (some (.Call (.Name c p) [] [] p1)) none pos) (sRaise0 c) :=
  ps_of (ps_raise hc tk (pmk_bare T hg hdb)) fun D σ H ⟨δ, μ, S, ρ, k, s, h⟩ => by
    have h2 : ResS ⟨X.K, X.mg, δ⟩ E D H μ (.ok (.er c "" [] ρ) S) := h
    exact h2 H μ Gr.refl k σ s _ _ ⟨C, T.k.g, rfl, .inl ⟨rfl, rfl⟩⟩
end
/-! ### the end, with tables, where the law asks repr -/
end Den

namespace Den
open PySem PySem.Spec PyProof.Rows L2 Bal
/-! ### {k: v for x in xs} -/
end Den

namespace Den
open PySem PySem.Spec PyProof.Rows L2 Bal
/-! ### a list or a tuple as a test -/
def truS (S : Store) : W → Option Bool
  | .bl b => some b
  | .tup ws => some (!ws.isEmpty)
  | .cl ws => some (!ws.isEmpty)
  | .lst n => (S[n]?).map fun ws => !ws.isEmpty
  | _ => none
def dTru (d : DE) : DT := fun ρ => bnd (d ρ) fun w S => match truS S w with
  | some b => .ok b S
  | none => .bad
section
variable {X : Cx} {E : L2.St → XK}
theorem tru_ok {Γ : Gm} {H : Hp} {μ : List Addr} {S : Store} (k : Ok Γ H μ S) {v : V} {w : W} {b : Bool} (r : Rp Γ H μ v w) (e : truS S w = some b) : TruV Γ.K v H b := by
  have em : ∀ {xs : List V} {ws : List W}, Rps Γ H μ xs ws → (!ws.isEmpty) = !xs.isEmpty := fun q => by
    cases q <;> rfl
  cases r with
  | bl c => cases e; rfl
  | tup h l q =>
    cases e
    exact .inr (.inl ⟨_, h.sq, em q⟩)
  | cl h n m l q =>
    cases e
    exact .inl ⟨_, .inl (.inl h), em q⟩
  | lst h hq =>
    obtain ⟨xs, ws, e1, e2, l, q⟩ := k.lat h hq
    have e : (S[_]?).map (fun (ws : List W) => !ws.isEmpty) = some b := e
    rw [e1] at e
    cases e
    exact .inl ⟨_, .inl (.inl e2), em q⟩
  | _ => cases e
theorem dt_tru {e : Expr} {d : DE} (h : PD X E e d) (he : ∀ whole, isTrue e X.env whole = (do let v ← whole; standAt e.pos; holding [v] (truthy v)) := by intro _; rfl) : PDT X E e (dTru d) := pt_of (pt_truth h he) fun σ H Q ⟨δ, μ, S, ρ, k, s, h⟩ =>
  ⟨δ, μ, S, ρ, k, s, Res.step h fun w S1 H1 μ1 g1 k1 h1 v rv => by
    cases e1 : truS S1 w with
    | none => rw [e1] at h1; exact h1.elim
    | some b =>
      rw [e1] at h1
      exact ⟨b, tru_ok k1 rv e1, Res.now k1 h1⟩⟩
end
end Den

namespace Den
open PySem PySem.Spec PyProof.Rows L2 Bal
/-! ### division by great numbers -/
/-! ### a op1 b op2 c op3 d -/
end Den

namespace Den
open PySem PySem.Spec PyProof.Rows L2 Bal
/-! ### sorted of any data that are alike: numbers, texts, tuples and lists of them -/
end Den

namespace Den
open PySem PySem.Spec PyProof.Rows L2 Bal
/-! ### == and != of data that lie deep -/
end Den

namespace Den
open PySem PySem.Spec PyProof.Rows L2 Bal
/-! ### a try in which nothing is raised -/
end Den

namespace Den
open PySem PySem.Spec PyProof.Rows L2 Bal
/-! ### list(range(a, b, -1)) -/
end Den

namespace Den
open PySem PySem.Spec PyProof.Rows L2 Bal
/-! ### sorted(set(t)), t a tuple of ints -/
end Den

namespace Den
open PySem PySem.Spec PyProof.Rows L2 Bal
/-! ### dicts by tuples of numbers: as the machine has them -/
abbrev KVs := List ((Addr × List Int) × V)
end Den

namespace Den
open PySem PySem.Spec PyProof.Rows L2 Bal
/-! ### dicts by tuples of numbers: in the store, by their pairs -/
end Den

namespace Den
open PySem PySem.Spec PyProof.Rows L2 Bal
/-! ### {k: v}, k a tuple of numbers -/
end Den

namespace Den
open PySem PySem.Spec PyProof.Rows L2 Bal
/-! ### sorted(d) of a dict by tuples of numbers -/
end Den

namespace Den
open PySem PySem.Spec PyProof.Rows L2 Bal
/-! ### sorted of a dict by tuples: its keys -/
end Den

namespace Den
open PySem PySem.Spec PyProof.Rows L2 Bal
/-! ### len(set(xs)), xs a list of ints -/
end Den

namespace Den
open PySem PySem.Spec PyProof.Rows L2 Bal
/-! ### a dict is locked while it is walked -/
section
variable {Γ : Gm} {H H' : Hp} {μ : List Addr} {S : Store}
mutual
theorem Rp.th (g1 : ∀ a o, H a = some o → a ∉ μ → H' a = some o) (g2 : ∀ a k, a ∈ μ → Kd_ H a k → Kd_ H' a k) : ∀ {v : V} {w : W}, Rp Γ H μ v w → Rp Γ H' μ v w
  | _, _, .non => .non
  | _, _, .bl b => .bl b
  | _, _, .int i => .int i
  | _, _, .str x => .str x
  | _, _, .tup h l r => .tup (h.imp (fun ⟨⟨ob, hd, e⟩, n, m⟩ => ⟨⟨ob, hd, g1 _ _ e n⟩, n, m⟩) id) l (Rps.th g1 g2 r)
  | _, _, .cl h n m l r => .cl (g1 _ _ h n) n m l (Rps.th g1 g2 r)
  | _, _, .sc h r => .sc (h.imp (fun ⟨e, n, m⟩ => ⟨e.imp (fun e => g1 _ _ e n) (fun ⟨ob, e⟩ => ⟨ob, g1 _ _ e n⟩), n, m⟩) id) (Rps.th g1 g2 r)
  | _, _, .lst h q => .lst h (g2 _ _ (List.mem_of_getElem? h) q)
  | _, _, .dct h q => .dct h (g2 _ _ (List.mem_of_getElem? h) q)
  | _, _, .dtt h q => .dtt h (g2 _ _ (List.mem_of_getElem? h) q)
  | _, _, .ins h q m => .ins h (g2 _ _ (List.mem_of_getElem? h) q) m
  | _, _, .exn m h n z hd nd zd l r => .exn m (g1 _ _ h n) n z (g1 _ _ hd nd) nd zd l (Rps.th g1 g2 r)
  | _, _, .exn0 m h n z => .exn0 m (g1 _ _ h n) n z
  | _, _, .lam h n z r => .lam (g1 _ _ h n) n z (Rps.th g1 g2 r)
theorem Rps.th (g1 : ∀ a o, H a = some o → a ∉ μ → H' a = some o) (g2 : ∀ a k, a ∈ μ → Kd_ H a k → Kd_ H' a k) : ∀ {vs : List V} {ws : List W}, Rps Γ H μ vs ws → Rps Γ H' μ vs ws
  | _, _, .nil => .nil
  | _, _, .cons a b => .cons (Rp.th g1 g2 a) (Rps.th g1 g2 b)
end
theorem EntD.nf {d : Addr} {u : HO} {ws us : List W} {xs : List V} (h : EntD d u ws xs us) : ∀ q v, u ≠ .frz q v := fun q v z => by
  subst z
  exact h
/-- what a dict of the store is, when nobody walks it -/
theorem Ok.dict {n : Nat} {d : Addr} {ws : List W} (k : Ok Γ H μ S) (e : μ[n]? = some d) (q : Kd_ H d 1 ∨ Kd_ H d 2) (es : S[n]? = some ws) (hz : fzB ws = false) : ∃ (u : HO) (xs : List V) (us : List W), H d = some u ∧ EntD d u ws xs us ∧ xs.length ≤ sizeLine ∧ Rps Γ H μ xs us := by
  obtain ⟨o, ws', xs, us, e1, e2, en, l, r⟩ := k.at_ n d e
  rw [es] at e1
  cases e1
  refine ⟨o, xs, us, e2, ?_, l, r⟩
  cases o with
  | lst ys =>
    exfalso
    rcases q with ⟨o', e3, q⟩ | ⟨o', e3, q⟩ <;> (rw [e2] at e3; cases e3; cases q)
  | frz ob u =>
    obtain ⟨ws0, rfl, _⟩ := en
    cases hz
  | ins C dx fs =>
    exfalso
    rcases q with ⟨o', e3, q⟩ | ⟨o', e3, q⟩ <;> (rw [e2] at e3; cases e3; have hk : 4 ≤ kd (HO.ins C dx fs) := Nat.le_add_left 4 C; rw [q] at hk; exact absurd hk (by decide))
  | dK kvs => exact en
  | ext φ => exact en
  | _ => exact en.elim
end
/-! ### a statement, a value, while a dict is locked -/
/-! ### its keys -/
end Den

namespace Den
open PySem PySem.Spec PyProof.Rows L2 Bal
/-! ### list(d.values()), sorted(d), len(d), d.setdefault(k, []) -/
end Den

namespace Den
open PySem PySem.Spec PyProof.Rows L2 Bal
/-! ### len(d), for x, y in d.items() -/
end Den

namespace Den
open PySem PySem.Spec PyProof.Rows L2 Bal
/-! ### dict(xs) of a list of pairs -/
end Den

namespace Den
open PySem PySem.Spec PyProof.Rows L2 Bal
/-! ### d.items() of a dict by tuples of numbers, d.get(k, z) -/
/-! d.get(k, z) -/
end Den

namespace Den
open PySem PySem.Spec PyProof.Rows L2 Bal
/-! ### {}, to be a dict by tuples of numbers -/
/-! ### {k: v, ..}, its keys tuples of numbers -/
section
variable {Γ : Gm} {H : Hp} {μ : List Addr}
inductive Rpp (Γ : Gm) (H : Hp) (μ : List Addr) : List (V × V) → List (W × W) → Prop
  | nil : Rpp Γ H μ [] []
  | cons {x v : V} {k u : W} {xs : List (V × V)} {ws : List (W × W)} : Rp Γ H μ x k → Rp Γ H μ v u → Rpp Γ H μ xs ws → Rpp Γ H μ ((x, v) :: xs) ((k, u) :: ws)
end
section
variable {X : Cx} {E : L2.St → XK} {pos : Pos}
theorem Rpp.gr {Γ : Gm} {H H' : Hp} {μ μ' : List Addr} (g : Gr H μ H' μ') : ∀ {xs : List (V × V)} {ws : List (W × W)}, Rpp Γ H μ xs ws → Rpp Γ H' μ' xs ws
  | _, _, .nil => .nil
  | _, _, .cons a b c => .cons (a.gr g) (b.gr g) (Rpp.gr g c)
end
/-! d[k] -/
end Den

namespace Den
open PySem PySem.Spec PyProof.Rows L2 Bal
/-! ### xs[i] += n, xs.count(n) -/
/-! xs.count(n) -/
/-! x * n of lists, kept in the store -/
end Den

namespace Den
open PySem PySem.Spec PyProof.Rows L2 Bal
/-! ### xs.count(x) of data of any depth -/
def rCntD (K : PySem.W.Frag) : V → List V → Hp → VK → Prop := fun x xs H Q => ∃ (a : Addr) (y : V) (d : PyData) (ds : List PyData), x = V.ref a ∧ xs = [y] ∧ Dp K H (V.ref a) (.list ds) ∧ Dp K H y d ∧
  SeqAt.shaped (.list ds) = true ∧ SeqAt.shaped d = true ∧ Q (.int (ds.countP fun z => PyData.eqv z d : Nat)) H
section
variable {X : Cx}
theorem mt_countD (hu : X.A.units + 65 < cLine) : MtR X "list.count" (rCntD X.K) := by
  intro pins s σ H x xs v us Q I rx rxs h
  obtain ⟨a, y, d, ds, rfl, rfl, hl, hy, sl, sd, q⟩ := h
  cases rx
  cases rxs with
  | cons ry rt =>
    rename_i uy ut
    cases rt
    obtain ⟨bs, r1⟩ := Dp.reads I d y uy hy ry
    have hxs : PyData.canLayAll0 ds = true := SeqAt.canLay_of_shaped sl
    have hroom : X.A.units + 1 + min (PyData.depthAll ds) d.depth < cLine := room_in_shaped sd hu
    cases hl with
    | lst hs ha =>
      obtain ⟨its, rv, ⟨⟨cls, dd, data, sls⟩, n, ho, hc, hdn, hdt⟩, hlen⟩ := I.list hs
      simp only at hc hdt
      subst hc hdt
      obtain ⟨as, h4⟩ := Dp.readsAll I ds _ its ha rv
      have hmap : its.map (SeqAt.readOf s.heap) = ds := SeqAt.readsAll_map ds its as hxs h4
      have ec : its.toArray.toList.countP (fun u => PyData.eqv (SeqAt.readOf s.heap u) d) = ds.countP fun z => PyData.eqv z d := by
        rw [← hmap, List.countP_map]
        rfl
      refine call_meets PySem.F.slot_list_count ⟨_, ho, rfl⟩ PySem.F.entry_list_count (PySem.F.args_list_count_2 _ _)
        (SeqAt.list_countAt a its.toArray n dd sls uy (fun u => PyData.eqv (SeqAt.readOf s.heap u) d)) ⟨ho, SeqAt.items_eqAt (vs := its.toArray) (show ReadsAll s.heap its.toArray.toList ds as from h4) r1 hxs (SeqAt.canLay_of_shaped sd) hroom, ?_⟩
      refine ⟨.int (ds.countP fun z => PyData.eqv z d : Nat), H, I.tok _, ⟨s.toks, ?_⟩, q⟩
      rw [ec]
end
def cntD (S : Store) (x y : W) : Option (W × Store) := match lstS S x with
  | some _ => match datS S y, datS S x with
    | some d, some (.list ds) => some (.int ((ds.countP fun z => PyData.eqv z d : Nat) : Int), S)
    | _, _ => none
  | none => none
def fCountD (S : Store) (x : W) : List W → Option (W × Store)
  | [y] => cntD S x y
  | _ => none
section
variable {K : PySem.W.Frag} {mg : Str → Option Value}
theorem fCountD_ok : MtW K mg (rCntD K) fCountD := by
  intro δ H μ S S' v vs x w ws Q k rx rs e q
  match ws, rs, e with
  | [y], rs, e =>
    obtain ⟨u, rfl, ry⟩ := rs.one rfl
    have e : cntD S x y = some (w, S') := e
    unfold cntD at e
    cases e1 : lstS S x with
    | none => simp only [e1] at e; cases e
    | some zs =>
      simp only [e1] at e
      obtain ⟨l, ys, rfl, hh, _, r⟩ := rx.lstS k e1
      split at e
      · rename_i d ds e3 e4
        cases e
        obtain ⟨h1, h2⟩ := datS_ok k ry e3
        obtain ⟨h3, h4⟩ := datS_ok k rx e4
        exact ⟨l, u, d, ds, rfl, rfl, h3, h1, h4, h2, q _ _ Gr.refl k (.int _)⟩
      · cases e
end
end Den

namespace Den
open PySem PySem.Spec PyProof.Rows L2 Bal
/-! ### numbers less truths and truths less numbers, str of a number, xs[i:j] = ys -/
end Den

namespace Den
open PySem PySem.Spec PyProof.Rows L2 Bal
/-! ### try: .. except (C1, ..): a suite of its own -/
end Den

namespace Den
open PySem PySem.Spec PyProof.Rows L2 Bal
/-! ### statements that end in a return: the slots behind them are told too -/
abbrev TR := (V → L2.St → Hp → Prop) → L2.St → Hp → Prop
structure PRs (X : Cx) (ss : List Stmt) (t : TR) : Prop where
  run : ∀ (pins : List (Addr × Obj)) (s : Shared) (σ : L2.St) (H : Hp) (Q : V → L2.St → Hp → Prop), Inv X pins σ H s → t Q σ H →
    wpAny (model X.prog X.w) X.A (execs ss X.env) (fun f s' => ∃ u v σ' H', f = .ret u ∧ Inv X pins σ' H' s' ∧ RelV v u ∧ Q v σ' H') X.xe s
section
variable {X : Cx} {e : Expr} {st : Stmt} {rest body : List Stmt} {f₀ : Stmt} {fs : List Stmt} {rp pos : Pos} {te : TE} {ts : TS} {tr : TR} {tb : WX → TR} {tbs : WX → TS} {tf tfs : TS} {Wout : WX}
theorem prs_of {t t' : TR} (h : PRs X body t) (f : ∀ Q σ H, t' Q σ H → t Q σ H) : PRs X body t' := ⟨fun pins s σ H Q I q => h.run pins s σ H Q I (f Q σ H q)⟩
theorem prs_ret (he : PE X e te) : PRs X [.Return (some e) rp] (fun Q σ H => te σ H fun v H1 => Q v σ H1) := by
  refine ⟨fun pins s σ H Q I h => ?_⟩
  refine wpAny_execs_cons (wpAny_Return_some (wpAny_mono (he.run pins s σ H _ I h) (fun u s1 z => ?_) fun _ _ z => z))
  obtain ⟨v, H1, I1, r1, q1⟩ := z
  exact ⟨u, v, σ, H1, rfl, I1, r1, q1⟩
theorem prs_cons (h1 : PS X st ts) (h2 : PRs X rest tr) : PRs X (st :: rest) (fun Q σ H => ts { nx := fun σ1 H1 => tr Q σ1 H1, rt := fun _ _ => False, bk := fun _ _ => False, ct := fun _ _ => False } σ H) := by
  refine ⟨fun pins s σ H Q I h => ?_⟩
  refine wpAny_execs_cons (thn (h1.run pins s σ H _ I h) fun f s1 q => ?_)
  cases f with
  | next =>
    obtain ⟨σ', H', I', q⟩ := q
    exact h2.run pins s1 σ' H' Q I' q
  | ret v => obtain ⟨_, _, _, _, _, q⟩ := q; exact q.elim
  | brk => obtain ⟨_, _, _, q⟩ := q; exact q.elim
  | cont => obtain ⟨_, _, _, q⟩ := q; exact q.elim
theorem ps_finR (hs : X.stack = X.env :: X.outer) (hf : X.env.frame = some X.env.locals) (hex : X.ex = []) (tk : Takes X Wout)
    (hb : ∀ (W : WX) (pn : List (Addr × Obj)) (xe : Value → Shared → Prop), Takes (X.tr pn xe) W → PassesOwn (model X.prog X.w) X.A X.env xe → PRs (X.tr pn xe) body (tb W))
    (hfin : PSs X.nox (f₀ :: fs) tf) (hsu : ∀ (a : Addr) (pn : List (Addr × Obj)), PSs (X.suite a pn) (f₀ :: fs) tfs) :
    PS X (.Try body [] [] (f₀ :: fs) pos) (fun D σ H => tb (wFin tfs Wout) (fun v σ1 H1 => tf { D with nx := fun _ H2 => D.rt v H2 } σ1 H1) σ H) := by
  refine ⟨fun pins s σ H D I h => ?_⟩
  have ok := I.ok
  refine wpAny_Try_finally ?_
  refine wpAny_mono ((hb (wFin tfs Wout) (X.pn ++ pins) (fun x s₁ => wpAny (model X.prog X.w) X.A (noteFrame x X.env) (fun _ s₂ => FinallyRaised X.prog X.w X.A X.xe X.env (f₀ :: fs) (SP X pins D) x s₂) (FinallyRaised X.prog X.w X.A X.xe X.env (f₀ :: fs) (SP X pins D)) s₁)
    (fun u s' xx => ?_) PassesOwn.looking).run [] s σ H _ (I.toTry _) h) (fun f s1 z => ?_) (fun x s1 hx => hx)
  · exact fin_exc hs hf hex ok tk hsu xx
  · obtain ⟨u, v, σ1, H1, rfl, I1, r1, q1⟩ := z
    exact fin_ret hfin (I1.ofTry ok) r1 q1
theorem ps_fin0 (hs : X.stack = X.env :: X.outer) (hf : X.env.frame = some X.env.locals) (hex : X.ex = []) (tk : Takes X Wout)
    (hb : ∀ (W : WX) (pn : List (Addr × Obj)) (xe : Value → Shared → Prop), Takes (X.tr pn xe) W → PassesOwn (model X.prog X.w) X.A X.env xe → PSs (X.tr pn xe) body (tbs W))
    (hfin : PSs X.nox (f₀ :: fs) tf) (hsu : ∀ (a : Addr) (pn : List (Addr × Obj)), PSs (X.suite a pn) (f₀ :: fs) tfs) :
    PS X (.Try body [] [] (f₀ :: fs) pos) (fun D σ H => tbs (wFin tfs Wout) { nx := fun σ1 H1 => tf D σ1 H1, rt := fun _ _ => False, bk := fun _ _ => False, ct := fun _ _ => False } σ H) := by
  refine ⟨fun pins s σ H D I h => ?_⟩
  have ok := I.ok
  refine wpAny_Try_finally ?_
  refine wpAny_mono ((hb (wFin tfs Wout) (X.pn ++ pins) (fun x s₁ => wpAny (model X.prog X.w) X.A (noteFrame x X.env) (fun _ s₂ => FinallyRaised X.prog X.w X.A X.xe X.env (f₀ :: fs) (SP X pins D) x s₂) (FinallyRaised X.prog X.w X.A X.xe X.env (f₀ :: fs) (SP X pins D)) s₁)
    (fun u s' xx => ?_) PassesOwn.looking).run [] s σ H _ (I.toTry _) h) (fun f s1 z => ?_) (fun x s1 hx => hx)
  · exact fin_exc hs hf hex ok tk hsu xx
  · cases f with
    | next =>
      obtain ⟨σ1, H1, J1, q1⟩ := z
      refine wpAny_execs_nil (wpAny_mono (hfin.run pins s1 σ1 H1 D ((J1.ofTry ok).wish _) q1) (fun g s2 q => ?_) fun _ _ z => False.elim z)
      have q' : SP X pins D g s2 := q.unwish
      cases g with
      | next => exact q'
      | ret w2 => exact q'
      | brk => exact q'
      | cont => exact q'
    | ret v => obtain ⟨_, _, _, _, _, q⟩ := z; exact q.elim
    | brk => obtain ⟨_, _, _, q⟩ := z; exact q.elim
    | cont => obtain ⟨_, _, _, q⟩ := z; exact q.elim
end
/-! ### as readings -/
inductive Rt where
  | rt (w : W) (ρ : En) | er (c f : Str) (ws : List W) (ρ : En)
abbrev DR := En → Mo Rt
def EndR (Γ : Gm) (E : L2.St → XK) (Q : V → L2.St → Hp → Prop) (H : Hp) (μ : List Addr) : Rt → Prop
  | .rt w ρ => ∀ σ v, Rσ Γ H μ σ ρ → Rp Γ H μ v w → Q v σ H
  | .er c f ws ρ => ∀ σ, Rσ Γ H μ σ ρ → ∀ cls d, RpX Γ H μ cls d c f ws → E σ cls d H
def ResR (Γ : Gm) (E : L2.St → XK) (Q : V → L2.St → Hp → Prop) (H : Hp) (μ : List Addr) : Out Rt → Prop
  | .ok x S' => ∀ H' μ', Gr H μ H' μ' → Ok Γ H' μ' S' → EndR Γ E Q H' μ' x
  | _ => False
theorem ResR.gr {Γ : Gm} {E : L2.St → XK} {Q : V → L2.St → Hp → Prop} {H H' : Hp} {μ μ' : List Addr} {o : Out Rt} (g : Gr H μ H' μ') (h : ResR Γ E Q H μ o) : ResR Γ E Q H' μ' o := by
  cases o with
  | ok a S' => exact fun H2 μ2 g2 k => h H2 μ2 (g.trans g2) k
  | err c f ws S' => exact h
  | bad => exact h
def trOf (K : PySem.W.Frag) (mg : Str → Option Value) (E : L2.St → XK) (r : DR) : TR := fun Q σ H => ∃ δ μ S ρ, Ok ⟨K, mg, δ⟩ H μ S ∧ Rσ ⟨K, mg, δ⟩ H μ σ ρ ∧ ResR ⟨K, mg, δ⟩ E Q H μ (r ρ S)
abbrev PDR (X : Cx) (E : L2.St → XK) (ss : List Stmt) (r : DR) : Prop := PRs X ss (trOf X.K X.mg E r)
def rRet (d : DE) : DR := fun ρ S => match d ρ S with
  | .ok w S' => .ok (.rt w ρ) S'
  | .err c f ws S' => .ok (.er c f ws ρ) S'
  | .bad => .bad
def rSeq (s : DS) (r : DR) : DR := fun ρ S => match s ρ S with
  | .ok (.nx ρ') S' => r ρ' S'
  | .ok (.er c f ws ρ') S' => .ok (.er c f ws ρ') S'
  | _ => .bad
/-- behind the return's value, or the error, the finally suite -/
def sFinR (r : DR) (f : DS) : DS := fun ρ S => match r ρ S with
  | .ok (.rt w ρ1) S1 => (match f ρ1 S1 with
    | .ok (.nx _) S2 => .ok (.rt w) S2
    | _ => .bad)
  | .ok (.er c g ws ρ1) S1 => (match f ρ1 S1 with
    | .ok (.nx ρ2) S2 => .ok (.er c g ws ρ2) S2
    | _ => .bad)
  | _ => .bad
def sFin0 (b f : DS) : DS := fun ρ S => match b ρ S with
  | .ok (.nx ρ1) S1 => (match f ρ1 S1 with
    | .ok (.nx ρ2) S2 => .ok (.nx ρ2) S2
    | _ => .bad)
  | .ok (.er c g ws ρ1) S1 => (match f ρ1 S1 with
    | .ok (.nx ρ2) S2 => .ok (.er c g ws ρ2) S2
    | _ => .bad)
  | _ => .bad
section
variable {X : Cx} {E : L2.St → XK} {e : Expr} {st : Stmt} {rest body : List Stmt} {f₀ : Stmt} {fs : List Stmt} {rp pos : Pos} {d : DE} {s1 bd fd : DS} {r : DR}
theorem drs_ret (h : PD X E e d) : PDR X E [.Return (some e) rp] (rRet d) := prs_of (prs_ret h) fun Q σ H ⟨δ, μ, S, ρ, k, s, h⟩ => by
  refine ⟨δ, μ, S, ρ, k, s, ?_⟩
  unfold rRet at h
  cases e1 : d ρ S with
  | bad => rw [e1] at h; exact h
  | err c f ws S1 => rw [e1] at h; exact fun H' μ' g k' cls dd rx => h H' μ' g k' σ (rσ_gr g s) cls dd rx
  | ok w S1 => rw [e1] at h; exact fun H' μ' g k' v rv => h H' μ' g k' σ v (rσ_gr g s) rv
theorem drs_cons (h1 : PDS X E st s1) (h2 : PDR X E rest r) : PDR X E (st :: rest) (rSeq s1 r) := prs_of (prs_cons h1 h2) fun Q σ H ⟨δ, μ, S, ρ, k, s, h⟩ => by
  refine ⟨δ, μ, S, ρ, k, s, ?_⟩
  unfold rSeq at h
  cases e1 : s1 ρ S with
  | bad => rw [e1] at h; exact h
  | err _ _ _ _ => rw [e1] at h; exact h
  | ok fl S1 =>
    rw [e1] at h
    cases fl with
    | nx ρ1 => exact fun H1 μ1 g1 k1 σ1 s1 => ⟨δ, μ1, S1, ρ1, k1, s1, ResR.gr g1 h⟩
    | er c f ws ρ1 => exact fun H1 μ1 g1 k1 σ1 s1 cls dd rx => h H1 μ1 g1 k1 σ1 s1 cls dd rx
    | rt w => exact h.elim
    | bk ρ1 => exact h.elim
    | ct ρ1 => exact h.elim
theorem ds_finR (hs : X.stack = X.env :: X.outer) (hf : X.env.frame = some X.env.locals) (hex : X.ex = []) (tk : Takes X (fun cls d σ H => E σ cls d H))
    (hb : ∀ (W : WX) (pn : List (Addr × Obj)) (xe : Value → Shared → Prop), Takes (X.tr pn xe) W → PassesOwn (model X.prog X.w) X.A X.env xe → PDR (X.tr pn xe) (WE W) body r)
    (hfin : PDSs X.nox noE (f₀ :: fs) fd) (hsu : ∀ (a : Addr) (pn : List (Addr × Obj)), PDSs (X.suite a pn) noE (f₀ :: fs) fd) : PDS X E (.Try body [] [] (f₀ :: fs) pos) (sFinR r fd) :=
  ps_of (ps_finR (tb := fun W => trOf X.K X.mg (WE W) r) (tf := tsOf X.K X.mg noE fd) (tfs := tsOf X.K X.mg noE fd) (Wout := fun cls d σ H => E σ cls d H) hs hf hex tk (fun W pn xe tk ho => hb W pn xe tk ho) hfin hsu) fun D σ H ⟨δ, μ, S, ρ, k, s, h⟩ => by
    refine ⟨δ, μ, S, ρ, k, s, ?_⟩
    unfold sFinR at h
    cases e1 : r ρ S with
    | bad => rw [e1] at h; exact h
    | err _ _ _ _ => rw [e1] at h; exact h
    | ok x S1 =>
      rw [e1] at h
      cases x with
      | rt w ρ1 =>
        intro H1 μ1 g1 k1 σ1 v s1 rv
        refine ⟨δ, μ1, S1, ρ1, k1, s1, ?_⟩
        dsimp only at h
        cases e2 : fd ρ1 S1 with
        | bad => rw [e2] at h; exact h
        | err _ _ _ _ => rw [e2] at h; exact h
        | ok fl S2 =>
          rw [e2] at h
          cases fl with
          | nx ρ2 => exact fun H2 μ2 g2 k2 σ2 s2 => h H2 μ2 (g1.trans g2) k2 v (rv.gr g2)
          | er c f ws ρ1 => exact h.elim
          | rt w => exact h.elim
          | bk ρ1 => exact h.elim
          | ct ρ1 => exact h.elim
      | er c g ws ρ1 =>
        intro H1 μ1 g1 k1 σ1 s1 cls dd rx
        refine ⟨δ, μ1, S1, ρ1, k1, s1, ?_⟩
        dsimp only at h
        cases e2 : fd ρ1 S1 with
        | bad => rw [e2] at h; exact h
        | err _ _ _ _ => rw [e2] at h; exact h
        | ok fl S2 =>
          rw [e2] at h
          cases fl with
          | nx ρ2 => exact fun H2 μ2 g2 k2 σ2 s2 => h H2 μ2 (g1.trans g2) k2 σ2 s2 cls dd (rx.gr g2)
          | er c f ws ρ1 => exact h.elim
          | rt w => exact h.elim
          | bk ρ1 => exact h.elim
          | ct ρ1 => exact h.elim
theorem ds_fin0 (hs : X.stack = X.env :: X.outer) (hf : X.env.frame = some X.env.locals) (hex : X.ex = []) (tk : Takes X (fun cls d σ H => E σ cls d H))
    (hb : ∀ (W : WX) (pn : List (Addr × Obj)) (xe : Value → Shared → Prop), Takes (X.tr pn xe) W → PassesOwn (model X.prog X.w) X.A X.env xe → PDSs (X.tr pn xe) (WE W) body bd)
    (hfin : PDSs X.nox noE (f₀ :: fs) fd) (hsu : ∀ (a : Addr) (pn : List (Addr × Obj)), PDSs (X.suite a pn) noE (f₀ :: fs) fd) : PDS X E (.Try body [] [] (f₀ :: fs) pos) (sFin0 bd fd) :=
  ps_of (ps_fin0 (tbs := fun W => tsOf X.K X.mg (WE W) bd) (tf := tsOf X.K X.mg noE fd) (tfs := tsOf X.K X.mg noE fd) (Wout := fun cls d σ H => E σ cls d H) hs hf hex tk (fun W pn xe tk ho => hb W pn xe tk ho) hfin hsu) fun D σ H ⟨δ, μ, S, ρ, k, s, h⟩ => by
    refine ⟨δ, μ, S, ρ, k, s, ?_⟩
    unfold sFin0 at h
    cases e1 : bd ρ S with
    | bad => rw [e1] at h; exact h
    | err _ _ _ _ => rw [e1] at h; exact h
    | ok fl S1 =>
      rw [e1] at h
      cases fl with
      | nx ρ1 =>
        intro H1 μ1 g1 k1 σ1 s1
        refine ⟨δ, μ1, S1, ρ1, k1, s1, ?_⟩
        dsimp only at h
        cases e2 : fd ρ1 S1 with
        | bad => rw [e2] at h; exact h
        | err _ _ _ _ => rw [e2] at h; exact h
        | ok fl S2 =>
          rw [e2] at h
          cases fl with
          | nx ρ2 => exact fun H2 μ2 g2 k2 σ2 s2 => h H2 μ2 (g1.trans g2) k2 σ2 s2
          | er c f ws ρ1 => exact h.elim
          | rt w => exact h.elim
          | bk ρ1 => exact h.elim
          | ct ρ1 => exact h.elim
      | er c g ws ρ1 =>
        intro H1 μ1 g1 k1 σ1 s1 cls dd rx
        refine ⟨δ, μ1, S1, ρ1, k1, s1, ?_⟩
        dsimp only at h
        cases e2 : fd ρ1 S1 with
        | bad => rw [e2] at h; exact h
        | err _ _ _ _ => rw [e2] at h; exact h
        | ok fl S2 =>
          rw [e2] at h
          cases fl with
          | nx ρ2 => exact fun H2 μ2 g2 k2 σ2 s2 => h H2 μ2 (g1.trans g2) k2 σ2 s2 cls dd (rx.gr g2)
          | er c f ws ρ1 => exact h.elim
          | rt w => exact h.elim
          | bk ρ1 => exact h.elim
          | ct ρ1 => exact h.elim
      | rt w => exact h.elim
      | bk ρ1 => exact h.elim
      | ct ρ1 => exact h.elim
end
end Den

namespace Den
open PySem PySem.Spec PyProof.Rows L2 Bal
/-! ### instances of an own class -/
theorem kdf_le (u : HO) : kdf u ≤ 3 := by
  unfold kdf
  split
  · decide
  · split <;> decide
  · decide
theorem ins_ne {C k : Nat} (h : k ≤ 3) : k ≠ C + 4 := Nat.ne_of_lt (Nat.lt_of_le_of_lt h (Nat.lt_of_lt_of_le (show 3 < 4 by decide) (Nat.le_add_left 4 C)))
theorem ins_names {fs : List (Str × V)} (h : fs.map (·.1) = insNames.take fs.length) : ∀ {i : Nat} {f : Str} {v : V}, insNames[i]? = some f → (fs.map (·.2))[i]? = some v → fs.lookup f = some v := by
  intro i f v hi hv
  match fs, h with
  | [], _ => simp at hv
  | [(a, x)], h =>
    have ha : a = "past" := by simpa [insNames] using h
    subst ha
    match i, hi, hv with
    | 0, hi, hv =>
      simp at hv hi
      simp [insNames] at hi
      subst hv
      subst hi
      rfl
    | i + 1, _, hv => simp at hv
  | [(a, x), (b, y)], h =>
    have ha : a = "past" ∧ b = "notes" := by simpa [insNames] using h
    obtain ⟨rfl, rfl⟩ := ha
    match i, hi, hv with
    | 0, hi, hv =>
      simp at hv
      simp [insNames] at hi
      subst hv
      subst hi
      rfl
    | 1, hi, hv =>
      simp at hv
      simp [insNames] at hi
      subst hv
      subst hi
      rfl
    | i + 2, _, hv => simp at hv
  | _ :: _ :: _ :: _, h => simp [insNames] at h
theorem ins_len {fs : List (Str × V)} (h : fs.map (·.1) = insNames.take fs.length) : fs.length ≤ 2 := by
  have := congrArg List.length h
  rw [List.length_map, List.length_take] at this
  have : insNames.length = 2 := rfl
  omega
theorem ins_none {fs : List (Str × V)} (h : fs.map (·.1) = insNames.take fs.length) {m : Str} (hm : m ∉ insNames) : fs.lookup m = none := by
  rw [List.lookup_eq_none_iff]
  intro p hp
  have hn : p.1 ∈ insNames := by
    have : p.1 ∈ fs.map (·.1) := List.mem_map_of_mem hp
    rw [h] at this
    exact List.mem_of_mem_take this
  have : m ≠ p.1 := fun z => hm (z ▸ hn)
  simpa using this
/-- how the names stand behind a store -/
theorem ins_put {fs : List (Str × V)} (h : fs.map (·.1) = insNames.take fs.length) {i : Nat} {f : Str} (hi : insNames[i]? = some f) (hl : i ≤ fs.length) (v : V) :
    (putF f v fs).map (·.1) = insNames.take (putF f v fs).length ∧ (putF f v fs).map (·.2) = (if i < fs.length then (fs.map (·.2)).set i v else fs.map (·.2) ++ [v]) := by
  match fs, h with
  | [], _ =>
    match i, hi, hl with
    | 0, hi, _ => simp [insNames] at hi; subst hi; exact ⟨rfl, rfl⟩
    | i + 1, _, hl => simp at hl
  | [(a, x)], h =>
    have ha : a = "past" := by simpa [insNames] using h
    subst ha
    match i, hi, hl with
    | 0, hi, _ => simp [insNames] at hi; subst hi; exact ⟨rfl, rfl⟩
    | 1, hi, _ => simp [insNames] at hi; subst hi; exact ⟨rfl, rfl⟩
    | i + 2, _, hl => simp at hl
  | [(a, x), (b, y)], h =>
    have ha : a = "past" ∧ b = "notes" := by simpa [insNames] using h
    obtain ⟨rfl, rfl⟩ := ha
    match i, hi, hl with
    | 0, hi, _ => simp [insNames] at hi; subst hi; exact ⟨rfl, rfl⟩
    | 1, hi, _ => simp [insNames] at hi; subst hi; exact ⟨rfl, rfl⟩
    | i + 2, hi, _ => simp [insNames] at hi
  | _ :: _ :: _ :: _, h => simp [insNames] at h
section
variable {Γ : Gm} {H H' : Hp} {μ : List Addr} {S : Store}
theorem Ok.insAt {n : Nat} {a C : Addr} (k : Ok Γ H μ S) (e : μ[n]? = some a) (q : Kd_ H a (C + 4)) : ∃ (dx : Addr) (fs : List (Str × V)) (ws : List W), S[n]? = some ws ∧ H a = some (.ins C dx fs) ∧ fs.map (·.1) = insNames.take fs.length ∧ Rps Γ H μ (fs.map (·.2)) ws := by
  obtain ⟨o, ws, xs, us, e1, e2, en, l, r⟩ := k.at_ n a e
  obtain ⟨o', e3, q⟩ := q
  rw [e2] at e3
  cases e3
  cases o with
  | ins C' dx fs =>
    have hC : C' = C := Nat.add_right_cancel q
    subst hC
    obtain ⟨rfl, rfl, h3⟩ := en
    exact ⟨dx, fs, _, e1, e2, h3, r⟩
  | frz ob u => exact absurd q (ins_ne (kdf_le u))
  | ext φ => rcases kd_ext φ with z | z <;> (rw [z] at q; exact absurd q (ins_ne (by decide)))
  | lst xs => exact absurd q (ins_ne (show 0 ≤ 3 by decide))
  | dK kvs => exact absurd q (ins_ne (show 1 ≤ 3 by decide))
  | _ => exact absurd q (ins_ne (show 3 ≤ 3 by decide))
end
/-- the class is one of one's own -/
structure ClsG (K : PySem.W.Frag) (mg : Str → Option Value) : Prop where
  c : ∀ C, mg "Gallery" = some (.ref C) → Cls K C
  past : ∀ C, mg "Gallery" = some (.ref C) → NoAttr K C "past"
  notes : ∀ C, mg "Gallery" = some (.ref C) → NoAttr K C "notes"
theorem ClsG.no {K : PySem.W.Frag} {mg : Str → Option Value} (T : ClsG K mg) {i : Nat} {f : Str} (hi : insNames[i]? = some f) {C : Addr} (hC : mg "Gallery" = some (.ref C)) : NoAttr K C f := by
  match i, hi with
  | 0, hi => simp [insNames] at hi; subst hi; exact T.past C hC
  | 1, hi => simp [insNames] at hi; subst hi; exact T.notes C hC
  | i + 2, hi => simp [insNames] at hi
def MethG (K : PySem.W.Frag) (mg : Str → Option Value) (m : Str) (f : Addr) : Prop := ∀ C, mg "Gallery" = some (.ref C) → Meth K C m f
section
variable {X : Cx} {E : L2.St → XK} {e o value : Expr} {es : List Expr} {pos pos' apos : Pos} {f m : Str} {i k n : Nat} {d dv : DE} {da : DA}
/-! ### an attribute read, an attribute stored -/
def fldW (i : Nat) (S : Store) : W → Option W
  | .ins n => match S[n]? with
    | some ws => ws[i]?
    | none => none
  | _ => none
def dIFld (i : Nat) (d : DE) : DE := fun ρ => bnd (d ρ) fun w => rdS fun S => fldW i S w
theorem de_ifld (i : Nat) (T : ClsG X.K X.mg) (hi : insNames[i]? = some f) (h : PD X E e d) (hb : attributeBase e f X.env (eval e X.env) = eval e X.env := by rfl) : PD X E (.Attribute e f pos) (dIFld i d) := pe_of (pe_fld h hb) fun σ H Q ⟨δ, μ, S, ρ, k, s, h⟩ =>
  ⟨δ, μ, S, ρ, k, s, Res.step h fun w S1 H1 μ1 g1 k1 h1 v rv => by
    unfold rdS at h1
    cases rv with
    | @ins a C n hh hq hC =>
      obtain ⟨dx, fs, ws, e1, e2, en, r⟩ := k1.insAt hh hq
      simp only [fldW, e1] at h1
      cases e3 : ws[i]? with
      | none => rw [e3] at h1; exact h1.elim
      | some u =>
        rw [e3] at h1
        obtain ⟨y, ey, ry⟩ := r.getW e3
        exact ⟨a, C, dx, fs, y, rfl, e2, T.c C hC, T.no hi hC, ins_names en hi ey, Res.now k1 h1 y ry⟩
    | _ => exact h1.elim⟩
def putI (i : Nat) (o w : W) : Mo Unit := fun S => match o with
  | .ins n => (match S[n]? with
    | some ws => if i < ws.length then .ok () (S.set n (ws.set i w)) else if i = ws.length then .ok () (S.set n (ws ++ [w])) else .bad
    | none => .bad)
  | _ => .bad
def sIFld (i : Nat) (d dv : DE) : DS := fun ρ => lft (dv ρ) ρ fun w => lft (d ρ) ρ fun o => lft (putI i o w) ρ fun _ => ret (.nx ρ)
theorem ds_ifld (i : Nat) (T : ClsG X.K X.mg) (hi : insNames[i]? = some f) (ha : PD X E o d) (hv : PD X E value dv) (hs : swapsWith value (some (.Attribute o f pos')) pos.line X.env = pure false := by rfl) : PDS X E (.Assign [.Attribute o f pos'] value pos) (sIFld i d dv) := ps_of (ps_fld ha hv hs) fun D σ H ⟨δ, μ, S, ρ, k, s, h⟩ =>
  ⟨δ, μ, S, ρ, k, s, ResS.step s h fun w S1 H1 μ1 g1 k1 h1 v rv => ⟨δ, μ1, S1, ρ, k1, rσ_gr g1 s, ResS.step (rσ_gr g1 s) h1 fun ow S2 H2 μ2 g2 k2 h2 u ru => by
    cases ru with
    | @ins a C n hh hq hC =>
      obtain ⟨dx, fs, ws, e1, e2, en, r⟩ := k2.insAt hh hq
      have rv2 := rv.gr g2
      have fl := ins_len en
      have wl : ws.length = fs.length := by rw [← r.len, List.length_map]
      have hin : i ≤ fs.length → ∃ ws', lft (putI i (.ins n) w) ρ (fun _ => ret (.nx ρ)) S2 = .ok (.nx ρ) (S2.set n ws') ∧ Rps ⟨X.K, X.mg, δ⟩ H2 μ2 ((putF f v fs).map (·.2)) ws' := fun hl => by
        obtain ⟨_, p2⟩ := ins_put en hi hl v
        rw [p2]
        by_cases h0 : i < fs.length
        · rw [if_pos h0]
          exact ⟨ws.set i w, by simp [lft, putI, e1, wl, h0, ret], r.set i rv2⟩
        · rw [if_neg h0]
          have : i = ws.length := by omega
          exact ⟨ws ++ [w], by simp [lft, putI, e1, this, ret], r.app (.cons rv2 .nil)⟩
      by_cases hl : i ≤ fs.length
      · obtain ⟨ws', hp, rp⟩ := hin hl
        rw [hp] at h2
        obtain ⟨p1, _⟩ := ins_put en hi hl v
        obtain ⟨k3, g3⟩ := k2.setO hh (o := .ins C dx (putF f v fs)) hq (fun q u z => by rw [e2] at z; cases z) (ws := ws') ⟨rfl, rfl, p1⟩ (by have := ins_len p1; rw [List.length_map]; exact Nat.le_trans this (by decide)) rp
        exact ⟨a, C, dx, fs, rfl, e2, T.c C hC, T.no hi hC, by omega, h2 _ _ g3 k3 σ (rσ_gr (g1.trans (g2.trans g3)) s)⟩
      · have : lft (putI i (.ins n) w) ρ (fun _ => ret (.nx ρ)) S2 = .bad := by
          have h1 : ¬ i < ws.length := by omega
          have h2 : ¬ i = ws.length := by omega
          simp [lft, putI, e1, h1, h2]
        rw [this] at h2
        exact h2.elim
    | _ => exact h2.elim⟩⟩
/-! ### a method called -/
theorem run_fnS {CX : CXT} {fa : Addr} {fd : FuncData} {ps : List Str} {sp : Sp} {pins : List (Addr × Obj)} {σ : L2.St} {H : Hp} {s : Shared} {Q : VK} {us : List Value} {vs : List V} (F : FnOk X.prog X.w X.K X.mg X.base CX k fa fd ps sp) (hr : Room k X.A) (hb : Binds X.K fd ps []) (hx : ∀ σ, PassesAt CX X σ (E σ))
    (I : Inv X pins σ H s) (r : Vals vs us) (h : sp vs H Q (E σ)) : wpAny (model X.prog X.w) X.A (call (.ref fa) us) (EP X pins σ Q) X.xe s := by
  have hl : (us ++ []).length = ps.length := by rw [List.append_nil, ← r.length]; exact F.len _ _ _ _ h
  have hbb := hb s us I.kIn hl
  rw [List.append_nil] at hbb
  refine wpAny_call (codeAny_mono (F.run X.A X.stack s H ⟨us, []⟩ us vs Q (E σ) hr I.env0 hbb r h) fun r s' hq => ?_)
  match r, hq with
  | .error e, hq => exact hx σ pins H s e s' I hq
  | .ok (.ret u), hq => exact I.after hq
  | .ok .next, hq => exact False.elim hq
  | .ok .brk, hq => exact False.elim hq
  | .ok .cont, hq => exact False.elim hq
def tMethS (C : Addr) (m : Str) (sp : Sp) (E : L2.St → XK) (ta : TE) (t : TA) : TE := fun σ H Q => ta σ H fun x H1 => ∃ a dx fs, x = .ref a ∧ H1 a = some (.ins C dx fs) ∧ fs.lookup m = none ∧ t σ H1 fun vs H2 => sp (x :: vs) H2 Q (E σ)
theorem pe_methS {CX : CXT} {C fa : Addr} {fd : FuncData} {ps : List Str} {sp : Sp} {ta : TE} {t : TA} {pl : Sem Bool} (he : PE X o ta) (c : Cls X.K C) (hm : Meth X.K C m fa) (F : FnOk X.prog X.w X.K X.mg X.base CX k fa fd ps sp) (hr : Room k X.A) (hb : Binds X.K fd ps []) (hx : ∀ σ, PassesAt CX X σ (E σ)) (ha : PA X (e :: es) t)
    (hst : starEach (e :: es) X.env = (false, eval e X.env) :: starEach es X.env) (hpl : (backTo pos (starEach es X.env)).any (·.1) = false)
    (ht : eval (.Call (.Attribute o m apos) (e :: es) [] pos) X.env = (do
      let ov ← eval o X.env
      standAt apos.atName
      let (f, first) ← holding [ov] (getMethod ov m pl)
      callWith pos f first (backTo pos (starEach (e :: es) X.env)) (backToKw pos (keywordEach [] X.env)))) :
    PE X (.Call (.Attribute o m apos) (e :: es) [] pos) (tMethS C m sp E ta t) := by
  refine ⟨fun pins s σ H Q I h => ?_⟩
  refine PySem.W.methodCall_KW (pl := pl) (thn (he.run pins s σ H _ I h) fun u s1 ⟨x, H1, I1, rx, a, dx, fs, ex, ea, l, q⟩ => ?_) ht
  subst ex
  obtain rfl : u = Value.ref a := rx
  refine getmeth_ok I1 ea c hm l ?_
  refine PySem.W.callWith_K (first := [.ref a]) (h₀ := X.base) I.ok.mod.kin hm.kp (thn (ha.run pos pins s1 σ H1 _ I1 q) fun us s2 ⟨vs, H2, I2, r, q2⟩ => ⟨I2.kIn, ?_⟩) hst hpl
  exact run_fnS (us := .ref a :: us) (vs := .ref a :: vs) F hr hb hx I2 (.cons rfl r) q2
theorem pe_methS0 {CX : CXT} {C fa : Addr} {fd : FuncData} {ps : List Str} {sp : Sp} {ta : TE} {pl : Sem Bool} (he : PE X o ta) (c : Cls X.K C) (hm : Meth X.K C m fa) (F : FnOk X.prog X.w X.K X.mg X.base CX k fa fd ps sp) (hr : Room k X.A) (hb : Binds X.K fd ps []) (hx : ∀ σ, PassesAt CX X σ (E σ))
    (ht : eval (.Call (.Attribute o m apos) [] [] pos) X.env = (do
      let ov ← eval o X.env
      standAt apos.atName
      let (f, first) ← holding [ov] (getMethod ov m pl)
      callWith pos f first (backTo pos (starEach [] X.env)) (backToKw pos (keywordEach [] X.env)))) :
    PE X (.Call (.Attribute o m apos) [] [] pos) (tMethS C m sp E ta tNil) := by
  refine ⟨fun pins s σ H Q I h => ?_⟩
  refine PySem.W.methodCall_KW (pl := pl) (thn (he.run pins s σ H _ I h) fun u s1 ⟨x, H1, I1, rx, a, dx, fs, ex, ea, l, q⟩ => ?_) ht
  subst ex
  obtain rfl : u = Value.ref a := rx
  refine getmeth_ok I1 ea c hm l ?_
  exact PySem.W.callWith_K0 (first := [.ref a]) I1.kIn hm.kp (run_fnS (us := [.ref a]) (vs := [.ref a]) F hr hb hx I1 (.cons rfl .nil) q)
def isIns : W → Bool
  | .ins _ => true
  | _ => false
def dMeth (n : Nat) (g : List W → Mo W) (d : DE) (da : DA) : DE := fun ρ => bnd (d ρ) fun w => if isIns w = true then bnd (da ρ) fun ws => if ws.length + 1 = n then g (w :: ws) else bad else bad
theorem meth_ok {fa : Addr} {g : List W → Mo W} {σ : L2.St} {H : Hp} {Q : VK} {G C : Addr} (hG : X.mg "Gallery" = some (.ref C)) (hmi : m ∉ insNames) (h : tOf X.K X.mg E (dMeth n g d da) σ H Q) : tMethS C m (spD X.K X.mg n g) E (tOf X.K X.mg E d) (taOf X.K X.mg E da) σ H Q := by
  obtain ⟨δ, μ, S, ρ, k, s, h⟩ := h
  refine ⟨δ, μ, S, ρ, k, s, Res.step h fun w S1 H1 μ1 g1 k1 h1 v rv => ?_⟩
  cases rv with
  | @ins a C' j hh hq hC =>
    have hC2 : X.mg "Gallery" = some (.ref C') := hC
    have : C' = C := by rw [hG] at hC2; injection hC2 with hC2; injection hC2 with hC2; exact hC2.symm
    subst this
    obtain ⟨dx, fs, ws, e1, e2, en, r⟩ := k1.insAt hh hq
    have h1 : Res ⟨X.K, X.mg, δ⟩ (E σ) H1 μ1 (bnd (da ρ) (fun ws => if ws.length + 1 = n then g (.ins j :: ws) else bad) S1) _ := h1
    refine ⟨a, dx, fs, rfl, e2, ins_none en hmi, δ, μ1, S1, ρ, k1, rσ_gr g1 s, Res.step h1 fun us S2 H2 μ2 g2 k2 h2 vs rs => ?_⟩
    by_cases hn : us.length + 1 = n
    · rw [if_pos hn] at h2
      exact ⟨by rw [List.length_cons, rs.len]; exact hn, δ, μ2, S2, .ins j :: us, k2, .cons ((Rp.ins hh hq hC).gr g2) rs, h2⟩
    · rw [if_neg hn] at h2
      exact h2.elim
  | _ => exact h1.elim
theorem de_meth {fa : Addr} {fd : FuncData} {ps : List Str} {g : List W → Mo W} {C : Addr} {pl : Sem Bool} (hG : X.mg "Gallery" = some (.ref C)) (T : ClsG X.K X.mg) (hm : MethG X.K X.mg m fa) (hmi : m ∉ insNames) (F : FnOk X.prog X.w X.K X.mg X.base (L2.CX X.prog X.w) k fa fd ps (spD X.K X.mg n g)) (hr : Room k X.A) (hb : Binds X.K fd ps []) (hx : PX X E) (ho : PD X E o d) (ha : PDA X E (e :: es) da)
    (hst : starEach (e :: es) X.env = (false, eval e X.env) :: starEach es X.env := by rfl) (hpl : (backTo pos (starEach es X.env)).any (·.1) = false := by rfl)
    (ht : eval (.Call (.Attribute o m apos) (e :: es) [] pos) X.env = (do
      let ov ← eval o X.env
      standAt apos.atName
      let (f, first) ← holding [ov] (getMethod ov m pl)
      callWith pos f first (backTo pos (starEach (e :: es) X.env)) (backToKw pos (keywordEach [] X.env))) := by rfl) :
    PD X E (.Call (.Attribute o m apos) (e :: es) [] pos) (dMeth n g d da) := pe_of (pe_methS ho (T.c C hG) (hm C hG) F hr hb hx ha hst hpl ht) fun σ H Q h => meth_ok (fa := fa) (G := C) hG hmi h
theorem de_meth0 {fa : Addr} {fd : FuncData} {ps : List Str} {g : List W → Mo W} {C : Addr} {pl : Sem Bool} (hG : X.mg "Gallery" = some (.ref C)) (T : ClsG X.K X.mg) (hm : MethG X.K X.mg m fa) (hmi : m ∉ insNames) (F : FnOk X.prog X.w X.K X.mg X.base (L2.CX X.prog X.w) k fa fd ps (spD X.K X.mg n g)) (hr : Room k X.A) (hb : Binds X.K fd ps []) (hx : PX X E) (ho : PD X E o d)
    (ht : eval (.Call (.Attribute o m apos) [] [] pos) X.env = (do
      let ov ← eval o X.env
      standAt apos.atName
      let (f, first) ← holding [ov] (getMethod ov m pl)
      callWith pos f first (backTo pos (starEach [] X.env)) (backToKw pos (keywordEach [] X.env))) := by rfl) :
    PD X E (.Call (.Attribute o m apos) [] [] pos) (dMeth n g d dNil) := pe_of (pe_methS0 ho (T.c C hG) (hm C hG) F hr hb hx ht) fun σ H Q h => by
  obtain ⟨δ, μ, S, ρ, k, s, h⟩ := meth_ok (fa := fa) (G := C) hG hmi h
  refine ⟨δ, μ, S, ρ, k, s, ?_⟩
  unfold Res at h ⊢
  cases e1 : d ρ S with
  | bad => rw [e1] at h; exact h
  | err _ _ _ _ => rw [e1] at h; exact h
  | ok w S1 =>
    rw [e1] at h
    intro H1 μ1 g1 k1 v rv
    obtain ⟨a, dx, fs, e2, e3, e4, δ2, μ2, S2, ρ2, k2, s2, h2⟩ := h H1 μ1 g1 k1 v rv
    exact ⟨a, dx, fs, e2, e3, e4, Res.now k2 h2 [] .nil⟩
end
end Den

namespace Den
open PySem PySem.Spec PyProof.Rows L2 Bal
/-! ### an instance made, arguments by names too -/
section
variable {X : Cx} {E : L2.St → XK} {e o : Expr} {es : List Expr} {kws : List Keyword} {p pos apos : Pos} {m x : Str} {k n l : Nat} {d : DE} {da dk : DA} {π : List Nat} {ks : List Str} {fa C : Addr} {fd : FuncData} {ps : List Str} {g : List W → Mo W}
abbrev noX : XK := fun _ _ _ => False
theorem pas0 : Passes (L2.CX X.prog X.w) X noX := fun pins σ H s e s' I h => by
  obtain ⟨_, _, _, _, _, _, _, _, _, _, _, _, z⟩ := h
  exact z.elim
/-! a method, arguments by names -/
theorem run_fnK {CX : CXT} {sp : Sp} {gl : List Value → List Value → List Value} {gV : List V → List V → List V} {pins : List (Addr × Obj)} {σ : L2.St} {H : Hp} {s : Shared} {Q : VK} {us ws : List Value} {vs zs : List V} (F : FnOk X.prog X.w X.K X.mg X.base CX k fa fd ps sp) (hr : Room k X.A) (hb : KBn X.K fd ps n ks gl gV) (hx : ∀ σ, PassesAt CX X σ (E σ))
    (I : Inv X pins σ H s) (r : Vals vs us) (rz : Vals zs ws) (l1 : vs.length = n) (l2 : zs.length = ks.length) (q2 : sp (gV vs zs) H Q (E σ)) : wpAny (model X.prog X.w) X.A (call (.ref fa) us (ks.zip ws)) (EP X pins σ Q) X.xe s := by
  refine wpAny_call (codeAny_mono (F.run X.A X.stack s H ⟨us, ks.zip ws⟩ (gl us ws) (gV vs zs) Q (E σ) hr I.env0 (hb.to s us ws I.kIn (r.length.symm.trans l1) (rz.length.symm.trans l2)) (hb.rel r rz) q2) fun r s' hq => ?_)
  match r, hq with
  | .error e, hq => exact hx σ pins H s e s' I hq
  | .ok (.ret u), hq => exact I.after hq
  | .ok .next, hq => exact False.elim hq
  | .ok .brk, hq => exact False.elim hq
  | .ok .cont, hq => exact False.elim hq
def tMethNS (C : Addr) (m : Str) (n l : Nat) (sp : Sp) (gV : List V → List V → List V) (E : L2.St → XK) (ta : TE) (t tk : TA) : TE := fun σ H Q => ta σ H fun x H1 => ∃ a dx fs, x = .ref a ∧ H1 a = some (.ins C dx fs) ∧ fs.lookup m = none ∧ t σ H1 fun vs H2 => tk σ H2 fun zs H3 => vs.length = n ∧ zs.length = l ∧ sp (gV (x :: vs) zs) H3 Q (E σ)
theorem pe_methNS {CX : CXT} {sp : Sp} {ta : TE} {t tk : TA} {pl : Sem Bool} {gl : List Value → List Value → List Value} {gV : List V → List V → List V} (he : PE X o ta) (c : Cls X.K C) (hm : Meth X.K C m fa) (F : FnOk X.prog X.w X.K X.mg X.base CX k fa fd ps sp) (hr : Room k X.A) (hb : KBn X.K fd ps (n + 1) ks gl gV) (hx : ∀ σ, PassesAt CX X σ (E σ)) (ha : PA X (e :: es) t) (hkw : PK X kws tk)
    (hall : (backToKw pos (keywordEach kws X.env)).all (·.1.isSome) = true) (hks : (backToKw pos (keywordEach kws X.env)).filterMap (·.1) = ks)
    (hst : starEach (e :: es) X.env = (false, eval e X.env) :: starEach es X.env) (hpl : ((backTo pos (starEach (e :: es) X.env)).any (·.1) || (backToKw pos (keywordEach kws X.env)).any (·.1.isNone)) = false)
    (ht : eval (.Call (.Attribute o m apos) (e :: es) kws pos) X.env = (do
      let ov ← eval o X.env
      standAt apos.atName
      let (f, first) ← holding [ov] (getMethod ov m pl)
      callWith pos f first (backTo pos (starEach (e :: es) X.env)) (backToKw pos (keywordEach kws X.env)))) :
    PE X (.Call (.Attribute o m apos) (e :: es) kws pos) (tMethNS C m n ks.length sp gV E ta t tk) := by
  refine ⟨fun pins s σ H Q I h => ?_⟩
  refine PySem.W.methodCall_KW (pl := pl) (thn (he.run pins s σ H _ I h) fun u s1 ⟨x, H1, I1, rx, a, dx, fs, ex, ea, l, q⟩ => ?_) ht
  subst ex
  obtain rfl : u = Value.ref a := rx
  refine getmeth_ok I1 ea c hm l ?_
  refine PySem.W.callWith_KW (first := [.ref a]) (h₀ := X.base) I.ok.mod.kin hm.kp hall (thn (ha.run pos pins s1 σ H1 _ I1 q) fun us s2 ⟨vs, H2, I2, r, q⟩ => ?_) hpl hst
  refine thn (hkw.run pos pins s2 σ H2 _ I2 q) fun ws s3 ⟨zs, H3, I3, rz, l1, l2, q2⟩ => ⟨I3.kIn, ?_⟩
  rw [hks]
  exact run_fnK (us := .ref a :: us) (vs := .ref a :: vs) F hr hb hx I3 (.cons rfl r) rz (by rw [List.length_cons, l1]) l2 q2
def dMethK (n m l : Nat) (π : List Nat) (g : List W → Mo W) (d : DE) (da dk : DA) : DE := fun ρ => bnd (d ρ) fun w => if isIns w = true then bnd (da ρ) fun us => bnd (dk ρ) fun ws => if us.length = n ∧ ws.length = m ∧ (gp π (w :: (us ++ ws))).length = l then g (gp π (w :: (us ++ ws))) else bad else bad
theorem methK_ok {q : Nat} {σ : L2.St} {H : Hp} {Q : VK} (hG : X.mg "Gallery" = some (.ref C)) (hmi : m ∉ insNames) (h : tOf X.K X.mg E (dMethK n q l π g d da dk) σ H Q) : tMethNS C m n q (spD X.K X.mg l g) (fun us ws => gp π (us ++ ws)) E (tOf X.K X.mg E d) (taOf X.K X.mg E da) (taOf X.K X.mg E dk) σ H Q := by
  obtain ⟨δ, μ, S, ρ, k, s, h⟩ := h
  refine ⟨δ, μ, S, ρ, k, s, Res.step h fun w S1 H1 μ1 g1 k1 h1 v rv => ?_⟩
  cases rv with
  | @ins a C' j hh hq hC =>
    have hC2 : X.mg "Gallery" = some (.ref C') := hC
    have : C' = C := by rw [hG] at hC2; injection hC2 with hC2; injection hC2 with hC2; exact hC2.symm
    subst this
    obtain ⟨dx, fs, ws, e1, e2, en, r⟩ := k1.insAt hh hq
    have h1 : Res ⟨X.K, X.mg, δ⟩ (E σ) H1 μ1 (bnd (da ρ) (fun us => bnd (dk ρ) fun ws => if us.length = n ∧ ws.length = q ∧ (gp π (.ins j :: (us ++ ws))).length = l then g (gp π (.ins j :: (us ++ ws))) else bad) S1) _ := h1
    refine ⟨a, dx, fs, rfl, e2, ins_none en hmi, δ, μ1, S1, ρ, k1, rσ_gr g1 s, Res.step h1 fun us S2 H2 μ2 g2 k2 h2 vs rs => ⟨δ, μ2, S2, ρ, k2, rσ_gr (g1.trans g2) s, Res.step h2 fun ws S3 H3 μ3 g3 k3 h3 zs rz => ?_⟩⟩
    by_cases hn : us.length = n ∧ ws.length = q ∧ (gp π (.ins j :: (us ++ ws))).length = l
    · rw [if_pos hn] at h3
      have r2 := gp_rps (Rps.cons (((Rp.ins hh hq hC).gr g2).gr g3) (rps_app (rs.gr g3) rz)) π
      exact ⟨rs.len.trans hn.1, rz.len.trans hn.2.1, r2.len.trans hn.2.2, δ, μ3, S3, _, k3, r2, h3⟩
    · rw [if_neg hn] at h3
      exact h3.elim
  | _ => exact h1.elim
theorem de_methM {pl : Sem Bool} (hG : X.mg "Gallery" = some (.ref C)) (T : ClsG X.K X.mg) (hm : MethG X.K X.mg m fa) (hmi : m ∉ insNames) (F : FnOk X.prog X.w X.K X.mg X.base (L2.CX X.prog X.w) k fa fd ps (spD X.K X.mg l g)) (hr : Room k X.A) (hb : KBn X.K fd ps (n + 1) ks (fun us ws => gp π (us ++ ws)) (fun us ws => gp π (us ++ ws))) (hx : PX X E) (ho : PD X E o d) (ha : PDA X E (e :: es) da) (hkw : PDK X E kws dk)
    (hall : (backToKw pos (keywordEach kws X.env)).all (·.1.isSome) = true := by rfl) (hks : (backToKw pos (keywordEach kws X.env)).filterMap (·.1) = ks := by rfl)
    (hst : starEach (e :: es) X.env = (false, eval e X.env) :: starEach es X.env := by rfl) (hpl : ((backTo pos (starEach (e :: es) X.env)).any (·.1) || (backToKw pos (keywordEach kws X.env)).any (·.1.isNone)) = false := by rfl)
    (ht : eval (.Call (.Attribute o m apos) (e :: es) kws pos) X.env = (do
      let ov ← eval o X.env
      standAt apos.atName
      let (f, first) ← holding [ov] (getMethod ov m pl)
      callWith pos f first (backTo pos (starEach (e :: es) X.env)) (backToKw pos (keywordEach kws X.env))) := by rfl) :
    PD X E (.Call (.Attribute o m apos) (e :: es) kws pos) (dMethK n ks.length l π g d da dk) := pe_of (pe_methNS ho (T.c C hG) (hm C hG) F hr hb hx ha hkw hall hks hst hpl ht) fun σ H Q h => methK_ok hG hmi h
end
end Den

namespace Den
open PySem PySem.Spec PyProof.Rows L2 Bal
/-! ### len, repr and == of an instance, by its class's own -/
section
variable {X : Cx} {E : L2.St → XK} {e a b : Expr} {p pos : Pos} {k : Nat} {d da db : DE} {fa C : Addr} {fd : FuncData} {ps : List Str} {g : List W → Mo W} {sp : Sp}
theorem run_sub {A : Around} {CX : CXT} {pins : List (Addr × Obj)} {σ : L2.St} {H : Hp} {s : Shared} {us : List Value} {vs : List V} {Q : VK} (sb : Sub X k A) (F : FnOk X.prog X.w X.K X.mg X.base CX k fa fd ps sp) (hb : Binds X.K fd ps []) (hx : Passes CX X noX) (I : Inv X pins σ H s) (r : Vals vs us) (h : sp vs H Q noX) : wpAny (model X.prog X.w) A (call (.ref fa) us) (EP X pins σ Q) X.xe s := by
  have e0 : Env0 X.prog X.w X.K X.mg X.base A X.stack s H := by
    have e := I.env0
    exact ⟨by rw [sb.fr]; exact e.frames, e.mod, e.bs, e.bsz, e.funs, e.frf, e.hok, e.bare⟩
  have hl : (us ++ []).length = ps.length := by rw [List.append_nil, ← r.length]; exact F.len _ _ _ _ h
  have hbb := hb s us I.kIn hl
  rw [List.append_nil] at hbb
  refine wpAny_call (codeAny_mono (F.run A X.stack s H ⟨us, []⟩ us vs Q noX sb.room e0 hbb r h) fun r s' hq => ?_)
  match r, hq with
  | .error e, hq => exact hx pins σ H s e s' I hq
  | .ok (.ret u), hq => exact I.after hq
  | .ok .next, hq => exact False.elim hq
  | .ok .brk, hq => exact False.elim hq
  | .ok .cont, hq => exact False.elim hq
def rReprI (C : Addr) (sp : Sp) : List V → Hp → VK → Prop := fun vs H Q => ∃ a dx fs, vs = [.ref a] ∧ H a = some (.ins C dx fs) ∧ sp [.ref a] H (fun v H' => ∃ x, v = .str x ∧ Q (.str x) H') noX
theorem cr_reprI (F : FnOk X.prog X.w X.K X.mg X.base (L2.CX X.prog X.w) k fa fd ps sp) (hr : Room (k + 1) X.A) (hb : Binds X.K fd ps []) (hm : Meth X.K C "__repr__" fa) : CallR X (.builtin "repr") (rReprI C sp) := by
  intro pins s σ H vs us Q I r h
  obtain ⟨a, dx, fs, rfl, ha, q⟩ := h
  obtain ⟨u, rfl, ru⟩ := vals1 r
  obtain rfl : u = Value.ref a := ru
  obtain ⟨mA, J, _⟩ := ins_get I.hok ha
  obtain ⟨od, J, _⟩ := J.look
  obtain ⟨m, hF⟩ := I.fr
  refine PySem.W.repr_K hr.in1.units0 hF I.ok.mod.kin J hm.at_ hm.fn (wpAny_mono (run_sub (us := [.ref a]) (vs := [.ref a]) ⟨hr.in1, rfl⟩ F hb pas0 I (.cons rfl .nil) q) (fun u s' z => ?_) fun _ _ x => x)
  obtain ⟨v, H', I', rv, n, rfl, q2⟩ := z
  obtain ⟨t, rfl⟩ := (show ∃ t, u = Value.str n t from rv)
  exact ⟨.str n, H', I', ⟨_, rfl⟩, q2⟩
def dReprI (g : List W → Mo W) (d : DE) : DE := fun ρ => bnd (d ρ) fun w S => if isIns w = true then (match g [w] S with
  | .ok (.str x) S' => .ok (.str x) S'
  | _ => .bad) else .bad
theorem de_reprI (hG : X.mg "Gallery" = some (.ref C)) (hm : MethG X.K X.mg "__repr__" fa) (F : FnOk X.prog X.w X.K X.mg X.base (L2.CX X.prog X.w) k fa fd ps (spD X.K X.mg 1 g)) (hr : Room (k + 1) X.A) (hb : Binds X.K fd ps []) (hg : Gl X "repr") (hml : X.mg "repr" = none) (ha : PD X E e d)
    (he : starEach [e] X.env = (false, eval e X.env) :: starEach [] X.env := by rfl) (hpl : (backTo pos (starEach [] X.env)).any (·.1) = false := by rfl) : PD X E (.Call (.Name "repr" p) [e] [] pos) (dReprI g d) := pe_of (pe_callB (cr_reprI F hr hb (hm C hG)) hg hml (by decide +kernel) (pa_cons ha pa_nil he) (by decide) (by decide) he hpl) fun σ H Q ⟨δ, μ, S, ρ, k, s, h⟩ =>
  ⟨δ, μ, S, ρ, k, s, Res.step h fun w S1 H1 μ1 g1 k1 h1 v rv => by
    cases rv with
    | @ins a C' j hh hq hC =>
      have hC2 : X.mg "Gallery" = some (.ref C') := hC
      have : C' = C := by rw [hG] at hC2; injection hC2 with hC2; injection hC2 with hC2; exact hC2.symm
      subst this
      obtain ⟨dx, fs, ws, e1, e2, en, r⟩ := k1.insAt hh hq
      refine ⟨a, dx, fs, rfl, e2, rfl, δ, μ1, S1, [.ins j], k1, .cons (.ins hh hq hC) .nil, ?_⟩
      have h1 : Res ⟨X.K, X.mg, δ⟩ (E σ) H1 μ1 (match g [.ins j] S1 with
        | Out.ok (W.str x) S' => Out.ok (W.str x) S'
        | _ => Out.bad) _ := h1
      cases eg : g [.ins j] S1 with
      | bad => rw [eg] at h1; exact h1.elim
      | err _ _ _ _ => rw [eg] at h1; exact h1.elim
      | ok u S2 =>
        rw [eg] at h1
        cases u with
        | str n =>
          exact fun H2 μ2 g2 k2 v rv => by
            cases rv
            exact ⟨n, rfl, h1 H2 μ2 g2 k2 _ (.str n)⟩
        | _ => exact h1.elim
    | _ => exact h1.elim⟩
/-! == -/
end
end Den

namespace Den
open PySem PySem.Spec PyProof.Rows L2 Bal
/-! ### texts: f'..', x + y; == of instances; isinstance of one -/
section
variable {X : Cx} {E : L2.St → XK} {e a b : Expr} {es : List Expr} {p pos : Pos} {k : Nat} {d da db : DE} {ds : List DE} {fa C : Addr} {fd : FuncData} {ps : List Str} {g : List W → Mo W}
def fmtW : W → Option W
  | .str y => if szB y.length = true then some (.str y) else none
  | .int i => if decide (i.natAbs.log2 < 1920) = true then some (.str (toString i)) else none
  | _ => none
def dFmt (d : DE) : DE := fun ρ => bnd (d ρ) fun w => rdS fun _ => fmtW w
theorem de_fmt (h : PD X E e d) : PD X E (.FormattedValue e (-1) none pos) (dFmt d) := pe_of (pe_fmt h) fun σ H Q ⟨δ, μ, S, ρ, k, s, h⟩ =>
  ⟨δ, μ, S, ρ, k, s, Res.step h fun w S1 H1 μ1 g1 k1 h1 v rv => by
    unfold rdS at h1
    cases rv with
    | str y =>
      by_cases hz : szB y.length = true
      · simp only [fmtW, hz, if_true] at h1
        exact .inl ⟨y, rfl, sz_ok hz, Res.now k1 h1 _ (.str y)⟩
      · simp only [fmtW, hz, if_false] at h1
        exact h1.elim
    | int i =>
      by_cases hz : decide (i.natAbs.log2 < 1920) = true
      · simp only [fmtW, hz, if_true] at h1
        exact .inr ⟨i, rfl, of_decide_eq_true hz, Res.now k1 h1 _ (.str _)⟩
      · simp only [fmtW, hz, if_false] at h1
        exact h1.elim
    | _ => exact h1.elim⟩
def jsL : List DE → Str → En → Mo Str
  | [], acc, _ => ret acc
  | d :: ds, acc, ρ => bnd (d ρ) fun w S => match w with
    | .str y => if szB (acc ++ y).length = true then jsL ds (acc ++ y) ρ S else .bad
    | _ => .bad
def dJs (ds : List DE) : DE := fun ρ => bnd (jsL ds Str.empty ρ) fun out => ret (.str out)
inductive PDJ (X : Cx) (E : L2.St → XK) : List Expr → List DE → Prop where
  | nil : PDJ X E [] []
  | cons {e : Expr} {d : DE} {es : List Expr} {ds : List DE} (h : PD X E e d) (r : PDJ X E es ds) : PDJ X E (e :: es) (d :: ds)
theorem PDJ.pj (h : PDJ X E es ds) : PJ X es (ds.map (tOf X.K X.mg E)) := by
  induction h with
  | nil => exact .nil
  | cons h _ ih => exact .cons h ih
theorem js_ok {K : PySem.W.Frag} {mg : Str → Option Value} {δ : List Addr} {σ : L2.St} {ρ : En} : ∀ (ds : List DE) (acc : Str) {H : Hp} {μ : List Addr} {S : Store} {Q : Str → Hp → Prop}, Ok ⟨K, mg, δ⟩ H μ S → Rσ ⟨K, mg, δ⟩ H μ σ ρ → Res ⟨K, mg, δ⟩ (E σ) H μ (jsL ds acc ρ S) (fun out H' _ _ => Q out H') → tJs (ds.map (tOf K mg E)) acc σ H Q
  | [], acc, H, μ, S, Q, k, s, h => Res.now k h
  | d :: ds, acc, H, μ, S, Q, k, s, h => ⟨δ, μ, S, ρ, k, s, Res.step h fun w S1 H1 μ1 g1 k1 h1 v rv => by
    cases rv with
    | str y =>
      by_cases hz : szB (acc ++ y).length = true
      · simp only [hz, if_true] at h1
        exact ⟨y, rfl, sz_ok hz, js_ok ds (acc ++ y) k1 (rσ_gr g1 s) h1⟩
      · simp only [hz, if_false] at h1
        exact h1.elim
    | _ => exact h1.elim⟩
theorem de_joined {v1 v2 : Expr} {rest : List Expr} (h : PDJ X E (v1 :: v2 :: rest) ds) : PD X E (.JoinedStr (v1 :: v2 :: rest) pos) (dJs ds) := pe_of (pe_joined h.pj) fun σ H Q ⟨δ, μ, S, ρ, k, s, h⟩ =>
  js_ok ds Str.empty k s (Res.step h fun out S1 H1 μ1 g1 k1 h1 => Res.now k1 h1 _ (.str out))
end
section
variable {X : Cx} {E : L2.St → XK} {e a b c : Expr} {p pos : Pos} {k : Nat} {d da db : DE} {fa C : Addr} {fd : FuncData} {ps : List Str} {g : List W → Mo W}
/-- what isinstance asks of the class -/
structure ClsK (K : PySem.W.Frag) (mg : Str → Option Value) : Prop where
  cl : ∀ C, mg "Gallery" = some (.ref C) → PySem.W.findIn K (.ref C) "__class__" = some (some (.builtin "object.__class__"))
  mro : ∀ C, mg "Gallery" = some (.ref C) → PySem.W.mroIn K C (.type "object") = some true
  gs : PySem.W.specialIn K (.builtin "object.__class__") "__get__" = some (some (.builtin "getset_descriptor.__get__"))
  tk : PySem.W.takesIn K (.builtin "object.__class__") = some true
  kit : ∀ C, mg "Gallery" = some (.ref C) → PySem.W.kitOne K (.ref C) (.ref C) = some true
end
end Den

namespace Den
open PySem PySem.Spec PyProof.Rows L2 Bal
/-! ### xs.index(k) of texts, of truths -/
theorem vals_hold {α : Type} [DecidableEq α] [PySem.W.Datum α] {f : α → V} (rel : ∀ (h : Heap) x u, RelV (f x) u → PySem.W.Holds h u x) {h : Heap} : ∀ {ys : List α} {its : List Value}, Vals (ys.map f) its → PySem.W.HoldAll h its ys
  | [], _, r => by cases r; exact PySem.W.HoldAll.nil
  | y :: ys, _, r => by
    cases r with
    | cons a b => exact PySem.W.HoldAll.cons (rel _ _ _ a) (vals_hold rel b)
def rIdxG {α : Type} [DecidableEq α] (f : α → V) (Sq : Hp → Addr → List V → Prop) : V → List V → Hp → VK → Prop := fun x xs H Q => ∃ (a : Addr) (ys : List α) (k : α), x = .ref a ∧ xs = [f k] ∧ Sq H a (ys.map f) ∧ k ∈ ys ∧ Q (.int (ys.idxOf k : Nat)) H
section
variable {X : Cx} {α : Type} [DecidableEq α] [PySem.W.Datum α] {f : α → V}
theorem mt_idxG (rel : ∀ (h : Heap) x u, RelV (f x) u → PySem.W.Holds h u x) (hu : X.A.units + 1 + PySem.W.Datum.depth α < cLine) : MtR X "list.index" (rIdxG f (SqL X.K)) := by
  intro pins s σ H x xs v us Q I rx rs h
  obtain ⟨a, ys, k, rfl, rfl, hs, hk, q⟩ := h
  cases rx
  cases rs with
  | cons ry rt =>
    cases rt
    obtain ⟨its, r, p, hz⟩ := I.list hs
    exact PySem.W.index_list_datum p.isList (vals_hold rel r) (rel _ _ _ ry) hu (by rw [List.length_map] at hz; exact hz) hk ⟨.int (ys.idxOf k : Nat), H, I.tok _, ⟨_, rfl⟩, q⟩
theorem mt_idxGT (rel : ∀ (h : Heap) x u, RelV (f x) u → PySem.W.Holds h u x) (hu : X.A.units + 1 + PySem.W.Datum.depth α < cLine) : MtR X "tuple.index" (rIdxG f (SqT X.K)) := by
  intro pins s σ H x xs v us Q I rx rs h
  obtain ⟨a, ys, k, rfl, rfl, hs, hk, q⟩ := h
  cases rx
  cases rs with
  | cons ry rt =>
    cases rt
    obtain ⟨its, r, p, hz⟩ := I.tuple hs
    exact PySem.W.index_tuple_datum (show s.heap.IsTuple a its.toArray from p) (vals_hold rel r) (rel _ _ _ ry) hu hk ⟨.int (ys.idxOf k : Nat), H, I.tok _, ⟨_, rfl⟩, q⟩
end
theorem rel_str (h : Heap) (x : Str) (u : Value) (r : RelV (.str x) u) : PySem.W.Holds h u x := by
  obtain ⟨t, rfl⟩ := r
  exact PySem.W.holds_str x t
theorem rel_bl (h : Heap) (x : Bool) (u : Value) (r : RelV (.bl x) u) : PySem.W.Holds h u x := by
  cases r
  exact PySem.W.holds_bool x
def strT : List W → Option (List Str)
  | [] => some []
  | .str i :: ws => (strT ws).map (i :: ·)
  | _ :: _ => none
section
variable {Γ : Gm} {H : Hp} {μ : List Addr} {S : Store}
theorem strT_ok : ∀ {vs : List V} {ws : List W} {ns : List Str}, Rps Γ H μ vs ws → strT ws = some ns → vs = ns.map V.str
  | _, _, ns, .nil, e => by cases e; rfl
  | _, _, ns, .cons (w := w) (ws := ws) a b, e => by
    cases a <;> first | cases e | skip
    rename_i i
    have e : (strT ws).map (i :: ·) = some ns := e
    cases e2 : strT ws with
    | none => rw [e2] at e; cases e
    | some y =>
      rw [e2] at e
      cases e
      rw [strT_ok b e2]
      rfl
end
theorem u_less {n : Nat} (hu : n + 65 < cLine) : n + 1 + 0 < cLine := Nat.lt_of_le_of_lt (Nat.add_le_add_left (show 1 + 0 ≤ 65 by decide) n) hu
/-- xs.index(k) of texts, of truths -/
def fIdxF (S : Store) (x : W) : W → Option W
  | .str k => match (itmsS S x).bind strT with
    | some ys => if k ∈ ys then some (.int (ys.idxOf k : Nat)) else none
    | none => none
  | .bl k => match (itmsS S x).bind blT with
    | some ys => if k ∈ ys then some (.int (ys.idxOf k : Nat)) else none
    | none => none
  | _ => none
def dIdxF (d da : DE) : DE := fun ρ => bnd (d ρ) fun x => if sqB x = true then bnd (da ρ) fun y => rdS fun S => fIdxF S x y else bad
section
variable {X : Cx} {E : L2.St → XK} {o e : Expr} {apos cpos : Pos}
theorem mt_or {id : String} {r r' : V → List V → Hp → VK → Prop} (h : MtR X id r) (h' : MtR X id r') : MtR X id fun x xs H Q => r x xs H Q ∨ r' x xs H Q := fun pins s σ H x xs v us Q I rx rs z => z.elim (h pins s σ H x xs v us Q I rx rs) (h' pins s σ H x xs v us Q I rx rs)
theorem de_idxF {d da : DE} (hu : X.A.units + 65 < cLine) (ho : PD X E o d) (ha : PD X E e da) (hbase : attributeBase o "index" X.env (eval o X.env) = eval o X.env := by rfl) (hfew : ((backTo cpos (starEach [e] X.env)).all (fun x => !x.1) && (backToKw cpos (keywordEach [] X.env)).all (fun x => x.1.isSome) && decide ([e].length + ([] : List Keyword).length + (if ([] : List Keyword).isEmpty then 0 else 1) < 30)) = true := by rfl)
    (hline : (apos.endLine == cpos.line) = true := by rfl) (hs : starEach [e] X.env = (false, eval e X.env) :: starEach [] X.env := by rfl) (hplain : (backTo cpos (starEach [] X.env)).any (·.1) = false := by rfl) : PD X E (.Call (.Attribute o "index" apos) [e] [] cpos) (dIdxF d da) :=
  pe_of (pe_b2 PySem.F.slot_list_index PySem.F.type_list_index (mt_or (mt_idxG rel_str (u_less hu)) (mt_idxG rel_bl (u_less hu))) PySem.F.slot_tuple_index PySem.F.type_tuple_index (mt_or (mt_idxGT rel_str (u_less hu)) (mt_idxGT rel_bl (u_less hu))) ho (da_cons ha da_nil hs) hbase hfew hline hs hplain) fun σ H Q ⟨δ, μ, S, ρ, k, s, h⟩ =>
  ⟨δ, μ, S, ρ, k, s, Res.step h fun x S1 H1 μ1 g1 k1 h1 v rv => by
    by_cases hsq : sqB x = true
    · rw [if_pos hsq] at h1
      have fin : ∀ {S2 : Store} {H2 : Hp} {μ2 : List Addr} {y : W} {u : V}, Ok ⟨X.K, X.mg, δ⟩ H2 μ2 S2 → Rp ⟨X.K, X.mg, δ⟩ H2 μ2 u y → Res ⟨X.K, X.mg, δ⟩ (E σ) H2 μ2 (rdS (fun S => fIdxF S x y) S2) (fun w H' μ' _ => ∀ v, Rp ⟨X.K, X.mg, δ⟩ H' μ' v w → Q v H') → ∃ ws, itmsS S2 x = some ws ∧ ((∃ i ns, u = .str i ∧ strT ws = some ns ∧ i ∈ ns ∧ Q (.int (ns.idxOf i : Nat)) H2) ∨ (∃ i ns, u = .bl i ∧ blT ws = some ns ∧ i ∈ ns ∧ Q (.int (ns.idxOf i : Nat)) H2)) := fun {S2 H2 μ2 y u} k2 ru h2 => by
        obtain ⟨w, e, q⟩ := rd_ok h2
        unfold fIdxF at e
        cases ru <;> first | (cases e; done) | skip
        · rename_i i
          cases e1 : itmsS S2 x with
          | none => simp [e1] at e
          | some ws =>
            cases e2 : blT ws with
            | none => simp [e1, e2] at e
            | some ns =>
              simp only [e1, Option.bind_some, e2] at e
              by_cases hi : i ∈ ns
              · rw [if_pos hi] at e
                cases e
                exact ⟨ws, rfl, .inr ⟨i, ns, rfl, e2, hi, q _ _ Gr.refl k2 (.int _)⟩⟩
              · rw [if_neg hi] at e
                cases e
        · rename_i i
          cases e1 : itmsS S2 x with
          | none => simp [e1] at e
          | some ws =>
            cases e2 : strT ws with
            | none => simp [e1, e2] at e
            | some ns =>
              simp only [e1, Option.bind_some, e2] at e
              by_cases hi : i ∈ ns
              · rw [if_pos hi] at e
                cases e
                exact ⟨ws, rfl, .inl ⟨i, ns, rfl, e2, hi, q _ _ Gr.refl k2 (.int _)⟩⟩
              · rw [if_neg hi] at e
                cases e
      by_cases hl : lsB x = true
      · refine .inl ⟨.inl (ls_ty k1 rv hl), da_one k1 (rσ_gr g1 s) h1 fun y S2 H2 μ2 g2 k2 h2 u ru => ?_⟩
        obtain ⟨ws, e2, fin⟩ := fin k2 ru h2
        have es : lstS S2 x = itmsS S2 x := by cases x <;> first | rfl | cases hl
        obtain ⟨p, xs, rfl, h3, l3, r3⟩ := (rv.gr g2).lstS k2 (es.trans e2)
        rcases fin with ⟨i, ns, rfl, e1, hi, q⟩ | ⟨i, ns, rfl, e1, hi, q⟩
        · have e4 := strT_ok r3 e1
          rw [e4] at h3
          exact .inl ⟨p, ns, i, rfl, rfl, .inl (.inl h3), hi, q⟩
        · have e4 := blT_ok r3 e1
          rw [e4] at h3
          exact .inr ⟨p, ns, i, rfl, rfl, .inl (.inl h3), hi, q⟩
      · cases rv with
        | @tup p xs ws ht l r =>
          refine .inr ⟨?_, da_one k1 (rσ_gr g1 s) h1 fun y S2 H2 μ2 g2 k2 h2 u ru => ?_⟩
          · rcases ht with ⟨ht, _⟩ | ⟨ob, its, n, h3, h4, h5, _⟩
            · exact .inr ⟨rfl, p, xs, rfl, ht⟩
            · exact .inl (.inr (.inl ⟨rfl, ob, h3, h5, h4⟩))
          · obtain ⟨ws', e2, fin⟩ := fin k2 ru h2
            have e2 : some ws = some ws' := e2
            cases e2
            have h3 := (ht.gr g2).sq
            rcases fin with ⟨i, ns, rfl, e1, hi, q⟩ | ⟨i, ns, rfl, e1, hi, q⟩
            · rw [strT_ok r e1] at h3
              exact .inl ⟨p, ns, i, rfl, rfl, h3, hi, q⟩
            · rw [blT_ok r e1] at h3
              exact .inr ⟨p, ns, i, rfl, rfl, h3, hi, q⟩
        | cl _ _ _ _ _ => exact absurd rfl hl
        | lst _ => exact absurd rfl hl
        | _ => cases hsq
    · rw [if_neg hsq] at h1
      exact h1.elim⟩
end
end Den

namespace Den
open PySem PySem.Spec PyProof.Rows L2 Bal
/-! ### != of instances; == of an instance with anything; isinstance of anything -/
theorem mro_own {K : PySem.W.Frag} (k : Kd) (C : Addr) : PySem.W.subIn K (.type k.nm) (.ref C) = some false := by
  have key : ∀ (T : String), ((fastBuiltinMro T).elim false fun l => l.all fun v => match v with | .type _ => true | _ => false) = true → (fastBuiltinMro T).map (·.contains (Value.ref C)) = some false := fun T h => by
    cases e : fastBuiltinMro T with
    | none => rw [e] at h; cases h
    | some l =>
      rw [e] at h
      have h : (l.all fun v => match v with | .type _ => true | _ => false) = true := h
      show some (l.contains (Value.ref C)) = some false
      congr 1
      cases z : l.contains (Value.ref C) with
      | false => rfl
      | true =>
        rw [List.all_eq_true] at h
        have hm : Value.ref C ∈ l := by simpa using z
        exact absurd (h _ hm) (by simp)
  show (fastBuiltinMro k.nm).map _ = _
  refine key k.nm ?_
  cases k <;> decide +kernel
structure ClsN (K : PySem.W.Frag) (mg : Str → Option Value) : Prop where
  kc : ∀ C, mg "Gallery" = some (.ref C) → ((PySem.W.clsIn K C).isSome && PySem.W.typeIn K (.ref C) == some (.type "type")) = true
  ne : ∀ C, mg "Gallery" = some (.ref C) → PySem.W.findIn K (.ref C) "__ne__" = some (some (.builtin "object.__ne__"))
section
variable {X : Cx} {E : L2.St → XK} {e a b c : Expr} {p pos : Pos} {k : Nat} {d da db : DE} {fa C : Addr} {fd : FuncData} {ps : List Str} {g : List W → Mo W} {sp : Sp}
def dIsA (d : DE) : DE := fun ρ => bnd (d ρ) fun w => if isIns w = true then ret (.bl true) else match kdW w with
  | some _ => ret (.bl false)
  | none => bad
theorem kit_own {K : PySem.W.Frag} {mg : Str → Option Value} (T : ClsN K mg) (hC : mg "Gallery" = some (.ref C)) (k : Kd) : PySem.W.kitOne K (.type k.nm) (.ref C) = some false := by
  unfold PySem.W.kitOne
  rw [if_neg (by simp)]
  show (if ((PySem.W.clsIn K C).isSome && PySem.W.typeIn K (.ref C) == some (.type "type")) = true then PySem.W.subIn K (.type k.nm) (.ref C) else none) = _
  rw [if_pos (T.kc C hC)]
  exact mro_own k C
theorem de_isA (hG : X.mg "Gallery" = some (.ref C)) (T : ClsG X.K X.mg) (T2 : ClsK X.K X.mg) (T3 : ClsN X.K X.mg) (hc : PE X c (tC (.ref C))) (hg : Gl X "isinstance") (hm : X.mg "isinstance" = none) (ha : PD X E a d)
    (he : starEach (a :: [c]) X.env = (false, eval a X.env) :: starEach [c] X.env := by rfl) (he2 : starEach [c] X.env = (false, eval c X.env) :: starEach [] X.env := by rfl) (hpl : (backTo pos (starEach [c] X.env)).any (·.1) = false := by rfl) : PD X E (.Call (.Name "isinstance" p) [a, c] [] pos) (dIsA d) :=
  pe_of (pe_callB call_isi hg hm (by decide +kernel) (pa_cons ha (pa_cons hc pa_nil he2) he) (by decide) (by decide) he hpl) fun σ H Q ⟨δ, μ, S, ρ, k, s, h⟩ =>
  ⟨δ, μ, S, ρ, k, s, Res.step h fun w S1 H1 μ1 g1 k1 h1 v rv => by
    cases ei : isIns w with
    | true =>
      rw [ei, if_pos rfl] at h1
      cases rv with
      | @ins a' C' j hh hq hC =>
        have hC2 : X.mg "Gallery" = some (.ref C') := hC
        have : C' = C := by rw [hG] at hC2; injection hC2 with hC2; injection hC2 with hC2; exact hC2.symm
        subst this
        obtain ⟨dx, fs, ws, e1, e2, en, r⟩ := k1.insAt hh hq
        exact ⟨.ref a', .ref C', .ref C', .ref C', true, rfl, .own _, .base (.ins e2 (T.c C' hG) (T2.cl C' hG) T2.gs T2.tk (T2.mro C' hG)), T2.kit C' hG, Res.now k1 h1 _ (.bl _)⟩
      | _ => cases ei
    | false =>
      rw [ei, if_neg (by decide)] at h1
      cases e : kdW w with
      | none => rw [e] at h1; exact h1.elim
      | some n' =>
        rw [e] at h1
        exact ⟨v, .ref C, _, _, false, rfl, .own _, kd_ty k1 rv e, kit_own T3 hG n', Res.now k1 h1 _ (.bl _)⟩⟩
/-! == with anything -/
def rEqA (C : Addr) (sp : Sp) (X : Cx) : R2 := fun x y H Q => ∃ a dx fs t, x = .ref a ∧ H a = some (.ins C dx fs) ∧ (t = .ref C ∧ (∃ b dy gs, y = .ref b ∧ H b = some (.ins C dy gs)) ∨ TyX X.K H y t ∧ PySem.W.subIn X.K t (.ref C) = some false) ∧ sp [.ref a, y] H (fun v H' => ∃ z, v = .bl z ∧ Q (.bl z) H') noX
theorem op_eqA (F : FnOk X.prog X.w X.K X.mg X.base (L2.CX X.prog X.w) k fa fd ps sp) (hr : Room k X.A) (hb : Binds X.K fd ps []) (hm : Meth X.K C "__eq__" fa) : OpR X (compareOp .Eq) (rEqA C sp X) := by
  intro pins s σ H x y v u Q I rx ry h
  obtain ⟨a, dx, fs, t, rfl, ha, ht, q⟩ := h
  cases rx
  obtain ⟨mA, J, _⟩ := ins_get I.hok ha
  obtain ⟨od, J, _⟩ := J.look
  obtain ⟨m, hF⟩ := I.fr
  have fin : ∀ {tb : Value}, PySem.W.Looks (model X.prog X.w) s.heap (typeOf u) tb → PySem.W.notFirst X.K C tb = true → wpAny (model X.prog X.w) X.A (richCompare .Eq (.ref a) u) (EP X pins σ Q) X.xe s := fun {tb} L nf =>
    PySem.W.cmp_K (op := .Eq) (tb := tb) hr.units0 hF I.ok.mod.kin J L nf hm.at_ hm.fn (wpAny_mono (run_sub (us := [.ref a, u]) (vs := [.ref a, y]) ⟨hr, rfl⟩ F hb pas0 I (.cons rfl (.cons ry .nil)) q) (fun u s' z => by
      obtain ⟨v, H', I', rv, z, rfl, q2⟩ := z
      have : u = Value.bool z := rv
      subst this
      exact ⟨.bl z, H', I', rfl, q2⟩) fun _ _ x => x)
  show wpAny (model X.prog X.w) X.A (richCompare .Eq (.ref a) u) (EP X pins σ Q) X.xe s
  rcases ht with ⟨rfl, b, dy, gs, rfl, hb'⟩ | ⟨ty, hs⟩
  · cases ry
    obtain ⟨mB, J', _⟩ := ins_get I.hok hb'
    obtain ⟨od', J', _⟩ := J'.look
    exact fin J'.type (by simp [PySem.W.notFirst])
  · obtain ⟨P, Z, pp, _⟩ := kit_of I ry ty
    exact fin (Z.ty _ _ I.kIn pp) (by simp [PySem.W.notFirst, hs])
def dEqA (g : List W → Mo W) (da db : DE) : DE := fun ρ => bnd (da ρ) fun x => bnd (db ρ) fun y S => if isIns x = true then (if (isIns y || (kdW y).isSome) = true then (match g [x, y] S with
  | .ok (.bl z) S' => .ok (.bl z) S'
  | _ => .bad) else .bad) else .bad
theorem eqA_ok {σ : L2.St} {H : Hp} {Q : VK} (hG : X.mg "Gallery" = some (.ref C)) (h : tOf X.K X.mg E (dEqA g da db) σ H Q) : tOp (rEqA C (spD X.K X.mg 2 g) X) (tOf X.K X.mg E da) (tOf X.K X.mg E db) σ H Q := by
  obtain ⟨δ, μ, S, ρ, k, s, h⟩ := h
  refine ⟨δ, μ, S, ρ, k, s, Res.step h fun x S1 H1 μ1 g1 k1 h1 v rv => ⟨δ, μ1, S1, ρ, k1, rσ_gr g1 s, Res.step h1 fun y S2 H2 μ2 g2 k2 h2 u ru => ?_⟩⟩
  have rv := rv.gr g2
  cases rv with
  | @ins a C' j hh hq hC =>
    have hC2 : X.mg "Gallery" = some (.ref C') := hC
    have : C' = C := by rw [hG] at hC2; injection hC2 with hC2; injection hC2 with hC2; exact hC2.symm
    subst this
    obtain ⟨dx, fs, ws, e1, e2, en, r⟩ := k2.insAt hh hq
    cases eb : (isIns y || (kdW y).isSome) with
    | false =>
      have h2 : Res ⟨X.K, X.mg, δ⟩ (E σ) H2 μ2 (if (isIns y || (kdW y).isSome) = true then (match g [.ins j, y] S2 with
        | Out.ok (W.bl z) S' => Out.ok (W.bl z) S'
        | _ => Out.bad) else Out.bad) _ := h2
      rw [eb, if_neg (by decide)] at h2
      exact h2.elim
    | true =>
      have h2 : Res ⟨X.K, X.mg, δ⟩ (E σ) H2 μ2 (if (isIns y || (kdW y).isSome) = true then (match g [.ins j, y] S2 with
        | Out.ok (W.bl z) S' => Out.ok (W.bl z) S'
        | _ => Out.bad) else Out.bad) _ := h2
      rw [eb, if_pos rfl] at h2
      have ht : ∃ t, t = .ref C' ∧ (∃ b dy gs, u = .ref b ∧ H2 b = some (.ins C' dy gs)) ∨ TyX X.K H2 u t ∧ PySem.W.subIn X.K t (.ref C') = some false := by
        cases ei : isIns y with
        | true =>
          cases ru with
          | @ins b C'' j2 hh2 hq2 hCb =>
            have hC3 : X.mg "Gallery" = some (.ref C'') := hCb
            have : C'' = C' := by rw [hG] at hC3; injection hC3 with hC3; injection hC3 with hC3; exact hC3.symm
            subst this
            obtain ⟨dy, gs, ws2, e3, e4, en2, r2⟩ := k2.insAt hh2 hq2
            exact ⟨_, .inl ⟨rfl, b, dy, gs, rfl, e4⟩⟩
          | _ => cases ei
        | false =>
          rw [ei, Bool.false_or] at eb
          obtain ⟨n', e⟩ := Option.isSome_iff_exists.mp eb
          exact ⟨_, .inr ⟨kd_ty k2 ru e, mro_own n' C'⟩⟩
      obtain ⟨t, ht⟩ := ht
      refine ⟨a, dx, fs, t, rfl, e2, ht, rfl, δ, μ2, S2, [.ins j, y], k2, .cons (.ins hh hq hC) (.cons ru .nil), ?_⟩
      cases eg : g [.ins j, y] S2 with
      | bad => rw [eg] at h2; exact h2.elim
      | err _ _ _ _ => rw [eg] at h2; exact h2.elim
      | ok u S3 =>
        rw [eg] at h2
        cases u with
        | bl z =>
          exact fun H3 μ3 g3 k3 v rv => by
            cases rv
            exact ⟨z, rfl, h2 H3 μ3 g3 k3 _ (.bl z)⟩
        | _ => exact h2.elim
  | _ => exact h2.elim
theorem de_eqA (hG : X.mg "Gallery" = some (.ref C)) (hm : MethG X.K X.mg "__eq__" fa) (F : FnOk X.prog X.w X.K X.mg X.base (L2.CX X.prog X.w) k fa fd ps (spD X.K X.mg 2 g)) (hr : Room k X.A) (hb : Binds X.K fd ps []) (ha : PD X E a da) (hbb : PD X E b db) (hmk : behindInMarks .Eq b = false := by first | exact nomark _ | rfl) : PD X E (.Compare a [.Eq] [b] pos) (dEqA g da db) :=
  pe_of (pe_cmpR (op_eqA F hr hb (hm C hG)) ha hbb hmk) fun _ _ _ h => eqA_ok hG h
end
end Den

namespace Den
open PySem PySem.Spec PyProof.Rows L2 Bal
/-! ### != of two instances whose class has an own == alone -/
end Den

namespace Den
open PySem PySem.Spec PyProof.Rows L2 Bal
/-! ### an instance made without its houses: the default stands -/
structure DfG (K : PySem.W.Frag) (fd : FuncData) : Prop where
  ex : ∃ a0 e1 e2 : Addr, Binds K fd ["self", "row", "houses"] [.ref a0] ∧ KTup K a0 [.ref e1, .ref e2] ∧ KTup K e1 [] ∧ KTup K e2 []
/-- the defaults' text: one keyword-only default, found in the dict at D -/
theorem binds_dflt {K : PySem.W.Frag} {fd : FuncData} {D a0 : Addr} (hn : PySem.W.nsIn K D "houses" = some (some (.ref a0)))
    (h : ∀ (us : List Value) (u : Value), us.length = 2 → KwChain D [("houses", u)] (bindArgs fd ⟨us, []⟩) ((["self", "row", "houses"] : List Str).zip (us ++ [u]))) : Binds K fd ["self", "row", "houses"] [.ref a0] := fun s us X hl => by
  refine BindsTo.of_looks fun M => KwChain.looks X (fun q hq => ?_) (h us (.ref a0) (by simpa using hl))
  rw [List.mem_singleton.mp hq]
  exact hn
section
variable {X : Cx} {E : L2.St → XK} {e : Expr} {es : List Expr} {p pos : Pos} {k : Nat} {da : DA} {fa C : Addr} {fd : FuncData} {g : List W → Mo W}
def dMake1 (g : List W → Mo W) (d : DA) : DE := fun ρ => bnd (d ρ) fun us => fun S =>
  if us.length = 1 then (match g (.ins S.length :: (us ++ [.tup [.tup [], .tup []]])) (S ++ [[]]) with
    | .ok .non S' => .ok (.ins S.length) S'
    | _ => .bad) else .bad
theorem de_make1 (hG : X.mg "Gallery" = some (.ref C)) (M : Mk X.K C fa) (F : FnOk X.prog X.w X.K X.mg X.base (L2.CX X.prog X.w) k fa fd ["self", "row", "houses"] (spD X.K X.mg 3 g)) (hr : Room (k + 1) X.A) (hg : Gl X "Gallery") (DF : DfG X.K fd) (ha : PDA X E (e :: es) da)
    (he : starEach (e :: es) X.env = (false, eval e X.env) :: starEach es X.env := by rfl) (hpl : (backTo pos (starEach es X.env)).any (·.1) = false := by rfl) :
    PD X E (.Call (.Name "Gallery" p) (e :: es) [] pos) (dMake1 g da) := by
  obtain ⟨a0, e1, e2, hb, h0, h1', h2'⟩ := DF.ex
  exact pe_of (pe_make (E := noX) (ds := [.ref a0]) (dvs := [.ref a0]) M F hr hg hG hb (.cons rfl .nil) pas0 ha (by decide) he hpl) fun σ H Q ⟨δ, μ, S, ρ, kk, s, h⟩ =>
    ⟨δ, μ, S, ρ, kk, s, Res.step h fun us S1 H1 μ1 g1 k1 h1 vs rs => by
      by_cases hn : us.length = 1
      · rw [if_pos hn] at h1
        intro x dx nx nd ne
        cases eg : g (.ins S1.length :: (us ++ [.tup [.tup [], .tup []]])) (S1 ++ [[]]) with
        | bad => rw [eg] at h1; exact h1.elim
        | err _ _ _ _ => rw [eg] at h1; exact h1.elim
        | ok u S3 =>
          rw [eg] at h1
          cases u with
          | non =>
            have gd := Gr.new (o := .own x) nd (k1.ne nd)
            have kd := k1.new (o := .own x) nd
            have nx2 : upd H1 dx (.own x) x = none := by rw [upd_ne (Ne.symm ne)]; exact nx
            obtain ⟨ka, ga⟩ := kd.allocO nx2 (o := .ins C dx []) (xs := []) (ws := []) (us := []) ⟨rfl, rfl, rfl⟩ (Nat.zero_le _) .nil
            have gg := gd.trans ga
            have ri : Rp ⟨X.K, X.mg, δ⟩ (upd (upd H1 dx (.own x)) x (.ins C dx [])) (μ1 ++ [x]) (.ref x) (.ins S1.length) := .ins (by rw [← k1.len, List.getElem?_append_right (Nat.le_refl _)]; simp) ⟨_, upd_same, rfl⟩ hG
            have z0 : (2 : Nat) ≤ sizeLine := by decide
            have rt : ∀ {H : Hp} {μ : List Addr}, Rp ⟨X.K, X.mg, δ⟩ H μ (.ref a0) (.tup [.tup [], .tup []]) := fun {H μ} => .tup (.inr h0) z0 (.cons (.tup (.inr h1') (Nat.zero_le _) .nil) (.cons (.tup (.inr h2') (Nat.zero_le _) .nil) .nil))
            have r2 := Rps.cons ri (rps_app (rs.gr gg) (.cons rt .nil))
            refine ⟨r2.len.trans (by simp [hn]), δ, _, _, _, ka, r2, ?_⟩
            rw [eg]
            intro H3 μ3 g3 k3 v rv
            cases rv
            exact ⟨rfl, h1 H3 μ3 (gg.trans g3) k3 _ (ri.gr g3)⟩
          | _ => exact h1.elim
      · rw [if_neg hn] at h1
        exact h1.elim⟩
end
end Den

namespace Den
open PySem PySem.Spec PyProof.Rows L2 Bal
def topS (i : Nat) : Stmt := PySem.Challenge.pw_balconyrow_k70_known_gallery.main.body.getD i (.Pass ⟨0, 0, 0, 0⟩)
def c_SIDES : W := (.tup [(.str "left"), (.str "right")])
def errs : List Str := ["Known", "NoSide", "NoOne", "NoPlace", "NoFloor", "Seen", "Stands", "Last"]
def up_LookupError (c : Str) : Bool := List.contains (α := Str) ["NoOne", "NoPlace", "NoFloor"] c
def up_RuntimeError (c : Str) : Bool := List.contains (α := Str) ["Seen", "Stands", "Last"] c
def up_ValueError (c : Str) : Bool := List.contains (α := Str) ["Known", "NoSide"] c
def d_law_take (rec_ : List W → Mo W) : DS := (sSeq (sIf (dTst (dBin (fCmp pGt) (dBin fIx (dVar 0) (dC (.int 0))) (dC (.int 0)))) (sSeq (sSet 2 (dBin fMod (dBin fIx (dVar 0) (dC (.int 0))) (dVar 1))) (sSeq (sAsgM (gPut (dVar 0) (dC (.int 0))) (dBin fDiv (dBin fIx (dVar 0) (dC (.int 0))) (dVar 1))) (sRet (dVar 2)))) sNil) (sSeq (sIf (dTst (dBin (fCmp pGt) (dVar 1) (dBin fPow (dC (.int 10)) (dC (.int 7))))) (sRet (dBin fMod (dBin fAdd (dCall 2 rec_ (dCons (dVar 0) (dCons (dBin fPow (dC (.int 10)) (dC (.int 7))) dNil))) (dBin fMul (dBin fPow (dC (.int 10)) (dC (.int 7))) (dCall 2 rec_ (dCons (dVar 0) (dCons (dBin fAdd (dBin fDiv (dVar 1) (dBin fPow (dC (.int 10)) (dC (.int 7)))) (dC (.int 1))) dNil))))) (dVar 1))) sNil) (sSeq (sAsgM (gPut (dVar 0) (dC (.int 2))) (dBin fAdd (dBin fIx (dVar 0) (dC (.int 2))) (dC (.int 1)))) (sSeq (sSet 3 (dBin fMod (dBin fPow (dBin fAdd (dBin fIx (dVar 0) (dC (.int 1))) (dBin fMul (dC (.int 52774)) (dBin fIx (dVar 0) (dC (.int 2))))) (dC (.int 3))) (dC (.int 2147483563)))) (sRet (dBin fMod (dBin fDiv (dBin fMod (dBin fAdd (dBin fMul (dVar 3) (dBin fAdd (dBin fMod (dVar 3) (dC (.int 40013))) (dC (.int 11)))) (dBin fMul (dBin fIx (dVar 0) (dC (.int 2))) (dC (.int 6089)))) (dC (.int 2147483647))) (dC (.int 32))) (dVar 1)))))))
def g_law_take : Nat → List W → Mo W
  | 0 => fun _ _ => .bad
  | n + 1 => fnW 4 (d_law_take (g_law_take n))
def d_Gallery___init__ : DS := (sSeq (sAsg (.tp [(.nm 3), (.nm 4)]) (dVar 2)) (sSeq (sIFld 0 (dVar 0) (dLst (dCons (dTup (dCons (dCallN fTuple (dCons (dVar 1) dNil)) (dCons (dTup (dCons (dCallN fTuple (dCons (dVar 3) dNil)) (dCons (dCallN fTuple (dCons (dVar 4) dNil)) dNil))) dNil))) dNil))) (sIFld 1 (dVar 0) (dLst dNil))))
def g_Gallery___init__ : List W → Mo W := fnW 5 d_Gallery___init__
def d_law_same (rec_ : List W → Mo W) : DS := (sSeq (sIf (dTst (dIs kSeq (dVar 1))) (sSeq (sIf (dOrT (dTst (dBin fNe (dIs kLst (dVar 0)) (dIs kLst (dVar 1)))) (dTst (dBin fNe (dIs kTup (dVar 0)) (dIs kTup (dVar 1))))) (sRet (dC (.bl false))) sNil) (sRet (dAnd (dBin fEq (dCallN fLen (dCons (dVar 0) dNil)) (dCallN fLen (dCons (dVar 1) dNil))) (dCallN fAll (dCons (dLc .cl [2, 3] (iZip 2 (dCons (dVar 0) (dCons (dVar 1) dNil))) (.tp [(.nm 2), (.nm 3)]) dYes (dCall 2 rec_ (dCons (dVar 2) (dCons (dVar 3) dNil)))) dNil))))) sNil) (sSeq (sIf (dOrT (dTst (dBin fIs (dVar 1) (dC .non))) (dTst (dIs kStr (dVar 1)))) (sRet (dAnd (dBin fEq (dVar 0) (dVar 1)) (dBin fEq (dIs kStr (dVar 0)) (dIs kStr (dVar 1))))) sNil) (sRet (dAnd (dIs kInt (dVar 0)) (dAnd (dBin fEq (dIs kBool (dVar 0)) (dIs kBool (dVar 1))) (dBin fEq (dVar 0) (dVar 1)))))))
def g_law_same : Nat → List W → Mo W
  | 0 => fun _ _ => .bad
  | n + 1 => fnW 4 (d_law_same (g_law_same n))
def d_Gallery_keep : DS := (sDrop (dMth fAppend (dIFld 0 (dVar 0)) (dCons (dTup (dCons (dVar 1) (dCons (dVar 2) dNil))) dNil)))
def g_Gallery_keep : List W → Mo W := fnW 3 d_Gallery_keep
def d_refuse_no_pair : DS := (sIf (dNotT (dTst (dChain (fCmp pLe) (fCmp pLt) (dC (.int 0)) (dVar 1) (dBin fSub (dCallN fLen (dCons (dVar 0) dNil)) (dC (.int 1)))))) (sRaise "NoPlace" "place" (dVar 1)) sNil)
def g_refuse_no_pair : List W → Mo W := fnW 2 d_refuse_no_pair
def d_exchanged : DS := (sSeq (sDrop (dCall 2 g_refuse_no_pair (dCons (dVar 0) (dCons (dVar 1) dNil)))) (sSeq (sSet 2 (dCallF .st fList (dCons (dVar 0) dNil))) (sSeq (sAsgM (gTp 2 (gsCons (gPut (dVar 2) (dVar 1)) (gsCons (gPut (dVar 2) (dBin fAdd (dVar 1) (dC (.int 1)))) gsNil))) (dTup (dCons (dBin fIx (dVar 2) (dBin fAdd (dVar 1) (dC (.int 1)))) (dCons (dBin fIx (dVar 2) (dVar 1)) dNil)))) (sRet (dCallN fTuple (dCons (dVar 2) dNil))))))
def g_exchanged : List W → Mo W := fnW 3 d_exchanged
def d_Gallery_row : DS := (sRet (dBin fIx (dBin fIx (dIFld 0 (dVar 0)) (dUn fNeg (dC (.int 1)))) (dC (.int 0))))
def g_Gallery_row : List W → Mo W := fnW 1 d_Gallery_row
def d_Gallery_houses : DS := (sRet (dBin fIx (dBin fIx (dIFld 0 (dVar 0)) (dUn fNeg (dC (.int 1)))) (dC (.int 1))))
def g_Gallery_houses : List W → Mo W := fnW 1 d_Gallery_houses
def d_taller_among : DS := (sRet (dCallN fLen (dCons (dLc .cl [2] (iSeq (dVar 0)) (.nm 2) (dTst (dBin (fCmp pGt) (dVar 2) (dVar 1))) (dVar 2)) dNil)))
def g_taller_among : List W → Mo W := fnW 3 d_taller_among
def d_tellers : DS := (sSeq (sSet 2 (dCallN fMin2 (dCons (dBin fIx (dVar 0) (dVar 1)) (dCons (dBin fIx (dVar 0) (dBin fAdd (dVar 1) (dC (.int 1)))) dNil)))) (sSeq (sSet 3 (dCall 2 g_taller_among (dCons (dCut .cl (dVar 0) oNone (oSome (dVar 1))) (dCons (dVar 2) dNil)))) (sSeq (sSet 4 (dCall 2 g_taller_among (dCons (dCut .cl (dVar 0) (oSome (dBin fAdd (dVar 1) (dC (.int 2)))) oNone) (dCons (dVar 2) dNil)))) (sRet (dTup (dCons (dBin fAdd (dVar 3) (dC (.int 1))) (dCons (dBin fAdd (dVar 4) (dC (.int 1))) dNil)))))))
def g_tellers : List W → Mo W := fnW 5 d_tellers
def d_told_by : DS := (sSeq (sDrop (dCall 2 g_refuse_no_pair (dCons (dVar 0) (dCons (dVar 2) dNil)))) (sRet (dLc .st [3, 4, 5] (iZip 3 (dCons (dC c_SIDES) (dCons (dVar 1) (dCons (dCall 2 g_tellers (dCons (dVar 0) (dCons (dVar 2) dNil))) dNil)))) (.tp [(.nm 3), (.nm 4), (.nm 5)]) (dTst (dBin fIn (dVar 5) (dVar 4))) (dTup (dCons (dVar 3) (dCons (dVar 5) dNil))))))
def g_told_by : List W → Mo W := fnW 6 d_told_by
def d_Gallery_change : DS := (sSeq (sDrop (dMth fAppend (dIFld 1 (dVar 0)) (dCons (dTup (dCons (dC (.str "in")) (dCons (dC (.str "change")) dNil))) dNil))) (sFinR (rSeq (sSet 2 (dCall 3 g_told_by (dCons (dMeth 1 g_Gallery_row (dVar 0) dNil) (dCons (dMeth 1 g_Gallery_houses (dVar 0) dNil) (dCons (dVar 1) dNil))))) (rSeq (sDrop (dMeth 3 g_Gallery_keep (dVar 0) (dCons (dCall 2 g_exchanged (dCons (dMeth 1 g_Gallery_row (dVar 0) dNil) (dCons (dVar 1) dNil))) (dCons (dMeth 1 g_Gallery_houses (dVar 0) dNil) dNil)))) (rRet (dVar 2)))) (sDrop (dMth fAppend (dIFld 1 (dVar 0)) (dCons (dTup (dCons (dC (.str "out")) (dCons (dC (.str "change")) dNil))) dNil)))))
def g_Gallery_change : List W → Mo W := fnW 3 d_Gallery_change
def d_refuse_known : DS := (sIf (dTst (dBin fIn (dVar 1) (dVar 0))) (sRaise "Known" "who" (dVar 1)) sNil)
def g_refuse_known : List W → Mo W := fnW 2 d_refuse_known
def d_with_newcomer : DS := (sSeq (sDrop (dCall 2 g_refuse_known (dCons (dVar 0) (dCons (dVar 1) dNil)))) (sSeq (sIf (dNotT (dTst (dChain (fCmp pLe) (fCmp pLe) (dC (.int 0)) (dVar 2) (dCallN fLen (dCons (dVar 0) dNil))))) (sRaise "NoPlace" "place" (dVar 2)) sNil) (sSeq (sSet 3 (dCallF .st fList (dCons (dVar 0) dNil))) (sSeq (sDrop (dMth fInsert (dVar 3) (dCons (dVar 2) (dCons (dVar 1) dNil)))) (sRet (dCallN fTuple (dCons (dVar 3) dNil)))))))
def g_with_newcomer : List W → Mo W := fnW 4 d_with_newcomer
def d_floors_above : DS := (sRet (dCallN fLen (dCons (dLc .cl [2] (iSeq (dVar 0)) (.nm 2) (dTst (dBin (fCmp pLt) (dVar 1) (dVar 2))) (dVar 2)) dNil)))
def g_floors_above : List W → Mo W := fnW 3 d_floors_above
def d_place_of : DS := (sSeq (sIf (dTst (dBin fNotIn (dVar 1) (dVar 0))) (sRaise "NoOne" "who" (dVar 1)) sNil) (sRet (dIdx (dVar 0) (dVar 1))))
def g_place_of : List W → Mo W := fnW 2 d_place_of
def d_taller_ahead : DS := (sRet (dCall 2 g_taller_among (dCons (dCut .cl (dVar 0) oNone (oSome (dCall 2 g_place_of (dCons (dVar 0) (dCons (dVar 1) dNil))))) (dCons (dVar 1) dNil))))
def g_taller_ahead : List W → Mo W := fnW 2 d_taller_ahead
def d_taller_behind : DS := (sRet (dCall 2 g_taller_among (dCons (dCut .cl (dVar 0) (oSome (dCall 2 g_place_of (dCons (dVar 0) (dCons (dVar 1) dNil)))) oNone) (dCons (dVar 1) dNil))))
def g_taller_behind : List W → Mo W := fnW 2 d_taller_behind
def d_seen_by : DS := (sSeq (sAsg (.tp [(.nm 3), (.nm 4)]) (dVar 1)) (sRet (dTup (dCons (dCall 2 g_floors_above (dCons (dVar 3) (dCons (dCall 2 g_taller_ahead (dCons (dVar 0) (dCons (dVar 2) dNil))) dNil))) (dCons (dCall 2 g_floors_above (dCons (dVar 4) (dCons (dCall 2 g_taller_behind (dCons (dVar 0) (dCons (dVar 2) dNil))) dNil))) dNil)))))
def g_seen_by : List W → Mo W := fnW 5 d_seen_by
def d_seen_otherwise : DS := (sSeq (sSet 4 (dCall 3 g_with_newcomer (dCons (dVar 0) (dCons (dVar 2) (dCons (dVar 3) dNil))))) (sRet (dLc .st [5] (iSeq (dCallF .cl fSorted (dCons (dVar 0) dNil))) (.nm 5) (dTst (dBin fNe (dCall 3 g_seen_by (dCons (dVar 0) (dCons (dVar 1) (dCons (dVar 5) dNil)))) (dCall 3 g_seen_by (dCons (dVar 4) (dCons (dVar 1) (dCons (dVar 5) dNil)))))) (dVar 5))))
def g_seen_otherwise : List W → Mo W := fnW 6 d_seen_otherwise
def d_gone : DS := (sSeq (sIf (dTst (dBin fNotIn (dVar 1) (dVar 0))) (sRaise "NoOne" "who" (dVar 1)) sNil) (sSeq (sIf (dTst (dBin fEq (dCallN fLen (dCons (dVar 0) dNil)) (dC (.int 1)))) (sRaise0 "Last") sNil) (sRet (dCallN fTuple (dCons (dLc .cl [2] (iSeq (dVar 0)) (.nm 2) (dTst (dBin fNe (dVar 2) (dVar 1))) (dVar 2)) dNil)))))
def g_gone : List W → Mo W := fnW 3 d_gone
def d_Gallery_go : DS := (sSeq (sDrop (dMth fAppend (dIFld 1 (dVar 0)) (dCons (dTup (dCons (dC (.str "in")) (dCons (dC (.str "go")) dNil))) dNil))) (sFinR (rSeq (sSet 2 (dCall 2 g_gone (dCons (dMeth 1 g_Gallery_row (dVar 0) dNil) (dCons (dVar 1) dNil)))) (rSeq (sSet 3 (dCallM 3 1 4 [0, 1, 2, 3] g_seen_otherwise (dCons (dVar 2) (dCons (dMeth 1 g_Gallery_houses (dVar 0) dNil) (dCons (dVar 1) dNil))) (dCons (dIdx (dMeth 1 g_Gallery_row (dVar 0) dNil) (dVar 1)) dNil))) (rSeq (sDrop (dMeth 3 g_Gallery_keep (dVar 0) (dCons (dVar 2) (dCons (dMeth 1 g_Gallery_houses (dVar 0) dNil) dNil)))) (rRet (dVar 3))))) (sDrop (dMth fAppend (dIFld 1 (dVar 0)) (dCons (dTup (dCons (dC (.str "out")) (dCons (dC (.str "go")) dNil))) dNil)))))
def g_Gallery_go : List W → Mo W := fnW 4 d_Gallery_go
def d_Gallery_sneak : DS := (sSeq (sDrop (dMth fAppend (dIFld 1 (dVar 0)) (dCons (dTup (dCons (dC (.str "in")) (dCons (dC (.str "sneak")) dNil))) dNil))) (sFin0 (sSeq (sSet 2 (dMeth 1 g_Gallery_row (dVar 0) dNil)) (sSeq (sFor (iSeq (dVar 1)) (.nm 3) (sSeq (sIf (dTru (dCall 3 g_told_by (dCons (dVar 2) (dCons (dMeth 1 g_Gallery_houses (dVar 0) dNil) (dCons (dVar 3) dNil))))) (sRaise "Seen" "place" (dVar 3)) sNil) (sSet 2 (dCall 2 g_exchanged (dCons (dVar 2) (dCons (dVar 3) dNil)))))) (sDrop (dMeth 3 g_Gallery_keep (dVar 0) (dCons (dVar 2) (dCons (dMeth 1 g_Gallery_houses (dVar 0) dNil) dNil)))))) (sDrop (dMth fAppend (dIFld 1 (dVar 0)) (dCons (dTup (dCons (dC (.str "out")) (dCons (dC (.str "sneak")) dNil))) dNil)))))
def g_Gallery_sneak : List W → Mo W := fnW 4 d_Gallery_sneak
def d_law_act_more : DS := (sRet (dIf (dTst (dBin fEq (dBin fIx (dVar 1) (dC (.int 0))) (dC (.str "go")))) (dMeth 2 g_Gallery_go (dVar 0) (dCons (dBin fIx (dVar 1) (dC (.int 1))) dNil)) (dMeth 2 g_Gallery_sneak (dVar 0) (dCons (dBin fIx (dVar 1) (dC (.int 1))) dNil))))
def g_law_act_more : List W → Mo W := fnW 2 d_law_act_more
def d_Gallery_come : DS := (sSeq (sDrop (dMth fAppend (dIFld 1 (dVar 0)) (dCons (dTup (dCons (dC (.str "in")) (dCons (dC (.str "come")) dNil))) dNil))) (sFinR (rSeq (sSet 3 (dCallM 3 1 4 [0, 1, 2, 3] g_seen_otherwise (dCons (dMeth 1 g_Gallery_row (dVar 0) dNil) (dCons (dMeth 1 g_Gallery_houses (dVar 0) dNil) (dCons (dVar 1) dNil))) (dCons (dVar 2) dNil))) (rSeq (sDrop (dMeth 3 g_Gallery_keep (dVar 0) (dCons (dCall 3 g_with_newcomer (dCons (dMeth 1 g_Gallery_row (dVar 0) dNil) (dCons (dVar 1) (dCons (dVar 2) dNil)))) (dCons (dMeth 1 g_Gallery_houses (dVar 0) dNil) dNil)))) (rRet (dVar 3)))) (sDrop (dMth fAppend (dIFld 1 (dVar 0)) (dCons (dTup (dCons (dC (.str "out")) (dCons (dC (.str "come")) dNil))) dNil)))))
def g_Gallery_come : List W → Mo W := fnW 4 d_Gallery_come
def d_Gallery_deeds : DS := (sRet (dBin fSub (dCallN fLen (dCons (dIFld 0 (dVar 0)) dNil)) (dC (.int 1))))
def g_Gallery_deeds : List W → Mo W := fnW 1 d_Gallery_deeds
def d_Gallery_undo : DS := (sSeq (sDrop (dMth fAppend (dIFld 1 (dVar 0)) (dCons (dTup (dCons (dC (.str "in")) (dCons (dC (.str "undo")) dNil))) dNil))) (sFinR (rSeq (sSet 1 (dBin (fCmp pGt) (dMeth 1 g_Gallery_deeds (dVar 0) dNil) (dC (.int 0)))) (rSeq (sIf (dTru (dVar 1)) (sDrop (dMth0 fPop (dIFld 0 (dVar 0)))) sNil) (rRet (dVar 1)))) (sDrop (dMth fAppend (dIFld 1 (dVar 0)) (dCons (dTup (dCons (dC (.str "out")) (dCons (dC (.str "undo")) dNil))) dNil)))))
def g_Gallery_undo : List W → Mo W := fnW 2 d_Gallery_undo
def d_all_taller_ahead : DS := (sSeq (sSet 1 dDNew) (sSeq (sSet 2 (dLst dNil)) (sSeq (sFor (iSeq (dVar 0)) (.nm 3) (sSeq (sAsg (.tp [.nm 4, .nm 5]) (dTup (dCons (dC (.int 0)) (dCons (dCallN fLen (dCons (dVar 2) dNil)) dNil)))) (sSeq (sWhile 64 (dTst (dBin (fCmp pLt) (dVar 4) (dVar 5))) (sSeq (sSet 6 (dBin fDiv (dBin fAdd (dVar 4) (dVar 5)) (dC (.int 2)))) (sIf (dTst (dBin (fCmp pGt) (dBin fIx (dVar 2) (dVar 6)) (dVar 3))) (sSet 4 (dBin fAdd (dVar 6) (dC (.int 1)))) (sSet 5 (dVar 6))))) (sSeq (sDrop (dMth fInsert (dVar 2) (dCons (dVar 4) (dCons (dVar 3) dNil)))) (sAsgM (gPutD (dVar 1) (dVar 3)) (dVar 4)))))) (sRet (dVar 1)))))
def g_all_taller_ahead : List W → Mo W := fnW 7 d_all_taller_ahead
def d_folk_of : DS := (sRet (dCallN fTuple (dCons (dSortR .cl true (dCons (dVar 0) dNil)) dNil)))
def g_folk_of : List W → Mo W := fnW 1 d_folk_of
def d_seen_from_left : DS := (sSeq (sSet 2 (dCall 1 g_all_taller_ahead (dCons (dVar 0) dNil))) (sSeq (sSet 3 (dRev .cl (dCall 1 g_folk_of (dCons (dVar 0) dNil)))) (sRet (dCallN fTuple (dCons (dLc .cl [5] (iSeq (dVar 1)) (.nm 5) dYes (dCallN fTuple (dCons (dLc .cl [4] (iSeq (dVar 3)) (.nm 4) (dTst (dBin (fCmp pLt) (dBin fDGet (dVar 2) (dVar 4)) (dVar 5))) (dVar 4)) dNil))) dNil)))))
def g_seen_from_left : List W → Mo W := fnW 6 d_seen_from_left
def d_turned : DS := (sRet (dCallN fTuple (dCons (dRev .cl (dVar 0)) dNil)))
def g_turned : List W → Mo W := fnW 1 d_turned
def d_seen_by_all : DS := (sSeq (sAsg (.tp [(.nm 2), (.nm 3)]) (dVar 1)) (sRet (dTup (dCons (dCall 2 g_seen_from_left (dCons (dVar 0) (dCons (dVar 2) dNil))) (dCons (dCall 2 g_seen_from_left (dCons (dCall 1 g_turned (dCons (dVar 0) dNil)) (dCons (dVar 3) dNil))) dNil)))))
def g_seen_by_all : List W → Mo W := fnW 4 d_seen_by_all
def d_with_floors : DS := (sRet (dCallN fTuple (dCons (dLc .cl [3, 4] (iZip 2 (dCons (dC c_SIDES) (dCons (dVar 0) dNil))) (.tp [(.nm 3), (.nm 4)]) dYes (dIf (dTst (dBin fEq (dVar 3) (dVar 1))) (dVar 2) (dVar 4))) dNil)))
def g_with_floors : List W → Mo W := fnW 5 d_with_floors
def d_seen_from : DS := (sSeq (sSet 3 (dCall 2 g_seen_by_all (dCons (dVar 0) (dCons (dCall 3 g_with_floors (dCons (dTup (dCons (dTup dNil) (dCons (dTup dNil) dNil))) (dCons (dVar 1) (dCons (dTup (dCons (dVar 2) dNil)) dNil)))) dNil)))) (sRet (dBin fIx (dBin fIx (dVar 3) (dIdxF (dC c_SIDES) (dVar 1))) (dC (.int 0)))))
def g_seen_from : List W → Mo W := fnW 4 d_seen_from
def d_floors_at : DS := (sSeq (sIf (dTst (dBin fNotIn (dVar 1) (dC c_SIDES))) (sRaise "NoSide" "side" (dVar 1)) sNil) (sRet (dBin fIx (dVar 0) (dIdxF (dC c_SIDES) (dVar 1)))))
def g_floors_at : List W → Mo W := fnW 2 d_floors_at
def d_Gallery_build : DS := (sSeq (sDrop (dMth fAppend (dIFld 1 (dVar 0)) (dCons (dTup (dCons (dC (.str "in")) (dCons (dC (.str "build")) dNil))) dNil))) (sFinR (rSeq (sSet 3 (dCall 2 g_floors_at (dCons (dMeth 1 g_Gallery_houses (dVar 0) dNil) (dCons (dVar 1) dNil)))) (rSeq (sIf (dTst (dBin fIn (dVar 2) (dVar 3))) (sRaise "Stands" "floor" (dVar 2)) sNil) (rSeq (sDrop (dMeth 3 g_Gallery_keep (dVar 0) (dCons (dMeth 1 g_Gallery_row (dVar 0) dNil) (dCons (dCall 3 g_with_floors (dCons (dMeth 1 g_Gallery_houses (dVar 0) dNil) (dCons (dVar 1) (dCons (dCallN fTuple (dCons (dCallF .cl fSorted (dCons (dCl (dStar (dVar 3) (dCons (dVar 2) dNil))) dNil)) dNil)) dNil)))) dNil)))) (rRet (dCall 3 g_seen_from (dCons (dMeth 1 g_Gallery_row (dVar 0) dNil) (dCons (dVar 1) (dCons (dVar 2) dNil)))))))) (sDrop (dMth fAppend (dIFld 1 (dVar 0)) (dCons (dTup (dCons (dC (.str "out")) (dCons (dC (.str "build")) dNil))) dNil)))))
def g_Gallery_build : List W → Mo W := fnW 4 d_Gallery_build
def d_Gallery_pull : DS := (sSeq (sDrop (dMth fAppend (dIFld 1 (dVar 0)) (dCons (dTup (dCons (dC (.str "in")) (dCons (dC (.str "pull")) dNil))) dNil))) (sFin0 (sSeq (sSet 3 (dCall 2 g_floors_at (dCons (dMeth 1 g_Gallery_houses (dVar 0) dNil) (dCons (dVar 1) dNil)))) (sSeq (sIf (dTst (dBin fNotIn (dVar 2) (dVar 3))) (sRaise "NoFloor" "floor" (dVar 2)) sNil) (sSeq (sSet 4 (dCallN fTuple (dCons (dLc .cl [5] (iSeq (dVar 3)) (.nm 5) (dTst (dBin fNe (dVar 5) (dVar 2))) (dVar 5)) dNil))) (sDrop (dMeth 3 g_Gallery_keep (dVar 0) (dCons (dMeth 1 g_Gallery_row (dVar 0) dNil) (dCons (dCall 3 g_with_floors (dCons (dMeth 1 g_Gallery_houses (dVar 0) dNil) (dCons (dVar 1) (dCons (dVar 4) dNil)))) dNil))))))) (sDrop (dMth fAppend (dIFld 1 (dVar 0)) (dCons (dTup (dCons (dC (.str "out")) (dCons (dC (.str "pull")) dNil))) dNil)))))
def g_Gallery_pull : List W → Mo W := fnW 6 d_Gallery_pull
def d_law_refusal : DS := (sSeq (sSet 1 (dLst (dCons (dIsX errs (fun c => decide (c = "Known")) (dVar 0)) (dCons (dIsX errs (fun c => decide (c = "NoSide")) (dVar 0)) (dCons (dIsX errs (fun c => decide (c = "NoOne")) (dVar 0)) dNil))))) (sSeq (sSet 1 (dCatL (dVar 1) (dCl (dCons (dIsX errs (fun c => decide (c = "NoPlace")) (dVar 0)) (dCons (dIsX errs (fun c => decide (c = "NoFloor")) (dVar 0)) (dCons (dIsX errs (fun c => decide (c = "Seen")) (dVar 0)) dNil)))))) (sSeq (sSet 1 (dCatL (dVar 1) (dCl (dCons (dIsX errs (fun c => decide (c = "Stands")) (dVar 0)) (dCons (dIsX errs (fun c => decide (c = "Last")) (dVar 0)) dNil))))) (sSeq (sSet 2 (dCl (dCons (dIsX errs up_ValueError (dVar 0)) (dCons (dIsX errs up_LookupError (dVar 0)) (dCons (dIsX errs up_RuntimeError (dVar 0)) dNil))))) (sSeq (sIf (dOrT (dTst (dBin fNe (dMth fCountD (dVar 1) (dCons (dC (.bl true)) dNil)) (dC (.int 1)))) (dTst (dBin fNe (dIdxF (dVar 2) (dC (.bl true))) (dBin fIx (dCl (dCons (dC (.int 0)) (dCons (dC (.int 0)) (dCons (dC (.int 1)) (dCons (dC (.int 1)) (dCons (dC (.int 1)) (dCons (dC (.int 2)) (dCons (dC (.int 2)) (dCons (dC (.int 2)) dNil))))))))) (dIdxF (dVar 1) (dC (.bl true))))))) (sRet (dC (.str "other"))) sNil) (sSeq (sIf (dOrT (dTst (dBin fIx (dVar 1) (dC (.int 0)))) (dTst (dBin fIx (dVar 1) (dC (.int 2))))) (sRet (dTup (dCons (dC (.str "refused")) (dCons (dIf (dTst (dBin fIx (dVar 1) (dC (.int 0)))) (dC (.str "Known")) (dC (.str "NoOne"))) (dCons (dFld errs "who" (dVar 0)) dNil))))) sNil) (sSeq (sIf (dOrT (dTst (dBin fIx (dVar 1) (dC (.int 1)))) (dTst (dBin fIx (dVar 1) (dC (.int 3))))) (sRet (dIf (dTst (dBin fIx (dVar 1) (dC (.int 1)))) (dTup (dCons (dC (.str "refused")) (dCons (dC (.str "NoSide")) (dCons (dFld errs "side" (dVar 0)) dNil)))) (dTup (dCons (dC (.str "refused")) (dCons (dC (.str "NoPlace")) (dCons (dFld errs "place" (dVar 0)) dNil)))))) sNil) (sSeq (sIf (dOrT (dTst (dBin fIx (dVar 1) (dC (.int 4)))) (dTst (dBin fIx (dVar 1) (dC (.int 6))))) (sRet (dTup (dCons (dC (.str "refused")) (dCons (dIf (dTst (dBin fIx (dVar 1) (dC (.int 4)))) (dC (.str "NoFloor")) (dC (.str "Stands"))) (dCons (dFld errs "floor" (dVar 0)) dNil))))) sNil) (sRet (dIf (dTst (dBin fIx (dVar 1) (dC (.int 5)))) (dTup (dCons (dC (.str "refused")) (dCons (dC (.str "Seen")) (dCons (dFld errs "place" (dVar 0)) dNil)))) (dTup (dCons (dC (.str "refused")) (dCons (dC (.str "Last")) (dCons (dC .non) dNil))))))))))))))
def g_law_refusal : List W → Mo W := fnW 3 d_law_refusal
def d_law_act : DS := (sSeq (sAsg (.tp [(.nm 2), (.nm 3)]) (dTup (dCons (dC .non) (dCons (dC .non) dNil)))) (sSeq (sTry errs ["Known", "Last", "NoFloor", "NoOne", "NoPlace", "NoSide", "Seen", "Stands"] 4 3 (sIf (dTst (dBin fIn (dBin fIx (dVar 1) (dC (.int 0))) (dTup (dCons (dC (.str "change")) (dCons (dC (.str "go")) (dCons (dC (.str "sneak")) dNil)))))) (sSet 2 (dIf (dTst (dBin fEq (dBin fIx (dVar 1) (dC (.int 0))) (dC (.str "change")))) (dMeth 2 g_Gallery_change (dVar 0) (dCons (dBin fIx (dVar 1) (dC (.int 1))) dNil)) (dCall 2 g_law_act_more (dCons (dVar 0) (dCons (dVar 1) dNil))))) (sIf (dTst (dBin fEq (dBin fIx (dVar 1) (dC (.int 0))) (dC (.str "come")))) (sSet 2 (dMethK 1 1 3 [0, 1, 2] g_Gallery_come (dVar 0) (dCons (dBin fIx (dVar 1) (dC (.int 1))) dNil) (dCons (dBin fIx (dVar 1) (dC (.int 2))) dNil))) (sIf (dTst (dBin fEq (dBin fIx (dVar 1) (dC (.int 0))) (dC (.str "undo")))) (sSet 2 (dMeth 1 g_Gallery_undo (dVar 0) dNil)) (sSet 2 (dIf (dTst (dBin fEq (dBin fIx (dVar 1) (dC (.int 0))) (dC (.str "build")))) (dMeth 3 g_Gallery_build (dVar 0) (dCons (dBin fIx (dVar 1) (dC (.int 1))) (dCons (dBin fIx (dVar 1) (dC (.int 2))) dNil))) (dMeth 3 g_Gallery_pull (dVar 0) (dCons (dBin fIx (dVar 1) (dC (.int 1))) (dCons (dBin fIx (dVar 1) (dC (.int 2))) dNil))))))))) (sRet (dIf (dTst (dBin fIs (dVar 3) (dC .non))) (dVar 2) (dCall 1 g_law_refusal (dCons (dVar 3) dNil))))))
def g_law_act : List W → Mo W := fnW 5 d_law_act
def d_Gallery___eq__ : DS := (sRet (dAnd (dIsA (dVar 1)) (dAnd (dBin fEq (dMeth 1 g_Gallery_row (dVar 0) dNil) (dMeth 1 g_Gallery_row (dVar 1) dNil)) (dBin fEq (dMeth 1 g_Gallery_houses (dVar 0) dNil) (dMeth 1 g_Gallery_houses (dVar 1) dNil)))))
def g_Gallery___eq__ : List W → Mo W := fnW 2 d_Gallery___eq__
def d_floors_many : DS := (sRet (dCallN fSum (dCons (dLc .cl [1] (iSeq (dVar 0)) (.nm 1) dYes (dCallN fLen (dCons (dVar 1) dNil))) dNil)))
def g_floors_many : List W → Mo W := fnW 2 d_floors_many
def d_Gallery___repr__ : DS := (sRet (dJs [(dC (.str "Gallery(")), (dFmt (dCallN fLen (dCons (dMeth 1 g_Gallery_row (dVar 0) dNil) dNil))), (dC (.str " folk, ")), (dFmt (dCall 1 g_floors_many (dCons (dMeth 1 g_Gallery_houses (dVar 0) dNil) dNil))), (dC (.str " floors)"))]))
def g_Gallery___repr__ : List W → Mo W := fnW 1 d_Gallery___repr__
def d_law_right : DS := (sSeq (sAsg (.tp [(.nm 1), (.nm 2)]) (dTup (dCons (dBin fSub (dBin fMul (dC (.int 2)) (dCall 2 (g_law_take 6) (dCons (dVar 0) (dCons (dC (.int 2001)) dNil)))) (dC (.int 2000))) (dCons (dBin fAdd (dC (.int 2)) (dBin fMul (dC (.int 2)) (dCall 2 (g_law_take 6) (dCons (dVar 0) (dCons (dBin fPow (dC (.int 10)) (dC (.int 6))) dNil))))) dNil)))) (sSeq (sAsg (.tp [(.nm 3), (.nm 4), (.nm 5), (.nm 6), (.nm 7)]) (dLc .cl [8] (iRg1 (dCons (dC (.int 5)) dNil)) (.nm 8) dYes (dBin fAdd (dVar 1) (dBin fMul (dVar 2) (dVar 8))))) (sSeq (sSet 9 (dMake1 g_Gallery___init__ (dCons (dTup (dCons (dVar 4) (dCons (dVar 6) (dCons (dVar 3) (dCons (dVar 7) (dCons (dVar 5) dNil)))))) dNil))) (sSeq (sSet 10 (dCl (dCons (dTup (dCons (dTup (dCons (dC (.str "build")) (dCons (dC (.str "left")) (dCons (dC (.int 2)) dNil)))) (dCons (dTup (dCons (dVar 4) (dCons (dVar 6) (dCons (dVar 7) dNil)))) dNil))) (dCons (dTup (dCons (dTup (dCons (dC (.str "build")) (dCons (dC (.str "right")) (dCons (dC (.int 2)) dNil)))) (dCons (dTup (dCons (dVar 5) (dCons (dVar 6) (dCons (dVar 7) dNil)))) dNil))) dNil)))) (sSeq (sSet 10 (dBin fAdd (dVar 10) (dCl (dCons (dTup (dCons (dTup (dCons (dC (.str "build")) (dCons (dC (.str "left")) (dCons (dC (.int 2)) dNil)))) (dCons (dTup (dCons (dC (.str "refused")) (dCons (dC (.str "Stands")) (dCons (dC (.int 2)) dNil)))) dNil))) (dCons (dTup (dCons (dTup (dCons (dC (.str "change")) (dCons (dC (.int 0)) dNil))) (dCons (dCl dNil) dNil))) (dCons (dTup (dCons (dTup (dCons (dC (.str "sneak")) (dCons (dCl (dCons (dC (.int 0)) dNil)) dNil))) (dCons (dC .non) dNil))) dNil)))))) (sSeq (sSet 10 (dBin fAdd (dVar 10) (dCl (dCons (dTup (dCons (dTup (dCons (dC (.str "change")) (dCons (dC (.int 1)) dNil))) (dCons (dCl (dCons (dTup (dCons (dC (.str "left")) (dCons (dC (.int 2)) dNil))) dNil)) dNil))) (dCons (dTup (dCons (dTup (dCons (dC (.str "undo")) dNil)) (dCons (dC (.bl true)) dNil))) dNil))))) (sSeq (sSet 10 (dBin fAdd (dVar 10) (dCl (dCons (dTup (dCons (dTup (dCons (dC (.str "change")) (dCons (dC (.int 2)) dNil))) (dCons (dCl (dCons (dTup (dCons (dC (.str "right")) (dCons (dC (.int 2)) dNil))) dNil)) dNil))) (dCons (dTup (dCons (dTup (dCons (dC (.str "undo")) dNil)) (dCons (dC (.bl true)) dNil))) dNil))))) (sSeq (sSet 10 (dBin fAdd (dVar 10) (dCl (dCons (dTup (dCons (dTup (dCons (dC (.str "come")) (dCons (dBin fAdd (dVar 7) (dC (.int 1))) (dCons (dC (.int 0)) dNil)))) (dCons (dCl dNil) dNil))) (dCons (dTup (dCons (dTup (dCons (dC (.str "come")) (dCons (dBin fAdd (dVar 5) (dC (.int 1))) (dCons (dC (.int 0)) dNil)))) (dCons (dCl (dCons (dVar 4) dNil)) dNil))) (dCons (dTup (dCons (dTup (dCons (dC (.str "undo")) dNil)) (dCons (dC (.bl true)) dNil))) (dCons (dTup (dCons (dTup (dCons (dC (.str "undo")) dNil)) (dCons (dC (.bl true)) dNil))) dNil))))))) (sSeq (sSet 10 (dBin fAdd (dVar 10) (dCl (dCons (dTup (dCons (dTup (dCons (dC (.str "go")) (dCons (dVar 6) dNil))) (dCons (dCl (dCons (dVar 3) (dCons (dVar 5) dNil))) dNil))) (dCons (dTup (dCons (dTup (dCons (dC (.str "undo")) dNil)) (dCons (dC (.bl true)) dNil))) (dCons (dTup (dCons (dTup (dCons (dC (.str "go")) (dCons (dVar 7) dNil))) (dCons (dCl (dCons (dVar 3) (dCons (dVar 5) dNil))) dNil))) (dCons (dTup (dCons (dTup (dCons (dC (.str "undo")) dNil)) (dCons (dC (.bl true)) dNil))) dNil))))))) (sSeq (sSet 10 (dBin fAdd (dVar 10) (dCl (dCons (dTup (dCons (dTup (dCons (dC (.str "pull")) (dCons (dC (.str "right")) (dCons (dC (.int 2)) dNil)))) (dCons (dC .non) dNil))) (dCons (dTup (dCons (dTup (dCons (dC (.str "change")) (dCons (dC (.int 2)) dNil))) (dCons (dCl dNil) dNil))) (dCons (dTup (dCons (dTup (dCons (dC (.str "pull")) (dCons (dC (.str "right")) (dCons (dC (.int 2)) dNil)))) (dCons (dTup (dCons (dC (.str "refused")) (dCons (dC (.str "NoFloor")) (dCons (dC (.int 2)) dNil)))) dNil))) dNil)))))) (sSeq (sFor (iSeq (dVar 10)) (.tp [(.nm 11), (.nm 12)]) (sIf (dNotT (dTst (dCall 2 (g_law_same 16) (dCons (dCall 2 g_law_act (dCons (dVar 9) (dCons (dVar 11) dNil))) (dCons (dVar 12) dNil))))) (sRet (dC (.bl false))) sNil)) (sSeq (sIf (dNotT (dTst (dCall 2 (g_law_same 16) (dCons (dCl (dCons (dMeth 1 g_Gallery_row (dVar 9) dNil) (dCons (dMeth 1 g_Gallery_houses (dVar 9) dNil) dNil))) (dCons (dCl (dCons (dTup (dCons (dVar 4) (dCons (dVar 6) (dCons (dVar 7) (dCons (dVar 3) (dCons (dVar 5) dNil)))))) (dCons (dTup (dCons (dTup (dCons (dC (.int 2)) dNil)) (dCons (dTup dNil) dNil))) dNil))) dNil))))) (sRet (dC (.bl false))) sNil) (sSeq (sFor (iRg1 (dCons (dMeth 1 g_Gallery_deeds (dVar 9) dNil) dNil)) (.nm 13) (sDrop (dMeth 1 g_Gallery_undo (dVar 9) dNil))) (sRet (dAnd (dBin fIsB (dMeth 1 g_Gallery_undo (dVar 9) dNil) (dC (.bl false))) (dAnd (dEqA g_Gallery___eq__ (dVar 9) (dMake1 g_Gallery___init__ (dCons (dTup (dCons (dVar 4) (dCons (dVar 6) (dCons (dVar 3) (dCons (dVar 7) (dCons (dVar 5) dNil)))))) dNil))) (dBin fEqS (dReprI g_Gallery___repr__ (dVar 9)) (dC (.str "Gallery(5 folk, 0 floors)")))))))))))))))))))
def g_law_right : List W → Mo W := fnW 14 d_law_right
def d_law_pot : DS := (sSeq (sSet 2 (dC (.int 0))) (sSeq (sIf (dTst (dBin (fCmp pLt) (dVar 1) (dCallN fLen (dCons (dVar 0) dNil)))) (sSet 2 (dBin fIx (dVar 0) (dVar 1))) sNil) (sRet (dLst (dCons (dBin fMul (dCallN fAbs (dCons (dVar 2) dNil)) (dCallN fInt (dCons (dBin (fCmp pGe) (dCallN fAbs (dCons (dVar 2) dNil)) (dBin fPow (dC (.int 10)) (dC (.int 18)))) dNil))) (dCons (dBin fMod (dBin fMul (dBin fAdd (dBin fAdd (dBin fMod (dVar 2) (dC (.int 2147483587))) (dBin fMul (dC (.int 104729)) (dVar 1))) (dC (.int 29))) (dC (.int 40692))) (dC (.int 2147483399))) (dCons (dC (.int 0)) dNil)))))))
def g_law_pot : List W → Mo W := fnW 3 d_law_pot
def d_law : DS := (sRet (dCallN fAll (dCons (dLc .cl [1] (iRg1 (dCons (dCallN fMax2 (dCons (dC (.int 1)) (dCons (dCallN fMin2 (dCons (dC (.int 4)) (dCons (dCallN fLen (dCons (dVar 0) dNil)) dNil))) dNil))) dNil)) (.nm 1) dYes (dCall 1 g_law_right (dCons (dCall 2 g_law_pot (dCons (dVar 0) (dCons (dVar 1) dNil))) dNil))) dNil)))
def g_law : List W → Mo W := fnW 2 d_law
end Den

namespace Den
open PySem PySem.Spec PyProof.Rows L2 Bal
section
variable {S : Store}
def Rw (w : W) (r : List Int) : Prop := w = .tup (iW r) ∨ w = .cl (iW r)
theorem Rw.t (r : List Int) : Rw (.tup (iW r)) r := .inl rfl
theorem Rw.l (r : List Int) : Rw (.cl (iW r)) r := .inr rfl
theorem Rw.sq {w : W} {r : List Int} (h : Rw w r) (S : Store) : seqI S w = some (iW r, []) := by rcases h with rfl | rfl <;> rfl
def folk (r : List Int) : List Int := (srt r).reverse
def ahead (r : List Int) (w : Int) : Nat := tb (r.take (r.idxOf w)) w
def behind (r : List Int) (w : Int) : Nat := tb (r.drop (r.idxOf w)) w
/-- whom a floor at the left sees, rising -/
def sight (r : List Int) (k : Int) : List Int := (srt r).filter fun w => decide ((ahead r w : Int) < k)
def wing (r fl : List Int) : W := .tup (fl.map fun k => .tup (iW (sight r k)))
abbrev homes (fl fr : List Int) : W := .tup [.tup (iW fl), .tup (iW fr)]
def Hm (w : W) (fl fr : List Int) : Prop := ∃ x y, (w = .tup [x, y] ∨ w = .cl [x, y]) ∧ Rw x fl ∧ Rw y fr
theorem Hm.t (fl fr : List Int) : Hm (homes fl fr) fl fr := ⟨_, _, .inl rfl, .t fl, .t fr⟩
end

section
variable {S : Store}
theorem v_folk {w : W} {r : List Int} (h : Rw w r) : g_folk_of [w] S = .ok (.tup (iW (folk r))) S := by
  rcases h with rfl | rfl
  all_goals
    simp [g_folk_of, d_folk_of, fnW, sRet, lft, dCallN, dCons, dNil, dSortR, dCallF, fSortedR, intsOf, itmsS, bnd, ret, dVar, newK, rdS, fTuple]
    simp [iW, folk]
end

section
variable {S : Store}
theorem v_turned {w : W} {r : List Int} (h : Rw w r) : g_turned [w] S = .ok (.tup (iW r.reverse)) S := by
  rcases h with rfl | rfl
  all_goals simp [g_turned, d_turned, fnW, sRet, lft, dCallN, dCons, dNil, dRev, fRev, bnd, ret, dVar, rdS, fTuple, itmsS, newK, lstS]
end

section
variable {S : Store}
/-- what stays behind of a look at all of a row -/
abbrev gb (r : List Int) : List (List W) := [ents [] r, iW (fal [] r)]
theorem v_ata {w : W} {r : List Int} (h : Rw w r) (nd : r.Nodup) (hl : r.length ≤ 60) : g_all_taller_ahead [w] S = .ok (.dct S.length) (S ++ gb r) := ata_ok nd hl h.sq
theorem dg_at {r : List Int} {w : Int} (h : w ∈ r) : fDGet (S ++ gb r) (.dct S.length) (.int w) = some (.int (ahead r w : Nat)) := by
  have := dget_ents (x := w) [] h
  simp [fDGet, keyB, this, ahead]
end

section
variable {S : Store}
theorem v_left {w wf : W} {r fl : List Int} (h : Rw w r) (hf : Rw wf fl) (nd : r.Nodup) (hl : r.length ≤ 60) : g_seen_from_left [w, wf] S = .ok (wing r fl) (S ++ gb r) := by
  have e1 : ∀ k : Int, lcL (.nm 4) (dTst (dBin (fCmp pLt) (dBin fDGet (dVar 2) (dVar 4)) (dVar 5))) (dVar 4) [some w, some wf, some (.dct S.length), some (.tup (iW (srt r))), none, some (.int k)] (S ++ gb r) [] (iW (srt r)) (S ++ gb r) = .ok (iW (sight r k)) (S ++ gb r) := fun k => by
    have := lc_iW (i := 4) (tt := dTst (dBin (fCmp pLt) (dBin fDGet (dVar 2) (dVar 4)) (dVar 5))) (de := dVar 4) (ρ := [some w, some wf, some (.dct S.length), some (.tup (iW (srt r))), none, some (.int k)]) (S := S ++ gb r) (fun n => decide ((ahead r n : Int) < k)) (fun n => .int n) (srt r) fun n hn => by
      have hd := dg_at (S := S) ((srt_perm r).mem_iff.mp hn)
      exact ⟨by simp [dTst, dBin, dVar, bnd, rdS, hd, fCmp, toB, ret, pLt_ap], fun _ => by simp [dVar]⟩
    rw [this]
    rfl
  have e2 := lc_iW (i := 5) (tt := dYes) (de := dCallN fTuple (dCons (dLc .cl [4] (iSeq (dVar 3)) (.nm 4) (dTst (dBin (fCmp pLt) (dBin fDGet (dVar 2) (dVar 4)) (dVar 5))) (dVar 4)) dNil)) (ρ := [some w, some wf, some (.dct S.length), some (.tup (iW (srt r))), none, none]) (S := S ++ gb r) (fun _ => true) (fun k => .tup (iW (sight r k))) fl fun k _ => ⟨rfl, fun _ => by
    simp [dCallN, dCons, dNil, dLc, iSeq, dVar, bnd, ret, rdI, seqI, wipeW, e1, newK, rdS, fTuple, itmsS]⟩
  simp [g_seen_from_left, d_seen_from_left, fnW, sSeq, sSet, sAsg, sRet, lft, dRev, dCall, dCons, dNil, dVar, bnd, ret, v_ata h nd hl, v_folk h, newK, fRev, folk, setT, dCallN, dLc, iSeq, rdI, hf.sq, wipeW, e2, rdS, fTuple, itmsS]
  simp [wing]
theorem v_all {w h : W} {r fl fr : List Int} (hw : Rw w r) (hh : Hm h fl fr) (nd : r.Nodup) (hl : r.length ≤ 60) : g_seen_by_all [w, h] S = .ok (.tup [wing r fl, wing r.reverse fr]) (S ++ (gb r ++ gb r.reverse)) := by
  obtain ⟨x, y, hh, hx, hy⟩ := hh
  have nr : r.reverse.Nodup := (List.reverse_perm r).nodup_iff.mpr nd
  have lr : r.reverse.length ≤ 60 := by rw [List.length_reverse]; exact hl
  rcases hh with rfl | rfl
  all_goals simp [g_seen_by_all, d_seen_by_all, fnW, sSeq, sAsg, sRet, lft, dVar, setT, setTs, itmsS, dTup, dCons, dNil, dCall, bnd, ret, v_left hw hx nd hl, v_turned hw, v_left (.t r.reverse) hy nr lr, mkT, szB]
end

section
variable {S : Store}
theorem v_among {w : W} {ns : List Int} (x : Int) (h : Rw w ns) : g_taller_among [w, .int x] S = .ok (.int (tb ns x : Nat)) S := by
  have key := lc_iW (i := 2) (tt := dTst (dBin (fCmp pGt) (dVar 2) (dVar 1))) (de := dVar 2) (ρ := [some w, some (.int x), none]) (S := S) (fun i => decide (x < i)) (fun i => .int i) ns fun n _ => ⟨by simp [dTst, dBin, dVar, bnd, rdS, fCmp, toB, ret, pGt_ap], fun _ => by simp [dVar]⟩
  simp [g_taller_among, d_taller_among, fnW, sRet, lft, dCallN, dCons, dNil, dLc, iSeq, bnd, ret, dVar, rdI, rdS, h.sq, wipeW, key, newK, fLen, ixW, itmsS, tb]
theorem fl_iW (r : List Int) : flWs (iW r) = some (r.map V.int) := by
  induction r with
  | nil => rfl
  | cons x r ih =>
    have ih : flWs (List.map W.int r) = some (List.map V.int r) := ih
    show (match flW (.int x), flWs (List.map W.int r) with | some v, some vs => some (v :: vs) | _, _ => none) = _
    simp [flW, ih]
theorem in_rw {w : W} {r : List Int} (h : Rw w r) (x : Int) : inW S (.int x) w = some (decide (x ∈ r)) := by
  rcases h with rfl | rfl
  · exact in_iW S x r
  · rw [← in_iW S x r]; simp [inW, itmsS, fl_iW, flW]
end

section
variable {S : Store}
theorem at_rw {w : W} {r : List Int} (hw : Rw w r) (k : Nat) (h : k < r.length) : fIx S w (.int (k : Int)) = some (.int r[k]) := by
  have ea : atI (iW r) (k : Int) = some (.int r[k]) := by
    unfold atI ixN
    rw [iW_len, if_pos (by omega), if_pos (by omega)]
    simp [iW, List.getElem?_eq_getElem h]
  rcases hw with rfl | rfl <;> simp [fIx, ixW, itmsS, ea]
theorem cutT_rw {w : W} {r : List Int} (hw : Rw w r) (k : Nat) (h : k ≤ r.length) : ∃ u, Rw u (r.take k) ∧ ∀ (d : DE) (i : DE) (ρ : En) (S : Store), d ρ S = .ok w S → i ρ S = .ok (.int (k : Int)) S → dCut .cl d oNone (oSome i) ρ S = .ok u S := by
  rcases hw with rfl | rfl
  · exact ⟨_, .t _, fun d i ρ S h1 h2 => by simp [dCut, oNone, oSome, bnd, ret, h1, h2, fCut, cut_to r _ h]⟩
  · exact ⟨_, .l _, fun d i ρ S h1 h2 => by simp [dCut, oNone, oSome, bnd, ret, h1, h2, fCut, lstS, newK, cut_to r _ h]⟩
theorem cutF_rw {w : W} {r : List Int} (hw : Rw w r) (k : Nat) (h : k ≤ r.length) : ∃ u, Rw u (r.drop k) ∧ ∀ (d : DE) (i : DE) (ρ : En) (S : Store), d ρ S = .ok w S → i ρ S = .ok (.int (k : Int)) S → dCut .cl d (oSome i) oNone ρ S = .ok u S := by
  rcases hw with rfl | rfl
  · exact ⟨_, .t _, fun d i ρ S h1 h2 => by simp [dCut, oNone, oSome, bnd, ret, h1, h2, fCut, cut_from r _ h]⟩
  · exact ⟨_, .l _, fun d i ρ S h1 h2 => by simp [dCut, oNone, oSome, bnd, ret, h1, h2, fCut, lstS, newK, cut_from r _ h]⟩
end

section
variable {S : Store}
theorem v_refuse {w : W} {r : List Int} (hw : Rw w r) (k : Nat) (h : k + 1 < r.length) : g_refuse_no_pair [w, .int (k : Int)] S = .ok .non S := by
  have c1 : (k : Int) < (r.length : Int) - 1 := by omega
  rcases hw with rfl | rfl
  all_goals simp [g_refuse_no_pair, d_refuse_no_pair, fnW, sIf, sNil, lft, dNotT, dTst, dChain, fCmp, pLe_ap, pLt_ap, toB, rdS, bnd, ret, dVar, dC, dBin, fSub, dCallN, dCons, dNil, fLen, ixW, itmsS, c1]
theorem v_refuse_bad {w : W} {r : List Int} (hw : Rw w r) (i : Int) (h : ¬ (0 ≤ i ∧ i < (r.length : Int) - 1)) : g_refuse_no_pair [w, .int i] S = .err "NoPlace" "place" [.int i] S := by
  have c1 : ∀ S, dChain (fCmp pLe) (fCmp pLt) (dC (.int 0)) (dVar 1) (dBin fSub (dCallN fLen (dCons (dVar 0) dNil)) (dC (.int 1))) [some w, some (.int i)] S = .ok (.bl false) S := fun S => by
    by_cases h0 : 0 ≤ i
    · have h1 : ¬ i < (r.length : Int) - 1 := fun z => h ⟨h0, z⟩
      rcases hw with rfl | rfl
      all_goals simp [dChain, fCmp, pLe_ap, pLt_ap, rdS, bnd, ret, dVar, dC, dBin, fSub, dCallN, dCons, dNil, fLen, ixW, itmsS, h0, h1, toB]
    · rcases hw with rfl | rfl
      all_goals simp [dChain, fCmp, pLe_ap, pLt_ap, rdS, bnd, ret, dVar, dC, h0, toB]
  simp [g_refuse_no_pair, d_refuse_no_pair, fnW, sIf, lft, dNotT, dTst, c1, toB, bnd, ret, sRaise, dVar]
end

section
variable {S : Store}
/-- those at a place and the next exchanged -/
def sw (r : List Int) (k : Nat) : List Int := r.take k ++ [r[k + 1]?.getD 0, r[k]?.getD 0] ++ r.drop (k + 2)
theorem sw_zero (x y : Int) (r : List Int) : sw (x :: y :: r) 0 = y :: x :: r := by simp [sw]
theorem sw_succ (x : Int) (r : List Int) (k : Nat) : sw (x :: r) (k + 1) = x :: sw r k := by simp [sw]
theorem sw_set : ∀ {r : List Int} {k : Nat}, k + 1 < r.length → (r.set k (r[k + 1]?.getD 0)).set (k + 1) (r[k]?.getD 0) = sw r k
  | x :: y :: r, 0, _ => by simp [sw_zero]
  | x :: r, k + 1, h => by
    have ih := sw_set (r := r) (k := k) (by simpa using h)
    simp only [List.set_cons_succ, List.getElem?_cons_succ, sw_succ, ih]
  | [x], 0, h => by simp at h
  | [], k, h => by simp at h
end

section
variable {S : Store}
/-- the lesser one at a place and the next, how many taller ones ahead of both, behind both -/
def lessr (r : List Int) (k : Nat) : Int := if r[k + 1]?.getD 0 < r[k]?.getD 0 then r[k + 1]?.getD 0 else r[k]?.getD 0
def tlA (r : List Int) (k : Nat) : Nat := tb (r.take k) (lessr r k)
def tlB (r : List Int) (k : Nat) : Nat := tb (r.drop (k + 2)) (lessr r k)
theorem v_tellers {w : W} {r : List Int} (hw : Rw w r) (k : Nat) (h : k + 1 < r.length) : g_tellers [w, .int (k : Int)] S = .ok (.tup [.int ((tlA r k : Int) + 1), .int ((tlB r k : Int) + 1)]) S := by
  have e1 := fun S => at_rw (S := S) hw k (by omega)
  have e2 : ∀ S, fIx S w (.int ((k : Int) + 1)) = some (.int r[k + 1]) := fun S => at_rw (S := S) hw (k + 1) h
  obtain ⟨u, hu, c1⟩ := cutT_rw hw k (by omega)
  obtain ⟨v, hv, c2⟩ := cutF_rw hw (k + 2) (by omega)
  have m1 : fMin2 S [.int r[k], .int r[k + 1]] = some (.int (lessr r k)) := by
    simp [fMin2, lessr, h, show k < r.length by omega]
  have c1 := c1 (dVar 0) (dVar 1) [some w, some (.int (k : Int)), some (.int (lessr r k)), none, none] S (by simp [dVar]) (by simp [dVar])
  have c2 := c2 (dVar 0) (dBin fAdd (dVar 1) (dC (.int 2))) [some w, some (.int (k : Int)), some (.int (lessr r k)), some (.int (tlA r k : Nat)), none] S (by simp [dVar]) (by simp [dVar, dBin, dC, bnd, ret, rdS, fAdd])
  have a1 := v_among (S := S) (lessr r k) hu
  have a2 := v_among (S := S) (lessr r k) hv
  simp [g_tellers, d_tellers, fnW, sSeq, sSet, sAsg, sRet, lft, dVar, setT, dTup, dCons, dNil, dCall, dCallN, dBin, dC, bnd, ret, rdS, e1, e2, fAdd, m1]
  simp only [tlA, tlB] at c2 ⊢
  simp [c1, a1, c2, a2, mkT, szB]
def toldN (r fl fr : List Int) (k : Nat) : List W := (if (tlA r k : Int) + 1 ∈ fl then [W.tup [.str "left", .int ((tlA r k : Int) + 1)]] else []) ++ (if (tlB r k : Int) + 1 ∈ fr then [W.tup [.str "right", .int ((tlB r k : Int) + 1)]] else [])
end

section
variable {S : Store}
theorem v_told {w hs : W} {r fl fr : List Int} (hw : Rw w r) (hh : Hm hs fl fr) (k : Nat) (h : k + 1 < r.length) : g_told_by [w, hs, .int (k : Int)] S = .ok (.lst S.length) (S ++ [toldN r fl fr k]) := by
  obtain ⟨a, b, hh, ha, hb⟩ := hh
  have i1 := in_rw (S := S) ha ((tlA r k : Int) + 1)
  have i2 := in_rw (S := S) hb ((tlB r k : Int) + 1)
  have b1 : ∀ a b c d e f : W, zipL [[a, b], [c, d], [e, f]] = [.tup [a, c, e], .tup [b, d, f]] := fun a b c d e f => rfl
  rcases hh with rfl | rfl
  all_goals
    by_cases q1 : (tlA r k : Int) + 1 ∈ fl <;> by_cases q2 : (tlB r k : Int) + 1 ∈ fr
    all_goals simp [g_told_by, d_told_by, fnW, sSeq, sDrop, sRet, lft, dVar, dC, dCall, dCons, dNil, bnd, ret, v_refuse hw k h, v_tellers hw k h, dLc, iZip, zipI, sqI, seqI, rdI, c_SIDES, b1, lcL, setT, setTs, itmsS, wipeW, dTst, dBin, rdS, fIn, i1, i2, q1, q2, toB, dTup, mkT, szB, newK, toldN]
end

end Den

namespace Den
open PySem PySem.Spec PyProof.Rows L2 Bal
section
variable {S : Store}
theorem iW_at (r : List Int) (k : Nat) (h : k < r.length) : atI (iW r) (k : Int) = some (.int (r[k]?.getD 0)) := by
  unfold atI ixN
  rw [iW_len, if_pos (by omega), if_pos (by omega)]
  simp [iW, List.getElem?_eq_getElem h]
/-- what is drawn from -/
def PotL (p : List W) (c : Int) : Prop := ∃ x0 x1 x2 : Int, p = [.int x0, .int x1, .int x2] ∧ 0 ≤ x0 ∧ 0 ≤ x1 ∧ x1 < 2147483399 ∧ 0 ≤ x2 ∧ x2 ≤ c
theorem PotL.mono {p : List W} {c d : Int} (h : PotL p c) (hcd : c ≤ d) : PotL p d := by
  obtain ⟨x0, x1, x2, e, h0, h1, h2, h3, h4⟩ := h
  exact ⟨x0, x1, x2, e, h0, h1, h2, h3, by omega⟩
def fnR : Out Fl → Out W
  | .ok (.rt w) S' => .ok w S'
  | .ok (.nx _) S' => .ok .non S'
  | .ok (.er c f us _) S' => .err c f us S'
  | _ => .bad
theorem fnW_R (N : Nat) (d : DS) (ws : List W) : fnW N d ws S = fnR (d (ws.map some ++ List.replicate (N - ws.length) none) S) := rfl
theorem mulL {i j : Int} (h1 : -(2 ^ 64) < i) (h2 : i < 2 ^ 64) : fMul S (.int i) (.int j) = some (.int (i * j)) := by
  have : mulB i j = true := by
    unfold mulB
    rw [decide_eq_true h1, decide_eq_true h2]
    rfl
  simp [fMul, this]
theorem mulR {i j : Int} (h1 : -(2 ^ 64) < j) (h2 : j < 2 ^ 64) : fMul S (.int i) (.int j) = some (.int (i * j)) := by
  have : mulB i j = true := by
    unfold mulB
    rw [decide_eq_true h1, decide_eq_true h2]
    simp
  simp [fMul, this]
theorem modP {i j : Int} (h : 0 < j) : fMod S (.int i) (.int j) = some (.int (i % j)) := by simp [fMod, h]
theorem divP {i j : Int} (h : 0 < j) (h2 : j < 1073741824) : fDiv S (.int i) (.int j) = some (.int (i / j)) := by simp [fDiv, h, h2]
theorem pow3 {i : Int} (h : i.natAbs < 2 ^ 64) : fPow S (.int i) (.int 3) = some (.int (i ^ 3)) := by
  have : decide ((0 : Int) ≤ 3 ∧ (3 : Int) ≤ 1000000 ∧ i.natAbs < 2 ^ 64) = true := decide_eq_true ⟨by decide, by decide, h⟩
  show (if decide ((0 : Int) ≤ 3 ∧ (3 : Int) ≤ 1000000 ∧ i.natAbs < 2 ^ 64) = true then some (W.int (i ^ (3 : Int).toNat)) else none) = _
  rw [if_pos this]
  rfl
theorem pow7 : fPow S (.int 10) (.int 7) = some (.int 10000000) := rfl
theorem pow6 : fPow S (.int 10) (.int 6) = some (.int 1000000) := rfl
theorem pow18 : fPow S (.int 10) (.int 18) = some (.int 1000000000000000000) := rfl
theorem at0 (x y z : W) : atI [x, y, z] 0 = some x := rfl
theorem at1 (x y z : W) : atI [x, y, z] 1 = some y := rfl
theorem at2 (x y z : W) : atI [x, y, z] 2 = some z := rfl
theorem v_take {n : Nat} {c b : Int} {p : List W} (e : S[n]? = some p) (hp : PotL p c) (hc : c ≤ 1000000) (h0 : 0 < b) (h1 : b ≤ 10000000) (m : Nat) : ∃ (r : Int) (p' : List W), g_law_take (m + 1) [.lst n, .int b] S = .ok (.int r) (S.set n p') ∧ 0 ≤ r ∧ r < b ∧ PotL p' (c + 1) := by
  obtain ⟨x0, x1, x2, ep, p0, p1, p2, p3, p4⟩ := hp
  subst ep
  have hn : n < S.length := (List.getElem?_eq_some_iff.mp e).1
  have nb : ¬ (10000000 : Int) < b := by omega
  have i0 : ixN 3 0 = some 0 := rfl
  have i2 : ixN 3 2 = some 2 := rfl
  show ∃ (r : Int) (p' : List W), fnW 4 (d_law_take (g_law_take m)) [.lst n, .int b] S = _ ∧ _
  by_cases hx : 0 < x0
  · refine ⟨x0 % b, [.int (x0 / b), .int x1, .int x2], ?_, Int.emod_nonneg _ (by omega), Int.emod_lt_of_pos _ h0, ⟨x0 / b, x1, x2, rfl, Int.ediv_nonneg p0 (by omega), p1, p2, p3, by omega⟩⟩
    simp [d_law_take, fnW, sSeq, sIf, sRet, sSet, sAsg, sNil, lft, dTst, dBin, dVar, dC, bnd, ret, rdS, fCmp, pGt_ap, toB, fIx, ixW, itmsS, e, at0, hx, modP h0, divP h0 (show b < 1073741824 by omega), setT, sAsgM, gPut, putW, i0]
  · have hw : (x1 + 52774 * (x2 + 1)).natAbs < 2 ^ 64 := by omega
    generalize hq : (x1 + 52774 * (x2 + 1)) ^ 3 % 2147483563 = q
    have q0 : 0 ≤ q := by rw [← hq]; exact Int.emod_nonneg _ (by decide)
    have q1 : q < 2147483563 := by rw [← hq]; exact Int.emod_lt_of_pos _ (by decide)
    refine ⟨(q * (q % 40013 + 11) + (x2 + 1) * 6089) % 2147483647 / 32 % b, [.int x0, .int x1, .int (x2 + 1)], ?_, Int.emod_nonneg _ (by omega), Int.emod_lt_of_pos _ h0, ⟨x0, x1, x2 + 1, rfl, p0, p1, p2, by omega, by omega⟩⟩
    have e2 : (S.set n [.int x0, .int x1, .int (x2 + 1)])[n]? = some [.int x0, .int x1, .int (x2 + 1)] := by rw [List.getElem?_set_self hn]
    simp [d_law_take, fnW, sSeq, sIf, sRet, sSet, sAsg, sNil, lft, dTst, dBin, dVar, dC, bnd, ret, rdS, fCmp, pGt_ap, toB, fIx, ixW, itmsS, e, e2, at0, at1, at2, hx, nb, pow7, fAdd, setT, sAsgM, gPut, putW, i2, mulL (S := S.set n [.int x0, .int x1, .int (x2 + 1)]) (i := 52774) (j := x2 + 1) (by decide) (by decide), pow3 hw, modP (show (0 : Int) < 2147483563 by decide), modP (show (0 : Int) < 40013 by decide), modP (show (0 : Int) < 2147483647 by decide), divP (show (0 : Int) < 32 by decide) (show (32 : Int) < 1073741824 by decide), modP h0, hq, mulL (S := S.set n [.int x0, .int x1, .int (x2 + 1)]) (i := q) (j := q % 40013 + 11) (by omega) (by omega), mulR (S := S.set n [.int x0, .int x1, .int (x2 + 1)]) (i := x2 + 1) (j := 6089) (by decide) (by decide)]
theorem v_pot (ns : List Int) (k : Nat) : ∃ p, g_law_pot [.sc (iW ns), .int (k : Int)] S = .ok (.lst S.length) (S ++ [p]) ∧ PotL p 0 := by
  have key : ∀ cell : Int, ∃ x0 x1 : Int, 0 ≤ x0 ∧ 0 ≤ x1 ∧ x1 < 2147483399 ∧ (sRet (dLst (dCons (dBin fMul (dCallN fAbs (dCons (dVar 2) dNil)) (dCallN fInt (dCons (dBin (fCmp pGe) (dCallN fAbs (dCons (dVar 2) dNil)) (dBin fPow (dC (.int 10)) (dC (.int 18)))) dNil))) (dCons (dBin fMod (dBin fMul (dBin fAdd (dBin fAdd (dBin fMod (dVar 2) (dC (.int 2147483587))) (dBin fMul (dC (.int 104729)) (dVar 1))) (dC (.int 29))) (dC (.int 40692))) (dC (.int 2147483399))) (dCons (dC (.int 0)) dNil))))) [some (.sc (iW ns)), some (.int (k : Int)), some (.int cell)] S = .ok (.rt (.lst S.length)) (S ++ [[.int x0, .int x1, .int 0]]) := fun cell => by
    refine ⟨(if cell < 0 then -cell else cell) * (if decide ((1000000000000000000 : Int) ≤ (if cell < 0 then -cell else cell)) = true then 1 else 0), (cell % 2147483587 + 104729 * (k : Int) + 29) * 40692 % 2147483399, ?_, Int.emod_nonneg _ (by decide), Int.emod_lt_of_pos _ (by decide), ?_⟩
    · refine Int.mul_nonneg ?_ ?_
      · split <;> omega
      · split <;> omega
    · have m1 : ∀ b : Bool, fMul S (.int (if cell < 0 then -cell else cell)) (.int (if b = true then 1 else 0)) = some (.int ((if cell < 0 then -cell else cell) * (if b = true then 1 else 0))) := fun b => by cases b <;> exact mulR (by decide) (by decide)
      simp only [sRet, lft, dLst, dCons, dNil, dBin, dCallN, dVar, dC, bnd, ret, rdS, fAbs, fInt, fCmp, pGe_ap, pow18, m1, fAdd, mulL (S := S) (i := 104729) (j := (k : Int)) (by decide) (by decide), mulR (S := S) (i := cell % 2147483587 + 104729 * (k : Int) + 29) (j := 40692) (by decide) (by decide), modP (show (0 : Int) < 2147483587 by decide), modP (show (0 : Int) < 2147483399 by decide), List.getElem?_cons_zero, List.getElem?_cons_succ]
      rfl
  have fin : ∀ cell : Int, g_law_pot [.sc (iW ns), .int (k : Int)] S = fnR ((sRet (dLst (dCons (dBin fMul (dCallN fAbs (dCons (dVar 2) dNil)) (dCallN fInt (dCons (dBin (fCmp pGe) (dCallN fAbs (dCons (dVar 2) dNil)) (dBin fPow (dC (.int 10)) (dC (.int 18)))) dNil))) (dCons (dBin fMod (dBin fMul (dBin fAdd (dBin fAdd (dBin fMod (dVar 2) (dC (.int 2147483587))) (dBin fMul (dC (.int 104729)) (dVar 1))) (dC (.int 29))) (dC (.int 40692))) (dC (.int 2147483399))) (dCons (dC (.int 0)) dNil))))) [some (.sc (iW ns)), some (.int (k : Int)), some (.int cell)] S) → ∃ p, g_law_pot [.sc (iW ns), .int (k : Int)] S = .ok (.lst S.length) (S ++ [p]) ∧ PotL p 0 := fun cell h => by
    obtain ⟨x0, x1, h0, h1, h2, e⟩ := key cell
    rw [h, e]
    exact ⟨_, rfl, ⟨x0, x1, 0, rfl, h0, h1, h2, by decide, by decide⟩⟩
  by_cases hk : k < ns.length
  · refine fin (ns[k]?.getD 0) ?_
    have c1 : (k : Int) < (ns.length : Int) := by omega
    simp [g_law_pot, d_law_pot, fnW_R, sSeq, sIf, sSet, sAsg, sNil, lft, dTst, dBin, dVar, dC, dCallN, dCons, dNil, bnd, ret, rdS, fCmp, pLt_ap, toB, fLen, ixW, fIx, iW_at ns k hk, setT, hk]
  · refine fin 0 ?_
    have c1 : ¬ (k : Int) < (ns.length : Int) := by omega
    simp [g_law_pot, d_law_pot, fnW_R, sSeq, sIf, sSet, sAsg, sNil, lft, dTst, dBin, dVar, dC, dCallN, dCons, dNil, bnd, ret, rdS, fCmp, pLt_ap, toB, fLen, ixW, fIx, setT, hk]
end

section
variable {S : Store}
theorem iW_set (r : List Int) (k : Nat) (x : Int) : (iW r).set k (.int x) = iW (r.set k x) := by simp [iW, List.map_set]
theorem ixN_ok {n k : Nat} (h : k < n) : ixN n (k : Int) = some k := by
  unfold ixN
  rw [if_pos (by omega), if_pos (by omega)]
  simp
theorem v_exch {w : W} {r : List Int} (hw : Rw w r) (k : Nat) (h : k + 1 < r.length) : g_exchanged [w, .int (k : Int)] S = .ok (.tup (iW (sw r k))) (S ++ [iW (sw r k)]) := by
  have rf := v_refuse (S := S) hw k h
  have e1 := iW_at r k (by omega)
  have e2 : atI (iW r) ((k : Int) + 1) = some (.int (r[k + 1]?.getD 0)) := iW_at r (k + 1) h
  have x1 : ixN r.length (k : Int) = some k := ixN_ok (by omega)
  have x2 : ixN r.length ((k : Int) + 1) = some (k + 1) := ixN_ok (n := r.length) (k := k + 1) h
  have sws := sw_set h
  have l1 : ∀ x, (r.set k x).length = r.length := fun x => by simp
  rcases hw with rfl | rfl
  all_goals simp [g_exchanged, d_exchanged, fnW, sSeq, sDrop, sRet, sAsg, lft, dCall, rf, rdS, bnd, ret, dVar, dC, dBin, dCallN, dCons, dNil, ixW, itmsS, dCallF, fList, newK, setT, sAsgM, dTup, fIx, fAdd, e1, e2, mkT, szB, gTp, gsCons, gsNil, gPut, putW, x1, x2, iW_set, fTuple, sws]
end

section
variable {S : Store}
theorem set_app {α : Type} {T g : List α} {n : Nat} (h : n < T.length) (p : α) : (T ++ g).set n p = T.set n p ++ g := List.set_append_left _ _ h
theorem get_lt {α : Type} {T : List α} {n : Nat} {p : α} (h : T[n]? = some p) : n < T.length := (List.getElem?_eq_some_iff.mp h).1
theorem eq_int (i j : Int) : fEq S (.int i) (.int j) = some (.bl (decide (i = j))) := by
  by_cases h : i = j <;> simp [fEq, eqD, datS, dat, SeqAt.shaped, PyData.eqv, PyData.canLay0, PyData.depth, h]
theorem lay_ints (p : List Int) : PyData.canLayAll0 (p.map .int) = true := by
  induction p with
  | nil => rfl
  | cons x p ih => simp [PyData.canLayAll0, PyData.canLay0, ih]
theorem depth_ints (p : List Int) : PyData.depthAll (p.map .int) = 0 := by
  induction p with
  | nil => rfl
  | cons x p ih => simp [PyData.depthAll, PyData.depth, ih]
theorem eqv_ints : ∀ p q : List Int, PyData.eqvAll (p.map .int) (q.map .int) = decide (p = q) := by
  intro p
  induction p with
  | nil => intro q; cases q <;> simp [PyData.eqvAll]
  | cons x p ih =>
    intro q
    cases q with
    | nil => simp [PyData.eqvAll]
    | cons y q =>
      simp only [List.map_cons, PyData.eqvAll, ih, PyData.eqv]
      by_cases hx : x = y <;> by_cases hp : p = q <;> simp [hx, hp]
end


section
variable {S : Store}
/-- the store behind draws: what was there is, but for the pot; some more -/
def Aft (S S' : Store) (n : Nat) (c : Int) : Prop := ∃ p g, S' = S.set n p ++ g ∧ PotL p c
theorem Aft.pot {S S' : Store} {n : Nat} {c : Int} (h : Aft S S' n c) (hn : n < S.length) : ∃ p, S'[n]? = some p ∧ PotL p c := by
  obtain ⟨p, g, rfl, hp⟩ := h
  exact ⟨p, by rw [List.getElem?_append_left (by simpa using hn), List.getElem?_set_self hn], hp⟩
theorem Aft.len {S S' : Store} {n : Nat} {c : Int} (h : Aft S S' n c) (hn : n < S.length) : n < S'.length := by
  obtain ⟨p, g, rfl, hp⟩ := h
  simp; omega
theorem Aft.trans {S S1 S2 : Store} {n : Nat} {c d : Int} (hn : n < S.length) (h : Aft S S1 n c) (h2 : Aft S1 S2 n d) : Aft S S2 n d := by
  obtain ⟨p, g, rfl, _⟩ := h
  obtain ⟨q, g2, rfl, hq⟩ := h2
  refine ⟨q, g ++ g2, ?_, hq⟩
  rw [set_app (by simpa using hn), List.set_set, List.append_assoc]
theorem Aft.more {S S1 : Store} {n : Nat} {c : Int} (h : Aft S S1 n c) (g : Store) : Aft S (S1 ++ g) n c := by
  obtain ⟨p, g1, rfl, hp⟩ := h
  exact ⟨p, g1 ++ g, by rw [List.append_assoc], hp⟩
theorem Aft.mono {S S1 : Store} {n : Nat} {c d : Int} (h : Aft S S1 n c) (hd : c ≤ d) : Aft S S1 n d := by
  obtain ⟨p, g1, rfl, hp⟩ := h
  exact ⟨p, g1, rfl, hp.mono hd⟩
theorem Aft.same {S S1 : Store} {n : Nat} {c : Int} {i : Nat} {x : List W} (h : Aft S S1 n c) (hi : S[i]? = some x) (hne : i ≠ n) : S1[i]? = some x := by
  obtain ⟨p, g1, rfl, hp⟩ := h
  rw [List.getElem?_append_left (by simpa using get_lt hi), List.getElem?_set_ne (Ne.symm hne)]
  exact hi
end


end Den

namespace Den
open PySem PySem.Spec PyProof.Rows L2 Bal
section
variable {S : Store}
theorem same_seq {g : List W → Mo W} {x y : W} {xs ys : List W} {keep : List Nat} {k : Kd} (hk : kSeq k = true) (h1 : kdW x = some k) (h2 : kdW y = some k) (hq : sqI S [x, y] = some ([xs, ys], keep)) (kp : kept S S keep = true) (e1 : ixW S x = some xs) (e2 : ixW S y = some ys) (hl : xs.length = ys.length)
    (h : ∀ i, i < xs.length → g [xs[i]?.getD .non, ys[i]?.getD .non] S = .ok (.bl true) S) : fnW 4 (d_law_same g) [x, y] S = .ok (.bl true) S := by
  have key := lc_all (t := .tp [.nm 2, .nm 3]) (de := dCall 2 g (dCons (dVar 2) (dCons (dVar 3) dNil))) (ρ := [some x, some y, none, none]) (S := S) kp (.bl true) ((List.range xs.length).map fun i => W.tup [xs[i]?.getD .non, ys[i]?.getD .non]) fun w hw => by
    obtain ⟨i, hi, rfl⟩ := List.mem_map.mp hw
    have := h i (List.mem_range.mp hi)
    exact ⟨[some x, some y, some (xs[i]?.getD .non), some (ys[i]?.getD .non)], by simp [setT, setTs, itmsS], by simp [dCall, dCons, dNil, dVar, bnd, ret, this]⟩
  have bt : ∀ n : Nat, blT (List.replicate n (W.bl true)) = some (List.replicate n true) := fun n => by
    induction n with
    | zero => rfl
    | succ n ih => simp [List.replicate_succ, blT, ih]
  have eb : ∀ b : Bool, eqD S (.bl b) (.bl b) = some true := fun b => by cases b <;> simp [eqD, datS, dat, SeqAt.shaped, PyData.eqv, PyData.canLay0, PyData.depth]
  have ei : ∀ i : Int, eqD S (.int i) (.int i) = some true := fun i => by simp [eqD, datS, dat, SeqAt.shaped, PyData.eqv, PyData.canLay0, PyData.depth]
  rw [← zipL_two hl] at key
  simp [d_law_same, fnW, sSeq, sIf, sRet, sNil, lft, dTst, dIs, dVar, bnd, ret, h1, h2, hk, toB, dOrT, dBin, rdS, fNe, eb, dAnd, fEq, dCallN, dCons, dNil, fLen, e1, e2, hl, ei, dLc, iZip, zipI, hq, rdI, wipeW, key, newK, fAll, lstS, bt]
theorem kept_sq {x y : W} {xs ys : List W} {keep : List Nat} (h : sqI S [x, y] = some ([xs, ys], keep)) : kept S S keep = true := by
  refine kept_of fun n hn => ⟨?_, rfl⟩
  have one : ∀ {w : W} {ws : List W} {k : List Nat}, seqI S w = some (ws, k) → ∀ n ∈ k, n < S.length := fun {w ws k} e n hn => by
    cases w with
    | tup us => cases e; simp at hn
    | cl us => cases e; simp at hn
    | lst m =>
      have e : (S[m]?).map (fun ws => (ws, [m])) = some (ws, k) := e
      cases e1 : S[m]? with
      | none => rw [e1] at e; cases e
      | some us =>
        rw [e1] at e
        cases e
        rw [List.mem_singleton.mp hn]
        exact (List.getElem?_eq_some_iff.mp e1).1
    | _ => cases e
  simp only [sqI] at h
  cases e1 : seqI S x with
  | none => rw [e1] at h; cases h
  | some p =>
    cases e2 : seqI S y with
    | none => rw [e1, e2] at h; cases h
    | some q =>
      rw [e1, e2] at h
      cases h
      rcases List.mem_append.mp hn with hn | hn
      · exact one e1 n hn
      · rw [List.append_nil] at hn
        exact one e2 n hn
theorem same_true : ∀ (n : Nat) (x y : W), likeB S n x y = true → g_law_same n [x, y] S = .ok (.bl true) S
  | 0, _, _, h => by simp [likeB] at h
  | n + 1, x, y, h => by
    have eb : ∀ b : Bool, eqD S (.bl b) (.bl b) = some true := fun b => by cases b <;> simp [eqD, datS, dat, SeqAt.shaped, PyData.eqv, PyData.canLay0, PyData.depth]
    show fnW 4 (d_law_same (g_law_same n)) [x, y] S = _
    have lists : ∀ {x y : W} {xs ys : List W}, lstS S x = some xs → lstS S y = some ys → all2 (likeB S n) xs ys = true → fnW 4 (d_law_same (g_law_same n)) [x, y] S = .ok (.bl true) S := fun {x y xs ys} e1 e2 h => by
      have q1 : ∃ k, seqI S x = some (xs, k) ∧ kdW x = some .lst ∧ ixW S x = some xs := by
        cases x with
        | cl us => cases e1; exact ⟨_, rfl, rfl, rfl⟩
        | lst m =>
          have e1 : S[m]? = some xs := e1
          exact ⟨[m], by simp [seqI, e1], rfl, by simp [ixW, itmsS, e1]⟩
        | _ => cases e1
      have q2 : ∃ k, seqI S y = some (ys, k) ∧ kdW y = some .lst ∧ ixW S y = some ys := by
        cases y with
        | cl us => cases e2; exact ⟨_, rfl, rfl, rfl⟩
        | lst m =>
          have e2 : S[m]? = some ys := e2
          exact ⟨[m], by simp [seqI, e2], rfl, by simp [ixW, itmsS, e2]⟩
        | _ => cases e2
      obtain ⟨k1, s1, d1, i1⟩ := q1
      obtain ⟨k2, s2, d2, i2⟩ := q2
      have hq : sqI S [x, y] = some ([xs, ys], k1 ++ (k2 ++ [])) := by simp [sqI, s1, s2]
      exact same_seq (k := .lst) rfl d1 d2 hq (kept_sq hq) i1 i2 (all2_len h) fun i hi => same_true n _ _ (all2_at h i hi)
    cases x with
    | int i =>
      cases y with
      | int j =>
        have h : decide (i = j) = true := h
        have h := of_decide_eq_true h
        subst h
        simp [d_law_same, fnW, sSeq, sIf, sRet, sNil, lft, dTst, dIs, dVar, dC, bnd, ret, kdW, kSeq, kStr, kInt, kBool, toB, dOrT, dBin, rdS, fIs, isN, eb, dAnd, fEq, eqD, datS, dat, SeqAt.shaped, PyData.eqv, PyData.canLay0, PyData.depth]
      | _ => simp [likeB, lstS] at h
    | bl i =>
      cases y with
      | bl j =>
        have h : decide (i = j) = true := h
        have h := of_decide_eq_true h
        subst h
        simp [d_law_same, fnW, sSeq, sIf, sRet, sNil, lft, dTst, dIs, dVar, dC, bnd, ret, kdW, kSeq, kStr, kInt, kBool, toB, dOrT, dBin, rdS, fIs, isN, eb, dAnd, fEq]
      | _ => simp [likeB, lstS] at h
    | str i =>
      cases y with
      | str j =>
        have h : (decide (i = j) && PyData.canLay0 (.str i)) = true := h
        rw [Bool.and_eq_true] at h
        have h1 := of_decide_eq_true h.1
        subst h1
        simp [d_law_same, fnW, sSeq, sIf, sRet, sNil, lft, dTst, dIs, dVar, dC, bnd, ret, kdW, kSeq, kStr, kInt, kBool, toB, dOrT, dBin, rdS, fIs, isN, dAnd, fEq, eqD, datS, dat, SeqAt.shaped, PyData.eqv, PyData.depth, h.2]
        simp [PyData.canLay0, PyData.eqv]
      | _ => simp [likeB, lstS] at h
    | tup xs =>
      cases y with
      | tup ys =>
        have h : all2 (likeB S n) xs ys = true := h
        have hq : sqI S [.tup xs, .tup ys] = some ([xs, ys], []) := rfl
        exact same_seq (k := .tup) rfl rfl rfl hq (kept_sq hq) rfl rfl (all2_len h) fun i hi => same_true n _ _ (all2_at h i hi)
      | _ => simp [likeB, lstS] at h
    | cl xs =>
      cases y with
      | cl ys => exact lists rfl rfl h
      | lst m =>
        cases e : S[m]? with
        | none => simp [likeB, lstS, e] at h
        | some ys => exact lists rfl e (by simpa [likeB, lstS, e] using h)
      | _ => simp [likeB, lstS] at h
    | lst k =>
      cases e : S[k]? with
      | none => cases y <;> simp [likeB, lstS, e] at h
      | some xs =>
        cases y with
        | cl ys => exact lists e rfl (by simpa [likeB, lstS, e] using h)
        | lst m =>
          cases e2 : S[m]? with
          | none => simp [likeB, lstS, e, e2] at h
          | some ys => exact lists e e2 (by simpa [likeB, lstS, e, e2] using h)
        | _ => simp [likeB, lstS, e] at h
    | _ => cases y <;> simp [likeB, lstS] at h
end


section
variable {S : Store}
theorem mapM_ints (l : List Int) (n : Nat) : (iW l).mapM (dat S (n + 1)) = some (l.map .int) := by
  induction l with
  | nil => rfl
  | cons x p ih => simp [iW_cons, List.mapM_cons, ih, dat]
theorem datS_tup (l : List Int) : datS S (.tup (iW l)) = some (.tuple (l.map .int)) := by
  simp [datS, dat, mapM_ints l 10, SeqAt.shaped, PyData.canLay0, PyData.depth, lay_ints, depth_ints]
theorem eq_tup (p q : List Int) : eqD S (.tup (iW p)) (.tup (iW q)) = some (decide (p = q)) := by
  simp [eqD, datS_tup, PyData.eqv, eqv_ints]
end



section
variable {S : Store}
theorem ahead_cons (y : Int) (r : List Int) (x : Int) : ahead (y :: r) x = if y = x then 0 else (if x < y then 1 else 0) + ahead r x := by
  unfold ahead
  by_cases h : y = x
  · subst h
    simp [tb_nil]
  · have nb : (y == x) = false := by simp [h]
    rw [List.idxOf_cons, nb, if_neg h]
    simp [tb_cons]
end

end Den

namespace Den
open PySem PySem.Spec PyProof.Rows L2 Bal
/-! ### a gallery in the store -/
section
variable {S : Store}
abbrev sd (r fl fr : List Int) : W := .tup [.tup (iW r), homes fl fr]
abbrev nt (a b : Str) : W := .tup [.str a, .str b]
theorem gapp {m : Nat} {x : List W} (h : S[m]? = some x) (J : Store) : (S ++ J)[m]? = some x := by rw [List.getElem?_append_left (List.getElem?_eq_some_iff.mp h).1, h]
structure Hall (S : Store) (j p q : Nat) (ps ns : List W) : Prop where
  hi : S[j]? = some [.lst p, .lst q]
  hp : S[p]? = some ps
  hq : S[q]? = some ns
  jp : j ≠ p
  jq : j ≠ q
  pq : p ≠ q
variable {j p q : Nat} {ps ns : List W} {r fl fr : List Int}
theorem Hall.app (h : Hall S j p q ps ns) (J : Store) : Hall (S ++ J) j p q ps ns := ⟨gapp h.hi J, gapp h.hp J, gapp h.hq J, h.jp, h.jq, h.pq⟩
theorem Hall.ql (h : Hall S j p q ps ns) : q < S.length := (List.getElem?_eq_some_iff.mp h.hq).1
theorem Hall.pl (h : Hall S j p q ps ns) : p < S.length := (List.getElem?_eq_some_iff.mp h.hp).1
theorem Hall.setQ (h : Hall S j p q ps ns) (ns' : List W) : Hall (S.set q ns') j p q ps ns' := ⟨by rw [List.getElem?_set_ne (Ne.symm h.jq)]; exact h.hi, by rw [List.getElem?_set_ne (Ne.symm h.pq)]; exact h.hp, List.getElem?_set_self h.ql, h.jp, h.jq, h.pq⟩
theorem Hall.setP (h : Hall S j p q ps ns) (ps' : List W) : Hall (S.set p ps') j p q ps' ns := ⟨by rw [List.getElem?_set_ne (Ne.symm h.jp)]; exact h.hi, List.getElem?_set_self h.pl, by rw [List.getElem?_set_ne h.pq]; exact h.hq, h.jp, h.jq, h.pq⟩
theorem at_last (xs : List W) (x : W) : atI (xs ++ [x]) (-1) = some x := by
  have l : (xs ++ [x]).length = xs.length + 1 := by simp
  unfold atI ixN
  rw [l, if_neg (by decide), if_pos (by omega)]
  have : (-1 + ((xs.length + 1 : Nat) : Int)).toNat = xs.length := by omega
  rw [this]
  simp
theorem v_row (h : Hall S j p q (ps ++ [sd r fl fr]) ns) : g_Gallery_row [.ins j] S = .ok (.tup (iW r)) S := by
  have a1 := at_last ps (sd r fl fr)
  have a2 : atI [W.tup (iW r), homes fl fr] 0 = some (.tup (iW r)) := rfl
  have e1 := h.hi
  have e2 := h.hp
  show fnW 1 d_Gallery_row _ S = _
  simp [d_Gallery_row, fnW, sRet, lft, dBin, dIFld, dUn, fNeg, dVar, dC, bnd, ret, rdS, fldW, e1, fIx, ixW, itmsS, e2, a1, a2]
theorem v_houses (h : Hall S j p q (ps ++ [sd r fl fr]) ns) : g_Gallery_houses [.ins j] S = .ok (homes fl fr) S := by
  have a1 := at_last ps (sd r fl fr)
  have a2 : atI [W.tup (iW r), homes fl fr] 1 = some (homes fl fr) := rfl
  have e1 := h.hi
  have e2 := h.hp
  show fnW 1 d_Gallery_houses _ S = _
  simp [d_Gallery_houses, fnW, sRet, lft, dBin, dIFld, dUn, fNeg, dVar, dC, bnd, ret, rdS, fldW, e1, fIx, ixW, itmsS, e2, a1, a2]
theorem v_deeds (h : Hall S j p q ps ns) : g_Gallery_deeds [.ins j] S = .ok (.int ((ps.length : Int) - 1)) S := by
  have e1 := h.hi
  have e2 := h.hp
  show fnW 1 d_Gallery_deeds _ S = _
  simp [d_Gallery_deeds, fnW, sRet, lft, dBin, dIFld, dCallN, dCons, dNil, dVar, dC, bnd, ret, rdS, fldW, e1, fLen, ixW, itmsS, e2, fSub]
theorem v_keep (h : Hall S j p q ps ns) (hn : ps.length < 1000000) (x y : W) : g_Gallery_keep [.ins j, x, y] S = .ok .non (S.set p (ps ++ [.tup [x, y]])) := by
  have e1 := h.hi
  have e2 := h.hp
  have z : ps.length ≤ 16777215 := by omega
  show fnW 3 d_Gallery_keep _ S = _
  simp [d_Gallery_keep, fnW, sDrop, lft, dMth, dIFld, dTup, dCons, dNil, dVar, dC, bnd, ret, rdS, fldW, e1, lsB, wrS, mkT, szB, fAppend, chS, e2, z]
abbrev noteS (a b : Str) : DS := sDrop (dMth fAppend (dIFld 1 (dVar 0)) (dCons (dTup (dCons (dC (.str a)) (dCons (dC (.str b)) dNil))) dNil))
theorem note_ok (h : Hall S j p q ps ns) (hn : ns.length < 1000000) {ρ : En} (h0 : ρ[0]? = some (some (.ins j))) (a b : Str) : noteS a b ρ S = .ok (.nx ρ) (S.set q (ns ++ [nt a b])) := by
  have e1 := h.hi
  have e2 := h.hq
  have z : ns.length ≤ 16777215 := by omega
  simp [noteS, sDrop, lft, dMth, dIFld, dTup, dCons, dNil, dVar, h0, dC, bnd, ret, rdS, fldW, e1, lsB, wrS, mkT, szB, fAppend, chS, e2, z]
abbrev ntd (ns : List W) (b : Str) : List W := ns ++ [nt "in" b, nt "out" b]
theorem set_app2 {x y : List W} (hq : q < S.length) (J : Store) : ((S.set q x) ++ J).set q y = S.set q y ++ J := by
  rw [List.set_append_left _ _ (by rw [List.length_set]; exact hq), List.set_set]
theorem deed_err (h : Hall S j p q ps ns) (hn : ns.length < 900000) {b : Str} {R : DR} {ρ ρ1 : En} {c f : Str} {ws : List W} {J : Store} (h0 : ρ[0]? = some (some (.ins j))) (h1 : ρ1[0]? = some (some (.ins j))) (e : R ρ (S.set q (ns ++ [nt "in" b])) = .ok (.er c f ws ρ1) (S.set q (ns ++ [nt "in" b]) ++ J)) :
    fnR (sSeq (noteS "in" b) (sFinR R (noteS "out" b)) ρ S) = .err c f ws (S.set q (ntd ns b) ++ J) := by
  have n1 := note_ok h (by omega) h0 "in" b
  have hh := (h.setQ (ns ++ [nt "in" b])).app J
  have n2 := note_ok hh (by simp; omega) h1 "out" b
  rw [set_app2 h.ql, List.append_assoc] at n2
  unfold sSeq
  rw [n1]
  simp only [sFinR, e, n2, fnR]
  rfl
theorem deed_err0 (h : Hall S j p q ps ns) (hn : ns.length < 900000) {b : Str} {R : DS} {ρ ρ1 : En} {c f : Str} {ws : List W} {J : Store} (h0 : ρ[0]? = some (some (.ins j))) (h1 : ρ1[0]? = some (some (.ins j))) (e : R ρ (S.set q (ns ++ [nt "in" b])) = .ok (.er c f ws ρ1) (S.set q (ns ++ [nt "in" b]) ++ J)) :
    fnR (sSeq (noteS "in" b) (sFin0 R (noteS "out" b)) ρ S) = .err c f ws (S.set q (ntd ns b) ++ J) := by
  have n1 := note_ok h (by omega) h0 "in" b
  have hh := (h.setQ (ns ++ [nt "in" b])).app J
  have n2 := note_ok hh (by simp; omega) h1 "out" b
  rw [set_app2 h.ql, List.append_assoc] at n2
  unfold sSeq
  rw [n1]
  simp only [sFin0, e, n2, fnR]
  rfl
end

end Den

namespace Den
open PySem PySem.Spec PyProof.Rows L2 Bal
section
variable {S : Store}
theorem v_told_bad {w hs : W} {r : List Int} (hw : Rw w r) (i : Int) (h : ¬ (0 ≤ i ∧ i < (r.length : Int) - 1)) : g_told_by [w, hs, .int i] S = .err "NoPlace" "place" [.int i] S := by
  simp [g_told_by, d_told_by, fnW, sSeq, sDrop, lft, dCall, dCons, dNil, dVar, bnd, ret, v_refuse_bad hw i h]
theorem known_in {w : W} {r : List Int} (hw : Rw w r) {x : Int} (hx : x ∉ r) : g_refuse_known [w, .int x] S = .ok .non S := by
  have i1 := in_rw (S := S) hw x
  show fnW 2 d_refuse_known _ S = _
  simp [d_refuse_known, fnW, sIf, lft, dTst, dBin, dVar, bnd, ret, rdS, fIn, i1, hx, toB, sNil]
theorem known_bad {w : W} {r : List Int} (hw : Rw w r) {x : Int} (hx : x ∈ r) : g_refuse_known [w, .int x] S = .err "Known" "who" [.int x] S := by
  have i1 := in_rw (S := S) hw x
  show fnW 2 d_refuse_known _ S = _
  simp [d_refuse_known, fnW, sIf, lft, dTst, dBin, dVar, bnd, ret, rdS, fIn, i1, hx, toB, sRaise]
theorem come_known {w : W} {r : List Int} (hw : Rw w r) {x : Int} {s : Int} (hx : x ∈ r) : g_with_newcomer [w, .int x, .int s] S = .err "Known" "who" [.int x] S := by
  have e1 := known_bad (S := S) hw hx
  show fnW 4 d_with_newcomer _ S = _
  simp [d_with_newcomer, fnW, sSeq, sDrop, lft, dCall, dCons, dNil, dVar, bnd, ret, e1]
theorem come_far {w : W} {r : List Int} (hw : Rw w r) {x : Int} {s : Int} (hx : x ∉ r) (hs : ¬ (0 ≤ s ∧ s ≤ (r.length : Int))) : g_with_newcomer [w, .int x, .int s] S = .err "NoPlace" "place" [.int s] S := by
  have e1 := known_in (S := S) hw hx
  have ln : fLen S [w] = some (.int (r.length : Int)) := by rcases hw with rfl | rfl <;> simp [fLen, ixW, itmsS]
  have ch : (dNotT (dTst (dChain (fCmp pLe) (fCmp pLe) (dC (.int 0)) (dVar 2) (dCallN fLen (dCons (dVar 0) dNil))))) [some w, some (.int x), some (.int s), none] S = .ok true S := by
    generalize (r.length : Int) = m at *
    by_cases h0 : 0 ≤ s
    · have h1 : ¬ s ≤ m := fun z => hs ⟨h0, z⟩
      simp [dNotT, dTst, dChain, dC, dVar, dCallN, dCons, dNil, bnd, ret, rdS, ln, fCmp, pLe_ap, h0, h1, toB]
    · simp [dNotT, dTst, dChain, dC, dVar, dCallN, dCons, dNil, bnd, ret, rdS, ln, fCmp, pLe_ap, h0, toB]
  show fnW 4 d_with_newcomer _ S = _
  unfold d_with_newcomer
  generalize (dNotT (dTst (dChain (fCmp pLe) (fCmp pLe) (dC (.int 0)) (dVar 2) (dCallN fLen (dCons (dVar 0) dNil))))) = TT at ch ⊢
  simp [fnW, sSeq, sDrop, lft, dCall, dCons, dNil, dVar, bnd, ret, e1, sIf, ch, sRaise]
theorem v_othE {w h : W} {r : List Int} (hw : Rw w r) {x s : Int} {c f : Str} {ws : List W} (e : g_with_newcomer [w, .int x, .int s] S = .err c f ws S) : g_seen_otherwise [w, h, .int x, .int s] S = .err c f ws S := by
  show fnW 6 d_seen_otherwise _ S = _
  simp [d_seen_otherwise, fnW, sSeq, sSet, sAsg, setT, lft, dCall, dCons, dNil, dVar, bnd, ret, e]
end

/-! ### deeds refused -/
section
variable {S : Store} {j p q : Nat} {ps ns : List W} {r fl fr : List Int}
theorem change_bad (h : Hall S j p q (ps ++ [sd r fl fr]) ns) (hn : ns.length < 900000) {i : Int} (hb : ¬ (0 ≤ i ∧ i < (r.length : Int) - 1)) : g_Gallery_change [.ins j, .int i] S = .err "NoPlace" "place" [.int i] (S.set q (ntd ns "change") ++ []) := by
  have hh := h.setQ (ns ++ [nt "in" "change"])
  have e1 := v_row hh
  have e2 := v_houses hh
  have e3 := v_told_bad (S := S.set q (ns ++ [nt "in" "change"])) (hs := homes fl fr) (.t r) i hb
  show fnR (d_Gallery_change [some (.ins j), some (.int i), none] S) = _
  unfold d_Gallery_change
  refine deed_err h hn rfl (ρ1 := [some (.ins j), some (.int i), none]) rfl ?_
  simp only [List.append_nil]
  generalize S.set q (ns ++ [nt "in" "change"]) = T at *
  generalize homes fl fr = HM at *
  simp [rSeq, sSet, sAsg, lft, dCall, dMeth, isIns, dCons, dNil, dVar, bnd, ret, e1, e2, e3]
theorem come_bad (h : Hall S j p q (ps ++ [sd r fl fr]) ns) (hn : ns.length < 900000) {x s : Int} {c f : Str} {ws : List W} (hb : ∀ T, g_with_newcomer [.tup (iW r), .int x, .int s] T = .err c f ws T) : g_Gallery_come [.ins j, .int x, .int s] S = .err c f ws (S.set q (ntd ns "come") ++ []) := by
  have hh := h.setQ (ns ++ [nt "in" "come"])
  have e1 := v_row hh
  have e2 := v_houses hh
  have e3 := v_othE (S := S.set q (ns ++ [nt "in" "come"])) (h := homes fl fr) (.t r) (hb _)
  show fnR (d_Gallery_come [some (.ins j), some (.int x), some (.int s), none] S) = _
  unfold d_Gallery_come
  refine deed_err h hn rfl (ρ1 := [some (.ins j), some (.int x), some (.int s), none]) rfl ?_
  simp only [List.append_nil]
  generalize S.set q (ns ++ [nt "in" "come"]) = T at *
  generalize homes fl fr = HM at *
  simp [rSeq, sSet, sAsg, lft, dCallM, gp, dMeth, isIns, dCons, dNil, dVar, bnd, ret, e1, e2, e3]
theorem go_bad (h : Hall S j p q (ps ++ [sd r fl fr]) ns) (hn : ns.length < 900000) {x : Int} {c f : Str} {ws : List W} (hb : ∀ T, g_gone [.tup (iW r), .int x] T = .err c f ws T) : g_Gallery_go [.ins j, .int x] S = .err c f ws (S.set q (ntd ns "go") ++ []) := by
  have hh := h.setQ (ns ++ [nt "in" "go"])
  have e1 := v_row hh
  have e3 := hb (S.set q (ns ++ [nt "in" "go"]))
  show fnR (d_Gallery_go [some (.ins j), some (.int x), none, none] S) = _
  unfold d_Gallery_go
  refine deed_err h hn rfl (ρ1 := [some (.ins j), some (.int x), none, none]) rfl ?_
  simp only [List.append_nil]
  generalize S.set q (ns ++ [nt "in" "go"]) = T at *
  simp [rSeq, sSet, sAsg, lft, dCall, dMeth, isIns, dCons, dNil, dVar, bnd, ret, e1, e3]
theorem gone_none {x : Int} (hx : x ∉ r) : g_gone [.tup (iW r), .int x] S = .err "NoOne" "who" [.int x] S := by
  have i1 := in_rw (S := S) (.t r) x
  show fnW 3 d_gone _ S = _
  simp [d_gone, fnW, sSeq, sIf, lft, dTst, dBin, dVar, bnd, ret, rdS, fNotIn, i1, hx, toB, sRaise]
theorem gone_last {x : Int} (hx : x ∈ r) (hl : r.length = 1) : g_gone [.tup (iW r), .int x] S = .err "Last" "" [] S := by
  have i1 := in_rw (S := S) (.t r) x
  have ln : fLen S [.tup (iW r)] = some (.int 1) := by simp [fLen, ixW, itmsS, hl]
  have eqI1 : fEq S (.int 1) (.int 1) = some (.bl true) := rfl
  show fnW 3 d_gone _ S = _
  simp [d_gone, fnW, sSeq, sIf, lft, dTst, dBin, dVar, dC, dCallN, dCons, dNil, bnd, ret, rdS, fNotIn, i1, hx, toB, sNil, ln, eqI1, sRaise0]
theorem at_side {T : Store} : g_floors_at [homes fl fr, .str "left"] T = .ok (.tup (iW fl)) T ∧ g_floors_at [homes fl fr, .str "right"] T = .ok (.tup (iW fr)) T ∧ g_floors_at [homes fl fr, .str "up"] T = .err "NoSide" "side" [.str "up"] T ∧ g_floors_at [homes fl fr, .str ""] T = .err "NoSide" "side" [.str ""] T := by
  have i1 : ∀ s : Str, inW T (.str s) c_SIDES = some (inV (.str s) [.str "left", .str "right"]) := fun s => rfl
  have v1 : inV (.str "left") [.str "left", .str "right"] = true := by decide
  have v2 : inV (.str "right") [.str "left", .str "right"] = true := by decide
  have v3 : inV (.str "up") [.str "left", .str "right"] = false := by decide
  have v4 : inV (.str "") [.str "left", .str "right"] = false := by decide
  refine ⟨?_, ?_, ?_, ?_⟩
  all_goals show fnW 2 d_floors_at _ T = _
  · simp only [d_floors_at, fnW, sSeq, sIf, lft, dTst, dBin, dVar, dC, bnd, ret, rdS, fNotIn, i1, v1, toB, sNil, sRet]
    rfl
  · simp only [d_floors_at, fnW, sSeq, sIf, lft, dTst, dBin, dVar, dC, bnd, ret, rdS, fNotIn, i1, v2, toB, sNil, sRet]
    rfl
  · simp [d_floors_at, fnW, sSeq, sIf, lft, dTst, dBin, dVar, dC, bnd, ret, rdS, fNotIn, i1, v3, toB, sRaise]
  · simp [d_floors_at, fnW, sSeq, sIf, lft, dTst, dBin, dVar, dC, bnd, ret, rdS, fNotIn, i1, v4, toB, sRaise]
/-- words that are no side -/
abbrev nsd : List Str := ["up", "mid", ""]
theorem nsd_no {s : Str} (h : s ∈ nsd) : inV (.str s) [.str "left", .str "right"] = false := by
  simp only [nsd, List.mem_cons, List.not_mem_nil, or_false] at h
  rcases h with rfl | rfl | rfl <;> decide
theorem at_no {T : Store} {s : Str} (hs : inV (.str s) [.str "left", .str "right"] = false) : g_floors_at [homes fl fr, .str s] T = .err "NoSide" "side" [.str s] T := by
  have i1 : inW T (.str s) c_SIDES = some (inV (.str s) [.str "left", .str "right"]) := rfl
  rw [hs] at i1
  show fnW 2 d_floors_at _ T = _
  generalize homes fl fr = HM at *
  simp [d_floors_at, fnW, sSeq, sIf, lft, dTst, dBin, dVar, dC, bnd, ret, rdS, fNotIn, i1, toB, sRaise]
theorem build_side (h : Hall S j p q (ps ++ [sd r fl fr]) ns) (hn : ns.length < 900000) {s : Str} (hs : inV (.str s) [.str "left", .str "right"] = false) {f : Int} : g_Gallery_build [.ins j, .str s, .int f] S = .err "NoSide" "side" [.str s] (S.set q (ntd ns "build") ++ []) := by
  have hh := h.setQ (ns ++ [nt "in" "build"])
  have e2 := v_houses hh
  have e3 := at_no (fl := fl) (fr := fr) (T := S.set q (ns ++ [nt "in" "build"])) hs
  show fnR (d_Gallery_build [some (.ins j), some (.str s), some (.int f), none] S) = _
  unfold d_Gallery_build
  refine deed_err h hn rfl (ρ1 := [some (.ins j), some (.str s), some (.int f), none]) rfl ?_
  simp only [List.append_nil]
  generalize S.set q (ns ++ [nt "in" "build"]) = T at *
  generalize homes fl fr = HM at *
  simp [rSeq, sSet, sAsg, lft, dCall, dMeth, isIns, dCons, dNil, dVar, bnd, ret, e2, e3]
theorem pull_side (h : Hall S j p q (ps ++ [sd r fl fr]) ns) (hn : ns.length < 900000) {s : Str} (hs : inV (.str s) [.str "left", .str "right"] = false) {f : Int} : g_Gallery_pull [.ins j, .str s, .int f] S = .err "NoSide" "side" [.str s] (S.set q (ntd ns "pull") ++ []) := by
  have hh := h.setQ (ns ++ [nt "in" "pull"])
  have e2 := v_houses hh
  have e3 := at_no (fl := fl) (fr := fr) (T := S.set q (ns ++ [nt "in" "pull"])) hs
  show fnR (d_Gallery_pull [some (.ins j), some (.str s), some (.int f), none, none, none] S) = _
  unfold d_Gallery_pull
  refine deed_err0 h hn rfl (ρ1 := [some (.ins j), some (.str s), some (.int f), none, none, none]) rfl ?_
  simp only [List.append_nil]
  generalize S.set q (ns ++ [nt "in" "pull"]) = T at *
  generalize homes fl fr = HM at *
  simp [sSeq, sSet, sAsg, lft, dCall, dMeth, isIns, dCons, dNil, dVar, bnd, ret, e2, e3]
theorem build_stands (h : Hall S j p q (ps ++ [sd r fl fr]) ns) (hn : ns.length < 900000) {s : Str} {F : List Int} {f : Int} (hF : s = "left" ∧ F = fl ∨ s = "right" ∧ F = fr) (hf : f ∈ F) : g_Gallery_build [.ins j, .str s, .int f] S = .err "Stands" "floor" [.int f] (S.set q (ntd ns "build") ++ []) := by
  have hh := h.setQ (ns ++ [nt "in" "build"])
  have e2 := v_houses hh
  have e3 : g_floors_at [homes fl fr, .str s] (S.set q (ns ++ [nt "in" "build"])) = .ok (.tup (iW F)) (S.set q (ns ++ [nt "in" "build"])) := by
    rcases hF with ⟨rfl, rfl⟩ | ⟨rfl, rfl⟩
    · exact at_side.1
    · exact at_side.2.1
  have i1 := in_rw (S := S.set q (ns ++ [nt "in" "build"])) (.t F) f
  show fnR (d_Gallery_build [some (.ins j), some (.str s), some (.int f), none] S) = _
  unfold d_Gallery_build
  refine deed_err h hn rfl (ρ1 := [some (.ins j), some (.str s), some (.int f), some (.tup (iW F))]) rfl ?_
  simp only [List.append_nil]
  generalize S.set q (ns ++ [nt "in" "build"]) = T at *
  generalize homes fl fr = HM at *
  simp [rSeq, sSet, sAsg, setT, lft, dCall, dMeth, isIns, dCons, dNil, dVar, bnd, ret, e2, e3, sIf, dTst, dBin, rdS, fIn, i1, hf, toB, sRaise]
theorem pull_none (h : Hall S j p q (ps ++ [sd r fl fr]) ns) (hn : ns.length < 900000) {s : Str} {F : List Int} {f : Int} (hF : s = "left" ∧ F = fl ∨ s = "right" ∧ F = fr) (hf : f ∉ F) : g_Gallery_pull [.ins j, .str s, .int f] S = .err "NoFloor" "floor" [.int f] (S.set q (ntd ns "pull") ++ []) := by
  have hh := h.setQ (ns ++ [nt "in" "pull"])
  have e2 := v_houses hh
  have e3 : g_floors_at [homes fl fr, .str s] (S.set q (ns ++ [nt "in" "pull"])) = .ok (.tup (iW F)) (S.set q (ns ++ [nt "in" "pull"])) := by
    rcases hF with ⟨rfl, rfl⟩ | ⟨rfl, rfl⟩
    · exact at_side.1
    · exact at_side.2.1
  have i1 := in_rw (S := S.set q (ns ++ [nt "in" "pull"])) (.t F) f
  show fnR (d_Gallery_pull [some (.ins j), some (.str s), some (.int f), none, none, none] S) = _
  unfold d_Gallery_pull
  refine deed_err0 h hn rfl (ρ1 := [some (.ins j), some (.str s), some (.int f), some (.tup (iW F)), none, none]) rfl ?_
  simp only [List.append_nil]
  generalize S.set q (ns ++ [nt "in" "pull"]) = T at *
  generalize homes fl fr = HM at *
  simp [sSeq, sSet, sAsg, setT, lft, dCall, dMeth, isIns, dCons, dNil, dVar, bnd, ret, e2, e3, sIf, dTst, dBin, rdS, fNotIn, i1, hf, toB, sRaise]
/-- what a sneak comes to -/
def snk (fl fr : List Int) : List Int → List Int → Option (Str × Int)
  | _, [] => none
  | r, i :: is => if ¬ (0 ≤ i ∧ i < (r.length : Int) - 1) then some ("NoPlace", i) else if toldN r fl fr i.toNat = [] then snk fl fr (sw r i.toNat) is else some ("Seen", i)
abbrev snkB : DS := (sSeq (sIf (dTru (dCall 3 g_told_by (dCons (dVar 2) (dCons (dMeth 1 g_Gallery_houses (dVar 0) dNil) (dCons (dVar 3) dNil))))) (sRaise "Seen" "place" (dVar 3)) sNil) (sSet 2 (dCall 2 g_exchanged (dCons (dVar 2) (dCons (dVar 3) dNil)))))
theorem snk_loop {w : W} {S0 : Store} : ∀ (is : List Int) (r' : List Int) (S : Store) (x3 : Option W) (k : Str) (i : Int), Hall S j p q (ps ++ [sd r fl fr]) ns → snk fl fr r' is = some (k, i) → ∃ J ρ, forL (.nm 3) snkB [] S0 (iW is) [some (.ins j), some w, some (.tup (iW r')), x3] S = .ok (.er k "place" [.int i] ρ) (S ++ J) ∧ ρ[0]? = some (some (.ins j))
  | [], r', S, x3, k, i, h, e => nomatch e
  | y :: is, r', S, x3, k, i, h, e => by
    have e2 := v_houses h
    unfold snk at e
    by_cases hb : ¬ (0 ≤ y ∧ y < (r'.length : Int) - 1)
    · rw [if_pos hb] at e
      cases e
      have e3 := v_told_bad (S := S) (hs := homes fl fr) (.t r') y hb
      refine ⟨[], [some (.ins j), some w, some (.tup (iW r')), some (.int y)], ?_, rfl⟩
      generalize homes fl fr = HM at *
      rw [iW_cons]
      simp [forL, setT, snkB, sSeq, sIf, lft, dTru, dCall, dMeth, isIns, dCons, dNil, dVar, bnd, ret, e2, e3]
    · rw [if_neg hb] at e
      have hb := Decidable.not_not.mp hb
      obtain ⟨m, rfl⟩ : ∃ m : Nat, y = (m : Int) := ⟨y.toNat, by omega⟩
      rw [Int.toNat_natCast] at e
      have hm : m + 1 < r'.length := by omega
      have e3 := v_told (S := S) (.t r') (Hm.t fl fr) m hm
      by_cases ht : toldN r' fl fr m = []
      · rw [if_pos ht] at e
        have e4 := v_exch (S := S ++ [toldN r' fl fr m]) (.t r') m hm
        obtain ⟨J, ρ, e5, e6⟩ := snk_loop (w := w) (S0 := S0) is (sw r' m) (S ++ [toldN r' fl fr m] ++ [iW (sw r' m)]) (some (.int (m : Int))) k i ((h.app _).app _) e
        refine ⟨[toldN r' fl fr m] ++ [iW (sw r' m)] ++ J, ρ, ?_, e6⟩
        rw [← List.append_assoc, ← List.append_assoc]
        have tr : truS (S ++ [toldN r' fl fr m]) (.lst S.length) = some false := by simp [truS, ht]
        generalize S ++ [toldN r' fl fr m] ++ [iW (sw r' m)] ++ J = T2 at *
        generalize S ++ [toldN r' fl fr m] ++ [iW (sw r' m)] = T at *
        generalize S.length = sl at *
        generalize S ++ [toldN r' fl fr m] = T1 at *
        generalize homes fl fr = HM at *
        rw [iW_cons]
        unfold forL
        have bd : snkB [some (.ins j), some w, some (.tup (iW r')), some (.int (m : Int))] S = .ok (.nx [some (.ins j), some w, some (.tup (iW (sw r' m))), some (.int (m : Int))]) T := by
          simp [snkB, sSeq, sIf, sNil, sSet, sAsg, setT, lft, dTru, dCall, dMeth, isIns, dCons, dNil, dVar, bnd, ret, e2, e3, tr, e4]
        simp only [setT, List.getElem?_cons_succ, List.set_cons_succ, List.set_cons_zero, bd, kept_nil, if_true]
        exact e5
      · rw [if_neg ht] at e
        cases e
        have tr : truS (S ++ [toldN r' fl fr m]) (.lst S.length) = some true := by
          cases hz : toldN r' fl fr m with
          | nil => exact absurd hz ht
          | cons a b => simp [truS]
        refine ⟨[toldN r' fl fr m], [some (.ins j), some w, some (.tup (iW r')), some (.int (m : Int))], ?_, rfl⟩
        generalize S.length = sl at *
        generalize S ++ [toldN r' fl fr m] = T1 at *
        generalize homes fl fr = HM at *
        rw [iW_cons]
        simp [forL, setT, snkB, sSeq, sIf, lft, dTru, dCall, dMeth, isIns, dCons, dNil, dVar, bnd, ret, e2, e3, tr, sRaise]
theorem sneak_bad (h : Hall S j p q (ps ++ [sd r fl fr]) ns) (hn : ns.length < 900000) {w : W} {is : List Int} (hw : Rw w is) {k : Str} {i : Int} (e : snk fl fr r is = some (k, i)) : ∃ J, g_Gallery_sneak [.ins j, w] S = .err k "place" [.int i] (S.set q (ntd ns "sneak") ++ J) := by
  have hh := h.setQ (ns ++ [nt "in" "sneak"])
  have e1 := v_row hh
  obtain ⟨J, ρ, e2, e3⟩ := snk_loop (w := w) (S0 := S.set q (ns ++ [nt "in" "sneak"])) is r _ none k i hh e
  have sq := hw.sq (S.set q (ns ++ [nt "in" "sneak"]))
  refine ⟨J, ?_⟩
  show fnR (d_Gallery_sneak [some (.ins j), some w, none, none] S) = _
  unfold d_Gallery_sneak
  refine deed_err0 h hn rfl (ρ1 := ρ) e3 ?_
  have e2 : forL (.nm 3) snkB [] (S.set q (ns ++ [nt "in" "sneak"])) (iW is) [some (.ins j), some w, some (.tup (iW r)), none] (S.set q (ns ++ [nt "in" "sneak"])) = _ := e2
  generalize S.set q (ns ++ [nt "in" "sneak"]) ++ J = T2 at *
  generalize S.set q (ns ++ [nt "in" "sneak"]) = T at *
  have a1 : sSet 2 (dMeth 1 g_Gallery_row (dVar 0) dNil) [some (.ins j), some w, none, none] T = .ok (.nx [some (.ins j), some w, some (.tup (iW r)), none]) T := by
    simp [sSet, sAsg, setT, lft, dMeth, isIns, dNil, dVar, bnd, ret, e1]
  have a2 : sFor (iSeq (dVar 1)) (.nm 3) snkB [some (.ins j), some w, some (.tup (iW r)), none] T = .ok (.er k "place" [.int i] ρ) T2 := by
    simp only [sFor, lft, iSeq, dVar, bnd, rdI, List.getElem?_cons_succ, List.getElem?_cons_zero, sq]
    exact e2
  rw [sSeq, a1]
  show sSeq _ _ _ _ = _
  rw [sSeq, a2]
end

end Den

namespace Den
open PySem PySem.Spec PyProof.Rows L2 Bal
/-! ### a move that is wrong -/
section
variable {S : Store}
theorem dat_blL (bs : List Bool) (n : Nat) : (bs.map W.bl).mapM (dat S (n + 1)) = some (bs.map .bool) := by
  induction bs with
  | nil => rfl
  | cons b bs ih =>
    rw [List.map_cons]
    simp [List.mapM_cons, ih, dat]
theorem lay_blL (p : List Bool) : PyData.canLayAll0 (p.map .bool) = true := by
  induction p with
  | nil => rfl
  | cons x p ih => simp [PyData.canLayAll0, PyData.canLay0, ih]
theorem depth_blL (p : List Bool) : PyData.depthAll (p.map .bool) = 0 := by
  induction p with
  | nil => rfl
  | cons x p ih => simp [PyData.depthAll, PyData.depth, ih]
theorem blT_mapL : ∀ bs : List Bool, blT (bs.map W.bl) = some bs
  | [] => rfl
  | b :: bs => by
    rw [List.map_cons]
    simp [blT, blT_mapL bs]
theorem cnt_blL {m : Nat} {bs : List Bool} (h : S[m]? = some (bs.map W.bl)) : fCountD S (.lst m) [.bl true] = some (.int ((bs.countP fun b => b : Nat) : Int), S) := by
  have d1 : datS S (.lst m) = some (.list (bs.map .bool)) := by
    simp [datS, dat, h, dat_blL bs 10, SeqAt.shaped, PyData.canLay0, PyData.depth, lay_blL, depth_blL]
  have d2 : datS S (.bl true) = some (.bool true) := by
    simp [datS, dat, SeqAt.shaped, PyData.canLay0, PyData.depth]
  have l1 : lstS S (.lst m) = some (bs.map W.bl) := h
  simp only [fCountD, cntD, l1, d1, d2]
  congr 4
  rw [List.countP_map]
  congr 1
  funext b
  cases b <;> rfl
theorem idx_blL {m : Nat} {bs : List Bool} (h : S[m]? = some (bs.map W.bl)) (ht : true ∈ bs) : fIdxF S (.lst m) (.bl true) = some (.int (bs.idxOf true : Nat)) := by
  have l1 : itmsS S (.lst m) = some (bs.map W.bl) := h
  simp [fIdxF, l1, blT_mapL, ht]
theorem idx_blC {bs : List Bool} (ht : true ∈ bs) : fIdxF S (.cl (bs.map W.bl)) (.bl true) = some (.int (bs.idxOf true : Nat)) := by
  have l1 : itmsS S (.cl (bs.map W.bl)) = some (bs.map W.bl) := rfl
  simp [fIdxF, l1, blT_mapL, ht]
abbrev RF3 : DS := (sSeq (sIf (dOrT (dTst (dBin fNe (dMth fCountD (dVar 1) (dCons (dC (.bl true)) dNil)) (dC (.int 1)))) (dTst (dBin fNe (dIdxF (dVar 2) (dC (.bl true))) (dBin fIx (dCl (dCons (dC (.int 0)) (dCons (dC (.int 0)) (dCons (dC (.int 1)) (dCons (dC (.int 1)) (dCons (dC (.int 1)) (dCons (dC (.int 2)) (dCons (dC (.int 2)) (dCons (dC (.int 2)) dNil))))))))) (dIdxF (dVar 1) (dC (.bl true))))))) (sRet (dC (.str "other"))) sNil) (sSeq (sIf (dOrT (dTst (dBin fIx (dVar 1) (dC (.int 0)))) (dTst (dBin fIx (dVar 1) (dC (.int 2))))) (sRet (dTup (dCons (dC (.str "refused")) (dCons (dIf (dTst (dBin fIx (dVar 1) (dC (.int 0)))) (dC (.str "Known")) (dC (.str "NoOne"))) (dCons (dFld errs "who" (dVar 0)) dNil))))) sNil) (sSeq (sIf (dOrT (dTst (dBin fIx (dVar 1) (dC (.int 1)))) (dTst (dBin fIx (dVar 1) (dC (.int 3))))) (sRet (dIf (dTst (dBin fIx (dVar 1) (dC (.int 1)))) (dTup (dCons (dC (.str "refused")) (dCons (dC (.str "NoSide")) (dCons (dFld errs "side" (dVar 0)) dNil)))) (dTup (dCons (dC (.str "refused")) (dCons (dC (.str "NoPlace")) (dCons (dFld errs "place" (dVar 0)) dNil)))))) sNil) (sSeq (sIf (dOrT (dTst (dBin fIx (dVar 1) (dC (.int 4)))) (dTst (dBin fIx (dVar 1) (dC (.int 6))))) (sRet (dTup (dCons (dC (.str "refused")) (dCons (dIf (dTst (dBin fIx (dVar 1) (dC (.int 4)))) (dC (.str "NoFloor")) (dC (.str "Stands"))) (dCons (dFld errs "floor" (dVar 0)) dNil))))) sNil) (sRet (dIf (dTst (dBin fIx (dVar 1) (dC (.int 5)))) (dTup (dCons (dC (.str "refused")) (dCons (dC (.str "Seen")) (dCons (dFld errs "place" (dVar 0)) dNil)))) (dTup (dCons (dC (.str "refused")) (dCons (dC (.str "Last")) (dCons (dC .non) dNil))))))))))
theorem re_Known {m : Nat} {v : W} (h : S[m]? = some (([true, false, false, false, false, false, false, false] : List Bool).map W.bl)) : RF3 [some (.exn "Known" "who" [v]), some (.lst m), some (.cl (([true, false, false] : List Bool).map W.bl))] S = .ok (.rt (.tup [.str "refused", .str "Known", v])) S := by
  have c1 := cnt_blL (S := S) h
  have i1 := idx_blL (S := S) h (by decide)
  have i2 := idx_blC (S := S) (bs := [true, false, false]) (by decide)
  have cv : (([true, false, false, false, false, false, false, false] : List Bool).countP fun b => b) = 1 := rfl
  have iv : ([true, false, false, false, false, false, false, false] : List Bool).idxOf true = 0 := rfl
  have kv : ([true, false, false] : List Bool).idxOf true = 0 := rfl
  rw [cv] at c1
  rw [iv] at i1
  rw [kv] at i2
  have n1 : fNe S (.int 1) (.int 1) = some (.bl false) := rfl
  have n2 : fNe S (.int 0) (.int 0) = some (.bl false) := rfl
  have ax : fIx S (.cl [.int 0, .int 0, .int 1, .int 1, .int 1, .int 2, .int 2, .int 2]) (.int 0) = some (.int 0) := rfl
  have a0 : fIx S (.lst m) (.int 0) = some (.bl true) := by simp only [fIx, ixW, itmsS, h]; rfl
  have a2 : fIx S (.lst m) (.int 2) = some (.bl false) := by simp only [fIx, ixW, itmsS, h]; rfl
  have a1 : fIx S (.lst m) (.int 1) = some (.bl false) := by simp only [fIx, ixW, itmsS, h]; rfl
  have a3 : fIx S (.lst m) (.int 3) = some (.bl false) := by simp only [fIx, ixW, itmsS, h]; rfl
  have a4 : fIx S (.lst m) (.int 4) = some (.bl false) := by simp only [fIx, ixW, itmsS, h]; rfl
  have a6 : fIx S (.lst m) (.int 6) = some (.bl false) := by simp only [fIx, ixW, itmsS, h]; rfl
  have a5 : fIx S (.lst m) (.int 5) = some (.bl false) := by simp only [fIx, ixW, itmsS, h]; rfl
  have hc : ("Known" : Str) ∈ errs := by decide
  generalize (([true, false, false] : List Bool).map W.bl) = KL at *
  simp [RF3, sSeq, sIf, sNil, sRet, lft, dOrT, dTst, dBin, dMth, dIdxF, sqB, lsB, wrS, rdS, dCons, dNil, dVar, dC, dCl, mkC, szB, dTup, mkT, dIf, dFld, bnd, ret, toB, c1, i1, i2, n1, n2, ax, a0, a1, a2, a3, a4, a5, a6, hc]
theorem re_NoSide {m : Nat} {v : W} (h : S[m]? = some (([false, true, false, false, false, false, false, false] : List Bool).map W.bl)) : RF3 [some (.exn "NoSide" "side" [v]), some (.lst m), some (.cl (([true, false, false] : List Bool).map W.bl))] S = .ok (.rt (.tup [.str "refused", .str "NoSide", v])) S := by
  have c1 := cnt_blL (S := S) h
  have i1 := idx_blL (S := S) h (by decide)
  have i2 := idx_blC (S := S) (bs := [true, false, false]) (by decide)
  have cv : (([false, true, false, false, false, false, false, false] : List Bool).countP fun b => b) = 1 := rfl
  have iv : ([false, true, false, false, false, false, false, false] : List Bool).idxOf true = 1 := rfl
  have kv : ([true, false, false] : List Bool).idxOf true = 0 := rfl
  rw [cv] at c1
  rw [iv] at i1
  rw [kv] at i2
  have n1 : fNe S (.int 1) (.int 1) = some (.bl false) := rfl
  have n2 : fNe S (.int 0) (.int 0) = some (.bl false) := rfl
  have ax : fIx S (.cl [.int 0, .int 0, .int 1, .int 1, .int 1, .int 2, .int 2, .int 2]) (.int 1) = some (.int 0) := rfl
  have a0 : fIx S (.lst m) (.int 0) = some (.bl false) := by simp only [fIx, ixW, itmsS, h]; rfl
  have a2 : fIx S (.lst m) (.int 2) = some (.bl false) := by simp only [fIx, ixW, itmsS, h]; rfl
  have a1 : fIx S (.lst m) (.int 1) = some (.bl true) := by simp only [fIx, ixW, itmsS, h]; rfl
  have a3 : fIx S (.lst m) (.int 3) = some (.bl false) := by simp only [fIx, ixW, itmsS, h]; rfl
  have a4 : fIx S (.lst m) (.int 4) = some (.bl false) := by simp only [fIx, ixW, itmsS, h]; rfl
  have a6 : fIx S (.lst m) (.int 6) = some (.bl false) := by simp only [fIx, ixW, itmsS, h]; rfl
  have a5 : fIx S (.lst m) (.int 5) = some (.bl false) := by simp only [fIx, ixW, itmsS, h]; rfl
  have hc : ("NoSide" : Str) ∈ errs := by decide
  generalize (([true, false, false] : List Bool).map W.bl) = KL at *
  simp [RF3, sSeq, sIf, sNil, sRet, lft, dOrT, dTst, dBin, dMth, dIdxF, sqB, lsB, wrS, rdS, dCons, dNil, dVar, dC, dCl, mkC, szB, dTup, mkT, dIf, dFld, bnd, ret, toB, c1, i1, i2, n1, n2, ax, a0, a1, a2, a3, a4, a5, a6, hc]
theorem re_NoOne {m : Nat} {v : W} (h : S[m]? = some (([false, false, true, false, false, false, false, false] : List Bool).map W.bl)) : RF3 [some (.exn "NoOne" "who" [v]), some (.lst m), some (.cl (([false, true, false] : List Bool).map W.bl))] S = .ok (.rt (.tup [.str "refused", .str "NoOne", v])) S := by
  have c1 := cnt_blL (S := S) h
  have i1 := idx_blL (S := S) h (by decide)
  have i2 := idx_blC (S := S) (bs := [false, true, false]) (by decide)
  have cv : (([false, false, true, false, false, false, false, false] : List Bool).countP fun b => b) = 1 := rfl
  have iv : ([false, false, true, false, false, false, false, false] : List Bool).idxOf true = 2 := rfl
  have kv : ([false, true, false] : List Bool).idxOf true = 1 := rfl
  rw [cv] at c1
  rw [iv] at i1
  rw [kv] at i2
  have n1 : fNe S (.int 1) (.int 1) = some (.bl false) := rfl
  have n2 : fNe S (.int 1) (.int 1) = some (.bl false) := rfl
  have ax : fIx S (.cl [.int 0, .int 0, .int 1, .int 1, .int 1, .int 2, .int 2, .int 2]) (.int 2) = some (.int 1) := rfl
  have a0 : fIx S (.lst m) (.int 0) = some (.bl false) := by simp only [fIx, ixW, itmsS, h]; rfl
  have a2 : fIx S (.lst m) (.int 2) = some (.bl true) := by simp only [fIx, ixW, itmsS, h]; rfl
  have a1 : fIx S (.lst m) (.int 1) = some (.bl false) := by simp only [fIx, ixW, itmsS, h]; rfl
  have a3 : fIx S (.lst m) (.int 3) = some (.bl false) := by simp only [fIx, ixW, itmsS, h]; rfl
  have a4 : fIx S (.lst m) (.int 4) = some (.bl false) := by simp only [fIx, ixW, itmsS, h]; rfl
  have a6 : fIx S (.lst m) (.int 6) = some (.bl false) := by simp only [fIx, ixW, itmsS, h]; rfl
  have a5 : fIx S (.lst m) (.int 5) = some (.bl false) := by simp only [fIx, ixW, itmsS, h]; rfl
  have hc : ("NoOne" : Str) ∈ errs := by decide
  generalize (([false, true, false] : List Bool).map W.bl) = KL at *
  simp [RF3, sSeq, sIf, sNil, sRet, lft, dOrT, dTst, dBin, dMth, dIdxF, sqB, lsB, wrS, rdS, dCons, dNil, dVar, dC, dCl, mkC, szB, dTup, mkT, dIf, dFld, bnd, ret, toB, c1, i1, i2, n1, n2, ax, a0, a1, a2, a3, a4, a5, a6, hc]
theorem re_NoPlace {m : Nat} {v : W} (h : S[m]? = some (([false, false, false, true, false, false, false, false] : List Bool).map W.bl)) : RF3 [some (.exn "NoPlace" "place" [v]), some (.lst m), some (.cl (([false, true, false] : List Bool).map W.bl))] S = .ok (.rt (.tup [.str "refused", .str "NoPlace", v])) S := by
  have c1 := cnt_blL (S := S) h
  have i1 := idx_blL (S := S) h (by decide)
  have i2 := idx_blC (S := S) (bs := [false, true, false]) (by decide)
  have cv : (([false, false, false, true, false, false, false, false] : List Bool).countP fun b => b) = 1 := rfl
  have iv : ([false, false, false, true, false, false, false, false] : List Bool).idxOf true = 3 := rfl
  have kv : ([false, true, false] : List Bool).idxOf true = 1 := rfl
  rw [cv] at c1
  rw [iv] at i1
  rw [kv] at i2
  have n1 : fNe S (.int 1) (.int 1) = some (.bl false) := rfl
  have n2 : fNe S (.int 1) (.int 1) = some (.bl false) := rfl
  have ax : fIx S (.cl [.int 0, .int 0, .int 1, .int 1, .int 1, .int 2, .int 2, .int 2]) (.int 3) = some (.int 1) := rfl
  have a0 : fIx S (.lst m) (.int 0) = some (.bl false) := by simp only [fIx, ixW, itmsS, h]; rfl
  have a2 : fIx S (.lst m) (.int 2) = some (.bl false) := by simp only [fIx, ixW, itmsS, h]; rfl
  have a1 : fIx S (.lst m) (.int 1) = some (.bl false) := by simp only [fIx, ixW, itmsS, h]; rfl
  have a3 : fIx S (.lst m) (.int 3) = some (.bl true) := by simp only [fIx, ixW, itmsS, h]; rfl
  have a4 : fIx S (.lst m) (.int 4) = some (.bl false) := by simp only [fIx, ixW, itmsS, h]; rfl
  have a6 : fIx S (.lst m) (.int 6) = some (.bl false) := by simp only [fIx, ixW, itmsS, h]; rfl
  have a5 : fIx S (.lst m) (.int 5) = some (.bl false) := by simp only [fIx, ixW, itmsS, h]; rfl
  have hc : ("NoPlace" : Str) ∈ errs := by decide
  generalize (([false, true, false] : List Bool).map W.bl) = KL at *
  simp [RF3, sSeq, sIf, sNil, sRet, lft, dOrT, dTst, dBin, dMth, dIdxF, sqB, lsB, wrS, rdS, dCons, dNil, dVar, dC, dCl, mkC, szB, dTup, mkT, dIf, dFld, bnd, ret, toB, c1, i1, i2, n1, n2, ax, a0, a1, a2, a3, a4, a5, a6, hc]
theorem re_NoFloor {m : Nat} {v : W} (h : S[m]? = some (([false, false, false, false, true, false, false, false] : List Bool).map W.bl)) : RF3 [some (.exn "NoFloor" "floor" [v]), some (.lst m), some (.cl (([false, true, false] : List Bool).map W.bl))] S = .ok (.rt (.tup [.str "refused", .str "NoFloor", v])) S := by
  have c1 := cnt_blL (S := S) h
  have i1 := idx_blL (S := S) h (by decide)
  have i2 := idx_blC (S := S) (bs := [false, true, false]) (by decide)
  have cv : (([false, false, false, false, true, false, false, false] : List Bool).countP fun b => b) = 1 := rfl
  have iv : ([false, false, false, false, true, false, false, false] : List Bool).idxOf true = 4 := rfl
  have kv : ([false, true, false] : List Bool).idxOf true = 1 := rfl
  rw [cv] at c1
  rw [iv] at i1
  rw [kv] at i2
  have n1 : fNe S (.int 1) (.int 1) = some (.bl false) := rfl
  have n2 : fNe S (.int 1) (.int 1) = some (.bl false) := rfl
  have ax : fIx S (.cl [.int 0, .int 0, .int 1, .int 1, .int 1, .int 2, .int 2, .int 2]) (.int 4) = some (.int 1) := rfl
  have a0 : fIx S (.lst m) (.int 0) = some (.bl false) := by simp only [fIx, ixW, itmsS, h]; rfl
  have a2 : fIx S (.lst m) (.int 2) = some (.bl false) := by simp only [fIx, ixW, itmsS, h]; rfl
  have a1 : fIx S (.lst m) (.int 1) = some (.bl false) := by simp only [fIx, ixW, itmsS, h]; rfl
  have a3 : fIx S (.lst m) (.int 3) = some (.bl false) := by simp only [fIx, ixW, itmsS, h]; rfl
  have a4 : fIx S (.lst m) (.int 4) = some (.bl true) := by simp only [fIx, ixW, itmsS, h]; rfl
  have a6 : fIx S (.lst m) (.int 6) = some (.bl false) := by simp only [fIx, ixW, itmsS, h]; rfl
  have a5 : fIx S (.lst m) (.int 5) = some (.bl false) := by simp only [fIx, ixW, itmsS, h]; rfl
  have hc : ("NoFloor" : Str) ∈ errs := by decide
  generalize (([false, true, false] : List Bool).map W.bl) = KL at *
  simp [RF3, sSeq, sIf, sNil, sRet, lft, dOrT, dTst, dBin, dMth, dIdxF, sqB, lsB, wrS, rdS, dCons, dNil, dVar, dC, dCl, mkC, szB, dTup, mkT, dIf, dFld, bnd, ret, toB, c1, i1, i2, n1, n2, ax, a0, a1, a2, a3, a4, a5, a6, hc]
theorem re_Seen {m : Nat} {v : W} (h : S[m]? = some (([false, false, false, false, false, true, false, false] : List Bool).map W.bl)) : RF3 [some (.exn "Seen" "place" [v]), some (.lst m), some (.cl (([false, false, true] : List Bool).map W.bl))] S = .ok (.rt (.tup [.str "refused", .str "Seen", v])) S := by
  have c1 := cnt_blL (S := S) h
  have i1 := idx_blL (S := S) h (by decide)
  have i2 := idx_blC (S := S) (bs := [false, false, true]) (by decide)
  have cv : (([false, false, false, false, false, true, false, false] : List Bool).countP fun b => b) = 1 := rfl
  have iv : ([false, false, false, false, false, true, false, false] : List Bool).idxOf true = 5 := rfl
  have kv : ([false, false, true] : List Bool).idxOf true = 2 := rfl
  rw [cv] at c1
  rw [iv] at i1
  rw [kv] at i2
  have n1 : fNe S (.int 1) (.int 1) = some (.bl false) := rfl
  have n2 : fNe S (.int 2) (.int 2) = some (.bl false) := rfl
  have ax : fIx S (.cl [.int 0, .int 0, .int 1, .int 1, .int 1, .int 2, .int 2, .int 2]) (.int 5) = some (.int 2) := rfl
  have a0 : fIx S (.lst m) (.int 0) = some (.bl false) := by simp only [fIx, ixW, itmsS, h]; rfl
  have a2 : fIx S (.lst m) (.int 2) = some (.bl false) := by simp only [fIx, ixW, itmsS, h]; rfl
  have a1 : fIx S (.lst m) (.int 1) = some (.bl false) := by simp only [fIx, ixW, itmsS, h]; rfl
  have a3 : fIx S (.lst m) (.int 3) = some (.bl false) := by simp only [fIx, ixW, itmsS, h]; rfl
  have a4 : fIx S (.lst m) (.int 4) = some (.bl false) := by simp only [fIx, ixW, itmsS, h]; rfl
  have a6 : fIx S (.lst m) (.int 6) = some (.bl false) := by simp only [fIx, ixW, itmsS, h]; rfl
  have a5 : fIx S (.lst m) (.int 5) = some (.bl true) := by simp only [fIx, ixW, itmsS, h]; rfl
  have hc : ("Seen" : Str) ∈ errs := by decide
  generalize (([false, false, true] : List Bool).map W.bl) = KL at *
  simp [RF3, sSeq, sIf, sNil, sRet, lft, dOrT, dTst, dBin, dMth, dIdxF, sqB, lsB, wrS, rdS, dCons, dNil, dVar, dC, dCl, mkC, szB, dTup, mkT, dIf, dFld, bnd, ret, toB, c1, i1, i2, n1, n2, ax, a0, a1, a2, a3, a4, a5, a6, hc]
theorem re_Stands {m : Nat} {v : W} (h : S[m]? = some (([false, false, false, false, false, false, true, false] : List Bool).map W.bl)) : RF3 [some (.exn "Stands" "floor" [v]), some (.lst m), some (.cl (([false, false, true] : List Bool).map W.bl))] S = .ok (.rt (.tup [.str "refused", .str "Stands", v])) S := by
  have c1 := cnt_blL (S := S) h
  have i1 := idx_blL (S := S) h (by decide)
  have i2 := idx_blC (S := S) (bs := [false, false, true]) (by decide)
  have cv : (([false, false, false, false, false, false, true, false] : List Bool).countP fun b => b) = 1 := rfl
  have iv : ([false, false, false, false, false, false, true, false] : List Bool).idxOf true = 6 := rfl
  have kv : ([false, false, true] : List Bool).idxOf true = 2 := rfl
  rw [cv] at c1
  rw [iv] at i1
  rw [kv] at i2
  have n1 : fNe S (.int 1) (.int 1) = some (.bl false) := rfl
  have n2 : fNe S (.int 2) (.int 2) = some (.bl false) := rfl
  have ax : fIx S (.cl [.int 0, .int 0, .int 1, .int 1, .int 1, .int 2, .int 2, .int 2]) (.int 6) = some (.int 2) := rfl
  have a0 : fIx S (.lst m) (.int 0) = some (.bl false) := by simp only [fIx, ixW, itmsS, h]; rfl
  have a2 : fIx S (.lst m) (.int 2) = some (.bl false) := by simp only [fIx, ixW, itmsS, h]; rfl
  have a1 : fIx S (.lst m) (.int 1) = some (.bl false) := by simp only [fIx, ixW, itmsS, h]; rfl
  have a3 : fIx S (.lst m) (.int 3) = some (.bl false) := by simp only [fIx, ixW, itmsS, h]; rfl
  have a4 : fIx S (.lst m) (.int 4) = some (.bl false) := by simp only [fIx, ixW, itmsS, h]; rfl
  have a6 : fIx S (.lst m) (.int 6) = some (.bl true) := by simp only [fIx, ixW, itmsS, h]; rfl
  have a5 : fIx S (.lst m) (.int 5) = some (.bl false) := by simp only [fIx, ixW, itmsS, h]; rfl
  have hc : ("Stands" : Str) ∈ errs := by decide
  generalize (([false, false, true] : List Bool).map W.bl) = KL at *
  simp [RF3, sSeq, sIf, sNil, sRet, lft, dOrT, dTst, dBin, dMth, dIdxF, sqB, lsB, wrS, rdS, dCons, dNil, dVar, dC, dCl, mkC, szB, dTup, mkT, dIf, dFld, bnd, ret, toB, c1, i1, i2, n1, n2, ax, a0, a1, a2, a3, a4, a5, a6, hc]
theorem re_Last {m : Nat} (h : S[m]? = some (([false, false, false, false, false, false, false, true] : List Bool).map W.bl)) : RF3 [some (.exn "Last" "" []), some (.lst m), some (.cl (([false, false, true] : List Bool).map W.bl))] S = .ok (.rt (.tup [.str "refused", .str "Last", .non])) S := by
  have c1 := cnt_blL (S := S) h
  have i1 := idx_blL (S := S) h (by decide)
  have i2 := idx_blC (S := S) (bs := [false, false, true]) (by decide)
  have cv : (([false, false, false, false, false, false, false, true] : List Bool).countP fun b => b) = 1 := rfl
  have iv : ([false, false, false, false, false, false, false, true] : List Bool).idxOf true = 7 := rfl
  have kv : ([false, false, true] : List Bool).idxOf true = 2 := rfl
  rw [cv] at c1
  rw [iv] at i1
  rw [kv] at i2
  have n1 : fNe S (.int 1) (.int 1) = some (.bl false) := rfl
  have n2 : fNe S (.int 2) (.int 2) = some (.bl false) := rfl
  have ax : fIx S (.cl [.int 0, .int 0, .int 1, .int 1, .int 1, .int 2, .int 2, .int 2]) (.int 7) = some (.int 2) := rfl
  have a0 : fIx S (.lst m) (.int 0) = some (.bl false) := by simp only [fIx, ixW, itmsS, h]; rfl
  have a2 : fIx S (.lst m) (.int 2) = some (.bl false) := by simp only [fIx, ixW, itmsS, h]; rfl
  have a1 : fIx S (.lst m) (.int 1) = some (.bl false) := by simp only [fIx, ixW, itmsS, h]; rfl
  have a3 : fIx S (.lst m) (.int 3) = some (.bl false) := by simp only [fIx, ixW, itmsS, h]; rfl
  have a4 : fIx S (.lst m) (.int 4) = some (.bl false) := by simp only [fIx, ixW, itmsS, h]; rfl
  have a6 : fIx S (.lst m) (.int 6) = some (.bl false) := by simp only [fIx, ixW, itmsS, h]; rfl
  have a5 : fIx S (.lst m) (.int 5) = some (.bl false) := by simp only [fIx, ixW, itmsS, h]; rfl
  generalize (([false, false, true] : List Bool).map W.bl) = KL at *
  simp [RF3, sSeq, sIf, sNil, sRet, lft, dOrT, dTst, dBin, dMth, dIdxF, sqB, lsB, wrS, rdS, dCons, dNil, dVar, dC, dCl, mkC, szB, dTup, mkT, dIf, dFld, bnd, ret, toB, c1, i1, i2, n1, n2, ax, a0, a1, a2, a3, a4, a5, a6]
abbrev rfA (c : Str) : List Bool := [decide (c = "Known"), decide (c = "NoSide"), decide (c = "NoOne")]
abbrev rfB (c : Str) : List Bool := [decide (c = "Known"), decide (c = "NoSide"), decide (c = "NoOne"), decide (c = "NoPlace"), decide (c = "NoFloor"), decide (c = "Seen")]
abbrev rfC (c : Str) : List Bool := [decide (c = "Known"), decide (c = "NoSide"), decide (c = "NoOne"), decide (c = "NoPlace"), decide (c = "NoFloor"), decide (c = "Seen"), decide (c = "Stands"), decide (c = "Last")]
abbrev rfK (c : Str) : List Bool := [up_ValueError c, up_LookupError c, up_RuntimeError c]
theorem cat_step {e : W} {m : Nat} {x2 : Option W} {p q : List W} {d : DE} (h2 : S[m]? = some p) (hd : d [some e, some (.lst m), x2] S = .ok (.cl q) S) (hz : p.length + q.length ≤ 1000) : sSet 1 (dCatL (dVar 1) d) [some e, some (.lst m), x2] S = .ok (.nx [some e, some (.lst S.length), x2]) (S ++ [p ++ q]) := by
  have ls : lstS S (.lst m) = some p := h2
  have z : p.length + q.length ≤ 16777216 := by omega
  have ls2 : lstS S (.cl q) = some q := rfl
  simp [sSet, sAsg, setT, lft, dCatL, dVar, bnd, ret, hd, ls, ls2, szB, z, newK]
theorem rf_pre {c f : Str} {ws : List W} (hc : c ∈ errs) : ∃ J m, (S ++ J)[m]? = some ((rfC c).map W.bl) ∧ d_law_refusal [some (.exn c f ws), none, none] S = RF3 [some (.exn c f ws), some (.lst m), some (.cl ((rfK c).map W.bl))] (S ++ J) := by
  have q : errs.contains c = true := by simpa using hc
  have s1 : sSet 1 (dLst (dCons (dIsX errs (fun c => decide (c = "Known")) (dVar 0)) (dCons (dIsX errs (fun c => decide (c = "NoSide")) (dVar 0)) (dCons (dIsX errs (fun c => decide (c = "NoOne")) (dVar 0)) dNil)))) [some (.exn c f ws), none, none] S = .ok (.nx [some (.exn c f ws), some (.lst S.length), none]) (S ++ [(rfA c).map W.bl]) := by
    simp only [sAsg, lft, dLst, dCons, dNil, dIsX, dVar, bnd, ret, List.getElem?_cons_zero, q, if_true, mkL, szB, List.length_cons, List.length_nil]
    rfl
  have d2 : ∀ (T : Store) (m : Nat), dCl (dCons (dIsX errs (fun c => decide (c = "NoPlace")) (dVar 0)) (dCons (dIsX errs (fun c => decide (c = "NoFloor")) (dVar 0)) (dCons (dIsX errs (fun c => decide (c = "Seen")) (dVar 0)) dNil))) [some (.exn c f ws), some (.lst m), none] T = .ok (.cl [.bl (decide (c = "NoPlace")), .bl (decide (c = "NoFloor")), .bl (decide (c = "Seen"))]) T := fun T m => by
    simp only [dCl, mkC, dCons, dNil, dIsX, dVar, bnd, ret, List.getElem?_cons_zero, q, if_true, szB, List.length_cons, List.length_nil]
    rfl
  have d3 : ∀ (T : Store) (m : Nat), dCl (dCons (dIsX errs (fun c => decide (c = "Stands")) (dVar 0)) (dCons (dIsX errs (fun c => decide (c = "Last")) (dVar 0)) dNil)) [some (.exn c f ws), some (.lst m), none] T = .ok (.cl [.bl (decide (c = "Stands")), .bl (decide (c = "Last"))]) T := fun T m => by
    simp only [dCl, mkC, dCons, dNil, dIsX, dVar, bnd, ret, List.getElem?_cons_zero, q, if_true, szB, List.length_cons, List.length_nil]
    rfl
  have d4 : ∀ (T : Store) (m : Nat), sSet 2 (dCl (dCons (dIsX errs up_ValueError (dVar 0)) (dCons (dIsX errs up_LookupError (dVar 0)) (dCons (dIsX errs up_RuntimeError (dVar 0)) dNil)))) [some (.exn c f ws), some (.lst m), none] T = .ok (.nx [some (.exn c f ws), some (.lst m), some (.cl ((rfK c).map W.bl))]) T := fun T m => by
    simp only [sAsg, lft, dCl, mkC, dCons, dNil, dIsX, dVar, bnd, ret, List.getElem?_cons_zero, q, if_true, szB, List.length_cons, List.length_nil]
    rfl
  have g1 : (S ++ [(rfA c).map W.bl])[S.length]? = some ((rfA c).map W.bl) := by simp
  have s2 : sSet 1 (dCatL (dVar 1) _) [some (.exn c f ws), some (.lst S.length), none] (S ++ [(rfA c).map W.bl]) = .ok (.nx [some (.exn c f ws), some (.lst (S ++ [(rfA c).map W.bl]).length), none]) (S ++ [(rfA c).map W.bl] ++ [(rfB c).map W.bl]) := cat_step (x2 := none) g1 (d2 _ _) (by simp)
  have g2 : (S ++ [(rfA c).map W.bl] ++ [(rfB c).map W.bl])[(S ++ [(rfA c).map W.bl]).length]? = some ((rfB c).map W.bl) := by rw [List.getElem?_append_right (Nat.le_refl _)]; simp
  have s3 : sSet 1 (dCatL (dVar 1) _) [some (.exn c f ws), some (.lst (S ++ [(rfA c).map W.bl]).length), none] (S ++ [(rfA c).map W.bl] ++ [(rfB c).map W.bl]) = .ok (.nx [some (.exn c f ws), some (.lst (S ++ [(rfA c).map W.bl] ++ [(rfB c).map W.bl]).length), none]) (S ++ [(rfA c).map W.bl] ++ [(rfB c).map W.bl] ++ [(rfC c).map W.bl]) := cat_step (x2 := none) g2 (d3 _ _) (by simp)
  refine ⟨[(rfA c).map W.bl] ++ [(rfB c).map W.bl] ++ [(rfC c).map W.bl], (S ++ [(rfA c).map W.bl] ++ [(rfB c).map W.bl]).length, ?_, ?_⟩
  · rw [← List.append_assoc, ← List.append_assoc, List.getElem?_append_right (Nat.le_refl _)]
    simp
  · rw [← List.append_assoc, ← List.append_assoc]
    unfold d_law_refusal
    rw [sSeq, s1]
    show sSeq _ _ _ _ = _
    rw [sSeq]
    rw [s2]
    show sSeq _ _ _ _ = _
    rw [sSeq]
    rw [s3]
    show sSeq _ _ _ _ = _
    rw [sSeq, d4]
/-- which field a refusal has, and what of it is told -/
inductive RfOk : Str → Str → List W → W → Prop
  | known (v : W) : RfOk "Known" "who" [v] v
  | side (v : W) : RfOk "NoSide" "side" [v] v
  | one (v : W) : RfOk "NoOne" "who" [v] v
  | place (v : W) : RfOk "NoPlace" "place" [v] v
  | floor (v : W) : RfOk "NoFloor" "floor" [v] v
  | seen (v : W) : RfOk "Seen" "place" [v] v
  | stands (v : W) : RfOk "Stands" "floor" [v] v
  | last : RfOk "Last" "" [] .non
theorem RfOk.mem {c f : Str} {ws : List W} {v : W} (h : RfOk c f ws v) : c ∈ errs := by cases h <;> decide
theorem v_refusal {c f : Str} {ws : List W} {v : W} (h : RfOk c f ws v) : ∃ J, g_law_refusal [.exn c f ws] S = .ok (.tup [.str "refused", .str c, v]) (S ++ J) := by
  obtain ⟨J, m, h1, h2⟩ := rf_pre (S := S) (f := f) (ws := ws) h.mem
  refine ⟨J, ?_⟩
  show fnR (d_law_refusal [some (.exn c f ws), none, none] S) = _
  rw [h2]
  cases h
  · exact congrArg fnR (re_Known h1)
  · exact congrArg fnR (re_NoSide h1)
  · exact congrArg fnR (re_NoOne h1)
  · exact congrArg fnR (re_NoPlace h1)
  · exact congrArg fnR (re_NoFloor h1)
  · exact congrArg fnR (re_Seen h1)
  · exact congrArg fnR (re_Stands h1)
  · exact congrArg fnR (re_Last h1)
/-! ### act -/
abbrev ACT : DS := (sIf (dTst (dBin fIn (dBin fIx (dVar 1) (dC (.int 0))) (dTup (dCons (dC (.str "change")) (dCons (dC (.str "go")) (dCons (dC (.str "sneak")) dNil)))))) (sSet 2 (dIf (dTst (dBin fEq (dBin fIx (dVar 1) (dC (.int 0))) (dC (.str "change")))) (dMeth 2 g_Gallery_change (dVar 0) (dCons (dBin fIx (dVar 1) (dC (.int 1))) dNil)) (dCall 2 g_law_act_more (dCons (dVar 0) (dCons (dVar 1) dNil))))) (sIf (dTst (dBin fEq (dBin fIx (dVar 1) (dC (.int 0))) (dC (.str "come")))) (sSet 2 (dMethK 1 1 3 [0, 1, 2] g_Gallery_come (dVar 0) (dCons (dBin fIx (dVar 1) (dC (.int 1))) dNil) (dCons (dBin fIx (dVar 1) (dC (.int 2))) dNil))) (sIf (dTst (dBin fEq (dBin fIx (dVar 1) (dC (.int 0))) (dC (.str "undo")))) (sSet 2 (dMeth 1 g_Gallery_undo (dVar 0) dNil)) (sSet 2 (dIf (dTst (dBin fEq (dBin fIx (dVar 1) (dC (.int 0))) (dC (.str "build")))) (dMeth 3 g_Gallery_build (dVar 0) (dCons (dBin fIx (dVar 1) (dC (.int 1))) (dCons (dBin fIx (dVar 1) (dC (.int 2))) dNil))) (dMeth 3 g_Gallery_pull (dVar 0) (dCons (dBin fIx (dVar 1) (dC (.int 1))) (dCons (dBin fIx (dVar 1) (dC (.int 2))) dNil))))))))
abbrev acE (j : Nat) (mv : W) : En := [some (.ins j), some mv, some .non, some .non, none]
theorem act_of {j : Nat} {mv : W} {c f : Str} {ws : List W} {v : W} {T : Store} (hb : ACT (acE j mv) S = .ok (.er c f ws (acE j mv)) T) (hr : RfOk c f ws v) : ∃ J, g_law_act [.ins j, mv] S = .ok (.tup [.str "refused", .str c, v]) (T ++ J) := by
  obtain ⟨J, h1⟩ := v_refusal (S := T) hr
  have q : errs.contains c = true := by have := hr.mem; simpa using this
  have q2 : List.contains (α := Str) ["Known", "Last", "NoFloor", "NoOne", "NoPlace", "NoSide", "Seen", "Stands"] c = true := by cases hr <;> decide
  refine ⟨J, ?_⟩
  have a1 : sAsg (.tp [(.nm 2), (.nm 3)]) (dTup (dCons (dC .non) (dCons (dC .non) dNil))) [some (.ins j), some mv, none, none, none] S = .ok (.nx (acE j mv)) S := by
    simp [sAsg, lft, dTup, dCons, dNil, dC, bnd, ret, mkT, szB, setT, setTs, itmsS]
  have t : sTry errs ["Known", "Last", "NoFloor", "NoOne", "NoPlace", "NoSide", "Seen", "Stands"] 4 3 ACT (acE j mv) S = .ok (.nx [some (.ins j), some mv, some .non, some (.exn c f ws), none]) T := by
    unfold sTry
    rw [hb]
    simp only [q, q2, Bool.true_and]
    rfl
  show fnR (d_law_act [some (.ins j), some mv, none, none, none] S) = _
  unfold d_law_act
  rw [sSeq, a1]
  show fnR (sSeq _ _ _ _) = _
  rw [sSeq, t]
  simp [sRet, lft, dIf, dTst, dBin, dVar, dC, bnd, ret, rdS, fIs, isN, toB, dCall, dCons, dNil, h1, fnR]
end

end Den

namespace Den
open PySem PySem.Spec PyProof.Rows L2 Bal
/-! ### wrong moves -/
section
variable {S : Store} {j p q : Nat} {ps ns : List W} {r fl fr : List Int}
inductive Mv
  | change (i : Int)
  | come (x s : Int)
  | go (x : Int)
  | build (s : Str) (f : Int)
  | pull (s : Str) (f : Int)
  | sneak (t : Bool) (is : List Int)
def mvN : Mv → Str
  | .change _ => "change"
  | .come _ _ => "come"
  | .go _ => "go"
  | .build _ _ => "build"
  | .pull _ _ => "pull"
  | .sneak _ _ => "sneak"
def lsW : Bool → List Int → W
  | true, is => .tup (iW is)
  | false, is => .cl (iW is)
def mvW : Mv → W
  | .change i => .tup [.str "change", .int i]
  | .come x s => .tup [.str "come", .int x, .int s]
  | .go x => .tup [.str "go", .int x]
  | .build s f => .tup [.str "build", .str s, .int f]
  | .pull s f => .tup [.str "pull", .str s, .int f]
  | .sneak t is => .tup [.str "sneak", lsW t is]
inductive Bad (r fl fr : List Int) : Mv → Str → W → Prop
  | change {i : Int} : ¬ (0 ≤ i ∧ i < (r.length : Int) - 1) → Bad r fl fr (.change i) "NoPlace" (.int i)
  | known {x s : Int} : x ∈ r → Bad r fl fr (.come x s) "Known" (.int x)
  | far {x s : Int} : x ∉ r → ¬ (0 ≤ s ∧ s ≤ (r.length : Int)) → Bad r fl fr (.come x s) "NoPlace" (.int s)
  | one {x : Int} : x ∉ r → Bad r fl fr (.go x) "NoOne" (.int x)
  | last {x : Int} : x ∈ r → r.length = 1 → Bad r fl fr (.go x) "Last" .non
  | up {s : Str} {f : Int} : s ∈ nsd → Bad r fl fr (.build s f) "NoSide" (.str s)
  | no {s : Str} {f : Int} : s ∈ nsd → Bad r fl fr (.pull s f) "NoSide" (.str s)
  | stands {s : Str} {F : List Int} {f : Int} : (s = "left" ∧ F = fl ∨ s = "right" ∧ F = fr) → f ∈ F → Bad r fl fr (.build s f) "Stands" (.int f)
  | none {s : Str} {F : List Int} {f : Int} : (s = "left" ∧ F = fl ∨ s = "right" ∧ F = fr) → f ∉ F → Bad r fl fr (.pull s f) "NoFloor" (.int f)
  | sneakP {t : Bool} {is : List Int} {i : Int} : snk fl fr r is = some (("NoPlace" : Str), i) → Bad r fl fr (.sneak t is) "NoPlace" (.int i)
  | sneakS {t : Bool} {is : List Int} {i : Int} : snk fl fr r is = some (("Seen" : Str), i) → Bad r fl fr (.sneak t is) "Seen" (.int i)
theorem lsW_rw (t : Bool) (is : List Int) : Rw (lsW t is) is := by cases t <;> first | exact .t is | exact .l is
theorem in3 (w : Str) : fIn S (.str w) (.tup [.str "change", .str "go", .str "sneak"]) = some (.bl (inV (.str w) [.str "change", .str "go", .str "sneak"])) := rfl
theorem eq_strs {a b : Str} (ha : PyData.canLay0 (.str a) = true) (hb : PyData.canLay0 (.str b) = true) : fEq S (.str a) (.str b) = some (.bl (decide (a = b))) := by
  simp [fEq, eqD, datS, dat, SeqAt.shaped, PyData.depth, ha, hb, PyData.eqv]
  try exact (by rw [Bool.eq_iff_iff, beq_iff_eq, decide_eq_true_eq])
abbrev wd : List Str := ["change", "come", "go", "build", "pull", "sneak", "undo"]
theorem wd_lay : ∀ a ∈ wd, PyData.canLay0 (.str a) = true := by decide +kernel
theorem eq_wd {a b : Str} {t : Bool} (ha : a ∈ wd) (hb : b ∈ wd) (ht : decide (a = b) = t) : fEq S (.str a) (.str b) = some (.bl t) := ht ▸ eq_strs (wd_lay a ha) (wd_lay b hb)
theorem more_err {b : Str} {w : W} {c f : Str} {ws : List W} {T : Store} (h : b = "go" ∧ g_Gallery_go [.ins j, w] S = .err c f ws T ∨ b = "sneak" ∧ g_Gallery_sneak [.ins j, w] S = .err c f ws T) : g_law_act_more [.ins j, .tup [.str b, w]] S = .err c f ws T := by
  have e0 : fIx S (.tup [.str b, w]) (.int 0) = some (.str b) := rfl
  have e1 : fIx S (.tup [.str b, w]) (.int 1) = some w := rfl
  show fnR (d_law_act_more [some (.ins j), some (.tup [.str b, w])] S) = _
  generalize W.tup [.str b, w] = M at *
  rcases h with ⟨rfl, h⟩ | ⟨rfl, h⟩
  · have q0 : fEq S (.str "go") (.str "go") = some (.bl true) := eq_wd (by decide) (by decide) (by decide)
    simp [d_law_act_more, sRet, lft, dIf, dTst, dBin, dVar, dC, bnd, ret, rdS, toB, e0, e1, q0, dMeth, isIns, dCons, dNil, h, fnR]
  · have q0 : fEq S (.str "sneak") (.str "go") = some (.bl false) := eq_wd (by decide) (by decide) (by decide)
    simp [d_law_act_more, sRet, lft, dIf, dTst, dBin, dVar, dC, bnd, ret, rdS, toB, e0, e1, q0, dMeth, isIns, dCons, dNil, h, fnR]
theorem act_err (h : Hall S j p q (ps ++ [sd r fl fr]) ns) (hn : ns.length < 900000) {m : Mv} {c : Str} {v : W} (hb : Bad r fl fr m c v) : ∃ J f ws, RfOk c f ws v ∧ ACT (acE j (mvW m)) S = .ok (.er c f ws (acE j (mvW m))) (S.set q (ntd ns (mvN m)) ++ J) := by
  have i3 : ∀ w : Str, fIn S (.str w) (.tup [.str "change", .str "go", .str "sneak"]) = some (.bl (inV (.str w) [.str "change", .str "go", .str "sneak"])) := fun w => rfl
  have one : ∀ {b : Str} {w : W} {f : Str} {ws : List W} {T : Store}, (b = "go" ∧ g_Gallery_go [.ins j, w] S = .err c f ws T ∨ b = "sneak" ∧ g_Gallery_sneak [.ins j, w] S = .err c f ws T) → ACT (acE j (.tup [.str b, w])) S = .ok (.er c f ws (acE j (.tup [.str b, w]))) T := fun {b w f ws T} z => by
    have e4 := more_err z
    have e0 : fIx S (.tup [.str b, w]) (.int 0) = some (.str b) := rfl
    have i4 : inV (.str b) [.str "change", .str "go", .str "sneak"] = true := by rcases z with ⟨rfl, _⟩ | ⟨rfl, _⟩ <;> decide
    have q0 : fEq S (.str b) (.str "change") = some (.bl false) := by rcases z with ⟨rfl, _⟩ | ⟨rfl, _⟩ <;> exact eq_wd (by decide) (by decide) (by decide)
    have i3 := i3 b
    rw [i4] at i3
    generalize W.tup [.str b, w] = M at *
    simp [acE, ACT, sIf, sSet, sAsg, lft, dTst, dBin, dVar, dC, dTup, mkT, szB, dCons, dNil, bnd, ret, rdS, toB, e0, i3, q0, dIf, dCall, e4]
  have two : ∀ {b : Str} {w u : W} {f : Str} {ws : List W} {T : Store}, (b = "build" ∧ g_Gallery_build [.ins j, w, u] S = .err c f ws T ∨ b = "pull" ∧ g_Gallery_pull [.ins j, w, u] S = .err c f ws T) → ACT (acE j (.tup [.str b, w, u])) S = .ok (.er c f ws (acE j (.tup [.str b, w, u]))) T := fun {b w u f ws T} z => by
    have e0 : fIx S (.tup [.str b, w, u]) (.int 0) = some (.str b) := rfl
    have e1 : fIx S (.tup [.str b, w, u]) (.int 1) = some w := rfl
    have e2 : fIx S (.tup [.str b, w, u]) (.int 2) = some u := rfl
    have i4 : inV (.str b) [.str "change", .str "go", .str "sneak"] = false := by rcases z with ⟨rfl, _⟩ | ⟨rfl, _⟩ <;> decide
    have q1 : fEq S (.str b) (.str "come") = some (.bl false) := by rcases z with ⟨rfl, _⟩ | ⟨rfl, _⟩ <;> exact eq_wd (by decide) (by decide) (by decide)
    have q2 : fEq S (.str b) (.str "undo") = some (.bl false) := by rcases z with ⟨rfl, _⟩ | ⟨rfl, _⟩ <;> exact eq_wd (by decide) (by decide) (by decide)
    have i3 := i3 b
    rw [i4] at i3
    rcases z with ⟨rfl, z⟩ | ⟨rfl, z⟩
    · have q3 : fEq S (.str "build") (.str "build") = some (.bl true) := eq_wd (by decide) (by decide) (by decide)
      generalize W.tup [.str "build", w, u] = M at *
      simp [acE, ACT, sIf, sSet, sAsg, lft, dTst, dBin, dVar, dC, dTup, mkT, szB, dCons, dNil, bnd, ret, rdS, toB, e0, e1, e2, i3, q1, q2, q3, dIf, dMeth, isIns, z]
    · have q3 : fEq S (.str "pull") (.str "build") = some (.bl false) := eq_wd (by decide) (by decide) (by decide)
      generalize W.tup [.str "pull", w, u] = M at *
      simp [acE, ACT, sIf, sSet, sAsg, lft, dTst, dBin, dVar, dC, dTup, mkT, szB, dCons, dNil, bnd, ret, rdS, toB, e0, e1, e2, i3, q1, q2, q3, dIf, dMeth, isIns, z]
  have cme : ∀ {x s : Int} {f : Str} {ws : List W}, (∀ T, g_with_newcomer [.tup (iW r), .int x, .int s] T = .err c f ws T) → ACT (acE j (mvW (.come x s))) S = .ok (.er c f ws (acE j (mvW (.come x s)))) (S.set q (ntd ns "come") ++ []) := fun {x s f ws} z => by
    have z := come_bad h hn z
    have e0 : fIx S (.tup [.str "come", .int x, .int s]) (.int 0) = some (.str "come") := rfl
    have e1 : fIx S (.tup [.str "come", .int x, .int s]) (.int 1) = some (.int x) := rfl
    have e2 : fIx S (.tup [.str "come", .int x, .int s]) (.int 2) = some (.int s) := rfl
    have i3 := i3 "come"
    have i4 : inV (.str "come") [.str "change", .str "go", .str "sneak"] = false := by decide
    have q1 : fEq S (.str "come") (.str "come") = some (.bl true) := eq_wd (by decide) (by decide) (by decide)
    rw [i4] at i3
    show ACT (acE j (.tup [.str "come", .int x, .int s])) S = .ok (.er c f ws (acE j (.tup [.str "come", .int x, .int s]))) _
    generalize S.set q (ntd ns "come") ++ [] = T at *
    generalize W.tup [.str "come", .int x, .int s] = M at *
    simp [acE, ACT, sIf, sSet, sAsg, lft, dTst, dBin, dVar, dC, dTup, mkT, szB, dCons, dNil, bnd, ret, rdS, toB, e0, e1, e2, i3, q1, dMethK, gp, isIns, z]
  cases hb with
  | change hb =>
    rename_i i
    have z := change_bad h hn hb
    refine ⟨[], _, _, .place _, ?_⟩
    have e0 : fIx S (.tup [.str "change", .int i]) (.int 0) = some (.str "change") := rfl
    have e1 : fIx S (.tup [.str "change", .int i]) (.int 1) = some (.int i) := rfl
    have i3 := i3 "change"
    have i4 : inV (.str "change") [.str "change", .str "go", .str "sneak"] = true := by decide
    have q1 : fEq S (.str "change") (.str "change") = some (.bl true) := eq_wd (by decide) (by decide) (by decide)
    rw [i4] at i3
    show ACT (acE j (.tup [.str "change", .int i])) S = .ok (.er "NoPlace" "place" [.int i] (acE j (.tup [.str "change", .int i]))) (S.set q (ntd ns "change") ++ [])
    generalize S.set q (ntd ns "change") ++ [] = T at *
    generalize W.tup [.str "change", .int i] = M at *
    simp [acE, ACT, sIf, sSet, sAsg, lft, dTst, dBin, dVar, dC, dTup, mkT, szB, dCons, dNil, bnd, ret, rdS, toB, e0, e1, i3, q1, dIf, dMeth, isIns, z]
  | known hx => exact ⟨[], _, _, .known _, cme fun T => come_known (.t r) hx⟩
  | far hx hs => exact ⟨[], _, _, .place _, cme fun T => come_far (.t r) hx hs⟩
  | one hx => exact ⟨[], _, _, .one _, one (.inl ⟨rfl, go_bad h hn fun T => gone_none hx⟩)⟩
  | last hx hl => exact ⟨[], _, _, .last, one (.inl ⟨rfl, go_bad h hn fun T => gone_last hx hl⟩)⟩
  | up hs => exact ⟨[], _, _, .side _, two (.inl ⟨rfl, build_side h hn (nsd_no hs)⟩)⟩
  | no hs => exact ⟨[], _, _, .side _, two (.inr ⟨rfl, pull_side h hn (nsd_no hs)⟩)⟩
  | stands hF hf => exact ⟨[], _, _, .stands _, two (.inl ⟨rfl, build_stands h hn hF hf⟩)⟩
  | none hF hf => exact ⟨[], _, _, .floor _, two (.inr ⟨rfl, pull_none h hn hF hf⟩)⟩
  | sneakP e =>
    rename_i t is i
    obtain ⟨J, z⟩ := sneak_bad h hn (lsW_rw t is) e
    exact ⟨J, _, _, .place _, one (.inr ⟨rfl, z⟩)⟩
  | sneakS e =>
    rename_i t is i
    obtain ⟨J, z⟩ := sneak_bad h hn (lsW_rw t is) e
    exact ⟨J, _, _, .seen _, one (.inr ⟨rfl, z⟩)⟩
theorem act_bad (h : Hall S j p q (ps ++ [sd r fl fr]) ns) (hn : ns.length < 900000) {m : Mv} {c : Str} {v : W} (hb : Bad r fl fr m c v) : ∃ J, g_law_act [.ins j, mvW m] S = .ok (.tup [.str "refused", .str c, v]) (S.set q (ntd ns (mvN m)) ++ J) := by
  obtain ⟨J, f, ws, h1, h2⟩ := act_err h hn hb
  obtain ⟨J2, h3⟩ := act_of h2 h1
  exact ⟨J ++ J2, by rw [← List.append_assoc]; exact h3⟩
end

end Den

namespace Den
open PySem PySem.Spec PyProof.Rows L2 Bal
/-! ### what stands -/
section
variable {S : Store} {j p q : Nat} {ps ns : List W} {r fl fr : List Int}
/-- trees of tuples, lists, numbers -/
def trB : Nat → W → Bool
  | 0, _ => false
  | _ + 1, .int _ => true
  | n + 1, .tup ws => ws.all (trB n)
  | n + 1, .cl ws => ws.all (trB n)
  | _ + 1, .str s => PyData.canLay0 (.str s)
  | _ + 1, _ => false
theorem all2_selfH {f : W → W → Bool} : ∀ {ws : List W}, (∀ x ∈ ws, f x x = true) → all2 f ws ws = true
  | [], _ => rfl
  | x :: ws, h => by
    simp only [all2, Bool.and_eq_true]
    exact ⟨h x (List.mem_cons_self ..), all2_selfH fun y hy => h y (List.mem_cons_of_mem _ hy)⟩
theorem like_tr : ∀ (n : Nat) (x : W), trB n x = true → likeB S n x x = true := by
  intro n
  induction n with
  | zero => intro x h; simp [trB] at h
  | succ n ih =>
    intro x h
    cases x with
    | int i => simp [likeB]
    | str s =>
      have h : PyData.canLay0 (.str s) = true := h
      simp [likeB, h]
    | tup ws =>
      simp only [trB, List.all_eq_true] at h
      show all2 (likeB S n) ws ws = true
      exact all2_selfH fun y hy => ih y (h y hy)
    | cl ws =>
      simp only [trB, List.all_eq_true] at h
      show all2 (likeB S n) ws ws = true
      exact all2_selfH fun y hy => ih y (h y hy)
    | _ => simp [trB] at h
theorem tr_iW (l : List Int) (n : Nat) : (iW l).all (trB (n + 1)) = true := by
  rw [List.all_eq_true]
  intro x hx
  obtain ⟨i, _, rfl⟩ := List.mem_map.mp hx
  rfl
theorem same_tr {n : Nat} {x : W} (h : trB n x = true) : g_law_same n [x, x] S = .ok (.bl true) S := same_true n x x (like_tr n x h)
theorem v_many : g_floors_many [homes fl fr] S = .ok (.int ((fl.length + fr.length : Nat) : Int)) S := by
  have l1 : fLen S [.tup (iW fl)] = some (.int (fl.length : Nat)) := by simp [fLen, ixW, itmsS]
  have l2 : fLen S [.tup (iW fr)] = some (.int (fr.length : Nat)) := by simp [fLen, ixW, itmsS]
  have s1 : fSum S [.cl [.int (fl.length : Nat), .int (fr.length : Nat)]] = some (.int ((fl.length : Int) + (fr.length : Int))) := by
    simp [fSum, lstS, inT]
  show fnR (d_floors_many [some (homes fl fr), none] S) = _
  simp [d_floors_many, sRet, lft, dCallN, dLc, iSeq, seqI, rdI, lcL, setT, dYes, wipeW, newK, dCons, dNil, dVar, bnd, ret, rdS, l1, l2, kept, s1, fnR]
def rq1 : Str := Str.empty ++ "Gallery("
def rq2 (a : Nat) : Str := rq1 ++ toString (a : Int)
def rq3 (a : Nat) : Str := rq2 a ++ " folk, "
def rq4 (a b : Nat) : Str := rq3 a ++ toString (b : Int)
def rq5 (a b : Nat) : Str := rq4 a b ++ " floors)"
def ro2 (a : Nat) : Str := "Gallery(" ++ toString (a : Int)
def ro3 (a : Nat) : Str := ro2 a ++ " folk, "
def ro4 (a b : Nat) : Str := ro3 a ++ toString (b : Int)
def ro5 (a b : Nat) : Str := ro4 a b ++ " floors)"
def chk (a b : Nat) : Bool := szB rq1.length && (szB (rq2 a).length && (szB (rq3 a).length && (szB (rq4 a b).length && (szB (rq5 a b).length && (szB (("Gallery(" : Str).length + (toString (a : Int) : Str).length) && (szB ((ro2 a).length + (" folk, " : Str).length) && (szB ((ro3 a).length + (toString (b : Int) : Str).length) && (szB ((ro4 a b).length + (" floors)" : Str).length) && (decide (rq5 a b = ro5 a b) && (decide ((a : Int).natAbs.log2 < 1920) && (decide ((b : Int).natAbs.log2 < 1920) && (decide ((a : Int).natAbs < 1000000000000000000) && decide ((b : Int).natAbs < 1000000000000000000)))))))))))))
theorem chk_all : ∀ a, a < 13 → ∀ b, b < 13 → chk a b = true := by decide +kernel
end

end Den

namespace Den
open PySem PySem.Spec PyProof.Rows L2 Bal
section
variable {S : Store} {j p q : Nat} {ps ns : List W} {r fl fr : List Int}
theorem v_reprG (h : Hall S j p q (ps ++ [sd r fl fr]) ns) (h1 : r.length < 13) (h2 : fl.length + fr.length < 13) : g_Gallery___repr__ [.ins j] S = .ok (.str (rq5 r.length (fl.length + fr.length))) S := by
  have e1 := v_row h
  have e2 := v_houses h
  have e3 := v_many (S := S) (fl := fl) (fr := fr)
  have ln : fLen S [.tup (iW r)] = some (.int (r.length : Nat)) := by simp [fLen, ixW, itmsS]
  have ck := chk_all r.length h1 (fl.length + fr.length) h2
  generalize r.length = a at *
  generalize fl.length + fr.length = b at *
  simp only [chk, Bool.and_eq_true] at ck
  obtain ⟨c1, c2, c3, c4, c5, c6, c7, c8, c9, c10, c11, c12, _⟩ := ck
  show fnR (d_Gallery___repr__ [some (.ins j)] S) = _
  have d1 : dMeth 1 g_Gallery_row (dVar 0) dNil [some (.ins j)] S = .ok (.tup (iW r)) S := by simp [dMeth, isIns, dNil, dVar, bnd, ret, e1]
  have d2 : dMeth 1 g_Gallery_houses (dVar 0) dNil [some (.ins j)] S = .ok (homes fl fr) S := by simp [dMeth, isIns, dNil, dVar, bnd, ret, e2]
  have d3 : dCallN fLen (dCons (dMeth 1 g_Gallery_row (dVar 0) dNil) dNil) [some (.ins j)] S = .ok (.int (a : Int)) S := by simp [dCallN, dCons, dNil, bnd, ret, d1, rdS, ln]
  have d4 : dCall 1 g_floors_many (dCons (dMeth 1 g_Gallery_houses (dVar 0) dNil) dNil) [some (.ins j)] S = .ok (.int (b : Int)) S := by simp [dCall, dCons, dNil, bnd, ret, d2, e3]
  have m1 : fmtW (.int (a : Int)) = some (.str (toString (a : Int))) := by simp only [fmtW, c11, if_true]
  have m2 : fmtW (.int (b : Int)) = some (.str (toString (b : Int))) := by simp only [fmtW, c12, if_true]
  have f1 : dFmt (dCallN fLen (dCons (dMeth 1 g_Gallery_row (dVar 0) dNil) dNil)) [some (.ins j)] S = .ok (.str (toString (a : Int))) S := by
    simp only [dFmt, bnd, d3, rdS, m1]
  have f2 : dFmt (dCall 1 g_floors_many (dCons (dMeth 1 g_Gallery_houses (dVar 0) dNil) dNil)) [some (.ins j)] S = .ok (.str (toString (b : Int))) S := by
    simp only [dFmt, bnd, d4, rdS, m2]
  have k1 : szB (Str.empty ++ ("Gallery(" : Str)).length = true := c1
  have k2 : szB (Str.empty ++ ("Gallery(" : Str) ++ toString (a : Int)).length = true := c2
  have k3 : szB (Str.empty ++ ("Gallery(" : Str) ++ toString (a : Int) ++ " folk, ").length = true := c3
  have k4 : szB (Str.empty ++ ("Gallery(" : Str) ++ toString (a : Int) ++ " folk, " ++ toString (b : Int)).length = true := c4
  have k5 : szB (Str.empty ++ ("Gallery(" : Str) ++ toString (a : Int) ++ " folk, " ++ toString (b : Int) ++ " floors)").length = true := c5
  have lj : jsL [dC (.str "Gallery("), dFmt (dCallN fLen (dCons (dMeth 1 g_Gallery_row (dVar 0) dNil) dNil)), dC (.str " folk, "), dFmt (dCall 1 g_floors_many (dCons (dMeth 1 g_Gallery_houses (dVar 0) dNil) dNil)), dC (.str " floors)")] Str.empty [some (.ins j)] S = .ok (rq5 a b) S := by
    simp only [jsL, bnd, dC, f1, f2, k1, k2, k3, k4, k5, if_true, ret]
    rfl
  unfold d_Gallery___repr__
  simp only [sRet, lft, dJs, bnd, lj, ret, fnR]
end

end Den

namespace Den
open PySem PySem.Spec PyProof.Rows L2 Bal


end Den

namespace Den
open PySem PySem.Spec PyProof.Rows L2 Bal
section
variable {S : Store} {j p q : Nat} {ps ns : List W} {r fl fr : List Int}
/-- what a gallery's deed leaves of the store -/
def Kp2 (S S' : Store) (p q : Nat) : Prop := S.length ≤ S'.length ∧ ∀ (m : Nat) (ws : List W), m ≠ p → m ≠ q → S[m]? = some ws → S'[m]? = some ws
theorem Kp2.refl (S : Store) (p q : Nat) : Kp2 S S p q := ⟨Nat.le_refl _, fun _ _ _ _ e => e⟩
theorem Kp2.trans {S1 S2 S3 : Store} (h : Kp2 S1 S2 p q) (h2 : Kp2 S2 S3 p q) : Kp2 S1 S3 p q := ⟨Nat.le_trans h.1 h2.1, fun m ws a b e => h2.2 m ws a b (h.2 m ws a b e)⟩
theorem Kp2.app {S1 S2 : Store} (h : Kp2 S1 S2 p q) (J : Store) : Kp2 S1 (S2 ++ J) p q := ⟨by rw [List.length_append]; exact Nat.le_trans h.1 (Nat.le_add_right _ _), fun m ws a b e => gapp (h.2 m ws a b e) J⟩
theorem Kp2.setP {S1 S2 : Store} (h : Kp2 S1 S2 p q) (x : List W) : Kp2 S1 (S2.set p x) p q := ⟨by rw [List.length_set]; exact h.1, fun m ws a b e => by rw [List.getElem?_set_ne (Ne.symm a)]; exact h.2 m ws a b e⟩
theorem Kp2.setQ {S1 S2 : Store} (h : Kp2 S1 S2 p q) (x : List W) : Kp2 S1 (S2.set q x) p q := ⟨by rw [List.length_set]; exact h.1, fun m ws a b e => by rw [List.getElem?_set_ne (Ne.symm b)]; exact h.2 m ws a b e⟩
/-- a deed done -/
theorem deed_ok {b : Str} {R : DR} {ρ ρ1 : En} {w : W} {T : Store} {ps' : List W} (h : Hall S j p q ps ns) (hn : ns.length < 900000) (h0 : ρ[0]? = some (some (.ins j))) (h1 : ρ1[0]? = some (some (.ins j))) (e : R ρ (S.set q (ns ++ [nt "in" b])) = .ok (.rt w ρ1) T) (hT : Hall T j p q ps' (ns ++ [nt "in" b])) :
    fnR (sSeq (noteS "in" b) (sFinR R (noteS "out" b)) ρ S) = .ok w (T.set q (ntd ns b)) := by
  have n1 := note_ok h (by omega) h0 "in" b
  have n2 := note_ok hT (by simp; omega) h1 "out" b
  rw [List.append_assoc] at n2
  unfold sSeq
  rw [n1]
  simp only [sFinR, e, n2, fnR]
  rfl
theorem change_ok (h : Hall S j p q (ps ++ [sd r fl fr]) ns) (hn : ns.length < 900000) (hp : ps.length < 900000) (k : Nat) (hk : k + 1 < r.length) : ∃ S' m, g_Gallery_change [.ins j, .int (k : Int)] S = .ok (.lst m) S' ∧ Hall S' j p q (ps ++ [sd r fl fr] ++ [sd (sw r k) fl fr]) (ntd ns "change") ∧ Kp2 S S' p q ∧ S'[m]? = some (toldN r fl fr k) ∧ S.length ≤ m := by
  have hh := h.setQ (ns ++ [nt "in" "change"])
  have kk := (Kp2.refl S p q).setQ (ns ++ [nt "in" "change"])
  have e1 := v_row hh
  have e2 := v_houses hh
  have e3 := v_told (S := S.set q (ns ++ [nt "in" "change"])) (.t r) (Hm.t fl fr) k hk
  have e4 := v_exch (S := S.set q (ns ++ [nt "in" "change"]) ++ [toldN r fl fr k]) (.t r) k hk
  have hh1 := hh.app [toldN r fl fr k]
  have kk1 := kk.app [toldN r fl fr k]
  have e11 := v_row hh1
  have h2 := hh1.app [iW (sw r k)]
  have kk2 := kk1.app [iW (sw r k)]
  have e5 := v_houses h2
  have e6 := v_keep h2 (by simp; omega) (.tup (iW (sw r k))) (homes fl fr)
  have h3 := h2.setP (ps ++ [sd r fl fr] ++ [sd (sw r k) fl fr])
  have kk3 := kk2.setP (ps ++ [sd r fl fr] ++ [sd (sw r k) fl fr])
  have gt : (((S.set q (ns ++ [nt "in" "change"]) ++ [toldN r fl fr k] ++ [iW (sw r k)]).set p (ps ++ [sd r fl fr] ++ [sd (sw r k) fl fr])).set q (ntd ns "change"))[S.length]? = some (toldN r fl fr k) := by
    have := h.pl
    have := h.ql
    rw [List.getElem?_set_ne (by omega), List.getElem?_set_ne (by omega), List.getElem?_append_left (by simp), List.getElem?_append_right (by simp)]
    simp
  have lS : (S.set q (ns ++ [nt "in" "change"])).length = S.length := List.length_set
  rw [lS] at e3
  refine ⟨_, S.length, ?_, h3.setQ _, kk3.setQ _, gt, Nat.le_refl _⟩
  show fnR (d_Gallery_change [some (.ins j), some (.int (k : Int)), none] S) = _
  unfold d_Gallery_change
  refine deed_ok h hn rfl (ρ1 := [some (.ins j), some (.int (k : Int)), some (.lst S.length)]) rfl ?_ h3
  have e6 : g_Gallery_keep [.ins j, .tup (iW (sw r k)), homes fl fr] (S.set q (ns ++ [nt "in" "change"]) ++ [toldN r fl fr k] ++ [iW (sw r k)]) = .ok .non ((S.set q (ns ++ [nt "in" "change"]) ++ [toldN r fl fr k] ++ [iW (sw r k)]).set p (ps ++ [sd r fl fr] ++ [sd (sw r k) fl fr])) := e6
  clear h h2 h3 hh hh1 kk kk1 kk2 kk3 gt lS
  generalize (S.set q (ns ++ [nt "in" "change"]) ++ [toldN r fl fr k] ++ [iW (sw r k)]).set p (ps ++ [sd r fl fr] ++ [sd (sw r k) fl fr]) = T3 at *
  generalize S.set q (ns ++ [nt "in" "change"]) ++ [toldN r fl fr k] ++ [iW (sw r k)] = T2 at *
  generalize S.length = sl at *
  generalize S.set q (ns ++ [nt "in" "change"]) ++ [toldN r fl fr k] = T1 at *
  generalize S.set q (ns ++ [nt "in" "change"]) = T at *
  generalize homes fl fr = HM at *
  generalize iW (sw r k) = SW at *
  simp [rSeq, rRet, sSet, sAsg, setT, sDrop, lft, dCall, dMeth, isIns, dCons, dNil, dVar, bnd, ret, e1, e2, e3, e11, e4, e5, e6]
theorem snk_step {k : Nat} (hk : k + 1 < r.length) (ht : toldN r fl fr k = []) (is : List Int) : snk fl fr r ((k : Int) :: is) = snk fl fr (sw r k) is := by
  show (if ¬ (0 ≤ (k : Int) ∧ (k : Int) < (r.length : Int) - 1) then _ else if toldN r fl fr (k : Int).toNat = [] then _ else _) = _
  rw [if_neg (by omega), Int.toNat_natCast, if_pos ht]
end

section
variable {S : Store} {r fl fr : List Int}
structure Wk (r fl fr : List Int) : Prop where
  nd : r.Nodup
  l0 : 0 < r.length
  l1 : r.length < 13
  n1 : fl.Nodup
  n2 : fr.Nodup
  ll : fl.length + fr.length < 13
end

end Den

namespace Den
open PySem PySem.Spec PyProof.Rows L2 Bal
section
variable {S : Store}
theorem v_place {w : W} {r : List Int} (hw : Rw w r) (x : Int) (h : x ∈ r) : g_place_of [w, .int x] S = .ok (.int (r.idxOf x : Nat)) S := by
  have := in_rw (S := S) hw x
  rcases hw with rfl | rfl
  all_goals simp [g_place_of, d_place_of, fnW, sSeq, sIf, sRet, sNil, lft, dTst, dBin, fNotIn, this, h, toB, rdS, bnd, ret, dVar, dIdx, fIdx, sqB, intsOf, itmsS]
theorem v_ahead {w : W} {r : List Int} (hw : Rw w r) (x : Int) (h : x ∈ r) : g_taller_ahead [w, .int x] S = .ok (.int (ahead r x : Nat)) S := by
  have hl : r.idxOf x ≤ r.length := Nat.le_of_lt (List.idxOf_lt_length_of_mem h)
  have hp := v_place (S := S) hw x h
  rcases hw with rfl | rfl
  · simp [g_taller_ahead, d_taller_ahead, fnW, sRet, lft, dCall, dCons, dNil, dCut, oNone, oSome, hp, fCut, cut_to r _ hl, v_among x (.t _), bnd, ret, dVar, ahead]
  · simp [g_taller_ahead, d_taller_ahead, fnW, sRet, lft, dCall, dCons, dNil, dCut, oNone, oSome, hp, fCut, lstS, cut_to r _ hl, v_among x (.l _), bnd, ret, dVar, ahead, newK]
theorem v_behind {w : W} {r : List Int} (hw : Rw w r) (x : Int) (h : x ∈ r) : g_taller_behind [w, .int x] S = .ok (.int (behind r x : Nat)) S := by
  have hl : r.idxOf x ≤ r.length := Nat.le_of_lt (List.idxOf_lt_length_of_mem h)
  have hp := v_place (S := S) hw x h
  rcases hw with rfl | rfl
  · simp [g_taller_behind, d_taller_behind, fnW, sRet, lft, dCall, dCons, dNil, dCut, oNone, oSome, hp, fCut, cut_from r _ hl, v_among x (.t _), bnd, ret, dVar, behind]
  · simp [g_taller_behind, d_taller_behind, fnW, sRet, lft, dCall, dCons, dNil, dCut, oNone, oSome, hp, fCut, lstS, cut_from r _ hl, v_among x (.l _), bnd, ret, dVar, behind, newK]
end

section
variable {S : Store}
theorem v_above {w : W} {fl : List Int} (hw : Rw w fl) (n : Int) : g_floors_above [w, .int n] S = .ok (.int ((fl.filter (fun k => decide (n < k))).length : Nat)) S := by
  have key := lc_iW (i := 2) (tt := dTst (dBin (fCmp pLt) (dVar 1) (dVar 2))) (de := dVar 2) (ρ := [some w, some (.int n), none]) (S := S) (fun k => decide (n < k)) (fun i => .int i) fl fun k _ => ⟨by simp [dTst, dBin, dVar, bnd, rdS, fCmp, toB, ret, pLt_ap], fun _ => by simp [dVar]⟩
  simp [g_floors_above, d_floors_above, fnW, sRet, lft, dCallN, dCons, dNil, dLc, iSeq, bnd, ret, dVar, rdI, rdS, hw.sq, wipeW, key, newK, fLen, ixW, itmsS]
theorem v_seenby {w h : W} {r fl fr : List Int} (hw : Rw w r) (hh : Hm h fl fr) (x : Int) (hx : x ∈ r) : g_seen_by [w, h, .int x] S = .ok (.tup [.int ((fl.filter (fun k => decide ((ahead r x : Int) < k))).length : Nat), .int ((fr.filter (fun k => decide ((behind r x : Int) < k))).length : Nat)]) S := by
  obtain ⟨a, b, hh, ha, hb⟩ := hh
  rcases hh with rfl | rfl
  all_goals simp [g_seen_by, d_seen_by, fnW, sSeq, sAsg, sRet, lft, dVar, setT, setTs, itmsS, dTup, dCons, dNil, dCall, bnd, ret, v_ahead hw x hx, v_behind hw x hx, v_above ha, v_above hb, mkT, szB]
end

/-! ### newcomers: mathematics -/
section
def nw (r : List Int) (s : Nat) (x : Int) : List Int := r.take s ++ x :: r.drop s
theorem ahead_in {x y : Int} (hx : y ≠ x) : ∀ {t : List Int} (d : List Int), y ∈ t → ahead (t ++ x :: d) y = ahead (t ++ d) y
  | z :: t, d, hy => by
    rw [List.cons_append, List.cons_append, ahead_cons, ahead_cons]
    by_cases h : z = y
    · rw [if_pos h, if_pos h]
    · rw [if_neg h, if_neg h, ahead_in hx d (by rcases List.mem_cons.mp hy with e | e; exact absurd e.symm h; exact e)]
theorem ahead_out {x y : Int} (hx : y ≠ x) : ∀ {t : List Int} (d : List Int), y ∉ t → ahead (t ++ x :: d) y = ahead (t ++ d) y + (if y < x then 1 else 0)
  | [], d, _ => by
    rw [List.nil_append, List.nil_append, ahead_cons, if_neg (Ne.symm hx)]
    omega
  | z :: t, d, hy => by
    rw [List.cons_append, List.cons_append, ahead_cons, ahead_cons]
    have h : ¬ z = y := fun e => hy (by rw [e]; exact List.mem_cons_self ..)
    rw [if_neg h, if_neg h, ahead_out hx d (fun e => hy (List.mem_cons_of_mem _ e))]
    omega
theorem mem_take_idx {y : Int} {s : Nat} : ∀ {r : List Int}, y ∈ r → (y ∈ r.take s ↔ r.idxOf y < s) := by
  induction s with
  | zero => intro r _; simp
  | succ s ih =>
    intro r hy
    cases r with
    | nil => simp at hy
    | cons z r =>
      rw [List.take_succ_cons, List.idxOf_cons]
      by_cases h : z = y
      · simp [h]
      · have hy2 : y ∈ r := by rcases List.mem_cons.mp hy with e | e; exact absurd e.symm h; exact e
        have := ih hy2
        have hb : (z == y) = false := by simpa using h
        rw [hb, List.mem_cons, this]
        constructor
        · rintro (e | e)
          · exact absurd e.symm h
          · simpa using e
        · intro e
          exact .inr (by simpa using e)
theorem mem_drop_idx {y : Int} {s : Nat} {r : List Int} (nd : r.Nodup) (hy : y ∈ r) : y ∈ r.drop s ↔ ¬ r.idxOf y < s := by
  rw [← mem_take_idx hy]
  have h := List.take_append_drop s r
  constructor
  · intro h1 h2
    rw [← h] at nd
    exact (List.nodup_append.mp nd).2.2 y h2 y h1 rfl
  · intro h1
    rw [← h] at hy
    rcases List.mem_append.mp hy with e | e
    · exact absurd e h1
    · exact e
theorem nw_ahead {r : List Int} {s : Nat} {x y : Int} (hy : y ∈ r) (hx : x ∉ r) : ahead (nw r s x) y = ahead r y + (if y < x ∧ s ≤ r.idxOf y then 1 else 0) := by
  have hne : y ≠ x := fun e => hx (e ▸ hy)
  unfold nw
  by_cases h : y ∈ r.take s
  · have h2 := (mem_take_idx hy).mp h
    rw [ahead_in hne _ h, List.take_append_drop, if_neg (by omega)]
    omega
  · have h2 : ¬ r.idxOf y < s := fun e => h ((mem_take_idx hy).mpr e)
    rw [ahead_out hne _ h, List.take_append_drop]
    congr 1
    by_cases c : y < x
    · rw [if_pos c, if_pos ⟨c, by omega⟩]
    · rw [if_neg c, if_neg (by omega)]
theorem nw_rev (r : List Int) (s : Nat) (x : Int) : (nw r s x).reverse = (r.drop s).reverse ++ x :: (r.take s).reverse := by simp [nw]
theorem nw_behind {r : List Int} {s : Nat} {x y : Int} (nd : r.Nodup) (hy : y ∈ r) (hx : x ∉ r) : ahead (nw r s x).reverse y = ahead r.reverse y + (if y < x ∧ r.idxOf y < s then 1 else 0) := by
  have hne : y ≠ x := fun e => hx (e ▸ hy)
  have e : r.reverse = (r.drop s).reverse ++ (r.take s).reverse := by rw [← List.reverse_append, List.take_append_drop]
  rw [nw_rev, e]
  by_cases h : y ∈ r.drop s
  · have h2 := (mem_drop_idx nd hy).mp h
    rw [ahead_in hne _ (List.mem_reverse.mpr h), if_neg (by omega)]
    omega
  · have h2 : r.idxOf y < s := Decidable.not_not.mp fun e => h ((mem_drop_idx nd hy).mpr e)
    rw [ahead_out hne _ (fun e => h (List.mem_reverse.mp e))]
    congr 1
    by_cases c : y < x
    · rw [if_pos c, if_pos ⟨c, h2⟩]
    · rw [if_neg c, if_neg (by omega)]
theorem nw_perm (r : List Int) (s : Nat) (x : Int) : (nw r s x).Perm (x :: r) := by
  unfold nw
  have := List.perm_middle (a := x) (l₁ := r.take s) (l₂ := r.drop s)
  rw [List.take_append_drop] at this
  exact this
theorem nw_nd {r : List Int} {s : Nat} {x : Int} (nd : r.Nodup) (hx : x ∉ r) : (nw r s x).Nodup := (nw_perm r s x).nodup_iff.mpr (List.nodup_cons.mpr ⟨hx, nd⟩)
theorem nw_len (r : List Int) (s : Nat) (x : Int) : (nw r s x).length = r.length + 1 := (nw_perm r s x).length_eq
theorem nw_mem {r : List Int} {s : Nat} {x y : Int} : y ∈ nw r s x ↔ y = x ∨ y ∈ r := by rw [(nw_perm r s x).mem_iff, List.mem_cons]
theorem cnt_eq {a b : Nat} (h : a ≤ b) : ∀ l : List Int, ((l.filter fun k => decide ((a : Int) < k)).length = (l.filter fun k => decide ((b : Int) < k)).length ↔ l.map (fun k => decide ((a : Int) < k)) = l.map (fun k => decide ((b : Int) < k))) ∧ (l.filter fun k => decide ((b : Int) < k)).length ≤ (l.filter fun k => decide ((a : Int) < k)).length
  | [] => by simp
  | k :: l => by
    obtain ⟨i1, i2⟩ := cnt_eq h l
    rw [List.filter_cons, List.filter_cons, List.map_cons, List.map_cons]
    by_cases c1 : (b : Int) < k
    · have c2 : (a : Int) < k := by omega
      rw [if_pos (by simpa using c2), if_pos (by simpa using c1), List.length_cons, List.length_cons]
      refine ⟨?_, by omega⟩
      rw [decide_eq_true c1, decide_eq_true c2]
      constructor
      · intro e; rw [i1.mp (by omega)]
      · intro e; rw [i1.mpr (by injection e)]
    · by_cases c2 : (a : Int) < k
      · rw [if_pos (by simpa using c2), if_neg (by simpa using c1), List.length_cons]
        refine ⟨?_, by omega⟩
        rw [decide_eq_false c1, decide_eq_true c2]
        constructor
        · intro e; omega
        · intro e; injection e with e1 _; cases e1
      · rw [if_neg (by simpa using c2), if_neg (by simpa using c1)]
        refine ⟨?_, i2⟩
        rw [decide_eq_false c1, decide_eq_false c2, i1]
        constructor
        · intro e; rw [e]
        · intro e; injection e
/-- floor by floor whether it sees somebody -/
def flgs (fl fr r : List Int) (y : Int) : List Bool := fl.map (fun k => decide ((ahead r y : Int) < k)) ++ fr.map (fun k => decide ((ahead r.reverse y : Int) < k))
def cntL (fl r : List Int) (y : Int) : Nat := (fl.filter fun k => decide ((ahead r y : Int) < k)).length
theorem flgs_cnt {fl fr r q : List Int} {y : Int} (h1 : ahead r y ≤ ahead q y) (h2 : ahead r.reverse y ≤ ahead q.reverse y) : flgs fl fr r y = flgs fl fr q y ↔ cntL fl r y = cntL fl q y ∧ cntL fr r.reverse y = cntL fr q.reverse y := by
  unfold flgs cntL
  rw [(cnt_eq h1 fl).1, (cnt_eq h2 fr).1]
  constructor
  · intro e
    exact List.append_inj e (by simp)
  · rintro ⟨e1, e2⟩
    rw [e1, e2]
/-- whom a newcomer makes be seen otherwise -/
def othN (fl fr r q : List Int) : List Int := (srt r).filter fun y => !decide (flgs fl fr r y = flgs fl fr q y)
end

section
variable {S : Store}
theorem addC (x y : List W) (h : x.length + y.length < 1000) : fAdd S (.cl x) (.cl y) = some (.cl (x ++ y)) := by
  have hz : szB (x.length + y.length) = true := decide_eq_true (by omega)
  simp [fAdd, lstS, hz]
theorem lcK {i : Nat} {tt : DT} {de : DE} {ρ : En} {keep : List Nat} (hk : kept S S keep = true) (p : Int → Bool) (f : Int → W) : ∀ ns : List Int, (∀ n ∈ ns, tt (ρ.set i (some (.int n))) S = .ok (p n) S ∧ (p n = true → de (ρ.set i (some (.int n))) S = .ok (f n) S)) → lcL (.nm i) tt de ρ S keep (iW ns) S = .ok ((ns.filter p).map f) S
  | [], _ => rfl
  | n :: ns, h => by
    have e : iW (n :: ns) = .int n :: iW ns := rfl
    rw [e]
    have ih := lcK hk p f ns fun m hm => h m (List.mem_cons_of_mem _ hm)
    obtain ⟨h1, h2⟩ := h n (List.mem_cons_self ..)
    cases hp : p n with
    | true =>
      have h2 := h2 hp
      rw [hp] at h1
      simp [lcL, setT, h1, h2, ih, hp, hk]
    | false =>
      rw [hp] at h1
      simp [lcL, setT, h1, ih, hp, hk]
end

section
variable {S : Store}
theorem rev_behind {r : List Int} {x : Int} (nd : r.Nodup) (hx : x ∈ r) : ahead r.reverse x = behind r x := (Bal.frn_ahead r.reverse x).symm.trans (Bal.frn_rev nd hx)
theorem ne_int (i j : Int) : fNe S (.int i) (.int j) = some (.bl (!decide (i = j))) := by
  by_cases h : i = j <;> simp [fNe, eqD, datS, dat, SeqAt.shaped, PyData.eqv, PyData.canLay0, PyData.depth, h]
theorem ne_tups (a b : List Int) : fNe S (.tup (iW a)) (.tup (iW b)) = some (.bl (!decide (a = b))) := by
  simp [fNe, eqD, datS_tup, PyData.eqv, eqv_ints]
theorem nw_W (r : List Int) (s : Nat) (x : Int) : (iW r).take s ++ [W.int x] ++ (iW r).drop s = iW (nw r s x) := by simp [iW, nw]
end

section
variable {S : Store}
theorem cnt_ne {a b c d : Nat} : fNe S (.tup [.int (a : Int), .int (b : Int)]) (.tup [.int (c : Int), .int (d : Int)]) = some (.bl (!decide (a = c ∧ b = d))) := by
  have := ne_tups (S := S) [(a : Int), (b : Int)] [(c : Int), (d : Int)]
  have e : ([(a : Int), (b : Int)] = [(c : Int), (d : Int)]) ↔ (a = c ∧ b = d) := by simp; omega
  rw [show (!decide ([(a : Int), (b : Int)] = [(c : Int), (d : Int)])) = !decide (a = c ∧ b = d) from by simp only [e]] at this
  exact this
end

section
variable {S : Store}
theorem come_ok {w : W} {r : List Int} (hw : Rw w r) {s : Nat} {x : Int} (hx : x ∉ r) (hs : s ≤ r.length) (hl : r.length ≤ 100) : g_with_newcomer [w, .int x, .int (s : Int)] S = .ok (.tup (iW (nw r s x))) (S ++ [iW (nw r s x)]) := by
  have e1 := known_in (S := S) hw hx
  have ln : fLen S [w] = some (.int (r.length : Nat)) := by rcases hw with rfl | rfl <;> simp [fLen, ixW, itmsS]
  have fl : fList S [w] = some (iW r) := by rcases hw with rfl | rfl <;> rfl
  have g1 : ∀ y : List W, (S ++ [y])[S.length]? = some y := fun y => by simp
  have g2 : ∀ y : List W, (S ++ [iW r]).set S.length y = S ++ [y] := fun y => by simp
  have z1 : (szB ((iW r).length + 1) && decide (0 ≤ (s : Int) ∧ (s : Int) < 2 ^ 63)) = true := by
    rw [iW_len, Bool.and_eq_true]
    exact ⟨decide_eq_true (by omega), decide_eq_true ⟨by omega, by omega⟩⟩
  have z2 : szB (iW (nw r s x)).length = true := decide_eq_true (by rw [iW_len, nw_len]; omega)
  have ns : (s : Int).toNat = s := by omega
  have ap : fInsert (S ++ [iW r]) (.lst S.length) [.int (s : Int), .int x] = some (.non, S ++ [iW (nw r s x)]) := by
    simp only [fInsert, chS, g1, z1, if_true, ns, nw_W, z2, g2]
  have c1 : (0 : Int) ≤ (s : Int) := by omega
  have c2 : (s : Int) ≤ (r.length : Int) := by omega
  show fnW 4 d_with_newcomer _ S = _
  generalize iW (nw r s x) = Y at *
  generalize iW r = R at *
  generalize (s : Int) = k at *
  generalize (r.length : Nat) = m at *
  simp [d_with_newcomer, fnW, sSeq, sDrop, lft, dCall, dCons, dNil, dVar, dC, bnd, ret, e1, sIf, dNotT, dTst, dChain, dCallN, rdS, ln, fCmp, pLe_ap, c1, c2, toB, sNil, sSet, sAsg, setT, dCallF, fl, newK, mkL, szB, dMth, lsB, wrS, ap, sRet, fTuple, itmsS, g1]
theorem v_oth {fl fr r : List Int} {s : Nat} {x : Int} (nd : r.Nodup) (hx : x ∉ r) (hs : s ≤ r.length) (hl : r.length ≤ 100) : g_seen_otherwise [.tup (iW r), homes fl fr, .int x, .int (s : Int)] S = .ok (.lst (S.length + 1)) (S ++ [iW (nw r s x)] ++ [iW (othN fl fr r (nw r s x))]) := by
  have e1 := come_ok (S := S) (.t r) hx hs hl
  have l1 : (S ++ [iW (nw r s x)]).length = S.length + 1 := by simp
  rw [← l1]
  generalize S ++ [iW (nw r s x)] = S1 at e1 ⊢
  have so : fSorted S1 [.tup (iW r)] = some (iW (srt r)) := by simp [fSorted, intsOf, itmsS, inT_iW]; rfl
  have lc := lcK (S := S1) (i := 5) (tt := dTst (dBin fNe (dCall 3 g_seen_by (dCons (dVar 0) (dCons (dVar 1) (dCons (dVar 5) dNil)))) (dCall 3 g_seen_by (dCons (dVar 4) (dCons (dVar 1) (dCons (dVar 5) dNil)))))) (de := dVar 5) (ρ := [some (.tup (iW r)), some (homes fl fr), some (.int x), some (.int (s : Int)), some (.tup (iW (nw r s x))), none]) (keep := []) rfl (fun y => !decide (flgs fl fr r y = flgs fl fr (nw r s x) y)) W.int (srt r) fun y hy => by
    have hy : y ∈ r := (srt_perm r).mem_iff.mp hy
    have hy2 : y ∈ nw r s x := nw_mem.mpr (.inr hy)
    have q1 := v_seenby (S := S1) (.t r) (Hm.t fl fr) y hy
    have q2 := v_seenby (S := S1) (.t (nw r s x)) (Hm.t fl fr) y hy2
    have q3 := cnt_ne (S := S1) (a := cntL fl r y) (b := cntL fr r.reverse y) (c := cntL fl (nw r s x) y) (d := cntL fr (nw r s x).reverse y)
    have b1 : behind r y = ahead r.reverse y := (rev_behind nd hy).symm
    have b2 : behind (nw r s x) y = ahead (nw r s x).reverse y := (rev_behind (nw_nd nd hx) hy2).symm
    rw [b1] at q1
    rw [b2] at q2
    have m1 : ahead r y ≤ ahead (nw r s x) y := by rw [nw_ahead hy hx]; omega
    have m2 : ahead r.reverse y ≤ ahead (nw r s x).reverse y := by rw [nw_behind nd hy hx]; omega
    have q4 := flgs_cnt (fl := fl) (fr := fr) m1 m2
    simp only [q4]
    have q1 : g_seen_by [.tup (iW r), homes fl fr, .int y] S1 = .ok (.tup [.int (cntL fl r y : Nat), .int (cntL fr r.reverse y : Nat)]) S1 := q1
    have q2 : g_seen_by [.tup (iW (nw r s x)), homes fl fr, .int y] S1 = .ok (.tup [.int (cntL fl (nw r s x) y : Nat), .int (cntL fr (nw r s x).reverse y : Nat)]) S1 := q2
    generalize iW (nw r s x) = Y at *
    generalize iW r = R at *
    generalize homes fl fr = HH at *
    generalize decide (cntL fl r y = cntL fl (nw r s x) y ∧ cntL fr r.reverse y = cntL fr (nw r s x).reverse y) = t at *
    refine ⟨?_, fun _ => ?_⟩
    · simp [dTst, dBin, dCall, dCons, dNil, dVar, bnd, ret, q1, q2, rdS, q3, toB]
    · simp [dVar, ret]
  have eo : (srt r).filter (fun y => !decide (flgs fl fr r y = flgs fl fr (nw r s x) y)) = othN fl fr r (nw r s x) := rfl
  rw [eo] at lc
  have lc : lcL (.nm 5) (dTst (dBin fNe (dCall 3 g_seen_by (dCons (dVar 0) (dCons (dVar 1) (dCons (dVar 5) dNil)))) (dCall 3 g_seen_by (dCons (dVar 4) (dCons (dVar 1) (dCons (dVar 5) dNil)))))) (dVar 5) [some (.tup (iW r)), some (homes fl fr), some (.int x), some (.int (s : Int)), some (.tup (iW (nw r s x))), none] S1 [] (iW (srt r)) S1 = .ok (iW (othN fl fr r (nw r s x))) S1 := lc
  show fnW 6 d_seen_otherwise _ S = _
  generalize othN fl fr r (nw r s x) = O at *
  generalize iW (nw r s x) = Y at *
  generalize homes fl fr = HH at *
  generalize iW (srt r) = Q at *
  generalize iW r = R at *
  simp [d_seen_otherwise, fnW, sSeq, sSet, sAsg, setT, lft, dCall, dCons, dNil, dVar, bnd, ret, e1, sRet, dLc, iSeq, dCallF, so, newK, rdI, seqI, wipeW, lc]
end

end Den

namespace Den
open PySem PySem.Spec PyProof.Rows L2 Bal
/-! ### deeds done -/
section
variable {S : Store} {j p q : Nat} {ps ns : List W} {r fl fr : List Int}
theorem deed_come (h : Hall S j p q (ps ++ [sd r fl fr]) ns) (hn : ns.length < 900000) (hp : ps.length < 900000) (nd : r.Nodup) {x : Int} {s : Nat} (hx : x ∉ r) (hs : s ≤ r.length) (hl : r.length ≤ 100) : ∃ S' m, g_Gallery_come [.ins j, .int x, .int (s : Int)] S = .ok (.lst m) S' ∧ Hall S' j p q (ps ++ [sd r fl fr] ++ [sd (nw r s x) fl fr]) (ntd ns "come") ∧ Kp2 S S' p q ∧ S'[m]? = some (iW (othN fl fr r (nw r s x))) ∧ S.length ≤ m := by
  have hh := h.setQ (ns ++ [nt "in" "come"])
  have kk := (Kp2.refl S p q).setQ (ns ++ [nt "in" "come"])
  have e1 := v_row hh
  have e2 := v_houses hh
  have e3 := v_oth (S := S.set q (ns ++ [nt "in" "come"])) (fl := fl) (fr := fr) nd hx hs hl
  have h1 := (hh.app [iW (nw r s x)]).app [iW (othN fl fr r (nw r s x))]
  have k1 := (kk.app [iW (nw r s x)]).app [iW (othN fl fr r (nw r s x))]
  have e4 := v_row h1
  have e5 := come_ok (S := S.set q (ns ++ [nt "in" "come"]) ++ [iW (nw r s x)] ++ [iW (othN fl fr r (nw r s x))]) (.t r) hx hs hl
  have h2 := h1.app [iW (nw r s x)]
  have k2 := k1.app [iW (nw r s x)]
  have e6 := v_houses h2
  have e7 := v_keep h2 (by simp; omega) (.tup (iW (nw r s x))) (homes fl fr)
  have h3 := h2.setP (ps ++ [sd r fl fr] ++ [sd (nw r s x) fl fr])
  have k3 := k2.setP (ps ++ [sd r fl fr] ++ [sd (nw r s x) fl fr])
  have gt : (((S.set q (ns ++ [nt "in" "come"]) ++ [iW (nw r s x)] ++ [iW (othN fl fr r (nw r s x))] ++ [iW (nw r s x)]).set p (ps ++ [sd r fl fr] ++ [sd (nw r s x) fl fr])).set q (ntd ns "come"))[S.length + 1]? = some (iW (othN fl fr r (nw r s x))) := by
    have := h.pl
    have := h.ql
    rw [List.getElem?_set_ne (by omega), List.getElem?_set_ne (by omega), List.getElem?_append_left (by simp), List.getElem?_append_right (by simp)]
    simp
  have lS : (S.set q (ns ++ [nt "in" "come"])).length = S.length := List.length_set
  rw [lS] at e3
  refine ⟨_, S.length + 1, ?_, h3.setQ _, k3.setQ _, gt, by omega⟩
  show fnR (d_Gallery_come [some (.ins j), some (.int x), some (.int (s : Int)), none] S) = _
  unfold d_Gallery_come
  refine deed_ok h hn rfl (ρ1 := [some (.ins j), some (.int x), some (.int (s : Int)), some (.lst (S.length + 1))]) rfl ?_ h3
  have e7 : g_Gallery_keep [.ins j, .tup (iW (nw r s x)), homes fl fr] (S.set q (ns ++ [nt "in" "come"]) ++ [iW (nw r s x)] ++ [iW (othN fl fr r (nw r s x))] ++ [iW (nw r s x)]) = .ok .non ((S.set q (ns ++ [nt "in" "come"]) ++ [iW (nw r s x)] ++ [iW (othN fl fr r (nw r s x))] ++ [iW (nw r s x)]).set p (ps ++ [sd r fl fr] ++ [sd (nw r s x) fl fr])) := e7
  clear h h1 h2 h3 hh kk k1 k2 k3 gt lS
  generalize (S.set q (ns ++ [nt "in" "come"]) ++ [iW (nw r s x)] ++ [iW (othN fl fr r (nw r s x))] ++ [iW (nw r s x)]).set p (ps ++ [sd r fl fr] ++ [sd (nw r s x) fl fr]) = T3 at *
  generalize S.set q (ns ++ [nt "in" "come"]) ++ [iW (nw r s x)] ++ [iW (othN fl fr r (nw r s x))] ++ [iW (nw r s x)] = T2 at *
  generalize S.set q (ns ++ [nt "in" "come"]) ++ [iW (nw r s x)] ++ [iW (othN fl fr r (nw r s x))] = T1 at *
  generalize S.length + 1 = sl at *
  generalize S.set q (ns ++ [nt "in" "come"]) = T at *
  generalize homes fl fr = HM at *
  generalize iW (nw r s x) = SW at *
  generalize (s : Int) = ss at *
  simp [rSeq, rRet, sSet, sAsg, setT, sDrop, lft, dCall, dCallM, gp, dMeth, isIns, dCons, dNil, dVar, bnd, ret, e1, e2, e3, e4, e5, e6, e7]
/-- the row without somebody -/
abbrev wo (r : List Int) (x : Int) : List Int := r.filter fun y => !decide (y = x)
theorem wo_nw : ∀ {r : List Int} {x : Int}, r.Nodup → x ∈ r → nw (wo r x) (r.idxOf x) x = r
  | [], x, _, h => by cases h
  | y :: r, x, nd, h => by
    rw [List.nodup_cons] at nd
    by_cases hy : y = x
    · subst hy
      have e : wo r y = r := List.filter_eq_self.mpr fun z hz => by
        have : z ≠ y := fun e => nd.1 (e ▸ hz)
        simp [this]
      simp only [wo, List.filter_cons, decide_true, Bool.not_true, Bool.false_eq_true, if_false, List.idxOf_cons_self, nw, List.take_zero, List.drop_zero, List.nil_append]
      rw [show r.filter (fun z => !decide (z = y)) = r from e]
    · have hm : x ∈ r := by
        rcases List.mem_cons.mp h with e | e
        · exact absurd e.symm hy
        · exact e
      have ih := wo_nw nd.2 hm
      have i1 : (y :: r).idxOf x = r.idxOf x + 1 := by
        rw [List.idxOf_cons]
        have : (y == x) = false := beq_eq_false_iff_ne.mpr hy
        simp [this]
      have w1 : wo (y :: r) x = y :: wo r x := by simp [wo, List.filter_cons, hy]
      rw [i1, w1]
      unfold nw at ih ⊢
      rw [List.take_succ_cons, List.drop_succ_cons, List.cons_append, ih]
theorem wo_not (r : List Int) (x : Int) : x ∉ wo r x := fun h => by simp [wo] at h
theorem wo_len {r : List Int} {x : Int} (nd : r.Nodup) (h : x ∈ r) : (wo r x).length + 1 = r.length := by
  have := congrArg List.length (wo_nw nd h)
  rw [nw_len] at this
  exact this
theorem gone_ok {x : Int} (hx : x ∈ r) (hl : 1 < r.length) : g_gone [.tup (iW r), .int x] S = .ok (.tup (iW (wo r x))) S := by
  have i1 := in_rw (S := S) (.t r) x
  have ln : fLen S [.tup (iW r)] = some (.int (r.length : Nat)) := by simp [fLen, ixW, itmsS]
  have q1 : fEq S (.int (r.length : Int)) (.int 1) = some (.bl false) := by
    rw [eq_int]
    have : ¬ ((r.length : Int) = 1) := by omega
    simp [this]
  have lc := lcK (S := S) (i := 2) (tt := dTst (dBin fNe (dVar 2) (dVar 1))) (de := dVar 2) (ρ := [some (.tup (iW r)), some (.int x), none]) (keep := []) rfl (fun y => !decide (y = x)) W.int r fun y hy => by
    have q3 := ne_int (S := S) y x
    refine ⟨?_, fun _ => rfl⟩
    show dTst (dBin fNe (dVar 2) (dVar 1)) [some (.tup (iW r)), some (.int x), some (.int y)] S = _
    generalize decide (y = x) = t at *
    simp [dTst, dBin, dVar, bnd, ret, rdS, q3, toB]
  have lc : lcL (.nm 2) (dTst (dBin fNe (dVar 2) (dVar 1))) (dVar 2) [some (.tup (iW r)), some (.int x), none] S [] (iW r) S = .ok (iW (wo r x)) S := lc
  have ft : fTuple S [.cl (iW (wo r x))] = some (.tup (iW (wo r x))) := by simp [fTuple, itmsS]
  show fnW 3 d_gone _ S = _
  generalize iW (wo r x) = O at *
  generalize (r.length : Nat) = n at *
  generalize iW r = R at *
  simp [d_gone, fnW, sSeq, sIf, sNil, lft, dTst, dBin, dVar, dC, dCallN, dCons, dNil, bnd, ret, rdS, fNotIn, i1, hx, toB, ln, q1, sRet, dLc, iSeq, rdI, seqI, wipeW, lc, newK, ft]
theorem deed_go (h : Hall S j p q (ps ++ [sd r fl fr]) ns) (hn : ns.length < 900000) (hp : ps.length < 900000) (nd : r.Nodup) {x : Int} (hx : x ∈ r) (h1 : 1 < r.length) (hl : r.length ≤ 100) : ∃ S' m, g_Gallery_go [.ins j, .int x] S = .ok (.lst m) S' ∧ Hall S' j p q (ps ++ [sd r fl fr] ++ [sd (wo r x) fl fr]) (ntd ns "go") ∧ Kp2 S S' p q ∧ S'[m]? = some (iW (othN fl fr (wo r x) r)) ∧ S.length ≤ m := by
  have hh := h.setQ (ns ++ [nt "in" "go"])
  have kk := (Kp2.refl S p q).setQ (ns ++ [nt "in" "go"])
  have wl := wo_len nd hx
  have wn : (wo r x).Nodup := nd.filter _
  have is : r.idxOf x ≤ (wo r x).length := by have := List.idxOf_lt_length_iff.mpr hx; omega
  have e0 := gone_ok (S := S.set q (ns ++ [nt "in" "go"])) hx h1
  have e1 := v_row hh
  have e2 := v_houses hh
  have e3 := v_oth (S := S.set q (ns ++ [nt "in" "go"])) (fl := fl) (fr := fr) wn (wo_not r x) is (by omega)
  rw [wo_nw nd hx] at e3
  have ix : fIdx (S.set q (ns ++ [nt "in" "go"])) (.tup (iW r)) (.int x) = some (.int (r.idxOf x : Nat)) := by
    have : intsOf (S.set q (ns ++ [nt "in" "go"])) (.tup (iW r)) = some r := by simp [intsOf, itmsS, inT_iW]
    simp [fIdx, this, hx]
  have h2 := (hh.app [iW r]).app [iW (othN fl fr (wo r x) r)]
  have k2 := (kk.app [iW r]).app [iW (othN fl fr (wo r x) r)]
  have e6 := v_houses h2
  have e7 := v_keep h2 (by simp; omega) (.tup (iW (wo r x))) (homes fl fr)
  have h3 := h2.setP (ps ++ [sd r fl fr] ++ [sd (wo r x) fl fr])
  have k3 := k2.setP (ps ++ [sd r fl fr] ++ [sd (wo r x) fl fr])
  have gt : (((S.set q (ns ++ [nt "in" "go"]) ++ [iW r] ++ [iW (othN fl fr (wo r x) r)]).set p (ps ++ [sd r fl fr] ++ [sd (wo r x) fl fr])).set q (ntd ns "go"))[S.length + 1]? = some (iW (othN fl fr (wo r x) r)) := by
    have := h.pl
    have := h.ql
    rw [List.getElem?_set_ne (by omega), List.getElem?_set_ne (by omega), List.getElem?_append_right (by simp)]
    simp
  have lS : (S.set q (ns ++ [nt "in" "go"])).length = S.length := List.length_set
  rw [lS] at e3
  refine ⟨_, S.length + 1, ?_, h3.setQ _, k3.setQ _, gt, by omega⟩
  show fnR (d_Gallery_go [some (.ins j), some (.int x), none, none] S) = _
  unfold d_Gallery_go
  refine deed_ok h hn rfl (ρ1 := [some (.ins j), some (.int x), some (.tup (iW (wo r x))), some (.lst (S.length + 1))]) rfl ?_ h3
  have e7 : g_Gallery_keep [.ins j, .tup (iW (wo r x)), homes fl fr] (S.set q (ns ++ [nt "in" "go"]) ++ [iW r] ++ [iW (othN fl fr (wo r x) r)]) = .ok .non ((S.set q (ns ++ [nt "in" "go"]) ++ [iW r] ++ [iW (othN fl fr (wo r x) r)]).set p (ps ++ [sd r fl fr] ++ [sd (wo r x) fl fr])) := e7
  clear h h2 h3 hh kk k2 k3 gt lS
  generalize (S.set q (ns ++ [nt "in" "go"]) ++ [iW r] ++ [iW (othN fl fr (wo r x) r)]).set p (ps ++ [sd r fl fr] ++ [sd (wo r x) fl fr]) = T3 at *
  generalize S.set q (ns ++ [nt "in" "go"]) ++ [iW r] ++ [iW (othN fl fr (wo r x) r)] = T1 at *
  generalize S.length + 1 = sl at *
  generalize S.set q (ns ++ [nt "in" "go"]) = T at *
  generalize homes fl fr = HM at *
  generalize iW (wo r x) = SW at *
  generalize (r.idxOf x : Nat) = ss at *
  simp [rSeq, rRet, sSet, sAsg, setT, sDrop, lft, dCall, dCallM, gp, dMeth, isIns, dIdx, sqB, dCons, dNil, dVar, bnd, ret, rdS, e0, e1, e2, e3, e6, e7, ix]
end

end Den

namespace Den
open PySem PySem.Spec PyProof.Rows L2 Bal
section
variable {S : Store} {j p q : Nat} {ps ns : List W} {r fl fr : List Int}
theorem side_q : fEq S (.str "left") (.str "left") = some (.bl true) ∧ fEq S (.str "left") (.str "right") = some (.bl false) ∧ fEq S (.str "right") (.str "left") = some (.bl false) ∧ fEq S (.str "right") (.str "right") = some (.bl true) := by
  have sl : PyData.strOk "left" = true := by decide +kernel
  have sr : PyData.strOk "right" = true := by decide +kernel
  have l1 : PyData.canLay0 (.str "left") = true := by simpa [PyData.canLay0] using sl
  have l2 : PyData.canLay0 (.str "right") = true := by simpa [PyData.canLay0] using sr
  have d1 : decide (("left" : Str) = "right") = false := by decide
  have d2 : decide (("right" : Str) = "left") = false := by decide
  refine ⟨(eq_strs l1 l1).trans (by simp), (eq_strs l1 l2).trans (by rw [d1]), (eq_strs l2 l1).trans (by rw [d2]), (eq_strs l2 l2).trans (by simp)⟩
theorem v_withL (u v x : W) : g_with_floors [.tup [u, v], .str "left", x] S = .ok (.tup [x, v]) S := by
  obtain ⟨q1, q2, q3, q4⟩ := side_q (S := S)
  have b1 : ∀ a b c d : W, zipL [[a, b], [c, d]] = [.tup [a, c], .tup [b, d]] := fun a b c d => rfl
  show fnW 5 d_with_floors _ S = _
  simp [d_with_floors, fnW, sRet, lft, dCallN, dCons, dNil, dLc, iZip, zipI, sqI, seqI, rdI, c_SIDES, b1, lcL, setT, setTs, itmsS, wipeW, dYes, dIf, dTst, dBin, dVar, dC, bnd, ret, rdS, q1, q3, toB, kept, newK, fTuple]
theorem v_withR (u v x : W) : g_with_floors [.tup [u, v], .str "right", x] S = .ok (.tup [u, x]) S := by
  obtain ⟨q1, q2, q3, q4⟩ := side_q (S := S)
  have b1 : ∀ a b c d : W, zipL [[a, b], [c, d]] = [.tup [a, c], .tup [b, d]] := fun a b c d => rfl
  show fnW 5 d_with_floors _ S = _
  simp [d_with_floors, fnW, sRet, lft, dCallN, dCons, dNil, dLc, iZip, zipI, sqI, seqI, rdI, c_SIDES, b1, lcL, setT, setTs, itmsS, wipeW, dYes, dIf, dTst, dBin, dVar, dC, bnd, ret, rdS, q2, q4, toB, kept, newK, fTuple]
theorem v_seenfrom {s : Str} {rr : List Int} (hs : s = "left" ∧ rr = r ∨ s = "right" ∧ rr = r.reverse) (nd : r.Nodup) (hl : r.length ≤ 60) (f : Int) : g_seen_from [.tup (iW r), .str s, .int f] S = .ok (.tup (iW (sight rr f))) (S ++ (gb r ++ gb r.reverse)) := by
  rcases hs with ⟨rfl, rfl⟩ | ⟨rfl, rfl⟩
  · have w1 := v_withL (S := S) (.tup []) (.tup []) (.tup [.int f])
    have w2 := v_all (S := S) (.t rr) (Hm.t [f] []) nd hl
    have w2 : g_seen_by_all [.tup (iW rr), .tup [.tup [.int f], .tup []]] S = .ok (.tup [.tup [.tup (iW (sight rr f))], wing rr.reverse []]) (S ++ (gb rr ++ gb rr.reverse)) := w2
    have ix : ∀ T : Store, fIdxF T c_SIDES (.str "left") = some (.int 0) := fun T => rfl
    show fnW 4 d_seen_from _ S = _
    generalize S ++ (gb rr ++ gb rr.reverse) = T at *
    generalize wing rr.reverse [] = WR at *
    generalize iW (sight rr f) = SI at *
    generalize iW rr = R at *
    simp only [d_seen_from, fnW, List.map_cons, List.map_nil, List.length_cons, List.length_nil]
    simp [sSeq, sSet, sAsg, setT, sRet, lft, dCall, dCons, dNil, dTup, mkT, szB, dBin, dIdxF, dVar, dC, bnd, ret, rdS, w1, w2]
    rfl
  · have w1 := v_withR (S := S) (.tup []) (.tup []) (.tup [.int f])
    have w2 := v_all (S := S) (.t r) (Hm.t [] [f]) nd hl
    have w2 : g_seen_by_all [.tup (iW r), .tup [.tup [], .tup [.int f]]] S = .ok (.tup [wing r [], .tup [.tup (iW (sight r.reverse f))]]) (S ++ (gb r ++ gb r.reverse)) := w2
    show fnW 4 d_seen_from _ S = _
    generalize S ++ (gb r ++ gb r.reverse) = T at *
    generalize wing r [] = WR at *
    generalize iW (sight r.reverse f) = SI at *
    generalize iW r = R at *
    simp only [d_seen_from, fnW, List.map_cons, List.map_nil, List.length_cons, List.length_nil]
    simp [sSeq, sSet, sAsg, setT, sRet, lft, dCall, dCons, dNil, dTup, mkT, szB, dBin, dIdxF, dVar, dC, bnd, ret, rdS, w1, w2]
    rfl
/-- the side's floors, the houses with others there -/
def sdF (s : Str) (fl fr : List Int) : List Int := if s = "left" then fl else fr
def hsL (s : Str) (fl F : List Int) : List Int := if s = "left" then F else fl
def hsR (s : Str) (fr F : List Int) : List Int := if s = "left" then fr else F
abbrev isSd (s : Str) : Prop := s = "left" ∨ s = "right"
theorem at_sd {s : Str} (hs : isSd s) : g_floors_at [homes fl fr, .str s] S = .ok (.tup (iW (sdF s fl fr))) S := by
  rcases hs with rfl | rfl
  · exact at_side.1
  · exact at_side.2.1
theorem with_sd {s : Str} (hs : isSd s) (F : List Int) : g_with_floors [homes fl fr, .str s, .tup (iW F)] S = .ok (homes (hsL s fl F) (hsR s fr F)) S := by
  rcases hs with rfl | rfl
  · exact v_withL _ _ _
  · exact v_withR _ _ _
/-- the row as it's looked along from a side -/
def sdR (s : Str) (r : List Int) : List Int := if s = "left" then r else r.reverse
theorem from_sd {s : Str} (hs : isSd s) (nd : r.Nodup) (hl : r.length ≤ 60) (f : Int) : g_seen_from [.tup (iW r), .str s, .int f] S = .ok (.tup (iW (sight (sdR s r) f))) (S ++ (gb r ++ gb r.reverse)) := by
  rcases hs with rfl | rfl
  · exact v_seenfrom (.inl ⟨rfl, rfl⟩) nd hl f
  · exact v_seenfrom (.inr ⟨rfl, rfl⟩) nd hl f
abbrev addF (F : List Int) (f : Int) : List Int := srt (F ++ [f])
abbrev wof (F : List Int) (f : Int) : List Int := F.filter fun y => !decide (y = f)
end

end Den

namespace Den
open PySem PySem.Spec PyProof.Rows L2 Bal
section
variable {S : Store} {j p q : Nat} {ps ns : List W} {r fl fr : List Int}
theorem deed_build (h : Hall S j p q (ps ++ [sd r fl fr]) ns) (hn : ns.length < 900000) (hp : ps.length < 900000) (nd : r.Nodup) (hl : r.length ≤ 60) {s : Str} (hs : isSd s) {f : Int} (hf : f ∉ sdF s fl fr) (hF : (sdF s fl fr).length ≤ 1000) : ∃ S', g_Gallery_build [.ins j, .str s, .int f] S = .ok (.tup (iW (sight (sdR s r) f))) S' ∧ Hall S' j p q (ps ++ [sd r fl fr] ++ [sd r (hsL s fl (addF (sdF s fl fr) f)) (hsR s fr (addF (sdF s fl fr) f))]) (ntd ns "build") ∧ Kp2 S S' p q := by
  have hh := h.setQ (ns ++ [nt "in" "build"])
  have kk := (Kp2.refl S p q).setQ (ns ++ [nt "in" "build"])
  have e1 := v_row hh
  have e2 := v_houses hh
  have e3 := at_sd (S := S.set q (ns ++ [nt "in" "build"])) (fl := fl) (fr := fr) hs
  have e4 := with_sd (S := S.set q (ns ++ [nt "in" "build"])) (fl := fl) (fr := fr) hs (addF (sdF s fl fr) f)
  have i1 := in_rw (S := S.set q (ns ++ [nt "in" "build"])) (.t (sdF s fl fr)) f
  have so : ∀ T : Store, fSorted T [.cl (iW (sdF s fl fr) ++ [.int f])] = some (iW (addF (sdF s fl fr) f)) := fun T => by
    have e : iW (sdF s fl fr) ++ [W.int f] = iW (sdF s fl fr ++ [f]) := by simp [iW]
    rw [e]
    simp [fSorted, intsOf, itmsS, inT_iW]
    rfl
  have zl : (iW (sdF s fl fr)).length + 1 ≤ 16777216 := by rw [iW_len]; omega
  have e7 := v_keep hh (by simp; omega) (.tup (iW r)) (homes (hsL s fl (addF (sdF s fl fr) f)) (hsR s fr (addF (sdF s fl fr) f)))
  have h3 := hh.setP (ps ++ [sd r fl fr] ++ [sd r (hsL s fl (addF (sdF s fl fr) f)) (hsR s fr (addF (sdF s fl fr) f))])
  have k3 := kk.setP (ps ++ [sd r fl fr] ++ [sd r (hsL s fl (addF (sdF s fl fr) f)) (hsR s fr (addF (sdF s fl fr) f))])
  have e8 := v_row h3
  have e9 := from_sd (S := (S.set q (ns ++ [nt "in" "build"])).set p (ps ++ [sd r fl fr] ++ [sd r (hsL s fl (addF (sdF s fl fr) f)) (hsR s fr (addF (sdF s fl fr) f))])) hs nd hl f
  have h4 := h3.app (gb r ++ gb r.reverse)
  have k4 := k3.app (gb r ++ gb r.reverse)
  refine ⟨_, ?_, h4.setQ _, k4.setQ _⟩
  show fnR (d_Gallery_build [some (.ins j), some (.str s), some (.int f), none] S) = _
  unfold d_Gallery_build
  refine deed_ok h hn rfl (ρ1 := [some (.ins j), some (.str s), some (.int f), some (.tup (iW (sdF s fl fr)))]) rfl ?_ h4
  have e7 : g_Gallery_keep [.ins j, .tup (iW r), homes (hsL s fl (addF (sdF s fl fr) f)) (hsR s fr (addF (sdF s fl fr) f))] (S.set q (ns ++ [nt "in" "build"])) = .ok .non ((S.set q (ns ++ [nt "in" "build"])).set p (ps ++ [sd r fl fr] ++ [sd r (hsL s fl (addF (sdF s fl fr) f)) (hsR s fr (addF (sdF s fl fr) f))])) := e7
  clear h h3 h4 hh kk k3 k4 hF
  generalize (S.set q (ns ++ [nt "in" "build"])).set p (ps ++ [sd r fl fr] ++ [sd r (hsL s fl (addF (sdF s fl fr) f)) (hsR s fr (addF (sdF s fl fr) f))]) ++ (gb r ++ gb r.reverse) = T3 at *
  generalize (S.set q (ns ++ [nt "in" "build"])).set p (ps ++ [sd r fl fr] ++ [sd r (hsL s fl (addF (sdF s fl fr) f)) (hsR s fr (addF (sdF s fl fr) f))]) = T2 at *
  generalize S.set q (ns ++ [nt "in" "build"]) = T at *
  generalize homes (hsL s fl (addF (sdF s fl fr) f)) (hsR s fr (addF (sdF s fl fr) f)) = HM2 at *
  generalize homes fl fr = HM at *
  generalize iW (addF (sdF s fl fr) f) = AF at *
  generalize iW (sight (sdR s r) f) = SI at *
  have i1 : inW T (.int f) (.tup (iW (sdF s fl fr))) = some false := by rw [i1, decide_eq_false hf]
  generalize iW (sdF s fl fr) = FF at *
  generalize iW r = R at *
  have fi : itmsS T (.tup FF) = some FF := rfl
  have ft : fTuple T [.cl AF] = some (.tup AF) := rfl
  simp [rSeq, rRet, sSet, sAsg, setT, sDrop, sIf, sNil, lft, dTst, dBin, fIn, i1, toB, dCall, dCallN, dCallF, dCl, mkC, szB, dStar, fi, zl, newK, so, ft, dMeth, isIns, dCons, dNil, dVar, bnd, ret, rdS, e1, e2, e3, e4, e7, e8, e9]
theorem deed_ok0 {b : Str} {R : DS} {ρ ρ1 : En} {T : Store} {ps' : List W} (h : Hall S j p q ps ns) (hn : ns.length < 900000) (h0 : ρ[0]? = some (some (.ins j))) (h1 : ρ1[0]? = some (some (.ins j))) (e : R ρ (S.set q (ns ++ [nt "in" b])) = .ok (.nx ρ1) T) (hT : Hall T j p q ps' (ns ++ [nt "in" b])) :
    fnR (sSeq (noteS "in" b) (sFin0 R (noteS "out" b)) ρ S) = .ok .non (T.set q (ntd ns b)) := by
  have n1 := note_ok h (by omega) h0 "in" b
  have n2 := note_ok hT (by simp; omega) h1 "out" b
  rw [List.append_assoc] at n2
  unfold sSeq
  rw [n1]
  simp only [sFin0, e, n2, fnR]
  rfl
theorem deed_pull (h : Hall S j p q (ps ++ [sd r fl fr]) ns) (hn : ns.length < 900000) (hp : ps.length < 900000) {s : Str} (hs : isSd s) {f : Int} (hf : f ∈ sdF s fl fr) : ∃ S', g_Gallery_pull [.ins j, .str s, .int f] S = .ok .non S' ∧ Hall S' j p q (ps ++ [sd r fl fr] ++ [sd r (hsL s fl (wof (sdF s fl fr) f)) (hsR s fr (wof (sdF s fl fr) f))]) (ntd ns "pull") ∧ Kp2 S S' p q := by
  have hh := h.setQ (ns ++ [nt "in" "pull"])
  have kk := (Kp2.refl S p q).setQ (ns ++ [nt "in" "pull"])
  have e1 := v_row hh
  have e2 := v_houses hh
  have e3 := at_sd (S := S.set q (ns ++ [nt "in" "pull"])) (fl := fl) (fr := fr) hs
  have e4 := with_sd (S := S.set q (ns ++ [nt "in" "pull"])) (fl := fl) (fr := fr) hs (wof (sdF s fl fr) f)
  have i1 := in_rw (S := S.set q (ns ++ [nt "in" "pull"])) (.t (sdF s fl fr)) f
  have lc := lcK (S := S.set q (ns ++ [nt "in" "pull"])) (i := 5) (tt := dTst (dBin fNe (dVar 5) (dVar 2))) (de := dVar 5) (ρ := [some (.ins j), some (.str s), some (.int f), some (.tup (iW (sdF s fl fr))), none, none]) (keep := []) rfl (fun y => !decide (y = f)) W.int (sdF s fl fr) fun y hy => by
    have q3 := ne_int (S := S.set q (ns ++ [nt "in" "pull"])) y f
    refine ⟨?_, fun _ => rfl⟩
    show dTst (dBin fNe (dVar 5) (dVar 2)) [some (.ins j), some (.str s), some (.int f), some (.tup (iW (sdF s fl fr))), none, some (.int y)] _ = _
    generalize decide (y = f) = t at *
    simp [dTst, dBin, dVar, bnd, ret, rdS, q3, toB]
  have lc : lcL (.nm 5) (dTst (dBin fNe (dVar 5) (dVar 2))) (dVar 5) [some (.ins j), some (.str s), some (.int f), some (.tup (iW (sdF s fl fr))), none, none] (S.set q (ns ++ [nt "in" "pull"])) [] (iW (sdF s fl fr)) (S.set q (ns ++ [nt "in" "pull"])) = .ok (iW (wof (sdF s fl fr) f)) (S.set q (ns ++ [nt "in" "pull"])) := lc
  have ft : fTuple (S.set q (ns ++ [nt "in" "pull"])) [.cl (iW (wof (sdF s fl fr) f))] = some (.tup (iW (wof (sdF s fl fr) f))) := by simp [fTuple, itmsS]
  have e7 := v_keep hh (by simp; omega) (.tup (iW r)) (homes (hsL s fl (wof (sdF s fl fr) f)) (hsR s fr (wof (sdF s fl fr) f)))
  have h3 := hh.setP (ps ++ [sd r fl fr] ++ [sd r (hsL s fl (wof (sdF s fl fr) f)) (hsR s fr (wof (sdF s fl fr) f))])
  have k3 := kk.setP (ps ++ [sd r fl fr] ++ [sd r (hsL s fl (wof (sdF s fl fr) f)) (hsR s fr (wof (sdF s fl fr) f))])
  refine ⟨_, ?_, h3.setQ _, k3.setQ _⟩
  show fnR (d_Gallery_pull [some (.ins j), some (.str s), some (.int f), none, none, none] S) = _
  unfold d_Gallery_pull
  refine deed_ok0 h hn rfl (ρ1 := [some (.ins j), some (.str s), some (.int f), some (.tup (iW (sdF s fl fr))), some (.tup (iW (wof (sdF s fl fr) f))), none]) rfl ?_ h3
  have e7 : g_Gallery_keep [.ins j, .tup (iW r), homes (hsL s fl (wof (sdF s fl fr) f)) (hsR s fr (wof (sdF s fl fr) f))] (S.set q (ns ++ [nt "in" "pull"])) = .ok .non ((S.set q (ns ++ [nt "in" "pull"])).set p (ps ++ [sd r fl fr] ++ [sd r (hsL s fl (wof (sdF s fl fr) f)) (hsR s fr (wof (sdF s fl fr) f))])) := e7
  clear h h3 hh kk k3
  generalize (S.set q (ns ++ [nt "in" "pull"])).set p (ps ++ [sd r fl fr] ++ [sd r (hsL s fl (wof (sdF s fl fr) f)) (hsR s fr (wof (sdF s fl fr) f))]) = T2 at *
  generalize S.set q (ns ++ [nt "in" "pull"]) = T at *
  generalize homes (hsL s fl (wof (sdF s fl fr) f)) (hsR s fr (wof (sdF s fl fr) f)) = HM2 at *
  generalize homes fl fr = HM at *
  generalize iW (wof (sdF s fl fr) f) = AF at *
  have i1 : inW T (.int f) (.tup (iW (sdF s fl fr))) = some true := by rw [i1, decide_eq_true hf]
  generalize iW (sdF s fl fr) = FF at *
  generalize iW r = R at *
  simp [sSeq, sSet, sAsg, setT, sDrop, sIf, sNil, lft, dTst, dBin, fNotIn, i1, toB, dCall, dCallN, dLc, iSeq, rdI, seqI, wipeW, lc, newK, ft, dMeth, isIns, dCons, dNil, dVar, bnd, ret, rdS, e1, e2, e3, e4, e7]
/-- the row behind a sneak -/
def snR : List Int → List Int → List Int
  | r, [] => r
  | r, i :: is => snR (sw r i.toNat) is
theorem snk_run {w : W} {S0 : Store} : ∀ (is : List Int) (r' : List Int) (S : Store) (x3 : Option W), Hall S j p q (ps ++ [sd r fl fr]) ns → snk fl fr r' is = none → ∃ J y3, forL (.nm 3) snkB [] S0 (iW is) [some (.ins j), some w, some (.tup (iW r')), x3] S = .ok (.nx [some (.ins j), some w, some (.tup (iW (snR r' is))), y3]) (S ++ J)
  | [], r', S, x3, h, e => ⟨[], x3, by simp [forL, iW, snR]⟩
  | y :: is, r', S, x3, h, e => by
    have e2 := v_houses h
    unfold snk at e
    by_cases hb : ¬ (0 ≤ y ∧ y < (r'.length : Int) - 1)
    · rw [if_pos hb] at e
      cases e
    · rw [if_neg hb] at e
      have hb := Decidable.not_not.mp hb
      obtain ⟨m, rfl⟩ : ∃ m : Nat, y = (m : Int) := ⟨y.toNat, by omega⟩
      rw [Int.toNat_natCast] at e
      have hm : m + 1 < r'.length := by omega
      have e3 := v_told (S := S) (.t r') (Hm.t fl fr) m hm
      by_cases ht : toldN r' fl fr m = []
      · rw [if_pos ht] at e
        have e4 := v_exch (S := S ++ [toldN r' fl fr m]) (.t r') m hm
        obtain ⟨J, y3, e5⟩ := snk_run (w := w) (S0 := S0) is (sw r' m) (S ++ [toldN r' fl fr m] ++ [iW (sw r' m)]) (some (.int (m : Int))) ((h.app _).app _) e
        have er : snR r' ((m : Int) :: is) = snR (sw r' m) is := by simp [snR]
        refine ⟨[toldN r' fl fr m] ++ [iW (sw r' m)] ++ J, y3, ?_⟩
        rw [← List.append_assoc, ← List.append_assoc, er]
        have tr : truS (S ++ [toldN r' fl fr m]) (.lst S.length) = some false := by simp [truS, ht]
        generalize S ++ [toldN r' fl fr m] ++ [iW (sw r' m)] ++ J = T2 at *
        generalize S ++ [toldN r' fl fr m] ++ [iW (sw r' m)] = T at *
        generalize S.length = sl at *
        generalize S ++ [toldN r' fl fr m] = T1 at *
        generalize homes fl fr = HM at *
        rw [iW_cons]
        unfold forL
        have bd : snkB [some (.ins j), some w, some (.tup (iW r')), some (.int (m : Int))] S = .ok (.nx [some (.ins j), some w, some (.tup (iW (sw r' m))), some (.int (m : Int))]) T := by
          simp [snkB, sSeq, sIf, sNil, sSet, sAsg, setT, lft, dTru, dCall, dMeth, isIns, dCons, dNil, dVar, bnd, ret, e2, e3, tr, e4]
        simp only [setT, List.getElem?_cons_succ, List.set_cons_succ, List.set_cons_zero, bd, kept_nil, if_true]
        exact e5
      · rw [if_neg ht] at e
        cases e
theorem deed_sneak (h : Hall S j p q (ps ++ [sd r fl fr]) ns) (hn : ns.length < 900000) (hp : ps.length < 900000) {w : W} {is : List Int} (hw : Rw w is) (e : snk fl fr r is = none) : ∃ S', g_Gallery_sneak [.ins j, w] S = .ok .non S' ∧ Hall S' j p q (ps ++ [sd r fl fr] ++ [sd (snR r is) fl fr]) (ntd ns "sneak") ∧ Kp2 S S' p q := by
  have hh := h.setQ (ns ++ [nt "in" "sneak"])
  have kk := (Kp2.refl S p q).setQ (ns ++ [nt "in" "sneak"])
  have e1 := v_row hh
  obtain ⟨J, y3, e2⟩ := snk_run (w := w) (S0 := S.set q (ns ++ [nt "in" "sneak"])) is r _ none hh e
  have sq := hw.sq (S.set q (ns ++ [nt "in" "sneak"]))
  have h2 := hh.app J
  have k2 := kk.app J
  have e6 := v_houses h2
  have e7 := v_keep h2 (by simp; omega) (.tup (iW (snR r is))) (homes fl fr)
  have h3 := h2.setP (ps ++ [sd r fl fr] ++ [sd (snR r is) fl fr])
  have k3 := k2.setP (ps ++ [sd r fl fr] ++ [sd (snR r is) fl fr])
  refine ⟨_, ?_, h3.setQ _, k3.setQ _⟩
  show fnR (d_Gallery_sneak [some (.ins j), some w, none, none] S) = _
  unfold d_Gallery_sneak
  refine deed_ok0 h hn rfl (ρ1 := [some (.ins j), some w, some (.tup (iW (snR r is))), y3]) rfl ?_ h3
  have e7 : g_Gallery_keep [.ins j, .tup (iW (snR r is)), homes fl fr] (S.set q (ns ++ [nt "in" "sneak"]) ++ J) = .ok .non ((S.set q (ns ++ [nt "in" "sneak"]) ++ J).set p (ps ++ [sd r fl fr] ++ [sd (snR r is) fl fr])) := e7
  clear h h2 h3 hh kk k2 k3
  generalize (S.set q (ns ++ [nt "in" "sneak"]) ++ J).set p (ps ++ [sd r fl fr] ++ [sd (snR r is) fl fr]) = T3 at *
  generalize S.set q (ns ++ [nt "in" "sneak"]) ++ J = T2 at *
  generalize S.set q (ns ++ [nt "in" "sneak"]) = T at *
  generalize homes fl fr = HM at *
  generalize iW (snR r is) = SW at *
  have a1 : sSet 2 (dMeth 1 g_Gallery_row (dVar 0) dNil) [some (.ins j), some w, none, none] T = .ok (.nx [some (.ins j), some w, some (.tup (iW r)), none]) T := by
    simp [sSet, sAsg, setT, lft, dMeth, isIns, dNil, dVar, bnd, ret, e1]
  have a2 : sFor (iSeq (dVar 1)) (.nm 3) snkB [some (.ins j), some w, some (.tup (iW r)), none] T = .ok (.nx [some (.ins j), some w, some (.tup SW), y3]) T2 := by
    simp only [sFor, lft, iSeq, dVar, bnd, rdI, List.getElem?_cons_succ, List.getElem?_cons_zero, sq]
    exact e2
  rw [sSeq, a1]
  show sSeq _ _ _ _ = _
  rw [sSeq, a2]
  simp [sDrop, lft, dMeth, isIns, dCons, dNil, dVar, bnd, ret, e6, e7]
end

end Den

namespace Den
open PySem PySem.Spec PyProof.Rows L2 Bal
/-! ### moves done -/
section
/-- what is told, by what it is: a list of the store, or a thing by itself -/
inductive Td
  | lst (xs : List W)
  | now (w : W)
def isTd (S : Store) : Td → W → Prop
  | .lst xs, u => ∃ m, u = .lst m ∧ S[m]? = some xs
  | .now w, u => u = w
theorem isTd.app {S : Store} {t : Td} {u : W} (h : isTd S t u) (J : Store) : isTd (S ++ J) t u := by
  cases t with
  | lst xs => obtain ⟨m, h1, h2⟩ := h; exact ⟨m, h1, gapp h2 J⟩
  | now w => exact h
variable {S : Store} {j p q : Nat} {ps ns : List W} {r fl fr : List Int}
inductive Done (r fl fr : List Int) : Mv → Td → List Int → List Int → List Int → Prop
  | change {k : Nat} : k + 1 < r.length → Done r fl fr (.change (k : Int)) (.lst (toldN r fl fr k)) (sw r k) fl fr
  | come {x : Int} {s : Nat} : x ∉ r → s ≤ r.length → Done r fl fr (.come x (s : Int)) (.lst (iW (othN fl fr r (nw r s x)))) (nw r s x) fl fr
  | go {x : Int} : x ∈ r → 1 < r.length → Done r fl fr (.go x) (.lst (iW (othN fl fr (wo r x) r))) (wo r x) fl fr
  | build {s : Str} {f : Int} : isSd s → f ∉ sdF s fl fr → Done r fl fr (.build s f) (.now (.tup (iW (sight (sdR s r) f)))) r (hsL s fl (addF (sdF s fl fr) f)) (hsR s fr (addF (sdF s fl fr) f))
  | pull {s : Str} {f : Int} : isSd s → f ∈ sdF s fl fr → Done r fl fr (.pull s f) (.now .non) r (hsL s fl (wof (sdF s fl fr) f)) (hsR s fr (wof (sdF s fl fr) f))
  | sneak {t : Bool} {is : List Int} : snk fl fr r is = none → Done r fl fr (.sneak t is) (.now .non) (snR r is) fl fr
theorem more_ok {b : Str} {w u : W} {T : Store} (h : b = "go" ∧ g_Gallery_go [.ins j, w] S = .ok u T ∨ b = "sneak" ∧ g_Gallery_sneak [.ins j, w] S = .ok u T) : g_law_act_more [.ins j, .tup [.str b, w]] S = .ok u T := by
  have e0 : fIx S (.tup [.str b, w]) (.int 0) = some (.str b) := rfl
  have e1 : fIx S (.tup [.str b, w]) (.int 1) = some w := rfl
  show fnR (d_law_act_more [some (.ins j), some (.tup [.str b, w])] S) = _
  generalize W.tup [.str b, w] = M at *
  rcases h with ⟨rfl, h⟩ | ⟨rfl, h⟩
  · have q0 : fEq S (.str "go") (.str "go") = some (.bl true) := eq_wd (by decide) (by decide) (by decide)
    simp [d_law_act_more, sRet, lft, dIf, dTst, dBin, dVar, dC, bnd, ret, rdS, toB, e0, e1, q0, dMeth, isIns, dCons, dNil, h, fnR]
  · have q0 : fEq S (.str "sneak") (.str "go") = some (.bl false) := eq_wd (by decide) (by decide) (by decide)
    simp [d_law_act_more, sRet, lft, dIf, dTst, dBin, dVar, dC, bnd, ret, rdS, toB, e0, e1, q0, dMeth, isIns, dCons, dNil, h, fnR]
theorem act_run {mv u : W} {T : Store} (hb : ACT (acE j mv) S = .ok (.nx [some (.ins j), some mv, some u, some .non, none]) T) : g_law_act [.ins j, mv] S = .ok u T := by
  have a1 : sAsg (.tp [(.nm 2), (.nm 3)]) (dTup (dCons (dC .non) (dCons (dC .non) dNil))) [some (.ins j), some mv, none, none, none] S = .ok (.nx (acE j mv)) S := by
    simp [sAsg, lft, dTup, dCons, dNil, dC, bnd, ret, mkT, szB, setT, setTs, itmsS]
  have t : sTry errs ["Known", "Last", "NoFloor", "NoOne", "NoPlace", "NoSide", "Seen", "Stands"] 4 3 ACT (acE j mv) S = .ok (.nx [some (.ins j), some mv, some u, some .non, none]) T := by
    unfold sTry
    rw [hb]
  show fnR (d_law_act [some (.ins j), some mv, none, none, none] S) = _
  unfold d_law_act
  rw [sSeq, a1]
  show fnR (sSeq _ _ _ _) = _
  rw [sSeq, t]
  simp [sRet, lft, dIf, dTst, dBin, dVar, dC, bnd, ret, rdS, fIs, isN, toB, fnR]
theorem act_one {b : Str} {w u : W} {T : Store} (z : b = "go" ∧ g_Gallery_go [.ins j, w] S = .ok u T ∨ b = "sneak" ∧ g_Gallery_sneak [.ins j, w] S = .ok u T) : g_law_act [.ins j, .tup [.str b, w]] S = .ok u T := by
  refine act_run ?_
  have e4 := more_ok z
  have e0 : fIx S (.tup [.str b, w]) (.int 0) = some (.str b) := rfl
  have i4 : inV (.str b) [.str "change", .str "go", .str "sneak"] = true := by rcases z with ⟨rfl, _⟩ | ⟨rfl, _⟩ <;> decide
  have q0 : fEq S (.str b) (.str "change") = some (.bl false) := by rcases z with ⟨rfl, _⟩ | ⟨rfl, _⟩ <;> exact eq_wd (by decide) (by decide) (by decide)
  have i3 := in3 (S := S) b
  rw [i4] at i3
  generalize W.tup [.str b, w] = M at *
  simp [acE, ACT, sIf, sSet, sAsg, setT, lft, dTst, dBin, dVar, dC, dTup, mkT, szB, dCons, dNil, bnd, ret, rdS, toB, e0, i3, q0, dIf, dCall, e4]
theorem act_two {b : Str} {w u v : W} {T : Store} (z : b = "build" ∧ g_Gallery_build [.ins j, w, u] S = .ok v T ∨ b = "pull" ∧ g_Gallery_pull [.ins j, w, u] S = .ok v T) : g_law_act [.ins j, .tup [.str b, w, u]] S = .ok v T := by
  refine act_run ?_
  have e0 : fIx S (.tup [.str b, w, u]) (.int 0) = some (.str b) := rfl
  have e1 : fIx S (.tup [.str b, w, u]) (.int 1) = some w := rfl
  have e2 : fIx S (.tup [.str b, w, u]) (.int 2) = some u := rfl
  have i4 : inV (.str b) [.str "change", .str "go", .str "sneak"] = false := by rcases z with ⟨rfl, _⟩ | ⟨rfl, _⟩ <;> decide
  have q1 : fEq S (.str b) (.str "come") = some (.bl false) := by rcases z with ⟨rfl, _⟩ | ⟨rfl, _⟩ <;> exact eq_wd (by decide) (by decide) (by decide)
  have q2 : fEq S (.str b) (.str "undo") = some (.bl false) := by rcases z with ⟨rfl, _⟩ | ⟨rfl, _⟩ <;> exact eq_wd (by decide) (by decide) (by decide)
  have i3 := in3 (S := S) b
  rw [i4] at i3
  rcases z with ⟨rfl, z⟩ | ⟨rfl, z⟩
  · have q3 : fEq S (.str "build") (.str "build") = some (.bl true) := eq_wd (by decide) (by decide) (by decide)
    generalize W.tup [.str "build", w, u] = M at *
    simp [acE, ACT, sIf, sSet, sAsg, setT, lft, dTst, dBin, dVar, dC, dTup, mkT, szB, dCons, dNil, bnd, ret, rdS, toB, e0, e1, e2, i3, q1, q2, q3, dIf, dMeth, isIns, z]
  · have q3 : fEq S (.str "pull") (.str "build") = some (.bl false) := eq_wd (by decide) (by decide) (by decide)
    generalize W.tup [.str "pull", w, u] = M at *
    simp [acE, ACT, sIf, sSet, sAsg, setT, lft, dTst, dBin, dVar, dC, dTup, mkT, szB, dCons, dNil, bnd, ret, rdS, toB, e0, e1, e2, i3, q1, q2, q3, dIf, dMeth, isIns, z]
theorem act_come {x s : Int} {u : W} {T : Store} (z : g_Gallery_come [.ins j, .int x, .int s] S = .ok u T) : g_law_act [.ins j, mvW (.come x s)] S = .ok u T := by
  refine act_run ?_
  have e0 : fIx S (.tup [.str "come", .int x, .int s]) (.int 0) = some (.str "come") := rfl
  have e1 : fIx S (.tup [.str "come", .int x, .int s]) (.int 1) = some (.int x) := rfl
  have e2 : fIx S (.tup [.str "come", .int x, .int s]) (.int 2) = some (.int s) := rfl
  have i3 := in3 (S := S) "come"
  have i4 : inV (.str "come") [.str "change", .str "go", .str "sneak"] = false := by decide
  have q1 : fEq S (.str "come") (.str "come") = some (.bl true) := eq_wd (by decide) (by decide) (by decide)
  rw [i4] at i3
  show ACT (acE j (.tup [.str "come", .int x, .int s])) S = .ok (.nx [some (.ins j), some (.tup [.str "come", .int x, .int s]), some u, some .non, none]) _
  generalize W.tup [.str "come", .int x, .int s] = M at *
  simp [acE, ACT, sIf, sSet, sAsg, setT, lft, dTst, dBin, dVar, dC, dTup, mkT, szB, dCons, dNil, bnd, ret, rdS, toB, e0, e1, e2, i3, q1, dMethK, gp, isIns, z]
theorem act_change {i : Int} {u : W} {T : Store} (z : g_Gallery_change [.ins j, .int i] S = .ok u T) : g_law_act [.ins j, mvW (.change i)] S = .ok u T := by
  refine act_run ?_
  have e0 : fIx S (.tup [.str "change", .int i]) (.int 0) = some (.str "change") := rfl
  have e1 : fIx S (.tup [.str "change", .int i]) (.int 1) = some (.int i) := rfl
  have i3 := in3 (S := S) "change"
  have i4 : inV (.str "change") [.str "change", .str "go", .str "sneak"] = true := by decide
  have q1 : fEq S (.str "change") (.str "change") = some (.bl true) := eq_wd (by decide) (by decide) (by decide)
  rw [i4] at i3
  show ACT (acE j (.tup [.str "change", .int i])) S = .ok (.nx [some (.ins j), some (.tup [.str "change", .int i]), some u, some .non, none]) _
  generalize W.tup [.str "change", .int i] = M at *
  simp [acE, ACT, sIf, sSet, sAsg, setT, lft, dTst, dBin, dVar, dC, dTup, mkT, szB, dCons, dNil, bnd, ret, rdS, toB, e0, e1, i3, q1, dIf, dMeth, isIns, z]
theorem act_undo {u : W} {T : Store} (z : g_Gallery_undo [.ins j] S = .ok u T) : g_law_act [.ins j, .tup [.str "undo"]] S = .ok u T := by
  refine act_run ?_
  have e0 : fIx S (.tup [.str "undo"]) (.int 0) = some (.str "undo") := rfl
  have i3 := in3 (S := S) "undo"
  have i4 : inV (.str "undo") [.str "change", .str "go", .str "sneak"] = false := by decide
  have q1 : fEq S (.str "undo") (.str "come") = some (.bl false) := eq_wd (by decide) (by decide) (by decide)
  have q2 : fEq S (.str "undo") (.str "undo") = some (.bl true) := eq_wd (by decide) (by decide) (by decide)
  rw [i4] at i3
  generalize W.tup [.str "undo"] = M at *
  simp [acE, ACT, sIf, sSet, sAsg, setT, lft, dTst, dBin, dVar, dC, dTup, mkT, szB, dCons, dNil, bnd, ret, rdS, toB, e0, i3, q1, q2, dMeth, isIns, z]
/-- what the gallery does of a move that is done -/
theorem act_done (h : Hall S j p q (ps ++ [sd r fl fr]) ns) (hn : ns.length < 900000) (hp : ps.length < 900000) (K : Wk r fl fr) {m : Mv} {t : Td} {r' fl' fr' : List Int} (hd : Done r fl fr m t r' fl' fr') : ∃ S' u, g_law_act [.ins j, mvW m] S = .ok u S' ∧ Hall S' j p q (ps ++ [sd r fl fr] ++ [sd r' fl' fr']) (ntd ns (mvN m)) ∧ Kp2 S S' p q ∧ isTd S' t u ∧ (∀ n, u = .lst n → S.length ≤ n) := by
  have hl := K.l1
  have hll := K.ll
  cases hd with
  | change hk =>
    obtain ⟨S', m, a1, a2, a3, a4, a5⟩ := change_ok h hn hp _ hk
    exact ⟨S', _, act_change a1, a2, a3, ⟨m, rfl, a4⟩, fun n e => by cases e; exact a5⟩
  | come hx hs =>
    obtain ⟨S', m, a1, a2, a3, a4, a5⟩ := deed_come h hn hp K.nd hx hs (by omega)
    exact ⟨S', _, act_come a1, a2, a3, ⟨m, rfl, a4⟩, fun n e => by cases e; exact a5⟩
  | go hx h1 =>
    obtain ⟨S', m, a1, a2, a3, a4, a5⟩ := deed_go h hn hp K.nd hx h1 (by omega)
    exact ⟨S', _, act_one (.inl ⟨rfl, a1⟩), a2, a3, ⟨m, rfl, a4⟩, fun n e => by cases e; exact a5⟩
  | build hs hf =>
    obtain ⟨S', a1, a2, a3⟩ := deed_build h hn hp K.nd (by omega) hs hf (by unfold sdF; split <;> omega)
    exact ⟨S', _, act_two (.inl ⟨rfl, a1⟩), a2, a3, rfl, fun n e => by cases e⟩
  | pull hs hf =>
    obtain ⟨S', a1, a2, a3⟩ := deed_pull h hn hp hs hf
    exact ⟨S', _, act_two (.inr ⟨rfl, a1⟩), a2, a3, rfl, fun n e => by cases e⟩
  | sneak e =>
    rename_i t is
    obtain ⟨S', a1, a2, a3⟩ := deed_sneak h hn hp (lsW_rw t is) e
    exact ⟨S', _, act_one (.inr ⟨rfl, a1⟩), a2, a3, rfl, fun n e => by cases e⟩
end

end Den

namespace Den
open PySem PySem.Spec PyProof.Rows L2 Bal
section
variable {S : Store} {n j p q : Nat} {ps ns : List W} {r fl fr : List Int} {c : Int} {N : Nat}
theorem init_okG (S : Store) {wr wh wl wg : W} (tr : ∀ T, fTuple (S ++ T) [wr] = some (.tup (iW r))) (th : ∀ T, itmsS (S ++ T) wh = some [wl, wg]) (tl : ∀ T, fTuple (S ++ T) [wl] = some (.tup (iW fl))) (tg : ∀ T, fTuple (S ++ T) [wg] = some (.tup (iW fr))) : g_Gallery___init__ [.ins S.length, wr, wh] (S ++ [[]]) = .ok .non (S ++ [[.lst (S.length + 1), .lst (S.length + 2)], [sd r fl fr], []]) := by
  have s1 : sAsg (.tp [(.nm 3), (.nm 4)]) (dVar 2) [some (.ins S.length), some wr, some wh, none, none] (S ++ [[]]) = .ok (.nx [some (.ins S.length), some wr, some wh, some wl, some wg]) (S ++ [[]]) := by
    have th := th [[]]
    simp [sAsg, lft, dVar, setT, setTs, th, ret]
  have s2 : sIFld 0 (dVar 0) (dLst (dCons (dTup (dCons (dCallN fTuple (dCons (dVar 1) dNil)) (dCons (dTup (dCons (dCallN fTuple (dCons (dVar 3) dNil)) (dCons (dCallN fTuple (dCons (dVar 4) dNil)) dNil))) dNil))) dNil)) [some (.ins S.length), some wr, some wh, some wl, some wg] (S ++ [[]]) = .ok (.nx [some (.ins S.length), some wr, some wh, some wl, some wg]) (S ++ [[.lst (S.length + 1)], [sd r fl fr]]) := by
    have g1 : (S ++ [[], [sd r fl fr]])[S.length]? = some [] := by simp
    have g2 : (S ++ [[], [sd r fl fr]]).set S.length [.lst (S.length + 1)] = S ++ [[.lst (S.length + 1)], [sd r fl fr]] := by simp
    have l1 : (S ++ [[]]).length = S.length + 1 := by simp
    have ap : S ++ [[]] ++ [[sd r fl fr]] = S ++ [[], [sd r fl fr]] := by simp
    have dl : dLst (dCons (dTup (dCons (dCallN fTuple (dCons (dVar 1) dNil)) (dCons (dTup (dCons (dCallN fTuple (dCons (dVar 3) dNil)) (dCons (dCallN fTuple (dCons (dVar 4) dNil)) dNil))) dNil))) dNil) [some (.ins S.length), some wr, some wh, some wl, some wg] (S ++ [[]]) = .ok (.lst (S.length + 1)) (S ++ [[], [sd r fl fr]]) := by
      rw [← ap, ← l1]
      have tr := tr [[]]
      have tl := tl [[]]
      have tg := tg [[]]
      generalize S ++ [[]] = T at *
      simp [dLst, mkL, szB, dTup, mkT, dCallN, dCons, dNil, dVar, bnd, ret, rdS, tr, tl, tg]
    simp only [sIFld, lft, dl, dVar, List.getElem?_cons_zero, putI, g1, List.length_nil, Nat.lt_irrefl, if_false, List.nil_append, g2, if_true, ret]
  have s3 : sIFld 1 (dVar 0) (dLst dNil) [some (.ins S.length), some wr, some wh, some wl, some wg] (S ++ [[.lst (S.length + 1)], [sd r fl fr]]) = .ok (.nx [some (.ins S.length), some wr, some wh, some wl, some wg]) (S ++ [[.lst (S.length + 1), .lst (S.length + 2)], [sd r fl fr], []]) := by
    have g1 : (S ++ [[.lst (S.length + 1)], [sd r fl fr], []])[S.length]? = some [.lst (S.length + 1)] := by simp
    have g2 : (S ++ [[.lst (S.length + 1)], [sd r fl fr], []]).set S.length [.lst (S.length + 1), .lst (S.length + 2)] = S ++ [[.lst (S.length + 1), .lst (S.length + 2)], [sd r fl fr], []] := by simp
    have l1 : (S ++ [[.lst (S.length + 1)], [sd r fl fr]]).length = S.length + 2 := by simp
    have ap : S ++ [[.lst (S.length + 1)], [sd r fl fr]] ++ [[]] = S ++ [[.lst (S.length + 1)], [sd r fl fr], []] := by simp
    have dl : dLst dNil [some (.ins S.length), some wr, some wh, some wl, some wg] (S ++ [[.lst (S.length + 1)], [sd r fl fr]]) = .ok (.lst (S.length + 2)) (S ++ [[.lst (S.length + 1)], [sd r fl fr], []]) := by
      rw [← ap, ← l1]
      generalize S ++ [[.lst (S.length + 1)], [sd r fl fr]] = T at *
      simp [dLst, mkL, szB, dNil, bnd, ret]
    simp only [sIFld, lft, dl, dVar, List.getElem?_cons_zero, putI, g1, List.length_cons, List.length_nil, Nat.lt_irrefl, if_false, g2, if_true, ret, List.cons_append, List.nil_append]
  show fnR (d_Gallery___init__ [some (.ins S.length), some wr, some wh, none, none] (S ++ [[]])) = _
  unfold d_Gallery___init__
  rw [sSeq, s1]
  show fnR (sSeq _ _ _ _) = _
  rw [sSeq, s2]
  show fnR (sIFld _ _ _ _ _) = _
  rw [s3]
  rfl
/-- a gallery just made -/
theorem hall_new (S : Store) (r fl fr : List Int) : Hall (S ++ [[.lst (S.length + 1), .lst (S.length + 2)], [sd r fl fr], []]) S.length (S.length + 1) (S.length + 2) [sd r fl fr] [] := ⟨by simp, by rw [List.getElem?_append_right (by omega)]; simp, by rw [List.getElem?_append_right (by omega)]; simp, by omega, by omega, by omega⟩
theorem undo_ok2 (h : Hall S j p q ps ns) (h0 : 0 < ps.length) (hp : ps.length ≤ 1000) (hn : ns.length < 900000) : ∃ S', g_Gallery_undo [.ins j] S = .ok (.bl (decide (1 < ps.length))) S' ∧ Hall S' j p q (if 1 < ps.length then ps.eraseIdx (ps.length - 1) else ps) (ntd ns "undo") ∧ Kp2 S S' p q := by
  have hh := h.setQ (ns ++ [nt "in" "undo"])
  have kk := (Kp2.refl S p q).setQ (ns ++ [nt "in" "undo"])
  have e1 := v_deeds hh
  by_cases h1 : 1 < ps.length
  · have h2 := hh.setP (ps.eraseIdx (ps.length - 1))
    refine ⟨_, ?_, by rw [if_pos h1]; exact h2.setQ _, (kk.setP _).setQ _⟩
    show fnR (d_Gallery_undo [some (.ins j), none] S) = _
    unfold d_Gallery_undo
    refine deed_ok h hn rfl (ρ1 := [some (.ins j), some (.bl (decide (1 < ps.length)))]) rfl ?_ h2
    rw [decide_eq_true h1]
    have c1 : (1 : Int) < (ps.length : Int) := by omega
    have g0 := hh.hi
    have g1 := hh.hp
    have gl : ps[ps.length - 1]? = some (ps[ps.length - 1]'(by omega)) := List.getElem?_eq_getElem (by omega)
    have z : (ps.eraseIdx (ps.length - 1)).length ≤ 16777216 := by rw [List.length_eraseIdx, if_pos (by omega)]; omega
    generalize ps[ps.length - 1]'(by omega) = PL at *
    generalize S.set q (ns ++ [nt "in" "undo"]) = T at *
    have el : ps.eraseIdx (ps.length - 1) = ps.dropLast := by simp
    have z2 : ps.length ≤ 16777217 := by omega
    rw [el]
    generalize (ps.length : Int) = pl at *
    simp [rSeq, rRet, sSet, sAsg, setT, lft, dBin, dMeth, isIns, dCons, dNil, dVar, dC, bnd, ret, rdS, e1, fCmp, pGt_ap, c1, sIf, dTru, truS, sDrop, dMth0, dIFld, fldW, g0, lsB, wrS, fPop, chS, g1, gl, szB, z2]
  · refine ⟨_, ?_, by rw [if_neg h1]; exact hh.setQ _, kk.setQ _⟩
    show fnR (d_Gallery_undo [some (.ins j), none] S) = _
    unfold d_Gallery_undo
    refine deed_ok h hn rfl (ρ1 := [some (.ins j), some (.bl (decide (1 < ps.length)))]) rfl ?_ hh
    rw [decide_eq_false h1]
    have c1 : ¬ (1 : Int) < (ps.length : Int) := by omega
    generalize S.set q (ns ++ [nt "in" "undo"]) = T at *
    generalize (ps.length : Int) = pl at *
    simp [rSeq, rRet, sSet, sAsg, setT, lft, dBin, dMeth, isIns, dCons, dNil, dVar, dC, bnd, ret, rdS, e1, fCmp, pGt_ap, c1, sIf, sNil, dTru, truS]
abbrev Sn := List Int × List Int × List Int
def sdW (x : Sn) : W := sd x.1 x.2.1 x.2.2
variable {qs : List Sn} {x : Sn}
/-- what is behind an undo -/
def popS (qs : List Sn) (x : Sn) : List Sn := if qs = [] then [x] else qs
/-! ### the list of what stood, in the law -/
end

/-! ### several galleries side by side -/
section
variable {S : Store} {n j p q j2 p2 q2 : Nat} {qs st : List Sn} {x y : Sn} {ps ps2 ns ns2 : List W} {r fl fr r2 fl2 fr2 : List Int} {c : Int} {N : Nat}
theorem eq_homes (a b c d : List Int) : fEq S (homes a b) (homes c d) = some (.bl (decide (a = c ∧ b = d))) := by
  have ds : ∀ x y : List Int, datS S (homes x y) = some (.tuple [.tuple (x.map .int), .tuple (y.map .int)]) := fun x y => by
    have h1 := mapM_ints (S := S) x 9
    have h2 := mapM_ints (S := S) y 9
    have d1 : dat S 12 (homes x y) = some (.tuple [.tuple (x.map .int), .tuple (y.map .int)]) := by
      have e1 : dat S 11 (.tup (iW x)) = some (.tuple (x.map .int)) := by simp only [dat, h1]; rfl
      have e2 : dat S 11 (.tup (iW y)) = some (.tuple (y.map .int)) := by simp only [dat, h2]; rfl
      show ([W.tup (iW x), .tup (iW y)].mapM (dat S 11)).map PyData.tuple = _
      simp only [List.mapM_cons, List.mapM_nil, e1, e2]
      rfl
    have s1 : SeqAt.shaped (.tuple [.tuple (x.map .int), .tuple (y.map .int)]) = true := by
      simp [SeqAt.shaped, PyData.canLay0, PyData.canLayAll0, PyData.depth, PyData.depthAll, lay_ints, depth_ints]
    simp only [datS, d1, s1, if_true]
  have ev : PyData.eqv (.tuple [.tuple (a.map .int), .tuple (b.map .int)]) (.tuple [.tuple (c.map .int), .tuple (d.map .int)]) = decide (a = c ∧ b = d) := by
    simp only [PyData.eqv, PyData.eqvAll, eqv_ints]
    by_cases h1 : a = c <;> by_cases h2 : b = d <;> simp [h1, h2]
  simp only [fEq, eqD, ds, ev, Option.map_some]
theorem eq_row (a b : List Int) : fEq S (.tup (iW a)) (.tup (iW b)) = some (.bl (decide (a = b))) := by simp only [fEq, eq_tup, Option.map_some]
theorem v_eqG (h : Hall S j p q (ps ++ [sd r fl fr]) ns) (h2 : Hall S j2 p2 q2 (ps2 ++ [sd r2 fl2 fr2]) ns2) : g_Gallery___eq__ [.ins j, .ins j2] S = .ok (.bl (decide (r = r2 ∧ fl = fl2 ∧ fr = fr2))) S := by
  have a1 := v_row h
  have a2 := v_houses h
  have b1 := v_row h2
  have b2 := v_houses h2
  have e1 := eq_row (S := S) r r2
  have e2 := eq_homes (S := S) fl fr fl2 fr2
  show fnR (d_Gallery___eq__ [some (.ins j), some (.ins j2)] S) = _
  generalize homes fl fr = H1 at *
  generalize homes fl2 fr2 = H2 at *
  generalize iW r = R1 at *
  generalize iW r2 = R2 at *
  by_cases h1 : r = r2 <;> simp only [h1, decide_true, decide_false] at e1 <;> simp [d_Gallery___eq__, sRet, lft, dAnd, dTst, dIsA, isIns, dMeth, dNil, dBin, dVar, bnd, ret, rdS, a1, a2, b1, b2, e1, e2, toB, fnR, h1]
theorem Hall.kp {S' : Store} (h : Hall S j2 p2 q2 ps2 ns2) (k : Kp2 S S' p q) (d : j2 ≠ p ∧ j2 ≠ q ∧ p2 ≠ p ∧ p2 ≠ q ∧ q2 ≠ p ∧ q2 ≠ q) : Hall S' j2 p2 q2 ps2 ns2 := ⟨k.2 _ _ d.1 d.2.1 h.hi, k.2 _ _ d.2.2.1 d.2.2.2.1 h.hp, k.2 _ _ d.2.2.2.2.1 d.2.2.2.2.2 h.hq, h.jp, h.jq, h.pq⟩
end

section
variable {S : Store} {n j p q j2 p2 q2 j3 p3 q3 : Nat} {qs zs st : List Sn} {x y : Sn} {ps ps2 ns ns2 : List W} {r fl fr r2 fl2 fr2 : List Int} {c : Int} {N : Nat}
theorem hall_last (h : Hall S j p q (zs.map sdW ++ [sd x.1 x.2.1 x.2.2]) ns) : Hall S j p q ((zs ++ [x]).map sdW) ns := by
  rw [List.map_append]
  exact h
theorem hall_cut (h : Hall S j p q ((zs ++ [x]).map sdW) ns) : Hall S j p q (zs.map sdW ++ [sd x.1 x.2.1 x.2.2]) ns := by
  rw [List.map_append] at h
  exact h
/-- an undo at a gallery that is not the law's own -/
theorem undo_at (h : Hall S j2 p2 q2 ((zs ++ [x]).map sdW) ns) (hl : zs.length ≤ 900) (hn : ns.length ≤ 2000) : ∃ S', g_Gallery_undo [.ins j2] S = .ok (.bl (decide (0 < zs.length))) S' ∧ Hall S' j2 p2 q2 ((popS zs x).map sdW) (ntd ns "undo") ∧ Kp2 S S' p2 q2 := by
  obtain ⟨S', u1, u2, u3⟩ := undo_ok2 h (by simp) (by simp; omega) (by omega)
  have b1 : decide (1 < ((zs ++ [x]).map sdW).length) = decide (0 < zs.length) := decide_eq_decide.mpr (by simp)
  rw [b1] at u1
  refine ⟨S', u1, ?_, u3⟩
  have e : (if 1 < ((zs ++ [x]).map sdW).length then ((zs ++ [x]).map sdW).eraseIdx (((zs ++ [x]).map sdW).length - 1) else (zs ++ [x]).map sdW) = (popS zs x).map sdW := by
    unfold popS
    by_cases h0 : zs = []
    · subst h0
      rfl
    · have := List.length_pos_iff.mpr h0
      rw [if_pos (by simp; omega), if_neg h0, List.eraseIdx_length_sub_one, List.map_append]
      exact List.dropLast_concat
  rw [e] at u2
  exact u2
theorem take_succ_at {k : Nat} (h : st[k]? = some y) : st.take (k + 1) = st.take k ++ [y] := by
  rw [List.take_succ, h]
  rfl
end

end Den

namespace Den
open PySem PySem.Spec PyProof.Rows L2 Bal
section
variable {S : Store} {r fl fr : List Int}
theorem w_ok : ∀ a ∈ (["change", "come", "go", "build", "pull", "sneak", "undo", "in", "out", "refused", "up", "mid", "", "left", "right", "Known", "NoSide", "NoOne", "NoPlace", "NoFloor", "Seen", "Stands", "Last"] : List Str), PyData.strOk a = true := by decide +kernel
theorem w_lay {a : Str} (h : a ∈ (["change", "come", "go", "build", "pull", "sneak", "undo", "in", "out", "refused", "up", "mid", "", "left", "right", "Known", "NoSide", "NoOne", "NoPlace", "NoFloor", "Seen", "Stands", "Last"] : List Str)) : PyData.canLay0 (.str a) = true := by
  have := w_ok a h
  simpa [PyData.canLay0] using this
theorem lay_intsH (l : List Int) : PyData.canLayAll0 (l.map .int) = true := by
  induction l with
  | nil => rfl
  | cons x l ih => simp [PyData.canLayAll0, PyData.canLay0, ih]
theorem dep_intsH (l : List Int) : PyData.depthAll (l.map .int) = 0 := by
  induction l with
  | nil => rfl
  | cons x l ih => simp [PyData.depthAll, PyData.depth, ih]
def mvD : Mv → PyData
  | .change i => .tuple [.str "change", .int i]
  | .come x s => .tuple [.str "come", .int x, .int s]
  | .go x => .tuple [.str "go", .int x]
  | .build s f => .tuple [.str "build", .str s, .int f]
  | .pull s f => .tuple [.str "pull", .str s, .int f]
  | .sneak true is => .tuple [.str "sneak", .tuple (is.map .int)]
  | .sneak false is => .tuple [.str "sneak", .list (is.map .int)]
theorem lay_mv {m : Mv} {c : Str} {v : W} (h : Bad r fl fr m c v) : PyData.canLay0 (mvD m) = true ∧ (mvD m).depth ≤ 2 ∧ PyData.canLay0 (.str c) = true ∧ (∃ i, v = .int i) ∨ PyData.canLay0 (mvD m) = true ∧ (mvD m).depth ≤ 2 ∧ PyData.canLay0 (.str c) = true ∧ (v = .non ∨ ∃ s : Str, v = .str s ∧ PyData.canLay0 (.str s) = true) := by
  have sides : ∀ {s : Str} {F : List Int}, (s = "left" ∧ F = fl ∨ s = "right" ∧ F = fr) → PyData.canLay0 (.str s) = true := fun h => by
    rcases h with ⟨rfl, _⟩ | ⟨rfl, _⟩ <;> exact w_lay (by decide)
  have f1 := w_lay (a := "change") (by decide)
  have f2 := w_lay (a := "come") (by decide)
  have f3 := w_lay (a := "go") (by decide)
  have f4 := w_lay (a := "build") (by decide)
  have f5 := w_lay (a := "pull") (by decide)
  have f6 := w_lay (a := "sneak") (by decide)
  have nsl : ∀ {s : Str}, s ∈ nsd → PyData.canLay0 (.str s) = true := fun h => by
    simp only [nsd, List.mem_cons, List.not_mem_nil, or_false] at h
    rcases h with rfl | rfl | rfl <;> exact w_lay (by decide)
  have i0 : ∀ i : Int, PyData.canLay0 (.int i) = true := fun i => by simp [PyData.canLay0]
  have two : ∀ a b : PyData, PyData.canLay0 a = true → PyData.canLay0 b = true → PyData.canLay0 (.tuple [a, b]) = true := fun a b h1 h2 => by simp [PyData.canLay0, PyData.canLayAll0, h1, h2]
  have thr : ∀ a b c : PyData, PyData.canLay0 a = true → PyData.canLay0 b = true → PyData.canLay0 c = true → PyData.canLay0 (.tuple [a, b, c]) = true := fun a b c h1 h2 h3 => by simp [PyData.canLay0, PyData.canLayAll0, h1, h2, h3]
  have snl : ∀ (t : Bool) (is : List Int), PyData.canLay0 (mvD (.sneak t is)) = true ∧ (mvD (.sneak t is)).depth ≤ 2 := fun t is => by
    have l1 : PyData.canLay0 (.tuple (is.map .int)) = true := by simp [PyData.canLay0, lay_intsH]
    have l2 : PyData.canLay0 (.list (is.map .int)) = true := by simp [PyData.canLay0, lay_intsH]
    cases t
    · exact ⟨two _ _ f6 l2, by simp [mvD, PyData.depth, PyData.depthAll, dep_intsH]⟩
    · exact ⟨two _ _ f6 l1, by simp [mvD, PyData.depth, PyData.depthAll, dep_intsH]⟩
  cases h with
  | change _ => exact .inl ⟨two _ _ f1 (i0 _), by simp [mvD, PyData.depth, PyData.depthAll], w_lay (by decide), _, rfl⟩
  | known _ => exact .inl ⟨thr _ _ _ f2 (i0 _) (i0 _), by simp [mvD, PyData.depth, PyData.depthAll], w_lay (by decide), _, rfl⟩
  | far _ _ => exact .inl ⟨thr _ _ _ f2 (i0 _) (i0 _), by simp [mvD, PyData.depth, PyData.depthAll], w_lay (by decide), _, rfl⟩
  | one _ => exact .inl ⟨two _ _ f3 (i0 _), by simp [mvD, PyData.depth, PyData.depthAll], w_lay (by decide), _, rfl⟩
  | last _ _ => exact .inr ⟨two _ _ f3 (i0 _), by simp [mvD, PyData.depth, PyData.depthAll], w_lay (by decide), .inl rfl⟩
  | up hs => exact .inr ⟨thr _ _ _ f4 (nsl hs) (i0 _), by simp [mvD, PyData.depth, PyData.depthAll], w_lay (by decide), .inr ⟨_, rfl, nsl hs⟩⟩
  | no hs => exact .inr ⟨thr _ _ _ f5 (nsl hs) (i0 _), by simp [mvD, PyData.depth, PyData.depthAll], w_lay (by decide), .inr ⟨_, rfl, nsl hs⟩⟩
  | stands hF _ => exact .inl ⟨thr _ _ _ f4 (sides hF) (i0 _), by simp [mvD, PyData.depth, PyData.depthAll], w_lay (by decide), _, rfl⟩
  | none hF _ => exact .inl ⟨thr _ _ _ f5 (sides hF) (i0 _), by simp [mvD, PyData.depth, PyData.depthAll], w_lay (by decide), _, rfl⟩
  | sneakP _ => exact .inl ⟨(snl _ _).1, (snl _ _).2, w_lay (by decide), _, rfl⟩
  | sneakS _ => exact .inl ⟨(snl _ _).1, (snl _ _).2, w_lay (by decide), _, rfl⟩
end

section
variable {S : Store} {n j p q : Nat} {ps ns : List W} {r fl fr : List Int} {c : Int} {N : Nat}
theorem same_ref {m : Mv} {k : Str} {v : W} (h : Bad r fl fr m k v) : g_law_same 16 [.tup [.str "refused", .str k, v], .tup [.str "refused", .str k, v]] S = .ok (.bl true) S := by
  have l0 := w_lay (a := "refused") (by decide)
  have itc : PyData.canLay0 (.str k) = true → ∀ w : W, trB 15 w = true → g_law_same 16 [.tup [.str "refused", .str k, w], .tup [.str "refused", .str k, w]] S = .ok (.bl true) S := fun h3 w hw => by
    refine same_tr ?_
    show (trB 15 (.str "refused") && (trB 15 (.str k) && (trB 15 w && true))) = true
    rw [hw, show trB 15 (.str "refused") = true from l0, show trB 15 (.str k) = true from h3]
    rfl
  rcases lay_mv h with ⟨_, _, h3, i, hv⟩ | ⟨_, _, h3, hv | ⟨s, hv, h4⟩⟩
  · subst hv
    exact itc h3 _ rfl
  · subst hv
    have sn : g_law_same 15 [.non, .non] S = .ok (.bl true) S := by
      have eb : ∀ b : Bool, eqD S (.bl b) (.bl b) = some true := fun b => by cases b <;> simp [eqD, datS, dat, SeqAt.shaped, PyData.eqv, PyData.canLay0, PyData.depth]
      have en : eqD S .non .non = some true := by simp [eqD, datS, dat, SeqAt.shaped, PyData.eqv, PyData.canLay0, PyData.depth]
      show fnW 4 (d_law_same (g_law_same 14)) [.non, .non] S = _
      simp [d_law_same, fnW, sSeq, sIf, sRet, sNil, lft, dTst, dIs, dVar, dC, bnd, ret, kdW, kSeq, kStr, kInt, kBool, toB, dOrT, dBin, rdS, fIs, isN, eb, en, dAnd, fEq]
    have s1 : g_law_same 15 [.str "refused", .str "refused"] S = .ok (.bl true) S := same_tr l0
    have s2 : g_law_same 15 [.str k, .str k] S = .ok (.bl true) S := same_tr h3
    show fnW 4 (d_law_same (g_law_same 15)) _ S = _
    have hq : sqI S [.tup [.str "refused", .str k, .non], .tup [.str "refused", .str k, .non]] = some ([[.str "refused", .str k, .non], [.str "refused", .str k, .non]], []) := rfl
    refine same_seq (k := .tup) rfl rfl rfl hq (kept_sq hq) rfl rfl rfl fun i hi => ?_
    match i, hi with
    | 0, _ => exact s1
    | 1, _ => exact s2
    | 2, _ => exact sn
    | i + 3, hi => exact absurd hi (by simp)
  · subst hv
    exact itc h3 _ h4
end

section
/-! ### heights otherwise, in the same order -/
def Mono (φ : Int → Int) (r : List Int) : Prop := ∀ x ∈ r, ∀ y ∈ r, x < y → φ x < φ y
theorem Mono.iff {φ : Int → Int} {r : List Int} (h : Mono φ r) {x y : Int} (hx : x ∈ r) (hy : y ∈ r) : φ x < φ y ↔ x < y := by
  constructor
  · intro z
    by_cases e : x = y
    · subst e; omega
    · by_cases e2 : x < y
      · exact e2
      · have := h y hy x hx (by omega); omega
  · exact h x hx y hy
theorem Mono.inj {φ : Int → Int} {r : List Int} (h : Mono φ r) {x y : Int} (hx : x ∈ r) (hy : y ∈ r) (e : φ x = φ y) : x = y := by
  have h1 := h.iff hx hy
  have h2 := h.iff hy hx
  omega
theorem tb_map {φ : Int → Int} {r : List Int} (h : Mono φ r) {x : Int} (hx : x ∈ r) {l : List Int} (hl : ∀ y ∈ l, y ∈ r) : tb (l.map φ) (φ x) = tb l x := by
  unfold tb
  rw [List.filter_map, List.length_map]
  congr 1
  exact List.filter_congr fun y hy => decide_eq_decide.mpr (h.iff hx (hl y hy))
theorem idx_map {φ : Int → Int} {r : List Int} (h : Mono φ r) {x : Int} (hx : x ∈ r) : ∀ {l : List Int}, (∀ y ∈ l, y ∈ r) → (l.map φ).idxOf (φ x) = l.idxOf x
  | [], _ => rfl
  | a :: l, hl => by
    have ih := idx_map h hx fun y hy => hl y (List.mem_cons_of_mem _ hy)
    rw [List.map_cons, List.idxOf_cons, List.idxOf_cons, ih]
    by_cases e : a = x
    · subst e; simp
    · have e2 : ¬ φ a = φ x := fun z => e (h.inj (hl a (List.mem_cons_self ..)) hx z)
      have b1 : (a == x) = false := by simp [e]
      have b2 : (φ a == φ x) = false := by simp [e2]
      rw [b1, b2]
theorem ahead_map {φ : Int → Int} {r : List Int} (h : Mono φ r) {x : Int} (hx : x ∈ r) : ahead (r.map φ) (φ x) = ahead r x := by
  unfold ahead
  rw [idx_map h hx fun y hy => hy, ← List.map_take]
  exact tb_map h hx fun y hy => List.mem_of_mem_take hy
theorem nodup_map {φ : Int → Int} {r : List Int} (h : Mono φ r) (nd : r.Nodup) : (r.map φ).Nodup := by
  rw [List.nodup_iff_pairwise_ne] at nd ⊢
  rw [List.pairwise_map]
  exact nd.imp_of_mem fun ha hb hne e => hne (h.inj ha hb e)
theorem srt_map {φ : Int → Int} {r : List Int} (h : Mono φ r) : srt (r.map φ) = (srt r).map φ := by
  refine srt_eq ((srt_perm r).map φ) ?_
  rw [List.pairwise_map]
  refine (srt_le r).imp_of_mem fun ha hb hab => ?_
  have ha := (srt_perm r).mem_iff.mp ha
  have hb := (srt_perm r).mem_iff.mp hb
  rcases Int.lt_or_eq_of_le hab with z | z
  · exact Int.le_of_lt (h _ ha _ hb z)
  · rw [z]; exact Int.le_refl _
theorem sight_map {φ : Int → Int} {r : List Int} (h : Mono φ r) (f : Int) : sight (r.map φ) f = (sight r f).map φ := by
  unfold sight
  rw [srt_map h, List.filter_map]
  congr 1
  refine List.filter_congr fun x hx => ?_
  show decide ((ahead (r.map φ) (φ x) : Int) < f) = _
  rw [ahead_map h ((srt_perm r).mem_iff.mp hx)]
theorem mono_rev {φ : Int → Int} {r : List Int} (h : Mono φ r) : Mono φ r.reverse := fun x hx y hy => h x (by simpa using hx) y (by simpa using hy)
end

/-! ### heights otherwise in the same order: what deeds tell -/
section
variable {φ : Int → Int} {U r q : List Int} {fl fr : List Int}
theorem Mono.sub (h : Mono φ U) (hs : ∀ y ∈ r, y ∈ U) : Mono φ r := fun x hx y hy => h x (hs x hx) y (hs y hy)
theorem get_map (r : List Int) (i : Nat) (hi : i < r.length) : (r.map φ)[i]?.getD 0 = φ (r[i]?.getD 0) := by
  rw [List.getElem?_map, List.getElem?_eq_getElem hi]
  rfl
theorem lessr_map (h : Mono φ r) {k : Nat} (hk : k + 1 < r.length) : lessr (r.map φ) k = φ (lessr r k) ∧ lessr r k ∈ r := by
  have m1 : r[k]?.getD 0 ∈ r := by rw [List.getElem?_eq_getElem (by omega)]; exact List.getElem_mem _
  have m2 : r[k + 1]?.getD 0 ∈ r := by rw [List.getElem?_eq_getElem hk]; exact List.getElem_mem _
  unfold lessr
  rw [get_map r k (by omega), get_map r (k + 1) hk]
  by_cases c : r[k + 1]?.getD 0 < r[k]?.getD 0
  · rw [if_pos c, if_pos ((h.iff m2 m1).mpr c)]
    exact ⟨rfl, m2⟩
  · rw [if_neg c, if_neg fun z => c ((h.iff m2 m1).mp z)]
    exact ⟨rfl, m1⟩
theorem told_map (h : Mono φ r) {k : Nat} (hk : k + 1 < r.length) : toldN (r.map φ) fl fr k = toldN r fl fr k := by
  obtain ⟨e1, e2⟩ := lessr_map h hk
  have a1 : tlA (r.map φ) k = tlA r k := by
    unfold tlA
    rw [e1, ← List.map_take]
    exact tb_map h e2 fun y hy => List.mem_of_mem_take hy
  have a2 : tlB (r.map φ) k = tlB r k := by
    unfold tlB
    rw [e1, ← List.map_drop]
    exact tb_map h e2 fun y hy => List.mem_of_mem_drop hy
  unfold toldN
  rw [a1, a2]
theorem sw_map {k : Nat} (hk : k + 1 < r.length) : sw (r.map φ) k = (sw r k).map φ := by
  unfold sw
  rw [get_map r k (by omega), get_map r (k + 1) hk]
  simp
theorem nw_map (s : Nat) (x : Int) : nw (r.map φ) s (φ x) = (nw r s x).map φ := by simp [nw]
theorem wo_map (h : Mono φ r) {x : Int} (hx : x ∈ r) : wo (r.map φ) (φ x) = (wo r x).map φ := by
  unfold wo
  rw [List.filter_map]
  congr 1
  refine List.filter_congr fun y hy => ?_
  have : φ y = φ x ↔ y = x := ⟨fun e => h.inj hy hx e, fun e => by rw [e]⟩
  simp [Function.comp, this]
theorem flgs_map (h : Mono φ r) {y : Int} (hy : y ∈ r) : flgs fl fr (r.map φ) (φ y) = flgs fl fr r y := by
  unfold flgs
  rw [ahead_map h hy, ← List.map_reverse, ahead_map (mono_rev h) (by simpa using hy)]
theorem oth_map (h1 : Mono φ r) (h2 : Mono φ q) (hs : ∀ y ∈ r, y ∈ q) : othN fl fr (r.map φ) (q.map φ) = (othN fl fr r q).map φ := by
  unfold othN
  rw [srt_map h1, List.filter_map]
  congr 1
  refine List.filter_congr fun y hy => ?_
  have hy : y ∈ r := (srt_perm r).mem_iff.mp hy
  simp only [Function.comp, flgs_map h1 hy, flgs_map h2 (hs y hy)]
/-- the heights of the law: even ones apart by gap, odd ones just above -/
def phi (b g : Int) (x : Int) : Int := b + g * (x / 2) + x % 2
theorem phi_mono {b g : Int} (hg : 2 ≤ g) (r : List Int) : Mono (phi b g) r := fun x _ y _ h => by
  unfold phi
  have hx := Int.emod_add_mul_ediv x 2
  have hy := Int.emod_add_mul_ediv y 2
  have x0 := Int.emod_nonneg x (show (2 : Int) ≠ 0 by decide)
  have x1 := Int.emod_lt_of_pos x (show (0 : Int) < 2 by decide)
  have y0 := Int.emod_nonneg y (show (2 : Int) ≠ 0 by decide)
  have y1 := Int.emod_lt_of_pos y (show (0 : Int) < 2 by decide)
  by_cases e : x / 2 = y / 2
  · rw [e]
    omega
  · have l : x / 2 + 1 ≤ y / 2 := by omega
    have m : g * (x / 2 + 1) ≤ g * (y / 2) := Int.mul_le_mul_of_nonneg_left l (by omega)
    rw [Int.mul_add, Int.mul_one] at m
    omega
end
section
variable {S : Store} {n j p q j2 p2 q2 : Nat} {qs st : List Sn} {x y : Sn} {ps ns : List W} {r fl fr : List Int} {c : Int} {N : Nat}
def isDue : Td → W → Prop
  | .lst xs, d => d = .cl xs ∧ xs.all (trB 15) = true
  | .now w, d => w = d ∧ (w = .non ∨ trB 16 w = true)
theorem same_non {n : Nat} : g_law_same (n + 1) [.non, .non] S = .ok (.bl true) S := by
  have eb : ∀ b : Bool, eqD S (.bl b) (.bl b) = some true := fun b => by cases b <;> simp [eqD, datS, dat, SeqAt.shaped, PyData.eqv, PyData.canLay0, PyData.depth]
  have en : eqD S .non .non = some true := by simp [eqD, datS, dat, SeqAt.shaped, PyData.eqv, PyData.canLay0, PyData.depth]
  show fnW 4 (d_law_same (g_law_same n)) [.non, .non] S = _
  simp [d_law_same, fnW, sSeq, sIf, sRet, sNil, lft, dTst, dIs, dVar, dC, bnd, ret, kdW, kSeq, kStr, kInt, kBool, toB, dOrT, dBin, rdS, fIs, isN, eb, en, dAnd, fEq]
theorem like_lst {n : Nat} {x y : W} {xs : List W} (h1 : lstS S x = some xs) (h2 : lstS S y = some xs) (h : xs.all (trB n) = true) : likeB S (n + 1) x y = true := by
  have a : all2 (likeB S n) xs xs = true := all2_selfH fun z hz => like_tr n z (by rw [List.all_eq_true] at h; exact h z hz)
  cases x with
  | cl us => cases y <;> first | (simp [likeB, h1, h2, a]; done) | (simp [lstS] at h2)
  | lst us => cases y <;> first | (simp [likeB, h1, h2, a]; done) | (simp [lstS] at h2)
  | _ => simp [lstS] at h1
theorem same_due {t : Td} {u d : W} (h1 : isTd S t u) (h2 : isDue t d) : g_law_same 16 [u, d] S = .ok (.bl true) S := by
  cases t with
  | lst xs =>
    obtain ⟨m, rfl, h1⟩ := h1
    obtain ⟨rfl, h2⟩ := h2
    exact same_true 16 _ _ (like_lst (n := 15) (x := .lst m) h1 rfl h2)
  | now w =>
    obtain rfl : u = w := h1
    obtain ⟨rfl, h2⟩ := h2
    rcases h2 with rfl | h2
    · exact same_non
    · exact same_tr h2
end

end Den

namespace Den
open PySem PySem.Spec PyProof.Rows L2 Bal
abbrev RG1 : DS := (sAsg (.tp [(.nm 1), (.nm 2)]) (dTup (dCons (dBin fSub (dBin fMul (dC (.int 2)) (dCall 2 (g_law_take 6) (dCons (dVar 0) (dCons (dC (.int 2001)) dNil)))) (dC (.int 2000))) (dCons (dBin fAdd (dC (.int 2)) (dBin fMul (dC (.int 2)) (dCall 2 (g_law_take 6) (dCons (dVar 0) (dCons (dBin fPow (dC (.int 10)) (dC (.int 6))) dNil))))) dNil))))
abbrev RG2 : DS := (sAsg (.tp [(.nm 3), (.nm 4), (.nm 5), (.nm 6), (.nm 7)]) (dLc .cl [8] (iRg1 (dCons (dC (.int 5)) dNil)) (.nm 8) dYes (dBin fAdd (dVar 1) (dBin fMul (dVar 2) (dVar 8)))))
abbrev RG3 : DS := (sSet 9 (dMake1 g_Gallery___init__ (dCons (dTup (dCons (dVar 4) (dCons (dVar 6) (dCons (dVar 3) (dCons (dVar 7) (dCons (dVar 5) dNil)))))) dNil)))
abbrev RG4 : DS := (sSet 10 (dCl (dCons (dTup (dCons (dTup (dCons (dC (.str "build")) (dCons (dC (.str "left")) (dCons (dC (.int 2)) dNil)))) (dCons (dTup (dCons (dVar 4) (dCons (dVar 6) (dCons (dVar 7) dNil)))) dNil))) (dCons (dTup (dCons (dTup (dCons (dC (.str "build")) (dCons (dC (.str "right")) (dCons (dC (.int 2)) dNil)))) (dCons (dTup (dCons (dVar 5) (dCons (dVar 6) (dCons (dVar 7) dNil)))) dNil))) dNil))))
abbrev RG5 : DS := (sSet 10 (dBin fAdd (dVar 10) (dCl (dCons (dTup (dCons (dTup (dCons (dC (.str "build")) (dCons (dC (.str "left")) (dCons (dC (.int 2)) dNil)))) (dCons (dTup (dCons (dC (.str "refused")) (dCons (dC (.str "Stands")) (dCons (dC (.int 2)) dNil)))) dNil))) (dCons (dTup (dCons (dTup (dCons (dC (.str "change")) (dCons (dC (.int 0)) dNil))) (dCons (dCl dNil) dNil))) (dCons (dTup (dCons (dTup (dCons (dC (.str "sneak")) (dCons (dCl (dCons (dC (.int 0)) dNil)) dNil))) (dCons (dC .non) dNil))) dNil))))))
abbrev RG6 : DS := (sSet 10 (dBin fAdd (dVar 10) (dCl (dCons (dTup (dCons (dTup (dCons (dC (.str "change")) (dCons (dC (.int 1)) dNil))) (dCons (dCl (dCons (dTup (dCons (dC (.str "left")) (dCons (dC (.int 2)) dNil))) dNil)) dNil))) (dCons (dTup (dCons (dTup (dCons (dC (.str "undo")) dNil)) (dCons (dC (.bl true)) dNil))) dNil)))))
abbrev RG7 : DS := (sSet 10 (dBin fAdd (dVar 10) (dCl (dCons (dTup (dCons (dTup (dCons (dC (.str "change")) (dCons (dC (.int 2)) dNil))) (dCons (dCl (dCons (dTup (dCons (dC (.str "right")) (dCons (dC (.int 2)) dNil))) dNil)) dNil))) (dCons (dTup (dCons (dTup (dCons (dC (.str "undo")) dNil)) (dCons (dC (.bl true)) dNil))) dNil)))))
abbrev RG8 : DS := (sSet 10 (dBin fAdd (dVar 10) (dCl (dCons (dTup (dCons (dTup (dCons (dC (.str "come")) (dCons (dBin fAdd (dVar 7) (dC (.int 1))) (dCons (dC (.int 0)) dNil)))) (dCons (dCl dNil) dNil))) (dCons (dTup (dCons (dTup (dCons (dC (.str "come")) (dCons (dBin fAdd (dVar 5) (dC (.int 1))) (dCons (dC (.int 0)) dNil)))) (dCons (dCl (dCons (dVar 4) dNil)) dNil))) (dCons (dTup (dCons (dTup (dCons (dC (.str "undo")) dNil)) (dCons (dC (.bl true)) dNil))) (dCons (dTup (dCons (dTup (dCons (dC (.str "undo")) dNil)) (dCons (dC (.bl true)) dNil))) dNil)))))))
abbrev RG9 : DS := (sSet 10 (dBin fAdd (dVar 10) (dCl (dCons (dTup (dCons (dTup (dCons (dC (.str "go")) (dCons (dVar 6) dNil))) (dCons (dCl (dCons (dVar 3) (dCons (dVar 5) dNil))) dNil))) (dCons (dTup (dCons (dTup (dCons (dC (.str "undo")) dNil)) (dCons (dC (.bl true)) dNil))) (dCons (dTup (dCons (dTup (dCons (dC (.str "go")) (dCons (dVar 7) dNil))) (dCons (dCl (dCons (dVar 3) (dCons (dVar 5) dNil))) dNil))) (dCons (dTup (dCons (dTup (dCons (dC (.str "undo")) dNil)) (dCons (dC (.bl true)) dNil))) dNil)))))))
abbrev RG10 : DS := (sSet 10 (dBin fAdd (dVar 10) (dCl (dCons (dTup (dCons (dTup (dCons (dC (.str "pull")) (dCons (dC (.str "right")) (dCons (dC (.int 2)) dNil)))) (dCons (dC .non) dNil))) (dCons (dTup (dCons (dTup (dCons (dC (.str "change")) (dCons (dC (.int 2)) dNil))) (dCons (dCl dNil) dNil))) (dCons (dTup (dCons (dTup (dCons (dC (.str "pull")) (dCons (dC (.str "right")) (dCons (dC (.int 2)) dNil)))) (dCons (dTup (dCons (dC (.str "refused")) (dCons (dC (.str "NoFloor")) (dCons (dC (.int 2)) dNil)))) dNil))) dNil))))))
abbrev RG11 : DS := (sFor (iSeq (dVar 10)) (.tp [(.nm 11), (.nm 12)]) (sIf (dNotT (dTst (dCall 2 (g_law_same 16) (dCons (dCall 2 g_law_act (dCons (dVar 9) (dCons (dVar 11) dNil))) (dCons (dVar 12) dNil))))) (sRet (dC (.bl false))) sNil))
abbrev RG12 : DS := (sIf (dNotT (dTst (dCall 2 (g_law_same 16) (dCons (dCl (dCons (dMeth 1 g_Gallery_row (dVar 9) dNil) (dCons (dMeth 1 g_Gallery_houses (dVar 9) dNil) dNil))) (dCons (dCl (dCons (dTup (dCons (dVar 4) (dCons (dVar 6) (dCons (dVar 7) (dCons (dVar 3) (dCons (dVar 5) dNil)))))) (dCons (dTup (dCons (dTup (dCons (dC (.int 2)) dNil)) (dCons (dTup dNil) dNil))) dNil))) dNil))))) (sRet (dC (.bl false))) sNil)
abbrev RG13 : DS := (sFor (iRg1 (dCons (dMeth 1 g_Gallery_deeds (dVar 9) dNil) dNil)) (.nm 13) (sDrop (dMeth 1 g_Gallery_undo (dVar 9) dNil)))
abbrev RG14 : DS := (sRet (dAnd (dBin fIsB (dMeth 1 g_Gallery_undo (dVar 9) dNil) (dC (.bl false))) (dAnd (dEqA g_Gallery___eq__ (dVar 9) (dMake1 g_Gallery___init__ (dCons (dTup (dCons (dVar 4) (dCons (dVar 6) (dCons (dVar 3) (dCons (dVar 7) (dCons (dVar 5) dNil)))))) dNil))) (dBin fEqS (dReprI g_Gallery___repr__ (dVar 9)) (dC (.str "Gallery(5 folk, 0 floors)"))))))
theorem RG_is : d_law_right = (sSeq RG1 (sSeq RG2 (sSeq RG3 (sSeq RG4 (sSeq RG5 (sSeq RG6 (sSeq RG7 (sSeq RG8 (sSeq RG9 (sSeq RG10 (sSeq RG11 (sSeq RG12 (sSeq RG13 RG14))))))))))))) := rfl
section
variable {S : Store} {n j p q : Nat} {qs zs st : List Sn} {x y : Sn} {ps ns : List W} {r fl fr : List Int} {c : Int} {N : Nat}
abbrev kB : DS := (sIf (dNotT (dTst (dCall 2 (g_law_same 16) (dCons (dCall 2 g_law_act (dCons (dVar 9) (dCons (dVar 11) dNil))) (dCons (dVar 12) dNil))))) (sRet (dC (.bl false))) sNil)
abbrev kE (n : Nat) (v1 v2 va vb vc vd ve : W) (j : Nat) (rows : List W) (x11 x12 x13 : Option W) : En := [some (.lst n), some v1, some v2, some va, some vb, some vc, some vd, some ve, none, some (.ins j), some (.cl rows), x11, x12, x13]
variable {v1 v2 va vb vc vd ve : W} {rows : List W}
/-- a turn of the loop goes well -/
def Goes (n : Nat) (v1 v2 va vb vc vd ve : W) (j : Nat) (rows : List W) (S0 S S' : Store) (mv due : W) : Prop := ∀ ks x11 x12, forL (.tp [(.nm 11), (.nm 12)]) kB [] S0 (W.tup [mv, due] :: ks) (kE n v1 v2 va vb vc vd ve j rows x11 x12 none) S = forL (.tp [(.nm 11), (.nm 12)]) kB [] S0 ks (kE n v1 v2 va vb vc vd ve j rows (some mv) (some due) none) S'
theorem turn_ok {S0 S' : Store} {mv due u : W} (a : g_law_act [.ins j, mv] S = .ok u S') (s : g_law_same 16 [u, due] S' = .ok (.bl true) S') : Goes n v1 v2 va vb vc vd ve j rows S0 S S' mv due := fun ks x11 x12 => by
  have st : setT S (.tp [(.nm 11), (.nm 12)]) (W.tup [mv, due]) (kE n v1 v2 va vb vc vd ve j rows x11 x12 none) = some (kE n v1 v2 va vb vc vd ve j rows (some mv) (some due) none) := rfl
  have bd : kB (kE n v1 v2 va vb vc vd ve j rows (some mv) (some due) none) S = .ok (.nx (kE n v1 v2 va vb vc vd ve j rows (some mv) (some due) none)) S' := by
    simp only [kE]
    simp [kB, sIf, sNil, lft, dNotT, dTst, dCall, dCons, dNil, dVar, bnd, ret, a, s, toB]
  conv => lhs; unfold forL
  rw [st]
  simp only [bd, kept_nil, if_true]
theorem stepD {S0 : Store} (h : Hall S j p q ((qs ++ [x]).map sdW) ns) (ln : ns.length ≤ 500) (lq : qs.length ≤ 500) (K : Wk x.1 x.2.1 x.2.2) {m : Mv} {t : Td} (hd : Done x.1 x.2.1 x.2.2 m t y.1 y.2.1 y.2.2) {due : W} (hdue : isDue t due) : ∃ S', Goes n v1 v2 va vb vc vd ve j rows S0 S S' (mvW m) due ∧ Hall S' j p q ((qs ++ [x] ++ [y]).map sdW) (ntd ns (mvN m)) := by
  obtain ⟨S', u, a1, a2, a3, a4, a5⟩ := act_done (hall_cut h) (by omega) (by simp; omega) K hd
  refine ⟨S', turn_ok a1 (same_due a4 hdue), ?_⟩
  rw [List.map_append, List.map_append]
  exact a2
theorem stepB {S0 : Store} (h : Hall S j p q ((qs ++ [x]).map sdW) ns) (ln : ns.length ≤ 500) {m : Mv} {k : Str} {v : W} (hb : Bad x.1 x.2.1 x.2.2 m k v) : ∃ S', Goes n v1 v2 va vb vc vd ve j rows S0 S S' (mvW m) (.tup [.str "refused", .str k, v]) ∧ Hall S' j p q ((qs ++ [x]).map sdW) (ntd ns (mvN m)) := by
  obtain ⟨J, a1⟩ := act_bad (hall_cut h) (by omega) hb
  exact ⟨_, turn_ok a1 (same_ref hb), hall_last (((hall_cut h).setQ _).app J)⟩
theorem stepU {S0 : Store} (h : Hall S j p q ((zs ++ [x] ++ [y]).map sdW) ns) (ln : ns.length ≤ 500) (lq : zs.length ≤ 500) : ∃ S', Goes n v1 v2 va vb vc vd ve j rows S0 S S' (.tup [.str "undo"]) (.bl true) ∧ Hall S' j p q ((zs ++ [x]).map sdW) (ntd ns "undo") := by
  obtain ⟨S', u1, u2, u3⟩ := undo_at h (by simp; omega) (by omega)
  rw [decide_eq_true (by simp)] at u1
  have e : popS (zs ++ [x]) y = zs ++ [x] := by
    unfold popS
    rw [if_neg (by simp)]
  rw [e] at u2
  exact ⟨S', turn_ok (act_undo u1) (same_true 16 _ _ (by simp [likeB])), u2⟩
theorem wk_of {φ : Int → Int} (hm : Mono φ r) (nd : r.Nodup) (l0 : 0 < r.length) (l1 : r.length < 13) (n1 : fl.Nodup) (n2 : fr.Nodup) (ll : fl.length + fr.length < 13) : Wk (r.map φ) fl fr := ⟨nodup_map hm nd, by simpa using l0, by simpa using l1, n1, n2, ll⟩
theorem tr_txt {s : Str} {i : Int} {n : Nat} (h : PyData.canLay0 (.str s) = true) : [W.tup [.str s, .int i]].all (trB (n + 2)) = true := by
  simp [trB, h]
abbrev sn (φ : Int → Int) (r fl fr : List Int) : Sn := (r.map φ, fl, fr)
abbrev dueW (mv due : W) : W := .tup [mv, due]
abbrev L1 (va vb vc vd ve : W) : List W := [dueW (.tup [.str "build", .str "left", .int 2]) (.tup [vb, vd, ve]), dueW (.tup [.str "build", .str "right", .int 2]) (.tup [vc, vd, ve])]
abbrev L2 (va vb vc vd ve : W) : List W := [dueW (.tup [.str "build", .str "left", .int 2]) (.tup [.str "refused", .str "Stands", .int 2]), dueW (.tup [.str "change", .int 0]) (.cl []), dueW (.tup [.str "sneak", .cl [.int 0]]) .non]
abbrev L3 (va vb vc vd ve : W) : List W := [dueW (.tup [.str "change", .int 1]) (.cl [.tup [.str "left", .int 2]]), dueW (.tup [.str "undo"]) (.bl true)]
abbrev L4 (va vb vc vd ve : W) : List W := [dueW (.tup [.str "change", .int 2]) (.cl [.tup [.str "right", .int 2]]), dueW (.tup [.str "undo"]) (.bl true)]
abbrev L5 (vb e1 c1 : W) : List W := [dueW (.tup [.str "come", e1, .int 0]) (.cl []), dueW (.tup [.str "come", c1, .int 0]) (.cl [vb]), dueW (.tup [.str "undo"]) (.bl true), dueW (.tup [.str "undo"]) (.bl true)]
abbrev L6 (va vb vc vd ve : W) : List W := [dueW (.tup [.str "go", vd]) (.cl [va, vc]), dueW (.tup [.str "undo"]) (.bl true), dueW (.tup [.str "go", ve]) (.cl [va, vc]), dueW (.tup [.str "undo"]) (.bl true)]
abbrev L7 (va vb vc vd ve : W) : List W := [dueW (.tup [.str "pull", .str "right", .int 2]) .non, dueW (.tup [.str "change", .int 2]) (.cl []), dueW (.tup [.str "pull", .str "right", .int 2]) (.tup [.str "refused", .str "NoFloor", .int 2])]
/-- all rows of the law, one behind the other -/
theorem rows_ok {φ : Int → Int} (hm : ∀ l, Mono φ l) {S0 : Store} (h : Hall S j p q ([sn φ [2, 6, 0, 8, 4] [] []].map sdW) []) : ∃ S' ns' x11 x12, forL (.tp [(.nm 11), (.nm 12)]) kB [] S0 (L1 (.int (φ 0)) (.int (φ 2)) (.int (φ 4)) (.int (φ 6)) (.int (φ 8)) ++ L2 va vb vc vd ve ++ L3 va vb vc vd ve ++ L4 va vb vc vd ve ++ L5 (.int (φ 2)) (.int (φ 9)) (.int (φ 5)) ++ L6 (.int (φ 0)) (.int (φ 2)) (.int (φ 4)) (.int (φ 6)) (.int (φ 8)) ++ L7 va vb vc vd ve) (kE n v1 v2 va vb vc vd ve j rows none none none) S = .ok (.nx (kE n v1 v2 va vb vc vd ve j rows x11 x12 none)) S' ∧ Hall S' j p q ([sn φ [2, 6, 0, 8, 4] [] [], sn φ [2, 6, 0, 8, 4] [2] [], sn φ [2, 6, 0, 8, 4] [2] [2], sn φ [6, 2, 0, 8, 4] [2] [2], sn φ [2, 6, 0, 8, 4] [2] [2], sn φ [2, 6, 0, 8, 4] [2] [], sn φ [2, 6, 8, 0, 4] [2] []].map sdW) ns' ∧ ns'.length ≤ 100 := by
  have sl : PyData.canLay0 (.str "left") = true := w_lay (by decide)
  have sr : PyData.canLay0 (.str "right") = true := w_lay (by decide)
  -- the concrete values
  have z1 : srt [2, 6, 0, 8, 4] = [0, 2, 4, 6, 8] := srt_eq (by decide) (by decide)
  have z2 : srt ([2, 6, 0, 8, 4] : List Int).reverse = [0, 2, 4, 6, 8] := srt_eq (by decide) (by decide)
  have z3 : srt [9, 2, 6, 0, 8, 4] = [0, 2, 4, 6, 8, 9] := srt_eq (by decide) (by decide)
  have z4 : srt [2, 0, 8, 4] = [0, 2, 4, 8] := srt_eq (by decide) (by decide)
  have z5 : srt [2, 6, 0, 4] = [0, 2, 4, 6] := srt_eq (by decide) (by decide)
  have i1 : sight [2, 6, 0, 8, 4] 2 = [2, 6, 8] := by unfold sight; rw [z1]; decide +kernel
  have i2 : sight ([2, 6, 0, 8, 4] : List Int).reverse 2 = [4, 6, 8] := by unfold sight; rw [z2]; decide +kernel
  have a1 : addF ([] : List Int) 2 = [2] := by decide +kernel
  have t0 : toldN [2, 6, 0, 8, 4] [2] [2] 0 = [] := by unfold toldN; rw [if_neg (by decide +kernel), if_neg (by decide +kernel)]; rfl
  have t0' : toldN [6, 2, 0, 8, 4] [2] [2] 0 = [] := by unfold toldN; rw [if_neg (by decide +kernel), if_neg (by decide +kernel)]; rfl
  have t1 : toldN [2, 6, 0, 8, 4] [2] [2] 1 = [.tup [.str "left", .int 2]] := by
    unfold toldN; rw [if_pos (by decide +kernel), if_neg (by decide +kernel)]
    have : ((tlA [2, 6, 0, 8, 4] 1 : Nat) : Int) + 1 = 2 := by decide +kernel
    rw [this]; rfl
  have t2 : toldN [2, 6, 0, 8, 4] [2] [2] 2 = [.tup [.str "right", .int 2]] := by
    unfold toldN; rw [if_neg (by decide +kernel), if_pos (by decide +kernel)]
    have : ((tlB [2, 6, 0, 8, 4] 2 : Nat) : Int) + 1 = 2 := by decide +kernel
    rw [this]; rfl
  have t3 : toldN [2, 6, 0, 8, 4] [2] [] 2 = [] := by unfold toldN; rw [if_neg (by decide +kernel), if_neg (by decide +kernel)]; rfl
  have o1 : othN [2] [2] [2, 6, 0, 8, 4] [9, 2, 6, 0, 8, 4] = [] := by unfold othN; rw [z1]; decide +kernel
  have o2 : othN [2] [2] [9, 2, 6, 0, 8, 4] [5, 9, 2, 6, 0, 8, 4] = [2] := by unfold othN; rw [z3]; decide +kernel
  have o3 : othN [2] [2] [2, 0, 8, 4] [2, 6, 0, 8, 4] = [0, 4] := by unfold othN; rw [z4]; decide +kernel
  have o4 : othN [2] [2] [2, 6, 0, 4] [2, 6, 0, 8, 4] = [0, 4] := by unfold othN; rw [z5]; decide +kernel
  have K0 : ∀ fl fr : List Int, (fl = [] ∨ fl = [2]) → (fr = [] ∨ fr = [2]) → Wk ([2, 6, 0, 8, 4].map φ) fl fr := fun fl fr h1 h2 => by
    rcases h1 with rfl | rfl <;> rcases h2 with rfl | rfl <;> exact wk_of (hm _) (by decide) (by decide) (by decide) (by decide) (by decide) (by decide)
  -- what is done
  have d1 : Done ([2, 6, 0, 8, 4].map φ) [] [] (.build "left" 2) (.now (.tup (iW ([2, 6, 8].map φ)))) ([2, 6, 0, 8, 4].map φ) [2] [] := by
    have z := Done.build (r := [2, 6, 0, 8, 4].map φ) (fl := []) (fr := []) (s := "left") (f := 2) (.inl rfl) (by simp [sdF])
    have e1 : sight (sdR "left" ([2, 6, 0, 8, 4].map φ)) 2 = [2, 6, 8].map φ := by show sight ([2, 6, 0, 8, 4].map φ) 2 = _; rw [sight_map (hm _), i1]
    have e2 : hsL "left" [] (addF (sdF "left" [] []) 2) = [2] := a1
    have e3 : hsR "left" [] (addF (sdF "left" [] []) 2) = [] := rfl
    rw [e1, e2, e3] at z
    exact z
  have d2 : Done ([2, 6, 0, 8, 4].map φ) [2] [] (.build "right" 2) (.now (.tup (iW ([4, 6, 8].map φ)))) ([2, 6, 0, 8, 4].map φ) [2] [2] := by
    have z := Done.build (r := [2, 6, 0, 8, 4].map φ) (fl := [2]) (fr := []) (s := "right") (f := 2) (.inr rfl) (by
      have : sdF "right" [2] [] = [] := rfl
      rw [this]; simp)
    have e1 : sight (sdR "right" ([2, 6, 0, 8, 4].map φ)) 2 = [4, 6, 8].map φ := by show sight ([2, 6, 0, 8, 4].map φ).reverse 2 = _; rw [← List.map_reverse, sight_map (hm _), i2]
    have e2 : hsL "right" [2] (addF (sdF "right" [2] []) 2) = [2] := rfl
    have e3 : hsR "right" [] (addF (sdF "right" [2] []) 2) = [2] := a1
    rw [e1, e2, e3] at z
    exact z
  have chg : ∀ (r r' fl fr : List Int) (k : Nat) (ws : List W), k + 1 < r.length → toldN r fl fr k = ws → sw r k = r' → Done (r.map φ) fl fr (.change (k : Int)) (.lst ws) (r'.map φ) fl fr := fun r r' fl fr k ws hk e1 e2 => by
    have z := Done.change (r := r.map φ) (fl := fl) (fr := fr) (k := k) (by simpa using hk)
    rw [told_map (hm _) hk, sw_map hk, e1, e2] at z
    exact z
  have d4 := chg [2, 6, 0, 8, 4] [6, 2, 0, 8, 4] [2] [2] 0 [] (by decide) t0 (by decide)
  have d5 : Done ([6, 2, 0, 8, 4].map φ) [2] [2] (.sneak false [0]) (.now .non) ([2, 6, 0, 8, 4].map φ) [2] [2] := by
    have hk : (0 : Nat) + 1 < ([6, 2, 0, 8, 4] : List Int).length := by decide
    have e0 : toldN ([6, 2, 0, 8, 4].map φ) [2] [2] 0 = [] := by rw [told_map (hm _) hk, t0']
    have s0 : snk [2] [2] ([6, 2, 0, 8, 4].map φ) [0] = none := by
      have := snk_step (fl := [2]) (fr := [2]) (r := [6, 2, 0, 8, 4].map φ) (k := 0) (by simp) e0 []
      rw [show ((0 : Nat) : Int) = 0 from rfl] at this
      rw [this]
      rfl
    have z := Done.sneak (t := false) s0
    have e1 : snR ([6, 2, 0, 8, 4].map φ) [0] = [2, 6, 0, 8, 4].map φ := by
      show sw ([6, 2, 0, 8, 4].map φ) 0 = _
      rw [sw_map hk]
      rfl
    rw [e1] at z
    exact z
  have d6 := chg [2, 6, 0, 8, 4] [2, 0, 6, 8, 4] [2] [2] 1 _ (by decide) t1 (by decide)
  have d8 := chg [2, 6, 0, 8, 4] [2, 6, 8, 0, 4] [2] [2] 2 _ (by decide) t2 (by decide)
  have d19 := chg [2, 6, 0, 8, 4] [2, 6, 8, 0, 4] [2] [] 2 [] (by decide) t3 (by decide)
  have ninj : ∀ (l : List Int) (w : Int), w ∉ l → φ w ∉ l.map φ := fun l w hw hmem => by
    obtain ⟨z, hz, e⟩ := List.mem_map.mp hmem
    have := (hm (w :: l)).inj (List.mem_cons_of_mem _ hz) (List.mem_cons_self ..) e
    exact hw (this ▸ hz)
  have cme : ∀ (r r' : List Int) (w : Int) (ws : List Int), w ∉ r → nw r 0 w = r' → othN [2] [2] r r' = ws → Done (r.map φ) [2] [2] (.come (φ w) 0) (.lst (iW (ws.map φ))) (r'.map φ) [2] [2] := fun r r' w ws h1 h2 h3 => by
    have z := Done.come (r := r.map φ) (fl := [2]) (fr := [2]) (x := φ w) (s := 0) (ninj _ _ h1) (Nat.zero_le _)
    rw [nw_map, h2, oth_map (hm _) (hm _) (fun y hy => by rw [← h2]; exact nw_mem.mpr (.inr hy)), h3] at z
    exact z
  have d10 := cme [2, 6, 0, 8, 4] [9, 2, 6, 0, 8, 4] 9 [] (by decide) (by decide) o1
  have d11 := cme [9, 2, 6, 0, 8, 4] [5, 9, 2, 6, 0, 8, 4] 5 [2] (by decide) (by decide) o2
  have goe : ∀ (r' : List Int) (w : Int) (ws : List Int), w ∈ ([2, 6, 0, 8, 4] : List Int) → wo [2, 6, 0, 8, 4] w = r' → othN [2] [2] r' [2, 6, 0, 8, 4] = ws → Done ([2, 6, 0, 8, 4].map φ) [2] [2] (.go (φ w)) (.lst (iW (ws.map φ))) (r'.map φ) [2] [2] := fun r' w ws h1 h2 h3 => by
    have z := Done.go (r := [2, 6, 0, 8, 4].map φ) (fl := [2]) (fr := [2]) (x := φ w) (List.mem_map_of_mem h1) (by simp)
    rw [wo_map (hm _) h1, h2, oth_map (hm _) (hm _) (fun y hy => by rw [← h2] at hy; exact (List.mem_filter.mp hy).1), h3] at z
    exact z
  have d14 := goe [2, 0, 8, 4] 6 [0, 4] (by decide) (by decide) o3
  have d16 := goe [2, 6, 0, 4] 8 [0, 4] (by decide) (by decide) o4
  have d18 : Done ([2, 6, 0, 8, 4].map φ) [2] [2] (.pull "right" 2) (.now .non) ([2, 6, 0, 8, 4].map φ) [2] [] := by
    have z := Done.pull (r := [2, 6, 0, 8, 4].map φ) (fl := [2]) (fr := [2]) (s := "right") (f := 2) (.inr rfl) (by
      have : sdF "right" [2] [2] = [2] := rfl
      rw [this]; simp)
    have e2 : hsL "right" [2] (wof (sdF "right" [2] [2]) 2) = [2] := rfl
    have e3 : hsR "right" [2] (wof (sdF "right" [2] [2]) 2) = [] := by decide
    rw [e2, e3] at z
    exact z
  have b3 : Bad ([2, 6, 0, 8, 4].map φ) [2] [2] (.build "left" 2) "Stands" (.int 2) := .stands (F := [2]) (.inl ⟨rfl, rfl⟩) (by simp)
  have b20 : Bad ([2, 6, 8, 0, 4].map φ) [2] [] (.pull "right" 2) "NoFloor" (.int 2) := .none (F := []) (.inr ⟨rfl, rfl⟩) (by simp)
  have trI : ∀ l : List Int, (iW l).all (trB 15) = true := fun l => tr_iW l 14
  -- one behind the other
  obtain ⟨S1, f1, h1⟩ := stepD (n := n) (v1 := v1) (v2 := v2) (va := va) (vb := vb) (vc := vc) (vd := vd) (ve := ve) (rows := rows) (S0 := S0) (qs := []) (x := sn φ [2, 6, 0, 8, 4] [] []) (y := sn φ [2, 6, 0, 8, 4] [2] []) h (by simp) (by simp) (K0 _ _ (.inl rfl) (.inl rfl)) d1 ⟨rfl, .inr (tr_iW _ 14)⟩
  obtain ⟨S2, f2, h2⟩ := stepD (n := n) (v1 := v1) (v2 := v2) (va := va) (vb := vb) (vc := vc) (vd := vd) (ve := ve) (rows := rows) (S0 := S0) (x := sn φ [2, 6, 0, 8, 4] [2] []) (y := sn φ [2, 6, 0, 8, 4] [2] [2]) h1 (by simp) (by simp) (K0 _ _ (.inr rfl) (.inl rfl)) d2 ⟨rfl, .inr (tr_iW _ 14)⟩
  obtain ⟨S3, f3, h3⟩ := stepB (n := n) (v1 := v1) (v2 := v2) (va := va) (vb := vb) (vc := vc) (vd := vd) (ve := ve) (rows := rows) (S0 := S0) h2 (by simp) b3
  obtain ⟨S4, f4, h4⟩ := stepD (n := n) (v1 := v1) (v2 := v2) (va := va) (vb := vb) (vc := vc) (vd := vd) (ve := ve) (rows := rows) (S0 := S0) (x := sn φ [2, 6, 0, 8, 4] [2] [2]) (y := sn φ [6, 2, 0, 8, 4] [2] [2]) h3 (by simp) (by simp) (K0 _ _ (.inr rfl) (.inr rfl)) d4 ⟨rfl, rfl⟩
  obtain ⟨S5, f5, h5⟩ := stepD (n := n) (v1 := v1) (v2 := v2) (va := va) (vb := vb) (vc := vc) (vd := vd) (ve := ve) (rows := rows) (S0 := S0) (x := sn φ [6, 2, 0, 8, 4] [2] [2]) (y := sn φ [2, 6, 0, 8, 4] [2] [2]) h4 (by simp) (by simp) (wk_of (r := [6, 2, 0, 8, 4]) (fl := [2]) (fr := [2]) (hm _) (by decide) (by decide) (by decide) (by decide) (by decide) (by decide)) d5 ⟨rfl, .inl rfl⟩
  obtain ⟨S6, f6, h6⟩ := stepD (n := n) (v1 := v1) (v2 := v2) (va := va) (vb := vb) (vc := vc) (vd := vd) (ve := ve) (rows := rows) (S0 := S0) (x := sn φ [2, 6, 0, 8, 4] [2] [2]) (y := sn φ [2, 0, 6, 8, 4] [2] [2]) h5 (by simp) (by simp) (K0 _ _ (.inr rfl) (.inr rfl)) d6 ⟨rfl, tr_txt sl⟩
  obtain ⟨S7, f7, h7⟩ := stepU (n := n) (v1 := v1) (v2 := v2) (va := va) (vb := vb) (vc := vc) (vd := vd) (ve := ve) (rows := rows) (S0 := S0) h6 (by simp) (by simp)
  obtain ⟨S8, f8, h8⟩ := stepD (n := n) (v1 := v1) (v2 := v2) (va := va) (vb := vb) (vc := vc) (vd := vd) (ve := ve) (rows := rows) (S0 := S0) (x := sn φ [2, 6, 0, 8, 4] [2] [2]) (y := sn φ [2, 6, 8, 0, 4] [2] [2]) h7 (by simp) (by simp) (K0 _ _ (.inr rfl) (.inr rfl)) d8 ⟨rfl, tr_txt sr⟩
  obtain ⟨S9, f9, h9⟩ := stepU (n := n) (v1 := v1) (v2 := v2) (va := va) (vb := vb) (vc := vc) (vd := vd) (ve := ve) (rows := rows) (S0 := S0) h8 (by simp) (by simp)
  obtain ⟨S10, f10, h10⟩ := stepD (n := n) (v1 := v1) (v2 := v2) (va := va) (vb := vb) (vc := vc) (vd := vd) (ve := ve) (rows := rows) (S0 := S0) (x := sn φ [2, 6, 0, 8, 4] [2] [2]) (y := sn φ [9, 2, 6, 0, 8, 4] [2] [2]) h9 (by simp) (by simp) (K0 _ _ (.inr rfl) (.inr rfl)) d10 ⟨rfl, trI _⟩
  obtain ⟨S11, f11, h11⟩ := stepD (n := n) (v1 := v1) (v2 := v2) (va := va) (vb := vb) (vc := vc) (vd := vd) (ve := ve) (rows := rows) (S0 := S0) (x := sn φ [9, 2, 6, 0, 8, 4] [2] [2]) (y := sn φ [5, 9, 2, 6, 0, 8, 4] [2] [2]) h10 (by simp) (by simp) (wk_of (r := [9, 2, 6, 0, 8, 4]) (fl := [2]) (fr := [2]) (hm _) (by decide) (by decide) (by decide) (by decide) (by decide) (by decide)) d11 ⟨rfl, trI _⟩
  obtain ⟨S12, f12, h12⟩ := stepU (n := n) (v1 := v1) (v2 := v2) (va := va) (vb := vb) (vc := vc) (vd := vd) (ve := ve) (rows := rows) (S0 := S0) h11 (by simp) (by simp)
  obtain ⟨S13, f13, h13⟩ := stepU (n := n) (v1 := v1) (v2 := v2) (va := va) (vb := vb) (vc := vc) (vd := vd) (ve := ve) (rows := rows) (S0 := S0) h12 (by simp) (by simp)
  obtain ⟨S14, f14, h14⟩ := stepD (n := n) (v1 := v1) (v2 := v2) (va := va) (vb := vb) (vc := vc) (vd := vd) (ve := ve) (rows := rows) (S0 := S0) (x := sn φ [2, 6, 0, 8, 4] [2] [2]) (y := sn φ [2, 0, 8, 4] [2] [2]) h13 (by simp) (by simp) (K0 _ _ (.inr rfl) (.inr rfl)) d14 ⟨rfl, trI _⟩
  obtain ⟨S15, f15, h15⟩ := stepU (n := n) (v1 := v1) (v2 := v2) (va := va) (vb := vb) (vc := vc) (vd := vd) (ve := ve) (rows := rows) (S0 := S0) h14 (by simp) (by simp)
  obtain ⟨S16, f16, h16⟩ := stepD (n := n) (v1 := v1) (v2 := v2) (va := va) (vb := vb) (vc := vc) (vd := vd) (ve := ve) (rows := rows) (S0 := S0) (x := sn φ [2, 6, 0, 8, 4] [2] [2]) (y := sn φ [2, 6, 0, 4] [2] [2]) h15 (by simp) (by simp) (K0 _ _ (.inr rfl) (.inr rfl)) d16 ⟨rfl, trI _⟩
  obtain ⟨S17, f17, h17⟩ := stepU (n := n) (v1 := v1) (v2 := v2) (va := va) (vb := vb) (vc := vc) (vd := vd) (ve := ve) (rows := rows) (S0 := S0) h16 (by simp) (by simp)
  obtain ⟨S18, f18, h18⟩ := stepD (n := n) (v1 := v1) (v2 := v2) (va := va) (vb := vb) (vc := vc) (vd := vd) (ve := ve) (rows := rows) (S0 := S0) (x := sn φ [2, 6, 0, 8, 4] [2] [2]) (y := sn φ [2, 6, 0, 8, 4] [2] []) h17 (by simp) (by simp) (K0 _ _ (.inr rfl) (.inr rfl)) d18 ⟨rfl, .inl rfl⟩
  obtain ⟨S19, f19, h19⟩ := stepD (n := n) (v1 := v1) (v2 := v2) (va := va) (vb := vb) (vc := vc) (vd := vd) (ve := ve) (rows := rows) (S0 := S0) (x := sn φ [2, 6, 0, 8, 4] [2] []) (y := sn φ [2, 6, 8, 0, 4] [2] []) h18 (by simp) (by simp) (K0 _ _ (.inr rfl) (.inl rfl)) d19 ⟨rfl, rfl⟩
  obtain ⟨S20, f20, h20⟩ := stepB (n := n) (v1 := v1) (v2 := v2) (va := va) (vb := vb) (vc := vc) (vd := vd) (ve := ve) (rows := rows) (S0 := S0) h19 (by simp) b20
  refine ⟨S20, _, some (mvW (.pull "right" 2)), some (.tup [.str "refused", .str "NoFloor", .int 2]), ?_, h20, by simp⟩
  show forL _ kB [] S0 (_ :: _ :: _ :: _ :: _ :: _ :: _ :: _ :: _ :: _ :: _ :: _ :: _ :: _ :: _ :: _ :: _ :: _ :: _ :: [_]) _ S = _
  refine (f1 _ none none).trans ?_
  refine (f2 _ _ _).trans ?_
  refine (f3 _ _ _).trans ?_
  refine (f4 _ _ _).trans ?_
  refine (f5 _ _ _).trans ?_
  refine (f6 _ _ _).trans ?_
  refine (f7 _ _ _).trans ?_
  refine (f8 _ _ _).trans ?_
  refine (f9 _ _ _).trans ?_
  refine (f10 _ _ _).trans ?_
  refine (f11 _ _ _).trans ?_
  refine (f12 _ _ _).trans ?_
  refine (f13 _ _ _).trans ?_
  refine (f14 _ _ _).trans ?_
  refine (f15 _ _ _).trans ?_
  refine (f16 _ _ _).trans ?_
  refine (f17 _ _ _).trans ?_
  refine (f18 _ _ _).trans ?_
  refine (f19 _ _ _).trans ?_
  refine (f20 _ _ _).trans ?_
  rfl
end
end Den

namespace Den
open PySem PySem.Spec PyProof.Rows L2 Bal
section
variable {S : Store} {n j p q : Nat} {qs zs st : List Sn} {x y : Sn} {ps ns : List W} {r fl fr : List Int} {c : Int} {N : Nat} {v1 v2 va vb vc vd ve : W} {rows : List W}
theorem und_loop (hst : st.length ≤ 500) {S0 : Store} {x11 x12 : Option W} : ∀ (m i : Nat) (S : Store) (ns2 : List W) (x13 : Option W), m < st.length → Hall S j p q ((st.take (m + 1)).map sdW) ns2 → ns2.length + 2 * m ≤ 1900 → ∃ S' ns' x13', forL (.nm 13) (sDrop (dMeth 1 g_Gallery_undo (dVar 9) dNil)) [] S0 ((List.range' i m).map fun i : Nat => W.int (i : Int)) (kE n v1 v2 va vb vc vd ve j rows x11 x12 x13) S = .ok (.nx (kE n v1 v2 va vb vc vd ve j rows x11 x12 x13')) S' ∧ Hall S' j p q ((st.take 1).map sdW) ns' ∧ ns'.length ≤ 1900
  | 0, i, S, ns2, x13, hk, h, hn => ⟨S, ns2, x13, rfl, h, by omega⟩
  | m + 1, i, S, ns2, x13, hk, h, hn => by
    obtain ⟨y, hy⟩ : ∃ y, st[m + 1]? = some y := ⟨_, List.getElem?_eq_getElem hk⟩
    rw [take_succ_at hy] at h
    have lt : (st.take (m + 1)).length = m + 1 := by rw [List.length_take]; omega
    obtain ⟨S2, u1, u2, u3⟩ := undo_at h (by omega) (by omega)
    have e1 : popS (st.take (m + 1)) y = st.take (m + 1) := by
      unfold popS
      rw [if_neg (fun z => by rw [z] at lt; simp at lt)]
    rw [e1] at u2
    obtain ⟨S', ns', x13', f1, f2, f3⟩ := und_loop hst (S0 := S0) (x11 := x11) (x12 := x12) m (i + 1) S2 (ntd ns2 "undo") (some (.int (i : Int))) (by omega) u2 (by simp; omega)
    refine ⟨S', ns', x13', ?_, f2, f3⟩
    have st1 : setT S (.nm 13) (W.int (i : Int)) (kE n v1 v2 va vb vc vd ve j rows x11 x12 x13) = some (kE n v1 v2 va vb vc vd ve j rows x11 x12 (some (.int (i : Int)))) := rfl
    have bd : (sDrop (dMeth 1 g_Gallery_undo (dVar 9) dNil)) (kE n v1 v2 va vb vc vd ve j rows x11 x12 (some (.int (i : Int)))) S = .ok (.nx (kE n v1 v2 va vb vc vd ve j rows x11 x12 (some (.int (i : Int))))) S2 := by
      simp only [kE]
      simp [sDrop, lft, dMeth, isIns, dNil, dVar, bnd, ret, u1]
    rw [List.range'_succ, List.map_cons]
    unfold forL
    rw [st1]
    simp only [bd, kept_nil, if_true]
    exact f1
theorem make1_ok (S : Store) (r : List Int) : g_Gallery___init__ [.ins S.length, .tup (iW r), .tup [.tup [], .tup []]] (S ++ [[]]) = .ok .non (S ++ [[.lst (S.length + 1), .lst (S.length + 2)], [sd r [] []], []]) := init_okG (r := r) (fl := []) (fr := []) S (wr := .tup (iW r)) (wh := homes [] []) (wl := .tup []) (wg := .tup []) (fun T => rfl) (fun T => rfl) (fun T => rfl) (fun T => rfl)
theorem rq_txt : rq5 5 0 = "Gallery(5 folk, 0 floors)" := by decide +kernel
theorem v_right {p0 : List W} (e : S[n]? = some p0) (hp : PotL p0 c) (hc : c ≤ 400000) : ∃ S', g_law_right [.lst n] S = .ok (.bl true) S' := by
  obtain ⟨i, p1, t1, i0, i1, hp1⟩ := v_take e hp (by omega) (b := 2001) (by decide) (by decide) 5
  have hn := (List.getElem?_eq_some_iff.mp e).1
  have e1 : (S.set n p1)[n]? = some p1 := List.getElem?_set_self hn
  obtain ⟨g, p2, t2, g0, g1, hp2⟩ := v_take e1 hp1 (by omega) (b := 1000000) (by decide) (by decide) 5
  obtain ⟨T, hT⟩ : ∃ T, T = (S.set n p1).set n p2 := ⟨_, rfl⟩
  rw [← hT] at t2
  obtain ⟨b, hb⟩ : ∃ b, b = 2 * i - 2000 := ⟨_, rfl⟩
  obtain ⟨w, hw⟩ : ∃ w, w = 2 + 2 * g := ⟨_, rfl⟩
  have a1 : RG1 [some (.lst n), none, none, none, none, none, none, none, none, none, none, none, none, none] S = .ok (.nx [some (.lst n), some (.int b), some (.int w), none, none, none, none, none, none, none, none, none, none, none]) T := by
    have t1 : g_law_take 6 [.lst n, .int 2001] S = .ok (.int i) (S.set n p1) := t1
    have t2 : g_law_take 6 [.lst n, .int 1000000] (S.set n p1) = .ok (.int g) T := t2
    have m1 : ∀ (U : Store) (k : Int), fMul U (.int 2) (.int k) = some (.int (2 * k)) := fun U k => mulL (by decide) (by decide)
    have s1 : ∀ U : Store, fSub U (.int (2 * i)) (.int 2000) = some (.int b) := fun U => by rw [hb]; rfl
    have s2 : ∀ U : Store, fAdd U (.int 2) (.int (2 * g)) = some (.int w) := fun U => by rw [hw]; rfl
    generalize S.set n p1 = S1 at *
    simp [RG1, sAsg, setT, setTs, itmsS, lft, dTup, mkT, szB, dCall, dCons, dNil, dBin, dVar, dC, bnd, ret, rdS, t1, pow6, t2, m1, s1, s2]
  have hw2 : 2 ≤ w := by omega
  have hm := phi_mono (b := b) (g := w) hw2
  have ph : ∀ k : Nat, phi b w (2 * (k : Int)) = b + w * (k : Int) := fun k => by
    unfold phi
    have : (2 * (k : Int)) / 2 = (k : Int) := by omega
    rw [this]
    omega
  have pa : phi b w 0 = b + w * 0 := ph 0
  have pb : phi b w 2 = b + w * 1 := ph 1
  have pc : phi b w 4 = b + w * 2 := ph 2
  have pd : phi b w 6 = b + w * 3 := ph 3
  have pe : phi b w 8 = b + w * 4 := ph 4
  have p5 : phi b w 5 = phi b w 4 + 1 := by
    rw [pc]
    show b + w * (5 / 2) + 5 % 2 = _
    have : (5 : Int) / 2 = 2 := rfl
    have : (5 : Int) % 2 = 1 := rfl
    omega
  have p9 : phi b w 9 = phi b w 8 + 1 := by
    rw [pe]
    show b + w * (9 / 2) + 9 % 2 = _
    have : (9 : Int) / 2 = 4 := rfl
    have : (9 : Int) % 2 = 1 := rfl
    omega
  have a2 : RG2 [some (.lst n), some (.int b), some (.int w), none, none, none, none, none, none, none, none, none, none, none] T = .ok (.nx [some (.lst n), some (.int b), some (.int w), some (.int (phi b w 0)), some (.int (phi b w 2)), some (.int (phi b w 4)), some (.int (phi b w 6)), some (.int (phi b w 8)), none, none, none, none, none, none]) T := by
    have mu : ∀ k : Int, -(2 ^ 64) < k → k < 2 ^ 64 → fMul T (.int w) (.int k) = some (.int (w * k)) := fun k h1 h2 => mulR h1 h2
    have m0 := mu 0 (by decide) (by decide)
    have m1 := mu 1 (by decide) (by decide)
    have m2 := mu 2 (by decide) (by decide)
    have m3 := mu 3 (by decide) (by decide)
    have m4 := mu 4 (by decide) (by decide)
    have ad : ∀ x y : Int, fAdd T (.int x) (.int y) = some (.int (x + y)) := fun _ _ => rfl
    have q0 := ad b (w * 0)
    have q1 := ad b (w * 1)
    have q2 := ad b (w * 2)
    have q3 := ad b (w * 3)
    have q4 := ad b (w * 4)
    rw [← pa] at q0
    rw [← pb] at q1
    rw [← pc] at q2
    rw [← pd] at q3
    rw [← pe] at q4
    have rg : rgW 0 5 = [.int 0, .int 1, .int 2, .int 3, .int 4] := rfl
    clear ad mu pa pb pc pd pe p5 p9 ph
    generalize phi b w 0 = f0 at *
    generalize phi b w 2 = f2 at *
    generalize phi b w 4 = f4 at *
    generalize phi b w 6 = f6 at *
    generalize phi b w 8 = f8 at *
    generalize w * 0 = z0 at *
    generalize w * 1 = z1 at *
    generalize w * 2 = z2 at *
    generalize w * 3 = z3 at *
    generalize w * 4 = z4 at *
    simp [RG2, sAsg, setT, setTs, itmsS, lft, dLc, iRg1, dCons, dNil, dC, bnd, ret, rdI, szB, rg, wipeW, lcL, dYes, kept_nil, dBin, dVar, rdS, m0, m1, m2, m3, m4, q0, q1, q2, q3, q4, newK]
  -- the gallery
  have mk := make1_ok T ([2, 6, 0, 8, 4].map (phi b w))
  have hh := hall_new T ([2, 6, 0, 8, 4].map (phi b w)) [] []
  obtain ⟨B, hB⟩ : ∃ B, B = T ++ [[.lst (T.length + 1), .lst (T.length + 2)], [sd ([2, 6, 0, 8, 4].map (phi b w)) [] []], []] := ⟨_, rfl⟩
  rw [← hB] at mk hh
  clear hB
  obtain ⟨f0, h0⟩ : ∃ z, z = phi b w 0 := ⟨_, rfl⟩
  obtain ⟨f2, h2⟩ : ∃ z, z = phi b w 2 := ⟨_, rfl⟩
  obtain ⟨f4, h4⟩ : ∃ z, z = phi b w 4 := ⟨_, rfl⟩
  obtain ⟨f6, h6⟩ : ∃ z, z = phi b w 6 := ⟨_, rfl⟩
  obtain ⟨f8, h8⟩ : ∃ z, z = phi b w 8 := ⟨_, rfl⟩
  obtain ⟨f5, h5⟩ : ∃ z, z = phi b w 5 := ⟨_, rfl⟩
  obtain ⟨f9, h9⟩ : ∃ z, z = phi b w 9 := ⟨_, rfl⟩
  have rw1 : (iW ([2, 6, 0, 8, 4].map (phi b w)) : List W) = [.int f2, .int f6, .int f0, .int f8, .int f4] := by rw [h0, h2, h4, h6, h8]; rfl
  rw [← h0, ← h2, ← h4, ← h6, ← h8] at a2
  rw [← h4, ← h5] at p5
  rw [← h8, ← h9] at p9
  have mk' := mk
  rw [rw1] at mk'
  have a3 : RG3 [some (.lst n), some (.int b), some (.int w), some (.int f0), some (.int f2), some (.int f4), some (.int f6), some (.int f8), none, none, none, none, none, none] T = .ok (.nx [some (.lst n), some (.int b), some (.int w), some (.int f0), some (.int f2), some (.int f4), some (.int f6), some (.int f8), none, some (.ins T.length), none, none, none, none]) B := by
    simp [RG3, sSet, sAsg, setT, lft, dMake1, dTup, mkT, szB, dCons, dNil, dVar, bnd, ret, mk']
  -- the rows
  obtain ⟨R, hR⟩ : ∃ R, R = L1 (.int f0) (.int f2) (.int f4) (.int f6) (.int f8) ++ L2 .non .non .non .non .non ++ L3 .non .non .non .non .non ++ L4 .non .non .non .non .non ++ L5 (.int f2) (.int f9) (.int f5) ++ L6 (.int f0) (.int f2) (.int f4) (.int f6) (.int f8) ++ L7 .non .non .non .non .non := ⟨_, rfl⟩
  have a4 : ∀ {ρ : En} {U : Store}, sSeq RG4 (sSeq RG5 (sSeq RG6 (sSeq RG7 (sSeq RG8 (sSeq RG9 RG10))))) [some (.lst n), some (.int b), some (.int w), some (.int f0), some (.int f2), some (.int f4), some (.int f6), some (.int f8), none, some (.ins T.length), none, none, none, none] B = .ok (.nx (kE n (.int b) (.int w) (.int f0) (.int f2) (.int f4) (.int f6) (.int f8) T.length R none none none)) B := fun {ρ U} => by
    have ad : ∀ x y : List W, x.length + y.length < 1000 → fAdd B (.cl x) (.cl y) = some (.cl (x ++ y)) := fun x y h => addC x y h
    have q9 : ∀ U : Store, fAdd U (.int f8) (.int 1) = some (.int f9) := fun U => by rw [p9]; rfl
    have q5 : ∀ U : Store, fAdd U (.int f4) (.int 1) = some (.int f5) := fun U => by rw [p5]; rfl
    clear hh mk mk' a3 a2 a1 rw1 h0 h2 h4 h6 h8 h5 h9 p5 p9 pa pb pc pd pe ph hm
    have s4 : ∀ x10 : Option W, RG4 [some (.lst n), some (.int b), some (.int w), some (.int f0), some (.int f2), some (.int f4), some (.int f6), some (.int f8), none, some (.ins T.length), x10, none, none, none] B = .ok (.nx (kE n (.int b) (.int w) (.int f0) (.int f2) (.int f4) (.int f6) (.int f8) T.length (L1 (.int f0) (.int f2) (.int f4) (.int f6) (.int f8)) none none none)) B := fun x10 => by
      simp only [kE]
      simp [RG4, sSet, sAsg, setT, lft, dCl, mkC, szB, dTup, mkT, dCons, dNil, dVar, dC, bnd, ret]
    have st : ∀ (L M : List W) (d : DE), L.length + M.length < 1000 → d (kE n (.int b) (.int w) (.int f0) (.int f2) (.int f4) (.int f6) (.int f8) T.length L none none none) B = .ok (.cl M) B → sSet 10 (dBin fAdd (dVar 10) d) (kE n (.int b) (.int w) (.int f0) (.int f2) (.int f4) (.int f6) (.int f8) T.length L none none none) B = .ok (.nx (kE n (.int b) (.int w) (.int f0) (.int f2) (.int f4) (.int f6) (.int f8) T.length (L ++ M) none none none)) B := fun L M d hl hd => by
      have ad := ad L M hl
      simp only [kE] at hd ⊢
      simp [sSet, sAsg, setT, lft, dBin, dVar, bnd, ret, rdS, hd, ad]
    rw [sSeq, s4 none]
    show sSeq RG5 _ _ _ = _
    rw [sSeq, RG5, st _ (L2 .non .non .non .non .non) _ (by simp) (by simp only [kE]; simp [dCl, mkC, szB, dTup, mkT, dCons, dNil, dVar, dC, bnd, ret])]
    show sSeq RG6 _ _ _ = _
    rw [sSeq, RG6, st _ (L3 .non .non .non .non .non) _ (by simp) (by simp only [kE]; simp [dCl, mkC, szB, dTup, mkT, dCons, dNil, dVar, dC, bnd, ret])]
    show sSeq RG7 _ _ _ = _
    rw [sSeq, RG7, st _ (L4 .non .non .non .non .non) _ (by simp) (by simp only [kE]; simp [dCl, mkC, szB, dTup, mkT, dCons, dNil, dVar, dC, bnd, ret])]
    show sSeq RG8 _ _ _ = _
    rw [sSeq, RG8, st _ (L5 (.int f2) (.int f9) (.int f5)) _ (by simp) (by simp only [kE]; simp [dCl, mkC, szB, dTup, mkT, dCons, dNil, dBin, dVar, dC, bnd, ret, rdS, q9, q5])]
    show sSeq RG9 _ _ _ = _
    rw [sSeq, RG9, st _ (L6 (.int f0) (.int f2) (.int f4) (.int f6) (.int f8)) _ (by simp) (by simp only [kE]; simp [dCl, mkC, szB, dTup, mkT, dCons, dNil, dVar, dC, bnd, ret])]
    show RG10 _ _ = _
    rw [RG10, st _ (L7 .non .non .non .non .non) _ (by simp) (by simp only [kE]; simp [dCl, mkC, szB, dTup, mkT, dCons, dNil, dVar, dC, bnd, ret]), hR]
  -- the loop
  obtain ⟨S5, ns5, x11, x12, f5', h5', l5⟩ := rows_ok (S := B) (S0 := B) (n := n) (v1 := .int b) (v2 := .int w) (va := .int f0) (vb := .int f2) (vc := .int f4) (vd := .int f6) (ve := .int f8) (rows := R) hm hh
  rw [← h0, ← h2, ← h4, ← h6, ← h8, ← h5, ← h9] at f5'
  have f5'' : forL (.tp [(.nm 11), (.nm 12)]) kB [] B R (kE n (.int b) (.int w) (.int f0) (.int f2) (.int f4) (.int f6) (.int f8) T.length R none none none) B = .ok (.nx (kE n (.int b) (.int w) (.int f0) (.int f2) (.int f4) (.int f6) (.int f8) T.length R x11 x12 none)) S5 := by
    have e : R = L1 (.int f0) (.int f2) (.int f4) (.int f6) (.int f8) ++ L2 (.int f0) (.int f2) (.int f4) (.int f6) (.int f8) ++ L3 (.int f0) (.int f2) (.int f4) (.int f6) (.int f8) ++ L4 (.int f0) (.int f2) (.int f4) (.int f6) (.int f8) ++ L5 (.int f2) (.int f9) (.int f5) ++ L6 (.int f0) (.int f2) (.int f4) (.int f6) (.int f8) ++ L7 (.int f0) (.int f2) (.int f4) (.int f6) (.int f8) := hR
    rw [← e] at f5'
    exact f5'
  have a11 : RG11 (kE n (.int b) (.int w) (.int f0) (.int f2) (.int f4) (.int f6) (.int f8) T.length R none none none) B = .ok (.nx (kE n (.int b) (.int w) (.int f0) (.int f2) (.int f4) (.int f6) (.int f8) T.length R x11 x12 none)) S5 := by
    have rd : iSeq (dVar 10) (kE n (.int b) (.int w) (.int f0) (.int f2) (.int f4) (.int f6) (.int f8) T.length R none none none) B = .ok (R, []) B := rfl
    rw [RG11, sFor, lft, rd]
    exact f5''
  -- what stands
  have hz := h5'
  have hl : Hall S5 T.length (T.length + 1) (T.length + 2) (([sn (phi b w) [2, 6, 0, 8, 4] [] [], sn (phi b w) [2, 6, 0, 8, 4] [2] [], sn (phi b w) [2, 6, 0, 8, 4] [2] [2], sn (phi b w) [6, 2, 0, 8, 4] [2] [2], sn (phi b w) [2, 6, 0, 8, 4] [2] [2], sn (phi b w) [2, 6, 0, 8, 4] [2] []] : List Sn).map sdW ++ [sd ([2, 6, 8, 0, 4].map (phi b w)) [2] []]) ns5 := h5'
  have e12 := v_row hl
  have e12' := v_houses hl
  have rw2 : (iW ([2, 6, 8, 0, 4].map (phi b w)) : List W) = [.int f2, .int f6, .int f8, .int f0, .int f4] := by rw [h0, h2, h4, h6, h8]; rfl
  rw [rw2] at e12
  have sm12 : g_law_same 16 [.cl [.tup [.int f2, .int f6, .int f8, .int f0, .int f4], .tup [.tup [.int 2], .tup []]], .cl [.tup [.int f2, .int f6, .int f8, .int f0, .int f4], .tup [.tup [.int 2], .tup []]]] S5 = .ok (.bl true) S5 := same_tr (by rfl)
  have a12 : RG12 (kE n (.int b) (.int w) (.int f0) (.int f2) (.int f4) (.int f6) (.int f8) T.length R x11 x12 none) S5 = .ok (.nx (kE n (.int b) (.int w) (.int f0) (.int f2) (.int f4) (.int f6) (.int f8) T.length R x11 x12 none)) S5 := by
    have e12' : g_Gallery_houses [.ins T.length] S5 = .ok (.tup [.tup [.int 2], .tup []]) S5 := e12'
    simp only [kE]
    clear hl hz f5'' f5' h5'
    simp [RG12, sIf, sNil, lft, dNotT, dTst, dCall, dCl, mkC, szB, dTup, mkT, dCons, dNil, dMeth, isIns, dVar, dC, bnd, ret, e12, e12', sm12, toB]
  -- all undone
  have d13 : g_Gallery_deeds [.ins T.length] S5 = .ok (.int 6) S5 := v_deeds hl
  obtain ⟨S6, ns6, x13, f13, h13, l13⟩ := und_loop (st := [sn (phi b w) [2, 6, 0, 8, 4] [] [], sn (phi b w) [2, 6, 0, 8, 4] [2] [], sn (phi b w) [2, 6, 0, 8, 4] [2] [2], sn (phi b w) [6, 2, 0, 8, 4] [2] [2], sn (phi b w) [2, 6, 0, 8, 4] [2] [2], sn (phi b w) [2, 6, 0, 8, 4] [2] [], sn (phi b w) [2, 6, 8, 0, 4] [2] []]) (by simp) (n := n) (v1 := .int b) (v2 := .int w) (va := .int f0) (vb := .int f2) (vc := .int f4) (vd := .int f6) (ve := .int f8) (rows := R) (x11 := x11) (x12 := x12) (S0 := S5) 6 0 S5 ns5 none (by simp) h5' (by omega)
  have a13 : RG13 (kE n (.int b) (.int w) (.int f0) (.int f2) (.int f4) (.int f6) (.int f8) T.length R x11 x12 none) S5 = .ok (.nx (kE n (.int b) (.int w) (.int f0) (.int f2) (.int f4) (.int f6) (.int f8) T.length R x11 x12 x13)) S6 := by
    have rg : iRg1 (dCons (dMeth 1 g_Gallery_deeds (dVar 9) dNil) dNil) (kE n (.int b) (.int w) (.int f0) (.int f2) (.int f4) (.int f6) (.int f8) T.length R x11 x12 none) S5 = .ok ((List.range' 0 6).map (fun i : Nat => W.int (i : Int)), []) S5 := by
      have rm : rgW 0 6 = (List.range' 0 6).map fun i : Nat => W.int (i : Int) := rfl
      have sz : (szB (6 : Int).toNat && decide (-1000000000 ≤ (6 : Int))) = true := by decide
      have dm : dMeth 1 g_Gallery_deeds (dVar 9) dNil (kE n (.int b) (.int w) (.int f0) (.int f2) (.int f4) (.int f6) (.int f8) T.length R x11 x12 none) S5 = .ok (.int 6) S5 := by
        simp only [kE]
        simp [dMeth, isIns, dNil, dVar, bnd, ret, d13]
      rw [← rm]
      simp only [iRg1, dCons, dNil, bnd, ret, dm, rdI, sz, if_true]
    rw [RG13, sFor, lft, rg]
    exact f13
  have h14 : Hall S6 T.length (T.length + 1) (T.length + 2) (([] ++ [sn (phi b w) [2, 6, 0, 8, 4] [] []]).map sdW) ns6 := h13
  obtain ⟨S7, u7, h7, k7⟩ := undo_at h14 (by simp) (by omega)
  have u7 : g_Gallery_undo [.ins T.length] S6 = .ok (.bl false) S7 := u7
  have h7 : Hall S7 T.length (T.length + 1) (T.length + 2) ([] ++ [sd ([2, 6, 0, 8, 4].map (phi b w)) [] []]) (ntd ns6 "undo") := h7
  have mk8 := make1_ok S7 ([2, 6, 0, 8, 4].map (phi b w))
  have h8' := hall_new S7 ([2, 6, 0, 8, 4].map (phi b w)) [] []
  obtain ⟨C, hC⟩ : ∃ C, C = S7 ++ [[.lst (S7.length + 1), .lst (S7.length + 2)], [sd ([2, 6, 0, 8, 4].map (phi b w)) [] []], []] := ⟨_, rfl⟩
  rw [← hC] at mk8 h8'
  have h7C : Hall C T.length (T.length + 1) (T.length + 2) ([] ++ [sd ([2, 6, 0, 8, 4].map (phi b w)) [] []]) (ntd ns6 "undo") := by rw [hC]; exact h7.app _
  have q8 := v_eqG (ps2 := []) h7C h8'
  have q8 : g_Gallery___eq__ [.ins T.length, .ins S7.length] C = .ok (.bl true) C := by rw [q8]; simp
  have r8 := v_reprG h7C (by simp) (by simp)
  have r8 : g_Gallery___repr__ [.ins T.length] C = .ok (.str "Gallery(5 folk, 0 floors)") C := by
    have e : (([2, 6, 0, 8, 4] : List Int).map (phi b w)).length = 5 := rfl
    rw [e] at r8
    rw [← rq_txt]
    exact r8
  rw [rw1] at mk8
  have qs8 : fEqS C (.str "Gallery(5 folk, 0 floors)") (.str "Gallery(5 folk, 0 floors)") = some (.bl true) := by
    simp [fEqS]
  refine ⟨C, ?_⟩
  have a14 : RG14 (kE n (.int b) (.int w) (.int f0) (.int f2) (.int f4) (.int f6) (.int f8) T.length R x11 x12 x13) S6 = .ok (.rt (.bl true)) C := by
    have ib : ∀ U : Store, fIsB U (.bl false) (.bl false) = some (.bl true) := fun _ => rfl
    simp only [kE]
    clear hl hz f5'' f5' h5' hC h7C h8' f13 h13 h14 h7
    simp [RG14, sRet, lft, dAnd, dTst, dBin, dMeth, isIns, dNil, dVar, dC, bnd, ret, rdS, u7, ib, toB, dEqA, dMake1, dTup, mkT, szB, dCons, mk8, q8, dReprI, r8, qs8]
  show fnR (d_law_right [some (.lst n), none, none, none, none, none, none, none, none, none, none, none, none, none] S) = _
  rw [RG_is, sSeq, a1]
  show fnR (sSeq _ _ _ _) = _
  rw [sSeq, a2]
  show fnR (sSeq _ _ _ _) = _
  rw [sSeq, a3]
  have e3 : ∀ (A B C : DS) (ρ : En) (S : Store), sSeq A (sSeq B C) ρ S = sSeq (sSeq A B) C ρ S := fun A B C ρ S => by
    simp only [sSeq]
    cases A ρ S with
    | ok k T => cases k <;> rfl
    | err _ _ _ _ => rfl
    | bad => rfl
  have e4 : ∀ (A B C D E F G H : DS) (ρ : En) (S : Store), sSeq A (sSeq B (sSeq C (sSeq D (sSeq E (sSeq F (sSeq G H)))))) ρ S = sSeq (sSeq A (sSeq B (sSeq C (sSeq D (sSeq E (sSeq F G)))))) H ρ S := fun A B C D E F G H ρ S => by
    have ex : ∀ A B C : DS, sSeq A (sSeq B C) = sSeq (sSeq A B) C := fun A B C => by funext ρ S; exact e3 A B C ρ S
    rw [ex F G H, ex E _ H, ex D _ H, ex C _ H, ex B _ H, ex A _ H]
  show fnR (sSeq RG4 _ _ _) = _
  rw [e4, sSeq, a4 (ρ := []) (U := [])]
  show fnR (sSeq _ _ _ _) = _
  rw [sSeq, a11]
  show fnR (sSeq _ _ _ _) = _
  rw [sSeq, a12]
  show fnR (sSeq _ _ _ _) = _
  rw [sSeq, a13]
  show fnR (RG14 _ _) = _
  rw [a14]
  rfl
end
end Den

namespace Den
open PySem PySem.Spec PyProof.Rows L2 Bal
section
variable {S : Store}
theorem v_law (ns : List Int) (hl : ns.length ≤ 63) : ∃ S', g_law [.sc (iW ns)] S = .ok (.bl true) S' := by
  have key : ∀ (ks : List Nat) (S0 S : Store), ∃ S', lcL (.nm 1) dYes (dCall 1 g_law_right (dCons (dCall 2 g_law_pot (dCons (dVar 0) (dCons (dVar 1) dNil))) dNil)) [some (.sc (iW ns)), none] S0 [] (ks.map fun k : Nat => W.int (k : Int)) S = .ok (List.replicate ks.length (.bl true)) S' := by
    intro ks
    induction ks with
    | nil => intro S0 S; exact ⟨S, rfl⟩
    | cons k ks ih =>
      intro S0 S
      obtain ⟨p, e1, hp⟩ := v_pot (S := S) ns k
      obtain ⟨S2, e2⟩ := v_right (S := S ++ [p]) (n := S.length) (by simp) hp (by decide)
      obtain ⟨S3, e3⟩ := ih S0 S2
      exact ⟨S3, by simp [lcL, setT, dYes, ret, dCall, dCons, dNil, dVar, bnd, e1, e2, e3, kept, List.replicate_succ]⟩
  have bt : ∀ n : Nat, blT (List.replicate n (W.bl true)) = some (List.replicate n true) := fun n => by
    induction n with
    | zero => rfl
    | succ n ih => simp [List.replicate_succ, blT, ih]
  obtain ⟨m, hm, hm4⟩ : ∃ m : Nat, (if (if (ns.length : Int) < 4 then (ns.length : Int) else 4) > 1 then (if (ns.length : Int) < 4 then (ns.length : Int) else 4) else 1) = (m : Int) ∧ m ≤ 4 := by
    by_cases h1 : (ns.length : Int) < 4
    · rw [if_pos h1]
      by_cases h2 : (ns.length : Int) > 1
      · rw [if_pos h2]; exact ⟨ns.length, rfl, by omega⟩
      · rw [if_neg h2]; exact ⟨1, rfl, by omega⟩
    · rw [if_neg h1, if_pos (by decide)]; exact ⟨4, rfl, by omega⟩
  have rm : rgW 0 (m : Int) = (List.range m).map fun k : Nat => W.int (k : Int) := by simp [rgW]
  have sz : szB m = true := decide_eq_true (by omega)
  obtain ⟨S', e⟩ := key (List.range m) S S
  refine ⟨S', ?_⟩
  show fnW 2 d_law [.sc (iW ns)] S = _
  have mx : fMax2 S [.int 1, .int (if (ns.length : Int) < 4 then (ns.length : Int) else 4)] = some (.int m) := by simp only [fMax2, hm]
  have mn : fMin2 S [.int 4, .int (ns.length : Int)] = some (.int (if (ns.length : Int) < 4 then (ns.length : Int) else 4)) := rfl
  have ln : fLen S [.sc (iW ns)] = some (.int (ns.length : Nat)) := by simp [fLen, ixW]
  have ir : iRg1 (dCons (dCallN fMax2 (dCons (dC (.int 1)) (dCons (dCallN fMin2 (dCons (dC (.int 4)) (dCons (dCallN fLen (dCons (dVar 0) dNil)) dNil))) dNil))) dNil) [some (.sc (iW ns)), none] S = .ok ((List.range m).map fun k : Nat => W.int (k : Int), []) S := by
    have sm : (szB (m : Int).toNat && decide (-1000000000 ≤ (m : Int))) = true := by
      rw [Int.toNat_natCast, sz, decide_eq_true (by omega)]
      rfl
    simp only [iRg1, dCons, dNil, dCallN, dC, dVar, bnd, ret, rdS, rdI, ln, mn, mx, sm, rm, if_true, List.getElem?_cons_zero]
  have fa : fAll S' [.cl (List.replicate (List.range m).length (.bl true))] = some (.bl true) := by simp [fAll, lstS, bt]
  simp only [d_law, fnW_R]
  show fnR ((sRet _) [some (.sc (iW ns)), none] S) = _
  simp only [sRet, lft, dCallN, dCons, dNil, dLc, bnd, ret, ir, wipeW]
  show fnR _ = _
  simp only [List.set_cons_succ, List.set_cons_zero, e, newK, rdS, fa]
  rfl
end
end Den

namespace Den
open PySem PySem.Spec PyProof.Rows L2 Bal
section
variable {P : Program} {w : World} {K : PySem.W.Frag} {mg : Str → Option Value} {base : Heap}
/-! ### _law_take -/
abbrev s_law_take : Stmt := topS 41
theorem sc_law_take : FnScope ["_law_pot_here", "_law_bound", "_law_found", "_law_once"] ["_law_pot_here", "_law_bound"] (defScope s_law_take) := ⟨rfl, rfl, rfl, by decide +kernel, rfl, by decide +kernel, by decide +kernel⟩
theorem ok_law_take {f : Addr} {fd : FuncData} (F : Fun K "_law_take" "_law_take" s_law_take f fd) (bS : Binds K fd ["_law_pot_here", "_law_bound"] []) (gS : mg "_law_take" = some (.ref f))  : ∀ n : Nat, FnOk P w K mg base (L2.CX P w) (n + 1) f fd ["_law_pot_here", "_law_bound"] (spD K mg 2 (g_law_take n))
  | 0 => fn_bad F sc_law_take
  | n + 1 => by
    have ih := ok_law_take F bS gS  n
    exact fn_den (k := n + 1) F sc_law_take fun cdv A outer s H E hr => (dss_cons (ds_if (dt_cmp op_gt fCmp_ok (de_ix (ix_list.or ix_tup) fIx_ok (de_var 0) de_int) de_int) (dss_cons (ds_set 2 sc_law_take.nd (de_bin op_mod fMod_ok (de_ix (ix_list.or ix_tup) fIx_ok (de_var 0) de_int) (de_var 1))) (dss_cons (ds_asgM (de_bin op_fdiv fDiv_ok (de_ix (ix_list.or ix_tup) fIx_ok (de_var 0) de_int) (de_var 1)) (dm_put (de_var 0) de_int)) (dss_one (ds_ret (de_var 2))))) dss_nil) (dss_cons (ds_if (dt_cmp op_gt fCmp_ok (de_var 1) (de_bin op_pow fPow_ok de_int de_int)) (dss_one (ds_ret (de_bin op_mod fMod_ok (de_bin op_addW fAdd_ok (de_call ih hr (by rfl) gS F.kp bS (fun σ => passAt (W := fun cls d _ H => E cls d H) (takes_of rfl rfl rfl rfl) σ) (da_cons (de_var 0) (da_cons (de_bin op_pow fPow_ok de_int de_int) da_nil))) (de_bin (OpR.or op_mul op_rep) fMul_ok (de_bin op_pow fPow_ok de_int de_int) (de_call ih hr (by rfl) gS F.kp bS (fun σ => passAt (W := fun cls d _ H => E cls d H) (takes_of rfl rfl rfl rfl) σ) (da_cons (de_var 0) (da_cons (de_bin op_addW fAdd_ok (de_bin op_fdiv fDiv_ok (de_var 1) (de_bin op_pow fPow_ok de_int de_int)) de_int) da_nil))))) (de_var 1)))) dss_nil) (dss_cons (ds_asgM (de_bin op_addW fAdd_ok (de_ix (ix_list.or ix_tup) fIx_ok (de_var 0) de_int) de_int) (dm_put (de_var 0) de_int)) (dss_cons (ds_set 3 sc_law_take.nd (de_bin op_mod fMod_ok (de_bin op_pow fPow_ok (de_bin op_addW fAdd_ok (de_ix (ix_list.or ix_tup) fIx_ok (de_var 0) de_int) (de_bin (OpR.or op_mul op_rep) fMul_ok de_int (de_ix (ix_list.or ix_tup) fIx_ok (de_var 0) de_int))) de_int) de_int)) (dss_one (ds_ret (de_bin op_mod fMod_ok (de_bin op_fdiv fDiv_ok (de_bin op_mod fMod_ok (de_bin op_addW fAdd_ok (de_bin (OpR.or op_mul op_rep) fMul_ok (de_var 3) (de_bin op_addW fAdd_ok (de_bin op_mod fMod_ok (de_var 3) de_int) de_int)) (de_bin (OpR.or op_mul op_rep) fMul_ok (de_ix (ix_list.or ix_tup) fIx_ok (de_var 0) de_int) de_int)) de_int) de_int) (de_var 1))))))))
/-! ### Gallery.__init__ -/
abbrev s_Gallery___init__ : Stmt := inClass (topS 34) 0
theorem sc_Gallery___init__ : FnScope ["self", "row", "houses", "left", "right"] ["self", "row", "houses"] (defScope s_Gallery___init__) := ⟨rfl, rfl, rfl, by decide +kernel, rfl, by decide +kernel, by decide +kernel⟩
theorem ok_Gallery___init__ {f : Addr} {fd : FuncData} (F : Fun K "__init__" "Gallery.__init__" s_Gallery___init__ f fd) (m_tuple : mg "tuple" = none) {C_Gal : Addr} (hGal : mg "Gallery" = some (.ref C_Gal)) (TG : ClsG K mg) : FnOk P w K mg base (L2.CX P w) 1 f fd ["self", "row", "houses"] (spD K mg 3 g_Gallery___init__) :=
  fn_den (k := 0) F sc_Gallery___init__ fun cdv A outer s H E hr => (dss_cons (ds_asg (de_var 2) (dg_tp rfl (dgs_cons (dg_nm 3 sc_Gallery___init__.nd) (dgs_cons (dg_nm 4 sc_Gallery___init__.nd) dgs_nil)))) (dss_cons (ds_ifld 0 TG (by rfl) (de_var 0) (de_lst (da_cons (de_tup (da_cons (de_callTy call_tupN fTuple_ok (by rfl) m_tuple (by decide +kernel) (da_cons (de_var 1) da_nil)) (da_cons (de_tup (da_cons (de_callTy call_tupN fTuple_ok (by rfl) m_tuple (by decide +kernel) (da_cons (de_var 3) da_nil)) (da_cons (de_callTy call_tupN fTuple_ok (by rfl) m_tuple (by decide +kernel) (da_cons (de_var 4) da_nil)) da_nil))) da_nil))) da_nil))) (dss_one (ds_ifld 1 TG (by rfl) (de_var 0) (de_lst da_nil)))))
/-! ### _law_same -/
abbrev s_law_same : Stmt := topS 42
theorem sc_law_same : FnScope ["_law_found", "_law_due", "_law_lone", "_law_mate"] ["_law_found", "_law_due"] (defScope s_law_same) := ⟨rfl, rfl, rfl, by decide +kernel, rfl, by decide +kernel, by decide +kernel⟩
theorem ok_law_same {f : Addr} {fd : FuncData} (F : Fun K "_law_same" "_law_same" s_law_same f fd) (bS : Binds K fd ["_law_found", "_law_due"] []) (gS : mg "_law_same" = some (.ref f)) (m_isinstance : mg "isinstance" = none) (m_list : mg "list" = none) (m_tuple : mg "tuple" = none) (m_len : mg "len" = none) (m_zip : mg "zip" = none) (m_all : mg "all" = none) (m_str : mg "str" = none) (m_int : mg "int" = none) (m_bool : mg "bool" = none) : ∀ n : Nat, FnOk P w K mg base (L2.CX P w) (n + 1) f fd ["_law_found", "_law_due"] (spD K mg 2 (g_law_same n))
  | 0 => fn_bad F sc_law_same
  | n + 1 => by
    have ih := ok_law_same F bS gS m_isinstance m_list m_tuple m_len m_zip m_all m_str m_int m_bool n
    exact fn_den (k := n + 1) F sc_law_same fun cdv A outer s H E hr => (dss_cons (ds_if (dt_val (de_isSeq (by rfl) m_isinstance (by rfl) m_list (by rfl) m_tuple (de_var 1))) (dss_cons (ds_if (pt_wordOr (dw_or (dt_cmp (op_neD hr.units) fNe_ok (de_is is_lst (by rfl) m_isinstance (by rfl) m_list (by decide +kernel) (de_var 0)) (de_is is_lst (by rfl) m_isinstance (by rfl) m_list (by decide +kernel) (de_var 1))) (dw_or1 (dt_cmp (op_neD hr.units) fNe_ok (de_is is_tup (by rfl) m_isinstance (by rfl) m_tuple (by decide +kernel) (de_var 0)) (de_is is_tup (by rfl) m_isinstance (by rfl) m_tuple (by decide +kernel) (de_var 1)))))) (dss_one (ds_ret de_bl)) dss_nil) (dss_one (ds_ret (de_and (de_cmp (op_eqD hr.units) fEq_ok (de_callB call_len_seq fLen_ok (by rfl) m_len PySem.boot_len (da_cons (de_var 0) da_nil)) (de_callB call_len_seq fLen_ok (by rfl) m_len PySem.boot_len (da_cons (de_var 1) da_nil))) (de_one (de_callB (cr_all rfl) fAll_ok (by rfl) m_all (by decide +kernel) (da_cons (by exact (de_lc (own := [("_law_lone", 2), ("_law_mate", 3)]) .cl rfl sc_law_same.nd (di_zip2 (by rfl) m_zip (da_cons (de_var 0) (da_cons (de_var 1) da_nil))) (blkOk_by (own := [("_law_lone", 2), ("_law_mate", 3)]) (N := ["_law_found", "_law_due", "_law_lone", "_law_mate"]) (sc := defScope s_law_same) (by decide +kernel)) (fun _ _ _ _ _ => (dg_tp rfl (dgs_cons (dg_nm 2 sc_law_same.nd) (dgs_cons (dg_nm 3 sc_law_same.nd) dgs_nil)))) (fun _ _ _ _ _ => dts_nil) (fun _ _ _ _ _ => (de_call ih hr (by rfl) gS F.kp bS px0 (da_cons (de_var 2) (da_cons (de_var 3) da_nil)))))) da_nil))))))) dss_nil) (dss_cons (ds_if (pt_wordOr (dw_or (dt_cmp op_isN fIs_ok (de_var 1) de_non) (dw_or1 (dt_val (de_is is_str (by rfl) m_isinstance (by rfl) m_str (by decide +kernel) (de_var 1)))))) (dss_one (ds_ret (de_and (de_cmp (op_eqD hr.units) fEq_ok (de_var 0) (de_var 1)) (de_one (de_cmp (op_eqD hr.units) fEq_ok (de_is is_str (by rfl) m_isinstance (by rfl) m_str (by decide +kernel) (de_var 0)) (de_is is_str (by rfl) m_isinstance (by rfl) m_str (by decide +kernel) (de_var 1))))))) dss_nil) (dss_one (ds_ret (de_and (de_is is_int (by rfl) m_isinstance (by rfl) m_int (by decide +kernel) (de_var 0)) (de_and (de_cmp (op_eqD hr.units) fEq_ok (de_is is_bool (by rfl) m_isinstance (by rfl) m_bool (by decide +kernel) (de_var 0)) (de_is is_bool (by rfl) m_isinstance (by rfl) m_bool (by decide +kernel) (de_var 1))) (de_one (de_cmp (op_eqD hr.units) fEq_ok (de_var 0) (de_var 1)))))))))
/-! ### Gallery.keep -/
abbrev s_Gallery_keep : Stmt := inClass (topS 34) 8
theorem sc_Gallery_keep : FnScope ["self", "row", "houses"] ["self", "row", "houses"] (defScope s_Gallery_keep) := ⟨rfl, rfl, rfl, by decide +kernel, rfl, by decide +kernel, by decide +kernel⟩
theorem ok_Gallery_keep {f : Addr} {fd : FuncData} (F : Fun K "keep" "Gallery.keep" s_Gallery_keep f fd) {C_Gal : Addr} (hGal : mg "Gallery" = some (.ref C_Gal)) (TG : ClsG K mg) : FnOk P w K mg base (L2.CX P w) 1 f fd ["self", "row", "houses"] (spD K mg 3 g_Gallery_keep) :=
  fn_den (k := 0) F sc_Gallery_keep fun cdv A outer s H E hr => (dss_one (ds_expr (de_mth PySem.F.slot_list_append PySem.F.type_list_append mt_append fAppend_ok (de_ifld 0 TG (by rfl) (de_var 0)) (da_cons (de_tup (da_cons (de_var 1) (da_cons (de_var 2) da_nil))) da_nil))))
/-! ### refuse_no_pair -/
abbrev s_refuse_no_pair : Stmt := topS 17
theorem sc_refuse_no_pair : FnScope ["row", "place"] ["row", "place"] (defScope s_refuse_no_pair) := ⟨rfl, rfl, rfl, by decide +kernel, rfl, by decide +kernel, by decide +kernel⟩
theorem ok_refuse_no_pair {f : Addr} {fd : FuncData} (F : Fun K "refuse_no_pair" "refuse_no_pair" s_refuse_no_pair f fd) {qual_NoPlace : Str} {st_NoPlace : Stmt} {C_NoPlace fI_NoPlace : Addr} {fdI_NoPlace : FuncData} {new_NoPlace : String} {tail_NoPlace : List Value} (T_NoPlace : ErT K mg "NoPlace" "place" qual_NoPlace st_NoPlace C_NoPlace fI_NoPlace fdI_NoPlace new_NoPlace tail_NoPlace) (i_NoPlace : ∀ base : Heap, FnOk P w K mg base CX0 1 fI_NoPlace fdI_NoPlace ["self", "place"] (spInit K C_NoPlace "place")) (b_NoPlace : Binds K fdI_NoPlace ["self", "place"] []) (m_len : mg "len" = none) : FnOk P w K mg base (L2.CX P w) 3 f fd ["row", "place"] (spD K mg 2 g_refuse_no_pair) :=
  fn_den (k := 2) F sc_refuse_no_pair fun cdv A outer s H E hr => (dss_one (ds_if (dt_not (dt_chain op_le op_lt fCmp_ok fCmp_ok de_int (de_var 1) (de_bin op_sub fSub_ok (de_callB call_len_seq fLen_ok (by rfl) m_len PySem.boot_len (da_cons (de_var 0) da_nil)) de_int))) (dss_one (ds_raise rfl (takes_of rfl rfl rfl rfl) T_NoPlace (i_NoPlace _) hr b_NoPlace (by rfl) (de_var 1))) dss_nil))
/-! ### exchanged -/
abbrev s_exchanged : Stmt := topS 15
theorem sc_exchanged : FnScope ["row", "place", "heights"] ["row", "place"] (defScope s_exchanged) := ⟨rfl, rfl, rfl, by decide +kernel, rfl, by decide +kernel, by decide +kernel⟩
theorem ok_exchanged {f : Addr} {fd : FuncData} (F : Fun K "exchanged" "exchanged" s_exchanged f fd) {f_refuse_no_pair : Addr} {fd_refuse_no_pair : FuncData} (F_refuse_no_pair : Fun K "refuse_no_pair" "refuse_no_pair" s_refuse_no_pair f_refuse_no_pair fd_refuse_no_pair) (b_refuse_no_pair : Binds K fd_refuse_no_pair ["row", "place"] []) (g_m_refuse_no_pair : mg "refuse_no_pair" = some (.ref f_refuse_no_pair)) (G_refuse_no_pair : FnOk P w K mg base (L2.CX P w) 3 f_refuse_no_pair fd_refuse_no_pair ["row", "place"] (spD K mg 2 g_refuse_no_pair)) (m_list : mg "list" = none) (m_tuple : mg "tuple" = none) : FnOk P w K mg base (L2.CX P w) 4 f fd ["row", "place"] (spD K mg 2 g_exchanged) :=
  fn_den (k := 3) F sc_exchanged fun cdv A outer s H E hr => (dss_cons (ds_expr (de_call G_refuse_no_pair hr (by rfl) g_m_refuse_no_pair F_refuse_no_pair.kp b_refuse_no_pair (fun σ => passAt (W := fun cls d _ H => E cls d H) (takes_of rfl rfl rfl rfl) σ) (da_cons (de_var 0) (da_cons (de_var 1) da_nil)))) (dss_cons (ds_set 2 sc_exchanged.nd (de_callFT .st call_list1 fList_ok (by rfl) m_list (by decide +kernel) (da_cons (de_var 0) da_nil))) (dss_cons (ds_asgM (de_tup (da_cons (de_ix (ix_list.or ix_tup) fIx_ok (de_var 2) (de_bin op_addW fAdd_ok (de_var 1) de_int)) (da_cons (de_ix (ix_list.or ix_tup) fIx_ok (de_var 2) (de_var 1)) da_nil))) (dm_tp rfl (dms_cons (dm_put (de_var 2) (de_var 1)) (dms_cons (dm_put (de_var 2) (de_bin op_addW fAdd_ok (de_var 1) de_int)) dms_nil)))) (dss_one (ds_ret (de_callTy call_tupN fTuple_ok (by rfl) m_tuple (by decide +kernel) (da_cons (de_var 2) da_nil)))))))
/-! ### Gallery.row -/
abbrev s_Gallery_row : Stmt := inClass (topS 34) 9
theorem sc_Gallery_row : FnScope ["self"] ["self"] (defScope s_Gallery_row) := ⟨rfl, rfl, rfl, by decide +kernel, rfl, by decide +kernel, by decide +kernel⟩
theorem ok_Gallery_row {f : Addr} {fd : FuncData} (F : Fun K "row" "Gallery.row" s_Gallery_row f fd) {C_Gal : Addr} (hGal : mg "Gallery" = some (.ref C_Gal)) (TG : ClsG K mg) : FnOk P w K mg base (L2.CX P w) 1 f fd ["self"] (spD K mg 1 g_Gallery_row) :=
  fn_den (k := 0) F sc_Gallery_row fun cdv A outer s H E hr => (dss_one (ds_ret (de_ix (ix_list.or ix_tup) fIx_ok (de_ix (ix_list.or ix_tup) fIx_ok (de_ifld 0 TG (by rfl) (de_var 0)) (de_un un_neg fNeg_ok de_int)) de_int)))
/-! ### Gallery.houses -/
abbrev s_Gallery_houses : Stmt := inClass (topS 34) 10
theorem sc_Gallery_houses : FnScope ["self"] ["self"] (defScope s_Gallery_houses) := ⟨rfl, rfl, rfl, by decide +kernel, rfl, by decide +kernel, by decide +kernel⟩
theorem ok_Gallery_houses {f : Addr} {fd : FuncData} (F : Fun K "houses" "Gallery.houses" s_Gallery_houses f fd) {C_Gal : Addr} (hGal : mg "Gallery" = some (.ref C_Gal)) (TG : ClsG K mg) : FnOk P w K mg base (L2.CX P w) 1 f fd ["self"] (spD K mg 1 g_Gallery_houses) :=
  fn_den (k := 0) F sc_Gallery_houses fun cdv A outer s H E hr => (dss_one (ds_ret (de_ix (ix_list.or ix_tup) fIx_ok (de_ix (ix_list.or ix_tup) fIx_ok (de_ifld 0 TG (by rfl) (de_var 0)) (de_un un_neg fNeg_ok de_int)) de_int)))
/-! ### taller_among -/
abbrev s_taller_among : Stmt := topS 19
theorem sc_taller_among : FnScope ["folk", "who", "one"] ["folk", "who"] (defScope s_taller_among) := ⟨rfl, rfl, rfl, by decide +kernel, rfl, by decide +kernel, by decide +kernel⟩
theorem ok_taller_among {f : Addr} {fd : FuncData} (F : Fun K "taller_among" "taller_among" s_taller_among f fd) (m_len : mg "len" = none) : FnOk P w K mg base (L2.CX P w) 1 f fd ["folk", "who"] (spD K mg 2 g_taller_among) :=
  fn_den (k := 0) F sc_taller_among fun cdv A outer s H E hr => (dss_one (ds_ret (de_callB call_len_seq fLen_ok (by rfl) m_len PySem.boot_len (da_cons (by exact (de_lc (own := [("one", 2)]) .cl rfl sc_taller_among.nd (di_seq (de_var 0)) (blkOk_by (own := [("one", 2)]) (N := ["folk", "who", "one"]) (sc := defScope s_taller_among) (by decide +kernel)) (fun _ _ _ _ _ => (dg_nm 2 sc_taller_among.nd)) (fun _ _ _ _ _ => (dts_one (dt_cmp op_gt fCmp_ok (de_var 2) (de_var 1)))) (fun _ _ _ _ _ => (de_var 2)))) da_nil))))
/-! ### tellers -/
abbrev s_tellers : Stmt := topS 26
theorem sc_tellers : FnScope ["row", "place", "lesser", "ahead", "behind"] ["row", "place"] (defScope s_tellers) := ⟨rfl, rfl, rfl, by decide +kernel, rfl, by decide +kernel, by decide +kernel⟩
theorem ok_tellers {f : Addr} {fd : FuncData} (F : Fun K "tellers" "tellers" s_tellers f fd) {f_taller_among : Addr} {fd_taller_among : FuncData} (F_taller_among : Fun K "taller_among" "taller_among" s_taller_among f_taller_among fd_taller_among) (b_taller_among : Binds K fd_taller_among ["folk", "who"] []) (g_m_taller_among : mg "taller_among" = some (.ref f_taller_among)) (G_taller_among : FnOk P w K mg base (L2.CX P w) 1 f_taller_among fd_taller_among ["folk", "who"] (spD K mg 2 g_taller_among)) (m_min : mg "min" = none) : FnOk P w K mg base (L2.CX P w) 2 f fd ["row", "place"] (spD K mg 2 g_tellers) :=
  fn_den (k := 1) F sc_tellers fun cdv A outer s H E hr => (dss_cons (ds_set 2 sc_tellers.nd (de_callB (call_min2 rfl) fMin2_ok (by rfl) m_min (by decide +kernel) (da_cons (de_ix (ix_list.or ix_tup) fIx_ok (de_var 0) (de_var 1)) (da_cons (de_ix (ix_list.or ix_tup) fIx_ok (de_var 0) (de_bin op_addW fAdd_ok (de_var 1) de_int)) da_nil)))) (dss_cons (ds_set 3 sc_tellers.nd (de_call G_taller_among hr (by rfl) g_m_taller_among F_taller_among.kp b_taller_among (fun σ => passAt (W := fun cls d _ H => E cls d H) (takes_of rfl rfl rfl rfl) σ) (da_cons (de_cut .cl (de_var 0) do_none (do_some (de_var 1))) (da_cons (de_var 2) da_nil)))) (dss_cons (ds_set 4 sc_tellers.nd (de_call G_taller_among hr (by rfl) g_m_taller_among F_taller_among.kp b_taller_among (fun σ => passAt (W := fun cls d _ H => E cls d H) (takes_of rfl rfl rfl rfl) σ) (da_cons (de_cut .cl (de_var 0) (do_some (de_bin op_addW fAdd_ok (de_var 1) de_int)) do_none) (da_cons (de_var 2) da_nil)))) (dss_one (ds_ret (de_tup (da_cons (de_bin op_addW fAdd_ok (de_var 3) de_int) (da_cons (de_bin op_addW fAdd_ok (de_var 4) de_int) da_nil))))))))
/-! ### told_by -/
abbrev s_told_by : Stmt := topS 23
theorem sc_told_by : FnScope ["row", "houses", "place", "side", "floors", "floor"] ["row", "houses", "place"] (defScope s_told_by) := ⟨rfl, rfl, rfl, by decide +kernel, rfl, by decide +kernel, by decide +kernel⟩
theorem ok_told_by {f : Addr} {fd : FuncData} (F : Fun K "told_by" "told_by" s_told_by f fd) {f_refuse_no_pair : Addr} {fd_refuse_no_pair : FuncData} (F_refuse_no_pair : Fun K "refuse_no_pair" "refuse_no_pair" s_refuse_no_pair f_refuse_no_pair fd_refuse_no_pair) (b_refuse_no_pair : Binds K fd_refuse_no_pair ["row", "place"] []) (g_m_refuse_no_pair : mg "refuse_no_pair" = some (.ref f_refuse_no_pair)) (G_refuse_no_pair : FnOk P w K mg base (L2.CX P w) 3 f_refuse_no_pair fd_refuse_no_pair ["row", "place"] (spD K mg 2 g_refuse_no_pair)) {f_tellers : Addr} {fd_tellers : FuncData} (F_tellers : Fun K "tellers" "tellers" s_tellers f_tellers fd_tellers) (b_tellers : Binds K fd_tellers ["row", "place"] []) (g_m_tellers : mg "tellers" = some (.ref f_tellers)) (G_tellers : FnOk P w K mg base (L2.CX P w) 3 f_tellers fd_tellers ["row", "place"] (spD K mg 2 g_tellers)) {u_SIDES : Value} {v_SIDES : V} (h_SIDES : mg "SIDES" = some u_SIDES) (rr_SIDES : RelV v_SIDES u_SIDES) (r_SIDES : ∀ δ H μ, Rp ⟨K, mg, δ⟩ H μ v_SIDES c_SIDES) (m_zip : mg "zip" = none) : FnOk P w K mg base (L2.CX P w) 4 f fd ["row", "houses", "place"] (spD K mg 3 g_told_by) :=
  fn_den (k := 3) F sc_told_by fun cdv A outer s H E hr => (dss_cons (ds_expr (de_call G_refuse_no_pair hr (by rfl) g_m_refuse_no_pair F_refuse_no_pair.kp b_refuse_no_pair (fun σ => passAt (W := fun cls d _ H => E cls d H) (takes_of rfl rfl rfl rfl) σ) (da_cons (de_var 0) (da_cons (de_var 2) da_nil)))) (dss_one (ds_ret (by exact (de_lc (own := [("side", 3), ("floors", 4), ("floor", 5)]) .st rfl sc_told_by.nd (di_zip3 (by rfl) m_zip (da_cons (de_glob (by rfl) h_SIDES rr_SIDES r_SIDES) (da_cons (de_var 1) (da_cons (de_call G_tellers hr (by rfl) g_m_tellers F_tellers.kp b_tellers (fun σ => passAt (W := fun cls d _ H => E cls d H) (takes_of rfl rfl rfl rfl) σ) (da_cons (de_var 0) (da_cons (de_var 2) da_nil))) da_nil)))) (blkOk_by (own := [("side", 3), ("floors", 4), ("floor", 5)]) (N := ["row", "houses", "place", "side", "floors", "floor"]) (sc := defScope s_told_by) (by decide +kernel)) (fun _ _ _ _ _ => (dg_tp rfl (dgs_cons (dg_nm 3 sc_told_by.nd) (dgs_cons (dg_nm 4 sc_told_by.nd) (dgs_cons (dg_nm 5 sc_told_by.nd) dgs_nil))))) (fun _ _ _ _ _ => (dts_one (dt_cmp (OpR.or op_in_seq (op_inD (un65 hr))) fIn_ok (de_var 5) (de_var 4)))) (fun _ _ _ _ _ => (de_tup (da_cons (de_var 3) (da_cons (de_var 5) da_nil)))))))))
/-! ### Gallery.change -/
abbrev s_Gallery_change : Stmt := inClass (topS 34) 1
theorem sc_Gallery_change : FnScope ["self", "place", "told"] ["self", "place"] (defScope s_Gallery_change) := ⟨rfl, rfl, rfl, by decide +kernel, rfl, by decide +kernel, by decide +kernel⟩
theorem ok_Gallery_change {f : Addr} {fd : FuncData} (F : Fun K "change" "Gallery.change" s_Gallery_change f fd) {f_Gallery_keep : Addr} {fd_Gallery_keep : FuncData} (F_Gallery_keep : Fun K "keep" "Gallery.keep" s_Gallery_keep f_Gallery_keep fd_Gallery_keep) (b_Gallery_keep : Binds K fd_Gallery_keep ["self", "row", "houses"] []) (me_Gallery_keep : MethG K mg "keep" f_Gallery_keep) (G_Gallery_keep : FnOk P w K mg base (L2.CX P w) 4 f_Gallery_keep fd_Gallery_keep ["self", "row", "houses"] (spD K mg 3 g_Gallery_keep)) {f_exchanged : Addr} {fd_exchanged : FuncData} (F_exchanged : Fun K "exchanged" "exchanged" s_exchanged f_exchanged fd_exchanged) (b_exchanged : Binds K fd_exchanged ["row", "place"] []) (g_m_exchanged : mg "exchanged" = some (.ref f_exchanged)) (G_exchanged : FnOk P w K mg base (L2.CX P w) 4 f_exchanged fd_exchanged ["row", "place"] (spD K mg 2 g_exchanged)) {f_Gallery_row : Addr} {fd_Gallery_row : FuncData} (F_Gallery_row : Fun K "row" "Gallery.row" s_Gallery_row f_Gallery_row fd_Gallery_row) (b_Gallery_row : Binds K fd_Gallery_row ["self"] []) (me_Gallery_row : MethG K mg "row" f_Gallery_row) (G_Gallery_row : FnOk P w K mg base (L2.CX P w) 4 f_Gallery_row fd_Gallery_row ["self"] (spD K mg 1 g_Gallery_row)) {f_Gallery_houses : Addr} {fd_Gallery_houses : FuncData} (F_Gallery_houses : Fun K "houses" "Gallery.houses" s_Gallery_houses f_Gallery_houses fd_Gallery_houses) (b_Gallery_houses : Binds K fd_Gallery_houses ["self"] []) (me_Gallery_houses : MethG K mg "houses" f_Gallery_houses) (G_Gallery_houses : FnOk P w K mg base (L2.CX P w) 4 f_Gallery_houses fd_Gallery_houses ["self"] (spD K mg 1 g_Gallery_houses)) {f_told_by : Addr} {fd_told_by : FuncData} (F_told_by : Fun K "told_by" "told_by" s_told_by f_told_by fd_told_by) (b_told_by : Binds K fd_told_by ["row", "houses", "place"] []) (g_m_told_by : mg "told_by" = some (.ref f_told_by)) (G_told_by : FnOk P w K mg base (L2.CX P w) 4 f_told_by fd_told_by ["row", "houses", "place"] (spD K mg 3 g_told_by)) {C_Gal : Addr} (hGal : mg "Gallery" = some (.ref C_Gal)) (TG : ClsG K mg) : FnOk P w K mg base (L2.CX P w) 5 f fd ["self", "place"] (spD K mg 2 g_Gallery_change) :=
  fn_den (k := 4) F sc_Gallery_change fun cdv A outer s H E hr => (dss_cons (ds_expr (de_mth PySem.F.slot_list_append PySem.F.type_list_append mt_append fAppend_ok (de_ifld 1 TG (by rfl) (de_var 0)) (da_cons (de_tup (da_cons de_str (da_cons de_str da_nil))) da_nil))) (dss_one (ds_finR rfl rfl rfl (takes_of rfl rfl rfl rfl) (fun W pn xe tk ho => (drs_cons (ds_set 2 sc_Gallery_change.nd (de_call G_told_by hr (by rfl) g_m_told_by F_told_by.kp b_told_by (fun σ => passAt tk σ) (da_cons (de_meth0 hGal TG me_Gallery_row (by decide) G_Gallery_row hr b_Gallery_row (fun σ => passAt tk σ) (de_var 0)) (da_cons (de_meth0 hGal TG me_Gallery_houses (by decide) G_Gallery_houses hr b_Gallery_houses (fun σ => passAt tk σ) (de_var 0)) (da_cons (de_var 1) da_nil))))) (drs_cons (ds_expr (de_meth hGal TG me_Gallery_keep (by decide) G_Gallery_keep hr b_Gallery_keep (fun σ => passAt tk σ) (de_var 0) (da_cons (de_call G_exchanged hr (by rfl) g_m_exchanged F_exchanged.kp b_exchanged (fun σ => passAt tk σ) (da_cons (de_meth0 hGal TG me_Gallery_row (by decide) G_Gallery_row hr b_Gallery_row (fun σ => passAt tk σ) (de_var 0)) (da_cons (de_var 1) da_nil))) (da_cons (de_meth0 hGal TG me_Gallery_houses (by decide) G_Gallery_houses hr b_Gallery_houses (fun σ => passAt tk σ) (de_var 0)) da_nil)))) (drs_ret (de_var 2))))) (dss_one (ds_expr (de_mth PySem.F.slot_list_append PySem.F.type_list_append mt_append fAppend_ok (de_ifld 1 TG (by rfl) (de_var 0)) (da_cons (de_tup (da_cons de_str (da_cons de_str da_nil))) da_nil)))) (fun a pn => (dss_one (ds_expr (de_mth PySem.F.slot_list_append PySem.F.type_list_append mt_append fAppend_ok (de_ifld 1 TG (by rfl) (de_var 0)) (da_cons (de_tup (da_cons de_str (da_cons de_str da_nil))) da_nil))))))))
/-! ### refuse_known -/
abbrev s_refuse_known : Stmt := topS 32
theorem sc_refuse_known : FnScope ["row", "who"] ["row", "who"] (defScope s_refuse_known) := ⟨rfl, rfl, rfl, by decide +kernel, rfl, by decide +kernel, by decide +kernel⟩
theorem ok_refuse_known {f : Addr} {fd : FuncData} (F : Fun K "refuse_known" "refuse_known" s_refuse_known f fd) {qual_Known : Str} {st_Known : Stmt} {C_Known fI_Known : Addr} {fdI_Known : FuncData} {new_Known : String} {tail_Known : List Value} (T_Known : ErT K mg "Known" "who" qual_Known st_Known C_Known fI_Known fdI_Known new_Known tail_Known) (i_Known : ∀ base : Heap, FnOk P w K mg base CX0 1 fI_Known fdI_Known ["self", "who"] (spInit K C_Known "who")) (b_Known : Binds K fdI_Known ["self", "who"] []) : FnOk P w K mg base (L2.CX P w) 3 f fd ["row", "who"] (spD K mg 2 g_refuse_known) :=
  fn_den (k := 2) F sc_refuse_known fun cdv A outer s H E hr => (dss_one (ds_if (dt_cmp (OpR.or op_in_seq (op_inD (un65 hr))) fIn_ok (de_var 1) (de_var 0)) (dss_one (ds_raise rfl (takes_of rfl rfl rfl rfl) T_Known (i_Known _) hr b_Known (by rfl) (de_var 1))) dss_nil))
/-! ### with_newcomer -/
abbrev s_with_newcomer : Stmt := topS 31
theorem sc_with_newcomer : FnScope ["row", "who", "place", "heights"] ["row", "who", "place"] (defScope s_with_newcomer) := ⟨rfl, rfl, rfl, by decide +kernel, rfl, by decide +kernel, by decide +kernel⟩
theorem ok_with_newcomer {f : Addr} {fd : FuncData} (F : Fun K "with_newcomer" "with_newcomer" s_with_newcomer f fd) {f_refuse_known : Addr} {fd_refuse_known : FuncData} (F_refuse_known : Fun K "refuse_known" "refuse_known" s_refuse_known f_refuse_known fd_refuse_known) (b_refuse_known : Binds K fd_refuse_known ["row", "who"] []) (g_m_refuse_known : mg "refuse_known" = some (.ref f_refuse_known)) (G_refuse_known : FnOk P w K mg base (L2.CX P w) 3 f_refuse_known fd_refuse_known ["row", "who"] (spD K mg 2 g_refuse_known)) {qual_NoPlace : Str} {st_NoPlace : Stmt} {C_NoPlace fI_NoPlace : Addr} {fdI_NoPlace : FuncData} {new_NoPlace : String} {tail_NoPlace : List Value} (T_NoPlace : ErT K mg "NoPlace" "place" qual_NoPlace st_NoPlace C_NoPlace fI_NoPlace fdI_NoPlace new_NoPlace tail_NoPlace) (i_NoPlace : ∀ base : Heap, FnOk P w K mg base CX0 2 fI_NoPlace fdI_NoPlace ["self", "place"] (spInit K C_NoPlace "place")) (b_NoPlace : Binds K fdI_NoPlace ["self", "place"] []) (m_len : mg "len" = none) (m_list : mg "list" = none) (m_tuple : mg "tuple" = none) : FnOk P w K mg base (L2.CX P w) 4 f fd ["row", "who", "place"] (spD K mg 3 g_with_newcomer) :=
  fn_den (k := 3) F sc_with_newcomer fun cdv A outer s H E hr => (dss_cons (ds_expr (de_call G_refuse_known hr (by rfl) g_m_refuse_known F_refuse_known.kp b_refuse_known (fun σ => passAt (W := fun cls d _ H => E cls d H) (takes_of rfl rfl rfl rfl) σ) (da_cons (de_var 0) (da_cons (de_var 1) da_nil)))) (dss_cons (ds_if (dt_not (dt_chain op_le op_le fCmp_ok fCmp_ok de_int (de_var 2) (de_callB call_len_seq fLen_ok (by rfl) m_len PySem.boot_len (da_cons (de_var 0) da_nil)))) (dss_one (ds_raise rfl (takes_of rfl rfl rfl rfl) T_NoPlace (i_NoPlace _) hr b_NoPlace (by rfl) (de_var 2))) dss_nil) (dss_cons (ds_set 3 sc_with_newcomer.nd (de_callFT .st call_list1 fList_ok (by rfl) m_list (by decide +kernel) (da_cons (de_var 0) da_nil))) (dss_cons (ds_expr (de_mth PySem.F.slot_list_insert PySem.F.type_list_insert mt_insert fInsert_ok (de_var 3) (da_cons (de_var 2) (da_cons (de_var 1) da_nil)))) (dss_one (ds_ret (de_callTy call_tupN fTuple_ok (by rfl) m_tuple (by decide +kernel) (da_cons (de_var 3) da_nil))))))))
/-! ### floors_above -/
abbrev s_floors_above : Stmt := topS 27
theorem sc_floors_above : FnScope ["floors", "taller", "floor"] ["floors", "taller"] (defScope s_floors_above) := ⟨rfl, rfl, rfl, by decide +kernel, rfl, by decide +kernel, by decide +kernel⟩
theorem ok_floors_above {f : Addr} {fd : FuncData} (F : Fun K "floors_above" "floors_above" s_floors_above f fd) (m_len : mg "len" = none) : FnOk P w K mg base (L2.CX P w) 1 f fd ["floors", "taller"] (spD K mg 2 g_floors_above) :=
  fn_den (k := 0) F sc_floors_above fun cdv A outer s H E hr => (dss_one (ds_ret (de_callB call_len_seq fLen_ok (by rfl) m_len PySem.boot_len (da_cons (by exact (de_lc (own := [("floor", 2)]) .cl rfl sc_floors_above.nd (di_seq (de_var 0)) (blkOk_by (own := [("floor", 2)]) (N := ["floors", "taller", "floor"]) (sc := defScope s_floors_above) (by decide +kernel)) (fun _ _ _ _ _ => (dg_nm 2 sc_floors_above.nd)) (fun _ _ _ _ _ => (dts_one (dt_cmp op_lt fCmp_ok (de_var 1) (de_var 2)))) (fun _ _ _ _ _ => (de_var 2)))) da_nil))))
/-! ### place_of -/
abbrev s_place_of : Stmt := topS 16
theorem sc_place_of : FnScope ["row", "who"] ["row", "who"] (defScope s_place_of) := ⟨rfl, rfl, rfl, by decide +kernel, rfl, by decide +kernel, by decide +kernel⟩
theorem ok_place_of {f : Addr} {fd : FuncData} (F : Fun K "place_of" "place_of" s_place_of f fd) {qual_NoOne : Str} {st_NoOne : Stmt} {C_NoOne fI_NoOne : Addr} {fdI_NoOne : FuncData} {new_NoOne : String} {tail_NoOne : List Value} (T_NoOne : ErT K mg "NoOne" "who" qual_NoOne st_NoOne C_NoOne fI_NoOne fdI_NoOne new_NoOne tail_NoOne) (i_NoOne : ∀ base : Heap, FnOk P w K mg base CX0 1 fI_NoOne fdI_NoOne ["self", "who"] (spInit K C_NoOne "who")) (b_NoOne : Binds K fdI_NoOne ["self", "who"] []) : FnOk P w K mg base (L2.CX P w) 3 f fd ["row", "who"] (spD K mg 2 g_place_of) :=
  fn_den (k := 2) F sc_place_of fun cdv A outer s H E hr => (dss_cons (ds_if (dt_cmp (OpR.or op_notIn_seq (op_notInD (un65 hr))) fNotIn_ok (de_var 1) (de_var 0)) (dss_one (ds_raise rfl (takes_of rfl rfl rfl rfl) T_NoOne (i_NoOne _) hr b_NoOne (by rfl) (de_var 1))) dss_nil) (dss_one (ds_ret (de_idx (de_var 0) (de_var 1)))))
/-! ### taller_ahead -/
abbrev s_taller_ahead : Stmt := topS 12
theorem sc_taller_ahead : FnScope ["row", "who"] ["row", "who"] (defScope s_taller_ahead) := ⟨rfl, rfl, rfl, by decide +kernel, rfl, by decide +kernel, by decide +kernel⟩
theorem ok_taller_ahead {f : Addr} {fd : FuncData} (F : Fun K "taller_ahead" "taller_ahead" s_taller_ahead f fd) {f_taller_among : Addr} {fd_taller_among : FuncData} (F_taller_among : Fun K "taller_among" "taller_among" s_taller_among f_taller_among fd_taller_among) (b_taller_among : Binds K fd_taller_among ["folk", "who"] []) (g_m_taller_among : mg "taller_among" = some (.ref f_taller_among)) (G_taller_among : FnOk P w K mg base (L2.CX P w) 3 f_taller_among fd_taller_among ["folk", "who"] (spD K mg 2 g_taller_among)) {f_place_of : Addr} {fd_place_of : FuncData} (F_place_of : Fun K "place_of" "place_of" s_place_of f_place_of fd_place_of) (b_place_of : Binds K fd_place_of ["row", "who"] []) (g_m_place_of : mg "place_of" = some (.ref f_place_of)) (G_place_of : FnOk P w K mg base (L2.CX P w) 3 f_place_of fd_place_of ["row", "who"] (spD K mg 2 g_place_of)) : FnOk P w K mg base (L2.CX P w) 4 f fd ["row", "who"] (spD K mg 2 g_taller_ahead) :=
  fn_den (k := 3) F sc_taller_ahead fun cdv A outer s H E hr => (dss_one (ds_ret (de_call G_taller_among hr (by rfl) g_m_taller_among F_taller_among.kp b_taller_among (fun σ => passAt (W := fun cls d _ H => E cls d H) (takes_of rfl rfl rfl rfl) σ) (da_cons (de_cut .cl (de_var 0) do_none (do_some (de_call G_place_of hr (by rfl) g_m_place_of F_place_of.kp b_place_of (fun σ => passAt (W := fun cls d _ H => E cls d H) (takes_of rfl rfl rfl rfl) σ) (da_cons (de_var 0) (da_cons (de_var 1) da_nil))))) (da_cons (de_var 1) da_nil)))))
/-! ### taller_behind -/
abbrev s_taller_behind : Stmt := topS 13
theorem sc_taller_behind : FnScope ["row", "who"] ["row", "who"] (defScope s_taller_behind) := ⟨rfl, rfl, rfl, by decide +kernel, rfl, by decide +kernel, by decide +kernel⟩
theorem ok_taller_behind {f : Addr} {fd : FuncData} (F : Fun K "taller_behind" "taller_behind" s_taller_behind f fd) {f_taller_among : Addr} {fd_taller_among : FuncData} (F_taller_among : Fun K "taller_among" "taller_among" s_taller_among f_taller_among fd_taller_among) (b_taller_among : Binds K fd_taller_among ["folk", "who"] []) (g_m_taller_among : mg "taller_among" = some (.ref f_taller_among)) (G_taller_among : FnOk P w K mg base (L2.CX P w) 3 f_taller_among fd_taller_among ["folk", "who"] (spD K mg 2 g_taller_among)) {f_place_of : Addr} {fd_place_of : FuncData} (F_place_of : Fun K "place_of" "place_of" s_place_of f_place_of fd_place_of) (b_place_of : Binds K fd_place_of ["row", "who"] []) (g_m_place_of : mg "place_of" = some (.ref f_place_of)) (G_place_of : FnOk P w K mg base (L2.CX P w) 3 f_place_of fd_place_of ["row", "who"] (spD K mg 2 g_place_of)) : FnOk P w K mg base (L2.CX P w) 4 f fd ["row", "who"] (spD K mg 2 g_taller_behind) :=
  fn_den (k := 3) F sc_taller_behind fun cdv A outer s H E hr => (dss_one (ds_ret (de_call G_taller_among hr (by rfl) g_m_taller_among F_taller_among.kp b_taller_among (fun σ => passAt (W := fun cls d _ H => E cls d H) (takes_of rfl rfl rfl rfl) σ) (da_cons (de_cut .cl (de_var 0) (do_some (de_call G_place_of hr (by rfl) g_m_place_of F_place_of.kp b_place_of (fun σ => passAt (W := fun cls d _ H => E cls d H) (takes_of rfl rfl rfl rfl) σ) (da_cons (de_var 0) (da_cons (de_var 1) da_nil)))) do_none) (da_cons (de_var 1) da_nil)))))
/-! ### seen_by -/
abbrev s_seen_by : Stmt := topS 22
theorem sc_seen_by : FnScope ["row", "houses", "who", "left", "right"] ["row", "houses", "who"] (defScope s_seen_by) := ⟨rfl, rfl, rfl, by decide +kernel, rfl, by decide +kernel, by decide +kernel⟩
theorem ok_seen_by {f : Addr} {fd : FuncData} (F : Fun K "seen_by" "seen_by" s_seen_by f fd) {f_floors_above : Addr} {fd_floors_above : FuncData} (F_floors_above : Fun K "floors_above" "floors_above" s_floors_above f_floors_above fd_floors_above) (b_floors_above : Binds K fd_floors_above ["floors", "taller"] []) (g_m_floors_above : mg "floors_above" = some (.ref f_floors_above)) (G_floors_above : FnOk P w K mg base (L2.CX P w) 4 f_floors_above fd_floors_above ["floors", "taller"] (spD K mg 2 g_floors_above)) {f_taller_ahead : Addr} {fd_taller_ahead : FuncData} (F_taller_ahead : Fun K "taller_ahead" "taller_ahead" s_taller_ahead f_taller_ahead fd_taller_ahead) (b_taller_ahead : Binds K fd_taller_ahead ["row", "who"] []) (g_m_taller_ahead : mg "taller_ahead" = some (.ref f_taller_ahead)) (G_taller_ahead : FnOk P w K mg base (L2.CX P w) 4 f_taller_ahead fd_taller_ahead ["row", "who"] (spD K mg 2 g_taller_ahead)) {f_taller_behind : Addr} {fd_taller_behind : FuncData} (F_taller_behind : Fun K "taller_behind" "taller_behind" s_taller_behind f_taller_behind fd_taller_behind) (b_taller_behind : Binds K fd_taller_behind ["row", "who"] []) (g_m_taller_behind : mg "taller_behind" = some (.ref f_taller_behind)) (G_taller_behind : FnOk P w K mg base (L2.CX P w) 4 f_taller_behind fd_taller_behind ["row", "who"] (spD K mg 2 g_taller_behind)) : FnOk P w K mg base (L2.CX P w) 5 f fd ["row", "houses", "who"] (spD K mg 3 g_seen_by) :=
  fn_den (k := 4) F sc_seen_by fun cdv A outer s H E hr => (dss_cons (ds_asg (de_var 1) (dg_tp rfl (dgs_cons (dg_nm 3 sc_seen_by.nd) (dgs_cons (dg_nm 4 sc_seen_by.nd) dgs_nil)))) (dss_one (ds_ret (de_tup (da_cons (de_call G_floors_above hr (by rfl) g_m_floors_above F_floors_above.kp b_floors_above (fun σ => passAt (W := fun cls d _ H => E cls d H) (takes_of rfl rfl rfl rfl) σ) (da_cons (de_var 3) (da_cons (de_call G_taller_ahead hr (by rfl) g_m_taller_ahead F_taller_ahead.kp b_taller_ahead (fun σ => passAt (W := fun cls d _ H => E cls d H) (takes_of rfl rfl rfl rfl) σ) (da_cons (de_var 0) (da_cons (de_var 2) da_nil))) da_nil))) (da_cons (de_call G_floors_above hr (by rfl) g_m_floors_above F_floors_above.kp b_floors_above (fun σ => passAt (W := fun cls d _ H => E cls d H) (takes_of rfl rfl rfl rfl) σ) (da_cons (de_var 4) (da_cons (de_call G_taller_behind hr (by rfl) g_m_taller_behind F_taller_behind.kp b_taller_behind (fun σ => passAt (W := fun cls d _ H => E cls d H) (takes_of rfl rfl rfl rfl) σ) (da_cons (de_var 0) (da_cons (de_var 2) da_nil))) da_nil))) da_nil))))))
/-! ### seen_otherwise -/
abbrev s_seen_otherwise : Stmt := topS 30
theorem sc_seen_otherwise : FnScope ["row", "houses", "who", "place", "after", "one"] ["row", "houses", "who", "place"] (defScope s_seen_otherwise) := ⟨rfl, rfl, rfl, by decide +kernel, rfl, by decide +kernel, by decide +kernel⟩
theorem ok_seen_otherwise {f : Addr} {fd : FuncData} (F : Fun K "seen_otherwise" "seen_otherwise" s_seen_otherwise f fd) {f_with_newcomer : Addr} {fd_with_newcomer : FuncData} (F_with_newcomer : Fun K "with_newcomer" "with_newcomer" s_with_newcomer f_with_newcomer fd_with_newcomer) (b_with_newcomer : Binds K fd_with_newcomer ["row", "who", "place"] []) (g_m_with_newcomer : mg "with_newcomer" = some (.ref f_with_newcomer)) (G_with_newcomer : FnOk P w K mg base (L2.CX P w) 5 f_with_newcomer fd_with_newcomer ["row", "who", "place"] (spD K mg 3 g_with_newcomer)) {f_seen_by : Addr} {fd_seen_by : FuncData} (F_seen_by : Fun K "seen_by" "seen_by" s_seen_by f_seen_by fd_seen_by) (b_seen_by : Binds K fd_seen_by ["row", "houses", "who"] []) (g_m_seen_by : mg "seen_by" = some (.ref f_seen_by)) (G_seen_by : FnOk P w K mg base (L2.CX P w) 5 f_seen_by fd_seen_by ["row", "houses", "who"] (spD K mg 3 g_seen_by)) (m_sorted : mg "sorted" = none) : FnOk P w K mg base (L2.CX P w) 6 f fd ["row", "houses", "who", "place"] (spD K mg 4 g_seen_otherwise) :=
  fn_den (k := 5) F sc_seen_otherwise fun cdv A outer s H E hr => (dss_cons (ds_set 4 sc_seen_otherwise.nd (de_call G_with_newcomer hr (by rfl) g_m_with_newcomer F_with_newcomer.kp b_with_newcomer (fun σ => passAt (W := fun cls d _ H => E cls d H) (takes_of rfl rfl rfl rfl) σ) (da_cons (de_var 0) (da_cons (de_var 2) (da_cons (de_var 3) da_nil))))) (dss_one (ds_ret (by exact (de_lc (own := [("one", 5)]) .st rfl sc_seen_otherwise.nd (di_seq (de_callFB .cl cr_srt fSorted_ok (by rfl) m_sorted (by decide +kernel) (da_cons (de_var 0) da_nil))) (blkOk_by (own := [("one", 5)]) (N := ["row", "houses", "who", "place", "after", "one"]) (sc := defScope s_seen_otherwise) (by decide +kernel)) (fun _ _ _ _ _ => (dg_nm 5 sc_seen_otherwise.nd)) (fun _ _ _ _ _ => (dts_one (dt_cmp (op_neD hr.units) fNe_ok (de_call G_seen_by hr (by rfl) g_m_seen_by F_seen_by.kp b_seen_by px0 (da_cons (de_var 0) (da_cons (de_var 1) (da_cons (de_var 5) da_nil)))) (de_call G_seen_by hr (by rfl) g_m_seen_by F_seen_by.kp b_seen_by px0 (da_cons (de_var 4) (da_cons (de_var 1) (da_cons (de_var 5) da_nil))))))) (fun _ _ _ _ _ => (de_var 5)))))))
/-! ### gone -/
abbrev s_gone : Stmt := topS 29
theorem sc_gone : FnScope ["row", "who", "one"] ["row", "who"] (defScope s_gone) := ⟨rfl, rfl, rfl, by decide +kernel, rfl, by decide +kernel, by decide +kernel⟩
theorem ok_gone {f : Addr} {fd : FuncData} (F : Fun K "gone" "gone" s_gone f fd) {qual_NoOne : Str} {st_NoOne : Stmt} {C_NoOne fI_NoOne : Addr} {fdI_NoOne : FuncData} {new_NoOne : String} {tail_NoOne : List Value} (T_NoOne : ErT K mg "NoOne" "who" qual_NoOne st_NoOne C_NoOne fI_NoOne fdI_NoOne new_NoOne tail_NoOne) (i_NoOne : ∀ base : Heap, FnOk P w K mg base CX0 1 fI_NoOne fdI_NoOne ["self", "who"] (spInit K C_NoOne "who")) (b_NoOne : Binds K fdI_NoOne ["self", "who"] []) {C0_Last : Addr} {new_Last : String} {tail_Last : List Value} (R_Last : ErR K mg "Last" C0_Last new_Last tail_Last) (m_len : mg "len" = none) (m_tuple : mg "tuple" = none) : FnOk P w K mg base (L2.CX P w) 3 f fd ["row", "who"] (spD K mg 2 g_gone) :=
  fn_den (k := 2) F sc_gone fun cdv A outer s H E hr => (dss_cons (ds_if (dt_cmp (OpR.or op_notIn_seq (op_notInD (un65 hr))) fNotIn_ok (de_var 1) (de_var 0)) (dss_one (ds_raise rfl (takes_of rfl rfl rfl rfl) T_NoOne (i_NoOne _) hr b_NoOne (by rfl) (de_var 1))) dss_nil) (dss_cons (ds_if (dt_cmp (op_eqD hr.units) fEq_ok (de_callB call_len_seq fLen_ok (by rfl) m_len PySem.boot_len (da_cons (de_var 0) da_nil)) de_int) (dss_one (ds_raise0 rfl (takes_of rfl rfl rfl rfl) R_Last (by rfl))) dss_nil) (dss_one (ds_ret (de_callTy call_tupN fTuple_ok (by rfl) m_tuple (by decide +kernel) (da_cons (by exact (de_lc (own := [("one", 2)]) .cl rfl sc_gone.nd (di_seq (de_var 0)) (blkOk_by (own := [("one", 2)]) (N := ["row", "who", "one"]) (sc := defScope s_gone) (by decide +kernel)) (fun _ _ _ _ _ => (dg_nm 2 sc_gone.nd)) (fun _ _ _ _ _ => (dts_one (dt_cmp (op_neD hr.units) fNe_ok (de_var 2) (de_var 1)))) (fun _ _ _ _ _ => (de_var 2)))) da_nil))))))
/-! ### Gallery.go -/
abbrev s_Gallery_go : Stmt := inClass (topS 34) 3
theorem sc_Gallery_go : FnScope ["self", "who", "after", "told"] ["self", "who"] (defScope s_Gallery_go) := ⟨rfl, rfl, rfl, by decide +kernel, rfl, by decide +kernel, by decide +kernel⟩
theorem ok_Gallery_go {f : Addr} {fd : FuncData} (F : Fun K "go" "Gallery.go" s_Gallery_go f fd) {f_Gallery_keep : Addr} {fd_Gallery_keep : FuncData} (F_Gallery_keep : Fun K "keep" "Gallery.keep" s_Gallery_keep f_Gallery_keep fd_Gallery_keep) (b_Gallery_keep : Binds K fd_Gallery_keep ["self", "row", "houses"] []) (me_Gallery_keep : MethG K mg "keep" f_Gallery_keep) (G_Gallery_keep : FnOk P w K mg base (L2.CX P w) 6 f_Gallery_keep fd_Gallery_keep ["self", "row", "houses"] (spD K mg 3 g_Gallery_keep)) {f_Gallery_houses : Addr} {fd_Gallery_houses : FuncData} (F_Gallery_houses : Fun K "houses" "Gallery.houses" s_Gallery_houses f_Gallery_houses fd_Gallery_houses) (b_Gallery_houses : Binds K fd_Gallery_houses ["self"] []) (me_Gallery_houses : MethG K mg "houses" f_Gallery_houses) (G_Gallery_houses : FnOk P w K mg base (L2.CX P w) 6 f_Gallery_houses fd_Gallery_houses ["self"] (spD K mg 1 g_Gallery_houses)) {f_seen_otherwise : Addr} {fd_seen_otherwise : FuncData} (F_seen_otherwise : Fun K "seen_otherwise" "seen_otherwise" s_seen_otherwise f_seen_otherwise fd_seen_otherwise) (g_m_seen_otherwise : mg "seen_otherwise" = some (.ref f_seen_otherwise)) (G_seen_otherwise : FnOk P w K mg base (L2.CX P w) 6 f_seen_otherwise fd_seen_otherwise ["row", "houses", "who", "place"] (spD K mg 4 g_seen_otherwise)) {f_Gallery_row : Addr} {fd_Gallery_row : FuncData} (F_Gallery_row : Fun K "row" "Gallery.row" s_Gallery_row f_Gallery_row fd_Gallery_row) (b_Gallery_row : Binds K fd_Gallery_row ["self"] []) (me_Gallery_row : MethG K mg "row" f_Gallery_row) (G_Gallery_row : FnOk P w K mg base (L2.CX P w) 6 f_Gallery_row fd_Gallery_row ["self"] (spD K mg 1 g_Gallery_row)) {f_gone : Addr} {fd_gone : FuncData} (F_gone : Fun K "gone" "gone" s_gone f_gone fd_gone) (b_gone : Binds K fd_gone ["row", "who"] []) (g_m_gone : mg "gone" = some (.ref f_gone)) (G_gone : FnOk P w K mg base (L2.CX P w) 6 f_gone fd_gone ["row", "who"] (spD K mg 2 g_gone)) (km_seen_otherwise_place : KBn K fd_seen_otherwise ["row", "houses", "who", "place"] 3 ["place"] (fun us ws => gp [0, 1, 2, 3] (us ++ ws)) (fun us ws => gp [0, 1, 2, 3] (us ++ ws))) {C_Gal : Addr} (hGal : mg "Gallery" = some (.ref C_Gal)) (TG : ClsG K mg) : FnOk P w K mg base (L2.CX P w) 7 f fd ["self", "who"] (spD K mg 2 g_Gallery_go) :=
  fn_den (k := 6) F sc_Gallery_go fun cdv A outer s H E hr => (dss_cons (ds_expr (de_mth PySem.F.slot_list_append PySem.F.type_list_append mt_append fAppend_ok (de_ifld 1 TG (by rfl) (de_var 0)) (da_cons (de_tup (da_cons de_str (da_cons de_str da_nil))) da_nil))) (dss_one (ds_finR rfl rfl rfl (takes_of rfl rfl rfl rfl) (fun W pn xe tk ho => (drs_cons (ds_set 2 sc_Gallery_go.nd (de_call G_gone hr (by rfl) g_m_gone F_gone.kp b_gone (fun σ => passAt tk σ) (da_cons (de_meth0 hGal TG me_Gallery_row (by decide) G_Gallery_row hr b_Gallery_row (fun σ => passAt tk σ) (de_var 0)) (da_cons (de_var 1) da_nil)))) (drs_cons (ds_set 3 sc_Gallery_go.nd (de_callM (n := 3) (ks := ["place"]) (π := [0, 1, 2, 3]) G_seen_otherwise hr (by rfl) g_m_seen_otherwise F_seen_otherwise.kp km_seen_otherwise_place (fun σ => passAt tk σ) (da_cons (de_var 2) (da_cons (de_meth0 hGal TG me_Gallery_houses (by decide) G_Gallery_houses hr b_Gallery_houses (fun σ => passAt tk σ) (de_var 0)) (da_cons (de_var 1) da_nil))) (dk_cons (de_idx (de_meth0 hGal TG me_Gallery_row (by decide) G_Gallery_row hr b_Gallery_row (fun σ => passAt tk σ) (de_var 0)) (de_var 1)) dk_nil))) (drs_cons (ds_expr (de_meth hGal TG me_Gallery_keep (by decide) G_Gallery_keep hr b_Gallery_keep (fun σ => passAt tk σ) (de_var 0) (da_cons (de_var 2) (da_cons (de_meth0 hGal TG me_Gallery_houses (by decide) G_Gallery_houses hr b_Gallery_houses (fun σ => passAt tk σ) (de_var 0)) da_nil)))) (drs_ret (de_var 3)))))) (dss_one (ds_expr (de_mth PySem.F.slot_list_append PySem.F.type_list_append mt_append fAppend_ok (de_ifld 1 TG (by rfl) (de_var 0)) (da_cons (de_tup (da_cons de_str (da_cons de_str da_nil))) da_nil)))) (fun a pn => (dss_one (ds_expr (de_mth PySem.F.slot_list_append PySem.F.type_list_append mt_append fAppend_ok (de_ifld 1 TG (by rfl) (de_var 0)) (da_cons (de_tup (da_cons de_str (da_cons de_str da_nil))) da_nil))))))))
/-! ### Gallery.sneak -/
abbrev s_Gallery_sneak : Stmt := inClass (topS 34) 6
theorem sc_Gallery_sneak : FnScope ["self", "places", "row", "place"] ["self", "places"] (defScope s_Gallery_sneak) := ⟨rfl, rfl, rfl, by decide +kernel, rfl, by decide +kernel, by decide +kernel⟩
theorem ok_Gallery_sneak {f : Addr} {fd : FuncData} (F : Fun K "sneak" "Gallery.sneak" s_Gallery_sneak f fd) {f_Gallery_row : Addr} {fd_Gallery_row : FuncData} (F_Gallery_row : Fun K "row" "Gallery.row" s_Gallery_row f_Gallery_row fd_Gallery_row) (b_Gallery_row : Binds K fd_Gallery_row ["self"] []) (me_Gallery_row : MethG K mg "row" f_Gallery_row) (G_Gallery_row : FnOk P w K mg base (L2.CX P w) 4 f_Gallery_row fd_Gallery_row ["self"] (spD K mg 1 g_Gallery_row)) {f_told_by : Addr} {fd_told_by : FuncData} (F_told_by : Fun K "told_by" "told_by" s_told_by f_told_by fd_told_by) (b_told_by : Binds K fd_told_by ["row", "houses", "place"] []) (g_m_told_by : mg "told_by" = some (.ref f_told_by)) (G_told_by : FnOk P w K mg base (L2.CX P w) 4 f_told_by fd_told_by ["row", "houses", "place"] (spD K mg 3 g_told_by)) {f_Gallery_houses : Addr} {fd_Gallery_houses : FuncData} (F_Gallery_houses : Fun K "houses" "Gallery.houses" s_Gallery_houses f_Gallery_houses fd_Gallery_houses) (b_Gallery_houses : Binds K fd_Gallery_houses ["self"] []) (me_Gallery_houses : MethG K mg "houses" f_Gallery_houses) (G_Gallery_houses : FnOk P w K mg base (L2.CX P w) 4 f_Gallery_houses fd_Gallery_houses ["self"] (spD K mg 1 g_Gallery_houses)) {f_exchanged : Addr} {fd_exchanged : FuncData} (F_exchanged : Fun K "exchanged" "exchanged" s_exchanged f_exchanged fd_exchanged) (b_exchanged : Binds K fd_exchanged ["row", "place"] []) (g_m_exchanged : mg "exchanged" = some (.ref f_exchanged)) (G_exchanged : FnOk P w K mg base (L2.CX P w) 4 f_exchanged fd_exchanged ["row", "place"] (spD K mg 2 g_exchanged)) {f_Gallery_keep : Addr} {fd_Gallery_keep : FuncData} (F_Gallery_keep : Fun K "keep" "Gallery.keep" s_Gallery_keep f_Gallery_keep fd_Gallery_keep) (b_Gallery_keep : Binds K fd_Gallery_keep ["self", "row", "houses"] []) (me_Gallery_keep : MethG K mg "keep" f_Gallery_keep) (G_Gallery_keep : FnOk P w K mg base (L2.CX P w) 4 f_Gallery_keep fd_Gallery_keep ["self", "row", "houses"] (spD K mg 3 g_Gallery_keep)) {qual_Seen : Str} {st_Seen : Stmt} {C_Seen fI_Seen : Addr} {fdI_Seen : FuncData} {new_Seen : String} {tail_Seen : List Value} (T_Seen : ErT K mg "Seen" "place" qual_Seen st_Seen C_Seen fI_Seen fdI_Seen new_Seen tail_Seen) (i_Seen : ∀ base : Heap, FnOk P w K mg base CX0 3 fI_Seen fdI_Seen ["self", "place"] (spInit K C_Seen "place")) (b_Seen : Binds K fdI_Seen ["self", "place"] []) {C_Gal : Addr} (hGal : mg "Gallery" = some (.ref C_Gal)) (TG : ClsG K mg) : FnOk P w K mg base (L2.CX P w) 5 f fd ["self", "places"] (spD K mg 2 g_Gallery_sneak) :=
  fn_den (k := 4) F sc_Gallery_sneak fun cdv A outer s H E hr => (dss_cons (ds_expr (de_mth PySem.F.slot_list_append PySem.F.type_list_append mt_append fAppend_ok (de_ifld 1 TG (by rfl) (de_var 0)) (da_cons (de_tup (da_cons de_str (da_cons de_str da_nil))) da_nil))) (dss_one (ds_fin0 rfl rfl rfl (takes_of rfl rfl rfl rfl) (fun W pn xe tk ho => (dss_cons (ds_set 2 sc_Gallery_sneak.nd (de_meth0 hGal TG me_Gallery_row (by decide) G_Gallery_row hr b_Gallery_row (fun σ => passAt tk σ) (de_var 0))) (dss_cons (ds_for ho rfl (di_seq (de_var 1)) (dg_nm 3 sc_Gallery_sneak.nd) (dss_cons (ds_if (dt_tru (de_call G_told_by hr (by rfl) g_m_told_by F_told_by.kp b_told_by (fun σ => passAt tk σ) (da_cons (de_var 2) (da_cons (de_meth0 hGal TG me_Gallery_houses (by decide) G_Gallery_houses hr b_Gallery_houses (fun σ => passAt tk σ) (de_var 0)) (da_cons (de_var 3) da_nil))))) (dss_one (ds_raise rfl tk T_Seen (i_Seen _) hr b_Seen (by rfl) (de_var 3))) dss_nil) (dss_one (ds_set 2 sc_Gallery_sneak.nd (de_call G_exchanged hr (by rfl) g_m_exchanged F_exchanged.kp b_exchanged (fun σ => passAt tk σ) (da_cons (de_var 2) (da_cons (de_var 3) da_nil))))))) (dss_one (ds_expr (de_meth hGal TG me_Gallery_keep (by decide) G_Gallery_keep hr b_Gallery_keep (fun σ => passAt tk σ) (de_var 0) (da_cons (de_var 2) (da_cons (de_meth0 hGal TG me_Gallery_houses (by decide) G_Gallery_houses hr b_Gallery_houses (fun σ => passAt tk σ) (de_var 0)) da_nil)))))))) (dss_one (ds_expr (de_mth PySem.F.slot_list_append PySem.F.type_list_append mt_append fAppend_ok (de_ifld 1 TG (by rfl) (de_var 0)) (da_cons (de_tup (da_cons de_str (da_cons de_str da_nil))) da_nil)))) (fun a pn => (dss_one (ds_expr (de_mth PySem.F.slot_list_append PySem.F.type_list_append mt_append fAppend_ok (de_ifld 1 TG (by rfl) (de_var 0)) (da_cons (de_tup (da_cons de_str (da_cons de_str da_nil))) da_nil))))))))
/-! ### _law_act_more -/
abbrev s_law_act_more : Stmt := topS 44
theorem sc_law_act_more : FnScope ["_law_hall", "_law_move"] ["_law_hall", "_law_move"] (defScope s_law_act_more) := ⟨rfl, rfl, rfl, by decide +kernel, rfl, by decide +kernel, by decide +kernel⟩
theorem ok_law_act_more {f : Addr} {fd : FuncData} (F : Fun K "_law_act_more" "_law_act_more" s_law_act_more f fd) {f_Gallery_go : Addr} {fd_Gallery_go : FuncData} (F_Gallery_go : Fun K "go" "Gallery.go" s_Gallery_go f_Gallery_go fd_Gallery_go) (b_Gallery_go : Binds K fd_Gallery_go ["self", "who"] []) (me_Gallery_go : MethG K mg "go" f_Gallery_go) (G_Gallery_go : FnOk P w K mg base (L2.CX P w) 7 f_Gallery_go fd_Gallery_go ["self", "who"] (spD K mg 2 g_Gallery_go)) {f_Gallery_sneak : Addr} {fd_Gallery_sneak : FuncData} (F_Gallery_sneak : Fun K "sneak" "Gallery.sneak" s_Gallery_sneak f_Gallery_sneak fd_Gallery_sneak) (b_Gallery_sneak : Binds K fd_Gallery_sneak ["self", "places"] []) (me_Gallery_sneak : MethG K mg "sneak" f_Gallery_sneak) (G_Gallery_sneak : FnOk P w K mg base (L2.CX P w) 7 f_Gallery_sneak fd_Gallery_sneak ["self", "places"] (spD K mg 2 g_Gallery_sneak)) {C_Gal : Addr} (hGal : mg "Gallery" = some (.ref C_Gal)) (TG : ClsG K mg) : FnOk P w K mg base (L2.CX P w) 8 f fd ["_law_hall", "_law_move"] (spD K mg 2 g_law_act_more) :=
  fn_den (k := 7) F sc_law_act_more fun cdv A outer s H E hr => (dss_one (ds_ret (de_if (dt_cmp (op_eqD hr.units) fEq_ok (de_ix (ix_list.or ix_tup) fIx_ok (de_var 1) de_int) de_str) (de_meth hGal TG me_Gallery_go (by decide) G_Gallery_go hr b_Gallery_go (fun σ => passAt (W := fun cls d _ H => E cls d H) (takes_of rfl rfl rfl rfl) σ) (de_var 0) (da_cons (de_ix (ix_list.or ix_tup) fIx_ok (de_var 1) de_int) da_nil)) (de_meth hGal TG me_Gallery_sneak (by decide) G_Gallery_sneak hr b_Gallery_sneak (fun σ => passAt (W := fun cls d _ H => E cls d H) (takes_of rfl rfl rfl rfl) σ) (de_var 0) (da_cons (de_ix (ix_list.or ix_tup) fIx_ok (de_var 1) de_int) da_nil)))))
/-! ### Gallery.come -/
abbrev s_Gallery_come : Stmt := inClass (topS 34) 2
theorem sc_Gallery_come : FnScope ["self", "who", "place", "told"] ["self", "who", "place"] (defScope s_Gallery_come) := ⟨rfl, rfl, rfl, by decide +kernel, rfl, by decide +kernel, by decide +kernel⟩
theorem ok_Gallery_come {f : Addr} {fd : FuncData} (F : Fun K "come" "Gallery.come" s_Gallery_come f fd) {f_Gallery_keep : Addr} {fd_Gallery_keep : FuncData} (F_Gallery_keep : Fun K "keep" "Gallery.keep" s_Gallery_keep f_Gallery_keep fd_Gallery_keep) (b_Gallery_keep : Binds K fd_Gallery_keep ["self", "row", "houses"] []) (me_Gallery_keep : MethG K mg "keep" f_Gallery_keep) (G_Gallery_keep : FnOk P w K mg base (L2.CX P w) 6 f_Gallery_keep fd_Gallery_keep ["self", "row", "houses"] (spD K mg 3 g_Gallery_keep)) {f_with_newcomer : Addr} {fd_with_newcomer : FuncData} (F_with_newcomer : Fun K "with_newcomer" "with_newcomer" s_with_newcomer f_with_newcomer fd_with_newcomer) (b_with_newcomer : Binds K fd_with_newcomer ["row", "who", "place"] []) (g_m_with_newcomer : mg "with_newcomer" = some (.ref f_with_newcomer)) (G_with_newcomer : FnOk P w K mg base (L2.CX P w) 6 f_with_newcomer fd_with_newcomer ["row", "who", "place"] (spD K mg 3 g_with_newcomer)) {f_Gallery_row : Addr} {fd_Gallery_row : FuncData} (F_Gallery_row : Fun K "row" "Gallery.row" s_Gallery_row f_Gallery_row fd_Gallery_row) (b_Gallery_row : Binds K fd_Gallery_row ["self"] []) (me_Gallery_row : MethG K mg "row" f_Gallery_row) (G_Gallery_row : FnOk P w K mg base (L2.CX P w) 6 f_Gallery_row fd_Gallery_row ["self"] (spD K mg 1 g_Gallery_row)) {f_Gallery_houses : Addr} {fd_Gallery_houses : FuncData} (F_Gallery_houses : Fun K "houses" "Gallery.houses" s_Gallery_houses f_Gallery_houses fd_Gallery_houses) (b_Gallery_houses : Binds K fd_Gallery_houses ["self"] []) (me_Gallery_houses : MethG K mg "houses" f_Gallery_houses) (G_Gallery_houses : FnOk P w K mg base (L2.CX P w) 6 f_Gallery_houses fd_Gallery_houses ["self"] (spD K mg 1 g_Gallery_houses)) {f_seen_otherwise : Addr} {fd_seen_otherwise : FuncData} (F_seen_otherwise : Fun K "seen_otherwise" "seen_otherwise" s_seen_otherwise f_seen_otherwise fd_seen_otherwise) (g_m_seen_otherwise : mg "seen_otherwise" = some (.ref f_seen_otherwise)) (G_seen_otherwise : FnOk P w K mg base (L2.CX P w) 6 f_seen_otherwise fd_seen_otherwise ["row", "houses", "who", "place"] (spD K mg 4 g_seen_otherwise)) (km_seen_otherwise_place : KBn K fd_seen_otherwise ["row", "houses", "who", "place"] 3 ["place"] (fun us ws => gp [0, 1, 2, 3] (us ++ ws)) (fun us ws => gp [0, 1, 2, 3] (us ++ ws))) {C_Gal : Addr} (hGal : mg "Gallery" = some (.ref C_Gal)) (TG : ClsG K mg) : FnOk P w K mg base (L2.CX P w) 7 f fd ["self", "who", "place"] (spD K mg 3 g_Gallery_come) :=
  fn_den (k := 6) F sc_Gallery_come fun cdv A outer s H E hr => (dss_cons (ds_expr (de_mth PySem.F.slot_list_append PySem.F.type_list_append mt_append fAppend_ok (de_ifld 1 TG (by rfl) (de_var 0)) (da_cons (de_tup (da_cons de_str (da_cons de_str da_nil))) da_nil))) (dss_one (ds_finR rfl rfl rfl (takes_of rfl rfl rfl rfl) (fun W pn xe tk ho => (drs_cons (ds_set 3 sc_Gallery_come.nd (de_callM (n := 3) (ks := ["place"]) (π := [0, 1, 2, 3]) G_seen_otherwise hr (by rfl) g_m_seen_otherwise F_seen_otherwise.kp km_seen_otherwise_place (fun σ => passAt tk σ) (da_cons (de_meth0 hGal TG me_Gallery_row (by decide) G_Gallery_row hr b_Gallery_row (fun σ => passAt tk σ) (de_var 0)) (da_cons (de_meth0 hGal TG me_Gallery_houses (by decide) G_Gallery_houses hr b_Gallery_houses (fun σ => passAt tk σ) (de_var 0)) (da_cons (de_var 1) da_nil))) (dk_cons (de_var 2) dk_nil))) (drs_cons (ds_expr (de_meth hGal TG me_Gallery_keep (by decide) G_Gallery_keep hr b_Gallery_keep (fun σ => passAt tk σ) (de_var 0) (da_cons (de_call G_with_newcomer hr (by rfl) g_m_with_newcomer F_with_newcomer.kp b_with_newcomer (fun σ => passAt tk σ) (da_cons (de_meth0 hGal TG me_Gallery_row (by decide) G_Gallery_row hr b_Gallery_row (fun σ => passAt tk σ) (de_var 0)) (da_cons (de_var 1) (da_cons (de_var 2) da_nil)))) (da_cons (de_meth0 hGal TG me_Gallery_houses (by decide) G_Gallery_houses hr b_Gallery_houses (fun σ => passAt tk σ) (de_var 0)) da_nil)))) (drs_ret (de_var 3))))) (dss_one (ds_expr (de_mth PySem.F.slot_list_append PySem.F.type_list_append mt_append fAppend_ok (de_ifld 1 TG (by rfl) (de_var 0)) (da_cons (de_tup (da_cons de_str (da_cons de_str da_nil))) da_nil)))) (fun a pn => (dss_one (ds_expr (de_mth PySem.F.slot_list_append PySem.F.type_list_append mt_append fAppend_ok (de_ifld 1 TG (by rfl) (de_var 0)) (da_cons (de_tup (da_cons de_str (da_cons de_str da_nil))) da_nil))))))))
/-! ### Gallery.deeds -/
abbrev s_Gallery_deeds : Stmt := inClass (topS 34) 17
theorem sc_Gallery_deeds : FnScope ["self"] ["self"] (defScope s_Gallery_deeds) := ⟨rfl, rfl, rfl, by decide +kernel, rfl, by decide +kernel, by decide +kernel⟩
theorem ok_Gallery_deeds {f : Addr} {fd : FuncData} (F : Fun K "deeds" "Gallery.deeds" s_Gallery_deeds f fd) (m_len : mg "len" = none) {C_Gal : Addr} (hGal : mg "Gallery" = some (.ref C_Gal)) (TG : ClsG K mg) : FnOk P w K mg base (L2.CX P w) 1 f fd ["self"] (spD K mg 1 g_Gallery_deeds) :=
  fn_den (k := 0) F sc_Gallery_deeds fun cdv A outer s H E hr => (dss_one (ds_ret (de_bin op_sub fSub_ok (de_callB call_len_seq fLen_ok (by rfl) m_len PySem.boot_len (da_cons (de_ifld 0 TG (by rfl) (de_var 0)) da_nil)) de_int)))
/-! ### Gallery.undo -/
abbrev s_Gallery_undo : Stmt := inClass (topS 34) 7
theorem sc_Gallery_undo : FnScope ["self", "stands"] ["self"] (defScope s_Gallery_undo) := ⟨rfl, rfl, rfl, by decide +kernel, rfl, by decide +kernel, by decide +kernel⟩
theorem ok_Gallery_undo {f : Addr} {fd : FuncData} (F : Fun K "undo" "Gallery.undo" s_Gallery_undo f fd) {f_Gallery_deeds : Addr} {fd_Gallery_deeds : FuncData} (F_Gallery_deeds : Fun K "deeds" "Gallery.deeds" s_Gallery_deeds f_Gallery_deeds fd_Gallery_deeds) (b_Gallery_deeds : Binds K fd_Gallery_deeds ["self"] []) (me_Gallery_deeds : MethG K mg "deeds" f_Gallery_deeds) (G_Gallery_deeds : FnOk P w K mg base (L2.CX P w) 1 f_Gallery_deeds fd_Gallery_deeds ["self"] (spD K mg 1 g_Gallery_deeds)) {C_Gal : Addr} (hGal : mg "Gallery" = some (.ref C_Gal)) (TG : ClsG K mg) : FnOk P w K mg base (L2.CX P w) 2 f fd ["self"] (spD K mg 1 g_Gallery_undo) :=
  fn_den (k := 1) F sc_Gallery_undo fun cdv A outer s H E hr => (dss_cons (ds_expr (de_mth PySem.F.slot_list_append PySem.F.type_list_append mt_append fAppend_ok (de_ifld 1 TG (by rfl) (de_var 0)) (da_cons (de_tup (da_cons de_str (da_cons de_str da_nil))) da_nil))) (dss_one (ds_finR rfl rfl rfl (takes_of rfl rfl rfl rfl) (fun W pn xe tk ho => (drs_cons (ds_set 1 sc_Gallery_undo.nd (de_cmp op_gt fCmp_ok (de_meth0 hGal TG me_Gallery_deeds (by decide) G_Gallery_deeds hr b_Gallery_deeds (fun σ => passAt tk σ) (de_var 0)) de_int)) (drs_cons (ds_if (dt_tru (de_var 1)) (dss_one (ds_expr (de_mth0 PySem.F.slot_list_pop PySem.F.type_list_pop mt_pop fPop_ok (de_ifld 0 TG (by rfl) (de_var 0))))) dss_nil) (drs_ret (de_var 1))))) (dss_one (ds_expr (de_mth PySem.F.slot_list_append PySem.F.type_list_append mt_append fAppend_ok (de_ifld 1 TG (by rfl) (de_var 0)) (da_cons (de_tup (da_cons de_str (da_cons de_str da_nil))) da_nil)))) (fun a pn => (dss_one (ds_expr (de_mth PySem.F.slot_list_append PySem.F.type_list_append mt_append fAppend_ok (de_ifld 1 TG (by rfl) (de_var 0)) (da_cons (de_tup (da_cons de_str (da_cons de_str da_nil))) da_nil))))))))
/-! ### all_taller_ahead -/
abbrev s_all_taller_ahead : Stmt := topS 18
theorem sc_all_taller_ahead : FnScope ["row", "ahead", "falling", "who", "low", "high", "middle"] ["row"] (defScope s_all_taller_ahead) := ⟨rfl, rfl, rfl, by decide +kernel, rfl, by decide +kernel, by decide +kernel⟩
theorem ok_all_taller_ahead {f : Addr} {fd : FuncData} (F : Fun K "all_taller_ahead" "all_taller_ahead" s_all_taller_ahead f fd) (m_len : mg "len" = none) : FnOk P w K mg base (L2.CX P w) 1 f fd ["row"] (spD K mg 1 g_all_taller_ahead) :=
  fn_den (k := 0) F sc_all_taller_ahead fun cdv A outer s H E hr => (dss_cons (ds_set 1 sc_all_taller_ahead.nd de_dnew) (dss_cons (ds_set 2 sc_all_taller_ahead.nd (de_lst da_nil)) (dss_cons (ds_for (passes rfl) rfl (di_seq (de_var 0)) (dg_nm 3 sc_all_taller_ahead.nd) (dss_cons (ds_par (i := 4) (j := 5) rfl sc_all_taller_ahead.nd de_int (de_callB call_len_seq fLen_ok (by rfl) m_len PySem.boot_len (da_cons (de_var 2) da_nil))) (dss_cons (ds_while 64 (passes rfl) (dt_cmp op_lt fCmp_ok (de_var 4) (de_var 5)) (dss_cons (ds_set 6 sc_all_taller_ahead.nd (de_bin op_fdiv fDiv_ok (de_bin op_addW fAdd_ok (de_var 4) (de_var 5)) de_int)) (dss_one (ds_if (dt_cmp op_gt fCmp_ok (de_ix (ix_list.or ix_tup) fIx_ok (de_var 2) (de_var 6)) (de_var 3)) (dss_one (ds_set 4 sc_all_taller_ahead.nd (de_bin op_addW fAdd_ok (de_var 6) de_int))) (dss_one (ds_set 5 sc_all_taller_ahead.nd (de_var 6))))))) (dss_cons (ds_expr (de_mth PySem.F.slot_list_insert PySem.F.type_list_insert mt_insert fInsert_ok (de_var 2) (da_cons (de_var 4) (da_cons (de_var 3) da_nil)))) (dss_one (ds_asgM (de_var 4) (dm_putD (un1 hr) (de_var 1) (de_var 3)))))))) (dss_one (ds_ret (de_var 1))))))
/-! ### folk_of -/
abbrev s_folk_of : Stmt := topS 11
theorem sc_folk_of : FnScope ["row"] ["row"] (defScope s_folk_of) := ⟨rfl, rfl, rfl, by decide +kernel, rfl, by decide +kernel, by decide +kernel⟩
theorem ok_folk_of {f : Addr} {fd : FuncData} (F : Fun K "folk_of" "folk_of" s_folk_of f fd) (m_sorted : mg "sorted" = none) (m_tuple : mg "tuple" = none) : FnOk P w K mg base (L2.CX P w) 1 f fd ["row"] (spD K mg 1 g_folk_of) :=
  fn_den (k := 0) F sc_folk_of fun cdv A outer s H E hr => (dss_one (ds_ret (de_callTy call_tupN fTuple_ok (by rfl) m_tuple (by decide +kernel) (da_cons (de_sortR .cl (by rfl) m_sorted (da_cons (de_var 0) da_nil)) da_nil))))
/-! ### seen_from_left -/
abbrev s_seen_from_left : Stmt := topS 25
theorem sc_seen_from_left : FnScope ["row", "floors", "ahead", "rising", "who", "floor"] ["row", "floors"] (defScope s_seen_from_left) := ⟨rfl, rfl, rfl, by decide +kernel, rfl, by decide +kernel, by decide +kernel⟩
theorem ok_seen_from_left {f : Addr} {fd : FuncData} (F : Fun K "seen_from_left" "seen_from_left" s_seen_from_left f fd) {f_all_taller_ahead : Addr} {fd_all_taller_ahead : FuncData} (F_all_taller_ahead : Fun K "all_taller_ahead" "all_taller_ahead" s_all_taller_ahead f_all_taller_ahead fd_all_taller_ahead) (b_all_taller_ahead : Binds K fd_all_taller_ahead ["row"] []) (g_m_all_taller_ahead : mg "all_taller_ahead" = some (.ref f_all_taller_ahead)) (G_all_taller_ahead : FnOk P w K mg base (L2.CX P w) 1 f_all_taller_ahead fd_all_taller_ahead ["row"] (spD K mg 1 g_all_taller_ahead)) {f_folk_of : Addr} {fd_folk_of : FuncData} (F_folk_of : Fun K "folk_of" "folk_of" s_folk_of f_folk_of fd_folk_of) (b_folk_of : Binds K fd_folk_of ["row"] []) (g_m_folk_of : mg "folk_of" = some (.ref f_folk_of)) (G_folk_of : FnOk P w K mg base (L2.CX P w) 1 f_folk_of fd_folk_of ["row"] (spD K mg 1 g_folk_of)) (m_tuple : mg "tuple" = none) : FnOk P w K mg base (L2.CX P w) 2 f fd ["row", "floors"] (spD K mg 2 g_seen_from_left) :=
  fn_den (k := 1) F sc_seen_from_left fun cdv A outer s H E hr => (dss_cons (ds_set 2 sc_seen_from_left.nd (de_call G_all_taller_ahead hr (by rfl) g_m_all_taller_ahead F_all_taller_ahead.kp b_all_taller_ahead (fun σ => passAt (W := fun cls d _ H => E cls d H) (takes_of rfl rfl rfl rfl) σ) (da_cons (de_var 0) da_nil))) (dss_cons (ds_set 3 sc_seen_from_left.nd (de_rev .cl (de_call G_folk_of hr (by rfl) g_m_folk_of F_folk_of.kp b_folk_of (fun σ => passAt (W := fun cls d _ H => E cls d H) (takes_of rfl rfl rfl rfl) σ) (da_cons (de_var 0) da_nil)))) (dss_one (ds_ret (de_callTy call_tupN fTuple_ok (by rfl) m_tuple (by decide +kernel) (da_cons (by exact (de_lc (own := [("floor", 5)]) .cl rfl sc_seen_from_left.nd (di_seq (de_var 1)) (blkOk_by (own := [("floor", 5)]) (N := ["row", "floors", "ahead", "rising", "who", "floor"]) (sc := defScope s_seen_from_left) (by decide +kernel)) (fun _ _ _ _ _ => (dg_nm 5 sc_seen_from_left.nd)) (fun _ _ _ _ _ => dts_nil) (fun _ _ _ _ _ => (de_callTy call_tupN fTuple_ok (by rfl) m_tuple (by decide +kernel) (da_cons (by exact (de_lc (own := [("who", 4)]) .cl rfl sc_seen_from_left.nd (di_seq (de_var 3)) (blkOk_by (own := [("who", 4)]) (N := ["row", "floors", "ahead", "rising", "who", "floor"]) (by first | decide +kernel | (dsimp only [Cx.blk, compEnvC]; decide +kernel) | rfl)) (fun _ _ _ _ _ => (dg_nm 4 sc_seen_from_left.nd)) (fun _ _ _ _ _ => (dts_one (dt_cmp op_lt fCmp_ok (de_dget (un1 hr) (de_var 2) (de_var 4)) (de_var 5)))) (fun _ _ _ _ _ => (de_var 4)))) da_nil))))) da_nil))))))
/-! ### turned -/
abbrev s_turned : Stmt := topS 14
theorem sc_turned : FnScope ["row"] ["row"] (defScope s_turned) := ⟨rfl, rfl, rfl, by decide +kernel, rfl, by decide +kernel, by decide +kernel⟩
theorem ok_turned {f : Addr} {fd : FuncData} (F : Fun K "turned" "turned" s_turned f fd) (m_tuple : mg "tuple" = none) : FnOk P w K mg base (L2.CX P w) 1 f fd ["row"] (spD K mg 1 g_turned) :=
  fn_den (k := 0) F sc_turned fun cdv A outer s H E hr => (dss_one (ds_ret (de_callTy call_tupN fTuple_ok (by rfl) m_tuple (by decide +kernel) (da_cons (de_rev .cl (de_var 0)) da_nil))))
/-! ### seen_by_all -/
abbrev s_seen_by_all : Stmt := topS 24
theorem sc_seen_by_all : FnScope ["row", "houses", "left", "right"] ["row", "houses"] (defScope s_seen_by_all) := ⟨rfl, rfl, rfl, by decide +kernel, rfl, by decide +kernel, by decide +kernel⟩
theorem ok_seen_by_all {f : Addr} {fd : FuncData} (F : Fun K "seen_by_all" "seen_by_all" s_seen_by_all f fd) {f_seen_from_left : Addr} {fd_seen_from_left : FuncData} (F_seen_from_left : Fun K "seen_from_left" "seen_from_left" s_seen_from_left f_seen_from_left fd_seen_from_left) (b_seen_from_left : Binds K fd_seen_from_left ["row", "floors"] []) (g_m_seen_from_left : mg "seen_from_left" = some (.ref f_seen_from_left)) (G_seen_from_left : FnOk P w K mg base (L2.CX P w) 2 f_seen_from_left fd_seen_from_left ["row", "floors"] (spD K mg 2 g_seen_from_left)) {f_turned : Addr} {fd_turned : FuncData} (F_turned : Fun K "turned" "turned" s_turned f_turned fd_turned) (b_turned : Binds K fd_turned ["row"] []) (g_m_turned : mg "turned" = some (.ref f_turned)) (G_turned : FnOk P w K mg base (L2.CX P w) 2 f_turned fd_turned ["row"] (spD K mg 1 g_turned)) : FnOk P w K mg base (L2.CX P w) 3 f fd ["row", "houses"] (spD K mg 2 g_seen_by_all) :=
  fn_den (k := 2) F sc_seen_by_all fun cdv A outer s H E hr => (dss_cons (ds_asg (de_var 1) (dg_tp rfl (dgs_cons (dg_nm 2 sc_seen_by_all.nd) (dgs_cons (dg_nm 3 sc_seen_by_all.nd) dgs_nil)))) (dss_one (ds_ret (de_tup (da_cons (de_call G_seen_from_left hr (by rfl) g_m_seen_from_left F_seen_from_left.kp b_seen_from_left (fun σ => passAt (W := fun cls d _ H => E cls d H) (takes_of rfl rfl rfl rfl) σ) (da_cons (de_var 0) (da_cons (de_var 2) da_nil))) (da_cons (de_call G_seen_from_left hr (by rfl) g_m_seen_from_left F_seen_from_left.kp b_seen_from_left (fun σ => passAt (W := fun cls d _ H => E cls d H) (takes_of rfl rfl rfl rfl) σ) (da_cons (de_call G_turned hr (by rfl) g_m_turned F_turned.kp b_turned (fun σ => passAt (W := fun cls d _ H => E cls d H) (takes_of rfl rfl rfl rfl) σ) (da_cons (de_var 0) da_nil)) (da_cons (de_var 3) da_nil))) da_nil))))))
/-! ### with_floors -/
abbrev s_with_floors : Stmt := topS 36
theorem sc_with_floors : FnScope ["houses", "side", "floors", "name", "old"] ["houses", "side", "floors"] (defScope s_with_floors) := ⟨rfl, rfl, rfl, by decide +kernel, rfl, by decide +kernel, by decide +kernel⟩
theorem ok_with_floors {f : Addr} {fd : FuncData} (F : Fun K "with_floors" "with_floors" s_with_floors f fd) {u_SIDES : Value} {v_SIDES : V} (h_SIDES : mg "SIDES" = some u_SIDES) (rr_SIDES : RelV v_SIDES u_SIDES) (r_SIDES : ∀ δ H μ, Rp ⟨K, mg, δ⟩ H μ v_SIDES c_SIDES) (m_zip : mg "zip" = none) (m_tuple : mg "tuple" = none) : FnOk P w K mg base (L2.CX P w) 1 f fd ["houses", "side", "floors"] (spD K mg 3 g_with_floors) :=
  fn_den (k := 0) F sc_with_floors fun cdv A outer s H E hr => (dss_one (ds_ret (de_callTy call_tupN fTuple_ok (by rfl) m_tuple (by decide +kernel) (da_cons (by exact (de_lc (own := [("name", 3), ("old", 4)]) .cl rfl sc_with_floors.nd (di_zip2 (by rfl) m_zip (da_cons (de_glob (by rfl) h_SIDES rr_SIDES r_SIDES) (da_cons (de_var 0) da_nil))) (blkOk_by (own := [("name", 3), ("old", 4)]) (N := ["houses", "side", "floors", "name", "old"]) (sc := defScope s_with_floors) (by decide +kernel)) (fun _ _ _ _ _ => (dg_tp rfl (dgs_cons (dg_nm 3 sc_with_floors.nd) (dgs_cons (dg_nm 4 sc_with_floors.nd) dgs_nil)))) (fun _ _ _ _ _ => dts_nil) (fun _ _ _ _ _ => (de_if (dt_cmp (op_eqD hr.units) fEq_ok (de_var 3) (de_var 1)) (de_var 2) (de_var 4))))) da_nil))))
/-! ### seen_from -/
abbrev s_seen_from : Stmt := topS 37
theorem sc_seen_from : FnScope ["row", "side", "floor", "seen"] ["row", "side", "floor"] (defScope s_seen_from) := ⟨rfl, rfl, rfl, by decide +kernel, rfl, by decide +kernel, by decide +kernel⟩
theorem ok_seen_from {f : Addr} {fd : FuncData} (F : Fun K "seen_from" "seen_from" s_seen_from f fd) {f_seen_by_all : Addr} {fd_seen_by_all : FuncData} (F_seen_by_all : Fun K "seen_by_all" "seen_by_all" s_seen_by_all f_seen_by_all fd_seen_by_all) (b_seen_by_all : Binds K fd_seen_by_all ["row", "houses"] []) (g_m_seen_by_all : mg "seen_by_all" = some (.ref f_seen_by_all)) (G_seen_by_all : FnOk P w K mg base (L2.CX P w) 3 f_seen_by_all fd_seen_by_all ["row", "houses"] (spD K mg 2 g_seen_by_all)) {f_with_floors : Addr} {fd_with_floors : FuncData} (F_with_floors : Fun K "with_floors" "with_floors" s_with_floors f_with_floors fd_with_floors) (b_with_floors : Binds K fd_with_floors ["houses", "side", "floors"] []) (g_m_with_floors : mg "with_floors" = some (.ref f_with_floors)) (G_with_floors : FnOk P w K mg base (L2.CX P w) 3 f_with_floors fd_with_floors ["houses", "side", "floors"] (spD K mg 3 g_with_floors)) {u_SIDES : Value} {v_SIDES : V} (h_SIDES : mg "SIDES" = some u_SIDES) (rr_SIDES : RelV v_SIDES u_SIDES) (r_SIDES : ∀ δ H μ, Rp ⟨K, mg, δ⟩ H μ v_SIDES c_SIDES) : FnOk P w K mg base (L2.CX P w) 4 f fd ["row", "side", "floor"] (spD K mg 3 g_seen_from) :=
  fn_den (k := 3) F sc_seen_from fun cdv A outer s H E hr => (dss_cons (ds_set 3 sc_seen_from.nd (de_call G_seen_by_all hr (by rfl) g_m_seen_by_all F_seen_by_all.kp b_seen_by_all (fun σ => passAt (W := fun cls d _ H => E cls d H) (takes_of rfl rfl rfl rfl) σ) (da_cons (de_var 0) (da_cons (de_call G_with_floors hr (by rfl) g_m_with_floors F_with_floors.kp b_with_floors (fun σ => passAt (W := fun cls d _ H => E cls d H) (takes_of rfl rfl rfl rfl) σ) (da_cons (de_tup (da_cons (de_tup da_nil) (da_cons (de_tup da_nil) da_nil))) (da_cons (de_var 1) (da_cons (de_tup (da_cons (de_var 2) da_nil)) da_nil)))) da_nil)))) (dss_one (ds_ret (de_ix (ix_list.or ix_tup) fIx_ok (de_ix (ix_list.or ix_tup) fIx_ok (de_var 3) (de_idxF (un65 hr) (de_glob (by rfl) h_SIDES rr_SIDES r_SIDES) (de_var 1))) de_int))))
/-! ### floors_at -/
abbrev s_floors_at : Stmt := topS 35
theorem sc_floors_at : FnScope ["houses", "side"] ["houses", "side"] (defScope s_floors_at) := ⟨rfl, rfl, rfl, by decide +kernel, rfl, by decide +kernel, by decide +kernel⟩
theorem ok_floors_at {f : Addr} {fd : FuncData} (F : Fun K "floors_at" "floors_at" s_floors_at f fd) {qual_NoSide : Str} {st_NoSide : Stmt} {C_NoSide fI_NoSide : Addr} {fdI_NoSide : FuncData} {new_NoSide : String} {tail_NoSide : List Value} (T_NoSide : ErT K mg "NoSide" "side" qual_NoSide st_NoSide C_NoSide fI_NoSide fdI_NoSide new_NoSide tail_NoSide) (i_NoSide : ∀ base : Heap, FnOk P w K mg base CX0 1 fI_NoSide fdI_NoSide ["self", "side"] (spInit K C_NoSide "side")) (b_NoSide : Binds K fdI_NoSide ["self", "side"] []) {u_SIDES : Value} {v_SIDES : V} (h_SIDES : mg "SIDES" = some u_SIDES) (rr_SIDES : RelV v_SIDES u_SIDES) (r_SIDES : ∀ δ H μ, Rp ⟨K, mg, δ⟩ H μ v_SIDES c_SIDES) : FnOk P w K mg base (L2.CX P w) 3 f fd ["houses", "side"] (spD K mg 2 g_floors_at) :=
  fn_den (k := 2) F sc_floors_at fun cdv A outer s H E hr => (dss_cons (ds_if (dt_cmp (OpR.or op_notIn_seq (op_notInD (un65 hr))) fNotIn_ok (de_var 1) (de_glob (by rfl) h_SIDES rr_SIDES r_SIDES)) (dss_one (ds_raise rfl (takes_of rfl rfl rfl rfl) T_NoSide (i_NoSide _) hr b_NoSide (by rfl) (de_var 1))) dss_nil) (dss_one (ds_ret (de_ix (ix_list.or ix_tup) fIx_ok (de_var 0) (de_idxF (un65 hr) (de_glob (by rfl) h_SIDES rr_SIDES r_SIDES) (de_var 1))))))
/-! ### Gallery.build -/
abbrev s_Gallery_build : Stmt := inClass (topS 34) 4
theorem sc_Gallery_build : FnScope ["self", "side", "floor", "floors"] ["self", "side", "floor"] (defScope s_Gallery_build) := ⟨rfl, rfl, rfl, by decide +kernel, rfl, by decide +kernel, by decide +kernel⟩
theorem ok_Gallery_build {f : Addr} {fd : FuncData} (F : Fun K "build" "Gallery.build" s_Gallery_build f fd) {f_seen_from : Addr} {fd_seen_from : FuncData} (F_seen_from : Fun K "seen_from" "seen_from" s_seen_from f_seen_from fd_seen_from) (b_seen_from : Binds K fd_seen_from ["row", "side", "floor"] []) (g_m_seen_from : mg "seen_from" = some (.ref f_seen_from)) (G_seen_from : FnOk P w K mg base (L2.CX P w) 4 f_seen_from fd_seen_from ["row", "side", "floor"] (spD K mg 3 g_seen_from)) {f_Gallery_row : Addr} {fd_Gallery_row : FuncData} (F_Gallery_row : Fun K "row" "Gallery.row" s_Gallery_row f_Gallery_row fd_Gallery_row) (b_Gallery_row : Binds K fd_Gallery_row ["self"] []) (me_Gallery_row : MethG K mg "row" f_Gallery_row) (G_Gallery_row : FnOk P w K mg base (L2.CX P w) 4 f_Gallery_row fd_Gallery_row ["self"] (spD K mg 1 g_Gallery_row)) {f_Gallery_keep : Addr} {fd_Gallery_keep : FuncData} (F_Gallery_keep : Fun K "keep" "Gallery.keep" s_Gallery_keep f_Gallery_keep fd_Gallery_keep) (b_Gallery_keep : Binds K fd_Gallery_keep ["self", "row", "houses"] []) (me_Gallery_keep : MethG K mg "keep" f_Gallery_keep) (G_Gallery_keep : FnOk P w K mg base (L2.CX P w) 4 f_Gallery_keep fd_Gallery_keep ["self", "row", "houses"] (spD K mg 3 g_Gallery_keep)) {f_with_floors : Addr} {fd_with_floors : FuncData} (F_with_floors : Fun K "with_floors" "with_floors" s_with_floors f_with_floors fd_with_floors) (b_with_floors : Binds K fd_with_floors ["houses", "side", "floors"] []) (g_m_with_floors : mg "with_floors" = some (.ref f_with_floors)) (G_with_floors : FnOk P w K mg base (L2.CX P w) 4 f_with_floors fd_with_floors ["houses", "side", "floors"] (spD K mg 3 g_with_floors)) {f_Gallery_houses : Addr} {fd_Gallery_houses : FuncData} (F_Gallery_houses : Fun K "houses" "Gallery.houses" s_Gallery_houses f_Gallery_houses fd_Gallery_houses) (b_Gallery_houses : Binds K fd_Gallery_houses ["self"] []) (me_Gallery_houses : MethG K mg "houses" f_Gallery_houses) (G_Gallery_houses : FnOk P w K mg base (L2.CX P w) 4 f_Gallery_houses fd_Gallery_houses ["self"] (spD K mg 1 g_Gallery_houses)) {f_floors_at : Addr} {fd_floors_at : FuncData} (F_floors_at : Fun K "floors_at" "floors_at" s_floors_at f_floors_at fd_floors_at) (b_floors_at : Binds K fd_floors_at ["houses", "side"] []) (g_m_floors_at : mg "floors_at" = some (.ref f_floors_at)) (G_floors_at : FnOk P w K mg base (L2.CX P w) 4 f_floors_at fd_floors_at ["houses", "side"] (spD K mg 2 g_floors_at)) {qual_Stands : Str} {st_Stands : Stmt} {C_Stands fI_Stands : Addr} {fdI_Stands : FuncData} {new_Stands : String} {tail_Stands : List Value} (T_Stands : ErT K mg "Stands" "floor" qual_Stands st_Stands C_Stands fI_Stands fdI_Stands new_Stands tail_Stands) (i_Stands : ∀ base : Heap, FnOk P w K mg base CX0 3 fI_Stands fdI_Stands ["self", "floor"] (spInit K C_Stands "floor")) (b_Stands : Binds K fdI_Stands ["self", "floor"] []) (m_sorted : mg "sorted" = none) (m_tuple : mg "tuple" = none) {C_Gal : Addr} (hGal : mg "Gallery" = some (.ref C_Gal)) (TG : ClsG K mg) : FnOk P w K mg base (L2.CX P w) 5 f fd ["self", "side", "floor"] (spD K mg 3 g_Gallery_build) :=
  fn_den (k := 4) F sc_Gallery_build fun cdv A outer s H E hr => (dss_cons (ds_expr (de_mth PySem.F.slot_list_append PySem.F.type_list_append mt_append fAppend_ok (de_ifld 1 TG (by rfl) (de_var 0)) (da_cons (de_tup (da_cons de_str (da_cons de_str da_nil))) da_nil))) (dss_one (ds_finR rfl rfl rfl (takes_of rfl rfl rfl rfl) (fun W pn xe tk ho => (drs_cons (ds_set 3 sc_Gallery_build.nd (de_call G_floors_at hr (by rfl) g_m_floors_at F_floors_at.kp b_floors_at (fun σ => passAt tk σ) (da_cons (de_meth0 hGal TG me_Gallery_houses (by decide) G_Gallery_houses hr b_Gallery_houses (fun σ => passAt tk σ) (de_var 0)) (da_cons (de_var 1) da_nil)))) (drs_cons (ds_if (dt_cmp (OpR.or op_in_seq (op_inD (un65 hr))) fIn_ok (de_var 2) (de_var 3)) (dss_one (ds_raise rfl tk T_Stands (i_Stands _) hr b_Stands (by rfl) (de_var 2))) dss_nil) (drs_cons (ds_expr (de_meth hGal TG me_Gallery_keep (by decide) G_Gallery_keep hr b_Gallery_keep (fun σ => passAt tk σ) (de_var 0) (da_cons (de_meth0 hGal TG me_Gallery_row (by decide) G_Gallery_row hr b_Gallery_row (fun σ => passAt tk σ) (de_var 0)) (da_cons (de_call G_with_floors hr (by rfl) g_m_with_floors F_with_floors.kp b_with_floors (fun σ => passAt tk σ) (da_cons (de_meth0 hGal TG me_Gallery_houses (by decide) G_Gallery_houses hr b_Gallery_houses (fun σ => passAt tk σ) (de_var 0)) (da_cons (de_var 1) (da_cons (de_callTy call_tupN fTuple_ok (by rfl) m_tuple (by decide +kernel) (da_cons (de_callFB .cl cr_srt fSorted_ok (by rfl) m_sorted (by decide +kernel) (da_cons (de_cl (da_star (de_var 3) (da_cons (de_var 2) da_nil))) da_nil)) da_nil)) da_nil)))) da_nil)))) (drs_ret (de_call G_seen_from hr (by rfl) g_m_seen_from F_seen_from.kp b_seen_from (fun σ => passAt tk σ) (da_cons (de_meth0 hGal TG me_Gallery_row (by decide) G_Gallery_row hr b_Gallery_row (fun σ => passAt tk σ) (de_var 0)) (da_cons (de_var 1) (da_cons (de_var 2) da_nil))))))))) (dss_one (ds_expr (de_mth PySem.F.slot_list_append PySem.F.type_list_append mt_append fAppend_ok (de_ifld 1 TG (by rfl) (de_var 0)) (da_cons (de_tup (da_cons de_str (da_cons de_str da_nil))) da_nil)))) (fun a pn => (dss_one (ds_expr (de_mth PySem.F.slot_list_append PySem.F.type_list_append mt_append fAppend_ok (de_ifld 1 TG (by rfl) (de_var 0)) (da_cons (de_tup (da_cons de_str (da_cons de_str da_nil))) da_nil))))))))
/-! ### Gallery.pull -/
abbrev s_Gallery_pull : Stmt := inClass (topS 34) 5
theorem sc_Gallery_pull : FnScope ["self", "side", "floor", "floors", "left", "one"] ["self", "side", "floor"] (defScope s_Gallery_pull) := ⟨rfl, rfl, rfl, by decide +kernel, rfl, by decide +kernel, by decide +kernel⟩
theorem ok_Gallery_pull {f : Addr} {fd : FuncData} (F : Fun K "pull" "Gallery.pull" s_Gallery_pull f fd) {f_floors_at : Addr} {fd_floors_at : FuncData} (F_floors_at : Fun K "floors_at" "floors_at" s_floors_at f_floors_at fd_floors_at) (b_floors_at : Binds K fd_floors_at ["houses", "side"] []) (g_m_floors_at : mg "floors_at" = some (.ref f_floors_at)) (G_floors_at : FnOk P w K mg base (L2.CX P w) 3 f_floors_at fd_floors_at ["houses", "side"] (spD K mg 2 g_floors_at)) {f_Gallery_houses : Addr} {fd_Gallery_houses : FuncData} (F_Gallery_houses : Fun K "houses" "Gallery.houses" s_Gallery_houses f_Gallery_houses fd_Gallery_houses) (b_Gallery_houses : Binds K fd_Gallery_houses ["self"] []) (me_Gallery_houses : MethG K mg "houses" f_Gallery_houses) (G_Gallery_houses : FnOk P w K mg base (L2.CX P w) 3 f_Gallery_houses fd_Gallery_houses ["self"] (spD K mg 1 g_Gallery_houses)) {f_Gallery_keep : Addr} {fd_Gallery_keep : FuncData} (F_Gallery_keep : Fun K "keep" "Gallery.keep" s_Gallery_keep f_Gallery_keep fd_Gallery_keep) (b_Gallery_keep : Binds K fd_Gallery_keep ["self", "row", "houses"] []) (me_Gallery_keep : MethG K mg "keep" f_Gallery_keep) (G_Gallery_keep : FnOk P w K mg base (L2.CX P w) 3 f_Gallery_keep fd_Gallery_keep ["self", "row", "houses"] (spD K mg 3 g_Gallery_keep)) {f_Gallery_row : Addr} {fd_Gallery_row : FuncData} (F_Gallery_row : Fun K "row" "Gallery.row" s_Gallery_row f_Gallery_row fd_Gallery_row) (b_Gallery_row : Binds K fd_Gallery_row ["self"] []) (me_Gallery_row : MethG K mg "row" f_Gallery_row) (G_Gallery_row : FnOk P w K mg base (L2.CX P w) 3 f_Gallery_row fd_Gallery_row ["self"] (spD K mg 1 g_Gallery_row)) {f_with_floors : Addr} {fd_with_floors : FuncData} (F_with_floors : Fun K "with_floors" "with_floors" s_with_floors f_with_floors fd_with_floors) (b_with_floors : Binds K fd_with_floors ["houses", "side", "floors"] []) (g_m_with_floors : mg "with_floors" = some (.ref f_with_floors)) (G_with_floors : FnOk P w K mg base (L2.CX P w) 3 f_with_floors fd_with_floors ["houses", "side", "floors"] (spD K mg 3 g_with_floors)) {qual_NoFloor : Str} {st_NoFloor : Stmt} {C_NoFloor fI_NoFloor : Addr} {fdI_NoFloor : FuncData} {new_NoFloor : String} {tail_NoFloor : List Value} (T_NoFloor : ErT K mg "NoFloor" "floor" qual_NoFloor st_NoFloor C_NoFloor fI_NoFloor fdI_NoFloor new_NoFloor tail_NoFloor) (i_NoFloor : ∀ base : Heap, FnOk P w K mg base CX0 2 fI_NoFloor fdI_NoFloor ["self", "floor"] (spInit K C_NoFloor "floor")) (b_NoFloor : Binds K fdI_NoFloor ["self", "floor"] []) (m_tuple : mg "tuple" = none) {C_Gal : Addr} (hGal : mg "Gallery" = some (.ref C_Gal)) (TG : ClsG K mg) : FnOk P w K mg base (L2.CX P w) 4 f fd ["self", "side", "floor"] (spD K mg 3 g_Gallery_pull) :=
  fn_den (k := 3) F sc_Gallery_pull fun cdv A outer s H E hr => (dss_cons (ds_expr (de_mth PySem.F.slot_list_append PySem.F.type_list_append mt_append fAppend_ok (de_ifld 1 TG (by rfl) (de_var 0)) (da_cons (de_tup (da_cons de_str (da_cons de_str da_nil))) da_nil))) (dss_one (ds_fin0 rfl rfl rfl (takes_of rfl rfl rfl rfl) (fun W pn xe tk ho => (dss_cons (ds_set 3 sc_Gallery_pull.nd (de_call G_floors_at hr (by rfl) g_m_floors_at F_floors_at.kp b_floors_at (fun σ => passAt tk σ) (da_cons (de_meth0 hGal TG me_Gallery_houses (by decide) G_Gallery_houses hr b_Gallery_houses (fun σ => passAt tk σ) (de_var 0)) (da_cons (de_var 1) da_nil)))) (dss_cons (ds_if (dt_cmp (OpR.or op_notIn_seq (op_notInD (un65 hr))) fNotIn_ok (de_var 2) (de_var 3)) (dss_one (ds_raise rfl tk T_NoFloor (i_NoFloor _) hr b_NoFloor (by rfl) (de_var 2))) dss_nil) (dss_cons (ds_set 4 sc_Gallery_pull.nd (de_callTy call_tupN fTuple_ok (by rfl) m_tuple (by decide +kernel) (da_cons (by exact (de_lc (own := [("one", 5)]) .cl rfl sc_Gallery_pull.nd (di_seq (de_var 3)) (blkOk_by (own := [("one", 5)]) (N := ["self", "side", "floor", "floors", "left", "one"]) (sc := defScope s_Gallery_pull) (by decide +kernel)) (fun _ _ _ _ _ => (dg_nm 5 sc_Gallery_pull.nd)) (fun _ _ _ _ _ => (dts_one (dt_cmp (op_neD hr.units) fNe_ok (de_var 5) (de_var 2)))) (fun _ _ _ _ _ => (de_var 5)))) da_nil))) (dss_one (ds_expr (de_meth hGal TG me_Gallery_keep (by decide) G_Gallery_keep hr b_Gallery_keep (fun σ => passAt tk σ) (de_var 0) (da_cons (de_meth0 hGal TG me_Gallery_row (by decide) G_Gallery_row hr b_Gallery_row (fun σ => passAt tk σ) (de_var 0)) (da_cons (de_call G_with_floors hr (by rfl) g_m_with_floors F_with_floors.kp b_with_floors (fun σ => passAt tk σ) (da_cons (de_meth0 hGal TG me_Gallery_houses (by decide) G_Gallery_houses hr b_Gallery_houses (fun σ => passAt tk σ) (de_var 0)) (da_cons (de_var 1) (da_cons (de_var 4) da_nil)))) da_nil))))))))) (dss_one (ds_expr (de_mth PySem.F.slot_list_append PySem.F.type_list_append mt_append fAppend_ok (de_ifld 1 TG (by rfl) (de_var 0)) (da_cons (de_tup (da_cons de_str (da_cons de_str da_nil))) da_nil)))) (fun a pn => (dss_one (ds_expr (de_mth PySem.F.slot_list_append PySem.F.type_list_append mt_append fAppend_ok (de_ifld 1 TG (by rfl) (de_var 0)) (da_cons (de_tup (da_cons de_str (da_cons de_str da_nil))) da_nil))))))))
/-! ### _law_refusal -/
abbrev s_law_refusal : Stmt := topS 45
theorem sc_law_refusal : FnScope ["_law_caught", "_law_flags", "_law_kinds"] ["_law_caught"] (defScope s_law_refusal) := ⟨rfl, rfl, rfl, by decide +kernel, rfl, by decide +kernel, by decide +kernel⟩
theorem ok_law_refusal {f : Addr} {fd : FuncData} (F : Fun K "_law_refusal" "_law_refusal" s_law_refusal f fd) (TS : ErS K mg errs) {C_Known : Addr} (mc_Known : mg "Known" = some (.ref C_Known)) {C_NoSide : Addr} (mc_NoSide : mg "NoSide" = some (.ref C_NoSide)) {C_NoOne : Addr} (mc_NoOne : mg "NoOne" = some (.ref C_NoOne)) {C_NoPlace : Addr} (mc_NoPlace : mg "NoPlace" = some (.ref C_NoPlace)) {C_NoFloor : Addr} (mc_NoFloor : mg "NoFloor" = some (.ref C_NoFloor)) {C_Seen : Addr} (mc_Seen : mg "Seen" = some (.ref C_Seen)) {C_Stands : Addr} (mc_Stands : mg "Stands" = some (.ref C_Stands)) {C_Last : Addr} (mc_Last : mg "Last" = some (.ref C_Last)) (h_up_ValueError : ∀ c ∈ errs, ∀ C, mg c = some (.ref C) → PySem.W.kitOne K (.ref C) (.type "ValueError") = some (up_ValueError c)) (h_up_LookupError : ∀ c ∈ errs, ∀ C, mg c = some (.ref C) → PySem.W.kitOne K (.ref C) (.type "LookupError") = some (up_LookupError c)) (h_up_RuntimeError : ∀ c ∈ errs, ∀ C, mg c = some (.ref C) → PySem.W.kitOne K (.ref C) (.type "RuntimeError") = some (up_RuntimeError c)) (nof_who : ∀ c ∈ errs, ∀ C, mg c = some (.ref C) → PySem.W.findIn K (.ref C) "who" = some none) (nof_side : ∀ c ∈ errs, ∀ C, mg c = some (.ref C) → PySem.W.findIn K (.ref C) "side" = some none) (nof_place : ∀ c ∈ errs, ∀ C, mg c = some (.ref C) → PySem.W.findIn K (.ref C) "place" = some none) (nof_floor : ∀ c ∈ errs, ∀ C, mg c = some (.ref C) → PySem.W.findIn K (.ref C) "floor" = some none) (m_isinstance : mg "isinstance" = none) (m_ValueError : mg "ValueError" = none) (m_LookupError : mg "LookupError" = none) (m_RuntimeError : mg "RuntimeError" = none) : FnOk P w K mg base (L2.CX P w) 1 f fd ["_law_caught"] (spD K mg 1 g_law_refusal) :=
  fn_den (k := 0) F sc_law_refusal fun cdv A outer s H E hr => (dss_cons (ds_set 1 sc_law_refusal.nd (de_lst (da_cons (de_isX TS (pe_glob (v := .ref C_Known) (by rfl) mc_Known rfl) (.own _) (fun c hc C e => nmS_kit TS hc e (by decide) mc_Known) (by rfl) m_isinstance (de_var 0)) (da_cons (de_isX TS (pe_glob (v := .ref C_NoSide) (by rfl) mc_NoSide rfl) (.own _) (fun c hc C e => nmS_kit TS hc e (by decide) mc_NoSide) (by rfl) m_isinstance (de_var 0)) (da_cons (de_isX TS (pe_glob (v := .ref C_NoOne) (by rfl) mc_NoOne rfl) (.own _) (fun c hc C e => nmS_kit TS hc e (by decide) mc_NoOne) (by rfl) m_isinstance (de_var 0)) da_nil))))) (dss_cons (ds_set 1 sc_law_refusal.nd (de_catL (de_var 1) (de_cl (da_cons (de_isX TS (pe_glob (v := .ref C_NoPlace) (by rfl) mc_NoPlace rfl) (.own _) (fun c hc C e => nmS_kit TS hc e (by decide) mc_NoPlace) (by rfl) m_isinstance (de_var 0)) (da_cons (de_isX TS (pe_glob (v := .ref C_NoFloor) (by rfl) mc_NoFloor rfl) (.own _) (fun c hc C e => nmS_kit TS hc e (by decide) mc_NoFloor) (by rfl) m_isinstance (de_var 0)) (da_cons (de_isX TS (pe_glob (v := .ref C_Seen) (by rfl) mc_Seen rfl) (.own _) (fun c hc C e => nmS_kit TS hc e (by decide) mc_Seen) (by rfl) m_isinstance (de_var 0)) da_nil)))))) (dss_cons (ds_set 1 sc_law_refusal.nd (de_catL (de_var 1) (de_cl (da_cons (de_isX TS (pe_glob (v := .ref C_Stands) (by rfl) mc_Stands rfl) (.own _) (fun c hc C e => nmS_kit TS hc e (by decide) mc_Stands) (by rfl) m_isinstance (de_var 0)) (da_cons (de_isX TS (pe_glob (v := .ref C_Last) (by rfl) mc_Last rfl) (.own _) (fun c hc C e => nmS_kit TS hc e (by decide) mc_Last) (by rfl) m_isinstance (de_var 0)) da_nil))))) (dss_cons (ds_set 2 sc_law_refusal.nd (de_cl (da_cons (de_isX TS (pe_bltn (v := .ty "ValueError") (by rfl) m_ValueError (by decide +kernel) rfl) (.ty _) h_up_ValueError (by rfl) m_isinstance (de_var 0)) (da_cons (de_isX TS (pe_bltn (v := .ty "LookupError") (by rfl) m_LookupError (by decide +kernel) rfl) (.ty _) h_up_LookupError (by rfl) m_isinstance (de_var 0)) (da_cons (de_isX TS (pe_bltn (v := .ty "RuntimeError") (by rfl) m_RuntimeError (by decide +kernel) rfl) (.ty _) h_up_RuntimeError (by rfl) m_isinstance (de_var 0)) da_nil))))) (dss_cons (ds_if (pt_wordOr (dw_or (dt_cmp (op_neD hr.units) fNe_ok (de_mth PySem.F.slot_list_count PySem.F.type_list_count (mt_countD (un65 hr)) fCountD_ok (de_var 1) (da_cons de_bl da_nil)) de_int) (dw_or1 (dt_cmp (op_neD hr.units) fNe_ok (de_idxF (un65 hr) (de_var 2) de_bl) (de_ix (ix_list.or ix_tup) fIx_ok (de_cl (da_cons de_int (da_cons de_int (da_cons de_int (da_cons de_int (da_cons de_int (da_cons de_int (da_cons de_int (da_cons de_int da_nil))))))))) (de_idxF (un65 hr) (de_var 1) de_bl)))))) (dss_one (ds_ret de_str)) dss_nil) (dss_cons (ds_if (pt_wordOr (dw_or (dt_val (de_ix (ix_list.or ix_tup) fIx_ok (de_var 1) de_int)) (dw_or1 (dt_val (de_ix (ix_list.or ix_tup) fIx_ok (de_var 1) de_int))))) (dss_one (ds_ret (de_tup (da_cons de_str (da_cons (de_if (dt_val (de_ix (ix_list.or ix_tup) fIx_ok (de_var 1) de_int)) de_str de_str) (da_cons (de_fld TS (nof_who) (de_var 0)) da_nil)))))) dss_nil) (dss_cons (ds_if (pt_wordOr (dw_or (dt_val (de_ix (ix_list.or ix_tup) fIx_ok (de_var 1) de_int)) (dw_or1 (dt_val (de_ix (ix_list.or ix_tup) fIx_ok (de_var 1) de_int))))) (dss_one (ds_ret (de_if (dt_val (de_ix (ix_list.or ix_tup) fIx_ok (de_var 1) de_int)) (de_tup (da_cons de_str (da_cons de_str (da_cons (de_fld TS (nof_side) (de_var 0)) da_nil)))) (de_tup (da_cons de_str (da_cons de_str (da_cons (de_fld TS (nof_place) (de_var 0)) da_nil))))))) dss_nil) (dss_cons (ds_if (pt_wordOr (dw_or (dt_val (de_ix (ix_list.or ix_tup) fIx_ok (de_var 1) de_int)) (dw_or1 (dt_val (de_ix (ix_list.or ix_tup) fIx_ok (de_var 1) de_int))))) (dss_one (ds_ret (de_tup (da_cons de_str (da_cons (de_if (dt_val (de_ix (ix_list.or ix_tup) fIx_ok (de_var 1) de_int)) de_str de_str) (da_cons (de_fld TS (nof_floor) (de_var 0)) da_nil)))))) dss_nil) (dss_one (ds_ret (de_if (dt_val (de_ix (ix_list.or ix_tup) fIx_ok (de_var 1) de_int)) (de_tup (da_cons de_str (da_cons de_str (da_cons (de_fld TS (nof_place) (de_var 0)) da_nil)))) (de_tup (da_cons de_str (da_cons de_str (da_cons de_non da_nil)))))))))))))))
/-! ### _law_act -/
abbrev s_law_act : Stmt := topS 43
theorem sc_law_act : FnScope ["_law_hall", "_law_move", "_law_found", "_law_caught", "error"] ["_law_hall", "_law_move"] (defScope s_law_act) := ⟨rfl, rfl, rfl, by decide +kernel, rfl, by decide +kernel, by decide +kernel⟩
theorem ok_law_act {f : Addr} {fd : FuncData} (F : Fun K "_law_act" "_law_act" s_law_act f fd) {f_Gallery_change : Addr} {fd_Gallery_change : FuncData} (F_Gallery_change : Fun K "change" "Gallery.change" s_Gallery_change f_Gallery_change fd_Gallery_change) (b_Gallery_change : Binds K fd_Gallery_change ["self", "place"] []) (me_Gallery_change : MethG K mg "change" f_Gallery_change) (G_Gallery_change : FnOk P w K mg base (L2.CX P w) 8 f_Gallery_change fd_Gallery_change ["self", "place"] (spD K mg 2 g_Gallery_change)) {f_law_act_more : Addr} {fd_law_act_more : FuncData} (F_law_act_more : Fun K "_law_act_more" "_law_act_more" s_law_act_more f_law_act_more fd_law_act_more) (b_law_act_more : Binds K fd_law_act_more ["_law_hall", "_law_move"] []) (g_m_law_act_more : mg "_law_act_more" = some (.ref f_law_act_more)) (G_law_act_more : FnOk P w K mg base (L2.CX P w) 8 f_law_act_more fd_law_act_more ["_law_hall", "_law_move"] (spD K mg 2 g_law_act_more)) {f_Gallery_come : Addr} {fd_Gallery_come : FuncData} (F_Gallery_come : Fun K "come" "Gallery.come" s_Gallery_come f_Gallery_come fd_Gallery_come) (me_Gallery_come : MethG K mg "come" f_Gallery_come) (G_Gallery_come : FnOk P w K mg base (L2.CX P w) 8 f_Gallery_come fd_Gallery_come ["self", "who", "place"] (spD K mg 3 g_Gallery_come)) {f_Gallery_undo : Addr} {fd_Gallery_undo : FuncData} (F_Gallery_undo : Fun K "undo" "Gallery.undo" s_Gallery_undo f_Gallery_undo fd_Gallery_undo) (b_Gallery_undo : Binds K fd_Gallery_undo ["self"] []) (me_Gallery_undo : MethG K mg "undo" f_Gallery_undo) (G_Gallery_undo : FnOk P w K mg base (L2.CX P w) 8 f_Gallery_undo fd_Gallery_undo ["self"] (spD K mg 1 g_Gallery_undo)) {f_Gallery_build : Addr} {fd_Gallery_build : FuncData} (F_Gallery_build : Fun K "build" "Gallery.build" s_Gallery_build f_Gallery_build fd_Gallery_build) (b_Gallery_build : Binds K fd_Gallery_build ["self", "side", "floor"] []) (me_Gallery_build : MethG K mg "build" f_Gallery_build) (G_Gallery_build : FnOk P w K mg base (L2.CX P w) 8 f_Gallery_build fd_Gallery_build ["self", "side", "floor"] (spD K mg 3 g_Gallery_build)) {f_Gallery_pull : Addr} {fd_Gallery_pull : FuncData} (F_Gallery_pull : Fun K "pull" "Gallery.pull" s_Gallery_pull f_Gallery_pull fd_Gallery_pull) (b_Gallery_pull : Binds K fd_Gallery_pull ["self", "side", "floor"] []) (me_Gallery_pull : MethG K mg "pull" f_Gallery_pull) (G_Gallery_pull : FnOk P w K mg base (L2.CX P w) 8 f_Gallery_pull fd_Gallery_pull ["self", "side", "floor"] (spD K mg 3 g_Gallery_pull)) {f_law_refusal : Addr} {fd_law_refusal : FuncData} (F_law_refusal : Fun K "_law_refusal" "_law_refusal" s_law_refusal f_law_refusal fd_law_refusal) (b_law_refusal : Binds K fd_law_refusal ["_law_caught"] []) (g_m_law_refusal : mg "_law_refusal" = some (.ref f_law_refusal)) (G_law_refusal : FnOk P w K mg base (L2.CX P w) 8 f_law_refusal fd_law_refusal ["_law_caught"] (spD K mg 1 g_law_refusal)) (km_Gallery_come_place : KBn K fd_Gallery_come ["self", "who", "place"] 2 ["place"] (fun us ws => gp [0, 1, 2] (us ++ ws)) (fun us ws => gp [0, 1, 2] (us ++ ws))) (TS : ErS K mg errs) {C_Stands : Addr} (mc_Stands : mg "Stands" = some (.ref C_Stands)) {C_Seen : Addr} (mc_Seen : mg "Seen" = some (.ref C_Seen)) {C_NoSide : Addr} (mc_NoSide : mg "NoSide" = some (.ref C_NoSide)) {C_NoPlace : Addr} (mc_NoPlace : mg "NoPlace" = some (.ref C_NoPlace)) {C_NoOne : Addr} (mc_NoOne : mg "NoOne" = some (.ref C_NoOne)) {C_NoFloor : Addr} (mc_NoFloor : mg "NoFloor" = some (.ref C_NoFloor)) {C_Last : Addr} (mc_Last : mg "Last" = some (.ref C_Last)) {C_Known : Addr} (mc_Known : mg "Known" = some (.ref C_Known)) {C_Gal : Addr} (hGal : mg "Gallery" = some (.ref C_Gal)) (TG : ClsG K mg) : FnOk P w K mg base (L2.CX P w) 9 f fd ["_law_hall", "_law_move"] (spD K mg 2 g_law_act) :=
  fn_den (k := 8) F sc_law_act fun cdv A outer s H E hr => (dss_cons (ds_asg (de_tup (da_cons de_non (da_cons de_non da_nil))) (dg_tp rfl (dgs_cons (dg_nm 2 sc_law_act.nd) (dgs_cons (dg_nm 3 sc_law_act.nd) dgs_nil)))) (dss_cons (ds_try (cs := ["Known", "Last", "NoFloor", "NoOne", "NoPlace", "NoSide", "Seen", "Stands"]) TS (by decide) (.cons mc_Known (.cons mc_Last (.cons mc_NoFloor (.cons mc_NoOne (.cons mc_NoPlace (.cons mc_NoSide (.cons mc_Seen (.cons mc_Stands .nil)))))))) rfl rfl rfl sc_law_act.nd rfl rfl rfl rfl (by decide) (.cons ⟨rfl, by decide, .inl mc_Known⟩ (.cons ⟨rfl, by decide, .inl mc_Last⟩ (.cons ⟨rfl, by decide, .inl mc_NoFloor⟩ (.cons ⟨rfl, by decide, .inl mc_NoOne⟩ (.cons ⟨rfl, by decide, .inl mc_NoPlace⟩ (.cons ⟨rfl, by decide, .inl mc_NoSide⟩ (.cons ⟨rfl, by decide, .inl mc_Seen⟩ (.cons ⟨rfl, by decide, .inl mc_Stands⟩ .nil)))))))) (by show 8 ≤ 1000; decide) (takes_of rfl rfl rfl rfl) (fun W pn xe tk ho => (dss_one (ds_if (dt_cmp (OpR.or op_in_seq (op_inD (un65 hr))) fIn_ok (de_ix (ix_list.or ix_tup) fIx_ok (de_var 1) de_int) (de_tup (da_cons de_str (da_cons de_str (da_cons de_str da_nil))))) (dss_one (ds_set 2 sc_law_act.nd (de_if (dt_cmp (op_eqD hr.units) fEq_ok (de_ix (ix_list.or ix_tup) fIx_ok (de_var 1) de_int) de_str) (de_meth hGal TG me_Gallery_change (by decide) G_Gallery_change hr b_Gallery_change (fun σ => passAt tk σ) (de_var 0) (da_cons (de_ix (ix_list.or ix_tup) fIx_ok (de_var 1) de_int) da_nil)) (de_call G_law_act_more hr (by rfl) g_m_law_act_more F_law_act_more.kp b_law_act_more (fun σ => passAt tk σ) (da_cons (de_var 0) (da_cons (de_var 1) da_nil)))))) (dss_one (ds_if (dt_cmp (op_eqD hr.units) fEq_ok (de_ix (ix_list.or ix_tup) fIx_ok (de_var 1) de_int) de_str) (dss_one (ds_set 2 sc_law_act.nd (de_methM (ks := ["place"]) (π := [0, 1, 2]) hGal TG me_Gallery_come (by decide) G_Gallery_come hr km_Gallery_come_place (fun σ => passAt tk σ) (de_var 0) (da_cons (de_ix (ix_list.or ix_tup) fIx_ok (de_var 1) de_int) da_nil) (dk_cons (de_ix (ix_list.or ix_tup) fIx_ok (de_var 1) de_int) dk_nil)))) (dss_one (ds_if (dt_cmp (op_eqD hr.units) fEq_ok (de_ix (ix_list.or ix_tup) fIx_ok (de_var 1) de_int) de_str) (dss_one (ds_set 2 sc_law_act.nd (de_meth0 hGal TG me_Gallery_undo (by decide) G_Gallery_undo hr b_Gallery_undo (fun σ => passAt tk σ) (de_var 0)))) (dss_one (ds_set 2 sc_law_act.nd (de_if (dt_cmp (op_eqD hr.units) fEq_ok (de_ix (ix_list.or ix_tup) fIx_ok (de_var 1) de_int) de_str) (de_meth hGal TG me_Gallery_build (by decide) G_Gallery_build hr b_Gallery_build (fun σ => passAt tk σ) (de_var 0) (da_cons (de_ix (ix_list.or ix_tup) fIx_ok (de_var 1) de_int) (da_cons (de_ix (ix_list.or ix_tup) fIx_ok (de_var 1) de_int) da_nil))) (de_meth hGal TG me_Gallery_pull (by decide) G_Gallery_pull hr b_Gallery_pull (fun σ => passAt tk σ) (de_var 0) (da_cons (de_ix (ix_list.or ix_tup) fIx_ok (de_var 1) de_int) (da_cons (de_ix (ix_list.or ix_tup) fIx_ok (de_var 1) de_int) da_nil))))))))))))) (fun a oe pn => pss_one (ps_set (i := 3) sc_law_act.nd rfl (Or.inl rfl) (by exact (pv 4))))) (dss_one (ds_ret (de_if (dt_cmp op_isN fIs_ok (de_var 3) de_non) (de_var 2) (de_call G_law_refusal hr (by rfl) g_m_law_refusal F_law_refusal.kp b_law_refusal (fun σ => passAt (W := fun cls d _ H => E cls d H) (takes_of rfl rfl rfl rfl) σ) (da_cons (de_var 3) da_nil)))))))
/-! ### Gallery.__eq__ -/
abbrev s_Gallery___eq__ : Stmt := inClass (topS 34) 21
theorem sc_Gallery___eq__ : FnScope ["self", "other"] ["self", "other"] (defScope s_Gallery___eq__) := ⟨rfl, rfl, rfl, by decide +kernel, rfl, by decide +kernel, by decide +kernel⟩
theorem ok_Gallery___eq__ {f : Addr} {fd : FuncData} (F : Fun K "__eq__" "Gallery.__eq__" s_Gallery___eq__ f fd) {f_Gallery_row : Addr} {fd_Gallery_row : FuncData} (F_Gallery_row : Fun K "row" "Gallery.row" s_Gallery_row f_Gallery_row fd_Gallery_row) (b_Gallery_row : Binds K fd_Gallery_row ["self"] []) (me_Gallery_row : MethG K mg "row" f_Gallery_row) (G_Gallery_row : FnOk P w K mg base (L2.CX P w) 1 f_Gallery_row fd_Gallery_row ["self"] (spD K mg 1 g_Gallery_row)) {f_Gallery_houses : Addr} {fd_Gallery_houses : FuncData} (F_Gallery_houses : Fun K "houses" "Gallery.houses" s_Gallery_houses f_Gallery_houses fd_Gallery_houses) (b_Gallery_houses : Binds K fd_Gallery_houses ["self"] []) (me_Gallery_houses : MethG K mg "houses" f_Gallery_houses) (G_Gallery_houses : FnOk P w K mg base (L2.CX P w) 1 f_Gallery_houses fd_Gallery_houses ["self"] (spD K mg 1 g_Gallery_houses)) (m_isinstance : mg "isinstance" = none) {C_Gal : Addr} (hGal : mg "Gallery" = some (.ref C_Gal)) (TG : ClsG K mg) (TK : ClsK K mg) (TN : ClsN K mg) : FnOk P w K mg base (L2.CX P w) 2 f fd ["self", "other"] (spD K mg 2 g_Gallery___eq__) :=
  fn_den (k := 1) F sc_Gallery___eq__ fun cdv A outer s H E hr => (dss_one (ds_ret (de_and (de_isA hGal TG TK TN (pe_glob (v := .ref C_Gal) (by rfl) hGal rfl) (by rfl) m_isinstance (de_var 1)) (de_and (de_cmp (op_eqD hr.units) fEq_ok (de_meth0 hGal TG me_Gallery_row (by decide) G_Gallery_row hr b_Gallery_row (fun σ => passAt (W := fun cls d _ H => E cls d H) (takes_of rfl rfl rfl rfl) σ) (de_var 0)) (de_meth0 hGal TG me_Gallery_row (by decide) G_Gallery_row hr b_Gallery_row (fun σ => passAt (W := fun cls d _ H => E cls d H) (takes_of rfl rfl rfl rfl) σ) (de_var 1))) (de_one (de_cmp (op_eqD hr.units) fEq_ok (de_meth0 hGal TG me_Gallery_houses (by decide) G_Gallery_houses hr b_Gallery_houses (fun σ => passAt (W := fun cls d _ H => E cls d H) (takes_of rfl rfl rfl rfl) σ) (de_var 0)) (de_meth0 hGal TG me_Gallery_houses (by decide) G_Gallery_houses hr b_Gallery_houses (fun σ => passAt (W := fun cls d _ H => E cls d H) (takes_of rfl rfl rfl rfl) σ) (de_var 1))))))))
/-! ### floors_many -/
abbrev s_floors_many : Stmt := topS 38
theorem sc_floors_many : FnScope ["houses", "floors"] ["houses"] (defScope s_floors_many) := ⟨rfl, rfl, rfl, by decide +kernel, rfl, by decide +kernel, by decide +kernel⟩
theorem ok_floors_many {f : Addr} {fd : FuncData} (F : Fun K "floors_many" "floors_many" s_floors_many f fd) (m_len : mg "len" = none) (m_sum : mg "sum" = none) : FnOk P w K mg base (L2.CX P w) 1 f fd ["houses"] (spD K mg 1 g_floors_many) :=
  fn_den (k := 0) F sc_floors_many fun cdv A outer s H E hr => (dss_one (ds_ret (de_callB (cr_sum rfl) fSum_ok (by rfl) m_sum (by decide +kernel) (da_cons (by exact (de_lc (own := [("floors", 1)]) .cl rfl sc_floors_many.nd (di_seq (de_var 0)) (blkOk_by (own := [("floors", 1)]) (N := ["houses", "floors"]) (sc := defScope s_floors_many) (by decide +kernel)) (fun _ _ _ _ _ => (dg_nm 1 sc_floors_many.nd)) (fun _ _ _ _ _ => dts_nil) (fun _ _ _ _ _ => (de_callB call_len_seq fLen_ok (by rfl) m_len PySem.boot_len (da_cons (de_var 1) da_nil))))) da_nil))))
/-! ### Gallery.__repr__ -/
abbrev s_Gallery___repr__ : Stmt := inClass (topS 34) 23
theorem sc_Gallery___repr__ : FnScope ["self"] ["self"] (defScope s_Gallery___repr__) := ⟨rfl, rfl, rfl, by decide +kernel, rfl, by decide +kernel, by decide +kernel⟩
theorem ok_Gallery___repr__ {f : Addr} {fd : FuncData} (F : Fun K "__repr__" "Gallery.__repr__" s_Gallery___repr__ f fd) {f_floors_many : Addr} {fd_floors_many : FuncData} (F_floors_many : Fun K "floors_many" "floors_many" s_floors_many f_floors_many fd_floors_many) (b_floors_many : Binds K fd_floors_many ["houses"] []) (g_m_floors_many : mg "floors_many" = some (.ref f_floors_many)) (G_floors_many : FnOk P w K mg base (L2.CX P w) 1 f_floors_many fd_floors_many ["houses"] (spD K mg 1 g_floors_many)) {f_Gallery_houses : Addr} {fd_Gallery_houses : FuncData} (F_Gallery_houses : Fun K "houses" "Gallery.houses" s_Gallery_houses f_Gallery_houses fd_Gallery_houses) (b_Gallery_houses : Binds K fd_Gallery_houses ["self"] []) (me_Gallery_houses : MethG K mg "houses" f_Gallery_houses) (G_Gallery_houses : FnOk P w K mg base (L2.CX P w) 1 f_Gallery_houses fd_Gallery_houses ["self"] (spD K mg 1 g_Gallery_houses)) {f_Gallery_row : Addr} {fd_Gallery_row : FuncData} (F_Gallery_row : Fun K "row" "Gallery.row" s_Gallery_row f_Gallery_row fd_Gallery_row) (b_Gallery_row : Binds K fd_Gallery_row ["self"] []) (me_Gallery_row : MethG K mg "row" f_Gallery_row) (G_Gallery_row : FnOk P w K mg base (L2.CX P w) 1 f_Gallery_row fd_Gallery_row ["self"] (spD K mg 1 g_Gallery_row)) (m_len : mg "len" = none) {C_Gal : Addr} (hGal : mg "Gallery" = some (.ref C_Gal)) (TG : ClsG K mg) : FnOk P w K mg base (L2.CX P w) 2 f fd ["self"] (spD K mg 1 g_Gallery___repr__) :=
  fn_den (k := 1) F sc_Gallery___repr__ fun cdv A outer s H E hr => (dss_one (ds_ret (de_joined (.cons de_str (.cons (de_fmt (de_callB call_len_seq fLen_ok (by rfl) m_len PySem.boot_len (da_cons (de_meth0 hGal TG me_Gallery_row (by decide) G_Gallery_row hr b_Gallery_row (fun σ => passAt (W := fun cls d _ H => E cls d H) (takes_of rfl rfl rfl rfl) σ) (de_var 0)) da_nil))) (.cons de_str (.cons (de_fmt (de_call G_floors_many hr (by rfl) g_m_floors_many F_floors_many.kp b_floors_many (fun σ => passAt (W := fun cls d _ H => E cls d H) (takes_of rfl rfl rfl rfl) σ) (da_cons (de_meth0 hGal TG me_Gallery_houses (by decide) G_Gallery_houses hr b_Gallery_houses (fun σ => passAt (W := fun cls d _ H => E cls d H) (takes_of rfl rfl rfl rfl) σ) (de_var 0)) da_nil))) (.cons de_str .nil))))))))
/-! ### _law_right -/
abbrev s_law_right : Stmt := topS 46
theorem sc_law_right : FnScope ["_law_pot_here", "_law_base", "_law_gap", "_law_a", "_law_b", "_law_c", "_law_d", "_law_e", "_law_k", "_law_hall", "_law_rows", "_law_move", "_law_due", "_law_turn"] ["_law_pot_here"] (defScope s_law_right) := ⟨rfl, rfl, rfl, by decide +kernel, rfl, by decide +kernel, by decide +kernel⟩
theorem ok_law_right {f : Addr} {fd : FuncData} (F : Fun K "_law_right" "_law_right" s_law_right f fd) {f_law_take : Addr} {fd_law_take : FuncData} (F_law_take : Fun K "_law_take" "_law_take" s_law_take f_law_take fd_law_take) (b_law_take : Binds K fd_law_take ["_law_pot_here", "_law_bound"] []) (g_m_law_take : mg "_law_take" = some (.ref f_law_take)) (G_law_take : FnOk P w K mg base (L2.CX P w) 17 f_law_take fd_law_take ["_law_pot_here", "_law_bound"] (spD K mg 2 (g_law_take 6))) {f_Gallery___init__ : Addr} {fd_Gallery___init__ : FuncData} (F_Gallery___init__ : Fun K "__init__" "Gallery.__init__" s_Gallery___init__ f_Gallery___init__ fd_Gallery___init__) (me_Gallery___init__ : MethG K mg "__init__" f_Gallery___init__) (G_Gallery___init__ : FnOk P w K mg base (L2.CX P w) 17 f_Gallery___init__ fd_Gallery___init__ ["self", "row", "houses"] (spD K mg 3 g_Gallery___init__)) {f_law_same : Addr} {fd_law_same : FuncData} (F_law_same : Fun K "_law_same" "_law_same" s_law_same f_law_same fd_law_same) (b_law_same : Binds K fd_law_same ["_law_found", "_law_due"] []) (g_m_law_same : mg "_law_same" = some (.ref f_law_same)) (G_law_same : FnOk P w K mg base (L2.CX P w) 17 f_law_same fd_law_same ["_law_found", "_law_due"] (spD K mg 2 (g_law_same 16))) {f_law_act : Addr} {fd_law_act : FuncData} (F_law_act : Fun K "_law_act" "_law_act" s_law_act f_law_act fd_law_act) (b_law_act : Binds K fd_law_act ["_law_hall", "_law_move"] []) (g_m_law_act : mg "_law_act" = some (.ref f_law_act)) (G_law_act : FnOk P w K mg base (L2.CX P w) 17 f_law_act fd_law_act ["_law_hall", "_law_move"] (spD K mg 2 g_law_act)) {f_Gallery_row : Addr} {fd_Gallery_row : FuncData} (F_Gallery_row : Fun K "row" "Gallery.row" s_Gallery_row f_Gallery_row fd_Gallery_row) (b_Gallery_row : Binds K fd_Gallery_row ["self"] []) (me_Gallery_row : MethG K mg "row" f_Gallery_row) (G_Gallery_row : FnOk P w K mg base (L2.CX P w) 17 f_Gallery_row fd_Gallery_row ["self"] (spD K mg 1 g_Gallery_row)) {f_Gallery_houses : Addr} {fd_Gallery_houses : FuncData} (F_Gallery_houses : Fun K "houses" "Gallery.houses" s_Gallery_houses f_Gallery_houses fd_Gallery_houses) (b_Gallery_houses : Binds K fd_Gallery_houses ["self"] []) (me_Gallery_houses : MethG K mg "houses" f_Gallery_houses) (G_Gallery_houses : FnOk P w K mg base (L2.CX P w) 17 f_Gallery_houses fd_Gallery_houses ["self"] (spD K mg 1 g_Gallery_houses)) {f_Gallery_deeds : Addr} {fd_Gallery_deeds : FuncData} (F_Gallery_deeds : Fun K "deeds" "Gallery.deeds" s_Gallery_deeds f_Gallery_deeds fd_Gallery_deeds) (b_Gallery_deeds : Binds K fd_Gallery_deeds ["self"] []) (me_Gallery_deeds : MethG K mg "deeds" f_Gallery_deeds) (G_Gallery_deeds : FnOk P w K mg base (L2.CX P w) 17 f_Gallery_deeds fd_Gallery_deeds ["self"] (spD K mg 1 g_Gallery_deeds)) {f_Gallery_undo : Addr} {fd_Gallery_undo : FuncData} (F_Gallery_undo : Fun K "undo" "Gallery.undo" s_Gallery_undo f_Gallery_undo fd_Gallery_undo) (b_Gallery_undo : Binds K fd_Gallery_undo ["self"] []) (me_Gallery_undo : MethG K mg "undo" f_Gallery_undo) (G_Gallery_undo : FnOk P w K mg base (L2.CX P w) 17 f_Gallery_undo fd_Gallery_undo ["self"] (spD K mg 1 g_Gallery_undo)) {f_Gallery___eq__ : Addr} {fd_Gallery___eq__ : FuncData} (F_Gallery___eq__ : Fun K "__eq__" "Gallery.__eq__" s_Gallery___eq__ f_Gallery___eq__ fd_Gallery___eq__) (b_Gallery___eq__ : Binds K fd_Gallery___eq__ ["self", "other"] []) (me_Gallery___eq__ : MethG K mg "__eq__" f_Gallery___eq__) (G_Gallery___eq__ : FnOk P w K mg base (L2.CX P w) 17 f_Gallery___eq__ fd_Gallery___eq__ ["self", "other"] (spD K mg 2 g_Gallery___eq__)) {f_Gallery___repr__ : Addr} {fd_Gallery___repr__ : FuncData} (F_Gallery___repr__ : Fun K "__repr__" "Gallery.__repr__" s_Gallery___repr__ f_Gallery___repr__ fd_Gallery___repr__) (b_Gallery___repr__ : Binds K fd_Gallery___repr__ ["self"] []) (me_Gallery___repr__ : MethG K mg "__repr__" f_Gallery___repr__) (G_Gallery___repr__ : FnOk P w K mg base (L2.CX P w) 17 f_Gallery___repr__ fd_Gallery___repr__ ["self"] (spD K mg 1 g_Gallery___repr__)) (GL_Gallery___init__ : FnOk P w K mg base (L2.CX P w) 15 f_Gallery___init__ fd_Gallery___init__ ["self", "row", "houses"] (spD K mg 3 g_Gallery___init__)) (GL_Gallery___repr__ : FnOk P w K mg base (L2.CX P w) 15 f_Gallery___repr__ fd_Gallery___repr__ ["self"] (spD K mg 1 g_Gallery___repr__)) (m_range : mg "range" = none) (m_repr : mg "repr" = none) {C_Gal : Addr} (hGal : mg "Gallery" = some (.ref C_Gal)) (TG : ClsG K mg) (MkG : Mk K C_Gal f_Gallery___init__) (DF : DfG K fd_Gallery___init__) : FnOk P w K mg base (L2.CX P w) 18 f fd ["_law_pot_here"] (spD K mg 1 g_law_right) :=
  fn_den (k := 17) F sc_law_right fun cdv A outer s H E hr => (dss_cons (ds_asg (de_tup (da_cons (de_bin op_sub fSub_ok (de_bin (OpR.or op_mul op_rep) fMul_ok de_int (de_call G_law_take hr (by rfl) g_m_law_take F_law_take.kp b_law_take (fun σ => passAt (W := fun cls d _ H => E cls d H) (takes_of rfl rfl rfl rfl) σ) (da_cons (de_var 0) (da_cons de_int da_nil)))) de_int) (da_cons (de_bin op_addW fAdd_ok de_int (de_bin (OpR.or op_mul op_rep) fMul_ok de_int (de_call G_law_take hr (by rfl) g_m_law_take F_law_take.kp b_law_take (fun σ => passAt (W := fun cls d _ H => E cls d H) (takes_of rfl rfl rfl rfl) σ) (da_cons (de_var 0) (da_cons (de_bin op_pow fPow_ok de_int de_int) da_nil))))) da_nil))) (dg_tp rfl (dgs_cons (dg_nm 1 sc_law_right.nd) (dgs_cons (dg_nm 2 sc_law_right.nd) dgs_nil)))) (dss_cons (ds_asg (by exact (de_lc (own := [("_law_k", 8)]) .cl rfl sc_law_right.nd (di_rg1 (by rfl) m_range (da_cons de_int da_nil)) (blkOk_by (own := [("_law_k", 8)]) (N := ["_law_pot_here", "_law_base", "_law_gap", "_law_a", "_law_b", "_law_c", "_law_d", "_law_e", "_law_k", "_law_hall", "_law_rows", "_law_move", "_law_due", "_law_turn"]) (sc := defScope s_law_right) (by decide +kernel)) (fun _ _ _ _ _ => (dg_nm 8 sc_law_right.nd)) (fun _ _ _ _ _ => dts_nil) (fun _ _ _ _ _ => (de_bin op_addW fAdd_ok (de_var 1) (de_bin (OpR.or op_mul op_rep) fMul_ok (de_var 2) (de_var 8)))))) (dg_tp rfl (dgs_cons (dg_nm 3 sc_law_right.nd) (dgs_cons (dg_nm 4 sc_law_right.nd) (dgs_cons (dg_nm 5 sc_law_right.nd) (dgs_cons (dg_nm 6 sc_law_right.nd) (dgs_cons (dg_nm 7 sc_law_right.nd) dgs_nil))))))) (dss_cons (ds_set 9 sc_law_right.nd (de_make1 hGal MkG GL_Gallery___init__ (hr.mono (by decide)) (by rfl) DF (da_cons (de_tup (da_cons (de_var 4) (da_cons (de_var 6) (da_cons (de_var 3) (da_cons (de_var 7) (da_cons (de_var 5) da_nil)))))) da_nil))) (dss_cons (ds_set 10 sc_law_right.nd (de_cl (da_cons (de_tup (da_cons (de_tup (da_cons de_str (da_cons de_str (da_cons de_int da_nil)))) (da_cons (de_tup (da_cons (de_var 4) (da_cons (de_var 6) (da_cons (de_var 7) da_nil)))) da_nil))) (da_cons (de_tup (da_cons (de_tup (da_cons de_str (da_cons de_str (da_cons de_int da_nil)))) (da_cons (de_tup (da_cons (de_var 5) (da_cons (de_var 6) (da_cons (de_var 7) da_nil)))) da_nil))) da_nil)))) (dss_cons (ds_set 10 sc_law_right.nd (de_bin op_addW fAdd_ok (de_var 10) (de_cl (da_cons (de_tup (da_cons (de_tup (da_cons de_str (da_cons de_str (da_cons de_int da_nil)))) (da_cons (de_tup (da_cons de_str (da_cons de_str (da_cons de_int da_nil)))) da_nil))) (da_cons (de_tup (da_cons (de_tup (da_cons de_str (da_cons de_int da_nil))) (da_cons (de_cl da_nil) da_nil))) (da_cons (de_tup (da_cons (de_tup (da_cons de_str (da_cons (de_cl (da_cons de_int da_nil)) da_nil))) (da_cons de_non da_nil))) da_nil)))))) (dss_cons (ds_set 10 sc_law_right.nd (de_bin op_addW fAdd_ok (de_var 10) (de_cl (da_cons (de_tup (da_cons (de_tup (da_cons de_str (da_cons de_int da_nil))) (da_cons (de_cl (da_cons (de_tup (da_cons de_str (da_cons de_int da_nil))) da_nil)) da_nil))) (da_cons (de_tup (da_cons (de_tup (da_cons de_str da_nil)) (da_cons de_bl da_nil))) da_nil))))) (dss_cons (ds_set 10 sc_law_right.nd (de_bin op_addW fAdd_ok (de_var 10) (de_cl (da_cons (de_tup (da_cons (de_tup (da_cons de_str (da_cons de_int da_nil))) (da_cons (de_cl (da_cons (de_tup (da_cons de_str (da_cons de_int da_nil))) da_nil)) da_nil))) (da_cons (de_tup (da_cons (de_tup (da_cons de_str da_nil)) (da_cons de_bl da_nil))) da_nil))))) (dss_cons (ds_set 10 sc_law_right.nd (de_bin op_addW fAdd_ok (de_var 10) (de_cl (da_cons (de_tup (da_cons (de_tup (da_cons de_str (da_cons (de_bin op_addW fAdd_ok (de_var 7) de_int) (da_cons de_int da_nil)))) (da_cons (de_cl da_nil) da_nil))) (da_cons (de_tup (da_cons (de_tup (da_cons de_str (da_cons (de_bin op_addW fAdd_ok (de_var 5) de_int) (da_cons de_int da_nil)))) (da_cons (de_cl (da_cons (de_var 4) da_nil)) da_nil))) (da_cons (de_tup (da_cons (de_tup (da_cons de_str da_nil)) (da_cons de_bl da_nil))) (da_cons (de_tup (da_cons (de_tup (da_cons de_str da_nil)) (da_cons de_bl da_nil))) da_nil))))))) (dss_cons (ds_set 10 sc_law_right.nd (de_bin op_addW fAdd_ok (de_var 10) (de_cl (da_cons (de_tup (da_cons (de_tup (da_cons de_str (da_cons (de_var 6) da_nil))) (da_cons (de_cl (da_cons (de_var 3) (da_cons (de_var 5) da_nil))) da_nil))) (da_cons (de_tup (da_cons (de_tup (da_cons de_str da_nil)) (da_cons de_bl da_nil))) (da_cons (de_tup (da_cons (de_tup (da_cons de_str (da_cons (de_var 7) da_nil))) (da_cons (de_cl (da_cons (de_var 3) (da_cons (de_var 5) da_nil))) da_nil))) (da_cons (de_tup (da_cons (de_tup (da_cons de_str da_nil)) (da_cons de_bl da_nil))) da_nil))))))) (dss_cons (ds_set 10 sc_law_right.nd (de_bin op_addW fAdd_ok (de_var 10) (de_cl (da_cons (de_tup (da_cons (de_tup (da_cons de_str (da_cons de_str (da_cons de_int da_nil)))) (da_cons de_non da_nil))) (da_cons (de_tup (da_cons (de_tup (da_cons de_str (da_cons de_int da_nil))) (da_cons (de_cl da_nil) da_nil))) (da_cons (de_tup (da_cons (de_tup (da_cons de_str (da_cons de_str (da_cons de_int da_nil)))) (da_cons (de_tup (da_cons de_str (da_cons de_str (da_cons de_int da_nil)))) da_nil))) da_nil)))))) (dss_cons (ds_for (passes rfl) rfl (di_seq (de_var 10)) (dg_tp rfl (dgs_cons (dg_nm 11 sc_law_right.nd) (dgs_cons (dg_nm 12 sc_law_right.nd) dgs_nil))) (dss_one (ds_if (dt_not (dt_val (de_call G_law_same hr (by rfl) g_m_law_same F_law_same.kp b_law_same (fun σ => passAt (W := fun cls d _ H => E cls d H) (takes_of rfl rfl rfl rfl) σ) (da_cons (de_call G_law_act hr (by rfl) g_m_law_act F_law_act.kp b_law_act (fun σ => passAt (W := fun cls d _ H => E cls d H) (takes_of rfl rfl rfl rfl) σ) (da_cons (de_var 9) (da_cons (de_var 11) da_nil))) (da_cons (de_var 12) da_nil))))) (dss_one (ds_ret de_bl)) dss_nil))) (dss_cons (ds_if (dt_not (dt_val (de_call G_law_same hr (by rfl) g_m_law_same F_law_same.kp b_law_same (fun σ => passAt (W := fun cls d _ H => E cls d H) (takes_of rfl rfl rfl rfl) σ) (da_cons (de_cl (da_cons (de_meth0 hGal TG me_Gallery_row (by decide) G_Gallery_row hr b_Gallery_row (fun σ => passAt (W := fun cls d _ H => E cls d H) (takes_of rfl rfl rfl rfl) σ) (de_var 9)) (da_cons (de_meth0 hGal TG me_Gallery_houses (by decide) G_Gallery_houses hr b_Gallery_houses (fun σ => passAt (W := fun cls d _ H => E cls d H) (takes_of rfl rfl rfl rfl) σ) (de_var 9)) da_nil))) (da_cons (de_cl (da_cons (de_tup (da_cons (de_var 4) (da_cons (de_var 6) (da_cons (de_var 7) (da_cons (de_var 3) (da_cons (de_var 5) da_nil)))))) (da_cons (de_tup (da_cons (de_tup (da_cons de_int da_nil)) (da_cons (de_tup da_nil) da_nil))) da_nil))) da_nil))))) (dss_one (ds_ret de_bl)) dss_nil) (dss_cons (ds_for (passes rfl) rfl (di_rg1 (by rfl) m_range (da_cons (de_meth0 hGal TG me_Gallery_deeds (by decide) G_Gallery_deeds hr b_Gallery_deeds (fun σ => passAt (W := fun cls d _ H => E cls d H) (takes_of rfl rfl rfl rfl) σ) (de_var 9)) da_nil)) (dg_nm 13 sc_law_right.nd) (dss_one (ds_expr (de_meth0 hGal TG me_Gallery_undo (by decide) G_Gallery_undo hr b_Gallery_undo (fun σ => passAt (W := fun cls d _ H => E cls d H) (takes_of rfl rfl rfl rfl) σ) (de_var 9))))) (dss_one (ds_ret (de_and (de_cmp op_is_bl fIsB_ok (de_meth0 hGal TG me_Gallery_undo (by decide) G_Gallery_undo hr b_Gallery_undo (fun σ => passAt (W := fun cls d _ H => E cls d H) (takes_of rfl rfl rfl rfl) σ) (de_var 9)) de_bl) (de_and (de_eqA hGal me_Gallery___eq__ G_Gallery___eq__ hr b_Gallery___eq__ (de_var 9) (de_make1 hGal MkG GL_Gallery___init__ (hr.mono (by decide)) (by rfl) DF (da_cons (de_tup (da_cons (de_var 4) (da_cons (de_var 6) (da_cons (de_var 3) (da_cons (de_var 7) (da_cons (de_var 5) da_nil)))))) da_nil))) (de_one (de_cmp op_eq fEqS_ok (de_reprI hGal me_Gallery___repr__ GL_Gallery___repr__ (hr.mono (by decide)) b_Gallery___repr__ (by rfl) m_repr (de_var 9)) de_str)))))))))))))))))))
/-! ### _law_pot -/
abbrev s_law_pot : Stmt := topS 40
theorem sc_law_pot : FnScope ["_law_script", "_law_k", "_law_cell"] ["_law_script", "_law_k"] (defScope s_law_pot) := ⟨rfl, rfl, rfl, by decide +kernel, rfl, by decide +kernel, by decide +kernel⟩
theorem ok_law_pot {f : Addr} {fd : FuncData} (F : Fun K "_law_pot" "_law_pot" s_law_pot f fd) (m_len : mg "len" = none) (m_abs : mg "abs" = none) (m_int : mg "int" = none) : FnOk P w K mg base (L2.CX P w) 1 f fd ["_law_script", "_law_k"] (spD K mg 2 g_law_pot) :=
  fn_den (k := 0) F sc_law_pot fun cdv A outer s H E hr => (dss_cons (ds_set 2 sc_law_pot.nd de_int) (dss_cons (ds_if (dt_cmp op_lt fCmp_ok (de_var 1) (de_callB call_len_seq fLen_ok (by rfl) m_len PySem.boot_len (da_cons (de_var 0) da_nil))) (dss_one (ds_set 2 sc_law_pot.nd (de_ix (ix_list.or ix_tup) fIx_ok (de_var 0) (de_var 1)))) dss_nil) (dss_one (ds_ret (de_lst (da_cons (de_bin (OpR.or op_mul op_rep) fMul_ok (de_callB call_abs fAbs_ok (by rfl) m_abs (by decide +kernel) (da_cons (de_var 2) da_nil)) (de_callTy call_int1 fInt_ok (by rfl) m_int (by decide +kernel) (da_cons (de_cmp op_ge fCmp_ok (de_callB call_abs fAbs_ok (by rfl) m_abs (by decide +kernel) (da_cons (de_var 2) da_nil)) (de_bin op_pow fPow_ok de_int de_int)) da_nil))) (da_cons (de_bin op_mod fMod_ok (de_bin (OpR.or op_mul op_rep) fMul_ok (de_bin op_addW fAdd_ok (de_bin op_addW fAdd_ok (de_bin op_mod fMod_ok (de_var 2) de_int) (de_bin (OpR.or op_mul op_rep) fMul_ok de_int (de_var 1))) de_int) de_int) de_int) (da_cons de_int da_nil))))))))
/-! ### law -/
abbrev s_law : Stmt := topS 47
theorem sc_law : FnScope ["_law_script", "_law_k"] ["_law_script"] (defScope s_law) := ⟨rfl, rfl, rfl, by decide +kernel, rfl, by decide +kernel, by decide +kernel⟩
theorem ok_law {f : Addr} {fd : FuncData} (F : Fun K "law" "law" s_law f fd) {f_law_right : Addr} {fd_law_right : FuncData} (F_law_right : Fun K "_law_right" "_law_right" s_law_right f_law_right fd_law_right) (b_law_right : Binds K fd_law_right ["_law_pot_here"] []) (g_m_law_right : mg "_law_right" = some (.ref f_law_right)) (G_law_right : FnOk P w K mg base (L2.CX P w) 18 f_law_right fd_law_right ["_law_pot_here"] (spD K mg 1 g_law_right)) {f_law_pot : Addr} {fd_law_pot : FuncData} (F_law_pot : Fun K "_law_pot" "_law_pot" s_law_pot f_law_pot fd_law_pot) (b_law_pot : Binds K fd_law_pot ["_law_script", "_law_k"] []) (g_m_law_pot : mg "_law_pot" = some (.ref f_law_pot)) (G_law_pot : FnOk P w K mg base (L2.CX P w) 18 f_law_pot fd_law_pot ["_law_script", "_law_k"] (spD K mg 2 g_law_pot)) (m_len : mg "len" = none) (m_min : mg "min" = none) (m_max : mg "max" = none) (m_range : mg "range" = none) (m_all : mg "all" = none) : FnOk P w K mg base (L2.CX P w) 19 f fd ["_law_script"] (spD K mg 1 g_law) :=
  fn_den (k := 18) F sc_law fun cdv A outer s H E hr => (dss_one (ds_ret (de_callB (cr_all rfl) fAll_ok (by rfl) m_all (by decide +kernel) (da_cons (by exact (de_lc (own := [("_law_k", 1)]) .cl rfl sc_law.nd (di_rg1 (by rfl) m_range (da_cons (de_callB (call_max2 rfl) fMax2_ok (by rfl) m_max (by decide +kernel) (da_cons de_int (da_cons (de_callB (call_min2 rfl) fMin2_ok (by rfl) m_min (by decide +kernel) (da_cons de_int (da_cons (de_callB call_len_seq fLen_ok (by rfl) m_len PySem.boot_len (da_cons (de_var 0) da_nil)) da_nil))) da_nil))) da_nil)) (blkOk_by (own := [("_law_k", 1)]) (N := ["_law_script", "_law_k"]) (sc := defScope s_law) (by decide +kernel)) (fun _ _ _ _ _ => (dg_nm 1 sc_law.nd)) (fun _ _ _ _ _ => dts_nil) (fun _ _ _ _ _ => (de_call G_law_right hr (by rfl) g_m_law_right F_law_right.kp b_law_right px0 (da_cons (de_call G_law_pot hr (by rfl) g_m_law_pot F_law_pot.kp b_law_pot px0 (da_cons (de_var 0) (da_cons (de_var 1) da_nil))) da_nil))))) da_nil))))
end
end Den

namespace Den
open PySem PySem.Spec PyProof.Rows L2 Bal
abbrev si_Known : Stmt := inClass (topS 2) 0
theorem sci_Known : FnScope ["self", "who"] ["self", "who"] (defScope si_Known) := ⟨rfl, rfl, rfl, by decide +kernel, rfl, by decide +kernel, by decide +kernel⟩
theorem ok_i_Known {P : Program} {w : World} {K : PySem.W.Frag} {mg : Str → Option Value} {base : Heap} {C fI : Addr} {fdI : FuncData} {newId : String} {tail : List Value} {k : Nat} (T : ErT K mg "Known" "who" "Known.__init__" si_Known C fI fdI newId tail) : FnOk P w K mg base CX0 (k + 1) fI fdI ["self", "who"] (spInit K C "who") := by
  refine T.F.ok sci_Known (fun vs H Q E h => ?_) (fun cdv A outer s H vs Q E hr h => ?_)
  · obtain ⟨a, v, rfl, _⟩ := h
    rfl
  · obtain ⟨a, v, rfl, ha, q⟩ := h
    exact ⟨_, pss_one (ps_est (pv 0) (pv 1)), v, rfl, .ref a, rfl, a, C, newId, tail, rfl, T.c, T.no, ha, fun dx nd ne => q dx nd ne⟩
abbrev si_NoSide : Stmt := inClass (topS 3) 0
theorem sci_NoSide : FnScope ["self", "side"] ["self", "side"] (defScope si_NoSide) := ⟨rfl, rfl, rfl, by decide +kernel, rfl, by decide +kernel, by decide +kernel⟩
theorem ok_i_NoSide {P : Program} {w : World} {K : PySem.W.Frag} {mg : Str → Option Value} {base : Heap} {C fI : Addr} {fdI : FuncData} {newId : String} {tail : List Value} {k : Nat} (T : ErT K mg "NoSide" "side" "NoSide.__init__" si_NoSide C fI fdI newId tail) : FnOk P w K mg base CX0 (k + 1) fI fdI ["self", "side"] (spInit K C "side") := by
  refine T.F.ok sci_NoSide (fun vs H Q E h => ?_) (fun cdv A outer s H vs Q E hr h => ?_)
  · obtain ⟨a, v, rfl, _⟩ := h
    rfl
  · obtain ⟨a, v, rfl, ha, q⟩ := h
    exact ⟨_, pss_one (ps_est (pv 0) (pv 1)), v, rfl, .ref a, rfl, a, C, newId, tail, rfl, T.c, T.no, ha, fun dx nd ne => q dx nd ne⟩
abbrev si_NoOne : Stmt := inClass (topS 4) 0
theorem sci_NoOne : FnScope ["self", "who"] ["self", "who"] (defScope si_NoOne) := ⟨rfl, rfl, rfl, by decide +kernel, rfl, by decide +kernel, by decide +kernel⟩
theorem ok_i_NoOne {P : Program} {w : World} {K : PySem.W.Frag} {mg : Str → Option Value} {base : Heap} {C fI : Addr} {fdI : FuncData} {newId : String} {tail : List Value} {k : Nat} (T : ErT K mg "NoOne" "who" "NoOne.__init__" si_NoOne C fI fdI newId tail) : FnOk P w K mg base CX0 (k + 1) fI fdI ["self", "who"] (spInit K C "who") := by
  refine T.F.ok sci_NoOne (fun vs H Q E h => ?_) (fun cdv A outer s H vs Q E hr h => ?_)
  · obtain ⟨a, v, rfl, _⟩ := h
    rfl
  · obtain ⟨a, v, rfl, ha, q⟩ := h
    exact ⟨_, pss_one (ps_est (pv 0) (pv 1)), v, rfl, .ref a, rfl, a, C, newId, tail, rfl, T.c, T.no, ha, fun dx nd ne => q dx nd ne⟩
abbrev si_NoPlace : Stmt := inClass (topS 5) 0
theorem sci_NoPlace : FnScope ["self", "place"] ["self", "place"] (defScope si_NoPlace) := ⟨rfl, rfl, rfl, by decide +kernel, rfl, by decide +kernel, by decide +kernel⟩
theorem ok_i_NoPlace {P : Program} {w : World} {K : PySem.W.Frag} {mg : Str → Option Value} {base : Heap} {C fI : Addr} {fdI : FuncData} {newId : String} {tail : List Value} {k : Nat} (T : ErT K mg "NoPlace" "place" "NoPlace.__init__" si_NoPlace C fI fdI newId tail) : FnOk P w K mg base CX0 (k + 1) fI fdI ["self", "place"] (spInit K C "place") := by
  refine T.F.ok sci_NoPlace (fun vs H Q E h => ?_) (fun cdv A outer s H vs Q E hr h => ?_)
  · obtain ⟨a, v, rfl, _⟩ := h
    rfl
  · obtain ⟨a, v, rfl, ha, q⟩ := h
    exact ⟨_, pss_one (ps_est (pv 0) (pv 1)), v, rfl, .ref a, rfl, a, C, newId, tail, rfl, T.c, T.no, ha, fun dx nd ne => q dx nd ne⟩
abbrev si_NoFloor : Stmt := inClass (topS 6) 0
theorem sci_NoFloor : FnScope ["self", "floor"] ["self", "floor"] (defScope si_NoFloor) := ⟨rfl, rfl, rfl, by decide +kernel, rfl, by decide +kernel, by decide +kernel⟩
theorem ok_i_NoFloor {P : Program} {w : World} {K : PySem.W.Frag} {mg : Str → Option Value} {base : Heap} {C fI : Addr} {fdI : FuncData} {newId : String} {tail : List Value} {k : Nat} (T : ErT K mg "NoFloor" "floor" "NoFloor.__init__" si_NoFloor C fI fdI newId tail) : FnOk P w K mg base CX0 (k + 1) fI fdI ["self", "floor"] (spInit K C "floor") := by
  refine T.F.ok sci_NoFloor (fun vs H Q E h => ?_) (fun cdv A outer s H vs Q E hr h => ?_)
  · obtain ⟨a, v, rfl, _⟩ := h
    rfl
  · obtain ⟨a, v, rfl, ha, q⟩ := h
    exact ⟨_, pss_one (ps_est (pv 0) (pv 1)), v, rfl, .ref a, rfl, a, C, newId, tail, rfl, T.c, T.no, ha, fun dx nd ne => q dx nd ne⟩
abbrev si_Seen : Stmt := inClass (topS 7) 0
theorem sci_Seen : FnScope ["self", "place"] ["self", "place"] (defScope si_Seen) := ⟨rfl, rfl, rfl, by decide +kernel, rfl, by decide +kernel, by decide +kernel⟩
theorem ok_i_Seen {P : Program} {w : World} {K : PySem.W.Frag} {mg : Str → Option Value} {base : Heap} {C fI : Addr} {fdI : FuncData} {newId : String} {tail : List Value} {k : Nat} (T : ErT K mg "Seen" "place" "Seen.__init__" si_Seen C fI fdI newId tail) : FnOk P w K mg base CX0 (k + 1) fI fdI ["self", "place"] (spInit K C "place") := by
  refine T.F.ok sci_Seen (fun vs H Q E h => ?_) (fun cdv A outer s H vs Q E hr h => ?_)
  · obtain ⟨a, v, rfl, _⟩ := h
    rfl
  · obtain ⟨a, v, rfl, ha, q⟩ := h
    exact ⟨_, pss_one (ps_est (pv 0) (pv 1)), v, rfl, .ref a, rfl, a, C, newId, tail, rfl, T.c, T.no, ha, fun dx nd ne => q dx nd ne⟩
abbrev si_Stands : Stmt := inClass (topS 8) 0
theorem sci_Stands : FnScope ["self", "floor"] ["self", "floor"] (defScope si_Stands) := ⟨rfl, rfl, rfl, by decide +kernel, rfl, by decide +kernel, by decide +kernel⟩
theorem ok_i_Stands {P : Program} {w : World} {K : PySem.W.Frag} {mg : Str → Option Value} {base : Heap} {C fI : Addr} {fdI : FuncData} {newId : String} {tail : List Value} {k : Nat} (T : ErT K mg "Stands" "floor" "Stands.__init__" si_Stands C fI fdI newId tail) : FnOk P w K mg base CX0 (k + 1) fI fdI ["self", "floor"] (spInit K C "floor") := by
  refine T.F.ok sci_Stands (fun vs H Q E h => ?_) (fun cdv A outer s H vs Q E hr h => ?_)
  · obtain ⟨a, v, rfl, _⟩ := h
    rfl
  · obtain ⟨a, v, rfl, ha, q⟩ := h
    exact ⟨_, pss_one (ps_est (pv 0) (pv 1)), v, rfl, .ref a, rfl, a, C, newId, tail, rfl, T.c, T.no, ha, fun dx nd ne => q dx nd ne⟩
/-! ### what the top has written -/
theorem all_mk {l : PySem.W.OpenLaw} {w : World} {K : PySem.W.Frag} {h : Heap} {mg : Str → Option Value} {fa : Addr} (X : K.In h) (G : h.Ns mainGlobals mg) (hfa : mg "law" = some (.ref fa)) (OTD42 : ∀ f, mg "_law_right" = some (.ref f) → Den.OwnT K f h)
    {CG : Addr}
    {DDf A0f E1f E2f : Addr} {it0f it1f it2f : Array Value} {n0f n1f n2f : Nat} {sl0f sl1f sl2f : Array (Option Value)}
    {fD0 : Addr} {odD0 anD0 : Option Addr} {slD0 : Array (Option Value)} {ocD0 kVD0 dcD0 pmD0 cdD0 ctD0 : Value}
    {fD1 : Addr} {odD1 anD1 : Option Addr} {slD1 : Array (Option Value)} {ocD1 kVD1 dcD1 pmD1 cdD1 ctD1 : Value}
    {fD2 : Addr} {odD2 anD2 : Option Addr} {slD2 : Array (Option Value)} {ocD2 kVD2 dcD2 pmD2 cdD2 ctD2 : Value}
    {fD3 : Addr} {odD3 anD3 : Option Addr} {slD3 : Array (Option Value)} {ocD3 kVD3 dcD3 pmD3 cdD3 ctD3 : Value}
    {fD4 : Addr} {odD4 anD4 : Option Addr} {slD4 : Array (Option Value)} {ocD4 kVD4 dcD4 pmD4 cdD4 ctD4 : Value}
    {fD5 : Addr} {odD5 anD5 : Option Addr} {slD5 : Array (Option Value)} {ocD5 kVD5 dcD5 pmD5 cdD5 ctD5 : Value}
    {fD6 : Addr} {odD6 anD6 : Option Addr} {slD6 : Array (Option Value)} {ocD6 kVD6 dcD6 pmD6 cdD6 ctD6 : Value}
    {fD7 : Addr} {odD7 anD7 : Option Addr} {slD7 : Array (Option Value)} {ocD7 kVD7 dcD7 pmD7 cdD7 ctD7 : Value}
    {fD8 : Addr} {odD8 anD8 : Option Addr} {slD8 : Array (Option Value)} {ocD8 kVD8 dcD8 pmD8 cdD8 ctD8 : Value}
    {fD9 : Addr} {odD9 anD9 : Option Addr} {slD9 : Array (Option Value)} {ocD9 kVD9 dcD9 pmD9 cdD9 ctD9 : Value}
    {fD10 : Addr} {odD10 anD10 : Option Addr} {slD10 : Array (Option Value)} {ocD10 kVD10 dcD10 pmD10 cdD10 ctD10 : Value}
    {fD11 : Addr} {odD11 anD11 : Option Addr} {slD11 : Array (Option Value)} {ocD11 kVD11 dcD11 pmD11 cdD11 ctD11 : Value}
    {fD12 : Addr} {odD12 anD12 : Option Addr} {slD12 : Array (Option Value)} {ocD12 kVD12 dcD12 pmD12 cdD12 ctD12 : Value}
    {fD13 : Addr} {odD13 anD13 : Option Addr} {slD13 : Array (Option Value)} {ocD13 kVD13 dcD13 pmD13 cdD13 ctD13 : Value}
    {fD14 : Addr} {odD14 anD14 : Option Addr} {slD14 : Array (Option Value)} {ocD14 kVD14 dcD14 pmD14 cdD14 ctD14 : Value}
    {fD15 : Addr} {odD15 anD15 : Option Addr} {slD15 : Array (Option Value)} {ocD15 kVD15 dcD15 pmD15 cdD15 ctD15 : Value}
    {fD16 : Addr} {odD16 anD16 : Option Addr} {slD16 : Array (Option Value)} {ocD16 kVD16 dcD16 pmD16 cdD16 ctD16 : Value}
    {fD17 : Addr} {odD17 anD17 : Option Addr} {slD17 : Array (Option Value)} {ocD17 kVD17 dcD17 pmD17 cdD17 ctD17 : Value}
    {fD18 : Addr} {odD18 anD18 : Option Addr} {slD18 : Array (Option Value)} {ocD18 kVD18 dcD18 pmD18 cdD18 ctD18 : Value}
    {fD19 : Addr} {odD19 anD19 : Option Addr} {slD19 : Array (Option Value)} {ocD19 kVD19 dcD19 pmD19 cdD19 ctD19 : Value}
    {fD20 : Addr} {odD20 anD20 : Option Addr} {slD20 : Array (Option Value)} {ocD20 kVD20 dcD20 pmD20 cdD20 ctD20 : Value}
    {fD21 : Addr} {odD21 anD21 : Option Addr} {slD21 : Array (Option Value)} {ocD21 kVD21 dcD21 pmD21 cdD21 ctD21 : Value}
    {fD22 : Addr} {odD22 anD22 : Option Addr} {slD22 : Array (Option Value)} {ocD22 kVD22 dcD22 pmD22 cdD22 ctD22 : Value}
    {fD23 : Addr} {odD23 anD23 : Option Addr} {slD23 : Array (Option Value)} {ocD23 kVD23 dcD23 pmD23 cdD23 ctD23 : Value}
    {fD24 : Addr} {odD24 anD24 : Option Addr} {slD24 : Array (Option Value)} {ocD24 kVD24 dcD24 pmD24 cdD24 ctD24 : Value}
    {fD25 : Addr} {odD25 anD25 : Option Addr} {slD25 : Array (Option Value)} {ocD25 kVD25 dcD25 pmD25 cdD25 ctD25 : Value}
    {fD26 : Addr} {odD26 anD26 : Option Addr} {slD26 : Array (Option Value)} {ocD26 kVD26 dcD26 pmD26 cdD26 ctD26 : Value}
    {fD27 : Addr} {odD27 anD27 : Option Addr} {slD27 : Array (Option Value)} {ocD27 kVD27 dcD27 pmD27 cdD27 ctD27 : Value}
    {fD28 : Addr} {odD28 anD28 : Option Addr} {slD28 : Array (Option Value)} {ocD28 kVD28 dcD28 pmD28 cdD28 ctD28 : Value}
    {fD29 : Addr} {odD29 anD29 : Option Addr} {slD29 : Array (Option Value)} {ocD29 kVD29 dcD29 pmD29 cdD29 ctD29 : Value}
    {fD30 : Addr} {odD30 anD30 : Option Addr} {slD30 : Array (Option Value)} {ocD30 kVD30 dcD30 pmD30 cdD30 ctD30 : Value}
    {fD31 : Addr} {odD31 anD31 : Option Addr} {slD31 : Array (Option Value)} {ocD31 kVD31 dcD31 pmD31 cdD31 ctD31 : Value}
    {fD32 : Addr} {odD32 anD32 : Option Addr} {slD32 : Array (Option Value)} {ocD32 kVD32 dcD32 pmD32 cdD32 ctD32 : Value}
    {fD33 : Addr} {odD33 anD33 : Option Addr} {slD33 : Array (Option Value)} {ocD33 kVD33 dcD33 pmD33 cdD33 ctD33 : Value}
    {fD34 : Addr} {odD34 anD34 : Option Addr} {slD34 : Array (Option Value)} {ocD34 kVD34 dcD34 pmD34 cdD34 ctD34 : Value}
    {fD35 : Addr} {odD35 anD35 : Option Addr} {slD35 : Array (Option Value)} {ocD35 kVD35 dcD35 pmD35 cdD35 ctD35 : Value}
    {fD36 : Addr} {odD36 anD36 : Option Addr} {slD36 : Array (Option Value)} {ocD36 kVD36 dcD36 pmD36 cdD36 ctD36 : Value}
    {fD37 : Addr} {odD37 anD37 : Option Addr} {slD37 : Array (Option Value)} {ocD37 kVD37 dcD37 pmD37 cdD37 ctD37 : Value}
    {fD38 : Addr} {odD38 anD38 : Option Addr} {slD38 : Array (Option Value)} {ocD38 kVD38 dcD38 pmD38 cdD38 ctD38 : Value}
    {fD39 : Addr} {odD39 anD39 : Option Addr} {slD39 : Array (Option Value)} {ocD39 kVD39 dcD39 pmD39 cdD39 ctD39 : Value}
    {fD40 : Addr} {odD40 anD40 : Option Addr} {slD40 : Array (Option Value)} {ocD40 kVD40 dcD40 pmD40 cdD40 ctD40 : Value}
    {fD41 : Addr} {odD41 anD41 : Option Addr} {slD41 : Array (Option Value)} {ocD41 kVD41 dcD41 pmD41 cdD41 ctD41 : Value}
    {fD42 : Addr} {odD42 anD42 : Option Addr} {slD42 : Array (Option Value)} {ocD42 kVD42 dcD42 pmD42 cdD42 ctD42 : Value}
    {fD43 : Addr} {odD43 anD43 : Option Addr} {slD43 : Array (Option Value)} {ocD43 kVD43 dcD43 pmD43 cdD43 ctD43 : Value}
    {fD44 : Addr} {odD44 anD44 : Option Addr} {slD44 : Array (Option Value)} {ocD44 kVD44 dcD44 pmD44 cdD44 ctD44 : Value}
    {CE0 iE0 : Addr} {nmE0 qnE0 : Str} {NE0 : Addr} {bsE0 : List Value} {snE0 : List Str} {sbE0 : List Value} {abE0 : Bool} {coE0 : Option Bool} {ddE0 : Option Addr} {m0E0 m1E0 m2E0 m3E0 m5E0 : Option Value} {odE0 anE0 : Option Addr} {slE0 : Array (Option Value)} {ocE0 kVE0 dcE0 pmE0 cdE0 ctE0 : Value}
    {CE1 iE1 : Addr} {nmE1 qnE1 : Str} {NE1 : Addr} {bsE1 : List Value} {snE1 : List Str} {sbE1 : List Value} {abE1 : Bool} {coE1 : Option Bool} {ddE1 : Option Addr} {m0E1 m1E1 m2E1 m3E1 m5E1 : Option Value} {odE1 anE1 : Option Addr} {slE1 : Array (Option Value)} {ocE1 kVE1 dcE1 pmE1 cdE1 ctE1 : Value}
    {CE2 iE2 : Addr} {nmE2 qnE2 : Str} {NE2 : Addr} {bsE2 : List Value} {snE2 : List Str} {sbE2 : List Value} {abE2 : Bool} {coE2 : Option Bool} {ddE2 : Option Addr} {m0E2 m1E2 m2E2 m3E2 m5E2 : Option Value} {odE2 anE2 : Option Addr} {slE2 : Array (Option Value)} {ocE2 kVE2 dcE2 pmE2 cdE2 ctE2 : Value}
    {CE3 iE3 : Addr} {nmE3 qnE3 : Str} {NE3 : Addr} {bsE3 : List Value} {snE3 : List Str} {sbE3 : List Value} {abE3 : Bool} {coE3 : Option Bool} {ddE3 : Option Addr} {m0E3 m1E3 m2E3 m3E3 m5E3 : Option Value} {odE3 anE3 : Option Addr} {slE3 : Array (Option Value)} {ocE3 kVE3 dcE3 pmE3 cdE3 ctE3 : Value}
    {CE4 iE4 : Addr} {nmE4 qnE4 : Str} {NE4 : Addr} {bsE4 : List Value} {snE4 : List Str} {sbE4 : List Value} {abE4 : Bool} {coE4 : Option Bool} {ddE4 : Option Addr} {m0E4 m1E4 m2E4 m3E4 m5E4 : Option Value} {odE4 anE4 : Option Addr} {slE4 : Array (Option Value)} {ocE4 kVE4 dcE4 pmE4 cdE4 ctE4 : Value}
    {CE5 iE5 : Addr} {nmE5 qnE5 : Str} {NE5 : Addr} {bsE5 : List Value} {snE5 : List Str} {sbE5 : List Value} {abE5 : Bool} {coE5 : Option Bool} {ddE5 : Option Addr} {m0E5 m1E5 m2E5 m3E5 m5E5 : Option Value} {odE5 anE5 : Option Addr} {slE5 : Array (Option Value)} {ocE5 kVE5 dcE5 pmE5 cdE5 ctE5 : Value}
    {CE6 iE6 : Addr} {nmE6 qnE6 : Str} {NE6 : Addr} {bsE6 : List Value} {snE6 : List Str} {sbE6 : List Value} {abE6 : Bool} {coE6 : Option Bool} {ddE6 : Option Addr} {m0E6 m1E6 m2E6 m3E6 m5E6 : Option Value} {odE6 anE6 : Option Addr} {slE6 : Array (Option Value)} {ocE6 kVE6 dcE6 pmE6 cdE6 ctE6 : Value}
    {CE7 : Addr}
    {cTD42 PTD42 : Addr} {eTD42 : Value} {dTD42 : Option Addr} {vTD42 : Array Value} {sTD42 : Array (Option Value)}
    {uSIDES : Addr} {tSIDES0 tSIDES1 : Tok} {nSIDES : Nat} {slSIDES : Array (Option Value)}
    (nf0 : PySem.W.findIn K (.ref CE0) "floor" = some none)
    (nf1 : PySem.W.findIn K (.ref CE1) "floor" = some none)
    (nf2 : PySem.W.findIn K (.ref CE2) "floor" = some none)
    (nf3 : PySem.W.findIn K (.ref CE3) "floor" = some none)
    (nf4 : PySem.W.findIn K (.ref CE5) "floor" = some none)
    (nf5 : PySem.W.findIn K (.ref CE7) "floor" = some none)
    (nf6 : PySem.W.findIn K (.ref CE0) "place" = some none)
    (nf7 : PySem.W.findIn K (.ref CE1) "place" = some none)
    (nf8 : PySem.W.findIn K (.ref CE2) "place" = some none)
    (nf9 : PySem.W.findIn K (.ref CE4) "place" = some none)
    (nf10 : PySem.W.findIn K (.ref CE6) "place" = some none)
    (nf11 : PySem.W.findIn K (.ref CE7) "place" = some none)
    (nf12 : PySem.W.findIn K (.ref CE0) "side" = some none)
    (nf13 : PySem.W.findIn K (.ref CE2) "side" = some none)
    (nf14 : PySem.W.findIn K (.ref CE3) "side" = some none)
    (nf15 : PySem.W.findIn K (.ref CE4) "side" = some none)
    (nf16 : PySem.W.findIn K (.ref CE5) "side" = some none)
    (nf17 : PySem.W.findIn K (.ref CE6) "side" = some none)
    (nf18 : PySem.W.findIn K (.ref CE7) "side" = some none)
    (nf19 : PySem.W.findIn K (.ref CE1) "who" = some none)
    (nf20 : PySem.W.findIn K (.ref CE3) "who" = some none)
    (nf21 : PySem.W.findIn K (.ref CE4) "who" = some none)
    (nf22 : PySem.W.findIn K (.ref CE5) "who" = some none)
    (nf23 : PySem.W.findIn K (.ref CE6) "who" = some none)
    (nf24 : PySem.W.findIn K (.ref CE7) "who" = some none)
    (aSIDES : PySem.W.nsIn K mainGlobals "SIDES" = some (some (.ref uSIDES))) (lSIDES : K.lookup uSIDES = some ⟨.type "tuple", none, .seq #[.str "left" tSIDES0, .str "right" tSIDES1] nSIDES, slSIDES⟩)
    (aG : PySem.W.nsIn K mainGlobals "Gallery" = some (some (.ref CG))) (pgG : PySem.W.plainGet K CG Str.empty = true) (hdG : PySem.W.hasDictIn K CG = true) (poG : PySem.W.plainOver K CG = true) (saG : PySem.W.findIn K (.ref CG) "__setattr__" = some (some (.builtin "object.__setattr__"))) (faG : PySem.W.findIn K (.ref CG) "past" = some none) (fbG : PySem.W.findIn K (.ref CG) "notes" = some none)
    (mkG : PySem.W.makesIn K CG = true) (kpG : PySem.W.keepIn K (.ref CG) = true)
    (clG : PySem.W.findIn K (.ref CG) "__class__" = some (some (.builtin "object.__class__"))) (moG : PySem.W.mroIn K CG (.type "object") = some true) (kiG : PySem.W.kitOne K (.ref CG) (.ref CG) = some true)
    (kcG : ((PySem.W.clsIn K CG).isSome && PySem.W.typeIn K (.ref CG) == some (.type "type")) = true) (neG : PySem.W.findIn K (.ref CG) "__ne__" = some (some (.builtin "object.__ne__")))
    (aD0 : PySem.W.nsIn K mainGlobals "_law_take" = some (some (.ref fD0))) (lD0 : K.lookup fD0 = some ⟨ocD0, odD0, .func (PySem.W.fnOf "_law_take" "_law_take" (defArgs s_law_take) (defBody s_law_take) (defScope s_law_take) .none kVD0 dcD0 pmD0 anD0 cdD0 ctD0), slD0⟩) (cD0 : PySem.W.codeIn K cdD0 "_law_take" = true) (kD0 : PySem.W.keepIn K (.ref fD0) = true)
    (aD1 : PySem.W.findIn K (.ref CG) "__init__" = some (some (.ref fD1))) (lD1 : K.lookup fD1 = some ⟨ocD1, odD1, .func (PySem.W.fnOf "__init__" "Gallery.__init__" (defArgs s_Gallery___init__) (defBody s_Gallery___init__) (defScope s_Gallery___init__) .none kVD1 dcD1 pmD1 anD1 cdD1 ctD1), slD1⟩) (cD1 : PySem.W.codeIn K cdD1 "Gallery.__init__" = true) (kD1 : PySem.W.keepIn K (.ref fD1) = true) (iD1 : PySem.W.isFn K (.ref fD1) = true)
    (aD2 : PySem.W.nsIn K mainGlobals "_law_same" = some (some (.ref fD2))) (lD2 : K.lookup fD2 = some ⟨ocD2, odD2, .func (PySem.W.fnOf "_law_same" "_law_same" (defArgs s_law_same) (defBody s_law_same) (defScope s_law_same) .none kVD2 dcD2 pmD2 anD2 cdD2 ctD2), slD2⟩) (cD2 : PySem.W.codeIn K cdD2 "_law_same" = true) (kD2 : PySem.W.keepIn K (.ref fD2) = true)
    (aD3 : PySem.W.findIn K (.ref CG) "keep" = some (some (.ref fD3))) (lD3 : K.lookup fD3 = some ⟨ocD3, odD3, .func (PySem.W.fnOf "keep" "Gallery.keep" (defArgs s_Gallery_keep) (defBody s_Gallery_keep) (defScope s_Gallery_keep) .none kVD3 dcD3 pmD3 anD3 cdD3 ctD3), slD3⟩) (cD3 : PySem.W.codeIn K cdD3 "Gallery.keep" = true) (kD3 : PySem.W.keepIn K (.ref fD3) = true) (iD3 : PySem.W.isFn K (.ref fD3) = true)
    (aD4 : PySem.W.nsIn K mainGlobals "refuse_no_pair" = some (some (.ref fD4))) (lD4 : K.lookup fD4 = some ⟨ocD4, odD4, .func (PySem.W.fnOf "refuse_no_pair" "refuse_no_pair" (defArgs s_refuse_no_pair) (defBody s_refuse_no_pair) (defScope s_refuse_no_pair) .none kVD4 dcD4 pmD4 anD4 cdD4 ctD4), slD4⟩) (cD4 : PySem.W.codeIn K cdD4 "refuse_no_pair" = true) (kD4 : PySem.W.keepIn K (.ref fD4) = true)
    (aD5 : PySem.W.nsIn K mainGlobals "exchanged" = some (some (.ref fD5))) (lD5 : K.lookup fD5 = some ⟨ocD5, odD5, .func (PySem.W.fnOf "exchanged" "exchanged" (defArgs s_exchanged) (defBody s_exchanged) (defScope s_exchanged) .none kVD5 dcD5 pmD5 anD5 cdD5 ctD5), slD5⟩) (cD5 : PySem.W.codeIn K cdD5 "exchanged" = true) (kD5 : PySem.W.keepIn K (.ref fD5) = true)
    (aD6 : PySem.W.findIn K (.ref CG) "row" = some (some (.ref fD6))) (lD6 : K.lookup fD6 = some ⟨ocD6, odD6, .func (PySem.W.fnOf "row" "Gallery.row" (defArgs s_Gallery_row) (defBody s_Gallery_row) (defScope s_Gallery_row) .none kVD6 dcD6 pmD6 anD6 cdD6 ctD6), slD6⟩) (cD6 : PySem.W.codeIn K cdD6 "Gallery.row" = true) (kD6 : PySem.W.keepIn K (.ref fD6) = true) (iD6 : PySem.W.isFn K (.ref fD6) = true)
    (aD7 : PySem.W.findIn K (.ref CG) "houses" = some (some (.ref fD7))) (lD7 : K.lookup fD7 = some ⟨ocD7, odD7, .func (PySem.W.fnOf "houses" "Gallery.houses" (defArgs s_Gallery_houses) (defBody s_Gallery_houses) (defScope s_Gallery_houses) .none kVD7 dcD7 pmD7 anD7 cdD7 ctD7), slD7⟩) (cD7 : PySem.W.codeIn K cdD7 "Gallery.houses" = true) (kD7 : PySem.W.keepIn K (.ref fD7) = true) (iD7 : PySem.W.isFn K (.ref fD7) = true)
    (aD8 : PySem.W.nsIn K mainGlobals "taller_among" = some (some (.ref fD8))) (lD8 : K.lookup fD8 = some ⟨ocD8, odD8, .func (PySem.W.fnOf "taller_among" "taller_among" (defArgs s_taller_among) (defBody s_taller_among) (defScope s_taller_among) .none kVD8 dcD8 pmD8 anD8 cdD8 ctD8), slD8⟩) (cD8 : PySem.W.codeIn K cdD8 "taller_among" = true) (kD8 : PySem.W.keepIn K (.ref fD8) = true)
    (aD9 : PySem.W.nsIn K mainGlobals "tellers" = some (some (.ref fD9))) (lD9 : K.lookup fD9 = some ⟨ocD9, odD9, .func (PySem.W.fnOf "tellers" "tellers" (defArgs s_tellers) (defBody s_tellers) (defScope s_tellers) .none kVD9 dcD9 pmD9 anD9 cdD9 ctD9), slD9⟩) (cD9 : PySem.W.codeIn K cdD9 "tellers" = true) (kD9 : PySem.W.keepIn K (.ref fD9) = true)
    (aD10 : PySem.W.nsIn K mainGlobals "told_by" = some (some (.ref fD10))) (lD10 : K.lookup fD10 = some ⟨ocD10, odD10, .func (PySem.W.fnOf "told_by" "told_by" (defArgs s_told_by) (defBody s_told_by) (defScope s_told_by) .none kVD10 dcD10 pmD10 anD10 cdD10 ctD10), slD10⟩) (cD10 : PySem.W.codeIn K cdD10 "told_by" = true) (kD10 : PySem.W.keepIn K (.ref fD10) = true)
    (aD11 : PySem.W.findIn K (.ref CG) "change" = some (some (.ref fD11))) (lD11 : K.lookup fD11 = some ⟨ocD11, odD11, .func (PySem.W.fnOf "change" "Gallery.change" (defArgs s_Gallery_change) (defBody s_Gallery_change) (defScope s_Gallery_change) .none kVD11 dcD11 pmD11 anD11 cdD11 ctD11), slD11⟩) (cD11 : PySem.W.codeIn K cdD11 "Gallery.change" = true) (kD11 : PySem.W.keepIn K (.ref fD11) = true) (iD11 : PySem.W.isFn K (.ref fD11) = true)
    (aD12 : PySem.W.nsIn K mainGlobals "refuse_known" = some (some (.ref fD12))) (lD12 : K.lookup fD12 = some ⟨ocD12, odD12, .func (PySem.W.fnOf "refuse_known" "refuse_known" (defArgs s_refuse_known) (defBody s_refuse_known) (defScope s_refuse_known) .none kVD12 dcD12 pmD12 anD12 cdD12 ctD12), slD12⟩) (cD12 : PySem.W.codeIn K cdD12 "refuse_known" = true) (kD12 : PySem.W.keepIn K (.ref fD12) = true)
    (aD13 : PySem.W.nsIn K mainGlobals "with_newcomer" = some (some (.ref fD13))) (lD13 : K.lookup fD13 = some ⟨ocD13, odD13, .func (PySem.W.fnOf "with_newcomer" "with_newcomer" (defArgs s_with_newcomer) (defBody s_with_newcomer) (defScope s_with_newcomer) .none kVD13 dcD13 pmD13 anD13 cdD13 ctD13), slD13⟩) (cD13 : PySem.W.codeIn K cdD13 "with_newcomer" = true) (kD13 : PySem.W.keepIn K (.ref fD13) = true)
    (aD14 : PySem.W.nsIn K mainGlobals "floors_above" = some (some (.ref fD14))) (lD14 : K.lookup fD14 = some ⟨ocD14, odD14, .func (PySem.W.fnOf "floors_above" "floors_above" (defArgs s_floors_above) (defBody s_floors_above) (defScope s_floors_above) .none kVD14 dcD14 pmD14 anD14 cdD14 ctD14), slD14⟩) (cD14 : PySem.W.codeIn K cdD14 "floors_above" = true) (kD14 : PySem.W.keepIn K (.ref fD14) = true)
    (aD15 : PySem.W.nsIn K mainGlobals "place_of" = some (some (.ref fD15))) (lD15 : K.lookup fD15 = some ⟨ocD15, odD15, .func (PySem.W.fnOf "place_of" "place_of" (defArgs s_place_of) (defBody s_place_of) (defScope s_place_of) .none kVD15 dcD15 pmD15 anD15 cdD15 ctD15), slD15⟩) (cD15 : PySem.W.codeIn K cdD15 "place_of" = true) (kD15 : PySem.W.keepIn K (.ref fD15) = true)
    (aD16 : PySem.W.nsIn K mainGlobals "taller_ahead" = some (some (.ref fD16))) (lD16 : K.lookup fD16 = some ⟨ocD16, odD16, .func (PySem.W.fnOf "taller_ahead" "taller_ahead" (defArgs s_taller_ahead) (defBody s_taller_ahead) (defScope s_taller_ahead) .none kVD16 dcD16 pmD16 anD16 cdD16 ctD16), slD16⟩) (cD16 : PySem.W.codeIn K cdD16 "taller_ahead" = true) (kD16 : PySem.W.keepIn K (.ref fD16) = true)
    (aD17 : PySem.W.nsIn K mainGlobals "taller_behind" = some (some (.ref fD17))) (lD17 : K.lookup fD17 = some ⟨ocD17, odD17, .func (PySem.W.fnOf "taller_behind" "taller_behind" (defArgs s_taller_behind) (defBody s_taller_behind) (defScope s_taller_behind) .none kVD17 dcD17 pmD17 anD17 cdD17 ctD17), slD17⟩) (cD17 : PySem.W.codeIn K cdD17 "taller_behind" = true) (kD17 : PySem.W.keepIn K (.ref fD17) = true)
    (aD18 : PySem.W.nsIn K mainGlobals "seen_by" = some (some (.ref fD18))) (lD18 : K.lookup fD18 = some ⟨ocD18, odD18, .func (PySem.W.fnOf "seen_by" "seen_by" (defArgs s_seen_by) (defBody s_seen_by) (defScope s_seen_by) .none kVD18 dcD18 pmD18 anD18 cdD18 ctD18), slD18⟩) (cD18 : PySem.W.codeIn K cdD18 "seen_by" = true) (kD18 : PySem.W.keepIn K (.ref fD18) = true)
    (aD19 : PySem.W.nsIn K mainGlobals "seen_otherwise" = some (some (.ref fD19))) (lD19 : K.lookup fD19 = some ⟨ocD19, odD19, .func (PySem.W.fnOf "seen_otherwise" "seen_otherwise" (defArgs s_seen_otherwise) (defBody s_seen_otherwise) (defScope s_seen_otherwise) .none kVD19 dcD19 pmD19 anD19 cdD19 ctD19), slD19⟩) (cD19 : PySem.W.codeIn K cdD19 "seen_otherwise" = true) (kD19 : PySem.W.keepIn K (.ref fD19) = true)
    (aD20 : PySem.W.nsIn K mainGlobals "gone" = some (some (.ref fD20))) (lD20 : K.lookup fD20 = some ⟨ocD20, odD20, .func (PySem.W.fnOf "gone" "gone" (defArgs s_gone) (defBody s_gone) (defScope s_gone) .none kVD20 dcD20 pmD20 anD20 cdD20 ctD20), slD20⟩) (cD20 : PySem.W.codeIn K cdD20 "gone" = true) (kD20 : PySem.W.keepIn K (.ref fD20) = true)
    (aD21 : PySem.W.findIn K (.ref CG) "go" = some (some (.ref fD21))) (lD21 : K.lookup fD21 = some ⟨ocD21, odD21, .func (PySem.W.fnOf "go" "Gallery.go" (defArgs s_Gallery_go) (defBody s_Gallery_go) (defScope s_Gallery_go) .none kVD21 dcD21 pmD21 anD21 cdD21 ctD21), slD21⟩) (cD21 : PySem.W.codeIn K cdD21 "Gallery.go" = true) (kD21 : PySem.W.keepIn K (.ref fD21) = true) (iD21 : PySem.W.isFn K (.ref fD21) = true)
    (aD22 : PySem.W.findIn K (.ref CG) "sneak" = some (some (.ref fD22))) (lD22 : K.lookup fD22 = some ⟨ocD22, odD22, .func (PySem.W.fnOf "sneak" "Gallery.sneak" (defArgs s_Gallery_sneak) (defBody s_Gallery_sneak) (defScope s_Gallery_sneak) .none kVD22 dcD22 pmD22 anD22 cdD22 ctD22), slD22⟩) (cD22 : PySem.W.codeIn K cdD22 "Gallery.sneak" = true) (kD22 : PySem.W.keepIn K (.ref fD22) = true) (iD22 : PySem.W.isFn K (.ref fD22) = true)
    (aD23 : PySem.W.nsIn K mainGlobals "_law_act_more" = some (some (.ref fD23))) (lD23 : K.lookup fD23 = some ⟨ocD23, odD23, .func (PySem.W.fnOf "_law_act_more" "_law_act_more" (defArgs s_law_act_more) (defBody s_law_act_more) (defScope s_law_act_more) .none kVD23 dcD23 pmD23 anD23 cdD23 ctD23), slD23⟩) (cD23 : PySem.W.codeIn K cdD23 "_law_act_more" = true) (kD23 : PySem.W.keepIn K (.ref fD23) = true)
    (aD24 : PySem.W.findIn K (.ref CG) "come" = some (some (.ref fD24))) (lD24 : K.lookup fD24 = some ⟨ocD24, odD24, .func (PySem.W.fnOf "come" "Gallery.come" (defArgs s_Gallery_come) (defBody s_Gallery_come) (defScope s_Gallery_come) .none kVD24 dcD24 pmD24 anD24 cdD24 ctD24), slD24⟩) (cD24 : PySem.W.codeIn K cdD24 "Gallery.come" = true) (kD24 : PySem.W.keepIn K (.ref fD24) = true) (iD24 : PySem.W.isFn K (.ref fD24) = true)
    (aD25 : PySem.W.findIn K (.ref CG) "deeds" = some (some (.ref fD25))) (lD25 : K.lookup fD25 = some ⟨ocD25, odD25, .func (PySem.W.fnOf "deeds" "Gallery.deeds" (defArgs s_Gallery_deeds) (defBody s_Gallery_deeds) (defScope s_Gallery_deeds) .none kVD25 dcD25 pmD25 anD25 cdD25 ctD25), slD25⟩) (cD25 : PySem.W.codeIn K cdD25 "Gallery.deeds" = true) (kD25 : PySem.W.keepIn K (.ref fD25) = true) (iD25 : PySem.W.isFn K (.ref fD25) = true)
    (aD26 : PySem.W.findIn K (.ref CG) "undo" = some (some (.ref fD26))) (lD26 : K.lookup fD26 = some ⟨ocD26, odD26, .func (PySem.W.fnOf "undo" "Gallery.undo" (defArgs s_Gallery_undo) (defBody s_Gallery_undo) (defScope s_Gallery_undo) .none kVD26 dcD26 pmD26 anD26 cdD26 ctD26), slD26⟩) (cD26 : PySem.W.codeIn K cdD26 "Gallery.undo" = true) (kD26 : PySem.W.keepIn K (.ref fD26) = true) (iD26 : PySem.W.isFn K (.ref fD26) = true)
    (aD27 : PySem.W.nsIn K mainGlobals "all_taller_ahead" = some (some (.ref fD27))) (lD27 : K.lookup fD27 = some ⟨ocD27, odD27, .func (PySem.W.fnOf "all_taller_ahead" "all_taller_ahead" (defArgs s_all_taller_ahead) (defBody s_all_taller_ahead) (defScope s_all_taller_ahead) .none kVD27 dcD27 pmD27 anD27 cdD27 ctD27), slD27⟩) (cD27 : PySem.W.codeIn K cdD27 "all_taller_ahead" = true) (kD27 : PySem.W.keepIn K (.ref fD27) = true)
    (aD28 : PySem.W.nsIn K mainGlobals "folk_of" = some (some (.ref fD28))) (lD28 : K.lookup fD28 = some ⟨ocD28, odD28, .func (PySem.W.fnOf "folk_of" "folk_of" (defArgs s_folk_of) (defBody s_folk_of) (defScope s_folk_of) .none kVD28 dcD28 pmD28 anD28 cdD28 ctD28), slD28⟩) (cD28 : PySem.W.codeIn K cdD28 "folk_of" = true) (kD28 : PySem.W.keepIn K (.ref fD28) = true)
    (aD29 : PySem.W.nsIn K mainGlobals "seen_from_left" = some (some (.ref fD29))) (lD29 : K.lookup fD29 = some ⟨ocD29, odD29, .func (PySem.W.fnOf "seen_from_left" "seen_from_left" (defArgs s_seen_from_left) (defBody s_seen_from_left) (defScope s_seen_from_left) .none kVD29 dcD29 pmD29 anD29 cdD29 ctD29), slD29⟩) (cD29 : PySem.W.codeIn K cdD29 "seen_from_left" = true) (kD29 : PySem.W.keepIn K (.ref fD29) = true)
    (aD30 : PySem.W.nsIn K mainGlobals "turned" = some (some (.ref fD30))) (lD30 : K.lookup fD30 = some ⟨ocD30, odD30, .func (PySem.W.fnOf "turned" "turned" (defArgs s_turned) (defBody s_turned) (defScope s_turned) .none kVD30 dcD30 pmD30 anD30 cdD30 ctD30), slD30⟩) (cD30 : PySem.W.codeIn K cdD30 "turned" = true) (kD30 : PySem.W.keepIn K (.ref fD30) = true)
    (aD31 : PySem.W.nsIn K mainGlobals "seen_by_all" = some (some (.ref fD31))) (lD31 : K.lookup fD31 = some ⟨ocD31, odD31, .func (PySem.W.fnOf "seen_by_all" "seen_by_all" (defArgs s_seen_by_all) (defBody s_seen_by_all) (defScope s_seen_by_all) .none kVD31 dcD31 pmD31 anD31 cdD31 ctD31), slD31⟩) (cD31 : PySem.W.codeIn K cdD31 "seen_by_all" = true) (kD31 : PySem.W.keepIn K (.ref fD31) = true)
    (aD32 : PySem.W.nsIn K mainGlobals "with_floors" = some (some (.ref fD32))) (lD32 : K.lookup fD32 = some ⟨ocD32, odD32, .func (PySem.W.fnOf "with_floors" "with_floors" (defArgs s_with_floors) (defBody s_with_floors) (defScope s_with_floors) .none kVD32 dcD32 pmD32 anD32 cdD32 ctD32), slD32⟩) (cD32 : PySem.W.codeIn K cdD32 "with_floors" = true) (kD32 : PySem.W.keepIn K (.ref fD32) = true)
    (aD33 : PySem.W.nsIn K mainGlobals "seen_from" = some (some (.ref fD33))) (lD33 : K.lookup fD33 = some ⟨ocD33, odD33, .func (PySem.W.fnOf "seen_from" "seen_from" (defArgs s_seen_from) (defBody s_seen_from) (defScope s_seen_from) .none kVD33 dcD33 pmD33 anD33 cdD33 ctD33), slD33⟩) (cD33 : PySem.W.codeIn K cdD33 "seen_from" = true) (kD33 : PySem.W.keepIn K (.ref fD33) = true)
    (aD34 : PySem.W.nsIn K mainGlobals "floors_at" = some (some (.ref fD34))) (lD34 : K.lookup fD34 = some ⟨ocD34, odD34, .func (PySem.W.fnOf "floors_at" "floors_at" (defArgs s_floors_at) (defBody s_floors_at) (defScope s_floors_at) .none kVD34 dcD34 pmD34 anD34 cdD34 ctD34), slD34⟩) (cD34 : PySem.W.codeIn K cdD34 "floors_at" = true) (kD34 : PySem.W.keepIn K (.ref fD34) = true)
    (aD35 : PySem.W.findIn K (.ref CG) "build" = some (some (.ref fD35))) (lD35 : K.lookup fD35 = some ⟨ocD35, odD35, .func (PySem.W.fnOf "build" "Gallery.build" (defArgs s_Gallery_build) (defBody s_Gallery_build) (defScope s_Gallery_build) .none kVD35 dcD35 pmD35 anD35 cdD35 ctD35), slD35⟩) (cD35 : PySem.W.codeIn K cdD35 "Gallery.build" = true) (kD35 : PySem.W.keepIn K (.ref fD35) = true) (iD35 : PySem.W.isFn K (.ref fD35) = true)
    (aD36 : PySem.W.findIn K (.ref CG) "pull" = some (some (.ref fD36))) (lD36 : K.lookup fD36 = some ⟨ocD36, odD36, .func (PySem.W.fnOf "pull" "Gallery.pull" (defArgs s_Gallery_pull) (defBody s_Gallery_pull) (defScope s_Gallery_pull) .none kVD36 dcD36 pmD36 anD36 cdD36 ctD36), slD36⟩) (cD36 : PySem.W.codeIn K cdD36 "Gallery.pull" = true) (kD36 : PySem.W.keepIn K (.ref fD36) = true) (iD36 : PySem.W.isFn K (.ref fD36) = true)
    (aD37 : PySem.W.nsIn K mainGlobals "_law_refusal" = some (some (.ref fD37))) (lD37 : K.lookup fD37 = some ⟨ocD37, odD37, .func (PySem.W.fnOf "_law_refusal" "_law_refusal" (defArgs s_law_refusal) (defBody s_law_refusal) (defScope s_law_refusal) .none kVD37 dcD37 pmD37 anD37 cdD37 ctD37), slD37⟩) (cD37 : PySem.W.codeIn K cdD37 "_law_refusal" = true) (kD37 : PySem.W.keepIn K (.ref fD37) = true)
    (aD38 : PySem.W.nsIn K mainGlobals "_law_act" = some (some (.ref fD38))) (lD38 : K.lookup fD38 = some ⟨ocD38, odD38, .func (PySem.W.fnOf "_law_act" "_law_act" (defArgs s_law_act) (defBody s_law_act) (defScope s_law_act) .none kVD38 dcD38 pmD38 anD38 cdD38 ctD38), slD38⟩) (cD38 : PySem.W.codeIn K cdD38 "_law_act" = true) (kD38 : PySem.W.keepIn K (.ref fD38) = true)
    (aD39 : PySem.W.findIn K (.ref CG) "__eq__" = some (some (.ref fD39))) (lD39 : K.lookup fD39 = some ⟨ocD39, odD39, .func (PySem.W.fnOf "__eq__" "Gallery.__eq__" (defArgs s_Gallery___eq__) (defBody s_Gallery___eq__) (defScope s_Gallery___eq__) .none kVD39 dcD39 pmD39 anD39 cdD39 ctD39), slD39⟩) (cD39 : PySem.W.codeIn K cdD39 "Gallery.__eq__" = true) (kD39 : PySem.W.keepIn K (.ref fD39) = true) (iD39 : PySem.W.isFn K (.ref fD39) = true)
    (aD40 : PySem.W.nsIn K mainGlobals "floors_many" = some (some (.ref fD40))) (lD40 : K.lookup fD40 = some ⟨ocD40, odD40, .func (PySem.W.fnOf "floors_many" "floors_many" (defArgs s_floors_many) (defBody s_floors_many) (defScope s_floors_many) .none kVD40 dcD40 pmD40 anD40 cdD40 ctD40), slD40⟩) (cD40 : PySem.W.codeIn K cdD40 "floors_many" = true) (kD40 : PySem.W.keepIn K (.ref fD40) = true)
    (aD41 : PySem.W.findIn K (.ref CG) "__repr__" = some (some (.ref fD41))) (lD41 : K.lookup fD41 = some ⟨ocD41, odD41, .func (PySem.W.fnOf "__repr__" "Gallery.__repr__" (defArgs s_Gallery___repr__) (defBody s_Gallery___repr__) (defScope s_Gallery___repr__) .none kVD41 dcD41 pmD41 anD41 cdD41 ctD41), slD41⟩) (cD41 : PySem.W.codeIn K cdD41 "Gallery.__repr__" = true) (kD41 : PySem.W.keepIn K (.ref fD41) = true) (iD41 : PySem.W.isFn K (.ref fD41) = true)
    (aD42 : PySem.W.nsIn K mainGlobals "_law_right" = some (some (.ref fD42))) (lD42 : K.lookup fD42 = some ⟨ocD42, odD42, .func (PySem.W.fnOf "_law_right" "_law_right" (defArgs s_law_right) (defBody s_law_right) (defScope s_law_right) .none kVD42 dcD42 pmD42 anD42 cdD42 ctD42), slD42⟩) (cD42 : PySem.W.codeIn K cdD42 "_law_right" = true) (kD42 : PySem.W.keepIn K (.ref fD42) = true)
    (aD43 : PySem.W.nsIn K mainGlobals "_law_pot" = some (some (.ref fD43))) (lD43 : K.lookup fD43 = some ⟨ocD43, odD43, .func (PySem.W.fnOf "_law_pot" "_law_pot" (defArgs s_law_pot) (defBody s_law_pot) (defScope s_law_pot) .none kVD43 dcD43 pmD43 anD43 cdD43 ctD43), slD43⟩) (cD43 : PySem.W.codeIn K cdD43 "_law_pot" = true) (kD43 : PySem.W.keepIn K (.ref fD43) = true)
    (aD44 : PySem.W.nsIn K mainGlobals "law" = some (some (.ref fD44))) (lD44 : K.lookup fD44 = some ⟨ocD44, odD44, .func (PySem.W.fnOf "law" "law" (defArgs s_law) (defBody s_law) (defScope s_law) .none kVD44 dcD44 pmD44 anD44 cdD44 ctD44), slD44⟩) (cD44 : PySem.W.codeIn K cdD44 "law" = true) (kD44 : PySem.W.keepIn K (.ref fD44) = true)
    (oDf : kVD1 = .ref DDf) (nDf : PySem.W.nsIn K DDf "houses" = some (some (.ref A0f))) (k0f : K.lookup A0f = some ⟨.type "tuple", none, .seq it0f n0f, sl0f⟩) (v0f : it0f.toList = [.ref E1f, .ref E2f]) (k1f : K.lookup E1f = some ⟨.type "tuple", none, .seq it1f n1f, sl1f⟩) (v1f : it1f.toList = []) (k2f : K.lookup E2f = some ⟨.type "tuple", none, .seq it2f n2f, sl2f⟩) (v2f : it2f.toList = [])
    (aE0 : PySem.W.nsIn K mainGlobals "Known" = some (some (.ref CE0)))
    (xE0 : K.lookup CE0 = some (excClassObj nmE0 qnE0 CE0 NE0 bsE0 [.type "ValueError", .type "Exception", .type "BaseException", .type "object"] true snE0 sbE0 abE0 coE0 ddE0 m0E0 m1E0 m2E0 m3E0 m5E0 "ValueError.__new__"))
    (sE0 : PySem.W.findIn K (.ref CE0) "__setattr__" = some (some (.builtin "object.__setattr__"))) (gE0 : PySem.W.findIn K (.ref CE0) "__getattribute__" = some (some (.builtin "BaseException.__getattribute__"))) (hE0 : PySem.W.findIn K (.ref CE0) "__getattr__" = some none) (nE0 : PySem.W.findIn K (.ref CE0) "who" = some none)
    (jE0 : PySem.W.findIn K (.ref CE0) "__init__" = some (some (.ref iE0))) (tE0 : PySem.W.typeIn K (.ref iE0) = some (.type "function"))
    (lE0 : K.lookup iE0 = some ⟨ocE0, odE0, .func (PySem.W.fnOf "__init__" "Known.__init__" (defArgs si_Known) (defBody si_Known) (defScope si_Known) .none kVE0 dcE0 pmE0 anE0 cdE0 ctE0), slE0⟩) (cE0 : PySem.W.codeIn K cdE0 "Known.__init__" = true) (kE0 : PySem.W.keepIn K (.ref iE0) = true)
    (yE0 : PySem.W.keepIn K (.ref CE0) = true) (eE0 : PySem.W.subIn K (.ref CE0) (.type "BaseException") = some true) (uE0 : PySem.W.typeIn K (.ref CE0) = some (.type "type")) (dE0 : PySem.W.hasDictIn K CE0 = true) (vE0 : PySem.W.subIn K (.ref CE0) (.ref CE0) = some true)
    (wE0 : PySem.W.findIn K (.ref CE0) "__class__" = some (some (.builtin "object.__class__"))) (zE0 : PySem.W.mroIn K CE0 (.type "object") = some true)
    (aE1 : PySem.W.nsIn K mainGlobals "NoSide" = some (some (.ref CE1)))
    (xE1 : K.lookup CE1 = some (excClassObj nmE1 qnE1 CE1 NE1 bsE1 [.type "ValueError", .type "Exception", .type "BaseException", .type "object"] true snE1 sbE1 abE1 coE1 ddE1 m0E1 m1E1 m2E1 m3E1 m5E1 "ValueError.__new__"))
    (sE1 : PySem.W.findIn K (.ref CE1) "__setattr__" = some (some (.builtin "object.__setattr__"))) (gE1 : PySem.W.findIn K (.ref CE1) "__getattribute__" = some (some (.builtin "BaseException.__getattribute__"))) (hE1 : PySem.W.findIn K (.ref CE1) "__getattr__" = some none) (nE1 : PySem.W.findIn K (.ref CE1) "side" = some none)
    (jE1 : PySem.W.findIn K (.ref CE1) "__init__" = some (some (.ref iE1))) (tE1 : PySem.W.typeIn K (.ref iE1) = some (.type "function"))
    (lE1 : K.lookup iE1 = some ⟨ocE1, odE1, .func (PySem.W.fnOf "__init__" "NoSide.__init__" (defArgs si_NoSide) (defBody si_NoSide) (defScope si_NoSide) .none kVE1 dcE1 pmE1 anE1 cdE1 ctE1), slE1⟩) (cE1 : PySem.W.codeIn K cdE1 "NoSide.__init__" = true) (kE1 : PySem.W.keepIn K (.ref iE1) = true)
    (yE1 : PySem.W.keepIn K (.ref CE1) = true) (eE1 : PySem.W.subIn K (.ref CE1) (.type "BaseException") = some true) (uE1 : PySem.W.typeIn K (.ref CE1) = some (.type "type")) (dE1 : PySem.W.hasDictIn K CE1 = true) (vE1 : PySem.W.subIn K (.ref CE1) (.ref CE1) = some true)
    (wE1 : PySem.W.findIn K (.ref CE1) "__class__" = some (some (.builtin "object.__class__"))) (zE1 : PySem.W.mroIn K CE1 (.type "object") = some true)
    (aE2 : PySem.W.nsIn K mainGlobals "NoOne" = some (some (.ref CE2)))
    (xE2 : K.lookup CE2 = some (excClassObj nmE2 qnE2 CE2 NE2 bsE2 [.type "LookupError", .type "Exception", .type "BaseException", .type "object"] true snE2 sbE2 abE2 coE2 ddE2 m0E2 m1E2 m2E2 m3E2 m5E2 "LookupError.__new__"))
    (sE2 : PySem.W.findIn K (.ref CE2) "__setattr__" = some (some (.builtin "object.__setattr__"))) (gE2 : PySem.W.findIn K (.ref CE2) "__getattribute__" = some (some (.builtin "BaseException.__getattribute__"))) (hE2 : PySem.W.findIn K (.ref CE2) "__getattr__" = some none) (nE2 : PySem.W.findIn K (.ref CE2) "who" = some none)
    (jE2 : PySem.W.findIn K (.ref CE2) "__init__" = some (some (.ref iE2))) (tE2 : PySem.W.typeIn K (.ref iE2) = some (.type "function"))
    (lE2 : K.lookup iE2 = some ⟨ocE2, odE2, .func (PySem.W.fnOf "__init__" "NoOne.__init__" (defArgs si_NoOne) (defBody si_NoOne) (defScope si_NoOne) .none kVE2 dcE2 pmE2 anE2 cdE2 ctE2), slE2⟩) (cE2 : PySem.W.codeIn K cdE2 "NoOne.__init__" = true) (kE2 : PySem.W.keepIn K (.ref iE2) = true)
    (yE2 : PySem.W.keepIn K (.ref CE2) = true) (eE2 : PySem.W.subIn K (.ref CE2) (.type "BaseException") = some true) (uE2 : PySem.W.typeIn K (.ref CE2) = some (.type "type")) (dE2 : PySem.W.hasDictIn K CE2 = true) (vE2 : PySem.W.subIn K (.ref CE2) (.ref CE2) = some true)
    (wE2 : PySem.W.findIn K (.ref CE2) "__class__" = some (some (.builtin "object.__class__"))) (zE2 : PySem.W.mroIn K CE2 (.type "object") = some true)
    (aE3 : PySem.W.nsIn K mainGlobals "NoPlace" = some (some (.ref CE3)))
    (xE3 : K.lookup CE3 = some (excClassObj nmE3 qnE3 CE3 NE3 bsE3 [.type "LookupError", .type "Exception", .type "BaseException", .type "object"] true snE3 sbE3 abE3 coE3 ddE3 m0E3 m1E3 m2E3 m3E3 m5E3 "LookupError.__new__"))
    (sE3 : PySem.W.findIn K (.ref CE3) "__setattr__" = some (some (.builtin "object.__setattr__"))) (gE3 : PySem.W.findIn K (.ref CE3) "__getattribute__" = some (some (.builtin "BaseException.__getattribute__"))) (hE3 : PySem.W.findIn K (.ref CE3) "__getattr__" = some none) (nE3 : PySem.W.findIn K (.ref CE3) "place" = some none)
    (jE3 : PySem.W.findIn K (.ref CE3) "__init__" = some (some (.ref iE3))) (tE3 : PySem.W.typeIn K (.ref iE3) = some (.type "function"))
    (lE3 : K.lookup iE3 = some ⟨ocE3, odE3, .func (PySem.W.fnOf "__init__" "NoPlace.__init__" (defArgs si_NoPlace) (defBody si_NoPlace) (defScope si_NoPlace) .none kVE3 dcE3 pmE3 anE3 cdE3 ctE3), slE3⟩) (cE3 : PySem.W.codeIn K cdE3 "NoPlace.__init__" = true) (kE3 : PySem.W.keepIn K (.ref iE3) = true)
    (yE3 : PySem.W.keepIn K (.ref CE3) = true) (eE3 : PySem.W.subIn K (.ref CE3) (.type "BaseException") = some true) (uE3 : PySem.W.typeIn K (.ref CE3) = some (.type "type")) (dE3 : PySem.W.hasDictIn K CE3 = true) (vE3 : PySem.W.subIn K (.ref CE3) (.ref CE3) = some true)
    (wE3 : PySem.W.findIn K (.ref CE3) "__class__" = some (some (.builtin "object.__class__"))) (zE3 : PySem.W.mroIn K CE3 (.type "object") = some true)
    (aE4 : PySem.W.nsIn K mainGlobals "NoFloor" = some (some (.ref CE4)))
    (xE4 : K.lookup CE4 = some (excClassObj nmE4 qnE4 CE4 NE4 bsE4 [.type "LookupError", .type "Exception", .type "BaseException", .type "object"] true snE4 sbE4 abE4 coE4 ddE4 m0E4 m1E4 m2E4 m3E4 m5E4 "LookupError.__new__"))
    (sE4 : PySem.W.findIn K (.ref CE4) "__setattr__" = some (some (.builtin "object.__setattr__"))) (gE4 : PySem.W.findIn K (.ref CE4) "__getattribute__" = some (some (.builtin "BaseException.__getattribute__"))) (hE4 : PySem.W.findIn K (.ref CE4) "__getattr__" = some none) (nE4 : PySem.W.findIn K (.ref CE4) "floor" = some none)
    (jE4 : PySem.W.findIn K (.ref CE4) "__init__" = some (some (.ref iE4))) (tE4 : PySem.W.typeIn K (.ref iE4) = some (.type "function"))
    (lE4 : K.lookup iE4 = some ⟨ocE4, odE4, .func (PySem.W.fnOf "__init__" "NoFloor.__init__" (defArgs si_NoFloor) (defBody si_NoFloor) (defScope si_NoFloor) .none kVE4 dcE4 pmE4 anE4 cdE4 ctE4), slE4⟩) (cE4 : PySem.W.codeIn K cdE4 "NoFloor.__init__" = true) (kE4 : PySem.W.keepIn K (.ref iE4) = true)
    (yE4 : PySem.W.keepIn K (.ref CE4) = true) (eE4 : PySem.W.subIn K (.ref CE4) (.type "BaseException") = some true) (uE4 : PySem.W.typeIn K (.ref CE4) = some (.type "type")) (dE4 : PySem.W.hasDictIn K CE4 = true) (vE4 : PySem.W.subIn K (.ref CE4) (.ref CE4) = some true)
    (wE4 : PySem.W.findIn K (.ref CE4) "__class__" = some (some (.builtin "object.__class__"))) (zE4 : PySem.W.mroIn K CE4 (.type "object") = some true)
    (aE5 : PySem.W.nsIn K mainGlobals "Seen" = some (some (.ref CE5)))
    (xE5 : K.lookup CE5 = some (excClassObj nmE5 qnE5 CE5 NE5 bsE5 [.type "RuntimeError", .type "Exception", .type "BaseException", .type "object"] true snE5 sbE5 abE5 coE5 ddE5 m0E5 m1E5 m2E5 m3E5 m5E5 "RuntimeError.__new__"))
    (sE5 : PySem.W.findIn K (.ref CE5) "__setattr__" = some (some (.builtin "object.__setattr__"))) (gE5 : PySem.W.findIn K (.ref CE5) "__getattribute__" = some (some (.builtin "BaseException.__getattribute__"))) (hE5 : PySem.W.findIn K (.ref CE5) "__getattr__" = some none) (nE5 : PySem.W.findIn K (.ref CE5) "place" = some none)
    (jE5 : PySem.W.findIn K (.ref CE5) "__init__" = some (some (.ref iE5))) (tE5 : PySem.W.typeIn K (.ref iE5) = some (.type "function"))
    (lE5 : K.lookup iE5 = some ⟨ocE5, odE5, .func (PySem.W.fnOf "__init__" "Seen.__init__" (defArgs si_Seen) (defBody si_Seen) (defScope si_Seen) .none kVE5 dcE5 pmE5 anE5 cdE5 ctE5), slE5⟩) (cE5 : PySem.W.codeIn K cdE5 "Seen.__init__" = true) (kE5 : PySem.W.keepIn K (.ref iE5) = true)
    (yE5 : PySem.W.keepIn K (.ref CE5) = true) (eE5 : PySem.W.subIn K (.ref CE5) (.type "BaseException") = some true) (uE5 : PySem.W.typeIn K (.ref CE5) = some (.type "type")) (dE5 : PySem.W.hasDictIn K CE5 = true) (vE5 : PySem.W.subIn K (.ref CE5) (.ref CE5) = some true)
    (wE5 : PySem.W.findIn K (.ref CE5) "__class__" = some (some (.builtin "object.__class__"))) (zE5 : PySem.W.mroIn K CE5 (.type "object") = some true)
    (aE6 : PySem.W.nsIn K mainGlobals "Stands" = some (some (.ref CE6)))
    (xE6 : K.lookup CE6 = some (excClassObj nmE6 qnE6 CE6 NE6 bsE6 [.type "RuntimeError", .type "Exception", .type "BaseException", .type "object"] true snE6 sbE6 abE6 coE6 ddE6 m0E6 m1E6 m2E6 m3E6 m5E6 "RuntimeError.__new__"))
    (sE6 : PySem.W.findIn K (.ref CE6) "__setattr__" = some (some (.builtin "object.__setattr__"))) (gE6 : PySem.W.findIn K (.ref CE6) "__getattribute__" = some (some (.builtin "BaseException.__getattribute__"))) (hE6 : PySem.W.findIn K (.ref CE6) "__getattr__" = some none) (nE6 : PySem.W.findIn K (.ref CE6) "floor" = some none)
    (jE6 : PySem.W.findIn K (.ref CE6) "__init__" = some (some (.ref iE6))) (tE6 : PySem.W.typeIn K (.ref iE6) = some (.type "function"))
    (lE6 : K.lookup iE6 = some ⟨ocE6, odE6, .func (PySem.W.fnOf "__init__" "Stands.__init__" (defArgs si_Stands) (defBody si_Stands) (defScope si_Stands) .none kVE6 dcE6 pmE6 anE6 cdE6 ctE6), slE6⟩) (cE6 : PySem.W.codeIn K cdE6 "Stands.__init__" = true) (kE6 : PySem.W.keepIn K (.ref iE6) = true)
    (yE6 : PySem.W.keepIn K (.ref CE6) = true) (eE6 : PySem.W.subIn K (.ref CE6) (.type "BaseException") = some true) (uE6 : PySem.W.typeIn K (.ref CE6) = some (.type "type")) (dE6 : PySem.W.hasDictIn K CE6 = true) (vE6 : PySem.W.subIn K (.ref CE6) (.ref CE6) = some true)
    (wE6 : PySem.W.findIn K (.ref CE6) "__class__" = some (some (.builtin "object.__class__"))) (zE6 : PySem.W.mroIn K CE6 (.type "object") = some true)
    (gsG : PySem.W.specialIn K (.builtin "object.__class__") "__get__" = some (some (.builtin "getset_descriptor.__get__"))) (gsT : PySem.W.takesIn K (.builtin "object.__class__") = some true)
    (aE7 : PySem.W.nsIn K mainGlobals "Last" = some (some (.ref CE7))) (eE7 : PySem.W.subIn K (.ref CE7) (.type "BaseException") = some true) (uE7 : PySem.W.typeIn K (.ref CE7) = some (.type "type")) (dE7 : PySem.W.hasDictIn K CE7 = true) (gE7 : PySem.W.findIn K (.ref CE7) "__getattribute__" = some (some (.builtin "BaseException.__getattribute__"))) (hE7 : PySem.W.findIn K (.ref CE7) "__getattr__" = some none) (vE7 : PySem.W.subIn K (.ref CE7) (.ref CE7) = some true) (wE7 : PySem.W.findIn K (.ref CE7) "__class__" = some (some (.builtin "object.__class__"))) (zE7 : PySem.W.mroIn K CE7 (.type "object") = some true)
    (x0E7 : PySem.W.excIn K CE7 [.type "RuntimeError", .type "Exception", .type "BaseException", .type "object"] "RuntimeError.__new__" = true) (y0E7 : PySem.W.keepIn K (.ref CE7) = true)
    (q0 : PySem.W.subIn K (.ref CE0) (.ref CE1) = some false)
    (q1 : PySem.W.subIn K (.ref CE0) (.ref CE2) = some false)
    (q2 : PySem.W.subIn K (.ref CE0) (.ref CE3) = some false)
    (q3 : PySem.W.subIn K (.ref CE0) (.ref CE4) = some false)
    (q4 : PySem.W.subIn K (.ref CE0) (.ref CE5) = some false)
    (q5 : PySem.W.subIn K (.ref CE0) (.ref CE6) = some false)
    (q6 : PySem.W.subIn K (.ref CE0) (.ref CE7) = some false)
    (q7 : PySem.W.subIn K (.ref CE1) (.ref CE0) = some false)
    (q8 : PySem.W.subIn K (.ref CE1) (.ref CE2) = some false)
    (q9 : PySem.W.subIn K (.ref CE1) (.ref CE3) = some false)
    (q10 : PySem.W.subIn K (.ref CE1) (.ref CE4) = some false)
    (q11 : PySem.W.subIn K (.ref CE1) (.ref CE5) = some false)
    (q12 : PySem.W.subIn K (.ref CE1) (.ref CE6) = some false)
    (q13 : PySem.W.subIn K (.ref CE1) (.ref CE7) = some false)
    (q14 : PySem.W.subIn K (.ref CE2) (.ref CE0) = some false)
    (q15 : PySem.W.subIn K (.ref CE2) (.ref CE1) = some false)
    (q16 : PySem.W.subIn K (.ref CE2) (.ref CE3) = some false)
    (q17 : PySem.W.subIn K (.ref CE2) (.ref CE4) = some false)
    (q18 : PySem.W.subIn K (.ref CE2) (.ref CE5) = some false)
    (q19 : PySem.W.subIn K (.ref CE2) (.ref CE6) = some false)
    (q20 : PySem.W.subIn K (.ref CE2) (.ref CE7) = some false)
    (q21 : PySem.W.subIn K (.ref CE3) (.ref CE0) = some false)
    (q22 : PySem.W.subIn K (.ref CE3) (.ref CE1) = some false)
    (q23 : PySem.W.subIn K (.ref CE3) (.ref CE2) = some false)
    (q24 : PySem.W.subIn K (.ref CE3) (.ref CE4) = some false)
    (q25 : PySem.W.subIn K (.ref CE3) (.ref CE5) = some false)
    (q26 : PySem.W.subIn K (.ref CE3) (.ref CE6) = some false)
    (q27 : PySem.W.subIn K (.ref CE3) (.ref CE7) = some false)
    (q28 : PySem.W.subIn K (.ref CE4) (.ref CE0) = some false)
    (q29 : PySem.W.subIn K (.ref CE4) (.ref CE1) = some false)
    (q30 : PySem.W.subIn K (.ref CE4) (.ref CE2) = some false)
    (q31 : PySem.W.subIn K (.ref CE4) (.ref CE3) = some false)
    (q32 : PySem.W.subIn K (.ref CE4) (.ref CE5) = some false)
    (q33 : PySem.W.subIn K (.ref CE4) (.ref CE6) = some false)
    (q34 : PySem.W.subIn K (.ref CE4) (.ref CE7) = some false)
    (q35 : PySem.W.subIn K (.ref CE5) (.ref CE0) = some false)
    (q36 : PySem.W.subIn K (.ref CE5) (.ref CE1) = some false)
    (q37 : PySem.W.subIn K (.ref CE5) (.ref CE2) = some false)
    (q38 : PySem.W.subIn K (.ref CE5) (.ref CE3) = some false)
    (q39 : PySem.W.subIn K (.ref CE5) (.ref CE4) = some false)
    (q40 : PySem.W.subIn K (.ref CE5) (.ref CE6) = some false)
    (q41 : PySem.W.subIn K (.ref CE5) (.ref CE7) = some false)
    (q42 : PySem.W.subIn K (.ref CE6) (.ref CE0) = some false)
    (q43 : PySem.W.subIn K (.ref CE6) (.ref CE1) = some false)
    (q44 : PySem.W.subIn K (.ref CE6) (.ref CE2) = some false)
    (q45 : PySem.W.subIn K (.ref CE6) (.ref CE3) = some false)
    (q46 : PySem.W.subIn K (.ref CE6) (.ref CE4) = some false)
    (q47 : PySem.W.subIn K (.ref CE6) (.ref CE5) = some false)
    (q48 : PySem.W.subIn K (.ref CE6) (.ref CE7) = some false)
    (q49 : PySem.W.subIn K (.ref CE7) (.ref CE0) = some false)
    (q50 : PySem.W.subIn K (.ref CE7) (.ref CE1) = some false)
    (q51 : PySem.W.subIn K (.ref CE7) (.ref CE2) = some false)
    (q52 : PySem.W.subIn K (.ref CE7) (.ref CE3) = some false)
    (q53 : PySem.W.subIn K (.ref CE7) (.ref CE4) = some false)
    (q54 : PySem.W.subIn K (.ref CE7) (.ref CE5) = some false)
    (q55 : PySem.W.subIn K (.ref CE7) (.ref CE6) = some false)
    (r0 : PySem.W.subIn K (.ref CE0) (.type "LookupError") = some false)
    (r1 : PySem.W.subIn K (.ref CE1) (.type "LookupError") = some false)
    (r2 : PySem.W.subIn K (.ref CE2) (.type "LookupError") = some true)
    (r3 : PySem.W.subIn K (.ref CE3) (.type "LookupError") = some true)
    (r4 : PySem.W.subIn K (.ref CE4) (.type "LookupError") = some true)
    (r5 : PySem.W.subIn K (.ref CE5) (.type "LookupError") = some false)
    (r6 : PySem.W.subIn K (.ref CE6) (.type "LookupError") = some false)
    (r7 : PySem.W.subIn K (.ref CE7) (.type "LookupError") = some false)
    (r8 : PySem.W.subIn K (.ref CE0) (.type "RuntimeError") = some false)
    (r9 : PySem.W.subIn K (.ref CE1) (.type "RuntimeError") = some false)
    (r10 : PySem.W.subIn K (.ref CE2) (.type "RuntimeError") = some false)
    (r11 : PySem.W.subIn K (.ref CE3) (.type "RuntimeError") = some false)
    (r12 : PySem.W.subIn K (.ref CE4) (.type "RuntimeError") = some false)
    (r13 : PySem.W.subIn K (.ref CE5) (.type "RuntimeError") = some true)
    (r14 : PySem.W.subIn K (.ref CE6) (.type "RuntimeError") = some true)
    (r15 : PySem.W.subIn K (.ref CE7) (.type "RuntimeError") = some true)
    (r16 : PySem.W.subIn K (.ref CE0) (.type "ValueError") = some true)
    (r17 : PySem.W.subIn K (.ref CE1) (.type "ValueError") = some true)
    (r18 : PySem.W.subIn K (.ref CE2) (.type "ValueError") = some false)
    (r19 : PySem.W.subIn K (.ref CE3) (.type "ValueError") = some false)
    (r20 : PySem.W.subIn K (.ref CE4) (.type "ValueError") = some false)
    (r21 : PySem.W.subIn K (.ref CE5) (.type "ValueError") = some false)
    (r22 : PySem.W.subIn K (.ref CE6) (.type "ValueError") = some false)
    (r23 : PySem.W.subIn K (.ref CE7) (.type "ValueError") = some false)
    (oTD42 : cdD42 = .ref cTD42) (kTD42 : K.lookup cTD42 = some ⟨eTD42, dTD42, .fields vTD42, sTD42⟩) (pTD42 : vTD42[11]? = some (.ref PTD42)) (nTD42 : K.lookup PTD42 = none)
    (bT__law_all_right : PySem.W.nsIn K mainGlobals "_law_all_right" = some none)
    (b_tuple : PySem.W.nsIn K mainGlobals "tuple" = some none)
    (b_isinstance : PySem.W.nsIn K mainGlobals "isinstance" = some none)
    (b_list : PySem.W.nsIn K mainGlobals "list" = some none)
    (b_len : PySem.W.nsIn K mainGlobals "len" = some none)
    (b_zip : PySem.W.nsIn K mainGlobals "zip" = some none)
    (b_all : PySem.W.nsIn K mainGlobals "all" = some none)
    (b_str : PySem.W.nsIn K mainGlobals "str" = some none)
    (b_int : PySem.W.nsIn K mainGlobals "int" = some none)
    (b_bool : PySem.W.nsIn K mainGlobals "bool" = some none)
    (b_min : PySem.W.nsIn K mainGlobals "min" = some none)
    (b_sorted : PySem.W.nsIn K mainGlobals "sorted" = some none)
    (b_ValueError : PySem.W.nsIn K mainGlobals "ValueError" = some none)
    (b_LookupError : PySem.W.nsIn K mainGlobals "LookupError" = some none)
    (b_RuntimeError : PySem.W.nsIn K mainGlobals "RuntimeError" = some none)
    (b_sum : PySem.W.nsIn K mainGlobals "sum" = some none)
    (b_range : PySem.W.nsIn K mainGlobals "range" = some none)
    (b_repr : PySem.W.nsIn K mainGlobals "repr" = some none)
    (b_abs : PySem.W.nsIn K mainGlobals "abs" = some none)
    (b_max : PySem.W.nsIn K mainGlobals "max" = some none) :
    LamX.LawAtS l w K (L2.CX l.prog w) 19 63 "_law_script" mg fa h := by
  have e := hfa.symm.trans (PySem.W.mg_of X G aD44)
  cases e
  have hGal := PySem.W.mg_of X G aG
  have TG : Den.ClsG K mg := ⟨fun C e => by cases hGal.symm.trans e; exact ⟨pgG, hdG, poG, saG⟩, fun C e => by cases hGal.symm.trans e; exact faG, fun C e => by cases hGal.symm.trans e; exact fbG⟩
  have MkG : Mk K CG fD1 := ⟨mkG, aD1, iD1, kpG⟩
  have TK : Den.ClsK K mg := ⟨fun C e => by cases hGal.symm.trans e; exact clG, fun C e => by cases hGal.symm.trans e; exact moG, gsG, gsT, fun C e => by cases hGal.symm.trans e; exact kiG⟩
  have TN : Den.ClsN K mg := ⟨fun C e => by cases hGal.symm.trans e; exact kcG, fun C e => by cases hGal.symm.trans e; exact neG⟩
  have FD0 := fun_mk (st := s_law_take) lD0 cD0 kD0
  have gD0 := PySem.W.mg_of X G aD0
  have FD1 := fun_mk (st := s_Gallery___init__) lD1 cD1 kD1
  have gD1 : Den.MethG K mg "__init__" fD1 := fun C e => by cases hGal.symm.trans e; exact ⟨aD1, iD1, kD1⟩
  have FD2 := fun_mk (st := s_law_same) lD2 cD2 kD2
  have gD2 := PySem.W.mg_of X G aD2
  have FD3 := fun_mk (st := s_Gallery_keep) lD3 cD3 kD3
  have gD3 : Den.MethG K mg "keep" fD3 := fun C e => by cases hGal.symm.trans e; exact ⟨aD3, iD3, kD3⟩
  have FD4 := fun_mk (st := s_refuse_no_pair) lD4 cD4 kD4
  have gD4 := PySem.W.mg_of X G aD4
  have FD5 := fun_mk (st := s_exchanged) lD5 cD5 kD5
  have gD5 := PySem.W.mg_of X G aD5
  have FD6 := fun_mk (st := s_Gallery_row) lD6 cD6 kD6
  have gD6 : Den.MethG K mg "row" fD6 := fun C e => by cases hGal.symm.trans e; exact ⟨aD6, iD6, kD6⟩
  have FD7 := fun_mk (st := s_Gallery_houses) lD7 cD7 kD7
  have gD7 : Den.MethG K mg "houses" fD7 := fun C e => by cases hGal.symm.trans e; exact ⟨aD7, iD7, kD7⟩
  have FD8 := fun_mk (st := s_taller_among) lD8 cD8 kD8
  have gD8 := PySem.W.mg_of X G aD8
  have FD9 := fun_mk (st := s_tellers) lD9 cD9 kD9
  have gD9 := PySem.W.mg_of X G aD9
  have FD10 := fun_mk (st := s_told_by) lD10 cD10 kD10
  have gD10 := PySem.W.mg_of X G aD10
  have FD11 := fun_mk (st := s_Gallery_change) lD11 cD11 kD11
  have gD11 : Den.MethG K mg "change" fD11 := fun C e => by cases hGal.symm.trans e; exact ⟨aD11, iD11, kD11⟩
  have FD12 := fun_mk (st := s_refuse_known) lD12 cD12 kD12
  have gD12 := PySem.W.mg_of X G aD12
  have FD13 := fun_mk (st := s_with_newcomer) lD13 cD13 kD13
  have gD13 := PySem.W.mg_of X G aD13
  have FD14 := fun_mk (st := s_floors_above) lD14 cD14 kD14
  have gD14 := PySem.W.mg_of X G aD14
  have FD15 := fun_mk (st := s_place_of) lD15 cD15 kD15
  have gD15 := PySem.W.mg_of X G aD15
  have FD16 := fun_mk (st := s_taller_ahead) lD16 cD16 kD16
  have gD16 := PySem.W.mg_of X G aD16
  have FD17 := fun_mk (st := s_taller_behind) lD17 cD17 kD17
  have gD17 := PySem.W.mg_of X G aD17
  have FD18 := fun_mk (st := s_seen_by) lD18 cD18 kD18
  have gD18 := PySem.W.mg_of X G aD18
  have FD19 := fun_mk (st := s_seen_otherwise) lD19 cD19 kD19
  have gD19 := PySem.W.mg_of X G aD19
  have FD20 := fun_mk (st := s_gone) lD20 cD20 kD20
  have gD20 := PySem.W.mg_of X G aD20
  have FD21 := fun_mk (st := s_Gallery_go) lD21 cD21 kD21
  have gD21 : Den.MethG K mg "go" fD21 := fun C e => by cases hGal.symm.trans e; exact ⟨aD21, iD21, kD21⟩
  have FD22 := fun_mk (st := s_Gallery_sneak) lD22 cD22 kD22
  have gD22 : Den.MethG K mg "sneak" fD22 := fun C e => by cases hGal.symm.trans e; exact ⟨aD22, iD22, kD22⟩
  have FD23 := fun_mk (st := s_law_act_more) lD23 cD23 kD23
  have gD23 := PySem.W.mg_of X G aD23
  have FD24 := fun_mk (st := s_Gallery_come) lD24 cD24 kD24
  have gD24 : Den.MethG K mg "come" fD24 := fun C e => by cases hGal.symm.trans e; exact ⟨aD24, iD24, kD24⟩
  have FD25 := fun_mk (st := s_Gallery_deeds) lD25 cD25 kD25
  have gD25 : Den.MethG K mg "deeds" fD25 := fun C e => by cases hGal.symm.trans e; exact ⟨aD25, iD25, kD25⟩
  have FD26 := fun_mk (st := s_Gallery_undo) lD26 cD26 kD26
  have gD26 : Den.MethG K mg "undo" fD26 := fun C e => by cases hGal.symm.trans e; exact ⟨aD26, iD26, kD26⟩
  have FD27 := fun_mk (st := s_all_taller_ahead) lD27 cD27 kD27
  have gD27 := PySem.W.mg_of X G aD27
  have FD28 := fun_mk (st := s_folk_of) lD28 cD28 kD28
  have gD28 := PySem.W.mg_of X G aD28
  have FD29 := fun_mk (st := s_seen_from_left) lD29 cD29 kD29
  have gD29 := PySem.W.mg_of X G aD29
  have FD30 := fun_mk (st := s_turned) lD30 cD30 kD30
  have gD30 := PySem.W.mg_of X G aD30
  have FD31 := fun_mk (st := s_seen_by_all) lD31 cD31 kD31
  have gD31 := PySem.W.mg_of X G aD31
  have FD32 := fun_mk (st := s_with_floors) lD32 cD32 kD32
  have gD32 := PySem.W.mg_of X G aD32
  have FD33 := fun_mk (st := s_seen_from) lD33 cD33 kD33
  have gD33 := PySem.W.mg_of X G aD33
  have FD34 := fun_mk (st := s_floors_at) lD34 cD34 kD34
  have gD34 := PySem.W.mg_of X G aD34
  have FD35 := fun_mk (st := s_Gallery_build) lD35 cD35 kD35
  have gD35 : Den.MethG K mg "build" fD35 := fun C e => by cases hGal.symm.trans e; exact ⟨aD35, iD35, kD35⟩
  have FD36 := fun_mk (st := s_Gallery_pull) lD36 cD36 kD36
  have gD36 : Den.MethG K mg "pull" fD36 := fun C e => by cases hGal.symm.trans e; exact ⟨aD36, iD36, kD36⟩
  have FD37 := fun_mk (st := s_law_refusal) lD37 cD37 kD37
  have gD37 := PySem.W.mg_of X G aD37
  have FD38 := fun_mk (st := s_law_act) lD38 cD38 kD38
  have gD38 := PySem.W.mg_of X G aD38
  have FD39 := fun_mk (st := s_Gallery___eq__) lD39 cD39 kD39
  have gD39 : Den.MethG K mg "__eq__" fD39 := fun C e => by cases hGal.symm.trans e; exact ⟨aD39, iD39, kD39⟩
  have FD40 := fun_mk (st := s_floors_many) lD40 cD40 kD40
  have gD40 := PySem.W.mg_of X G aD40
  have FD41 := fun_mk (st := s_Gallery___repr__) lD41 cD41 kD41
  have gD41 : Den.MethG K mg "__repr__" fD41 := fun C e => by cases hGal.symm.trans e; exact ⟨aD41, iD41, kD41⟩
  have FD42 := fun_mk (st := s_law_right) lD42 cD42 kD42
  have gD42 := PySem.W.mg_of X G aD42
  have FD43 := fun_mk (st := s_law_pot) lD43 cD43 kD43
  have gD43 := PySem.W.mg_of X G aD43
  have FD44 := fun_mk (st := s_law) lD44 cD44 kD44
  have gD44 := PySem.W.mg_of X G aD44
  have DF : Den.DfG K (PySem.W.fnOf "__init__" "Gallery.__init__" (defArgs s_Gallery___init__) (defBody s_Gallery___init__) (defScope s_Gallery___init__) .none kVD1 dcD1 pmD1 anD1 cdD1 ctD1) := by
    rw [oDf]
    have z0 : it0f.size ≤ sizeLine := by rw [← Array.length_toList, v0f]; exact (show 2 ≤ sizeLine by decide)
    have z1 : it1f.size ≤ sizeLine := by rw [← Array.length_toList, v1f]; exact (show 0 ≤ sizeLine by decide)
    have z2 : it2f.size ≤ sizeLine := by rw [← Array.length_toList, v2f]; exact (show 0 ≤ sizeLine by decide)
    exact ⟨A0f, E1f, E2f, Den.binds_dflt nDf (fun us u hl => match us, hl with | [_, _], _ => ⟨_, _, _, _, _, _, rfl, rfl, rfl⟩), ⟨_, it0f, n0f, k0f, rfl, rfl, rfl, z0, by rw [v0f]; exact .cons rfl (.cons rfl .nil)⟩, ⟨_, it1f, n1f, k1f, rfl, rfl, rfl, z1, by rw [v1f]; exact .nil⟩, ⟨_, it2f, n2f, k2f, rfl, rfl, rfl, z2, by rw [v2f]; exact .nil⟩⟩
  have FIE0 := fun_mk (st := si_Known) lE0 cE0 kE0
  have TE0 := erT_mk (f := "who") (PySem.W.mg_of X G aE0) xE0 sE0 gE0 hE0 nE0 jE0 tE0 FIE0 yE0 eE0 uE0 dE0 vE0 wE0 zE0 gsG gsT bx_value
  have FIE1 := fun_mk (st := si_NoSide) lE1 cE1 kE1
  have TE1 := erT_mk (f := "side") (PySem.W.mg_of X G aE1) xE1 sE1 gE1 hE1 nE1 jE1 tE1 FIE1 yE1 eE1 uE1 dE1 vE1 wE1 zE1 gsG gsT bx_value
  have FIE2 := fun_mk (st := si_NoOne) lE2 cE2 kE2
  have TE2 := erT_mk (f := "who") (PySem.W.mg_of X G aE2) xE2 sE2 gE2 hE2 nE2 jE2 tE2 FIE2 yE2 eE2 uE2 dE2 vE2 wE2 zE2 gsG gsT bx_lookup
  have FIE3 := fun_mk (st := si_NoPlace) lE3 cE3 kE3
  have TE3 := erT_mk (f := "place") (PySem.W.mg_of X G aE3) xE3 sE3 gE3 hE3 nE3 jE3 tE3 FIE3 yE3 eE3 uE3 dE3 vE3 wE3 zE3 gsG gsT bx_lookup
  have FIE4 := fun_mk (st := si_NoFloor) lE4 cE4 kE4
  have TE4 := erT_mk (f := "floor") (PySem.W.mg_of X G aE4) xE4 sE4 gE4 hE4 nE4 jE4 tE4 FIE4 yE4 eE4 uE4 dE4 vE4 wE4 zE4 gsG gsT bx_lookup
  have FIE5 := fun_mk (st := si_Seen) lE5 cE5 kE5
  have TE5 := erT_mk (f := "place") (PySem.W.mg_of X G aE5) xE5 sE5 gE5 hE5 nE5 jE5 tE5 FIE5 yE5 eE5 uE5 dE5 vE5 wE5 zE5 gsG gsT bx_runtime
  have FIE6 := fun_mk (st := si_Stands) lE6 cE6 kE6
  have TE6 := erT_mk (f := "floor") (PySem.W.mg_of X G aE6) xE6 sE6 gE6 hE6 nE6 jE6 tE6 FIE6 yE6 eE6 uE6 dE6 vE6 wE6 zE6 gsG gsT bx_runtime
  have TE7 : Den.ErB K mg "Last" CE7 := ⟨⟨PySem.W.mg_of X G aE7, eE7, dE7, uE7⟩, ⟨gE7, hE7, eE7, dE7, wE7, gsG, gsT, zE7⟩, vE7⟩
  have RE7 : Den.ErR K mg "Last" CE7 _ _ := ⟨⟨PySem.W.mg_of X G aE7, eE7, dE7, uE7⟩, bx_runtime, x0E7, y0E7⟩
  have mSIDES := PySem.W.mg_of X G aSIDES
  have rrSIDES : RelV (.ref uSIDES) (.ref uSIDES) := rfl
  have rpSIDES : ∀ δ H μ, Rp ⟨K, mg, δ⟩ H μ (.ref uSIDES) c_SIDES := fun δ H μ => Rp.tup (xs := [.str "left", .str "right"]) (.inr ⟨_, _, _, lSIDES, rfl, rfl, rfl, by show 2 ≤ sizeLine; decide, (.cons ⟨_, rfl⟩ (.cons ⟨_, rfl⟩ .nil))⟩) (by show 2 ≤ sizeLine; decide) (.cons (.str _) (.cons (.str _) .nil))
  have m_tuple := PySem.W.mg_none_of X G b_tuple
  have m_isinstance := PySem.W.mg_none_of X G b_isinstance
  have m_list := PySem.W.mg_none_of X G b_list
  have m_len := PySem.W.mg_none_of X G b_len
  have m_zip := PySem.W.mg_none_of X G b_zip
  have m_all := PySem.W.mg_none_of X G b_all
  have m_str := PySem.W.mg_none_of X G b_str
  have m_int := PySem.W.mg_none_of X G b_int
  have m_bool := PySem.W.mg_none_of X G b_bool
  have m_min := PySem.W.mg_none_of X G b_min
  have m_sorted := PySem.W.mg_none_of X G b_sorted
  have m_ValueError := PySem.W.mg_none_of X G b_ValueError
  have m_LookupError := PySem.W.mg_none_of X G b_LookupError
  have m_RuntimeError := PySem.W.mg_none_of X G b_RuntimeError
  have m_sum := PySem.W.mg_none_of X G b_sum
  have m_range := PySem.W.mg_none_of X G b_range
  have m_repr := PySem.W.mg_none_of X G b_repr
  have m_abs := PySem.W.mg_none_of X G b_abs
  have m_max := PySem.W.mg_none_of X G b_max
  have tbD42 := Den.tab_of (nm := "_law_right") gD42 lD42 oTD42 kTD42 pTD42
  have owD42 := OTD42 _ gD42 cTD42 PTD42 _ _ _ _ _ _ lD42 rfl oTD42 kTD42 pTD42
  have tb__law_all_right := Den.tab_no (K := K) (nm := "_law_all_right") (PySem.W.mg_none_of X G bT__law_all_right)
  have hTs : Den.tabsOf K mg = [(PTD42, ((("_law_right" : Str) ++ ".<locals>.") ++ "<lambda>" : Str))] := by
    unfold Den.tabsOf Den.lamNames
    simp only [List.filterMap_cons, List.filterMap_nil, tbD42, tb__law_all_right]
  have bD0 := FD0.binds (ps := ["_law_pot_here", "_law_bound"]) fun _ _ _ _ _ _ us hl => match us, hl with | [_, _], _ => rfl
  have bD2 := FD2.binds (ps := ["_law_found", "_law_due"]) fun _ _ _ _ _ _ us hl => match us, hl with | [_, _], _ => rfl
  have bD3 := FD3.binds (ps := ["self", "row", "houses"]) fun _ _ _ _ _ _ us hl => match us, hl with | [_, _, _], _ => rfl
  have bD4 := FD4.binds (ps := ["row", "place"]) fun _ _ _ _ _ _ us hl => match us, hl with | [_, _], _ => rfl
  have bD5 := FD5.binds (ps := ["row", "place"]) fun _ _ _ _ _ _ us hl => match us, hl with | [_, _], _ => rfl
  have bD6 := FD6.binds (ps := ["self"]) fun _ _ _ _ _ _ us hl => match us, hl with | [_], _ => rfl
  have bD7 := FD7.binds (ps := ["self"]) fun _ _ _ _ _ _ us hl => match us, hl with | [_], _ => rfl
  have bD8 := FD8.binds (ps := ["folk", "who"]) fun _ _ _ _ _ _ us hl => match us, hl with | [_, _], _ => rfl
  have bD9 := FD9.binds (ps := ["row", "place"]) fun _ _ _ _ _ _ us hl => match us, hl with | [_, _], _ => rfl
  have bD10 := FD10.binds (ps := ["row", "houses", "place"]) fun _ _ _ _ _ _ us hl => match us, hl with | [_, _, _], _ => rfl
  have bD11 := FD11.binds (ps := ["self", "place"]) fun _ _ _ _ _ _ us hl => match us, hl with | [_, _], _ => rfl
  have bD12 := FD12.binds (ps := ["row", "who"]) fun _ _ _ _ _ _ us hl => match us, hl with | [_, _], _ => rfl
  have bD13 := FD13.binds (ps := ["row", "who", "place"]) fun _ _ _ _ _ _ us hl => match us, hl with | [_, _, _], _ => rfl
  have bD14 := FD14.binds (ps := ["floors", "taller"]) fun _ _ _ _ _ _ us hl => match us, hl with | [_, _], _ => rfl
  have bD15 := FD15.binds (ps := ["row", "who"]) fun _ _ _ _ _ _ us hl => match us, hl with | [_, _], _ => rfl
  have bD16 := FD16.binds (ps := ["row", "who"]) fun _ _ _ _ _ _ us hl => match us, hl with | [_, _], _ => rfl
  have bD17 := FD17.binds (ps := ["row", "who"]) fun _ _ _ _ _ _ us hl => match us, hl with | [_, _], _ => rfl
  have bD18 := FD18.binds (ps := ["row", "houses", "who"]) fun _ _ _ _ _ _ us hl => match us, hl with | [_, _, _], _ => rfl
  have bD20 := FD20.binds (ps := ["row", "who"]) fun _ _ _ _ _ _ us hl => match us, hl with | [_, _], _ => rfl
  have bD21 := FD21.binds (ps := ["self", "who"]) fun _ _ _ _ _ _ us hl => match us, hl with | [_, _], _ => rfl
  have bD22 := FD22.binds (ps := ["self", "places"]) fun _ _ _ _ _ _ us hl => match us, hl with | [_, _], _ => rfl
  have bD23 := FD23.binds (ps := ["_law_hall", "_law_move"]) fun _ _ _ _ _ _ us hl => match us, hl with | [_, _], _ => rfl
  have bD25 := FD25.binds (ps := ["self"]) fun _ _ _ _ _ _ us hl => match us, hl with | [_], _ => rfl
  have bD26 := FD26.binds (ps := ["self"]) fun _ _ _ _ _ _ us hl => match us, hl with | [_], _ => rfl
  have bD27 := FD27.binds (ps := ["row"]) fun _ _ _ _ _ _ us hl => match us, hl with | [_], _ => rfl
  have bD28 := FD28.binds (ps := ["row"]) fun _ _ _ _ _ _ us hl => match us, hl with | [_], _ => rfl
  have bD29 := FD29.binds (ps := ["row", "floors"]) fun _ _ _ _ _ _ us hl => match us, hl with | [_, _], _ => rfl
  have bD30 := FD30.binds (ps := ["row"]) fun _ _ _ _ _ _ us hl => match us, hl with | [_], _ => rfl
  have bD31 := FD31.binds (ps := ["row", "houses"]) fun _ _ _ _ _ _ us hl => match us, hl with | [_, _], _ => rfl
  have bD32 := FD32.binds (ps := ["houses", "side", "floors"]) fun _ _ _ _ _ _ us hl => match us, hl with | [_, _, _], _ => rfl
  have bD33 := FD33.binds (ps := ["row", "side", "floor"]) fun _ _ _ _ _ _ us hl => match us, hl with | [_, _, _], _ => rfl
  have bD34 := FD34.binds (ps := ["houses", "side"]) fun _ _ _ _ _ _ us hl => match us, hl with | [_, _], _ => rfl
  have bD35 := FD35.binds (ps := ["self", "side", "floor"]) fun _ _ _ _ _ _ us hl => match us, hl with | [_, _, _], _ => rfl
  have bD36 := FD36.binds (ps := ["self", "side", "floor"]) fun _ _ _ _ _ _ us hl => match us, hl with | [_, _, _], _ => rfl
  have bD37 := FD37.binds (ps := ["_law_caught"]) fun _ _ _ _ _ _ us hl => match us, hl with | [_], _ => rfl
  have bD38 := FD38.binds (ps := ["_law_hall", "_law_move"]) fun _ _ _ _ _ _ us hl => match us, hl with | [_, _], _ => rfl
  have bD39 := FD39.binds (ps := ["self", "other"]) fun _ _ _ _ _ _ us hl => match us, hl with | [_, _], _ => rfl
  have bD40 := FD40.binds (ps := ["houses"]) fun _ _ _ _ _ _ us hl => match us, hl with | [_], _ => rfl
  have bD41 := FD41.binds (ps := ["self"]) fun _ _ _ _ _ _ us hl => match us, hl with | [_], _ => rfl
  have bD42 := FD42.binds (ps := ["_law_pot_here"]) fun _ _ _ _ _ _ us hl => match us, hl with | [_], _ => rfl
  have bD43 := FD43.binds (ps := ["_law_script", "_law_k"]) fun _ _ _ _ _ _ us hl => match us, hl with | [_, _], _ => rfl
  have bD44 := FD44.binds (ps := ["_law_script"]) fun _ _ _ _ _ _ us hl => match us, hl with | [_], _ => rfl
  have bE0 := FIE0.binds (ps := ["self", "who"]) fun _ _ _ _ _ _ us hl => match us, hl with | [_, _], _ => rfl
  have bE1 := FIE1.binds (ps := ["self", "side"]) fun _ _ _ _ _ _ us hl => match us, hl with | [_, _], _ => rfl
  have bE2 := FIE2.binds (ps := ["self", "who"]) fun _ _ _ _ _ _ us hl => match us, hl with | [_, _], _ => rfl
  have bE3 := FIE3.binds (ps := ["self", "place"]) fun _ _ _ _ _ _ us hl => match us, hl with | [_, _], _ => rfl
  have bE4 := FIE4.binds (ps := ["self", "floor"]) fun _ _ _ _ _ _ us hl => match us, hl with | [_, _], _ => rfl
  have bE5 := FIE5.binds (ps := ["self", "place"]) fun _ _ _ _ _ _ us hl => match us, hl with | [_, _], _ => rfl
  have bE6 := FIE6.binds (ps := ["self", "floor"]) fun _ _ _ _ _ _ us hl => match us, hl with | [_, _], _ => rfl
  have kmD19_place := kbn_gp (n := 3) (ks := ["place"]) (ps := ["row", "houses", "who", "place"]) [0, 1, 2, 3] FD19 fun _ _ _ _ _ _ us ws hl hw => match us, ws, hl, hw with | [_, _, _], [_], _, _ => rfl
  have kmD19_place := kbn_gp (n := 3) (ks := ["place"]) (ps := ["row", "houses", "who", "place"]) [0, 1, 2, 3] FD19 fun _ _ _ _ _ _ us ws hl hw => match us, ws, hl, hw with | [_, _, _], [_], _, _ => rfl
  have kmD24_place := kbn_gp (n := 2) (ks := ["place"]) (ps := ["self", "who", "place"]) [0, 1, 2] FD24 fun _ _ _ _ _ _ us ws hl hw => match us, ws, hl, hw with | [_, _], [_], _, _ => rfl
  have TS : ErS K mg errs := ⟨fun c hc => by
      simp only [errs, List.mem_cons, List.not_mem_nil, or_false] at hc; rcases hc with rfl | rfl | rfl | rfl | rfl | rfl | rfl | rfl
      · exact ⟨_, TE0.k⟩
      · exact ⟨_, TE1.k⟩
      · exact ⟨_, TE2.k⟩
      · exact ⟨_, TE3.k⟩
      · exact ⟨_, TE4.k⟩
      · exact ⟨_, TE5.k⟩
      · exact ⟨_, TE6.k⟩
      · exact ⟨_, TE7.k⟩
    , fun c hc C e => by
      simp only [errs, List.mem_cons, List.not_mem_nil, or_false] at hc; rcases hc with rfl | rfl | rfl | rfl | rfl | rfl | rfl | rfl
      · cases TE0.k.g.symm.trans e; exact TE0.i
      · cases TE1.k.g.symm.trans e; exact TE1.i
      · cases TE2.k.g.symm.trans e; exact TE2.i
      · cases TE3.k.g.symm.trans e; exact TE3.i
      · cases TE4.k.g.symm.trans e; exact TE4.i
      · cases TE5.k.g.symm.trans e; exact TE5.i
      · cases TE6.k.g.symm.trans e; exact TE6.i
      · cases TE7.k.g.symm.trans e; exact TE7.i
    , fun c hc d hd C D e1 e2 => by
      simp only [errs, List.mem_cons, List.not_mem_nil, or_false] at hc; rcases hc with rfl | rfl | rfl | rfl | rfl | rfl | rfl | rfl
      · cases TE0.k.g.symm.trans e1
        simp only [errs, List.mem_cons, List.not_mem_nil, or_false] at hd; rcases hd with rfl | rfl | rfl | rfl | rfl | rfl | rfl | rfl
        · cases TE0.k.g.symm.trans e2; exact vE0.trans (by decide)
        · cases TE1.k.g.symm.trans e2; exact q0.trans (by decide)
        · cases TE2.k.g.symm.trans e2; exact q1.trans (by decide)
        · cases TE3.k.g.symm.trans e2; exact q2.trans (by decide)
        · cases TE4.k.g.symm.trans e2; exact q3.trans (by decide)
        · cases TE5.k.g.symm.trans e2; exact q4.trans (by decide)
        · cases TE6.k.g.symm.trans e2; exact q5.trans (by decide)
        · cases TE7.k.g.symm.trans e2; exact q6.trans (by decide)
      · cases TE1.k.g.symm.trans e1
        simp only [errs, List.mem_cons, List.not_mem_nil, or_false] at hd; rcases hd with rfl | rfl | rfl | rfl | rfl | rfl | rfl | rfl
        · cases TE0.k.g.symm.trans e2; exact q7.trans (by decide)
        · cases TE1.k.g.symm.trans e2; exact vE1.trans (by decide)
        · cases TE2.k.g.symm.trans e2; exact q8.trans (by decide)
        · cases TE3.k.g.symm.trans e2; exact q9.trans (by decide)
        · cases TE4.k.g.symm.trans e2; exact q10.trans (by decide)
        · cases TE5.k.g.symm.trans e2; exact q11.trans (by decide)
        · cases TE6.k.g.symm.trans e2; exact q12.trans (by decide)
        · cases TE7.k.g.symm.trans e2; exact q13.trans (by decide)
      · cases TE2.k.g.symm.trans e1
        simp only [errs, List.mem_cons, List.not_mem_nil, or_false] at hd; rcases hd with rfl | rfl | rfl | rfl | rfl | rfl | rfl | rfl
        · cases TE0.k.g.symm.trans e2; exact q14.trans (by decide)
        · cases TE1.k.g.symm.trans e2; exact q15.trans (by decide)
        · cases TE2.k.g.symm.trans e2; exact vE2.trans (by decide)
        · cases TE3.k.g.symm.trans e2; exact q16.trans (by decide)
        · cases TE4.k.g.symm.trans e2; exact q17.trans (by decide)
        · cases TE5.k.g.symm.trans e2; exact q18.trans (by decide)
        · cases TE6.k.g.symm.trans e2; exact q19.trans (by decide)
        · cases TE7.k.g.symm.trans e2; exact q20.trans (by decide)
      · cases TE3.k.g.symm.trans e1
        simp only [errs, List.mem_cons, List.not_mem_nil, or_false] at hd; rcases hd with rfl | rfl | rfl | rfl | rfl | rfl | rfl | rfl
        · cases TE0.k.g.symm.trans e2; exact q21.trans (by decide)
        · cases TE1.k.g.symm.trans e2; exact q22.trans (by decide)
        · cases TE2.k.g.symm.trans e2; exact q23.trans (by decide)
        · cases TE3.k.g.symm.trans e2; exact vE3.trans (by decide)
        · cases TE4.k.g.symm.trans e2; exact q24.trans (by decide)
        · cases TE5.k.g.symm.trans e2; exact q25.trans (by decide)
        · cases TE6.k.g.symm.trans e2; exact q26.trans (by decide)
        · cases TE7.k.g.symm.trans e2; exact q27.trans (by decide)
      · cases TE4.k.g.symm.trans e1
        simp only [errs, List.mem_cons, List.not_mem_nil, or_false] at hd; rcases hd with rfl | rfl | rfl | rfl | rfl | rfl | rfl | rfl
        · cases TE0.k.g.symm.trans e2; exact q28.trans (by decide)
        · cases TE1.k.g.symm.trans e2; exact q29.trans (by decide)
        · cases TE2.k.g.symm.trans e2; exact q30.trans (by decide)
        · cases TE3.k.g.symm.trans e2; exact q31.trans (by decide)
        · cases TE4.k.g.symm.trans e2; exact vE4.trans (by decide)
        · cases TE5.k.g.symm.trans e2; exact q32.trans (by decide)
        · cases TE6.k.g.symm.trans e2; exact q33.trans (by decide)
        · cases TE7.k.g.symm.trans e2; exact q34.trans (by decide)
      · cases TE5.k.g.symm.trans e1
        simp only [errs, List.mem_cons, List.not_mem_nil, or_false] at hd; rcases hd with rfl | rfl | rfl | rfl | rfl | rfl | rfl | rfl
        · cases TE0.k.g.symm.trans e2; exact q35.trans (by decide)
        · cases TE1.k.g.symm.trans e2; exact q36.trans (by decide)
        · cases TE2.k.g.symm.trans e2; exact q37.trans (by decide)
        · cases TE3.k.g.symm.trans e2; exact q38.trans (by decide)
        · cases TE4.k.g.symm.trans e2; exact q39.trans (by decide)
        · cases TE5.k.g.symm.trans e2; exact vE5.trans (by decide)
        · cases TE6.k.g.symm.trans e2; exact q40.trans (by decide)
        · cases TE7.k.g.symm.trans e2; exact q41.trans (by decide)
      · cases TE6.k.g.symm.trans e1
        simp only [errs, List.mem_cons, List.not_mem_nil, or_false] at hd; rcases hd with rfl | rfl | rfl | rfl | rfl | rfl | rfl | rfl
        · cases TE0.k.g.symm.trans e2; exact q42.trans (by decide)
        · cases TE1.k.g.symm.trans e2; exact q43.trans (by decide)
        · cases TE2.k.g.symm.trans e2; exact q44.trans (by decide)
        · cases TE3.k.g.symm.trans e2; exact q45.trans (by decide)
        · cases TE4.k.g.symm.trans e2; exact q46.trans (by decide)
        · cases TE5.k.g.symm.trans e2; exact q47.trans (by decide)
        · cases TE6.k.g.symm.trans e2; exact vE6.trans (by decide)
        · cases TE7.k.g.symm.trans e2; exact q48.trans (by decide)
      · cases TE7.k.g.symm.trans e1
        simp only [errs, List.mem_cons, List.not_mem_nil, or_false] at hd; rcases hd with rfl | rfl | rfl | rfl | rfl | rfl | rfl | rfl
        · cases TE0.k.g.symm.trans e2; exact q49.trans (by decide)
        · cases TE1.k.g.symm.trans e2; exact q50.trans (by decide)
        · cases TE2.k.g.symm.trans e2; exact q51.trans (by decide)
        · cases TE3.k.g.symm.trans e2; exact q52.trans (by decide)
        · cases TE4.k.g.symm.trans e2; exact q53.trans (by decide)
        · cases TE5.k.g.symm.trans e2; exact q54.trans (by decide)
        · cases TE6.k.g.symm.trans e2; exact q55.trans (by decide)
        · cases TE7.k.g.symm.trans e2; exact vE7.trans (by decide)⟩
  have hup_LookupError : ∀ c ∈ errs, ∀ C, mg c = some (.ref C) → PySem.W.kitOne K (.ref C) (.type "LookupError") = some (up_LookupError c) := fun c hc C e => by
    simp only [errs, List.mem_cons, List.not_mem_nil, or_false] at hc; rcases hc with rfl | rfl | rfl | rfl | rfl | rfl | rfl | rfl
    · cases TE0.k.g.symm.trans e; exact (kit_up (by decide +kernel) r0).trans (by decide)
    · cases TE1.k.g.symm.trans e; exact (kit_up (by decide +kernel) r1).trans (by decide)
    · cases TE2.k.g.symm.trans e; exact (kit_up (by decide +kernel) r2).trans (by decide)
    · cases TE3.k.g.symm.trans e; exact (kit_up (by decide +kernel) r3).trans (by decide)
    · cases TE4.k.g.symm.trans e; exact (kit_up (by decide +kernel) r4).trans (by decide)
    · cases TE5.k.g.symm.trans e; exact (kit_up (by decide +kernel) r5).trans (by decide)
    · cases TE6.k.g.symm.trans e; exact (kit_up (by decide +kernel) r6).trans (by decide)
    · cases TE7.k.g.symm.trans e; exact (kit_up (by decide +kernel) r7).trans (by decide)
  have hup_RuntimeError : ∀ c ∈ errs, ∀ C, mg c = some (.ref C) → PySem.W.kitOne K (.ref C) (.type "RuntimeError") = some (up_RuntimeError c) := fun c hc C e => by
    simp only [errs, List.mem_cons, List.not_mem_nil, or_false] at hc; rcases hc with rfl | rfl | rfl | rfl | rfl | rfl | rfl | rfl
    · cases TE0.k.g.symm.trans e; exact (kit_up (by decide +kernel) r8).trans (by decide)
    · cases TE1.k.g.symm.trans e; exact (kit_up (by decide +kernel) r9).trans (by decide)
    · cases TE2.k.g.symm.trans e; exact (kit_up (by decide +kernel) r10).trans (by decide)
    · cases TE3.k.g.symm.trans e; exact (kit_up (by decide +kernel) r11).trans (by decide)
    · cases TE4.k.g.symm.trans e; exact (kit_up (by decide +kernel) r12).trans (by decide)
    · cases TE5.k.g.symm.trans e; exact (kit_up (by decide +kernel) r13).trans (by decide)
    · cases TE6.k.g.symm.trans e; exact (kit_up (by decide +kernel) r14).trans (by decide)
    · cases TE7.k.g.symm.trans e; exact (kit_up (by decide +kernel) r15).trans (by decide)
  have hup_ValueError : ∀ c ∈ errs, ∀ C, mg c = some (.ref C) → PySem.W.kitOne K (.ref C) (.type "ValueError") = some (up_ValueError c) := fun c hc C e => by
    simp only [errs, List.mem_cons, List.not_mem_nil, or_false] at hc; rcases hc with rfl | rfl | rfl | rfl | rfl | rfl | rfl | rfl
    · cases TE0.k.g.symm.trans e; exact (kit_up (by decide +kernel) r16).trans (by decide)
    · cases TE1.k.g.symm.trans e; exact (kit_up (by decide +kernel) r17).trans (by decide)
    · cases TE2.k.g.symm.trans e; exact (kit_up (by decide +kernel) r18).trans (by decide)
    · cases TE3.k.g.symm.trans e; exact (kit_up (by decide +kernel) r19).trans (by decide)
    · cases TE4.k.g.symm.trans e; exact (kit_up (by decide +kernel) r20).trans (by decide)
    · cases TE5.k.g.symm.trans e; exact (kit_up (by decide +kernel) r21).trans (by decide)
    · cases TE6.k.g.symm.trans e; exact (kit_up (by decide +kernel) r22).trans (by decide)
    · cases TE7.k.g.symm.trans e; exact (kit_up (by decide +kernel) r23).trans (by decide)
  have hnof_floor : ∀ c ∈ errs, ∀ C, mg c = some (.ref C) → PySem.W.findIn K (.ref C) "floor" = some none := fun c hc C e => by
    simp only [errs, List.mem_cons, List.not_mem_nil, or_false] at hc; rcases hc with rfl | rfl | rfl | rfl | rfl | rfl | rfl | rfl
    · cases TE0.k.g.symm.trans e; exact nf0
    · cases TE1.k.g.symm.trans e; exact nf1
    · cases TE2.k.g.symm.trans e; exact nf2
    · cases TE3.k.g.symm.trans e; exact nf3
    · cases TE4.k.g.symm.trans e; exact nE4
    · cases TE5.k.g.symm.trans e; exact nf4
    · cases TE6.k.g.symm.trans e; exact nE6
    · cases TE7.k.g.symm.trans e; exact nf5
  have hnof_place : ∀ c ∈ errs, ∀ C, mg c = some (.ref C) → PySem.W.findIn K (.ref C) "place" = some none := fun c hc C e => by
    simp only [errs, List.mem_cons, List.not_mem_nil, or_false] at hc; rcases hc with rfl | rfl | rfl | rfl | rfl | rfl | rfl | rfl
    · cases TE0.k.g.symm.trans e; exact nf6
    · cases TE1.k.g.symm.trans e; exact nf7
    · cases TE2.k.g.symm.trans e; exact nf8
    · cases TE3.k.g.symm.trans e; exact nE3
    · cases TE4.k.g.symm.trans e; exact nf9
    · cases TE5.k.g.symm.trans e; exact nE5
    · cases TE6.k.g.symm.trans e; exact nf10
    · cases TE7.k.g.symm.trans e; exact nf11
  have hnof_side : ∀ c ∈ errs, ∀ C, mg c = some (.ref C) → PySem.W.findIn K (.ref C) "side" = some none := fun c hc C e => by
    simp only [errs, List.mem_cons, List.not_mem_nil, or_false] at hc; rcases hc with rfl | rfl | rfl | rfl | rfl | rfl | rfl | rfl
    · cases TE0.k.g.symm.trans e; exact nf12
    · cases TE1.k.g.symm.trans e; exact nE1
    · cases TE2.k.g.symm.trans e; exact nf13
    · cases TE3.k.g.symm.trans e; exact nf14
    · cases TE4.k.g.symm.trans e; exact nf15
    · cases TE5.k.g.symm.trans e; exact nf16
    · cases TE6.k.g.symm.trans e; exact nf17
    · cases TE7.k.g.symm.trans e; exact nf18
  have hnof_who : ∀ c ∈ errs, ∀ C, mg c = some (.ref C) → PySem.W.findIn K (.ref C) "who" = some none := fun c hc C e => by
    simp only [errs, List.mem_cons, List.not_mem_nil, or_false] at hc; rcases hc with rfl | rfl | rfl | rfl | rfl | rfl | rfl | rfl
    · cases TE0.k.g.symm.trans e; exact nE0
    · cases TE1.k.g.symm.trans e; exact nf19
    · cases TE2.k.g.symm.trans e; exact nE2
    · cases TE3.k.g.symm.trans e; exact nf20
    · cases TE4.k.g.symm.trans e; exact nf21
    · cases TE5.k.g.symm.trans e; exact nf22
    · cases TE6.k.g.symm.trans e; exact nf23
    · cases TE7.k.g.symm.trans e; exact nf24
  have fin : ∀ base : Heap, (∀ p ∈ ([(cTD42, PTD42)] : List (Addr × Addr)), LamX.TabB base mg p.1 p.2) → FnOk l.prog w K mg base (L2.CX l.prog w) 19 fa _ ["_law_script"] (spLaw K mg) := fun base TB => by
    have HD0 : FnOk l.prog w K mg base (L2.CX l.prog w) 7 _ _ ["_law_pot_here", "_law_bound"] (spD K mg 2 (Den.g_law_take 6)) := ok_law_take FD0 bD0 gD0 6
    have HD1 : FnOk l.prog w K mg base (L2.CX l.prog w) 1 _ _ ["self", "row", "houses"] (spD K mg 3 Den.g_Gallery___init__) := ok_Gallery___init__ FD1 m_tuple hGal TG
    have HD2 : FnOk l.prog w K mg base (L2.CX l.prog w) 17 _ _ ["_law_found", "_law_due"] (spD K mg 2 (Den.g_law_same 16)) := ok_law_same FD2 bD2 gD2 m_isinstance m_list m_tuple m_len m_zip m_all m_str m_int m_bool 16
    have HD3 : FnOk l.prog w K mg base (L2.CX l.prog w) 1 _ _ ["self", "row", "houses"] (spD K mg 3 Den.g_Gallery_keep) := ok_Gallery_keep FD3 hGal TG
    have HD4 : FnOk l.prog w K mg base (L2.CX l.prog w) 3 _ _ ["row", "place"] (spD K mg 2 Den.g_refuse_no_pair) := ok_refuse_no_pair FD4 TE3 (fun _ => (ok_i_NoPlace (k := 0) TE3).mono (by decide)) bE3 m_len
    have HD5 : FnOk l.prog w K mg base (L2.CX l.prog w) 4 _ _ ["row", "place"] (spD K mg 2 Den.g_exchanged) := ok_exchanged FD5 FD4 bD4 gD4 (HD4.mono (by decide)) m_list m_tuple
    have HD6 : FnOk l.prog w K mg base (L2.CX l.prog w) 1 _ _ ["self"] (spD K mg 1 Den.g_Gallery_row) := ok_Gallery_row FD6 hGal TG
    have HD7 : FnOk l.prog w K mg base (L2.CX l.prog w) 1 _ _ ["self"] (spD K mg 1 Den.g_Gallery_houses) := ok_Gallery_houses FD7 hGal TG
    have HD8 : FnOk l.prog w K mg base (L2.CX l.prog w) 1 _ _ ["folk", "who"] (spD K mg 2 Den.g_taller_among) := ok_taller_among FD8 m_len
    have HD9 : FnOk l.prog w K mg base (L2.CX l.prog w) 2 _ _ ["row", "place"] (spD K mg 2 Den.g_tellers) := ok_tellers FD9 FD8 bD8 gD8 (HD8.mono (by decide)) m_min
    have HD10 : FnOk l.prog w K mg base (L2.CX l.prog w) 4 _ _ ["row", "houses", "place"] (spD K mg 3 Den.g_told_by) := ok_told_by FD10 FD4 bD4 gD4 (HD4.mono (by decide)) FD9 bD9 gD9 (HD9.mono (by decide)) mSIDES rrSIDES rpSIDES m_zip
    have HD11 : FnOk l.prog w K mg base (L2.CX l.prog w) 5 _ _ ["self", "place"] (spD K mg 2 Den.g_Gallery_change) := ok_Gallery_change FD11 FD3 bD3 gD3 (HD3.mono (by decide)) FD5 bD5 gD5 (HD5.mono (by decide)) FD6 bD6 gD6 (HD6.mono (by decide)) FD7 bD7 gD7 (HD7.mono (by decide)) FD10 bD10 gD10 (HD10.mono (by decide)) hGal TG
    have HD12 : FnOk l.prog w K mg base (L2.CX l.prog w) 3 _ _ ["row", "who"] (spD K mg 2 Den.g_refuse_known) := ok_refuse_known FD12 TE0 (fun _ => (ok_i_Known (k := 0) TE0).mono (by decide)) bE0
    have HD13 : FnOk l.prog w K mg base (L2.CX l.prog w) 4 _ _ ["row", "who", "place"] (spD K mg 3 Den.g_with_newcomer) := ok_with_newcomer FD13 FD12 bD12 gD12 (HD12.mono (by decide)) TE3 (fun _ => (ok_i_NoPlace (k := 0) TE3).mono (by decide)) bE3 m_len m_list m_tuple
    have HD14 : FnOk l.prog w K mg base (L2.CX l.prog w) 1 _ _ ["floors", "taller"] (spD K mg 2 Den.g_floors_above) := ok_floors_above FD14 m_len
    have HD15 : FnOk l.prog w K mg base (L2.CX l.prog w) 3 _ _ ["row", "who"] (spD K mg 2 Den.g_place_of) := ok_place_of FD15 TE2 (fun _ => (ok_i_NoOne (k := 0) TE2).mono (by decide)) bE2
    have HD16 : FnOk l.prog w K mg base (L2.CX l.prog w) 4 _ _ ["row", "who"] (spD K mg 2 Den.g_taller_ahead) := ok_taller_ahead FD16 FD8 bD8 gD8 (HD8.mono (by decide)) FD15 bD15 gD15 (HD15.mono (by decide))
    have HD17 : FnOk l.prog w K mg base (L2.CX l.prog w) 4 _ _ ["row", "who"] (spD K mg 2 Den.g_taller_behind) := ok_taller_behind FD17 FD8 bD8 gD8 (HD8.mono (by decide)) FD15 bD15 gD15 (HD15.mono (by decide))
    have HD18 : FnOk l.prog w K mg base (L2.CX l.prog w) 5 _ _ ["row", "houses", "who"] (spD K mg 3 Den.g_seen_by) := ok_seen_by FD18 FD14 bD14 gD14 (HD14.mono (by decide)) FD16 bD16 gD16 (HD16.mono (by decide)) FD17 bD17 gD17 (HD17.mono (by decide))
    have HD19 : FnOk l.prog w K mg base (L2.CX l.prog w) 6 _ _ ["row", "houses", "who", "place"] (spD K mg 4 Den.g_seen_otherwise) := ok_seen_otherwise FD19 FD13 bD13 gD13 (HD13.mono (by decide)) FD18 bD18 gD18 (HD18.mono (by decide)) m_sorted
    have HD20 : FnOk l.prog w K mg base (L2.CX l.prog w) 3 _ _ ["row", "who"] (spD K mg 2 Den.g_gone) := ok_gone FD20 TE2 (fun _ => (ok_i_NoOne (k := 0) TE2).mono (by decide)) bE2 RE7 m_len m_tuple
    have HD21 : FnOk l.prog w K mg base (L2.CX l.prog w) 7 _ _ ["self", "who"] (spD K mg 2 Den.g_Gallery_go) := ok_Gallery_go FD21 FD3 bD3 gD3 (HD3.mono (by decide)) FD7 bD7 gD7 (HD7.mono (by decide)) FD19 gD19 (HD19.mono (by decide)) FD6 bD6 gD6 (HD6.mono (by decide)) FD20 bD20 gD20 (HD20.mono (by decide)) kmD19_place hGal TG
    have HD22 : FnOk l.prog w K mg base (L2.CX l.prog w) 5 _ _ ["self", "places"] (spD K mg 2 Den.g_Gallery_sneak) := ok_Gallery_sneak FD22 FD6 bD6 gD6 (HD6.mono (by decide)) FD10 bD10 gD10 (HD10.mono (by decide)) FD7 bD7 gD7 (HD7.mono (by decide)) FD5 bD5 gD5 (HD5.mono (by decide)) FD3 bD3 gD3 (HD3.mono (by decide)) TE5 (fun _ => (ok_i_Seen (k := 0) TE5).mono (by decide)) bE5 hGal TG
    have HD23 : FnOk l.prog w K mg base (L2.CX l.prog w) 8 _ _ ["_law_hall", "_law_move"] (spD K mg 2 Den.g_law_act_more) := ok_law_act_more FD23 FD21 bD21 gD21 (HD21.mono (by decide)) FD22 bD22 gD22 (HD22.mono (by decide)) hGal TG
    have HD24 : FnOk l.prog w K mg base (L2.CX l.prog w) 7 _ _ ["self", "who", "place"] (spD K mg 3 Den.g_Gallery_come) := ok_Gallery_come FD24 FD3 bD3 gD3 (HD3.mono (by decide)) FD13 bD13 gD13 (HD13.mono (by decide)) FD6 bD6 gD6 (HD6.mono (by decide)) FD7 bD7 gD7 (HD7.mono (by decide)) FD19 gD19 (HD19.mono (by decide)) kmD19_place hGal TG
    have HD25 : FnOk l.prog w K mg base (L2.CX l.prog w) 1 _ _ ["self"] (spD K mg 1 Den.g_Gallery_deeds) := ok_Gallery_deeds FD25 m_len hGal TG
    have HD26 : FnOk l.prog w K mg base (L2.CX l.prog w) 2 _ _ ["self"] (spD K mg 1 Den.g_Gallery_undo) := ok_Gallery_undo FD26 FD25 bD25 gD25 (HD25.mono (by decide)) hGal TG
    have HD27 : FnOk l.prog w K mg base (L2.CX l.prog w) 1 _ _ ["row"] (spD K mg 1 Den.g_all_taller_ahead) := ok_all_taller_ahead FD27 m_len
    have HD28 : FnOk l.prog w K mg base (L2.CX l.prog w) 1 _ _ ["row"] (spD K mg 1 Den.g_folk_of) := ok_folk_of FD28 m_sorted m_tuple
    have HD29 : FnOk l.prog w K mg base (L2.CX l.prog w) 2 _ _ ["row", "floors"] (spD K mg 2 Den.g_seen_from_left) := ok_seen_from_left FD29 FD27 bD27 gD27 (HD27.mono (by decide)) FD28 bD28 gD28 (HD28.mono (by decide)) m_tuple
    have HD30 : FnOk l.prog w K mg base (L2.CX l.prog w) 1 _ _ ["row"] (spD K mg 1 Den.g_turned) := ok_turned FD30 m_tuple
    have HD31 : FnOk l.prog w K mg base (L2.CX l.prog w) 3 _ _ ["row", "houses"] (spD K mg 2 Den.g_seen_by_all) := ok_seen_by_all FD31 FD29 bD29 gD29 (HD29.mono (by decide)) FD30 bD30 gD30 (HD30.mono (by decide))
    have HD32 : FnOk l.prog w K mg base (L2.CX l.prog w) 1 _ _ ["houses", "side", "floors"] (spD K mg 3 Den.g_with_floors) := ok_with_floors FD32 mSIDES rrSIDES rpSIDES m_zip m_tuple
    have HD33 : FnOk l.prog w K mg base (L2.CX l.prog w) 4 _ _ ["row", "side", "floor"] (spD K mg 3 Den.g_seen_from) := ok_seen_from FD33 FD31 bD31 gD31 (HD31.mono (by decide)) FD32 bD32 gD32 (HD32.mono (by decide)) mSIDES rrSIDES rpSIDES
    have HD34 : FnOk l.prog w K mg base (L2.CX l.prog w) 3 _ _ ["houses", "side"] (spD K mg 2 Den.g_floors_at) := ok_floors_at FD34 TE1 (fun _ => (ok_i_NoSide (k := 0) TE1).mono (by decide)) bE1 mSIDES rrSIDES rpSIDES
    have HD35 : FnOk l.prog w K mg base (L2.CX l.prog w) 5 _ _ ["self", "side", "floor"] (spD K mg 3 Den.g_Gallery_build) := ok_Gallery_build FD35 FD33 bD33 gD33 (HD33.mono (by decide)) FD6 bD6 gD6 (HD6.mono (by decide)) FD3 bD3 gD3 (HD3.mono (by decide)) FD32 bD32 gD32 (HD32.mono (by decide)) FD7 bD7 gD7 (HD7.mono (by decide)) FD34 bD34 gD34 (HD34.mono (by decide)) TE6 (fun _ => (ok_i_Stands (k := 0) TE6).mono (by decide)) bE6 m_sorted m_tuple hGal TG
    have HD36 : FnOk l.prog w K mg base (L2.CX l.prog w) 4 _ _ ["self", "side", "floor"] (spD K mg 3 Den.g_Gallery_pull) := ok_Gallery_pull FD36 FD34 bD34 gD34 (HD34.mono (by decide)) FD7 bD7 gD7 (HD7.mono (by decide)) FD3 bD3 gD3 (HD3.mono (by decide)) FD6 bD6 gD6 (HD6.mono (by decide)) FD32 bD32 gD32 (HD32.mono (by decide)) TE4 (fun _ => (ok_i_NoFloor (k := 0) TE4).mono (by decide)) bE4 m_tuple hGal TG
    have HD37 : FnOk l.prog w K mg base (L2.CX l.prog w) 1 _ _ ["_law_caught"] (spD K mg 1 Den.g_law_refusal) := ok_law_refusal FD37 TS TE0.k.g TE1.k.g TE2.k.g TE3.k.g TE4.k.g TE5.k.g TE6.k.g TE7.k.g hup_ValueError hup_LookupError hup_RuntimeError hnof_who hnof_side hnof_place hnof_floor m_isinstance m_ValueError m_LookupError m_RuntimeError
    have HD38 : FnOk l.prog w K mg base (L2.CX l.prog w) 9 _ _ ["_law_hall", "_law_move"] (spD K mg 2 Den.g_law_act) := ok_law_act FD38 FD11 bD11 gD11 (HD11.mono (by decide)) FD23 bD23 gD23 (HD23.mono (by decide)) FD24 gD24 (HD24.mono (by decide)) FD26 bD26 gD26 (HD26.mono (by decide)) FD35 bD35 gD35 (HD35.mono (by decide)) FD36 bD36 gD36 (HD36.mono (by decide)) FD37 bD37 gD37 (HD37.mono (by decide)) kmD24_place TS TE6.k.g TE5.k.g TE1.k.g TE3.k.g TE2.k.g TE4.k.g TE7.k.g TE0.k.g hGal TG
    have HD39 : FnOk l.prog w K mg base (L2.CX l.prog w) 2 _ _ ["self", "other"] (spD K mg 2 Den.g_Gallery___eq__) := ok_Gallery___eq__ FD39 FD6 bD6 gD6 (HD6.mono (by decide)) FD7 bD7 gD7 (HD7.mono (by decide)) m_isinstance hGal TG TK TN
    have HD40 : FnOk l.prog w K mg base (L2.CX l.prog w) 1 _ _ ["houses"] (spD K mg 1 Den.g_floors_many) := ok_floors_many FD40 m_len m_sum
    have HD41 : FnOk l.prog w K mg base (L2.CX l.prog w) 2 _ _ ["self"] (spD K mg 1 Den.g_Gallery___repr__) := ok_Gallery___repr__ FD41 FD40 bD40 gD40 (HD40.mono (by decide)) FD7 bD7 gD7 (HD7.mono (by decide)) FD6 bD6 gD6 (HD6.mono (by decide)) m_len hGal TG
    have HD42 : FnOk l.prog w K mg base (L2.CX l.prog w) 18 _ _ ["_law_pot_here"] (spD K mg 1 Den.g_law_right) := ok_law_right FD42 FD0 bD0 gD0 (HD0.mono (by decide)) FD1 gD1 (HD1.mono (by decide)) FD2 bD2 gD2 (HD2.mono (by decide)) FD38 bD38 gD38 (HD38.mono (by decide)) FD6 bD6 gD6 (HD6.mono (by decide)) FD7 bD7 gD7 (HD7.mono (by decide)) FD25 bD25 gD25 (HD25.mono (by decide)) FD26 bD26 gD26 (HD26.mono (by decide)) FD39 bD39 gD39 (HD39.mono (by decide)) FD41 bD41 gD41 (HD41.mono (by decide)) (HD1.mono (by decide)) (HD41.mono (by decide)) m_range m_repr hGal TG MkG DF
    have HD43 : FnOk l.prog w K mg base (L2.CX l.prog w) 1 _ _ ["_law_script", "_law_k"] (spD K mg 2 Den.g_law_pot) := ok_law_pot FD43 m_len m_abs m_int
    have HD44 : FnOk l.prog w K mg base (L2.CX l.prog w) 19 _ _ ["_law_script"] (spD K mg 1 Den.g_law) := ok_law FD44 FD42 bD42 gD42 (HD42.mono (by decide)) FD43 bD43 gD43 (HD43.mono (by decide)) m_len m_min m_max m_range m_all
    exact law_end (fun ns hl => v_law ns hl) HD44
  refine Den.at_head (cs := [(cTD42, PTD42)]) (fun p hp => by
      simp only [List.mem_cons, List.not_mem_nil, or_false] at hp
      rcases hp with rfl
      · exact owD42.1
      ) (fun p hp => by
      simp only [List.mem_cons, List.not_mem_nil, or_false] at hp
      rcases hp with rfl
      · exact nTD42
      ) (fun p hp => by
      simp only [List.mem_cons, List.not_mem_nil, or_false] at hp
      rcases hp with rfl
      · exact owD42.2
      ) (fun p hp => by
      rw [hTs] at hp
      simp only [List.mem_cons, List.not_mem_nil, or_false] at hp
      rcases hp with rfl
      · exact ⟨cTD42, by simp⟩
      ) (fun s v => .of_eq rfl) fin
end Den
open PySem PySem.W PyProof.Rows
set_option maxHeartbeats 0 in
theorem PySem.Challenge.cw_balconyrow_k70_known_gallery_holds : PySem.Challenge.rw_balconyrow_k70_known_gallery.Holds := by
  w_on; o_law; k_head; (case hw => w_witness2)
  k_fill
  refine Den.walk_tab (l := PySem.Challenge.rw_balconyrow_k70_known_gallery) (n := 63) (k := 19) (x := "_law_script") (CX := fun w => L2.CX (PySem.Challenge.rw_balconyrow_k70_known_gallery).prog w) rfl (by decide) rfl ⟨rfl, by decide, by decide⟩ (fun w h Y => PySem.W.kIn_of Y) ?F (fun _ _ _ _ _ h => Den.cx_no h)
  case F =>
    intro w mg fa h KX G hmg tabs
    refine' Den.all_mk KX G hmg (fun f e => tabs "_law_right" f (by decide +kernel) e) ?nf0 ?nf1 ?nf2 ?nf3 ?nf4 ?nf5 ?nf6 ?nf7 ?nf8 ?nf9 ?nf10 ?nf11 ?nf12 ?nf13 ?nf14 ?nf15 ?nf16 ?nf17 ?nf18 ?nf19 ?nf20 ?nf21 ?nf22 ?nf23 ?nf24 ?aSIDES ?lSIDES ?aG ?pgG ?hdG ?poG ?saG ?faG ?fbG ?mkG ?kpG ?clG ?moG ?kiG ?kcG ?neG ?aD0 ?lD0 ?cD0 ?kD0 ?aD1 ?lD1 ?cD1 ?kD1 ?iD1 ?aD2 ?lD2 ?cD2 ?kD2 ?aD3 ?lD3 ?cD3 ?kD3 ?iD3 ?aD4 ?lD4 ?cD4 ?kD4 ?aD5 ?lD5 ?cD5 ?kD5 ?aD6 ?lD6 ?cD6 ?kD6 ?iD6 ?aD7 ?lD7 ?cD7 ?kD7 ?iD7 ?aD8 ?lD8 ?cD8 ?kD8 ?aD9 ?lD9 ?cD9 ?kD9 ?aD10 ?lD10 ?cD10 ?kD10 ?aD11 ?lD11 ?cD11 ?kD11 ?iD11 ?aD12 ?lD12 ?cD12 ?kD12 ?aD13 ?lD13 ?cD13 ?kD13 ?aD14 ?lD14 ?cD14 ?kD14 ?aD15 ?lD15 ?cD15 ?kD15 ?aD16 ?lD16 ?cD16 ?kD16 ?aD17 ?lD17 ?cD17 ?kD17 ?aD18 ?lD18 ?cD18 ?kD18 ?aD19 ?lD19 ?cD19 ?kD19 ?aD20 ?lD20 ?cD20 ?kD20 ?aD21 ?lD21 ?cD21 ?kD21 ?iD21 ?aD22 ?lD22 ?cD22 ?kD22 ?iD22 ?aD23 ?lD23 ?cD23 ?kD23 ?aD24 ?lD24 ?cD24 ?kD24 ?iD24 ?aD25 ?lD25 ?cD25 ?kD25 ?iD25 ?aD26 ?lD26 ?cD26 ?kD26 ?iD26 ?aD27 ?lD27 ?cD27 ?kD27 ?aD28 ?lD28 ?cD28 ?kD28 ?aD29 ?lD29 ?cD29 ?kD29 ?aD30 ?lD30 ?cD30 ?kD30 ?aD31 ?lD31 ?cD31 ?kD31 ?aD32 ?lD32 ?cD32 ?kD32 ?aD33 ?lD33 ?cD33 ?kD33 ?aD34 ?lD34 ?cD34 ?kD34 ?aD35 ?lD35 ?cD35 ?kD35 ?iD35 ?aD36 ?lD36 ?cD36 ?kD36 ?iD36 ?aD37 ?lD37 ?cD37 ?kD37 ?aD38 ?lD38 ?cD38 ?kD38 ?aD39 ?lD39 ?cD39 ?kD39 ?iD39 ?aD40 ?lD40 ?cD40 ?kD40 ?aD41 ?lD41 ?cD41 ?kD41 ?iD41 ?aD42 ?lD42 ?cD42 ?kD42 ?aD43 ?lD43 ?cD43 ?kD43 ?aD44 ?lD44 ?cD44 ?kD44 ?oDf ?nDf ?k0f ?v0f ?k1f ?v1f ?k2f ?v2f ?aE0 ?xE0 ?sE0 ?gE0 ?hE0 ?nE0 ?jE0 ?tE0 ?lE0 ?cE0 ?kE0 ?yE0 ?eE0 ?uE0 ?dE0 ?vE0 ?wE0 ?zE0 ?aE1 ?xE1 ?sE1 ?gE1 ?hE1 ?nE1 ?jE1 ?tE1 ?lE1 ?cE1 ?kE1 ?yE1 ?eE1 ?uE1 ?dE1 ?vE1 ?wE1 ?zE1 ?aE2 ?xE2 ?sE2 ?gE2 ?hE2 ?nE2 ?jE2 ?tE2 ?lE2 ?cE2 ?kE2 ?yE2 ?eE2 ?uE2 ?dE2 ?vE2 ?wE2 ?zE2 ?aE3 ?xE3 ?sE3 ?gE3 ?hE3 ?nE3 ?jE3 ?tE3 ?lE3 ?cE3 ?kE3 ?yE3 ?eE3 ?uE3 ?dE3 ?vE3 ?wE3 ?zE3 ?aE4 ?xE4 ?sE4 ?gE4 ?hE4 ?nE4 ?jE4 ?tE4 ?lE4 ?cE4 ?kE4 ?yE4 ?eE4 ?uE4 ?dE4 ?vE4 ?wE4 ?zE4 ?aE5 ?xE5 ?sE5 ?gE5 ?hE5 ?nE5 ?jE5 ?tE5 ?lE5 ?cE5 ?kE5 ?yE5 ?eE5 ?uE5 ?dE5 ?vE5 ?wE5 ?zE5 ?aE6 ?xE6 ?sE6 ?gE6 ?hE6 ?nE6 ?jE6 ?tE6 ?lE6 ?cE6 ?kE6 ?yE6 ?eE6 ?uE6 ?dE6 ?vE6 ?wE6 ?zE6 ?gsG ?gsT ?aE7 ?eE7 ?uE7 ?dE7 ?gE7 ?hE7 ?vE7 ?wE7 ?zE7 ?x0E7 ?y0E7 ?q0 ?q1 ?q2 ?q3 ?q4 ?q5 ?q6 ?q7 ?q8 ?q9 ?q10 ?q11 ?q12 ?q13 ?q14 ?q15 ?q16 ?q17 ?q18 ?q19 ?q20 ?q21 ?q22 ?q23 ?q24 ?q25 ?q26 ?q27 ?q28 ?q29 ?q30 ?q31 ?q32 ?q33 ?q34 ?q35 ?q36 ?q37 ?q38 ?q39 ?q40 ?q41 ?q42 ?q43 ?q44 ?q45 ?q46 ?q47 ?q48 ?q49 ?q50 ?q51 ?q52 ?q53 ?q54 ?q55 ?r0 ?r1 ?r2 ?r3 ?r4 ?r5 ?r6 ?r7 ?r8 ?r9 ?r10 ?r11 ?r12 ?r13 ?r14 ?r15 ?r16 ?r17 ?r18 ?r19 ?r20 ?r21 ?r22 ?r23 ?oTD42 ?kTD42 ?pTD42 ?nTD42 ?bT__law_all_right ?b_tuple ?b_isinstance ?b_list ?b_len ?b_zip ?b_all ?b_str ?b_int ?b_bool ?b_min ?b_sorted ?b_ValueError ?b_LookupError ?b_RuntimeError ?b_sum ?b_range ?b_repr ?b_abs ?b_max
    (case aG => k_is); (case pgG => (first | k_is | kernel_rfl)); (case hdG => (first | k_is | kernel_rfl)); (case poG => (first | k_is | kernel_rfl)); (case saG => k_is); (case faG => k_is); (case fbG => k_is); (case mkG => (first | k_is | kernel_rfl))
    (case kpG => (first | k_is | kernel_rfl)); (case clG => k_is); (case moG => (first | k_is | kernel_rfl)); (case kiG => (first | k_is | kernel_rfl)); (case kcG => (first | k_is | kernel_rfl)); (case neG => k_is); (case aD0 => k_is); (case lD0 => k_is)
    (case cD0 => k_is); (case kD0 => k_is); (case aD1 => k_is); (case lD1 => k_is); (case cD1 => k_is); (case kD1 => k_is); (case iD1 => (first | k_is | kernel_rfl)); (case aD2 => k_is)
    (case lD2 => k_is); (case cD2 => k_is); (case kD2 => k_is); (case aD3 => k_is); (case lD3 => k_is); (case cD3 => k_is); (case kD3 => k_is); (case iD3 => (first | k_is | kernel_rfl))
    (case aD4 => k_is); (case lD4 => k_is); (case cD4 => k_is); (case kD4 => k_is); (case aD5 => k_is); (case lD5 => k_is); (case cD5 => k_is); (case kD5 => k_is)
    (case aD6 => k_is); (case lD6 => k_is); (case cD6 => k_is); (case kD6 => k_is); (case iD6 => (first | k_is | kernel_rfl)); (case aD7 => k_is); (case lD7 => k_is); (case cD7 => k_is)
    (case kD7 => k_is); (case iD7 => (first | k_is | kernel_rfl)); (case aD8 => k_is); (case lD8 => k_is); (case cD8 => k_is); (case kD8 => k_is); (case aD9 => k_is); (case lD9 => k_is)
    (case cD9 => k_is); (case kD9 => k_is); (case aD10 => k_is); (case lD10 => k_is); (case cD10 => k_is); (case kD10 => k_is); (case aD11 => k_is); (case lD11 => k_is)
    (case cD11 => k_is); (case kD11 => k_is); (case iD11 => (first | k_is | kernel_rfl)); (case aD12 => k_is); (case lD12 => k_is); (case cD12 => k_is); (case kD12 => k_is); (case aD13 => k_is)
    (case lD13 => k_is); (case cD13 => k_is); (case kD13 => k_is); (case aD14 => k_is); (case lD14 => k_is); (case cD14 => k_is); (case kD14 => k_is); (case aD15 => k_is)
    (case lD15 => k_is); (case cD15 => k_is); (case kD15 => k_is); (case aD16 => k_is); (case lD16 => k_is); (case cD16 => k_is); (case kD16 => k_is); (case aD17 => k_is)
    (case lD17 => k_is); (case cD17 => k_is); (case kD17 => k_is); (case aD18 => k_is); (case lD18 => k_is); (case cD18 => k_is); (case kD18 => k_is); (case aD19 => k_is)
    (case lD19 => k_is); (case cD19 => k_is); (case kD19 => k_is); (case aD20 => k_is); (case lD20 => k_is); (case cD20 => k_is); (case kD20 => k_is); (case aD21 => k_is)
    (case lD21 => k_is); (case cD21 => k_is); (case kD21 => k_is); (case iD21 => (first | k_is | kernel_rfl)); (case aD22 => k_is); (case lD22 => k_is); (case cD22 => k_is); (case kD22 => k_is)
    (case iD22 => (first | k_is | kernel_rfl)); (case aD23 => k_is); (case lD23 => k_is); (case cD23 => k_is); (case kD23 => k_is); (case aD24 => k_is); (case lD24 => k_is); (case cD24 => k_is)
    (case kD24 => k_is); (case iD24 => (first | k_is | kernel_rfl)); (case aD25 => k_is); (case lD25 => k_is); (case cD25 => k_is); (case kD25 => k_is); (case iD25 => (first | k_is | kernel_rfl)); (case aD26 => k_is)
    (case lD26 => k_is); (case cD26 => k_is); (case kD26 => k_is); (case iD26 => (first | k_is | kernel_rfl)); (case aD27 => k_is); (case lD27 => k_is); (case cD27 => k_is); (case kD27 => k_is)
    (case aD28 => k_is); (case lD28 => k_is); (case cD28 => k_is); (case kD28 => k_is); (case aD29 => k_is); (case lD29 => k_is); (case cD29 => k_is); (case kD29 => k_is)
    (case aD30 => k_is); (case lD30 => k_is); (case cD30 => k_is); (case kD30 => k_is); (case aD31 => k_is); (case lD31 => k_is); (case cD31 => k_is); (case kD31 => k_is)
    (case aD32 => k_is); (case lD32 => k_is); (case cD32 => k_is); (case kD32 => k_is); (case aD33 => k_is); (case lD33 => k_is); (case cD33 => k_is); (case kD33 => k_is)
    (case aD34 => k_is); (case lD34 => k_is); (case cD34 => k_is); (case kD34 => k_is); (case aD35 => k_is); (case lD35 => k_is); (case cD35 => k_is); (case kD35 => k_is)
    (case iD35 => (first | k_is | kernel_rfl)); (case aD36 => k_is); (case lD36 => k_is); (case cD36 => k_is); (case kD36 => k_is); (case iD36 => (first | k_is | kernel_rfl)); (case aD37 => k_is); (case lD37 => k_is)
    (case cD37 => k_is); (case kD37 => k_is); (case aD38 => k_is); (case lD38 => k_is); (case cD38 => k_is); (case kD38 => k_is); (case aD39 => k_is); (case lD39 => k_is)
    (case cD39 => k_is); (case kD39 => k_is); (case iD39 => (first | k_is | kernel_rfl)); (case aD40 => k_is); (case lD40 => k_is); (case cD40 => k_is); (case kD40 => k_is); (case aD41 => k_is)
    (case lD41 => k_is); (case cD41 => k_is); (case kD41 => k_is); (case iD41 => (first | k_is | kernel_rfl)); (case aD42 => k_is); (case lD42 => k_is); (case cD42 => k_is); (case kD42 => k_is)
    (case aD43 => k_is); (case lD43 => k_is); (case cD43 => k_is); (case kD43 => k_is); (case aD44 => k_is); (case lD44 => k_is); (case cD44 => k_is); (case kD44 => k_is)
    (case oDf => rfl); (case nDf => k_is); (case k0f => k_is); (case v0f => rfl); (case k1f => k_is); (case v1f => rfl); (case k2f => k_is); (case v2f => rfl)
    (case aE0 => k_is); (case xE0 => k_is); (case sE0 => k_is); (case gE0 => k_is); (case hE0 => k_is); (case nE0 => k_is); (case jE0 => k_is); (case tE0 => k_is)
    (case lE0 => k_is); (case cE0 => k_is); (case kE0 => k_is); (case yE0 => k_is); (case eE0 => k_is); (case uE0 => k_is); (case dE0 => k_is); (case vE0 => k_is)
    (case wE0 => k_is); (case zE0 => k_is); (case aE1 => k_is); (case xE1 => k_is); (case sE1 => k_is); (case gE1 => k_is); (case hE1 => k_is); (case nE1 => k_is)
    (case jE1 => k_is); (case tE1 => k_is); (case lE1 => k_is); (case cE1 => k_is); (case kE1 => k_is); (case yE1 => k_is); (case eE1 => k_is); (case uE1 => k_is)
    (case dE1 => k_is); (case vE1 => k_is); (case wE1 => k_is); (case zE1 => k_is); (case aE2 => k_is); (case xE2 => k_is); (case sE2 => k_is); (case gE2 => k_is)
    (case hE2 => k_is); (case nE2 => k_is); (case jE2 => k_is); (case tE2 => k_is); (case lE2 => k_is); (case cE2 => k_is); (case kE2 => k_is); (case yE2 => k_is)
    (case eE2 => k_is); (case uE2 => k_is); (case dE2 => k_is); (case vE2 => k_is); (case wE2 => k_is); (case zE2 => k_is); (case aE3 => k_is); (case xE3 => k_is)
    (case sE3 => k_is); (case gE3 => k_is); (case hE3 => k_is); (case nE3 => k_is); (case jE3 => k_is); (case tE3 => k_is); (case lE3 => k_is); (case cE3 => k_is)
    (case kE3 => k_is); (case yE3 => k_is); (case eE3 => k_is); (case uE3 => k_is); (case dE3 => k_is); (case vE3 => k_is); (case wE3 => k_is); (case zE3 => k_is)
    (case aE4 => k_is); (case xE4 => k_is); (case sE4 => k_is); (case gE4 => k_is); (case hE4 => k_is); (case nE4 => k_is); (case jE4 => k_is); (case tE4 => k_is)
    (case lE4 => k_is); (case cE4 => k_is); (case kE4 => k_is); (case yE4 => k_is); (case eE4 => k_is); (case uE4 => k_is); (case dE4 => k_is); (case vE4 => k_is)
    (case wE4 => k_is); (case zE4 => k_is); (case aE5 => k_is); (case xE5 => k_is); (case sE5 => k_is); (case gE5 => k_is); (case hE5 => k_is); (case nE5 => k_is)
    (case jE5 => k_is); (case tE5 => k_is); (case lE5 => k_is); (case cE5 => k_is); (case kE5 => k_is); (case yE5 => k_is); (case eE5 => k_is); (case uE5 => k_is)
    (case dE5 => k_is); (case vE5 => k_is); (case wE5 => k_is); (case zE5 => k_is); (case aE6 => k_is); (case xE6 => k_is); (case sE6 => k_is); (case gE6 => k_is)
    (case hE6 => k_is); (case nE6 => k_is); (case jE6 => k_is); (case tE6 => k_is); (case lE6 => k_is); (case cE6 => k_is); (case kE6 => k_is); (case yE6 => k_is)
    (case eE6 => k_is); (case uE6 => k_is); (case dE6 => k_is); (case vE6 => k_is); (case wE6 => k_is); (case zE6 => k_is); (case gsG => k_is); (case gsT => k_is)
    (case aE7 => k_is); (case eE7 => k_is); (case uE7 => k_is); (case dE7 => k_is); (case gE7 => k_is); (case hE7 => k_is); (case vE7 => k_is); (case wE7 => k_is)
    (case zE7 => k_is); (case x0E7 => kernel_rfl); (case y0E7 => k_is); (case q0 => k_is); (case q1 => k_is); (case q2 => k_is); (case q3 => k_is); (case q4 => k_is)
    (case q5 => k_is); (case q6 => k_is); (case q7 => k_is); (case q8 => k_is); (case q9 => k_is); (case q10 => k_is); (case q11 => k_is); (case q12 => k_is)
    (case q13 => k_is); (case q14 => k_is); (case q15 => k_is); (case q16 => k_is); (case q17 => k_is); (case q18 => k_is); (case q19 => k_is); (case q20 => k_is)
    (case q21 => k_is); (case q22 => k_is); (case q23 => k_is); (case q24 => k_is); (case q25 => k_is); (case q26 => k_is); (case q27 => k_is); (case q28 => k_is)
    (case q29 => k_is); (case q30 => k_is); (case q31 => k_is); (case q32 => k_is); (case q33 => k_is); (case q34 => k_is); (case q35 => k_is); (case q36 => k_is)
    (case q37 => k_is); (case q38 => k_is); (case q39 => k_is); (case q40 => k_is); (case q41 => k_is); (case q42 => k_is); (case q43 => k_is); (case q44 => k_is)
    (case q45 => k_is); (case q46 => k_is); (case q47 => k_is); (case q48 => k_is); (case q49 => k_is); (case q50 => k_is); (case q51 => k_is); (case q52 => k_is)
    (case q53 => k_is); (case q54 => k_is); (case q55 => k_is); (case r0 => k_is); (case r1 => k_is); (case r2 => k_is); (case r3 => k_is); (case r4 => k_is)
    (case r5 => k_is); (case r6 => k_is); (case r7 => k_is); (case r8 => k_is); (case r9 => k_is); (case r10 => k_is); (case r11 => k_is); (case r12 => k_is)
    (case r13 => k_is); (case r14 => k_is); (case r15 => k_is); (case r16 => k_is); (case r17 => k_is); (case r18 => k_is); (case r19 => k_is); (case r20 => k_is)
    (case r21 => k_is); (case r22 => k_is); (case r23 => k_is); (case oTD42 => rfl); (case kTD42 => k_is); (case pTD42 => rfl); (case nTD42 => kernel_rfl); (case bT__law_all_right => k_is)
    (case b_tuple => k_is); (case b_isinstance => k_is); (case b_list => k_is); (case b_len => k_is); (case b_zip => k_is); (case b_all => k_is); (case b_str => k_is); (case b_int => k_is)
    (case b_bool => k_is); (case b_min => k_is); (case b_sorted => k_is); (case b_ValueError => k_is); (case b_LookupError => k_is); (case b_RuntimeError => k_is); (case b_sum => k_is); (case b_range => k_is)
    (case b_repr => k_is); (case b_abs => k_is); (case b_max => k_is)
    (case nf0 => k_is); (case nf1 => k_is); (case nf2 => k_is); (case nf3 => k_is); (case nf4 => k_is); (case nf5 => k_is); (case nf6 => k_is); (case nf7 => k_is); (case nf8 => k_is); (case nf9 => k_is); (case nf10 => k_is); (case nf11 => k_is); (case nf12 => k_is); (case nf13 => k_is); (case nf14 => k_is); (case nf15 => k_is); (case nf16 => k_is); (case nf17 => k_is); (case nf18 => k_is); (case nf19 => k_is); (case nf20 => k_is); (case nf21 => k_is); (case nf22 => k_is); (case nf23 => k_is); (case nf24 => k_is); (case aSIDES => k_is); (case lSIDES => k_is)
