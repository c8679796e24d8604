import PyProof.Rows.All
import Wide.All
import OpenK.AllK
import Wide.FinOn
import HandS.ForMost
import HandS.ForExc
import HandS.Zip
import HandS.IsInst
import HandS.TupAny
import HandS.Style
import HandS.Flow
import HandS.Defaults
import HandS.ExcField
import HandS.ExcIs
import HandS.TryMany
import HandS.ExcInit
import HandS.ExcValue
import KE.KExcInit
import KE.KTryMore
import KE.KExcIs
import HandS.SortKw
import HandS.SortInts
import HandS.More
import KE.KIndexOf
import KE.DatumOrd
import PyProof.ReprRoads
import KE.GoesMore
import KE.GoesEnum
import HandS.TupMul
import HandS.Conv
import HandS.SetFor
import HandS.RaiseMore
import PyProof.Rows.IntBool
import PyProof.Rows.EqBoolInt
import HandS.TupSets
import HandS.Star
import HandS.Lambda
import HandS.EndTab
import HandS.Deep
import HandS.TryOnly
import KE.KDictZip
import PyProof.ListNew
import KE.KItemsList
import HandS.TupLe
import HandS.Dict
import HandS.Small
import HandS.SortRule
import HandS.Strs
import HandS.EndOwn
import HandS.DictComp
import HandS.Wide
import KE.SortData
import PyProof.TupleKey
import KE.KDictDisplayH
import HandS.SetKeys
import HandS.ListItems
import KE.KDictList
import KE.KDictWalk
import HandS.Finally
import HandS.MakeKwOnly
import HandS.OwnEq
import HandS.FStr
import KE.Datum
import KE.DatumIndex
import HandS.Text
import HandS.StrMore
import PySem.Challenge.RW_balconyrow_k72_houses_as_texts
set_option Elab.async false
set_option linter.all false
set_option maxRecDepth 100000
set_option maxHeartbeats 4000000
namespace Bal
open PySem PySem.Spec PyProof.Rows L2
/-! ### heaps -/
theorem sm_upd {H : Hp} {p : Addr} {o : HO} (h : H p = none) : Same H (upd H p o) := fun b x e => by
  rw [upd_ne (ne_of_none e h)]
  exact e
/-- the draws' pot: three numbers, the last one at most c -/
def PotO (c : Nat) (o : HO) : Prop := ∃ x0 x1 x2 : Int, o = .lst [.int x0, .int x1, .int x2] ∧ 0 ≤ x0 ∧ 0 ≤ x1 ∧ x1 < 2147483648 ∧ 0 ≤ x2 ∧ x2 ≤ c
def Pot (H : Hp) (p : Addr) (c : Nat) : Prop := ∃ o, H p = some o ∧ PotO c o
/-- all that stood, but p, stands -/
def But (p : Addr) (H H' : Hp) : Prop := ∀ q o, q ≠ p → H q = some o → H' q = some o
theorem But.refl (p : Addr) (H : Hp) : But p H H := fun _ _ _ e => e
theorem But.trans {p : Addr} {H H1 H2 : Hp} (a : But p H H1) (b : But p H1 H2) : But p H H2 := fun q o n e => b q o n (a q o n e)
theorem But.same {p : Addr} {H H1 : Hp} (a : Same H H1) : But p H H1 := fun q o _ e => a q o e
theorem But.sqT {K : PySem.W.Frag} {p a : Addr} {H H' : Hp} {xs : List V} (b : But p H H') (n : a ≠ p) (h : SqT K H a xs) : SqT K H' a xs := by
  rcases h with (h | ⟨o, h⟩) | h
  · exact .inl (.inl (b _ _ n h))
  · exact .inl (.inr ⟨o, b _ _ n h⟩)
  · exact .inr h
theorem Same.sqT {K : PySem.W.Frag} {a : Addr} {H H' : Hp} {xs : List V} (b : Same H H') (h : SqT K H a xs) : SqT K H' a xs := by
  rcases h with (h | ⟨o, h⟩) | h
  · exact .inl (.inl (b _ _ h))
  · exact .inl (.inr ⟨o, b _ _ h⟩)
  · exact .inr h
theorem Pot.mono {H : Hp} {p : Addr} {c d : Nat} (h : Pot H p c) (l : c ≤ d) : Pot H p d := by
  obtain ⟨o, e, x0, x1, x2, a, h0, h1, h2, h3, h4⟩ := h
  exact ⟨o, e, x0, x1, x2, a, h0, h1, h2, h3, by omega⟩
theorem Pot.same {H H' : Hp} {p : Addr} {c : Nat} (h : Pot H p c) (s : Same H H') : Pot H' p c := by
  obtain ⟨o, e, r⟩ := h
  exact ⟨o, s _ _ e, r⟩
theorem Pot.ne {H : Hp} {p q : Addr} {c : Nat} (h : Pot H p c) (n : H q = none) : q ≠ p := fun e => by
  obtain ⟨o, z, _⟩ := h
  rw [← e, n] at z
  cases z
theorem But.none {p a : Addr} {H H' : Hp} (b : But p H H') (n : a ≠ p) (h : H' a = none) : H a = none := by
  cases e : H a with
  | none => rfl
  | some o =>
    rw [b a o n e] at h
    cases h
theorem But.put {p a : Addr} {H H' : Hp} {o : HO} (b : But p H H') (h : H a = Option.none) : But p H (upd H' a o) := fun q o' n e => by
  rw [upd_ne (ne_of_none e h)]
  exact b q o' n e
theorem Same.put {a : Addr} {H H' : Hp} {o : HO} (b : Same H H') (h : H a = Option.none) : Same H (upd H' a o) := fun q o' e => by
  rw [upd_ne (ne_of_none e h)]
  exact b q o' e
theorem Pot.upd {H : Hp} {p a : Addr} {c : Nat} {o : HO} (h : Pot H p c) (n : a ≠ p) : Pot (upd H a o) p c := by
  obtain ⟨o', e, r⟩ := h
  exact ⟨o', by rw [upd_ne (Ne.symm n)]; exact e, r⟩
/-! ### comprehensions over anything -/
theorem lc_gen {J : It} {n : Nat} {g : TG} {tt : TT} {te : TE} {vs : List Nat} {σ : L2.St} {H1 : Hp} {D : Addr} {Qd : Hp → Prop} (Pv : Nat → Hp → Prop) (h0 : Pv 0 (upd H1 D (.lst [])))
    (hgo : ∀ i H, i < n → Pv i H → J.go i H) (hst : ∀ H, Pv n H → J.stop n H)
    (hs : ∀ i H x H', i < n → Pv i H → J.yld i H x H' → g x (wipe σ vs) H' fun σ2 H2 => wipe σ2 vs = wipe σ vs ∧ tt σ2 H2 fun b H3 =>
      if b = true then te σ2 H3 fun y H4 => ∃ acc, H4 D = some (.lst acc) ∧ acc.length < sizeLine ∧ Pv (i + 1) (upd H4 D (.lst (acc ++ [y]))) else Pv (i + 1) H3) (hd : ∀ H, Pv n H → Qd H) :
    ∃ W : Nat → Nat → Hp → Prop, (∃ m, W 0 m (upd H1 D (.lst []))) ∧ ∀ i m H, W i m H →
      (J.stop i H ∧ Qd H) ∨ (J.go i H ∧ ∃ Nx : Hp → Prop, (∀ H', Nx H' → ∃ m', m' < m ∧ W (i + 1) m' H') ∧ ∀ x H', J.yld i H x H' → g x (wipe σ vs) H' fun σ2 H2 => wipe σ2 vs = wipe σ vs ∧ tt σ2 H2 fun b H3 =>
        if b = true then te σ2 H3 fun y H4 => ∃ acc, H4 D = some (.lst acc) ∧ acc.length < sizeLine ∧ Nx (upd H4 D (.lst (acc ++ [y]))) else Nx H3) := by
  refine ⟨fun i m H => m = n - i ∧ i ≤ n ∧ Pv i H, ⟨n, by simp, Nat.zero_le _, h0⟩, ?_⟩
  rintro i m H ⟨rfl, hi, p⟩
  by_cases hlt : i < n
  · exact .inr ⟨hgo i H hlt p, Pv (i + 1), fun H' p' => ⟨n - (i + 1), by omega, rfl, hlt, p'⟩, fun x H' y => hs i H x H' hlt p y⟩
  · have e : i = n := by omega
    subst e
    exact .inl ⟨hst H p, hd H p⟩
/-! ### data -/
theorem dps_ints {K : PySem.W.Frag} {H : Hp} : ∀ ns : List Int, DpAll K H (ns.map V.int) (ns.map PyData.int)
  | [] => .nil
  | n :: ns => .cons (.int n) (dps_ints ns)
theorem lay_ints : ∀ ns : List Int, PyData.canLayAll0 (ns.map PyData.int) = true
  | [] => rfl
  | n :: ns => by
    show (PyData.canLay0 (.int n) && PyData.canLayAll0 (ns.map PyData.int)) = true
    rw [lay_ints ns]
    rfl
theorem dep_ints : ∀ ns : List Int, PyData.depthAll (ns.map PyData.int) = 0
  | [] => rfl
  | n :: ns => by
    show max 0 (PyData.depthAll (ns.map PyData.int)) = 0
    rw [dep_ints ns]
    rfl
theorem eqv_ints : ∀ ns ms : List Int, PyData.eqvAll (ns.map PyData.int) (ms.map PyData.int) = decide (ns = ms)
  | [], [] => rfl
  | [], m :: ms => rfl
  | n :: ns, [] => rfl
  | n :: ns, m :: ms => by
    show (PyData.eqv (.int n) (.int m) && PyData.eqvAll (ns.map PyData.int) (ms.map PyData.int)) = _
    rw [eqv_ints ns ms]
    show ((n == m) && decide (ns = ms)) = decide (n :: ns = m :: ms)
    by_cases h : n = m
    · subst h
      simp
    · simp [h]
theorem cls2 {a b : String} : Paired ClsV [.ty a, .ty b] [.type a, .type b] := .cons (.ty _) (.cons (.ty _) .nil)
theorem kA_no {K : PySem.W.Frag} {a : String} (h1 : kitB a "list" = some false) (h2 : kitB a "tuple" = some false) : PySem.W.kitAny K (.type a) [.type "list", .type "tuple"] = some false :=
  kitAny_cons (b := false) (kit_ty h1) (fun _ => kitAny_cons (b := false) (kit_ty h2) (fun _ => rfl) (fun z => Bool.noConfusion z)) (fun z => Bool.noConfusion z)
theorem kA_lst {K : PySem.W.Frag} : PySem.W.kitAny K (.type "list") [.type "list", .type "tuple"] = some true :=
  kitAny_cons (b := true) (kit_ty (by decide +kernel)) (fun z => Bool.noConfusion z) (fun _ => rfl)
theorem kA_tup {K : PySem.W.Frag} : PySem.W.kitAny K (.type "tuple") [.type "list", .type "tuple"] = some true :=
  kitAny_cons (b := false) (kit_ty (by decide +kernel)) (fun _ => kitAny_cons (b := true) (kit_ty (by decide +kernel)) (fun z => Bool.noConfusion z) (fun _ => rfl)) (fun z => Bool.noConfusion z)
mutual
theorem dp_same {K : PySem.W.Frag} {H H' : Hp} (s : Same H H') : ∀ {d : PyData} {x : V}, Dp K H x d → Dp K H' x d
  | _, _, .non => .non
  | _, _, .bl b => .bl b
  | _, _, .int b => .int b
  | _, _, .str b => .str b
  | _, _, .lst h a => .lst (s.seq h) (dps_same s a)
  | _, _, .tup h a => .tup (Same.sqT s h) (dps_same s a)
theorem dps_same {K : PySem.W.Frag} {H H' : Hp} (s : Same H H') : ∀ {ds : List PyData} {xs : List V}, DpAll K H xs ds → DpAll K H' xs ds
  | _, _, .nil => .nil
  | _, _, .cons a b => .cons (dp_same s a) (dps_same s b)
end
end Bal

namespace Bal
open PySem PySem.Spec PyProof.Rows L2
/-! ### own errors over any of Python's own, each with one field -/
/-- what is asked of the base -/
structure BaseX (newId : String) (tail : List Value) : Prop where
  ex : ∃ B initId, ExcBaseFacts B newId initId tail
  pass : ∀ self, refuseLoop self "__setattr__" tail = pure ()
  ob : tail.contains (.type "object") = true
theorem bx_value : BaseX "ValueError.__new__" [.type "ValueError", .type "Exception", .type "BaseException", .type "object"] := ⟨⟨_, _, PySem.F.excBase_ValueError⟩, PySem.F.store_ValueError.passes, by decide +kernel⟩
/-- what the written part says of such a class at C -/
structure ErC (K : PySem.W.Frag) (C : Addr) (newId : String) (tail : List Value) : Prop where
  bx : BaseX newId tail
  cls : ∃ nm q N bs sn sub ab col dd k0 k1 k2 k3 k5, K.lookup C = some (excClassObj nm q C N bs tail true sn sub ab col dd k0 k1 k2 k3 k5 newId)
  sa : PySem.W.findIn K (.ref C) "__setattr__" = some (some (.builtin "object.__setattr__"))
  exC : PySem.W.subIn K (.ref C) (.type "BaseException") = some true
  tyC : PySem.W.typeIn K (.ref C) = some (.type "type")
  kC : PySem.W.keepIn K (.ref C) = true
section
open PySem.W PySem.Calls PySem.HandSPX Builtin Builtin.ObjectAttr
variable {prog : Program} {w : World} {A : Around} {E : Value → Shared → Prop} {R : Result → Shared → Prop} {hp : Heap} {g : Array GenState} {d : Drawn} {t : Nat} {os : OsState}
/-- the first field of a new error, whatever its base -/
theorem osaG {K : W.Frag} {name : Str} {tk : Tok} {v : Value} {x C : Addr} {fv : Array Value} {cd : ClassData} (X : K.In hp) (hx : hp.get? x = some { cls := .ref C, data := .fields fv }) (hcd : W.clsIn K C = some cd)
    (ne : cd.mro.isEmpty = false) (hob : cd.mro.contains (.type "object") = true) (hps : refuseLoop (.ref x) "__setattr__" cd.mro = pure ()) (hh : cd.hasDict = true) (ha : W.findIn K (.ref C) name = some none)
    (hq : ∀ h' tk' dx, (∀ b o, b ≠ x → hp.get? b = some o → h'.get? b = some o) → hp.objs.size ≤ dx → dx ≠ x → h'.get? x = some { cls := .ref C, dict := some dx, data := .fields fv } → h'.Ns1 dx (fun y => if y = name then some v else none) → R (.ok (.ret .none)) ⟨h', g, d, tk', os⟩) :
    codeAny (model prog w) A (.call (.builtin "object.__setattr__") ⟨[.ref x, .str name tk, v], []⟩) R ⟨hp, g, d, t, os⟩ := by
  have I : W.InstAt hp x { cls := .ref C, data := .fields fv } C none := ⟨hx, rfl, rfl, trivial⟩
  have hxs : x ≠ hp.objs.size := Nat.ne_of_lt (Heap.lt_size hx); have SF := F.store_object
  have sub : W.Looks (model prog w) hp (isInstance (.ref x) (.type "object")) true := I.type.andThen (W.looks_mroIn X (by unfold W.mroIn; rw [hcd, Option.bind_some, if_neg (by rw [ne]; decide), hob]))
  refine codeAny_call_builtin SF.slot.plain SF.entry (@W.check_slot (model prog w) _ _ ⟨hp, g, d, t, os⟩ "object.__setattr__" "object" "__setattr__" (.ref x) [.str name tk, v] [] _ SF.kind SF.split sub (SF.args (.ref x) (.str name tk) v) ?_)
  have hmr : W.Looks (model prog w) hp (mroOf (.ref C)) cd.mro := (W.looks_clsIn X hcd).andThen .now; have L3 : W.Looks (model prog w) hp (storeTaker? none) none := .now; have hcls : W.Looks (model prog w) hp (classData C) cd := W.looks_clsIn X hcd
  rw [W.osa_eq, refuse_eq]; refine wpAny_bind (wpAny_bind (I.type.at (wpAny_bind (hmr.at ?_)))); rw [hps]
  refine wpAny_pure (wpAny_bind (I.type.at (wpAny_bind ((W.looks_findIn X ha).at (wpAny_bind (L3.at ?_)))))); show wpAny _ _ (storeInOwnDict (.ref x) (.ref C) (.str name tk) name v false) _ _ _
  obtain ⟨nm, bs, mro, ns, qn, hd, sn, sb, ab, col, del⟩ := cd; dsimp only at hh; subst hh; unfold storeInOwnDict ownDictForStores
  repeat (first | with_reducible refine store_in_new ?_ ?_ | with_reducible refine wpAny_loadPart_at hx ?_ | with_reducible refine hcls.at ?_ | wp_step)
  · exact ⟨_, #[], _, (Heap.get?_update_ne _ _ _ _ hxs.symm).trans (Heap.get?_push_at rfl rfl), rfl, fun e he => absurd he (by simp), fun _ => rfl⟩
  · intro h' tk' hn' hs; have hx₁ : (hp.push { cls := .type "dict", data := .dict #[] }).get? x = some { cls := .ref C, data := .fields fv } := Heap.get?_push_of_some _ hx
    refine hq h' tk' hp.objs.size (fun b o hb ho => ?_) (Nat.le_refl _) hxs.symm ?_ hn'
    · exact (hs.2 b (Nat.ne_of_lt (Heap.lt_size ho))).trans ((Heap.get?_update_ne _ _ _ _ hb).trans (Heap.get?_push_of_some _ ho))
    · exact (hs.2 x hxs).trans (Heap.get?_update_self _ hx₁ rfl)
end
section
variable {X : Cx} {pins : List (Addr × Obj)} {σ : L2.St} {H : Hp} {s : Shared} {a C : Addr} {f : Str} {y : V} {u : Value} {Q : Unit → Shared → Prop} {E : Value → Shared → Prop} {A : Around} {newId : String} {tail : List Value}
theorem er_store (T : ErC X.K C newId tail) (I : Inv X pins σ H s) (e : H a = some (exo a C none)) (hno : PySem.W.findIn X.K (.ref C) f = some none) (ry : RelV y u)
    (h : ∀ dx s', H dx = none → dx ≠ a → Inv X pins σ (upd (upd H dx (exd dx [(f, y)])) a (exo a C (some dx))) s' → Q () s') : wpAny (model X.prog X.w) A (setAttr (.ref a) f u) Q E s := by
  obtain ⟨nm, q, N, bs, sn, sub, ab, col, dd, k0, k1, k2, k3, k5, hC⟩ := T.cls
  have hcl : PySem.W.clsIn X.K C = some { name := nm, bases := bs, mro := .ref C :: tail, ns := N, qualname := q, hasDict := true, slotNames := sn, subclasses := sub, abstract := ab, collection := col, hasDel := false } := by unfold PySem.W.clsIn; rw [hC] <;> rfl
  obtain ⟨t1, ho⟩ := exo_at I.hok e; obtain ⟨hp, g, d, t, os⟩ := s
  refine PySem.W.set_plain I.kIn (ox := { cls := .ref C, dict := none, data := .fields #[.ref t1, .none, .none, .none, .bool false, .none] }) (od := none) ⟨ho, rfl, rfl, trivial⟩ T.sa ?_
  refine osaG I.kIn ho hcl rfl (by show (Value.ref C :: tail).contains (.type "object") = true; rw [List.contains_cons, T.bx.ob, Bool.or_true]) (by show refuseLoop (.ref a) "__setattr__" (.ref C :: tail) = pure (); rw [refuseLoop_ref]; exact T.bx.pass _) rfl hno (fun h' tk' dx k dn dne hx hn => ?_)
  have hnd : H dx = none := I.hok.fresh dn; have nd : ∀ {b : Addr} {o : Obj}, hp.get? b = some o → b ≠ dx := fun {b o} q => Nat.ne_of_lt (Nat.lt_of_lt_of_le (Heap.lt_size q) dn)
  have na : ∀ {b : Addr}, H b = none → b ≠ a := fun {b} n z => by rw [z, e] at n; cases n
  have U : Un X.fs [] H (upd (upd H dx (exd dx [(f, y)])) a (exo a C (some dx))) hp h' := { keep := fun b o q n _ _ => k b o (na n) q, slot := fun b o q n _ _ => ⟨o.slots, k b o (na n) q⟩, free := fun b o q n _ => by rw [upd_ne (na n), upd_ne (nd q)]; exact n, there := fun b o q _ => if hb : b = a then ⟨_, (congrArg h'.get? hb).trans hx⟩ else ⟨o, k b o hb q⟩, tups := fun b xs q => by rw [upd_ne (at_ne e q exo_tup), upd_ne (ne_of_none q hnd)]; exact q, frzs := fun b o v q => by rw [upd_ne (at_ne e q exo_frz), upd_ne (ne_of_none q hnd)]; exact q, tbls := fun b ps q => ⟨#[], by rw [upd_ne (at_ne e q exo_tbl), upd_ne (ne_of_none q hnd), q]; simp⟩ }
  refine h dx _ hnd dne (I.un (t' := tk') U fun b o q => ?_)
  by_cases hb : b = a
  · subst hb; rw [upd_same] at q; cases q; exact exo_ok hx
  · rw [upd_ne hb] at q
    by_cases hd : b = dx
    · subst hd; rw [upd_same] at q; cases q; exact exd_ok hn (relO_put (fs := []) ry fun g => True.intro)
    · rw [upd_ne hd] at q
      refine (I.hok b o q).stay (fun c v hc z => k c v ?_ z) (fun c hc => by rw [upd_ne (at_ne e hc exo_own), upd_ne (ne_of_none hc hnd)]; exact hc) (fun c xs hc => by rw [upd_ne (at_ne e hc exo_tup), upd_ne (ne_of_none hc hnd)]; exact hc)
      rcases hc with hc | hc
      · rw [hc]; exact hb
      · exact at_ne e hc exo_own
/-- self.f = e within the __init__ of such a class -/
def tEst (K : PySem.W.Frag) (f : Str) (to te : TE) : TS := fun D σ H => te σ H fun y H1 => to σ H1 fun x H2 => ∃ (a C : Addr) (newId : String) (tail : List Value), x = .ref a ∧ ErC K C newId tail ∧ PySem.W.findIn K (.ref C) f = some none ∧
  H2 a = some (exo a C none) ∧ ∀ dx, H2 dx = none → dx ≠ a → D.nx σ (upd (upd H2 dx (exd dx [(f, y)])) a (exo a C (some dx)))
theorem ps_est {o e : Expr} {to te : TE} {p' pos : Pos} (ho : PE X o to) (he : PE X e te) (hs : swapsWith e (some (.Attribute o f p')) pos.line X.env = pure false := by rfl) : PS X (.Assign [.Attribute o f p'] e pos) (tEst X.K f to te) := by
  refine ⟨fun pins s σ H D I h => ?_⟩
  refine plainObj_wpAny_Assign_Attribute (thn (he.run pins s σ H _ I h) fun v s1 ⟨y, H1, I1, r1, q1⟩ => thn (ho.run pins s1 σ H1 _ I1 q1) fun u s2 ⟨x, H2, I2, r2, a, C, nw, tl, ex, T, hno, ea, q⟩ => ?_) hs
  subst ex; obtain rfl : u = Value.ref a := r2; exact er_store T I2 ea hno r1 fun dx s' n ne J => ⟨σ, _, J, q dx n ne⟩
/-- C(e, ..): such an error is made -/
theorem pmk_er {CX : CXT} {x : Str} {C fI : Addr} {k : Nat} {fd : FuncData} {ps : List Str} {sp : Sp} {ds : List Value} {dvs : List V} {e : Expr} {es : List Expr} {ta : TA} {p pos : Pos} (T : ErC X.K C newId tail) (iC : PySem.W.findIn X.K (.ref C) "__init__" = some (some (.ref fI))) (tI : PySem.W.typeIn X.K (.ref fI) = some (.type "function"))
    (F1 : FnOk X.prog X.w X.K X.mg X.base CX k fI fd ps sp) (hr : Room (k + 1) X.A) (hb : Binds X.K fd ps ds) (hd : Vals dvs ds) (hx : Passes CX X (fun _ _ _ => False)) (hg : Gl X x) (hm : X.mg x = some (.ref C)) (ha : PA X (e :: es) ta)
    (hdb : (x == ("__debug__" : Str)) = false := by decide) (he : starEach (e :: es) X.env = (false, eval e X.env) :: starEach es X.env := by rfl) (hpl : (backTo pos (starEach es X.env)).any (·.1) = false := by rfl) : PMk X (.Call (.Name x p) (e :: es) [] pos) (tMkO C sp dvs ta) := by
  intro pins s σ H Q I h; obtain ⟨nm, q, N, bs, sn, sub, ab, col, dd, k0, k1, k2, k3, k5, hC⟩ := T.cls; obtain ⟨B, ini, FB⟩ := T.bx.ex
  refine wpAny_Call_Name_kw (ld_glob I hg hm ?_ hdb)
  refine PySem.W.callWith_K (h₀ := X.base) I.ok.mod.kin T.kC (thn (ha.run pos pins s σ H _ I h) fun us s1 ⟨vs, H1, I1, r1, hz, q1⟩ => ⟨I1.kIn, ?_⟩) he hpl
  show wpAny _ _ (call (.ref C) us) _ _ _; obtain ⟨hp, g, dr, tk, os⟩ := s1
  have hsz : hp.objs.size ≤ hp.objs.size + 1 := Nat.le_succ _; have hn : H1 (hp.objs.size + 1) = none := I1.hok.fresh hsz; have hq := q1 (hp.objs.size + 1) hn
  have kk : ∀ b o, hp.get? b = some o → ((hp.push (PySem.W.kdv_tup us)).push (PySem.HandSPX.excO C hp.objs.size)).get? b = some o := fun b o e => Heap.get?_push_of_some _ (Heap.get?_push_of_some _ e)
  have hget : ((hp.push (PySem.W.kdv_tup us)).push (PySem.HandSPX.excO C hp.objs.size)).get? (hp.objs.size + 1) = some (PySem.HandSPX.excO C hp.objs.size) := by heap_get
  have I2 : Inv X pins σ (upd H1 (hp.objs.size + 1) (exo (hp.objs.size + 1) C none)) ⟨(hp.push (PySem.W.kdv_tup us)).push (PySem.HandSPX.excO C hp.objs.size), g, dr, tk, os⟩ := I1.laid (t' := tk) (a := hp.objs.size + 1) (o := exo (hp.objs.size + 1) C none) (h' := (hp.push (PySem.W.kdv_tup us)).push (PySem.HandSPX.excO C hp.objs.size)) kk hsz (exo_ok hget)
  have r2 : Vals (V.ref (hp.objs.size + 1) :: (vs ++ dvs)) (Value.ref (hp.objs.size + 1) :: (us ++ ds)) := .cons rfl (r1.append hd)
  have hl : (Value.ref (hp.objs.size + 1) :: us ++ ds).length = ps.length := by have e := r2.length; rw [F1.len _ _ _ _ hq] at e; exact e.symm
  have hus : us.length ≤ sizeLine := by rw [← Paired.length r1, sizeLine_eq]; omega
  refine wpAny_call (PySem.HandSPX.call_own FB (fun _ => rfl) (I1.kIn _ _ hC) (PySem.W.looks_findIn I1.kIn iC) (fun self => PySem.W.bind_fn I1.kIn self tI) hus (codeAny_mono (F1.run _ X.stack _ _ ⟨Value.ref (hp.objs.size + 1) :: us, []⟩ (Value.ref (hp.objs.size + 1) :: (us ++ ds)) _ _ (fun _ _ _ => False) (hr.make C us []) (I2.env0.make C us []) (hb _ (Value.ref (hp.objs.size + 1) :: us) I2.kIn hl) r2 hq) fun r s' hq' => ?_))
  cases r with
  | error er => exact hx pins σ _ _ er s' I2 hq'
  | ok fl =>
    cases fl with
    | ret u =>
      obtain ⟨v, H2, os2, bare2, un2, hok2, rv, ev, d, fs, ea, ed, hd1, q2⟩ := hq'; subst ev; obtain ⟨h2, g2, d2, t2, os'⟩ := s'
      exact ⟨rv, mk_end (raises_own T.exC T.tyC) I1 hsz kk un2 hok2 os2 bare2 ea ed hd1 q2⟩
    | next => exact False.elim hq'
    | brk => exact False.elim hq'
    | cont => exact False.elim hq'
end
end Bal

namespace Bal
open PySem PySem.Spec PyProof.Rows L2
section
open PySem.W PySem.Calls
variable {M : Model} {K : Frag} {A : Around} {E : Value → Shared → Prop} {s : Shared}
theorem forIn_skip {f : Value → PUnit → Sem (ForInStep PUnit)} {Q : PUnit → Shared → Prop} : ∀ cs : List Value, (∀ c ∈ cs, ∀ R : ForInStep PUnit → Shared → Prop, R (ForInStep.yield ⟨⟩) s → wpAny M A (f c ⟨⟩) R E s) → Q ⟨⟩ s → wpAny M A (forIn cs PUnit.unit f) Q E s
  | [], _, hq => by rw [List.forIn_nil]; exact wpAny_pure hq
  | c :: cs, h, hq => by
    rw [List.forIn_cons]
    exact wpAny_bind (h c (List.mem_cons_self ..) _ (forIn_skip cs (fun d hd => h d (List.mem_cons_of_mem _ hd)) hq))
theorem forIn_find {β : Type} {f : Value → β → Sem (ForInStep β)} {y0 x1 : β} (b : Value → Bool) {Q : β → Shared → Prop} : ∀ cs : List Value, (∀ c ∈ cs, ∀ R : ForInStep β → Shared → Prop, R (if b c = true then ForInStep.done x1 else ForInStep.yield y0) s → wpAny M A (f c y0) R E s) →
    Q (if cs.any b = true then x1 else y0) s → wpAny M A (forIn cs y0 f) Q E s
  | [], _, hq => by rw [List.forIn_nil]; exact wpAny_pure hq
  | c :: cs, h, hq => by
    rw [List.forIn_cons]
    refine wpAny_bind (h c (List.mem_cons_self ..) _ ?_)
    rw [List.any_cons] at hq
    cases hb : b c with
    | true =>
      rw [hb, Bool.true_or] at hq
      exact wpAny_pure hq
    | false =>
      rw [hb, Bool.false_or] at hq
      exact forIn_find b cs (fun d hd => h d (List.mem_cons_of_mem _ hd)) hq
theorem exmAny_each {cls : Value} : ∀ {us : List Value} {b : Bool}, exmAny K cls us = some b → (∀ c ∈ us, ∃ d, exmOne K cls c = some d) ∧ b = us.any fun c => exmOne K cls c == some true
  | [], b, h => by
    have e : some false = some b := h
    cases e
    exact ⟨fun _ h => (nomatch h), rfl⟩
  | c :: us, b, h => by
    obtain ⟨b1, d1, h1, h2, rfl⟩ := exmAny_cons h
    obtain ⟨i1, i2⟩ := exmAny_each h2
    refine ⟨fun x hx => ?_, ?_⟩
    · rcases List.mem_cons.mp hx with rfl | hx
      · exact ⟨b1, h1⟩
      · exact i1 x hx
    · rw [List.any_cons, ← i2, h1]
      cases b1 <;> rfl
/-- except (C1, .., Cn): does it name the class of e -/
theorem exm_any {cls : Value} {us : List Value} {tp e : Addr} {b : Bool} {h : Heap} (X : K.In h) (LT : Looks M h (typeOf (.ref e)) cls) (hp : h.get? tp = some { cls := .type "tuple", data := .seq us.toArray }) (hx : exmAny K cls us = some b) : Looks M h (excMatches (.ref e) (.ref tp)) b := by
  intro A Q E s k₀ q
  obtain ⟨hh, g, d, tk, os⟩ := s
  have k : ∀ b o, h.get? b = some o → hh.get? b = some o := k₀
  have LT0 : Looks M h (isInstance (.ref tp) (.type "tuple")) true := ((Looks.ld hp).andThen .now).andThen (Looks.of_pure isSubtype_tuple_tuple)
  obtain ⟨each, eb⟩ := exmAny_each hx
  have LT' := LT.keeps k; have LT0' := LT0.keeps k; have hp' := k _ _ hp
  unfold excMatches
  refine wpAny_bind (LT0'.at ?_); dsimp only; rw [if_pos rfl]
  first
    | refine wpAny_bind (wpAny_seqItems hp' rfl ?_)
    | refine wpAny_bind (wpAny_bind (wpAny_seqItems hp' rfl (wpAny_pure ?_)))
  dsimp only [Option.getD_some, Option.getD]
  refine wpAny_bind (wpAny_pure (wpAny_bind (forIn_skip us (fun c hc R hR => ?_) ?_)))
  · obtain ⟨dc, h1⟩ := each c hc
    obtain ⟨e1, _⟩ := exm_cls (M := M) X h1
    refine wpAny_bind ((e1.keeps k).at ?_)
    simp only [Bool.not_true, Bool.false_eq_true, if_false]
    exact wpAny_pure hR
  · refine wpAny_bind (LT'.at ?_)
    refine wpAny_bind (forIn_find (x1 := (some true, ())) (fun c => exmOne K cls c == some true) us (fun c hc R hR => ?_) ?_)
    · obtain ⟨dc, h1⟩ := each c hc
      obtain ⟨_, e2⟩ := exm_cls (M := M) X h1
      refine wpAny_bind ((e2.keeps k).at ?_)
      rw [h1] at hR
      cases dc with
      | true => exact wpAny_pure hR
      | false => exact wpAny_pure hR
    · rw [← eb]
      cases b with
      | true => exact wpAny_pure q
      | false => exact wpAny_pure q
end
end Bal

namespace Bal
open PySem PySem.Spec PyProof.Rows L2
/-! ### an error that was caught and is kept -/
/-- at a: an error of the class cls, its dict d -/
def ErV (cls : Value) (d : Option Addr) (a : Addr) : HO := .ext fun h => ∃ (oe : Obj) (vs : Array Value), h.get? a = some oe ∧ Zc cls d oe ∧ oe.data = .fields vs
theorem erV_ok {P : Program} {w : World} {H : Hp} {h : Heap} {a : Addr} {cls : Value} {d : Option Addr} {oe : Obj} {vs : Array Value} (e : h.get? a = some oe) (z : Zc cls d oe) (hd : oe.data = .fields vs) : ObjOk P w H h a (ErV cls d a) :=
  ⟨⟨oe, vs, e, z, hd⟩, ⟨oe, e⟩, fun _ _ ⟨o, v, q, r⟩ k => ⟨o, v, k o q, r⟩⟩
theorem erV_at {P : Program} {w : World} {H : Hp} {h : Heap} {a : Addr} {cls : Value} {d : Option Addr} (hok : HOk P w H h) (e : H a = some (ErV cls d a)) : ∃ (oe : Obj) (vs : Array Value), h.get? a = some oe ∧ Zc cls d oe ∧ oe.data = .fields vs := by
  have x : ObjOk P w H h a (.ext fun h => ∃ (oe : Obj) (vs : Array Value), h.get? a = some oe ∧ Zc cls d oe ∧ oe.data = .fields vs) := hok a _ e
  exact x.1
section
variable {X : Cx} {pins : List (Addr × Obj)} {σ : L2.St} {H : Hp} {s : Shared} {a : Addr} {oe : Obj}
/-- out of the suite, the error still in hand -/
theorem unsuiteK {pn' : List (Addr × Obj)} (I : Inv (X.suite a ((a, oe) :: (X.pn ++ pins))) pn' σ H s) (ok : X.Ok) : Inv X ((a, oe) :: pins) σ H s :=
  ⟨ok, I.os, I.bare, I.base, I.loc, I.cell, I.free, I.freeC, fun p hp => I.pin p (List.mem_append_left _ (by
    rcases List.mem_append.mp hp with h | h
    · exact List.mem_cons_of_mem _ (List.mem_append_left _ h)
    · rcases List.mem_cons.mp h with h | h
      · rw [h]; exact List.mem_cons_self ..
      · exact List.mem_cons_of_mem _ (List.mem_append_right _ h))), I.hok, I.len⟩
/-- what is in hand is put down, tracked -/
theorem putDown {cls : Value} {d : Option Addr} {vs : Array Value} (I : Inv X ((a, oe) :: pins) σ H s) (hz : Zc cls d oe) (hd : oe.data = .fields vs) (n0 : X.s_0.heap.get? a = none) (np : ∀ p ∈ X.pn ++ pins, p.1 ≠ a) :
    Inv X pins σ (upd H a (ErV cls d a)) s := by
  obtain ⟨ha, na, nL, nF, nc⟩ := I.pin (a, oe) (List.mem_append_right _ (List.mem_cons_self ..))
  have ne : ∀ {b : Addr} {o : HO}, H b = some o → b ≠ a := fun {b o} q z => by rw [z, na] at q; cases q
  refine ⟨I.ok, I.os, I.bare, ⟨I.base.keep, I.base.slot, fun b o e n hx => ?_, I.base.there, fun b xs e => ?_, fun b o u e => ?_, fun b ps e => ?_⟩, I.loc, I.cell, ?_, fun x c e => ?_, fun p hp => ?_, fun b u e => ?_, I.len⟩
  · rw [upd_ne (fun z => by rw [z, n0] at e; cases e)]
    exact I.base.free b o e n hx
  · have q := I.base.tups b xs e
    rw [upd_ne (ne q)]; exact q
  · have q := I.base.frzs b o u e
    rw [upd_ne (ne q)]; exact q
  · obtain ⟨m, q⟩ := I.base.tbls b ps e
    exact ⟨m, by rw [upd_ne (ne q)]; exact q⟩
  · rw [upd_ne (Ne.symm nL)]; exact I.free
  · have hc : c ≠ a := fun z => by
      obtain ⟨v, oc, h1, h2⟩ := I.cell x c e
      have ha' : s.heap.get? a = some oe := ha
      rw [z, ha'] at h1
      cases h1
      exact nc _ h2
    rw [upd_ne hc]; exact I.freeC x c e
  · have hp' : p ∈ X.pn ++ ((a, oe) :: pins) := by
      rcases List.mem_append.mp hp with h | h
      · exact List.mem_append_left _ h
      · exact List.mem_append_right _ (List.mem_cons_of_mem _ h)
    obtain ⟨q1, q2, q3⟩ := I.pin p hp'
    exact ⟨q1, by rw [upd_ne (np p hp)]; exact q2, q3⟩
  · by_cases hb : b = a
    · subst hb
      rw [upd_same] at e
      cases e
      exact erV_ok ha hz hd
    · rw [upd_ne hb] at e
      exact (I.hok b u e).stay (fun _ _ _ q => q) (fun c q => by rw [upd_ne (ne q)]; exact q) (fun c xs q => by rw [upd_ne (ne q)]; exact q)
end
/-- names of classes, told by their values -/
inductive NmAll (X : Cx) : List Expr → List Value → Prop
  | nil : NmAll X [] []
  | cons {x : Str} {c : Value} {np : Pos} {es : List Expr} {us : List Value} (h : Names X x c) (r : NmAll X es us) : NmAll X (.Name x np :: es) (c :: us)
theorem nm_run {X : Cx} {a : Addr} {pn : List (Addr × Obj)} {σ : L2.St} {H : Hp} {s : Shared} {pos : Pos} {E : Value → Shared → Prop} (S : Inv (X.suite a pn) [] σ H s) : ∀ {es : List Expr} {us : List Value} {Q : List Value → Shared → Prop}, NmAll X es us → Q us s →
    wpAny (model X.prog X.w) (X.A.mark (some (.ref a))) (spliced (backTo pos (starEach es X.env))) Q E s
  | _, _, _, .nil, h => Calls.spliced_nil h
  | _, _, Q, .cons (x := x) (c := c) (np := np) (es := es) (us := us) hc r, h => by
    show wpAny _ _ (spliced ((false, eval (.Name x np) X.env) :: backTo pos (starEach es X.env))) _ _ s
    refine Calls.spliced_cons ?_
    have go : wpAny (model X.prog X.w) (X.A.mark (some (.ref a))) (spliced (backTo pos (starEach es X.env))) (fun us s' => Q (c :: us) s') E s := nm_run S r h
    obtain ⟨hg, hdbg, hm | ⟨hm, hv, hnn⟩⟩ := hc
    · exact ld_glob (X := X.suite a pn) S hg hm go hdbg
    · exact ld_blt (X := X.suite a pn) S hg hm hv go hnn hdbg
theorem fl_keep {B h h' : Heap} {l : List Env} {a : Addr} {Z : Obj → Prop} (fl : HandSPX.FlyingZ B l a Z h) (k : ∀ b o, h.get? b = some o → h'.get? b = some o) : HandSPX.FlyingZ B l a Z h' := by
  obtain ⟨f1, f2, f3, oe, vs, T, oT, ts, g1, g2, g3, g4, g5, g6, g7, g8⟩ := fl
  exact ⟨fun b o e => k b o (f1 b o e), f2, Heap.FunFrames.of_keeps (fun b o e _ => ⟨o, k b o e, rfl⟩) f3, oe, vs, T, oT, ts, k _ _ g1, g2, g3, g4, g5, g6, k _ _ g7, g8⟩
/-- what 'except (C1, ..) as n' wishes, where the suite may keep the error: behind it the error stands in the heap -/
def wKeep (K : PySem.W.Frag) (us : List Value) (i : Nat) (ts : Addr → Value → Option Addr → TS) (Wout : WX) (D : Ends) : WX := fun cls d σ H =>
  ∃ b, PySem.W.exmAny K cls us = some b ∧ (b = true → ∀ a, H a = none → ts a cls d { nx := fun σ' H' => D.nx (σ'.set i none) (upd H' a (ErV cls d a)), rt := fun _ _ => False, bk := fun _ _ => False, ct := fun _ _ => False } (σ.set i (some (.ref a))) H) ∧ (b = false → Wout cls d σ H)
section
variable {X : Cx} {n : Str} {us : List Value} {es : List Expr} {i : Nat} {body suite : List Stmt} {b₀ : Stmt} {kx : Nat} {np pos pos' : Pos} {tb : WX → TS} {ts : Addr → Value → Option Addr → TS} {Wout : WX}
theorem ps_try_keep (hs : X.stack = X.env :: X.outer) (hf : X.env.frame = some X.env.locals) (hex : X.ex = []) (hN : X.N.Nodup) (hi : X.N[i]? = some n) (hln : X.env.kindOf n = some .local) (hc : NmAll X es us) (hel : us.length ≤ 1000) (tk : Takes X Wout)
    (hb : ∀ (W : WX) (pn : List (Addr × Obj)) (xe : Value → Shared → Prop), Takes (X.tr pn xe) W → PassesOwn (model X.prog X.w) X.A X.env xe → PSs (X.tr pn xe) body (tb W))
    (hsu : ∀ (a : Addr) (oe : Obj) (cls : Value) (d : Option Addr) (pn : List (Addr × Obj)), Zc cls d oe → (∃ vs, oe.data = .fields vs) → PSs (X.suite a ((a, oe) :: pn)) (b₀ :: suite) (ts a cls d)) :
    PS X (.Try body [.ExceptHandler (some (.Tuple es kx np)) (some n) (b₀ :: suite) pos'] [] [] pos) (fun D σ H => tb (wKeep X.K us i ts Wout D) D σ H) := by
  refine ⟨fun pins s σ H D I h => ?_⟩
  have ok := I.ok; have hfr : X.A.frames = some (X.env :: X.outer) := by rw [ok.frames, hs]
  have hloc : Loc X.env.scope n := .inl hln
  refine wpAny_Try_except ?_
  refine wpAny_mono ((hb (wKeep X.K us i ts Wout D) (X.pn ++ pins) (fun e s₁ => wpAny (model X.prog X.w) X.A (noteFrame e X.env) (fun _ s₂ => wpAny (model X.prog X.w) X.A (setFlight e none) (fun _ s₃ => wpAny (model X.prog X.w) X.A (handleBy e X.env [.ExceptHandler (some (.Tuple es kx np)) (some n) (b₀ :: suite) pos']) (SP X pins D) X.xe s₃) X.xe s₂) X.xe s₁) (fun u s' xx => ?_) PassesOwn.looking).run [] s σ H D (I.toTry _) h) (fun f s1 hsp => ?_) (fun e s1 he => he)
  · obtain ⟨a, B, sI, pins', σ', H', cls, d, rfl, J', nb, up, sky, na, os, ag, b, hb1, hyes, hno⟩ := xx
    have J : Inv X pins σ' H' sI := J'.ofTry ok
    have sky' : Sky B (X.env :: X.outer) a (Zc cls d) X.env.locals s'.heap := by rw [← hs]; exact sky
    show wpAny (model X.prog X.w) X.A (noteFrame (.ref a) X.env) _ _ _
    refine Sky.land Zc.steady hfr hf sky' fun h2 fl2 up2 => ?_
    have J2 : Inv X pins σ' H' { s' with heap := h2 } := J.landed nb fl2.1 (up.trans up2) os ag
    obtain ⟨oe2, vs2, he2, hz2, hd2⟩ := fl2.there
    have nfr : a ∉ frs (X.env :: X.outer) := fun hm => by
      obtain ⟨_, o', e', hnf⟩ := fl2.2.2.1.mem hm
      rw [he2] at e'; cases e'; exact hnf _ hd2
    have nL : a ≠ X.env.locals := fun z => nfr (List.mem_filterMap.mpr ⟨X.env, List.mem_cons_self, by rw [hf, z]⟩)
    have nF : a ∉ X.fs := fun hm => by
      obtain ⟨e, he, q⟩ := List.mem_filterMap.mp hm
      exact nfr (List.mem_filterMap.mpr ⟨e, List.mem_cons_of_mem _ he, q⟩)
    have noB : ∀ o, sI.heap.get? a ≠ some o := fun o q => by
      have z := nb a o q (by rw [hs]; exact nfr)
      have z' : B.get? a = none := fl2.2.1
      rw [z'] at z; cases z
    have n0 : X.s_0.heap.get? a = none := by
      cases q : X.s_0.heap.get? a with
      | none => rfl
      | some o =>
        obtain ⟨o', z⟩ := J.base.there a o q (by rw [hex]; exact fun y => nomatch y)
        exact absurd z (noB o')
    have npn : ∀ p ∈ X.pn ++ pins, p.1 ≠ a := fun p hp z => by
      obtain ⟨q, _⟩ := J.pin p hp
      rw [z] at q; exact noB _ q
    have S2 := J2.suite he2 hd2 na nL nF
    refine wpAny_handleBy_cons (codeAny_handlers_test ?_) (by intro q; cases q)
    refine Tuple_ (nm_run S2 hc ?_)
    refine wpAny_newObj_type ?_ (by show us.toArray.size ≤ sizeLine; rw [List.size_toArray]; exact Nat.le_of_lt (small1000 hel))
    have kp : ∀ b o, h2.get? b = some o → (h2.push { cls := .type "tuple", data := .seq us.toArray }).get? b = some o := fun b o e => Heap.get?_push_of_some _ e
    have htp : (h2.push { cls := .type "tuple", data := .seq us.toArray }).get? h2.objs.size = some { cls := .type "tuple", data := .seq us.toArray } := Heap.get?_push_size _ rfl
    have fl3 := fl_keep fl2 kp; have up3 := (up.trans up2).trans (Heap.UpToSlots.of_keeps kp)
    show wpAny _ _ (excMatches (.ref a) (.ref h2.objs.size)) _ _ { s' with heap := h2.push { cls := .type "tuple", data := .seq us.toArray } }
    generalize h2.push { cls := .type "tuple", data := .seq us.toArray } = h3 at kp htp fl3 up3 ⊢
    have J3 : Inv X pins σ' H' { s' with heap := h3 } := J.landed nb fl3.1 up3 os ag
    have LT : PySem.W.Looks (model X.prog X.w) h3 (typeOf (.ref a)) cls := fun A Q E s k q => wpAny_typeOf_ref (k _ _ (kp _ _ he2)) (by rw [hz2.1]; exact q)
    have LM := exm_any (M := model X.prog X.w) (J3.kIn) LT htp hb1
    refine LM.here ?_
    cases b with
    | true =>
      refine codeAny_handlers_suite_as ?_
      refine HandSPX.lands_againZ fl3 fun h4 fl4 up4 => ?_
      have J4 : Inv X pins σ' H' { s' with heap := h4 } := J.landed nb fl4.1 (up3.trans up4) os ag
      obtain ⟨oe4, vs4, he4, hz4, hd4⟩ := fl4.there
      have S4 := J4.suite he4 hd4 na nL nF
      refine store_ok (X := X.suite a ((a, oe4) :: (X.pn ++ pins))) (v := .ref a) S4 hN hi hloc rfl (fun s5 S5 => ?_) (.inr hln)
      refine wpAny_mono ((hsu a oe4 cls d (X.pn ++ pins) hz4 ⟨_, hd4⟩).run [] s5 _ H' _ S5 (hyes rfl a na)) (fun f s6 hsp => ?_) (fun _ _ z => False.elim z)
      cases f with
      | next =>
        obtain ⟨σ6, H6, S6, q6⟩ := hsp
        exact gone_ok (unsuiteK S6 ok) hN hi hln fun s7 J7 => ⟨_, _, putDown J7 hz4 hd4 n0 npn, q6⟩
      | brk => obtain ⟨_, _, _, q6⟩ := hsp; exact q6.elim
      | cont => obtain ⟨_, _, _, q6⟩ := hsp; exact q6.elim
      | ret u => obtain ⟨_, _, _, _, _, q6⟩ := hsp; exact q6.elim
    | false =>
      show wpAny _ X.A (handleBy (.ref a) X.env []) _ _ _
      refine wpAny_handleBy_nil ?_
      obtain ⟨k1, k2, k3, oe, vs, T, oT, ts', he, hz, hd, h1, hr⟩ := id fl3
      unfold PySem.passOn
      refine wpAny_bind (wpAny_field he hd h1 ?_)
      rw [if_neg (show ¬ ((Value.ref T == Value.none) = true) from by simp)]
      have fin : wpAny (model X.prog X.w) X.A (setFlight (.ref a) X.env.frame) (fun _ s4 => wpAny (model X.prog X.w) X.A (throw (.ref a) : Sem Flow) (SP X pins D) X.xe s4) X.xe { s' with heap := h3 } := by
        rw [hf]
        refine HandSPX.setFlight_upZ fl3 fun h4 hh4 up4 => wpAny_throw (tk _ _ ?_)
        exact ⟨a, B, sI, pins, σ', H', cls, d, rfl, J, nb, up3.trans up4, .inr (.inr (by rw [hs]; exact hh4)), na, os, ag, hno rfl⟩
      first
        | exact wpAny_bind (wpAny_pure (wpAny_bind fin))
        | exact wpAny_bind fin
  · cases f with
    | next => obtain ⟨σ', H', J', q⟩ := hsp; exact wpAny_execs_nil ⟨σ', H', J'.ofTry ok, q⟩
    | brk => obtain ⟨σ', H', J', q⟩ := hsp; exact ⟨σ', H', J'.ofTry ok, q⟩
    | cont => obtain ⟨σ', H', J', q⟩ := hsp; exact ⟨σ', H', J'.ofTry ok, q⟩
    | ret u => obtain ⟨v, σ', H', J', r, q⟩ := hsp; exact ⟨v, σ', H', J'.ofTry ok, r, q⟩
end
end Bal

namespace Bal
open PySem PySem.Spec PyProof.Rows L2
/-- the dict of a kept error, where it has one, stands -/
def DcOk (H : Hp) (d : Option Addr) : Prop := ∀ dd, d = some dd → ∃ fs, H dd = some (.xd fs)
theorem DcOk.none {H : Hp} : DcOk H Option.none := fun _ e => nomatch e
theorem DcOk.some {H : Hp} {dd : Addr} {fs : List (Str × V)} (h : H dd = some (.xd fs)) : DcOk H (Option.some dd) := fun _ e => by cases e; exact ⟨fs, h⟩
section
variable {X : Cx} {pins : List (Addr × Obj)} {σ : L2.St} {H : Hp} {s : Shared} {a D : Addr} {d : Option Addr}
theorem erV_inst (I : Inv X pins σ H s) (e : H a = some (ErV (.ref D) d a)) (k : DcOk H d) : ∃ ox od, PySem.W.InstAt s.heap a ox D od := by
  obtain ⟨oe, vs, hg, hz, hd⟩ := erV_at I.hok e
  cases d with
  | none => exact ⟨oe, Option.none, hg, hz.1, by unfold PySem.W.notCls; rw [hd], by rw [hz.2]; trivial⟩
  | some dd =>
    obtain ⟨fs, h⟩ := k dd rfl
    obtain ⟨mA, hns, _⟩ := (show ObjOk X.prog X.w H s.heap dd (.xd fs) from I.hok dd _ h)
    obtain ⟨od, ho, _⟩ := lookIn_ns hns
    exact ⟨oe, Option.some od, hg, hz.1, by unfold PySem.W.notCls; rw [hd], by rw [hz.2]; exact ho⟩
theorem kitV (C : ExcC X.K D) {ox : Obj} {od : Option Obj} : PySem.W.KitX X.K (.ref a) (.ref D) (fun h => PySem.W.InstAt h a ox D od) :=
  PySem.W.kitx_exc (by obtain ⟨cd, hc, _⟩ := PySem.W.any_some C.hd; rw [hc]; rfl) C.hg C.hk C.hs C.ha C.hn C.ht C.hm
/-- isinstance(e, C), e a kept error -/
def rIsV (K : PySem.W.Frag) : List V → Hp → VK → Prop := fun xs H Q => ∃ (a D : Addr) (d : Option Addr) (c : V) (u : Value) (b : Bool), xs = [.ref a, c] ∧ H a = some (ErV (.ref D) d a) ∧ ExcC K D ∧ DcOk H d ∧ ClsV c u ∧ PySem.W.kitOne K (.ref D) u = some b ∧ Q (.bl b) H
theorem call_isV : CallR X (.builtin "isinstance") (rIsV X.K) := by
  intro pins s σ H xs us Q I r h
  obtain ⟨a, D, d, c, u, b, rfl, e, C, dk, k, ek, q⟩ := h
  obtain ⟨u1, u2, rfl, r1, r2⟩ := vals2 r
  have e2 := k.eq r2
  subst e2
  cases (show u1 = Value.ref a from r1)
  obtain ⟨ox, od, J⟩ := erV_inst I e dk
  exact PySem.W.kia_one (kitV C) I.kIn J ek (fun z => nomatch z) fun tk => ⟨.bl b, H, I.tok tk, rfl, q⟩
/-- isinstance(e, (C1, ..)) -/
def rIsVT (K : PySem.W.Frag) : List V → Hp → VK → Prop := fun xs H Q => ∃ (a D : Addr) (d : Option Addr) (tp : Addr) (cs : List V) (us : List Value) (b : Bool), xs = [.ref a, .ref tp] ∧ H a = some (ErV (.ref D) d a) ∧ ExcC K D ∧ DcOk H d ∧ H tp = some (.tup cs) ∧ Paired ClsV cs us ∧ PySem.W.kitAny K (.ref D) us = some b ∧ Q (.bl b) H
theorem call_isVT : CallR X (.builtin "isinstance") (rIsVT X.K) := by
  intro pins s σ H xs us Q I r h
  obtain ⟨a, D, d, tp, cs, ws, b, rfl, e, C, dk, hT, k, ek, q⟩ := h
  obtain ⟨u1, u2, rfl, r1, r2⟩ := vals2 r
  cases (show u1 = Value.ref a from r1)
  cases (show u2 = Value.ref tp from r2)
  obtain ⟨ox, od, J⟩ := erV_inst I e dk
  obtain ⟨_, its, rv, o, h1, h2, n, h3⟩ := (show ObjOk X.prog X.w H s.heap tp (.tup cs) from I.hok tp _ hT)
  have e3 := ClsV.all k rv
  subst e3
  obtain ⟨oc, od', dt, sl⟩ := o
  simp only at h2 h3
  subst h2 h3
  exact PySem.W.kia_tup (kitV C) I.kIn J h1 ek (fun z => nomatch z) fun tk => ⟨.bl b, H, I.tok tk, rfl, q⟩
/-- e.f, e a kept error -/
def tFV (K : PySem.W.Frag) (f : Str) (te : TE) : TE := fun σ H Q => te σ H fun x H1 => ∃ (a D dd : Addr) (fs : List (Str × V)) (v : V), x = .ref a ∧ H1 a = some (ErV (.ref D) (some dd) a) ∧ ExcC K D ∧ PySem.W.findIn K (.ref D) f = some none ∧ H1 dd = some (.xd fs) ∧ fs.lookup f = some v ∧ Q v H1
theorem pe_fV {e : Expr} {te : TE} {pos : Pos} {n : Str} (he : PE X e te) (hb : attributeBase e n X.env (eval e X.env) = eval e X.env := by rfl) : PE X (.Attribute e n pos) (tFV X.K n te) := by
  refine ⟨fun pins s σ H Q I h => ?_⟩
  refine attr_of hb (thn (he.run pins s σ H _ I h) fun u s1 ⟨x, H1, I1, rx, a, D, dd, fs, v, ex, ea, C, hno, ed, l, q⟩ => ?_)
  subst ex
  obtain rfl : u = Value.ref a := rx
  obtain ⟨oe, vs, hg, hz, hd⟩ := erV_at I1.hok ea
  obtain ⟨mA, hns, hr⟩ := (show ObjOk X.prog X.w H1 s1.heap dd (.xd fs) from I1.hok dd _ ed)
  obtain ⟨od, ho, hl⟩ := lookIn_ns hns
  obtain ⟨u, hu, ru⟩ := RelO.some_of (v := v) (o := mA n) (by rw [← l]; exact hr n)
  have J : PySem.W.InstAt s1.heap a oe D (some od) := ⟨hg, hz.1, by unfold PySem.W.notCls; rw [hd], by rw [hz.2]; exact ho⟩
  exact HandSPX.exc_get I1.kIn J C.hg C.hk C.hs (PySem.W.findObj_own C.hd hno rfl (by rw [hl, hu])) (handed_of ru) ⟨v, H1, I1.tok _, ru, q⟩
/-! ### calls by names alone -/
/-- how such a call binds: g puts the values ws of the names ks in the parameters' order -/
structure KB0 (K : PySem.W.Frag) (fd : FuncData) (ps ks : List Str) (g : List Value → List Value) (gV : List V → List V) : Prop where
  to : ∀ (s : Shared) (ws : List Value), K.In s.heap → ws.length = ks.length → BindsTo s fd ⟨[], ks.zip ws⟩ (ps.zip (g ws))
  rel : ∀ {zs : List V} {ws : List Value}, zs.length = ks.length → Vals zs ws → Vals (gV zs) (g ws)
end
/-! ### xs[::-1] of a list or a tuple -/
theorem rg_rev (n : Nat) : (List.range n).map (fun m => n - 1 - m) = (List.range n).reverse := by
  apply List.ext_getElem
  · simp
  · intro i h1 h2
    simp
theorem rev_pick (xs : Array Value) : ((List.range xs.size).filterMap fun (m : Nat) => xs[(((xs.size : Int) - 1) + (m : Int) * (-1)).toNat]?).toArray = xs.toList.reverse.toArray := by
  have e : (fun (m : Nat) => xs[(((xs.size : Int) - 1) + (m : Int) * (-1)).toNat]?) = (fun k : Nat => xs[k]?) ∘ fun m => xs.size - 1 - m := by
    funext m
    have : (((xs.size : Int) - 1) + (m : Int) * (-1)).toNat = xs.size - 1 - m := by omega
    show xs[(((xs.size : Int) - 1) + (m : Int) * (-1)).toNat]? = xs[xs.size - 1 - m]?
    rw [this]
  rw [e, ← List.filterMap_map, rg_rev, List.filterMap_reverse, PySem.W.krv_all]
section
variable {prog : Program} {w : World} {A : Around} {E : Value → Shared → Prop} {s : Shared}
theorem sl_rev {sl : Addr} {vk : Value} {n : Nat} {Q : Int × Int × Nat → Shared → Prop} (hs : s.heap.IsSliceOf sl .none .none vk) (pk : IsPart vk (some (-1))) (h : Q ((n : Int) - 1, -1, n) s) : wpAny (model prog w) A (Builtin.Slice.sliceApplied (.ref sl) (pure (n : Int))) Q E s := by
  obtain ⟨os, hos, hcs, hds⟩ := id hs
  unfold Builtin.Slice.sliceApplied Builtin.Slice.sliceFields
  refine wpAny_bind (wpAny_bind (wpAny_field hos hds (x := .none) rfl (wpAny_bind (wpAny_field hos hds (x := .none) rfl (wpAny_bind (wpAny_field hos hds (x := vk) rfl (wpAny_pure ?_)))))))
  refine wpAny_bind (HT.slicePart_ pk ?_)
  show wpAny _ _ (if ((-1 : Int) == 0) = true then _ else _) _ _ s
  rw [if_neg (by decide)]
  refine wpAny_bind (slicePart_none (wpAny_bind (slicePart_none (wpAny_bind (wpAny_pure ?_)))))
  show wpAny _ _ (pure ((n : Int) - 1, (-1 : Int), Builtin.Slice.slicePlaces ((n : Int) - 1) (-1) (-1))) _ _ s
  have e : Builtin.Slice.slicePlaces ((n : Int) - 1) (-1) (-1) = n := by
    unfold Builtin.Slice.slicePlaces
    rw [if_neg (by decide), show (-(-1 : Int)) = 1 from rfl, Int.ediv_one]
    split <;> omega
  rw [e]
  exact wpAny_pure h
theorem getItem_tup_rev {t sl : Addr} {items : Array Value} {vk : Value} {Q : Value → Shared → Prop} (ht : IsTup s.heap t items) (hs : s.heap.IsSliceOf sl .none .none vk) (pk : IsPart vk (some (-1)))
    (h : Q (.ref s.heap.objs.size) { s with heap := s.heap.push { cls := .type "tuple", data := .seq items.toList.reverse.toArray } }) (hsz : items.size ≤ sizeLine) : wpAny (model prog w) A (getItem (.ref t) (.ref sl)) Q E s := by
  have hok : sizeOk (.seq items.toList.reverse.toArray) := by
    show items.toList.reverse.toArray.size ≤ sizeLine
    rw [List.size_toArray, List.length_reverse, Array.length_toList]
    exact hsz
  obtain ⟨os, hos, hcs, hds⟩ := id hs; have hTs : s.TypeIs (.ref sl) "slice" := ⟨os, hos, hcs⟩
  unfold getItem
  try with_reducible refine wpAny_holding ?_
  first | refine wpAny_bind (wpAny_pure ?_) | skip
  refine wpAny_bind (wpAny_sequenceKey ht.typeIs (by decide) ?_)
  refine wpAny_bind (wpAny_callSpecial?_slot (name := Str.ofString "__getitem__") ht.typeIs PyProof.Rows.slot_tuple_getitem (wpAny_call_entry PyProof.Rows.slot_tuple_getitem ht.typeIs entry_tuple_getitem ?_ (args_tuple_getitem _ _)))
  show wpAny _ _ (Builtin.Tuple.tupleItemsOf (.ref t) >>= _) _ _ s
  refine wpAny_bind (tupleItemsOf_ ht ?_)
  refine wpAny_bind (wpAny_typeOf hTs ?_)
  rw [if_pos (by decide)]
  refine wpAny_bind (sl_rev hs pk ?_)
  have hno : ¬ ((((items.size : Int) - 1) == 0 && (-1 : Int) == 1 && items.size == items.size) = true) := by
    rw [show ((-1 : Int) == 1) = false from rfl, Bool.and_false, Bool.false_and]
    exact Bool.false_ne_true
  show wpAny _ _ (if (((items.size : Int) - 1) == 0 && (-1 : Int) == 1 && items.size == items.size) = true then _ else _) _ _ s
  rw [if_neg hno, rev_pick]
  first
    | exact wpAny_bind (m := Builtin.Tuple.tupleExact _) (wpAny_newObj_type (wpAny_pure ⟨_, rfl, wpAny_pure h⟩) hok)
    | exact wpAny_bind (m := Builtin.Tuple.tupleExact _) (wpAny_newObj_type (wpAny_bind (wpAny_pure (wpAny_pure ⟨_, rfl, wpAny_pure h⟩))) hok)
    | exact wpAny_bind (wpAny_bind (m := Builtin.Tuple.tupleExact _) (wpAny_newObj_type (wpAny_pure (wpAny_pure ⟨_, rfl, wpAny_pure h⟩)) hok))
    | exact wpAny_bind (wpAny_bind (m := Builtin.Tuple.tupleExact _) (wpAny_newObj_type (wpAny_pure ⟨_, rfl, wpAny_pure h⟩) hok))
end
/-! ### what classes are to one another -/
theorem kit_self {K : PySem.W.Frag} {D : Addr} : PySem.W.kitOne K (.ref D) (.ref D) = some true := by
  unfold PySem.W.kitOne
  rw [if_pos (beq_self_eq_true _)]
theorem kit_no {K : PySem.W.Frag} {D C : Addr} (hd : PySem.W.hasDictIn K C = true) (ht : PySem.W.typeIn K (.ref C) = some (.type "type")) (hs : PySem.W.subIn K (.ref D) (.ref D) = some true) (h : PySem.W.subIn K (.ref D) (.ref C) = some false) : PySem.W.kitOne K (.ref D) (.ref C) = some false := by
  unfold PySem.W.kitOne
  have ne : ((Value.ref D == Value.ref C) = true) = False := by
    refine eq_false fun z => ?_
    have e : D = C := Value.ref.inj (beq_iff_eq.mp z)
    rw [e] at hs h
    rw [hs] at h
    cases h
  obtain ⟨cd, hc, _⟩ := PySem.W.any_some hd
  rw [if_neg (by rw [ne]; exact id)]
  show (if ((PySem.W.clsIn K C).isSome && PySem.W.typeIn K (.ref C) == some (.type "type")) = true then PySem.W.subIn K (.ref D) (.ref C) else none) = some false
  rw [hc, ht, if_pos (by rfl)]
  exact h
theorem kit_up {K : PySem.W.Frag} {D : Addr} {T : String} {b : Bool} (hm : PySem.W.kitMeta T = true) (h : PySem.W.subIn K (.ref D) (.type T) = some b) : PySem.W.kitOne K (.ref D) (.type T) = some b := by
  unfold PySem.W.kitOne
  have ne : ¬ (Value.ref D == Value.type T) = true := fun z => by
    have z := beq_iff_eq.mp z
    cases z
  rw [if_neg ne]
  show (if PySem.W.kitMeta T = true then PySem.W.subIn K (.ref D) (.type T) else none) = some b
  rw [if_pos hm]
  exact h
/-- a class of one's own among the errors: what is asked of it -/
structure ErK (K : PySem.W.Frag) (mg : Str → Option Value) (x : Str) (C : Addr) : Prop where
  g : mg x = some (.ref C)
  ex : PySem.W.subIn K (.ref C) (.type "BaseException") = some true
  hd : PySem.W.hasDictIn K C = true
  ty : PySem.W.typeIn K (.ref C) = some (.type "type")
theorem ErK.one {K : PySem.W.Frag} {mg : Str → Option Value} {x : Str} {C : Addr} (h : ErK K mg x C) {cls : Value} {b : Bool} (s : PySem.W.subIn K cls (.ref C) = some b) : PySem.W.exmOne K cls (.ref C) = some b := PySem.W.exm_ref h.ex h.hd h.ty s
/-- .. one with a field f, told by its __init__, and what makes its instances -/
structure ErT (K : PySem.W.Frag) (mg : Str → Option Value) (x f qual : Str) (st : Stmt) (C fI : Addr) (fdI : FuncData) (newId : String) (tail : List Value) : Prop where
  k : ErK K mg x C
  c : ErC K C newId tail
  i : ExcC K C
  iC : PySem.W.findIn K (.ref C) "__init__" = some (some (.ref fI))
  tI : PySem.W.typeIn K (.ref fI) = some (.type "function")
  F : Fun K "__init__" qual st fI fdI
  no : PySem.W.findIn K (.ref C) f = some none
  me : PySem.W.subIn K (.ref C) (.ref C) = some true
theorem mk_heap {H : Hp} {a dx : Addr} {o1 o2 o3 o4 : HO} (ha : H a = none) (ne : dx ≠ a) : upd (del (upd (upd (upd H a o1) dx o2) a o3) a) dx o4 = upd H dx o4 := by
  funext b
  by_cases h1 : b = dx
  · rw [h1, upd_same, upd_same]
  · rw [upd_ne h1, upd_ne h1]
    by_cases h2 : b = a
    · rw [h2, del_same, ha]
    · rw [del_ne h2, upd_ne h2, upd_ne h1, upd_ne h2]
/-- __init__(self, f): self.f = f -/
def spInit (K : PySem.W.Frag) (C : Addr) (f : Str) : Sp := fun vs H Q _ => ∃ (a : Addr) (v : V), vs = [.ref a, v] ∧ H a = some (exo a C none) ∧ ∀ dx, H dx = none → dx ≠ a → Q .non (upd (upd H dx (exd dx [(f, v)])) a (exo a C (some dx)))
/-- an error of the class at C is made of v -/
theorem made_er {K : PySem.W.Frag} {C : Addr} {f : Str} {v : V} {H : Hp} {Q : XK} (q : ∀ d, H d = none → Q (.ref C) (some d) (upd H d (.xd [(f, v)]))) : [v].length ≤ 1000 ∧ ∀ a, H a = none → spInit K C f (.ref a :: ([v] ++ [])) (upd H a (exo a C none))
    (fun v H2 => v = .non ∧ ∃ (d : Addr) (fs : List (Str × V)), H2 a = some (exo a C (some d)) ∧ H2 d = some (exd d fs) ∧ H d = none ∧ Q (.ref C) (some d) (upd (del H2 a) d (.xd fs))) (fun _ _ _ => False) := by
  refine ⟨by show 1 ≤ 1000; decide, fun a ha => ⟨a, v, rfl, upd_same, fun dx ndx ne => ⟨rfl, dx, [(f, v)], upd_same, ?_, ?_, ?_⟩⟩⟩
  · rw [upd_ne ne, upd_same]
  · rw [upd_ne ne] at ndx
    exact ndx
  · rw [mk_heap ha ne]
    rw [upd_ne ne] at ndx
    exact q dx ndx
theorem erT_mk {K : PySem.W.Frag} {mg : Str → Option Value} {x f qual : Str} {st : Stmt} {C fI : Addr} {fdI : FuncData} {newId : String} {tail : List Value} {nm qn : Str} {N : Addr} {bs : List Value} {sn : List Str} {sub : List Value} {ab : Bool} {col : Option Bool} {dd : Option Addr} {m0 m1 m2 m3 m5 : Option Value}
    (g : mg x = some (.ref C)) (xl : K.lookup C = some (excClassObj nm qn C N bs tail true sn sub ab col dd m0 m1 m2 m3 m5 newId)) (sa : PySem.W.findIn K (.ref C) "__setattr__" = some (some (.builtin "object.__setattr__"))) (ga : PySem.W.findIn K (.ref C) "__getattribute__" = some (some (.builtin "BaseException.__getattribute__")))
    (gg : PySem.W.findIn K (.ref C) "__getattr__" = some none) (no : PySem.W.findIn K (.ref C) f = some none) (iC : PySem.W.findIn K (.ref C) "__init__" = some (some (.ref fI))) (tI : PySem.W.typeIn K (.ref fI) = some (.type "function")) (F : Fun K "__init__" qual st fI fdI)
    (kC : PySem.W.keepIn K (.ref C) = true) (ex : PySem.W.subIn K (.ref C) (.type "BaseException") = some true) (ty : PySem.W.typeIn K (.ref C) = some (.type "type")) (hd : PySem.W.hasDictIn K C = true) (me : PySem.W.subIn K (.ref C) (.ref C) = some true)
    (ha : PySem.W.findIn K (.ref C) "__class__" = some (some (.builtin "object.__class__"))) (hm : PySem.W.mroIn K C (.type "object") = some true) (hn : PySem.W.specialIn K (.builtin "object.__class__") "__get__" = some (some (.builtin "getset_descriptor.__get__"))) (ht : PySem.W.takesIn K (.builtin "object.__class__") = some true) (bx : BaseX newId tail) :
    ErT K mg x f qual st C fI fdI newId tail := ⟨⟨g, ex, hd, ty⟩, ⟨bx, ⟨nm, qn, N, bs, sn, sub, ab, col, dd, m0, m1, m2, m3, m5, xl⟩, sa, ex, ty, kC⟩, ⟨ga, gg, ex, hd, ha, hn, ht, hm⟩, iC, tI, F, no, me⟩
end Bal

namespace Bal
open PySem PySem.Spec PyProof.Rows L2
/-! ### one of two readings -/
/-- a list or a tuple -/
def SqA (K : PySem.W.Frag) (H : Hp) (a : Addr) (xs : List V) : Prop := SqL K H a xs ∨ SqT K H a xs
theorem SqA.same {K : PySem.W.Frag} {H H' : Hp} {a : Addr} {xs : List V} (h : SqA K H a xs) (s : Same H H') : SqA K H' a xs := h.imp (fun h => s.seq h) (fun h => Same.sqT s h)
section
variable {X : Cx} {pins : List (Addr × Obj)} {σ : L2.St} {H : Hp} {s : Shared} {a : Addr}
/-! ### xs.index(x) of numbers -/
/-! ### max and min of a tuple of numbers -/
theorem reads_int {h : Heap} {v : Value} {i : Int} {bs : List Addr} (r : Reads h v (.int i) bs) : ∃ t, v = .int i t := by
  cases r
  exact ⟨_, rfl⟩
end
end Bal

namespace Bal
open PySem PySem.Spec PyProof.Rows L2
/-! ### tuples that are known to have no dict -/
def TupN (H : Hp) (a : Addr) (xs : List V) : Prop := ∃ o : Obj, o.dict = none ∧ H a = some (.frz o (.tup xs))
theorem TupN.sq {K : PySem.W.Frag} {H : Hp} {a : Addr} {xs : List V} (h : TupN H a xs) : SqT K H a xs := by
  obtain ⟨o, _, e⟩ := h
  exact .inl (.inr ⟨o, e⟩)
theorem TupN.same {H H' : Hp} {a : Addr} {xs : List V} (h : TupN H a xs) (s : Same H H') : TupN H' a xs := by
  obtain ⟨o, d, e⟩ := h
  exact ⟨o, d, s _ _ e⟩
theorem TupN.new {H : Hp} {a : Addr} {xs : List V} {o : Obj} (h : o.dict = none) : TupN (upd H a (.frz o (.tup xs))) a xs := ⟨o, h, upd_same⟩
/-- a list, or such a tuple -/
def SqB (K : PySem.W.Frag) (H : Hp) (a : Addr) (xs : List V) : Prop := SqL K H a xs ∨ TupN H a xs
theorem SqB.a {K : PySem.W.Frag} {H : Hp} {a : Addr} {xs : List V} (h : SqB K H a xs) : SqA K H a xs := h.imp id (fun h => h.sq)
theorem SqB.same {K : PySem.W.Frag} {H H' : Hp} {a : Addr} {xs : List V} (h : SqB K H a xs) (s : Same H H') : SqB K H' a xs := h.imp (fun h => s.seq h) (fun h => h.same s)
section
variable {X : Cx} {pins : List (Addr × Obj)} {σ : L2.St} {H : Hp} {s : Shared} {a : Addr}
theorem frz_tup {P : Program} {w : World} {H : Hp} {h : Heap} {a : Addr} {xs : List V} {its : List Value} (hz : xs.length ≤ sizeLine) (r : Vals xs its) (e : h.get? a = some { cls := .type "tuple", data := .seq its.toArray }) : ObjOk P w H h a (.frz { cls := .type "tuple", data := .seq its.toArray } (.tup xs)) :=
  ⟨e, hz, its, r, _, e, rfl, _, rfl⟩
/-- tuple(xs) -/
def rTupN (K : PySem.W.Frag) : List V → Hp → VK → Prop := fun xs H Q => ∃ p ys, xs = [.ref p] ∧ ((SqL K H p ys ∧ ∀ l o, o.dict = none → H l = none → Q (.ref l) (upd H l (.frz o (.tup ys)))) ∨ (SqT K H p ys ∧ Q (.ref p) H))
theorem call_tupN : CallR X (.type "tuple") (rTupN X.K) := by
  intro pins s σ H xs us Q I r h
  obtain ⟨p, ys, rfl, h⟩ := h
  obtain ⟨u, rfl, rx⟩ := vals1 r
  cases rx
  rcases h with ⟨hq, q⟩ | ⟨hq, q⟩
  · obtain ⟨its, r', pl, hz⟩ := I.list hq
    have hlen := r'.length
    refine call_tuple_list pl.isList (fun h' kp => ?_) (by simp only [List.size_toArray] <;> omega)
    have I1 : Inv X pins σ H { s with heap := h' } := I.kept (t' := s.toks) kp
    exact ⟨.ref h'.objs.size, _, I1.laid (t' := s.toks) (fun b o e => Heap.get?_push_of_some _ e) (Nat.le_refl _) (frz_tup hz r' (Heap.get?_push_size _ rfl)), rfl, q _ _ rfl (I1.hok.fresh (Nat.le_refl _))⟩
  · obtain ⟨its, r', pl, hz⟩ := I.tuple hq
    exact call_tuple_same pl ⟨.ref p, H, I, rfl, q⟩
/-- xs[::-1] -/
def tRevN (K : PySem.W.Frag) (te : TE) : TE := fun σ H Q => te σ H fun x H1 => ∃ a xs, x = .ref a ∧ ((SqL K H1 a xs ∧ ∀ p, H1 p = none → Q (.ref p) (upd H1 p (.lst xs.reverse))) ∨ (SqT K H1 a xs ∧ ∀ p o, o.dict = none → H1 p = none → Q (.ref p) (upd H1 p (.frz o (.tup xs.reverse)))))
theorem pe_revN {e : Expr} {te : TE} {k : Nat} {p1 p2 p3 pos : Pos} (he : PE X e te) : PE X (.Subscript e (.Slice none none (some (.UnaryOp .USub (.Constant (.int 1) k p1) p2)) p3) pos) (tRevN X.K te) := by
  refine ⟨fun pins s σ H Q I h => ?_⟩
  refine Subscript_ (thn (he.run pins s σ H _ I h) fun v s1 ⟨x, H1, I1, r1, a, xs, ex, q1⟩ => ?_)
  subst ex; cases r1
  have hst : PO X (some (.UnaryOp .USub (.Constant (.int 1) k p1) p2)) (tPart (tUn (rU fun i => .int (-i)) (tC (.int 1)))) := po_some (pe_un un_neg pe_int)
  refine wpAny_Slice (thn (po_none.run pins s1 σ H1 (fun o H2 => o = none ∧ H2 = H1) I1 ⟨rfl, rfl⟩) fun vl s2 ⟨l, H2, I2, pl, el, e2⟩ => ?_)
  subst el e2
  refine thn (po_none.run pins s2 σ H2 (fun o H3 => o = none ∧ H3 = H2) I2 ⟨rfl, rfl⟩) fun vu s3 ⟨u, H3, I3, pu, eu, e3⟩ => ?_
  subst eu e3
  refine thn (hst.run pins s3 σ H3 (fun o H4 => o = some (-1) ∧ H4 = H3) I3 ⟨1, rfl, -1, rfl, rfl, rfl⟩) fun vs s4 ⟨o, H4, I4, ps, eo, e4⟩ => ?_
  subst eo e4
  have I5 : Inv X pins σ H4 { s4 with heap := s4.heap.push { cls := .type "slice", data := .fields #[vl, vu, vs] } } := I4.kept (t' := s4.toks) fun b ob q => Heap.get?_push_of_some _ q
  show wpAny (model X.prog X.w) X.A (subscriptTail e (.Slice none none (some (.UnaryOp .USub (.Constant (.int 1) k p1) p2)) p3) (.ref a) (.ref s4.heap.objs.size)) (EP X pins σ Q) X.xe { s4 with heap := s4.heap.push { cls := .type "slice", data := .fields #[vl, vu, vs] } }
  rcases q1 with ⟨hx, q⟩ | ⟨hx, q⟩
  · obtain ⟨its, r, ht, hz⟩ := I5.list hx
    have hlen := r.length
    refine tail_any (ops := [.ref a, .ref s4.heap.objs.size]) ht.isList.typeIs (PySem.slot_list_getitem.lookup) ?_ (by with_unfolding_all rfl)
    refine wpAny_getItem_list_slice ht.isList (Heap.IsSliceOf.new _ vl vu vs) pl pu ps (by decide) ?_ (by rw [List.size_toArray]; omega)
    rw [PySem.W.krv_pick]
    exact ⟨.ref _, _, I5.laid (t' := s4.toks) (o := .lst xs.reverse) (fun b ob q => Heap.get?_push_of_some _ q) (Nat.le_refl _) ⟨by rw [List.length_reverse]; exact hz, _, 0, r.reverse, Heap.get?_push_size _ rfl⟩, rfl, q _ (I5.hok.fresh (Nat.le_refl _))⟩
  · obtain ⟨its, r, ht, hz⟩ := I5.tuple hx
    have hlen := r.length
    cases pl; cases pu
    refine tail_any (ops := [.ref a, .ref s4.heap.objs.size]) ht.typeIs (PyProof.Rows.slot_tuple_getitem.lookup) ?_ (by with_unfolding_all rfl)
    refine getItem_tup_rev ht (Heap.IsSliceOf.new _ _ _ vs) ps ?_ (by rw [List.size_toArray]; omega)
    exact ⟨.ref _, _, I5.laid (t' := s4.toks) (o := .frz { cls := .type "tuple", data := .seq its.reverse.toArray } (.tup xs.reverse)) (fun b ob q => Heap.get?_push_of_some _ q) (Nat.le_refl _) (frz_tup (by rw [List.length_reverse]; exact hz) r.reverse (Heap.get?_push_size _ rfl)), rfl, q _ _ rfl (I5.hok.fresh (Nat.le_refl _))⟩
end
end Bal

namespace Bal
open PySem PySem.Spec PyProof.Rows L2
/-! ### defs that are called outside of every repr: what they promise there -/
structure FnG (P : Program) (w : World) (K : PySem.W.Frag) (mg : Str → Option Value) (base : Heap) (k : Nat) (f : Addr) (fd : FuncData) (ps : List Str) (sp : Sp) : Prop where
  lenG : ∀ vs H Q E, sp vs H Q E → vs.length = ps.length
  runG : ∀ (A : Around) (outer : List Env) (s : Shared) (H : Hp) (args : Args) (us : List Value) (vs : List V) (Q : VK) (E : XK), A.guards = some [] → Room k A → Env0 P w K mg base A outer s H → BindsTo s fd args (ps.zip us) → Vals vs us → sp vs H Q E → codeAny (model P w) A (.call (.ref f) args) (CR CX0 outer P w H s Q E) s
end Bal

namespace Bal
open PySem PySem.Spec PyProof.Rows L2
/-! ### repr -/
end Bal

namespace Bal
open PySem PySem.Spec PyProof.Rows L2
/-! ### truths among numbers -/
def nv : V → Option Int
  | .int i => some i
  | .bl b => some (if b = true then 1 else 0)
  | _ => none
section
variable {X : Cx}
theorem op_addN : OpR X (binaryOp .Add) (fun x y H Q => ∃ i j, nv x = some i ∧ y = .int j ∧ Q (.int (i + j)) H) := by
  intro pins s σ H x y v u Q I rx ry ⟨i, j, hx, hy, q⟩
  subst hy; obtain ⟨t, rfl⟩ := ry
  cases x with
  | int a => cases hx; obtain ⟨t', rfl⟩ := rx; exact add_int ⟨.int _, H, I.tok _, ⟨_, rfl⟩, q⟩
  | bl b => cases hx; cases rx; exact PySem.IntBool.add_bool_int ⟨.int _, H, I.tok _, ⟨_, rfl⟩, q⟩
  | _ => cases hx
/-- str of a number or a truth -/
def strN : V → Str
  | .int i => toString i
  | .bl b => if b then "True" else "False"
  | _ => ""
theorem call_strN : CallR X (.type "str") (fun xs H Q => ∃ x i, xs = [x] ∧ nv x = some i ∧ i.natAbs.log2 < 1920 ∧ Q (.str (strN x)) H) := by
  intro pins s σ H xs us Q I r ⟨x, i, e, hx, hl, q⟩
  subst e; obtain ⟨u, rfl, rx⟩ := vals1 r
  cases x with
  | int a => cases hx; obtain ⟨t, rfl⟩ := rx; exact PySem.P.str_of_int hl ⟨.str _, H, I.tok _, ⟨_, rfl⟩, q⟩
  | bl b => cases rx; exact PySem.P.str_of_bool ⟨.str _, H, I.tok _, ⟨_, rfl⟩, by cases b <;> exact q⟩
  | _ => cases hx
end
/-! ### enumerate of a tuple -/
section
variable {prog : Program} {w : World} {A : Around} {E : Value → Shared → Prop} {s : Shared}
/-- enumerate's object over the iterator at i -/
abbrev enO (i : Addr) : Obj := { cls := .type "enumerate", data := .fields #[.none, .bool false, .ref i, rawInt 0, .none, .none] }
theorem meets_enB {v : Value} {o : Obj} {H : Heap → Prop} (B : Begins v o H) : Meets (Builtin.«enumerate.__new__» ⟨[.type "enumerate", v], []⟩) (fun _ R s => H s.heap ∧ R (.ok (.ret (.ref (s.heap.push o).objs.size))) { s with heap := (s.heap.push o).push (enO s.heap.objs.size) }) :=
  .of_wp fun prog w A R s ⟨h1, h⟩ => by
    obtain ⟨hp, g, d, tk, os⟩ := s
    have hsub := sub_enumerate
    have goes : ∀ {A' : Around} {E : Value → Shared → Prop} {Q : Value → Shared → Prop}, Q (.ref hp.objs.size) ⟨hp.push o, g, d, tk, os⟩ → wpAny (model prog w) A' (pyIter v) Q E ⟨hp, g, d, tk, os⟩ := fun q => B.iter prog w _ _ ⟨hp, g, d, tk, os⟩ _ h1 q
    wp_walk using goes
    refine wpAny_stack_any fun st => wpAny_pure ?_
    split
    · next c _ _ _ _ _ => cases (c == Value.type "enumerate") <;> (wp_walk using goes; exact ⟨_, rfl, h⟩)
    · wp_walk using goes; exact ⟨_, rfl, h⟩
end
end Bal

namespace Bal
open PySem PySem.Spec PyProof.Rows L2
/-! ### xs[a:c] = ys, c maybe behind the end -/
/-! ### len(set(t)), t a tuple of numbers -/
end Bal

namespace Bal
open PySem PySem.Spec PyProof.Rows L2
/-! ### which kind a thing is -/
/-! ### the heap without the draws' pot, and without lists that are still being made -/
def hid (N : Addr → Bool) (H : Hp) : Hp := fun q => if N q = true then none else H q
theorem hid_at {N : Addr → Bool} {q : Addr} {H : Hp} (n : N q = false) : hid N H q = H q := if_neg (by rw [n]; exact Bool.false_ne_true)
theorem hid_p {N : Addr → Bool} {q : Addr} {H : Hp} (n : N q = true) : hid N H q = none := if_pos n
theorem hid_some {N : Addr → Bool} {q : Addr} {H : Hp} {o : HO} (e : hid N H q = some o) : N q = false ∧ H q = some o := by
  cases n : N q with
  | true =>
    rw [hid_p n] at e
    cases e
  | false =>
    rw [hid_at n] at e
    exact ⟨rfl, e⟩
theorem hid_but {N : Addr → Bool} {p : Addr} {H H' : Hp} (np : N p = true) (b : But p H H') : Same (hid N H) (hid N H') := fun q o e => by
  obtain ⟨h1, h2⟩ := hid_some e
  rw [hid_at h1]
  refine b q o (fun z => ?_) h2
  rw [z, np] at h1
  cases h1
theorem hid_get {N : Addr → Bool} {q : Addr} {H : Hp} {o : HO} (n : N q = false) (h : H q = some o) : hid N H q = some o := by
  rw [hid_at n]
  exact h
/-- the pot, and what is hidden stands -/
structure PotN (N : Addr → Bool) (H : Hp) (p : Addr) (c : Nat) : Prop where
  pot : Pot H p c
  np : N p = true
  tr : ∀ q, N q = true → ∃ o, H q = some o
theorem PotN.ne {N : Addr → Bool} {H : Hp} {p q : Addr} {c : Nat} (h : PotN N H p c) (n : H q = none) : N q = false := by
  cases e : N q with
  | false => rfl
  | true =>
    obtain ⟨o, z⟩ := h.tr q e
    rw [n] at z
    cases z
theorem PotN.same {N : Addr → Bool} {H H' : Hp} {p : Addr} {c : Nat} (h : PotN N H p c) (s : Same H H') : PotN N H' p c := ⟨h.pot.same s, h.np, fun q e => let ⟨o, z⟩ := h.tr q e; ⟨o, s _ _ z⟩⟩
theorem PotN.but {N : Addr → Bool} {H H' : Hp} {p : Addr} {c c' : Nat} (h : PotN N H p c) (b : But p H H') (P : Pot H' p c') : PotN N H' p c' := ⟨P, h.np, fun q e => by
  by_cases z : q = p
  · subst z
    obtain ⟨o, e, _⟩ := P
    exact ⟨o, e⟩
  · obtain ⟨o, e⟩ := h.tr q e
    exact ⟨o, b q o z e⟩⟩
/-- one more is hidden -/
theorem potN_more {N : Addr → Bool} {H : Hp} {p r : Addr} {c : Nat} {o : HO} (h : PotN N H p c) (hr : H r = some o) : PotN (fun q => N q || decide (q = r)) H p c := ⟨h.pot, by rw [h.np]; rfl, fun q e => by
  rcases Bool.or_eq_true_iff.mp e with e | e
  · exact h.tr q e
  · rw [of_decide_eq_true e]
    exact ⟨o, hr⟩⟩
/-! ### things that are small enough -/
mutual
def okD (M : Nat) : PyData → Bool
  | .none => true
  | .bool _ => true
  | .int i => decide (i.natAbs ≤ M)
  | .str x => PyData.strOk x && decide (x.length ≤ 30)
  | .list xs => okA M xs
  | .tuple xs => okA M xs
  | .dict _ => false
def okA (M : Nat) : List PyData → Bool
  | [] => true
  | x :: xs => okD M x && okA M xs
end
mutual
def siz : PyData → Nat
  | .list xs => sizA xs + 1
  | .tuple xs => sizA xs + 1
  | _ => 1
def sizA : List PyData → Nat
  | [] => 0
  | x :: xs => siz x + sizA xs
end
structure Fit (M S D : Nat) (d : PyData) : Prop where
  ok : okD M d = true
  sz : siz d ≤ S
  dp : d.depth ≤ D
theorem Fit.mono {M S D M' S' D' : Nat} {d : PyData} (h : Fit M S D d) (h0 : okD M d = true → okD M' d = true) (h1 : S ≤ S') (h2 : D ≤ D') : Fit M' S' D' d := ⟨h0 h.ok, Nat.le_trans h.sz h1, Nat.le_trans h.dp h2⟩
mutual
theorem okD_mono {M M' : Nat} (h : M ≤ M') : ∀ d : PyData, okD M d = true → okD M' d = true
  | .none, _ => rfl
  | .bool _, _ => rfl
  | .int i, e => decide_eq_true (Nat.le_trans (of_decide_eq_true e) h)
  | .str x, e => e
  | .list xs, e => okA_mono h xs e
  | .tuple xs, e => okA_mono h xs e
  | .dict _, e => nomatch (show false = true from e)
theorem okA_mono {M M' : Nat} (h : M ≤ M') : ∀ xs : List PyData, okA M xs = true → okA M' xs = true
  | [], _ => rfl
  | x :: xs, e => by
    obtain ⟨a, b⟩ := Bool.and_eq_true_iff.mp (show (okD M x && okA M xs) = true from e)
    show (okD M' x && okA M' xs) = true
    rw [okD_mono h x a, okA_mono h xs b]
    rfl
end
theorem sizA_app : ∀ xs ys : List PyData, sizA (xs ++ ys) = sizA xs + sizA ys
  | [], ys => (Nat.zero_add _).symm
  | x :: xs, ys => by
    show siz x + sizA (xs ++ ys) = siz x + sizA xs + sizA ys
    rw [sizA_app xs ys, Nat.add_assoc]
/-- all parts of a list of things: as a list, as a tuple -/
structure FitA (M S D : Nat) (ds : List PyData) : Prop where
  ok : ∀ d ∈ ds, okD M d = true
  sz : sizA ds ≤ S
  dp : ∀ d ∈ ds, d.depth ≤ D
/-! ### what these are good for -/
/-! ### good things: data out of the pot's reach, small -/
def Gv (K : PySem.W.Frag) (N : Addr → Bool) (H : Hp) (M S D : Nat) (v : V) : Prop := ∃ d, Dp K (hid N H) v d ∧ Fit M S D d
theorem Gv.but {K : PySem.W.Frag} {N : Addr → Bool} {p : Addr} {H H' : Hp} {M S D : Nat} {v : V} (h : Gv K N H M S D v) (np : N p = true) (b : But p H H') : Gv K N H' M S D v := by
  obtain ⟨d, a, f⟩ := h
  exact ⟨d, dp_same (hid_but np b) a, f⟩
theorem Gv.mono {K : PySem.W.Frag} {N : Addr → Bool} {H : Hp} {M S D M' S' D' : Nat} {v : V} (h : Gv K N H M S D v) (h0 : M ≤ M') (h1 : S ≤ S') (h2 : D ≤ D') : Gv K N H M' S' D' v := by
  obtain ⟨d, a, f⟩ := h
  exact ⟨d, a, f.mono (okD_mono h0 d) h1 h2⟩
end Bal

namespace Bal
open PySem PySem.Spec PyProof.Rows L2
theorem sizA_sub {xs ys : List PyData} (h : xs.Sublist ys) : sizA xs ≤ sizA ys := by
  induction h with
  | slnil => exact Nat.le_refl _
  | cons a _ ih => exact Nat.le_trans ih (Nat.le_add_left _ _)
  | cons_cons a _ ih => exact Nat.add_le_add_left ih _
theorem FitA.sub {M S D : Nat} {xs ys : List PyData} (f : FitA M S D ys) (h : xs.Sublist ys) : FitA M S D xs := ⟨fun d hd => f.ok d (h.mem hd), Nat.le_trans (sizA_sub h) f.sz, fun d hd => f.dp d (h.mem hd)⟩
theorem sizA_rev : ∀ xs : List PyData, sizA xs.reverse = sizA xs
  | [] => rfl
  | x :: xs => by
    rw [List.reverse_cons, sizA_app, sizA_rev xs]
    show sizA xs + (siz x + 0) = siz x + sizA xs
    omega
theorem FitA.rev {M S D : Nat} {xs : List PyData} (f : FitA M S D xs) : FitA M S D xs.reverse := ⟨fun d hd => f.ok d (List.mem_reverse.mp hd), by rw [sizA_rev]; exact f.sz, fun d hd => f.dp d (List.mem_reverse.mp hd)⟩
theorem FitA.mono {M S D M' S' D' : Nat} {xs : List PyData} (f : FitA M S D xs) (h0 : M ≤ M') (h1 : S ≤ S') (h2 : D ≤ D') : FitA M' S' D' xs := ⟨fun d hd => okD_mono h0 d (f.ok d hd), Nat.le_trans f.sz h1, fun d hd => Nat.le_trans (f.dp d hd) h2⟩
end Bal

namespace Bal
open PySem PySem.Spec PyProof.Rows L2
/-! ### a walk over a list or a tuple, whichever it is -/
section
variable {X : Cx} {tg : Expr}
def iEi (K : PySem.W.Frag) (tl : TE) : TI := fun σ H R => tl σ H fun x H1 => ∃ a, x = .ref a ∧ (((∃ xs, SqL K H1 a xs) ∧ R (Itl K a) H1) ∨ ((∃ xs, SqT K H1 a xs) ∧ R (Itt K a) H1))
theorem pi_ei {l : Expr} {tl : TE} (hl : PE X l tl) : PI X tg l (iEi X.K tl) := by
  refine ⟨fun pins s σ H R I h => thn (hl.run pins s σ H _ I h) fun v s1 ⟨x, H1, I1, r1, a, ea, q1⟩ => ?_⟩
  subst ea; cases r1
  have fr : ∀ b ∈ [s1.heap.objs.size], FpOk X pins H1 b := fun b hb => by
    rw [show b = s1.heap.objs.size by simpa using hb]
    exact I1.fpOk (Nat.le_refl _) (I1.hok.fresh (Nat.le_refl _))
  rcases q1 with ⟨⟨xs, hq⟩, q⟩ | ⟨⟨xs, hq⟩, q⟩
  · obtain ⟨its, rv, p, hz⟩ := I1.list hq
    exact wpAny_pyIter_list p.isList ⟨s1.heap.objs.size, [s1.heap.objs.size], _, _, H1, rfl, I1.kept (t' := s1.toks) fun b o e => Heap.get?_push_of_some _ e, turn_list a _, ⟨_, Heap.get?_push_size _ rfl, rfl, rfl⟩, fr, q⟩
  · obtain ⟨its, rv, p, hz⟩ := I1.tuple hq
    exact wpAny_pyIter_tuple (show s1.heap.IsTuple a its.toArray from p) ⟨s1.heap.objs.size, [s1.heap.objs.size], _, _, H1, rfl, I1.kept (t' := s1.toks) fun b o e => Heap.get?_push_of_some _ e, turn_tuple a _, ⟨_, Heap.get?_push_size _ rfl, rfl, rfl⟩, fr, q⟩
end
/-! ### what is hidden stands -/
def TrN (N : Addr → Bool) (H : Hp) : Prop := ∀ q, N q = true → ∃ o, H q = some o
/-- D hidden too -/
def plus (N : Addr → Bool) (D : Addr) : Addr → Bool := fun q => N q || decide (q = D)
theorem TrN.none {H : Hp} : TrN (fun _ => false) H := fun _ e => Bool.noConfusion e
theorem TrN.same {N : Addr → Bool} {H H' : Hp} (t : TrN N H) (s : Same H H') : TrN N H' := fun q e => let ⟨o, z⟩ := t q e; ⟨o, s _ _ z⟩
theorem TrN.ne {N : Addr → Bool} {H : Hp} {q : Addr} (t : TrN N H) (n : H q = Option.none) : N q = false := by
  cases e : N q with
  | false => rfl
  | true =>
    obtain ⟨o, z⟩ := t q e
    rw [n] at z
    cases z
theorem TrN.plus {N : Addr → Bool} {H : Hp} {D : Addr} {o : HO} (t : TrN N H) (h : H D = some o) : TrN (plus N D) H := fun q e => by
  rcases Bool.or_eq_true_iff.mp e with e | e
  · exact t q e
  · rw [of_decide_eq_true e]
    exact ⟨o, h⟩
theorem hid_sm {N : Addr → Bool} {H H' : Hp} (s : Same H H') : Same (hid N H) (hid N H') := fun q o e => hid_get (hid_some e).1 (s _ _ (hid_some e).2)
theorem hid_in {N : Addr → Bool} {G G' : Hp} {D : Addr} (n : G D = none) (s : Same G G') : Same (hid N G) (hid (plus N D) G') := fun q o hq => by
  obtain ⟨z1, z2⟩ := hid_some hq
  have z3 : q ≠ D := fun z => by
    rw [z, n] at z2
    cases z2
  exact hid_get (by show (N q || decide (q = D)) = false; rw [z1, decide_eq_false z3]; rfl) (s _ _ z2)
/-! ### tuples as lists, at every depth -/
end Bal

namespace Bal
open PySem PySem.Spec PyProof.Rows L2
/-! ### written things -/
theorem pe_of {X : Cx} {e : Expr} {t t' : TE} (h : PE X e t) (f : ∀ σ H Q, t' σ H Q → t σ H Q) : PE X e t' := ⟨fun pins s σ H Q I q => h.run pins s σ H Q I (f σ H Q q)⟩
theorem pa_of {X : Cx} {es : List Expr} {t t' : TA} (h : PA X es t) (f : ∀ σ H Q, t' σ H Q → t σ H Q) : PA X es t' := ⟨fun pos pins s σ H Q I q => h.run pos pins s σ H Q I (f σ H Q q)⟩
/-! ### many small things at once -/
theorem Gv.sm {K : PySem.W.Frag} {N : Addr → Bool} {H H' : Hp} {M S D : Nat} {v : V} (h : Gv K N H M S D v) (s : Same H H') : Gv K N H' M S D v := by
  obtain ⟨d, a, f⟩ := h
  exact ⟨d, dp_same (hid_sm s) a, f⟩
theorem Gv.into {K : PySem.W.Frag} {N : Addr → Bool} {H H' : Hp} {M S D : Nat} {v : V} {T : Addr} (h : Gv K N H M S D v) (n : H T = none) (s : Same H H') : Gv K (plus N T) H' M S D v := by
  obtain ⟨d, a, f⟩ := h
  exact ⟨d, dp_same (hid_in n s) a, f⟩
theorem PotN.plus {N : Addr → Bool} {H : Hp} {p T : Addr} {c : Nat} {o : HO} (h : PotN N H p c) (e : H T = some o) : PotN (plus N T) H p c := potN_more h e
end Bal

namespace Bal
open PySem PySem.Spec PyProof.Rows L2
/-- a loop over anything of n items -/
theorem for_gen {J : It} {n : Nat} {g : TG} {tb : TS} {D : Ends} {σ : L2.St} {H : Hp} (Pv : Nat → L2.St → Hp → Prop) (h0 : Pv 0 σ H) (hgo : ∀ i σ H, i < n → Pv i σ H → J.go i H) (hst : ∀ σ H, Pv n σ H → J.stop n H)
    (hs : ∀ i σ H x H', i < n → Pv i σ H → J.yld i H x H' → g x σ H' fun σ2 H2 => tb { D with nx := Pv (i + 1), ct := Pv (i + 1), bk := D.nx } σ2 H2) (hd : ∀ σ H, Pv n σ H → D.nx σ H) :
    ∃ W : Nat → Nat → L2.St → Hp → Prop, (∃ m, W 0 m σ H) ∧ ∀ i m σ H, W i m σ H →
      (J.stop i H ∧ D.nx σ H) ∨ (J.go i H ∧ ∃ N : L2.St → Hp → Prop, (∀ σ' H', N σ' H' → ∃ m', m' < m ∧ W (i + 1) m' σ' H') ∧ ∀ x H', J.yld i H x H' → g x σ H' fun σ2 H2 => tb { D with nx := N, ct := N, bk := D.nx } σ2 H2) := by
  refine ⟨fun i m σ H => m = n - i ∧ i ≤ n ∧ Pv i σ H, ⟨n, by simp, Nat.zero_le _, h0⟩, ?_⟩
  rintro i m σ H ⟨rfl, hi, p⟩
  by_cases hlt : i < n
  · exact .inr ⟨hgo i σ H hlt p, Pv (i + 1), fun σ' H' p' => ⟨n - (i + 1), by omega, rfl, hlt, p'⟩, fun x H' y => hs i σ H x H' hlt p y⟩
  · have e : i = n := by omega
    subst e
    exact .inl ⟨hst σ H p, hd σ H p⟩
/-! ### boxes: somebody, the least and the greatest number of taller ones ahead -/
abbrev Tri := Int × Nat × Nat
structure BoxOk (xs : List Int) (cs : List Tri) : Prop where
  souls : cs.map Prod.fst = xs
  lim : ∀ (j : Nat) (c : Tri), cs[j]? = some c → c.2.1 ≤ c.2.2 ∧ c.2.2 ≤ j
theorem BoxOk.snoc {xs : List Int} {cs : List Tri} {x : Int} {l g : Nat} (b : BoxOk xs cs) (h1 : l ≤ g) (h2 : g ≤ cs.length) : BoxOk (xs ++ [x]) (cs ++ [(x, l, g)]) := by
  refine ⟨by rw [List.map_append, b.souls]; rfl, fun j c hj => ?_⟩
  by_cases h : j < cs.length
  · rw [List.getElem?_append_left h] at hj
    exact b.lim j c hj
  · rw [List.getElem?_append_right (by omega)] at hj
    have e : j = cs.length := by
      have := (List.getElem?_eq_some_iff.mp hj).1
      simp at this
      omega
    subst e
    rw [Nat.sub_self] at hj
    cases (Option.some.inj hj : (x, l, g) = c)
    exact ⟨h1, h2⟩
end Bal

namespace Bal
open PySem PySem.Spec PyProof.Rows L2
end Bal

namespace Den
open PySem PySem.Spec PyProof.Rows L2 Bal
/-! ### values by what they are: tuples and lists that nobody changes by their items, lists that change by their number in a store -/
inductive W where
  | non | bl (b : Bool) | int (i : Int) | str (x : Str) | tup (ws : List W) | cl (ws : List W) | sc (ws : List W) | lst (n : Nat) | dct (n : Nat) | dtt (n : Nat) | ins (n : Nat) | exn (c f : Str) (ws : List W) | lam (f c : Addr) (q : Str) (xs : List V) (ws : List W)
abbrev Store := List (List W)
abbrev En := List (Option W)
inductive Out (α : Type) where
  | ok (a : α) (S : Store)
  | err (c f : Str) (ws : List W) (S : Store)
  | bad
abbrev Mo (α : Type) := Store → Out α
def bnd {α β : Type} (m : Mo α) (f : α → Mo β) : Mo β := fun S => match m S with
  | .ok a S' => f a S'
  | .err c g ws S' => .err c g ws S'
  | .bad => .bad
def ret {α : Type} (a : α) : Mo α := fun S => .ok a S
def bad {α : Type} : Mo α := fun _ => .bad
/-! ### how a value of the machine is such a one -/
/-- the written part, the module's names, the lists that are still being made -/
structure Gm where
  K : PySem.W.Frag
  mg : Str → Option Value
  δ : List Addr
def KTup (K : PySem.W.Frag) (a : Addr) (xs : List V) : Prop := ∃ (o : Obj) (its : Array Value) (n : Nat), K.lookup a = some o ∧ o.dict = none ∧ o.cls = .type "tuple" ∧ o.data = .seq its n ∧ its.size ≤ sizeLine ∧ Vals xs its.toList
def KLst (K : PySem.W.Frag) (a : Addr) (xs : List V) : Prop := ∃ (o : Obj) (its : Array Value) (n : Nat), K.lookup a = some o ∧ o.cls = .type "list" ∧ o.dict = none ∧ o.data = .seq its n ∧ its.size ≤ sizeLine ∧ Vals xs its.toList
def TupAt (Γ : Gm) (H : Hp) (μ : List Addr) (a : Addr) (xs : List V) : Prop := (TupN H a xs ∧ a ∉ μ ∧ a ∉ Γ.δ) ∨ KTup Γ.K a xs
def LstAt (Γ : Gm) (H : Hp) (μ : List Addr) (a : Addr) (xs : List V) : Prop := (Rd H a (.lst xs) ∧ a ∉ μ ∧ a ∉ Γ.δ) ∨ KLst Γ.K a xs
section
variable {Γ : Gm} {H H' H'' : Hp} {μ μ' μ'' : List Addr} {S S' : Store} {a : Addr} {xs : List V}
theorem TupAt.sq (h : TupAt Γ H μ a xs) : SqT Γ.K H a xs := h.elim (fun z => z.1.sq) fun ⟨o, its, n, h1, _, h2⟩ => .inr ⟨o, its, n, h1, h2⟩
theorem LstAt.sq (h : LstAt Γ H μ a xs) : SqL Γ.K H a xs := h.imp (fun z => z.1) fun z => z
end
/-! a dict by tuples of numbers: its keys are objects that stand by themselves -/
def hashI (ks : List Int) : Int := reduceHash (Builtin.Tuple.tupleHashOf (ks.map hashInt))
def DTe (p : (Addr × List Int) × V) (e : DictEntry) : Prop := e.hash = hashI p.1.2 ∧ e.key = .ref p.1.1 ∧ RelV p.2 e.val
def DTf (a : Addr) (kvs : List ((Addr × List Int) × V)) : Heap → Prop := fun h => (a == sysModules) = false ∧ ∃ (o : Obj) (es : Array DictEntry) (ep : Nat), h.get? a = some o ∧ o.ExactDict ∧ o.data = .dict es ep ∧ Paired DTe kvs es.toList ∧ (kvs.map fun p => p.1.2).Nodup
def DTo (a : Addr) (kvs : List ((Addr × List Int) × V)) : HO := .ext (DTf a kvs)
open Classical in
/-- what kind of dict a locked thing is -/
noncomputable def kdf : HO → Nat
  | .dK _ => 1
  | .ext φ => if ∃ a kvs, φ = DTf a kvs then 2 else 3
  | _ => 3
theorem kdf_ne0 (u : HO) : kdf u ≠ 0 := by
  unfold kdf
  split
  · decide
  · split <;> decide
  · decide
/-- the attributes of an instance of an own class, in the order in which they are made -/
def insNames : List Str := ["past", "notes"]
open Classical in
/-- what kind of thing an object of the store is: a list, a dict by numbers and texts, a dict by tuples of numbers -/
noncomputable def kd : HO → Nat
  | .lst _ => 0
  | .dK _ => 1
  | .ext φ => if ∃ a kvs, φ = DTf a kvs then 2 else 3
  | .frz _ u => kdf u
  | .ins C _ _ => C + 4
  | _ => 3
theorem kdf_dt (a : Addr) (kvs : List ((Addr × List Int) × V)) : kdf (DTo a kvs) = 2 := by
  unfold DTo kdf
  exact if_pos ⟨a, kvs, rfl⟩
theorem kd_dt (a : Addr) (kvs : List ((Addr × List Int) × V)) : kd (DTo a kvs) = 2 := by
  unfold DTo kd
  exact if_pos ⟨a, kvs, rfl⟩
theorem kd_ext (φ : Heap → Prop) : kd (.ext φ) = 2 ∨ kd (.ext φ) = 3 := by
  by_cases h : ∃ a kvs, φ = DTf a kvs
  · exact .inl (if_pos h)
  · exact .inr (if_neg h)
theorem all_get (O : Obj) (hO : O.isFreed = false) : ∀ n : Nat, ∃ h : Heap, h.objs.size = n ∧ (∀ b, b < n → h.get? b = some O) ∧ ∀ b o, h.get? b = some o → o = O
  | 0 => ⟨{ objs := #[] }, rfl, fun b hb => absurd hb (Nat.not_lt_zero b), fun b o e => absurd (Heap.lt_size e) (Nat.not_lt_zero b)⟩
  | n + 1 => by
    obtain ⟨h, h1, h2, h3⟩ := all_get O hO n
    have hp : (h.push O).get? h.objs.size = some O := Heap.get?_push_size _ hO
    have hz : (h.push O).objs.size = h.objs.size + 1 := Heap.size_push ..
    refine ⟨h.push O, by rw [hz, h1], fun b hb => ?_, fun b o e => ?_⟩
    · by_cases hbn : b < n
      · exact Heap.get?_push_of_some _ (h2 b hbn)
      · have : b = h.objs.size := by rw [h1]; exact Nat.le_antisymm (Nat.le_of_lt_succ hb) (Nat.le_of_not_lt hbn)
        rw [this]
        exact hp
    · have hb := Heap.lt_size e
      rw [hz] at hb
      by_cases hbn : b < n
      · have e2 : (h.push O).get? b = some O := Heap.get?_push_of_some _ (h2 b hbn)
        rw [e] at e2
        exact Option.some.inj e2
      · have : b = h.objs.size := by rw [h1] at hb ⊢; exact Nat.le_antisymm (Nat.le_of_lt_succ hb) (Nat.le_of_not_lt hbn)
        rw [this, hp] at e
        exact (Option.some.inj e).symm
theorem kd_code (c : Addr) (q : Str) : kd (LamX.CodeO c q) = 3 := by
  unfold LamX.CodeO kd
  refine if_neg ?_
  rintro ⟨a, kvs, e⟩
  obtain ⟨h, _, h2, h3⟩ := all_get { cls := .none, data := .fields #[.none, .str q default] } rfl (c + 1)
  have := congrFun e h
  have h4 : DTf a kvs h := by
    rw [← this]
    exact ⟨_, _, default, h2 c (Nat.lt_succ_self c), rfl, rfl⟩
  obtain ⟨_, o, es, ep, h5, _, h6, _⟩ := h4
  rw [h3 a o h5] at h6
  cases h6
def Kd_ (H : Hp) (a : Addr) (k : Nat) : Prop := ∃ o, H a = some o ∧ kd o = k
def kW : Key → W
  | .inl i => .int i
  | .inr x => .str x
def pairW (k u : W) : W := .tup [k, u]
/-- a dict that is being walked has this ahead of its pairs -/
abbrev mkW : W := .tup []
/-- how a dict of the store is laid by its entry -/
def EntD : Addr → HO → List W → List V → List W → Prop
  | _, .dK kvs, ws, xs, us => xs = kvs.map (·.2) ∧ ws = List.zipWith pairW (kvs.map fun p => kW p.1) us
  | a, .ext φ, ws, xs, us => ∃ (kvs : List ((Addr × List Int) × V)) (uv : List W), φ = DTf a kvs ∧ xs = kvs.map (fun p => V.ref p.1.1) ++ kvs.map (·.2) ∧ us = kvs.map (fun p => W.tup (p.1.2.map W.int)) ++ uv ∧ uv.length = kvs.length ∧ ws = List.zipWith pairW (kvs.map fun p => W.tup (p.1.2.map W.int)) uv
  | _, _, _, _, _ => False
/-- how an object of the store is laid by its entry: the values in it, what they are told as -/
def Ent : Addr → HO → List W → List V → List W → Prop
  | _, .lst ys, ws, xs, us => xs = ys ∧ us = ws
  | a, .frz _ u, ws, xs, us => ∃ ws0, ws = mkW :: ws0 ∧ EntD a u ws0 xs us
  | _, .ins _ _ fs, ws, xs, us => xs = fs.map (·.2) ∧ us = ws ∧ fs.map (·.1) = insNames.take fs.length
  | _, .dK kvs, ws, xs, us => xs = kvs.map (·.2) ∧ ws = List.zipWith pairW (kvs.map fun p => kW p.1) us
  | a, .ext φ, ws, xs, us => ∃ (kvs : List ((Addr × List Int) × V)) (uv : List W), φ = DTf a kvs ∧ xs = kvs.map (fun p => V.ref p.1.1) ++ kvs.map (·.2) ∧ us = kvs.map (fun p => W.tup (p.1.2.map W.int)) ++ uv ∧ uv.length = kvs.length ∧ ws = List.zipWith pairW (kvs.map fun p => W.tup (p.1.2.map W.int)) uv
  | _, _, _, _, _ => False
theorem Ent.kd {a : Addr} {o : HO} {ws us : List W} {xs : List V} (h : Ent a o ws xs us) : Den.kd o ≠ 3 := by
  intro z
  cases o with
  | frz ob u =>
    obtain ⟨ws0, _, h⟩ := h
    have z : kdf u = 3 := z
    cases u <;> first | (cases z; done) | exact h.elim | skip
    obtain ⟨kvs, uv, e, _⟩ := h
    subst e
    have := kdf_dt a kvs
    unfold DTo at this
    rw [this] at z
    cases z
  | ext φ =>
    obtain ⟨kvs, uv, e, _⟩ := h
    subst e
    have := kd_dt a kvs
    unfold DTo at this
    rw [this] at z
    cases z
  | ins C dx fs => exact absurd z (Nat.ne_of_gt (Nat.lt_of_lt_of_le (show 3 < 4 by decide) (Nat.le_add_left 4 C)))
  | _ => first | (cases z; done) | exact h.elim
mutual
inductive Rp (Γ : Gm) (H : Hp) (μ : List Addr) : V → W → Prop
  | non : Rp Γ H μ .non .non
  | bl (b : Bool) : Rp Γ H μ (.bl b) (.bl b)
  | int (i : Int) : Rp Γ H μ (.int i) (.int i)
  | str (x : Str) : Rp Γ H μ (.str x) (.str x)
  | tup {a : Addr} {xs : List V} {ws : List W} : TupAt Γ H μ a xs → xs.length ≤ sizeLine → Rps Γ H μ xs ws → Rp Γ H μ (.ref a) (.tup ws)
  | cl {a : Addr} {xs : List V} {ws : List W} : H a = some (.lst xs) → a ∉ μ → a ∉ Γ.δ → xs.length ≤ sizeLine → Rps Γ H μ xs ws → Rp Γ H μ (.ref a) (.cl ws)
  | sc {a : Addr} {xs : List V} {ws : List W} : LstAt Γ H μ a xs → Rps Γ H μ xs ws → Rp Γ H μ (.ref a) (.sc ws)
  | lst {a : Addr} {n : Nat} : μ[n]? = some a → Kd_ H a 0 → Rp Γ H μ (.ref a) (.lst n)
  | dct {a : Addr} {n : Nat} : μ[n]? = some a → Kd_ H a 1 → Rp Γ H μ (.ref a) (.dct n)
  | dtt {a : Addr} {n : Nat} : μ[n]? = some a → Kd_ H a 2 → Rp Γ H μ (.ref a) (.dtt n)
  | ins {a C : Addr} {n : Nat} : μ[n]? = some a → Kd_ H a (C + 4) → Γ.mg "Gallery" = some (.ref C) → Rp Γ H μ (.ref a) (.ins n)
  | exn {a C : Addr} {c f : Str} {d : Addr} {xs : List V} {ws : List W} : Γ.mg c = some (.ref C) → H a = some (ErV (.ref C) (some d) a) → a ∉ μ → a ∉ Γ.δ → H d = some (.xd (xs.map fun x => (f, x))) → d ∉ μ → d ∉ Γ.δ → xs.length ≤ 1 → Rps Γ H μ xs ws → Rp Γ H μ (.ref a) (.exn c f ws)
  | exn0 {a C : Addr} {c f : Str} : Γ.mg c = some (.ref C) → H a = some (ErV (.ref C) none a) → a ∉ μ → a ∉ Γ.δ → Rp Γ H μ (.ref a) (.exn c f [])
  | lam {f c : Addr} {q : Str} {xs : List V} {ws : List W} : H c = some (LamX.CodeO c q) → c ∉ μ → c ∉ Γ.δ → Rps Γ H μ xs ws → Rp Γ H μ (.ref f) (.lam f c q xs ws)
inductive Rps (Γ : Gm) (H : Hp) (μ : List Addr) : List V → List W → Prop
  | nil : Rps Γ H μ [] []
  | cons {v : V} {vs : List V} {w : W} {ws : List W} : Rp Γ H μ v w → Rps Γ H μ vs ws → Rps Γ H μ (v :: vs) (w :: ws)
end
/-- what may have become of the heap: what is no list of the store is as it was -/
def NT (o : HO) : Prop := ∀ ps, o ≠ .tbl ps
theorem nt_er {c : Value} {d : Option Addr} {a : Addr} : NT (ErV c d a) := fun _ z => by
  unfold ErV at z
  cases z
theorem nt_co {c : Addr} {q : Str} : NT (LamX.CodeO c q) := LamX.codeO_ne
theorem nt_kd {o : HO} (h : kd o ≠ 3) : NT o := fun ps z => by
  subst z
  exact h rfl
structure Gr (H : Hp) (μ : List Addr) (H' : Hp) (μ' : List Addr) : Prop where
  pre : ∃ r, μ' = μ ++ r
  keepN : ∀ a o, H a = some o → a ∉ μ → NT o → H' a = some o ∧ a ∉ μ'
  kind : ∀ a k, a ∈ μ → Kd_ H a k → Kd_ H' a k
  frz : ∀ a o u, a ∈ μ → H a = some (.frz o u) → H' a = some (.frz o u)
theorem Gr.keep {H H' : Hp} {μ μ' : List Addr} (g : Gr H μ H' μ') (a : Addr) (o : HO) (h : H a = some o) (n : a ∉ μ) (nt : NT o := by first | exact nt_er | exact nt_co | (intro ps z; cases z)) : H' a = some o ∧ a ∉ μ' := g.keepN a o h n nt
/-- the tables of the code objects of the defs in which lambdas are made -/
def lamNames : List Str := ["_law_right", "_law_all_right"]
def tabOf (K : PySem.W.Frag) (mg : Str → Option Value) (nm : Str) : Option (Addr × Str) := match mg nm with
  | some (.ref f) => match K.lookup f with
    | some ⟨_, _, .func fd, _⟩ => match fd.code with
      | .ref c => match K.lookup c with
        | some ⟨_, _, .fields vs, _⟩ => match (vs[11]? : Option Value) with
          | some (.ref P) => some (P, (nm ++ ".<locals>.") ++ "<lambda>")
          | _ => none
        | _ => none
      | _ => none
    | _ => none
  | _ => none
def tabsOf (K : PySem.W.Frag) (mg : Str → Option Value) : List (Addr × Str) := lamNames.filterMap (tabOf K mg)
theorem tabs_upd {T : List (Addr × Str)} {H : Hp} {a : Addr} {x : HO} (t : LamX.Tabs T H) (ha : ∀ o, H a = some o → kd o ≠ 3) : LamX.Tabs T (upd H a x) := fun p hp => by
  obtain ⟨ps, h1, h2, h3⟩ := t p hp
  refine ⟨ps, by rw [upd_ne (fun z => ha _ (by rw [← z]; exact h1) rfl)]; exact h1, h2, fun pos cv hc => ?_⟩
  obtain ⟨c, e1, e2⟩ := h3 pos cv hc
  exact ⟨c, e1, by rw [upd_ne (fun z => ha _ (by rw [← z]; exact e2) (kd_code _ _))]; exact e2⟩
structure Ok (Γ : Gm) (H : Hp) (μ : List Addr) (S : Store) : Prop where
  len : μ.length = S.length
  nd : μ.Nodup
  dl : ∀ a ∈ Γ.δ, (∃ o, H a = some o ∧ kd o ≠ 3) ∧ a ∉ μ
  at_ : ∀ (n : Nat) (a : Addr), μ[n]? = some a → ∃ (o : HO) (ws : List W) (xs : List V) (us : List W), S[n]? = some ws ∧ H a = some o ∧ Ent a o ws xs us ∧ xs.length ≤ sizeLine ∧ Rps Γ H μ xs us
  tb : LamX.Tabs (tabsOf Γ.K Γ.mg) H
section
variable {Γ : Gm} {H H' H'' : Hp} {μ μ' μ'' : List Addr} {S S' : Store}
theorem Gr.refl : Gr H μ H μ := ⟨⟨[], by simp⟩, fun _ _ h n _ => ⟨h, n⟩, fun _ _ _ h => h, fun _ _ _ _ h => h⟩
theorem Gr.trans (a : Gr H μ H' μ') (b : Gr H' μ' H'' μ'') : Gr H μ H'' μ'' := by
  obtain ⟨r, e⟩ := a.pre
  obtain ⟨r2, e2⟩ := b.pre
  exact ⟨⟨r ++ r2, by rw [e2, e, List.append_assoc]⟩, fun x o h n q => let ⟨h1, n1⟩ := a.keep x o h n q; b.keep x o h1 n1 q, fun x k m h => b.kind x k (by rw [e]; exact List.mem_append_left _ m) (a.kind x k m h), fun x o u m h => b.frz x o u (by rw [e]; exact List.mem_append_left _ m) (a.frz x o u m h)⟩
theorem Gr.get {n : Nat} {a : Addr} (g : Gr H μ H' μ') (h : μ[n]? = some a) : μ'[n]? = some a := by
  obtain ⟨r, e⟩ := g.pre
  rw [e, List.getElem?_append_left (List.getElem?_eq_some_iff.mp h).1]
  exact h
theorem TupAt.gr {a : Addr} {xs : List V} (g : Gr H μ H' μ') (h : TupAt Γ H μ a xs) : TupAt Γ H' μ' a xs := by
  rcases h with ⟨⟨o, hd, h⟩, n, m⟩ | h
  · exact .inl ⟨⟨o, hd, (g.keep _ _ h n).1⟩, (g.keep _ _ h n).2, m⟩
  · exact .inr h
theorem LstAt.gr {a : Addr} {xs : List V} (g : Gr H μ H' μ') (h : LstAt Γ H μ a xs) : LstAt Γ H' μ' a xs := by
  rcases h with ⟨h | ⟨o, h⟩, n, m⟩ | h
  · exact .inl ⟨.inl (g.keep _ _ h n).1, (g.keep _ _ h n).2, m⟩
  · exact .inl ⟨.inr ⟨o, (g.keep _ _ h n).1⟩, (g.keep _ _ h n).2, m⟩
  · exact .inr h
mutual
theorem Rp.gr (g : Gr H μ H' μ') : ∀ {v : V} {w : W}, Rp Γ H μ v w → Rp Γ H' μ' v w
  | _, _, .non => .non
  | _, _, .bl b => .bl b
  | _, _, .int i => .int i
  | _, _, .str x => .str x
  | _, _, .tup h l r => .tup (h.gr g) l (Rps.gr g r)
  | _, _, .cl h n m l r => .cl (g.keep _ _ h n).1 (g.keep _ _ h n).2 m l (Rps.gr g r)
  | _, _, .sc h r => .sc (h.gr g) (Rps.gr g r)
  | _, _, .lst h q => .lst (g.get h) (g.kind _ _ (List.mem_of_getElem? h) q)
  | _, _, .dct h q => .dct (g.get h) (g.kind _ _ (List.mem_of_getElem? h) q)
  | _, _, .dtt h q => .dtt (g.get h) (g.kind _ _ (List.mem_of_getElem? h) q)
  | _, _, .ins h q m => .ins (g.get h) (g.kind _ _ (List.mem_of_getElem? h) q) m
  | _, _, .exn m h n z hd nd zd l r => .exn m (g.keep _ _ h n).1 (g.keep _ _ h n).2 z (g.keep _ _ hd nd).1 (g.keep _ _ hd nd).2 zd l (Rps.gr g r)
  | _, _, .exn0 m h n z => .exn0 m (g.keep _ _ h n).1 (g.keep _ _ h n).2 z
  | _, _, .lam h n z r => .lam (g.keep _ _ h n).1 (g.keep _ _ h n).2 z (Rps.gr g r)
theorem Rps.gr (g : Gr H μ H' μ') : ∀ {vs : List V} {ws : List W}, Rps Γ H μ vs ws → Rps Γ H' μ' vs ws
  | _, _, .nil => .nil
  | _, _, .cons a b => .cons (Rp.gr g a) (Rps.gr g b)
end
theorem Rps.len : ∀ {vs : List V} {ws : List W}, Rps Γ H μ vs ws → vs.length = ws.length
  | _, _, .nil => rfl
  | _, _, .cons _ b => congrArg (· + 1) (Rps.len b)
theorem Rps.app : ∀ {vs us : List V} {ws zs : List W}, Rps Γ H μ vs ws → Rps Γ H μ us zs → Rps Γ H μ (vs ++ us) (ws ++ zs)
  | _, _, _, _, .nil, h => h
  | _, _, _, _, .cons a b, h => .cons a (Rps.app b h)
theorem Rps.get : ∀ {vs : List V} {ws : List W} {i : Nat} {v : V}, Rps Γ H μ vs ws → vs[i]? = some v → ∃ w, ws[i]? = some w ∧ Rp Γ H μ v w
  | _, _, _, _, .nil, h => by simp at h
  | _, _, 0, _, .cons a _, h => by simp at h; subst h; exact ⟨_, rfl, a⟩
  | _, _, i + 1, v, .cons _ b, h => by
    obtain ⟨w, e, r⟩ := Rps.get (i := i) (v := v) b (by simpa using h)
    exact ⟨w, by simpa using e, r⟩
theorem Rps.getW {vs : List V} {ws : List W} {i : Nat} {w : W} (r : Rps Γ H μ vs ws) (h : ws[i]? = some w) : ∃ v, vs[i]? = some v ∧ Rp Γ H μ v w := by
  have hi : i < vs.length := by rw [r.len]; exact (List.getElem?_eq_some_iff.mp h).1
  obtain ⟨w', e, q⟩ := r.get (List.getElem?_eq_getElem hi)
  rw [h] at e
  cases e
  exact ⟨_, List.getElem?_eq_getElem hi, q⟩
theorem Rps.take : ∀ {vs : List V} {ws : List W} (n : Nat), Rps Γ H μ vs ws → Rps Γ H μ (vs.take n) (ws.take n)
  | _, _, 0, _ => by simp; exact .nil
  | _, _, _ + 1, .nil => .nil
  | _, _, n + 1, .cons a b => .cons a (Rps.take n b)
theorem Rps.drop : ∀ {vs : List V} {ws : List W} (n : Nat), Rps Γ H μ vs ws → Rps Γ H μ (vs.drop n) (ws.drop n)
  | _, _, 0, h => h
  | _, _, _ + 1, .nil => .nil
  | _, _, n + 1, .cons _ b => Rps.drop n b
theorem Rps.rev : ∀ {vs : List V} {ws : List W}, Rps Γ H μ vs ws → Rps Γ H μ vs.reverse ws.reverse
  | _, _, .nil => .nil
  | _, _, .cons a b => by
    rw [List.reverse_cons, List.reverse_cons]
    exact (Rps.rev b).app (.cons a .nil)
theorem Rps.set : ∀ {vs : List V} {ws : List W} {v : V} {w : W} (n : Nat), Rps Γ H μ vs ws → Rp Γ H μ v w → Rps Γ H μ (vs.set n v) (ws.set n w)
  | _, _, _, _, _, .nil, _ => .nil
  | _, _, _, _, 0, .cons _ b, h => .cons h b
  | _, _, _, _, n + 1, .cons a b, h => .cons a (Rps.set n b h)
/-! ### heaps that grow -/
theorem Ok.ne (k : Ok Γ H μ S) {p : Addr} (h : H p = none) : p ∉ μ := fun z => by
  obtain ⟨n, hn, e⟩ := List.getElem_of_mem z
  obtain ⟨_, _, _, _, _, q, _⟩ := k.at_ n p (by rw [List.getElem?_eq_getElem hn, e])
  rw [h] at q
  cases q
theorem Ok.nδ (k : Ok Γ H μ S) {p : Addr} (h : H p = none) : p ∉ Γ.δ := fun z => by
  obtain ⟨⟨o, e, _⟩, _⟩ := k.dl p z
  rw [h] at e
  cases e
theorem Gr.new {p : Addr} {o : HO} (h : H p = none) (n : p ∉ μ) : Gr H μ (upd H p o) μ := ⟨⟨[], by simp⟩, fun a u e na _ => ⟨by rw [upd_ne (ne_of_none e h)]; exact e, na⟩, fun a k _ ⟨u, e, q⟩ => ⟨u, by rw [upd_ne (ne_of_none e h)]; exact e, q⟩, fun a o u _ e => by rw [upd_ne (ne_of_none e h)]; exact e⟩
theorem Ok.new {p : Addr} {o : HO} (k : Ok Γ H μ S) (h : H p = none) : Ok Γ (upd H p o) μ S := ⟨k.len, k.nd, fun a ha => let ⟨⟨u, e, q⟩, n⟩ := k.dl a ha; ⟨⟨u, by rw [upd_ne (ne_of_none e h)]; exact e, q⟩, n⟩, fun n a e => by
  obtain ⟨o, ws, xs, us, e1, e2, en, l, r⟩ := k.at_ n a e
  exact ⟨o, ws, xs, us, e1, by rw [upd_ne (ne_of_none e2 h)]; exact e2, en, l, r.gr (Gr.new h (k.ne h))⟩, tabs_upd k.tb fun o e => by rw [h] at e; cases e⟩
/-- any growth that leaves the lists of the store alone -/
theorem Ok.same (k : Ok Γ H μ S) (s : Same H H') : Ok Γ H' μ S ∧ Gr H μ H' μ := by
  have g : Gr H μ H' μ := ⟨⟨[], by simp⟩, fun a o h n _ => ⟨s _ _ h, n⟩, fun a k _ ⟨u, e, q⟩ => ⟨u, s _ _ e, q⟩, fun a o u _ h => s _ _ h⟩
  exact ⟨⟨k.len, k.nd, fun a ha => let ⟨⟨u, e, q⟩, n⟩ := k.dl a ha; ⟨⟨u, s _ _ e, q⟩, n⟩, fun n a e => by
    obtain ⟨o, ws, xs, us, e1, e2, en, l, r⟩ := k.at_ n a e
    exact ⟨o, ws, xs, us, e1, s _ _ e2, en, l, r.gr g⟩, k.tb.ext s⟩, g⟩
theorem Ok.allocO {p : Addr} {o : HO} {xs : List V} {ws us : List W} (k : Ok Γ H μ S) (h : H p = none) (en : Ent p o ws xs us) (l : xs.length ≤ sizeLine) (r : Rps Γ H μ xs us) : Ok Γ (upd H p o) (μ ++ [p]) (S ++ [ws]) ∧ Gr H μ (upd H p o) (μ ++ [p]) := by
  have np := k.ne h
  have g : Gr H μ (upd H p o) (μ ++ [p]) := ⟨⟨[p], rfl⟩, fun a u e na _ => ⟨by rw [upd_ne (ne_of_none e h)]; exact e, by
    rw [List.mem_append, List.mem_singleton]
    rintro (z | z)
    · exact na z
    · exact ne_of_none e h z⟩, fun a k _ ⟨u, e, q⟩ => ⟨u, by rw [upd_ne (ne_of_none e h)]; exact e, q⟩, fun a o u _ e => by rw [upd_ne (ne_of_none e h)]; exact e⟩
  refine ⟨⟨by simp [k.len], ?_, fun a ha => ?_, fun n a e => ?_, tabs_upd k.tb fun o e => by rw [h] at e; cases e⟩, g⟩
  · rw [List.nodup_append]
    refine ⟨k.nd, by simp, fun a ha b hb => ?_⟩
    rw [List.mem_singleton] at hb
    subst hb
    exact fun z => np (z ▸ ha)
  · obtain ⟨⟨u, e, q⟩, n⟩ := k.dl a ha
    exact ⟨⟨u, (g.keep _ _ e n (nt_kd q)).1, q⟩, (g.keep _ _ e n (nt_kd q)).2⟩
  · by_cases hn : n < μ.length
    · rw [List.getElem?_append_left hn] at e
      obtain ⟨o2, ws2, ys, zs, e1, e2, en2, l2, r2⟩ := k.at_ n a e
      exact ⟨o2, ws2, ys, zs, by rw [List.getElem?_append_left (by rw [← k.len]; exact hn)]; exact e1, by rw [upd_ne (ne_of_none e2 h)]; exact e2, en2, l2, r2.gr g⟩
    · rw [List.getElem?_append_right (by omega)] at e
      have hn2 : n = μ.length := by
        have := (List.getElem?_eq_some_iff.mp e).1
        simp at this
        omega
      subst hn2
      simp at e
      subst e
      exact ⟨o, ws, xs, us, by rw [k.len, List.getElem?_append_right (Nat.le_refl _)]; simp, upd_same, en, l, r.gr g⟩
theorem Ok.alloc {p : Addr} {xs : List V} {ws : List W} (k : Ok Γ H μ S) (h : H p = none) (l : xs.length ≤ sizeLine) (r : Rps Γ H μ xs ws) : Ok Γ (upd H p (.lst xs)) (μ ++ [p]) (S ++ [ws]) ∧ Gr H μ (upd H p (.lst xs)) (μ ++ [p]) := k.allocO h (o := .lst xs) ⟨rfl, rfl⟩ l r
theorem Ok.setO {n : Nat} {a : Addr} {o : HO} {xs : List V} {ws us : List W} (k : Ok Γ H μ S) (e : μ[n]? = some a) (hk : Kd_ H a (kd o)) (hf : ∀ q u, H a ≠ some (.frz q u)) (en : Ent a o ws xs us) (l : xs.length ≤ sizeLine) (r : Rps Γ H μ xs us) : Ok Γ (upd H a o) μ (S.set n ws) ∧ Gr H μ (upd H a o) μ := by
  have ma : a ∈ μ := List.mem_of_getElem? e
  have g : Gr H μ (upd H a o) μ := ⟨⟨[], by simp⟩, fun b u q nb _ => ⟨by rw [upd_ne (show b ≠ a from fun z => nb (z ▸ ma))]; exact q, nb⟩, fun b k _ ⟨u, e2, q2⟩ => by
    by_cases hb : b = a
    · subst hb
      obtain ⟨u', e3, q3⟩ := hk
      rw [e2] at e3
      cases e3
      exact ⟨o, upd_same, q3.symm.trans q2⟩
    · exact ⟨u, by rw [upd_ne hb]; exact e2, q2⟩, fun b q u _ e2 => by rw [upd_ne (show b ≠ a from fun z => hf q u (z ▸ e2))]; exact e2⟩
  refine ⟨⟨by rw [List.length_set]; exact k.len, k.nd, fun b hb => let ⟨⟨u, e, q⟩, n⟩ := k.dl b hb; ⟨⟨u, (g.keep _ _ e n (nt_kd q)).1, q⟩, n⟩, fun m b q => ?_, tabs_upd k.tb fun o' e' => ?_⟩, g⟩
  by_cases hm : m = n
  · subst hm
    rw [e] at q
    cases q
    have hl : m < S.length := by rw [← k.len]; exact (List.getElem?_eq_some_iff.mp e).1
    exact ⟨o, ws, xs, us, by rw [List.getElem?_set_self hl], upd_same, en, l, r.gr g⟩
  · obtain ⟨o2, ws2, ys, zs, e1, e2, en2, l2, r2⟩ := k.at_ m b q
    have hb : b ≠ a := fun z => by
      subst z
      obtain ⟨i1, j1⟩ := List.getElem?_eq_some_iff.mp e
      obtain ⟨i2, j2⟩ := List.getElem?_eq_some_iff.mp q
      exact hm ((List.getElem_inj k.nd).mp (j2.trans j1.symm))
    exact ⟨o2, ws2, ys, zs, by rw [List.getElem?_set_ne (Ne.symm hm)]; exact e1, by rw [upd_ne hb]; exact e2, en2, l2, r2.gr g⟩
  · obtain ⟨o2, ws2, ys, zs, _, e2, en2, _⟩ := k.at_ n a e
    rw [e'] at e2
    cases e2
    exact en2.kd
theorem Ok.set {n : Nat} {a : Addr} {xs : List V} {ws : List W} (k : Ok Γ H μ S) (e : μ[n]? = some a) (q : Kd_ H a 0) (l : xs.length ≤ sizeLine) (r : Rps Γ H μ xs ws) : Ok Γ (upd H a (.lst xs)) μ (S.set n ws) ∧ Gr H μ (upd H a (.lst xs)) μ := k.setO e (o := .lst xs) q (fun ob u z => by
  obtain ⟨o, e1, q1⟩ := q
  rw [z] at e1
  cases e1
  exact kdf_ne0 u q1) ⟨rfl, rfl⟩ l r
theorem Ok.lat {n : Nat} {a : Addr} (k : Ok Γ H μ S) (e : μ[n]? = some a) (q : Kd_ H a 0) : ∃ (xs : List V) (ws : List W), S[n]? = some ws ∧ H a = some (.lst xs) ∧ xs.length ≤ sizeLine ∧ Rps Γ H μ xs ws := by
  obtain ⟨o, ws, xs, us, e1, e2, en, l, r⟩ := k.at_ n a e
  obtain ⟨o', e3, q⟩ := q
  rw [e2] at e3
  cases e3
  cases o <;> first | (cases q; done) | (rename_i φ; rcases kd_ext φ with z | z <;> (rw [z] at q; cases q)) | (exact absurd q (kdf_ne0 _)) | skip
  obtain ⟨rfl, rfl⟩ := en
  exact ⟨_, _, e1, e2, l, r⟩
/-- whether a dict stands as it is, or is being walked -/
def Lk (H : Hp) (a : Addr) (u : HO) (pre : List W) : Prop := (pre = [] ∧ H a = some u) ∨ (pre = [mkW] ∧ ∃ ob, H a = some (.frz ob u))
theorem Lk.rd {a : Addr} {u : HO} {pre : List W} (h : Lk H a u pre) : Rd H a u := h.elim (fun z => .inl z.2) fun z => .inr z.2
theorem Lk.nil {a : Addr} {u : HO} (h : Lk H a u []) : H a = some u := by
  rcases h with z | ⟨z, _⟩
  · exact z.2
  · cases z
end
/-! ### a list that is still being made -/
theorem ne_mem {l : List Addr} {a D : Addr} (hD : D ∈ l) (m : a ∉ l) : a ≠ D := fun z => m (by rw [z]; exact hD)
section
variable {Γ : Gm} {H : Hp} {μ : List Addr} {S : Store} {D : Addr} {o : HO}
abbrev Gm.und (Γ : Gm) (D : Addr) : Gm := ⟨Γ.K, Γ.mg, D :: Γ.δ⟩
theorem kd_at {n k : Nat} {a : Addr} (hμ : D ∉ μ) (h : μ[n]? = some a) (q : Kd_ H a k) : Kd_ (upd H D o) a k := let ⟨u, e, z⟩ := q; ⟨u, by rw [upd_ne (show a ≠ D from fun y => hμ (y ▸ List.mem_of_getElem? h))]; exact e, z⟩
theorem kd_new {k : Nat} {a : Addr} (n : H D = none) (q : Kd_ H a k) : Kd_ (upd H D o) a k := let ⟨u, e, z⟩ := q; ⟨u, by rw [upd_ne (ne_of_none e n)]; exact e, z⟩
mutual
theorem Rp.at_ (hD : D ∈ Γ.δ) (hμ : D ∉ μ) : ∀ {v : V} {w : W}, Rp Γ H μ v w → Rp Γ (upd H D o) μ v w
  | _, _, .non => .non
  | _, _, .bl b => .bl b
  | _, _, .int i => .int i
  | _, _, .str x => .str x
  | _, _, .tup h l r => .tup (h.imp (fun ⟨⟨ob, hd, e⟩, n, m⟩ => ⟨⟨ob, hd, by rw [upd_ne (ne_mem hD m)]; exact e⟩, n, m⟩) id) l (Rps.at_ hD hμ r)
  | _, _, .cl h n m l r => .cl (by rw [upd_ne (ne_mem hD m)]; exact h) n m l (Rps.at_ hD hμ r)
  | _, _, .sc h r => .sc (h.imp (fun ⟨e, n, m⟩ => ⟨e.imp (fun e => by rw [upd_ne (ne_mem hD m)]; exact e) (fun ⟨ob, e⟩ => ⟨ob, by rw [upd_ne (ne_mem hD m)]; exact e⟩), n, m⟩) id) (Rps.at_ hD hμ r)
  | _, _, .lst h q => .lst h (kd_at hμ h q)
  | _, _, .dct h q => .dct h (kd_at hμ h q)
  | _, _, .dtt h q => .dtt h (kd_at hμ h q)
  | _, _, .ins h q m => .ins h (kd_at hμ h q) m
  | _, _, .exn m h n z hd nd zd l r => .exn m (by rw [upd_ne (ne_mem hD z)]; exact h) n z (by rw [upd_ne (ne_mem hD zd)]; exact hd) nd zd l (Rps.at_ hD hμ r)
  | _, _, .exn0 m h n z => .exn0 m (by rw [upd_ne (ne_mem hD z)]; exact h) n z
  | _, _, .lam h n z r => .lam (by rw [upd_ne (ne_mem hD z)]; exact h) n z (Rps.at_ hD hμ r)
theorem Rps.at_ (hD : D ∈ Γ.δ) (hμ : D ∉ μ) : ∀ {vs : List V} {ws : List W}, Rps Γ H μ vs ws → Rps Γ (upd H D o) μ vs ws
  | _, _, .nil => .nil
  | _, _, .cons a b => .cons (Rp.at_ hD hμ a) (Rps.at_ hD hμ b)
end
mutual
theorem Rp.out : ∀ {v : V} {w : W}, Rp (Γ.und D) H μ v w → Rp Γ H μ v w
  | _, _, .non => .non
  | _, _, .bl b => .bl b
  | _, _, .int i => .int i
  | _, _, .str x => .str x
  | _, _, .tup h l r => .tup (h.imp (fun ⟨e, n, m⟩ => ⟨e, n, fun z => m (List.mem_cons_of_mem _ z)⟩) id) l (Rps.out r)
  | _, _, .cl h n m l r => .cl h n (fun z => m (List.mem_cons_of_mem _ z)) l (Rps.out r)
  | _, _, .sc h r => .sc (h.imp (fun ⟨e, n, m⟩ => ⟨e, n, fun z => m (List.mem_cons_of_mem _ z)⟩) id) (Rps.out r)
  | _, _, .lst h q => .lst h q
  | _, _, .dct h q => .dct h q
  | _, _, .dtt h q => .dtt h q
  | _, _, .ins h q m => .ins h q m
  | _, _, .exn m h n z hd nd zd l r => .exn m h n (fun y => z (List.mem_cons_of_mem _ y)) hd nd (fun y => zd (List.mem_cons_of_mem _ y)) l (Rps.out r)
  | _, _, .exn0 m h n z => .exn0 m h n (fun y => z (List.mem_cons_of_mem _ y))
  | _, _, .lam h n z r => .lam h n (fun y => z (List.mem_cons_of_mem _ y)) (Rps.out r)
theorem Rps.out : ∀ {vs : List V} {ws : List W}, Rps (Γ.und D) H μ vs ws → Rps Γ H μ vs ws
  | _, _, .nil => .nil
  | _, _, .cons a b => .cons (Rp.out a) (Rps.out b)
end
mutual
theorem Rp.into (n : H D = none) : ∀ {v : V} {w : W}, Rp Γ H μ v w → Rp (Γ.und D) (upd H D o) μ v w
  | _, _, .non => .non
  | _, _, .bl b => .bl b
  | _, _, .int i => .int i
  | _, _, .str x => .str x
  | _, _, .tup h l r => .tup (h.imp (fun ⟨⟨ob, hd, e⟩, k, m⟩ => ⟨⟨ob, hd, by rw [upd_ne (ne_of_none e n)]; exact e⟩, k, fun z => (List.mem_cons.mp z).elim (ne_of_none e n) m⟩) id) l (Rps.into n r)
  | _, _, .cl h k m l r => .cl (by rw [upd_ne (ne_of_none h n)]; exact h) k (fun z => (List.mem_cons.mp z).elim (ne_of_none h n) m) l (Rps.into n r)
  | _, _, .sc h r => .sc (h.imp (fun ⟨e, k, m⟩ => by
      rcases e with e | ⟨ob, e⟩
      · exact ⟨.inl (by rw [upd_ne (ne_of_none e n)]; exact e), k, fun z => (List.mem_cons.mp z).elim (ne_of_none e n) m⟩
      · exact ⟨.inr ⟨ob, by rw [upd_ne (ne_of_none e n)]; exact e⟩, k, fun z => (List.mem_cons.mp z).elim (ne_of_none e n) m⟩) id) (Rps.into n r)
  | _, _, .lst h q => .lst h (kd_new n q)
  | _, _, .dct h q => .dct h (kd_new n q)
  | _, _, .dtt h q => .dtt h (kd_new n q)
  | _, _, .ins h q m => .ins h (kd_new n q) m
  | _, _, .exn m h k z hd nd zd l r => .exn m (by rw [upd_ne (ne_of_none h n)]; exact h) k (fun y => (List.mem_cons.mp y).elim (ne_of_none h n) z) (by rw [upd_ne (ne_of_none hd n)]; exact hd) nd (fun y => (List.mem_cons.mp y).elim (ne_of_none hd n) zd) l (Rps.into n r)
  | _, _, .exn0 m h k z => .exn0 m (by rw [upd_ne (ne_of_none h n)]; exact h) k (fun y => (List.mem_cons.mp y).elim (ne_of_none h n) z)
  | _, _, .lam h k z r => .lam (by rw [upd_ne (ne_of_none h n)]; exact h) k (fun y => (List.mem_cons.mp y).elim (ne_of_none h n) z) (Rps.into n r)
theorem Rps.into (n : H D = none) : ∀ {vs : List V} {ws : List W}, Rps Γ H μ vs ws → Rps (Γ.und D) (upd H D o) μ vs ws
  | _, _, .nil => .nil
  | _, _, .cons a b => .cons (Rp.into n a) (Rps.into n b)
end
theorem Ok.at_D (hD : D ∈ Γ.δ) (k : Ok Γ H μ S) (ho : kd o ≠ 3 := by exact fun z => nomatch z) : Ok Γ (upd H D o) μ S := ⟨k.len, k.nd, fun a ha => ⟨by
    by_cases e : a = D
    · exact ⟨o, by rw [e, upd_same], ho⟩
    · obtain ⟨⟨u, q, q2⟩, _⟩ := k.dl a ha
      exact ⟨u, by rw [upd_ne e]; exact q, q2⟩, (k.dl a ha).2⟩, fun n a e => by
  obtain ⟨u, ws, xs, us, e1, e2, en, l, r⟩ := k.at_ n a e
  exact ⟨u, ws, xs, us, e1, by rw [upd_ne (Ne.symm (ne_mem (List.mem_of_getElem? e) (k.dl D hD).2))]; exact e2, en, l, r.at_ hD (k.dl D hD).2⟩, tabs_upd k.tb fun o' e' => by
  obtain ⟨⟨u, q, q2⟩, _⟩ := k.dl D hD
  rw [e'] at q
  cases q
  exact q2⟩
theorem Ok.into (n : H D = none) (k : Ok Γ H μ S) (ho : kd o ≠ 3 := by exact fun z => nomatch z) : Ok (Γ.und D) (upd H D o) μ S := ⟨k.len, k.nd, fun a ha => by
    rcases List.mem_cons.mp ha with e | e
    · subst e
      exact ⟨⟨o, upd_same, ho⟩, k.ne n⟩
    · obtain ⟨⟨u, q, q2⟩, z⟩ := k.dl a e
      exact ⟨⟨u, by rw [upd_ne (ne_of_none q n)]; exact q, q2⟩, z⟩, fun m a e => by
  obtain ⟨u, ws, xs, us, e1, e2, en, l, r⟩ := k.at_ m a e
  exact ⟨u, ws, xs, us, e1, by rw [upd_ne (ne_of_none e2 n)]; exact e2, en, l, r.into n⟩, tabs_upd k.tb fun o' e' => by rw [n] at e'; cases e'⟩
theorem Ok.out (k : Ok (Γ.und D) H μ S) : Ok Γ H μ S := ⟨k.len, k.nd, fun a ha => k.dl a (List.mem_cons_of_mem _ ha), fun m a e => by
  obtain ⟨u, ws, xs, us, e1, e2, en, l, r⟩ := k.at_ m a e
  exact ⟨u, ws, xs, us, e1, e2, en, l, r.out⟩, k.tb⟩
end
/-! ### slots -/
def Rσ (Γ : Gm) (H : Hp) (μ : List Addr) (σ : L2.St) (ρ : En) : Prop := σ.length = ρ.length ∧ ∀ (i : Nat) (w : W), ρ[i]? = some (some w) → ∃ v, σ[i]? = some (some v) ∧ Rp Γ H μ v w
section
variable {Γ : Gm} {H H' H'' : Hp} {μ μ' μ'' : List Addr} {S S' : Store} {σ : L2.St} {ρ : En}
theorem rσ_gr (g : Gr H μ H' μ') (h : Rσ Γ H μ σ ρ) : Rσ Γ H' μ' σ ρ := ⟨h.1, fun i w e => let ⟨v, e1, r⟩ := h.2 i w e; ⟨v, e1, r.gr g⟩⟩
theorem rσ_set {i : Nat} {v : V} {w : W} (h : Rσ Γ H μ σ ρ) (r : Rp Γ H μ v w) : Rσ Γ H μ (σ.set i (some v)) (ρ.set i (some w)) := ⟨by rw [List.length_set, List.length_set]; exact h.1, fun j x e => by
  by_cases hj : i = j
  · subst hj
    by_cases hi : i < ρ.length
    · rw [List.getElem?_set_self hi] at e
      cases e
      exact ⟨v, by rw [List.getElem?_set_self (by rw [h.1]; exact hi)], r⟩
    · rw [List.getElem?_eq_none (by rw [List.length_set]; omega)] at e
      cases e
  · rw [List.getElem?_set_ne hj] at e ⊢
    exact h.2 j x e⟩
theorem rσ_wipe {vs : List Nat} (h : Rσ Γ H μ σ ρ) (hn : ∀ i ∈ vs, ∀ w, ρ[i]? ≠ some (some w)) : Rσ Γ H μ (wipe σ vs) ρ := ⟨by rw [wipe_length]; exact h.1, fun i w e => by
  obtain ⟨v, e1, r⟩ := h.2 i w e
  refine ⟨v, ?_, r⟩
  have hi : i ∉ vs := fun z => hn i z w e
  clear hn
  induction vs with
  | nil => exact e1
  | cons x xs ih =>
    unfold wipe
    rw [List.getElem?_set_ne (fun z => hi (by simp [z]))]
    exact ih (fun z => hi (by simp [z]))⟩
/-- the slots of a comprehension's own names forgotten -/
def wipeW (ρ : En) : List Nat → En
  | [] => ρ
  | v :: vs => (wipeW ρ vs).set v none
theorem wipeW_some {ρ : En} {i : Nat} {x : W} : ∀ {vs : List Nat}, (wipeW ρ vs)[i]? = some (some x) → ρ[i]? = some (some x) ∧ i ∉ vs
  | [], h => ⟨h, by simp⟩
  | v :: vs, h => by
    unfold wipeW at h
    by_cases hi : v = i
    · subst hi
      by_cases hv : v < (wipeW ρ vs).length
      · rw [List.getElem?_set_self hv] at h; cases h
      · rw [List.getElem?_eq_none (by simpa using hv)] at h; cases h
    · rw [List.getElem?_set_ne hi] at h
      obtain ⟨h1, h2⟩ := wipeW_some h
      exact ⟨h1, by simp only [List.mem_cons, not_or]; exact ⟨fun e => hi e.symm, h2⟩⟩
theorem wipeW_len : ∀ vs : List Nat, (wipeW ρ vs).length = ρ.length
  | [] => rfl
  | v :: vs => by unfold wipeW; rw [List.length_set, wipeW_len vs]
theorem rσ_wipeW {vs : List Nat} (h : Rσ Γ H μ σ ρ) : Rσ Γ H μ (wipe σ vs) (wipeW ρ vs) := by
  have h2 : Rσ Γ H μ σ (wipeW ρ vs) := ⟨by rw [wipeW_len]; exact h.1, fun i w e => h.2 i w (wipeW_some e).1⟩
  exact rσ_wipe h2 fun i hi w e => (wipeW_some e).2 hi
end
end Den

namespace Den
open PySem PySem.Spec PyProof.Rows L2 Bal
/-! ### what is wanted behind a computation -/
def RpX (Γ : Gm) (H : Hp) (μ : List Addr) (cls : Value) (d : Option Addr) (c f : Str) (ws : List W) : Prop :=
  ∃ C, Γ.mg c = some (.ref C) ∧ cls = .ref C ∧ ((d = none ∧ ws = []) ∨ ∃ dd xs, d = some dd ∧ H dd = some (.xd (xs.map fun x => (f, x))) ∧ dd ∉ μ ∧ dd ∉ Γ.δ ∧ xs.length ≤ 1 ∧ Rps Γ H μ xs ws)
theorem RpX.gr {Γ : Gm} {H H' : Hp} {μ μ' : List Addr} {cls : Value} {d : Option Addr} {c f : Str} {ws : List W} (g : Gr H μ H' μ') (h : RpX Γ H μ cls d c f ws) : RpX Γ H' μ' cls d c f ws := by
  obtain ⟨C, e, e1, h | ⟨dd, xs, e2, hd, n, nn, l, r⟩⟩ := h
  · exact ⟨C, e, e1, .inl h⟩
  · exact ⟨C, e, e1, .inr ⟨dd, xs, e2, (g.keep _ _ hd n).1, (g.keep _ _ hd n).2, nn, l, r.gr g⟩⟩
def Res {α : Type} (Γ : Gm) (E : XK) (H : Hp) (μ : List Addr) (o : Out α) (q : α → Hp → List Addr → Store → Prop) : Prop := match o with
  | .ok a S' => ∀ H' μ', Gr H μ H' μ' → Ok Γ H' μ' S' → q a H' μ' S'
  | .err c f ws S' => ∀ H' μ', Gr H μ H' μ' → Ok Γ H' μ' S' → ∀ cls d, RpX Γ H' μ' cls d c f ws → E cls d H'
  | .bad => False
section
variable {α β : Type} {Γ : Gm} {E : XK} {H H' : Hp} {μ μ' : List Addr} {S S' : Store}
theorem Res.gr {o : Out α} {q : α → Hp → List Addr → Store → Prop} (g : Gr H μ H' μ') (h : Res Γ E H μ o q) : Res Γ E H' μ' o q := by
  cases o with
  | ok a S' => exact fun H2 μ2 g2 k => h H2 μ2 (g.trans g2) k
  | err c f ws S' => exact fun H2 μ2 g2 k => h H2 μ2 (g.trans g2) k
  | bad => exact h
theorem Res.step {m : Mo α} {f : α → Mo β} {q : β → Hp → List Addr → Store → Prop} {q' : α → Hp → List Addr → Store → Prop} (h : Res Γ E H μ (bnd m f S) q)
    (n : ∀ a S' H' μ', Gr H μ H' μ' → Ok Γ H' μ' S' → Res Γ E H' μ' (f a S') q → q' a H' μ' S') : Res Γ E H μ (m S) q' := by
  unfold bnd at h
  cases e : m S with
  | ok a S' =>
    rw [e] at h
    exact fun H' μ' g k => n a S' H' μ' g k (Res.gr g h)
  | err c g ws S' =>
    rw [e] at h
    exact h
  | bad =>
    rw [e] at h
    exact h
theorem Res.now {a : α} {q : α → Hp → List Addr → Store → Prop} (k : Ok Γ H μ S) (h : Res Γ E H μ (.ok a S) q) : q a H μ S := h H μ Gr.refl k
end
abbrev DE := En → Mo W
abbrev DT := En → Mo Bool
abbrev DA := En → Mo (List W)
def tOf (K : PySem.W.Frag) (mg : Str → Option Value) (E : L2.St → XK) (d : DE) : TE := fun σ H Q => ∃ δ μ S ρ, Ok ⟨K, mg, δ⟩ H μ S ∧ Rσ ⟨K, mg, δ⟩ H μ σ ρ ∧ Res ⟨K, mg, δ⟩ (E σ) H μ (d ρ S) fun w H' μ' _ => ∀ v, Rp ⟨K, mg, δ⟩ H' μ' v w → Q v H'
def ttOf (K : PySem.W.Frag) (mg : Str → Option Value) (E : L2.St → XK) (d : DT) : TT := fun σ H Q => ∃ δ μ S ρ, Ok ⟨K, mg, δ⟩ H μ S ∧ Rσ ⟨K, mg, δ⟩ H μ σ ρ ∧ Res ⟨K, mg, δ⟩ (E σ) H μ (d ρ S) fun b H' _ _ => Q b H'
def taOf (K : PySem.W.Frag) (mg : Str → Option Value) (E : L2.St → XK) (d : DA) : TA := fun σ H Q => ∃ δ μ S ρ, Ok ⟨K, mg, δ⟩ H μ S ∧ Rσ ⟨K, mg, δ⟩ H μ σ ρ ∧ Res ⟨K, mg, δ⟩ (E σ) H μ (d ρ S) fun ws H' μ' _ => ∀ vs, Rps ⟨K, mg, δ⟩ H' μ' vs ws → Q vs H'
abbrev PD (X : Cx) (E : L2.St → XK) (e : Expr) (d : DE) : Prop := PE X e (tOf X.K X.mg E d)
abbrev PDT (X : Cx) (E : L2.St → XK) (e : Expr) (d : DT) : Prop := PT X e (ttOf X.K X.mg E d)
abbrev PDA (X : Cx) (E : L2.St → XK) (es : List Expr) (d : DA) : Prop := PA X es (taOf X.K X.mg E d)
theorem pt_of {X : Cx} {e : Expr} {t t' : TT} (h : PT X e t) (f : ∀ σ H Q, t' σ H Q → t σ H Q) : PT X e t' := ⟨fun pins s σ H Q I q => h.run pins s σ H Q I (f σ H Q q)⟩
theorem pw_of {X : Cx} {e : Expr} {t t' : TT} (h : PW X e t) (f : ∀ σ H Q, t' σ H Q → t σ H Q) : PW X e t' := ⟨fun wh pins s σ H Q I q => h.run wh pins s σ H Q I (f σ H Q q)⟩
section
variable {X : Cx} {E : L2.St → XK} {a b c : Expr} {pos : Pos}
/-! ### names, constants -/
def dVar (i : Nat) : DE := fun ρ S => match ρ[i]? with
  | some (some w) => .ok w S
  | _ => .bad
def dC (w : W) : DE := fun _ S => .ok w S
theorem de_var (i : Nat) {x : Str} {pos : Pos} (hN : X.N[i]? = some x := by rfl) (hv : Vis X.env.scope x := by first | exact Or.inl rfl | exact Or.inr (Or.inl rfl) | exact Or.inr (Or.inr rfl)) (hd : (x == ("__debug__" : Str)) = false := by decide)
    (hcd : (x == ("__classdict__" : Str)) = false := by decide) : PD X E (.Name x pos) (dVar i) := pe_of (pv i hN hv hd hcd) fun σ H Q ⟨δ, μ, S, ρ, k, s, h⟩ => by
  unfold dVar at h
  cases e : ρ[i]? with
  | none => rw [e] at h; exact h.elim
  | some o =>
    rw [e] at h
    cases o with
    | none => exact h.elim
    | some w =>
      obtain ⟨v, e1, r⟩ := s.2 i w e
      exact ⟨v, e1, Res.now k h v r⟩
theorem de_int {i j} : PD X E (.Constant (.int i) j pos) (dC (.int i)) := pe_of pe_int fun σ H Q ⟨δ, μ, S, ρ, k, s, h⟩ => Res.now k h _ (.int i)
theorem de_bl {b j} : PD X E (.Constant (.bool b) j pos) (dC (.bl b)) := pe_of pe_bl fun σ H Q ⟨δ, μ, S, ρ, k, s, h⟩ => Res.now k h _ (.bl b)
theorem de_non {j} : PD X E (.Constant .none j pos) (dC .non) := pe_of pe_non fun σ H Q ⟨δ, μ, S, ρ, k, s, h⟩ => Res.now k h _ .non
theorem de_str {x j} : PD X E (.Constant (.str x) j pos) (dC (.str x)) := pe_of pe_str fun σ H Q ⟨δ, μ, S, ρ, k, s, h⟩ => Res.now k h _ (.str x)
theorem de_glob {x : Str} {v : V} {w : W} {u : Value} (hg : Gl X x) (hm : X.mg x = some u) (r : RelV v u) (rp : ∀ δ H μ, Rp ⟨X.K, X.mg, δ⟩ H μ v w) (hd : (x == ("__debug__" : Str)) = false := by decide) : PD X E (.Name x pos) (dC w) := pe_of (pe_glob hg hm r hd) fun σ H Q ⟨δ, μ, S, ρ, k, s, h⟩ => Res.now k h _ (rp δ H μ)
/-! ### operations that read -/
def rdS (g : Store → Option W) : Mo W := fun S => match g S with
  | some w => .ok w S
  | none => .bad
/-- what a two-place operation tells, by values -/
def Op2 (K : PySem.W.Frag) (mg : Str → Option Value) (r : R2) (f : Store → W → W → Option W) : Prop := ∀ {δ : List Addr} {H : Hp} {μ : List Addr} {S : Store} {v u : V} {x y w : W} {Q : VK}, Ok ⟨K, mg, δ⟩ H μ S → Rp ⟨K, mg, δ⟩ H μ v x → Rp ⟨K, mg, δ⟩ H μ u y → f S x y = some w →
  (∀ z H', Gr H μ H' μ → Ok ⟨K, mg, δ⟩ H' μ S → Rp ⟨K, mg, δ⟩ H' μ z w → Q z H') → r v u H Q
def Op1 (K : PySem.W.Frag) (mg : Str → Option Value) (r : V → Hp → VK → Prop) (f : Store → W → Option W) : Prop := ∀ {δ : List Addr} {H : Hp} {μ : List Addr} {S : Store} {v : V} {x w : W} {Q : VK}, Ok ⟨K, mg, δ⟩ H μ S → Rp ⟨K, mg, δ⟩ H μ v x → f S x = some w →
  (∀ z H', Gr H μ H' μ → Ok ⟨K, mg, δ⟩ H' μ S → Rp ⟨K, mg, δ⟩ H' μ z w → Q z H') → r v H Q
def OpN (K : PySem.W.Frag) (mg : Str → Option Value) (r : List V → Hp → VK → Prop) (f : Store → List W → Option W) : Prop := ∀ {δ : List Addr} {H : Hp} {μ : List Addr} {S : Store} {vs : List V} {xs : List W} {w : W} {Q : VK}, Ok ⟨K, mg, δ⟩ H μ S → Rps ⟨K, mg, δ⟩ H μ vs xs → f S xs = some w →
  (∀ z H', Gr H μ H' μ → Ok ⟨K, mg, δ⟩ H' μ S → Rp ⟨K, mg, δ⟩ H' μ z w → Q z H') → r vs H Q
theorem rd_ok {Γ : Gm} {E : XK} {H : Hp} {μ : List Addr} {S : Store} {g : Store → Option W} {Q : VK} (h : Res Γ E H μ (rdS g S) fun w H' μ' _ => ∀ v, Rp Γ H' μ' v w → Q v H') :
    ∃ w, g S = some w ∧ ∀ z H', Gr H μ H' μ → Ok Γ H' μ S → Rp Γ H' μ z w → Q z H' := by
  unfold rdS at h
  cases e : g S with
  | none => rw [e] at h; exact h.elim
  | some w => rw [e] at h; exact ⟨w, rfl, fun z H' gr k r => h H' μ gr k z r⟩
def dBin (f : Store → W → W → Option W) (da db : DE) : DE := fun ρ => bnd (da ρ) fun x => bnd (db ρ) fun y => rdS fun S => f S x y
def dUn (f : Store → W → Option W) (da : DE) : DE := fun ρ => bnd (da ρ) fun x => rdS fun S => f S x
theorem bin_ok {K : PySem.W.Frag} {mg : Str → Option Value} {r : R2} {f : Store → W → W → Option W} (hf : Op2 K mg r f) {da db : DE} {σ : L2.St} {H : Hp} {Q : VK} (h : tOf K mg E (dBin f da db) σ H Q) : tOp r (tOf K mg E da) (tOf K mg E db) σ H Q := by
  obtain ⟨δ, μ, S, ρ, k, s, h⟩ := h
  refine ⟨δ, μ, S, ρ, k, s, Res.step h fun x S1 H1 μ1 g1 k1 h1 v rv => ⟨δ, μ1, S1, ρ, k1, rσ_gr g1 s, Res.step h1 fun y S2 H2 μ2 g2 k2 h2 u ru => ?_⟩⟩
  obtain ⟨w, e, q⟩ := rd_ok h2
  exact hf k2 (rv.gr g2) ru e q
variable {da db dc : DE}
theorem de_bin {op : Operator} {r : R2} {f : Store → W → W → Option W} (ho : OpR X (binaryOp op) r) (hf : Op2 X.K X.mg r f) (ha : PD X E a da) (hb : PD X E b db) : PD X E (.BinOp a op b pos) (dBin f da db) := pe_of (pe_op ho ha hb) fun _ _ _ h => bin_ok hf h
theorem de_cmp {op : CmpOp} {r : R2} {f : Store → W → W → Option W} (ho : OpR X (compareOp op) r) (hf : Op2 X.K X.mg r f) (ha : PD X E a da) (hb : PD X E b db) (hm : behindInMarks op b = false := by first | exact nomark _ | rfl) : PD X E (.Compare a [op] [b] pos) (dBin f da db) := pe_of (pe_cmpR ho ha hb hm) fun _ _ _ h => bin_ok hf h
theorem de_ix {r : R2} {f : Store → W → W → Option W} (ho : IxR X r) (hf : Op2 X.K X.mg r f) (ha : PD X E a da) (hb : PD X E b db) (hs : PlainIx b := by exact fun _ _ => rfl) : PD X E (.Subscript a b pos) (dBin f da db) := pe_of (pe_ix ho ha hb hs) fun _ _ _ h => bin_ok hf h
theorem de_un {op : UnaryOp} {r : V → Hp → VK → Prop} {f : Store → W → Option W} (ho : UnR X (unaryOp op) r) (hf : Op1 X.K X.mg r f) (ha : PD X E a da) : PD X E (.UnaryOp op a pos) (dUn f da) := pe_of (pe_un ho ha) fun σ H Q ⟨δ, μ, S, ρ, k, s, h⟩ =>
  ⟨δ, μ, S, ρ, k, s, Res.step h fun x S1 H1 μ1 g1 k1 h1 v rv => let ⟨w, e, q⟩ := rd_ok h1; hf k1 rv e q⟩
/-! ### tests -/
def toB : W → Mo Bool
  | .bl b => ret b
  | _ => bad
def dTst (d : DE) : DT := fun ρ => bnd (d ρ) toB
theorem tst_ok {K : PySem.W.Frag} {mg : Str → Option Value} {d : DE} {σ : L2.St} {H : Hp} {Q : Bool → Hp → Prop} (h : ttOf K mg E (dTst d) σ H Q) : tOf K mg E d σ H fun x H1 => ∃ c, x = .bl c ∧ Q c H1 := by
  obtain ⟨δ, μ, S, ρ, k, s, h⟩ := h
  refine ⟨δ, μ, S, ρ, k, s, Res.step h fun w S1 H1 μ1 g1 k1 h1 v rv => ?_⟩
  cases rv <;> first | exact h1.elim | exact ⟨_, rfl, Res.now k1 h1⟩
/-- an expression as a test -/
theorem dt_val {e : Expr} {d : DE} (h : PD X E e d) (he : ∀ whole, isTrue e X.env whole = (do let v ← whole; standAt e.pos; holding [v] (truthy v)) := by intro _; rfl) : PDT X E e (dTst d) := pt_of (pt_val h he) fun _ _ _ h => tst_ok h
theorem dt_cmp {op : CmpOp} {r : R2} {f : Store → W → W → Option W} (ho : OpR X (compareOp op) r) (hf : Op2 X.K X.mg r f) (ha : PD X E a da) (hb : PD X E b db) (hm : behindInMarks op b = false := by first | exact nomark _ | rfl) : PDT X E (.Compare a [op] [b] pos) (dTst (dBin f da db)) :=
  pt_of (pt_cmpR ho ha hb hm) fun _ _ _ h => bin_ok hf (tst_ok h)
def dNotT (d : DT) : DT := fun ρ => bnd (d ρ) fun b => ret (!b)
theorem dt_not {d : DT} (h : PDT X E a d) : PDT X E (.UnaryOp .Not a pos) (dNotT d) := pt_of (pt_not h) fun σ H Q ⟨δ, μ, S, ρ, k, s, h⟩ => ⟨δ, μ, S, ρ, k, s, Res.step h fun w S1 H1 μ1 g1 k1 h1 => Res.now k1 h1⟩
def dAndT (d e : DT) : DT := fun ρ => bnd (d ρ) fun b => if b = true then e ρ else ret false
def dOrT (d e : DT) : DT := fun ρ => bnd (d ρ) fun b => if b = true then ret true else e ρ
variable {rest : List Expr} {tA tB : DT}
abbrev PDW (X : Cx) (E : L2.St → XK) (e : Expr) (d : DT) : Prop := PW X e (ttOf X.K X.mg E d)
theorem dw_and1 (ha : PDT X E a tA) : PDW X E (.BoolOp .And [a] pos) tA := pw_and1 ha
theorem dw_or1 (ha : PDT X E a tA) : PDW X E (.BoolOp .Or [a] pos) tA := pw_or1 ha
theorem dw_and (ha : PDT X E a tA) (hb : PDW X E (.BoolOp .And (b :: rest) pos) tB) : PDW X E (.BoolOp .And (a :: b :: rest) pos) (dAndT tA tB) := pw_of (pw_and ha hb) fun σ H Q ⟨δ, μ, S, ρ, k, s, h⟩ =>
  ⟨δ, μ, S, ρ, k, s, Res.step h fun w S1 H1 μ1 g1 k1 h1 => by
    cases w with
    | true => rw [if_pos rfl] at h1 ⊢; exact ⟨δ, μ1, S1, ρ, k1, rσ_gr g1 s, h1⟩
    | false => rw [if_neg (by decide)] at h1 ⊢; exact Res.now k1 h1⟩
theorem dw_or (ha : PDT X E a tA) (hb : PDW X E (.BoolOp .Or (b :: rest) pos) tB) : PDW X E (.BoolOp .Or (a :: b :: rest) pos) (dOrT tA tB) := pw_of (pw_or ha hb) fun σ H Q ⟨δ, μ, S, ρ, k, s, h⟩ =>
  ⟨δ, μ, S, ρ, k, s, Res.step h fun w S1 H1 μ1 g1 k1 h1 => by
    cases w with
    | true => rw [if_pos rfl] at h1 ⊢; exact Res.now k1 h1
    | false => rw [if_neg (by decide)] at h1 ⊢; exact ⟨δ, μ1, S1, ρ, k1, rσ_gr g1 s, h1⟩⟩
/-- .. as values -/
def dAnd (d e : DE) : DE := fun ρ => bnd (dTst d ρ) fun b => if b = true then e ρ else ret (.bl false)
def dNot (d : DE) : DE := fun ρ => bnd (dTst d ρ) fun b => ret (.bl (!b))
theorem tst_step {β : Type} {Γ : Gm} {E : XK} {d : DE} {ρ : En} {S : Store} {H : Hp} {μ : List Addr} {f : Bool → Mo β} {q : β → Hp → List Addr → Store → Prop} {q' : W → Hp → List Addr → Store → Prop} (h : Res Γ E H μ (bnd (dTst d ρ) f S) q)
    (n : ∀ b S' H' μ', Gr H μ H' μ' → Ok Γ H' μ' S' → Res Γ E H' μ' (f b S') q → q' (.bl b) H' μ' S') : Res Γ E H μ (d ρ S) q' := by
  refine Res.step (Res.step h (q' := fun b H' μ' S' => q' (.bl b) H' μ' S') fun b S1 H1 μ1 g1 k1 h1 => n b S1 H1 μ1 g1 k1 h1) fun w S1 H1 μ1 g1 k1 h1 => ?_
  cases w <;> first | exact h1.elim | exact h1 H1 μ1 Gr.refl k1
theorem de_one {op} {d : DE} (h : PD X E a d) : PD X E (.BoolOp op [a] pos) d := pe_one h
theorem de_and (ha : PD X E a da) (hb : PD X E (.BoolOp .And (b :: rest) pos) db) : PD X E (.BoolOp .And (a :: b :: rest) pos) (dAnd da db) := pe_of (pe_and ha hb) fun σ H Q ⟨δ, μ, S, ρ, k, s, h⟩ =>
  ⟨δ, μ, S, ρ, k, s, tst_step h fun w S1 H1 μ1 g1 k1 h1 v rv => by
    cases rv
    refine ⟨w, rfl, ?_⟩
    cases w with
    | true => rw [if_pos rfl] at h1 ⊢; exact ⟨δ, μ1, S1, ρ, k1, rσ_gr g1 s, h1⟩
    | false => rw [if_neg (by decide)] at h1 ⊢; exact Res.now k1 h1 _ (.bl false)⟩
theorem de_not (ha : PD X E a da) : PD X E (.UnaryOp .Not a pos) (dNot da) := pe_of (pe_not ha) fun σ H Q ⟨δ, μ, S, ρ, k, s, h⟩ =>
  ⟨δ, μ, S, ρ, k, s, tst_step h fun w S1 H1 μ1 g1 k1 h1 v rv => by
    cases rv
    exact ⟨w, rfl, Res.now k1 h1 _ (.bl (!w))⟩⟩
def dIf (t : DT) (d e : DE) : DE := fun ρ => bnd (t ρ) fun b => if b = true then d ρ else e ρ
theorem de_if {t : DT} (hc : PDT X E c t) (ha : PD X E a da) (hb : PD X E b db) : PD X E (.IfExp c a b pos) (dIf t da db) := pe_of (pe_ifExp hc ha hb) fun σ H Q ⟨δ, μ, S, ρ, k, s, h⟩ =>
  ⟨δ, μ, S, ρ, k, s, Res.step h fun w S1 H1 μ1 g1 k1 h1 => by
    cases w with
    | true => rw [if_pos rfl] at h1 ⊢; exact ⟨δ, μ1, S1, ρ, k1, rσ_gr g1 s, h1⟩
    | false => rw [if_neg (by decide)] at h1 ⊢; exact ⟨δ, μ1, S1, ρ, k1, rσ_gr g1 s, h1⟩⟩
/-! ### chains -/
def dChain (f g : Store → W → W → Option W) (da db dc : DE) : DE := fun ρ => bnd (da ρ) fun x => bnd (db ρ) fun y => bnd (bnd (rdS fun S => f S x y) toB) fun b => if b = true then bnd (dc ρ) fun z => rdS fun S => g S y z else ret (.bl false)
theorem chain_ok {K : PySem.W.Frag} {mg : Str → Option Value} {r r' : R2} {f g : Store → W → W → Option W} (hf : Op2 K mg r f) (hg : Op2 K mg r' g) {da db dc : DE} {σ : L2.St} {H : Hp} {Q : VK} (h : tOf K mg E (dChain f g da db dc) σ H Q) : tChain r r' (tOf K mg E da) (tOf K mg E db) (tOf K mg E dc) σ H Q := by
  obtain ⟨δ, μ, S, ρ, k, s, h⟩ := h
  refine ⟨δ, μ, S, ρ, k, s, Res.step h fun x S1 H1 μ1 g1 k1 h1 v rv => ⟨δ, μ1, S1, ρ, k1, rσ_gr g1 s, Res.step h1 fun y S2 H2 μ2 g2 k2 h2 u ru => ?_⟩⟩
  have h3 : Res ⟨K, mg, δ⟩ (E σ) H2 μ2 ((rdS fun S => f S x y) S2) fun w H' μ' S' => ∀ z, Rp ⟨K, mg, δ⟩ H' μ' z w → ∃ c, z = .bl c ∧ (if c = true then tOf K mg E dc σ H' (fun w' H4 => r' u w' H4 Q) else Q (.bl false) H') := by
    refine Res.step (Res.step h2 (q' := fun b H' μ' S' => (if b = true then tOf K mg E dc σ H' (fun w' H4 => r' u w' H4 Q) else Q (.bl false) H')) fun b S3 H3 μ3 g3 k3 h3 => ?_) fun w S3 H3 μ3 g3 k3 h3 z rz => ?_
    · cases b with
      | true =>
        rw [if_pos rfl] at h3 ⊢
        refine ⟨δ, μ3, S3, ρ, k3, rσ_gr g3 (rσ_gr g2 (rσ_gr g1 s)), Res.step h3 fun z S4 H4 μ4 g4 k4 h4 t rt => ?_⟩
        obtain ⟨w, e, q⟩ := rd_ok h4
        exact hg k4 (ru.gr (g3.trans g4)) rt e q
      | false => rw [if_neg (by decide)] at h3 ⊢; exact Res.now k3 h3 _ (.bl false)
    · cases rz <;> first | exact h3.elim | exact ⟨_, rfl, Res.now k3 h3⟩
  obtain ⟨w, e, q⟩ := rd_ok h3
  exact hf k2 (rv.gr g2) ru e q
theorem dt_chain {op op' : CmpOp} {r r' : R2} {f g : Store → W → W → Option W} (ho : OpR X (compareOp op) r) (ho' : OpR X (compareOp op') r') (hf : Op2 X.K X.mg r f) (hg : Op2 X.K X.mg r' g) (ha : PD X E a da) (hb : PD X E b db) (hc : PD X E c dc)
    (hm : lastMarks [op, op'] [b, c] = false := by with_unfolding_all rfl) : PDT X E (.Compare a [op, op'] [b, c] pos) (dTst (dChain f g da db dc)) := pt_of (pt_chain ho ho' ha hb hc hm) fun _ _ _ h => chain_ok hf hg (tst_ok h)
/-! ### argument lists -/
def dNil : DA := fun _ => ret []
def dCons (d : DE) (r : DA) : DA := fun ρ => bnd (d ρ) fun w => bnd (r ρ) fun ws => ret (w :: ws)
theorem da_nil : PDA X E [] dNil := pa_of pa_nil fun σ H Q ⟨δ, μ, S, ρ, k, s, h⟩ => Res.now k h [] .nil
theorem da_cons {es : List Expr} {d : DE} {r : DA} (ha : PD X E a d) (hr : PDA X E es r) (hs : starEach (a :: es) X.env = (false, eval a X.env) :: starEach es X.env := by rfl) : PDA X E (a :: es) (dCons d r) := pa_of (pa_cons ha hr hs) fun σ H Q ⟨δ, μ, S, ρ, k, s, h⟩ =>
  ⟨δ, μ, S, ρ, k, s, Res.step h fun x S1 H1 μ1 g1 k1 h1 v rv => ⟨δ, μ1, S1, ρ, k1, rσ_gr g1 s, Res.step h1 fun ws S2 H2 μ2 g2 k2 h2 vs rs => Res.now k2 h2 _ (.cons (rv.gr g2) rs)⟩⟩
/-- items of a sequence, a changing list among them -/
def itmsS (S : Store) : W → Option (List W)
  | .tup ws => some ws
  | .cl ws => some ws
  | .lst n => S[n]?
  | _ => none
theorem Rp.seq {Γ : Gm} {H : Hp} {μ : List Addr} {S : Store} (k : Ok Γ H μ S) {v : V} {w : W} {ws : List W} (r : Rp Γ H μ v w) (e : itmsS S w = some ws) : ∃ p xs, v = .ref p ∧ (SqT Γ.K H p xs ∨ SqL Γ.K H p xs) ∧ xs.length ≤ sizeLine ∧ Rps Γ H μ xs ws := by
  cases r with
  | tup h l q => cases e; exact ⟨_, _, rfl, .inl h.sq, l, q⟩
  | cl h n m l q => cases e; exact ⟨_, _, rfl, .inr (.inl (.inl h)), l, q⟩
  | lst h hq =>
    obtain ⟨xs, zs, e1, e2, l, q⟩ := k.lat h hq
    have e : S[_]? = some ws := e
    rw [e1] at e
    cases e
    exact ⟨_, _, rfl, .inr (.inl (.inl e2)), l, q⟩
  | _ => cases e
/-! ### displays -/
def tTupN (t : TA) : TE := fun σ H Q => t σ H fun xs H1 => xs.length ≤ sizeLine ∧ ∀ p o, o.dict = none → H1 p = none → Q (.ref p) (upd H1 p (.frz o (.tup xs)))
theorem pe_tupN {es : List Expr} {t : TA} {x1} (h : PA X es t) : PE X (.Tuple es x1 pos) (tTupN t) := by
  refine ⟨fun pins s σ H Q I hq => ?_⟩
  refine wpAny_Tuple_spliced (thn (h.run pos pins s σ H _ I hq) fun us s1 ⟨xs, H1, I1, r, z, q⟩ => ⟨by rw [← r.length]; exact z, ?_⟩)
  exact ⟨.ref s1.heap.objs.size, _, I1.laid (t' := s1.toks) (o := .frz { cls := .type "tuple", data := .seq us.toArray } (.tup xs)) (fun b u e => Heap.get?_push_of_some _ e) (Nat.le_refl _) (frz_tup z r (Heap.get?_push_size _ rfl)), rfl, q _ _ rfl (I1.hok.fresh (Nat.le_refl _))⟩
def szB (n : Nat) : Bool := decide (n ≤ 16777216)
theorem sz_ok {n : Nat} (h : szB n = true) : n ≤ sizeLine := by rw [sizeLine_eq]; exact of_decide_eq_true h
def mkT (ws : List W) : Mo W := fun S => if szB ws.length = true then .ok (.tup ws) S else .bad
def mkC (ws : List W) : Mo W := fun S => if szB ws.length = true then .ok (.cl ws) S else .bad
def mkL (ws : List W) : Mo W := fun S => if szB ws.length = true then .ok (.lst S.length) (S ++ [ws]) else .bad
def dTup (d : DA) : DE := fun ρ => bnd (d ρ) mkT
def dCl (d : DA) : DE := fun ρ => bnd (d ρ) mkC
def dLst (d : DA) : DE := fun ρ => bnd (d ρ) mkL
theorem new_tup {Γ : Gm} {H : Hp} {μ : List Addr} {S : Store} {p : Addr} {o : Obj} {xs : List V} {ws : List W} (k : Ok Γ H μ S) (hp : H p = none) (ho : o.dict = none) (l : xs.length ≤ sizeLine) (r : Rps Γ H μ xs ws) :
    Gr H μ (upd H p (.frz o (.tup xs))) μ ∧ Ok Γ (upd H p (.frz o (.tup xs))) μ S ∧ Rp Γ (upd H p (.frz o (.tup xs))) μ (.ref p) (.tup ws) :=
  have g := Gr.new hp (k.ne hp)
  ⟨g, k.new hp, .tup (.inl ⟨TupN.new ho, k.ne hp, k.nδ hp⟩) l (r.gr g)⟩
theorem new_cl {Γ : Gm} {H : Hp} {μ : List Addr} {S : Store} {p : Addr} {xs : List V} {ws : List W} (k : Ok Γ H μ S) (hp : H p = none) (l : xs.length ≤ sizeLine) (r : Rps Γ H μ xs ws) :
    Gr H μ (upd H p (.lst xs)) μ ∧ Ok Γ (upd H p (.lst xs)) μ S ∧ Rp Γ (upd H p (.lst xs)) μ (.ref p) (.cl ws) :=
  have g := Gr.new hp (k.ne hp)
  ⟨g, k.new hp, .cl upd_same (k.ne hp) (k.nδ hp) l (r.gr g)⟩
theorem de_tup {es : List Expr} {d : DA} {x1} (h : PDA X E es d) : PD X E (.Tuple es x1 pos) (dTup d) := pe_of (pe_tupN h) fun σ H Q ⟨δ, μ, S, ρ, k, s, h⟩ =>
  ⟨δ, μ, S, ρ, k, s, Res.step h fun ws S1 H1 μ1 g1 k1 h1 vs rs => by
    unfold mkT at h1
    by_cases hz : szB ws.length = true
    · rw [if_pos hz] at h1
      have l : vs.length ≤ sizeLine := by rw [rs.len]; exact sz_ok hz
      refine ⟨l, fun p o ho hp => ?_⟩
      obtain ⟨g, k2, r⟩ := new_tup k1 hp ho l rs
      exact h1 _ _ g k2 _ r
    · rw [if_neg hz] at h1
      exact h1.elim⟩
theorem de_cl {es : List Expr} {d : DA} (h : PDA X E es d) : PD X E (.List es pos) (dCl d) := pe_of (pe_lst h) fun σ H Q ⟨δ, μ, S, ρ, k, s, h⟩ =>
  ⟨δ, μ, S, ρ, k, s, Res.step h fun ws S1 H1 μ1 g1 k1 h1 vs rs => by
    unfold mkC at h1
    by_cases hz : szB ws.length = true
    · rw [if_pos hz] at h1
      have l : vs.length ≤ sizeLine := by rw [rs.len]; exact sz_ok hz
      refine ⟨l, fun p hp => ?_⟩
      obtain ⟨g, k2, r⟩ := new_cl k1 hp l rs
      exact h1 _ _ g k2 _ r
    · rw [if_neg hz] at h1
      exact h1.elim⟩
theorem de_lst {es : List Expr} {d : DA} (h : PDA X E es d) : PD X E (.List es pos) (dLst d) := pe_of (pe_lst h) fun σ H Q ⟨δ, μ, S, ρ, k, s, h⟩ =>
  ⟨δ, μ, S, ρ, k, s, Res.step h fun ws S1 H1 μ1 g1 k1 h1 vs rs => by
    unfold mkL at h1
    by_cases hz : szB ws.length = true
    · rw [if_pos hz] at h1
      have l : vs.length ≤ sizeLine := by rw [rs.len]; exact sz_ok hz
      refine ⟨l, fun p hp => ?_⟩
      obtain ⟨k2, g⟩ := k1.alloc hp l rs
      refine h1 _ _ g k2 _ (.lst ?_ ⟨_, upd_same, rfl⟩)
      rw [← k1.len, List.getElem?_append_right (Nat.le_refl _), Nat.sub_self]
      rfl
    · rw [if_neg hz] at h1
      exact h1.elim⟩
end
end Den

namespace Den
open PySem PySem.Spec PyProof.Rows L2 Bal
section
variable {X : Cx} {E : L2.St → XK} {a b c : Expr} {pos : Pos} {K : PySem.W.Frag} {mg : Str → Option Value} {Γ : Gm} {H : Hp} {μ : List Addr} {S : Store}
/-! ### either of two rules -/
def rOr (r r' : R2) : R2 := fun x y H Q => r x y H Q ∨ r' x y H Q
theorem OpR.or {f : Value → Value → Sem Value} {r r' : R2} (h : OpR X f r) (h' : OpR X f r') : OpR X f (rOr r r') := fun pins s σ H x y v u Q I rx ry q => q.elim (h pins s σ H x y v u Q I rx ry) (h' pins s σ H x y v u Q I rx ry)
theorem IxR.or {r r' : R2} (h : IxR X r) (h' : IxR X r') : IxR X (rOr r r') := fun va sl pins s σ H x y v u Q I rx ry q hs => q.elim (fun q => h va sl pins s σ H x y v u Q I rx ry q hs) (fun q => h' va sl pins s σ H x y v u Q I rx ry q hs)
theorem CallR.or {f : Value} {r r' : List V → Hp → VK → Prop} (h : CallR X f r) (h' : CallR X f r') : CallR X f (fun xs H Q => r xs H Q ∨ r' xs H Q) := fun pins s σ H xs us Q I rx q => q.elim (h pins s σ H xs us Q I rx) (h' pins s σ H xs us Q I rx)
/-! ### tuples joined and cut, with no dict of their own -/
def rCatN (K : PySem.W.Frag) : R2 := fun x y H Q => ∃ a b xs ys, x = .ref a ∧ y = .ref b ∧ SqT K H a xs ∧ SqT K H b ys ∧ xs.length + ys.length ≤ sizeLine ∧
  (xs = [] → Q (.ref b) H) ∧ (xs ≠ [] → ys = [] → Q (.ref a) H) ∧ (xs ≠ [] → ys ≠ [] → ∀ p o, o.dict = none → H p = none → Q (.ref p) (upd H p (.frz o (.tup (xs ++ ys)))))
theorem op_catN : OpR X (binaryOp .Add) (rCatN X.K) := by
  intro pins s σ H x y v u Q I rx ry h
  obtain ⟨a, b, xs, ys, rfl, rfl, ha, hb, hz, q0, q1, q2⟩ := h
  cases rx; cases ry
  obtain ⟨its, r1, p1, _⟩ := I.tuple ha
  obtain ⟨jts, r2, p2, _⟩ := I.tuple hb
  by_cases hx : xs = []
  · subst hx
    cases r1
    exact cat_tup0 p1 p2 ⟨.ref b, H, I, rfl, q0 rfl⟩
  · refine HT.cat_tup p1 p2 (fun z => hx (r1.nil_iff.mp z)) (fun z => ⟨.ref a, H, I, rfl, q1 hx (r2.nil_iff.mp z)⟩) (fun z => ?_) (by rw [← r1.length, ← r2.length]; exact hz)
    exact ⟨.ref s.heap.objs.size, _, I.laid (t' := s.toks) (o := .frz { cls := .type "tuple", data := .seq (its ++ jts).toArray } (.tup (xs ++ ys))) (fun b ob q => Heap.get?_push_of_some _ q) (Nat.le_refl _)
      (frz_tup (by rw [List.length_append]; exact hz) (r1.append r2) (Heap.get?_push_size _ rfl)), rfl, q2 hx (fun w => z (r2.nil_iff.mpr w)) _ _ rfl (I.hok.fresh (Nat.le_refl _))⟩
def rSlN (K : PySem.W.Frag) : V → Option Int → Option Int → Hp → VK → Prop := fun x lo hi H Q => ∃ a xs, x = .ref a ∧ SqT K H a xs ∧
  (HT.sIx xs.length 0 lo = 0 ∧ HT.sIx xs.length xs.length hi = xs.length → Q (.ref a) H) ∧ (¬ (HT.sIx xs.length 0 lo = 0 ∧ HT.sIx xs.length xs.length hi = xs.length) → ∀ p o, o.dict = none → H p = none → Q (.ref p) (upd H p (.frz o (.tup (cutV xs lo hi)))))
theorem sl_tupN : SlR X (rSlN X.K) := by
  intro pins s σ H x v vl vu lo hi sl Q I rx hs pl pu h
  obtain ⟨a, xs, rfl, hx, q1, q2⟩ := h
  cases rx
  obtain ⟨its, r, ht, hz⟩ := I.tuple hx
  have hlen : its.toArray.size = xs.length := by rw [List.size_toArray]; exact Eq.symm r.length
  refine ⟨"tuple", _, PyProof.Rows.slot_tuple_getitem.lookup, ht.typeIs, ?_⟩
  by_cases hw : HT.sIx xs.length 0 lo = 0 ∧ HT.sIx xs.length xs.length hi = xs.length
  · exact getItem_tuple_whole ht hs pl pu (by rw [hlen]; exact hw) ⟨.ref a, H, I, rfl, q1 hw⟩
  · refine HT.getItem_tuple_cut ht hs pl pu (by rw [hlen]; exact hw) ?_ (by rw [hlen]; exact hz)
    rw [hlen]
    have hf := q2 hw _ { cls := .type "tuple", data := .seq (((its.drop (HT.sIx xs.length 0 lo)).take (HT.sIx xs.length xs.length hi - HT.sIx xs.length 0 lo)).toArray) } rfl (I.hok.fresh (Nat.le_refl _))
    exact ⟨.ref s.heap.objs.size, _, I.laid (t' := s.toks) (fun b ob q => Heap.get?_push_of_some _ q) (Nat.le_refl _) (frz_tup (Nat.le_trans (cutV_length xs lo hi) hz) ((r.drop _).take _) (Heap.get?_push_size _ rfl)), rfl, hf⟩
/-! ### what values say -/
def inT : List W → Option (List Int)
  | [] => some []
  | .int i :: ws => (inT ws).map (i :: ·)
  | _ :: _ => none
theorem inT_ok : ∀ {vs : List V} {ws : List W} {ns : List Int}, Rps Γ H μ vs ws → inT ws = some ns → vs = ns.map V.int ∧ ws = ns.map W.int
  | _, _, ns, .nil, e => by cases e; exact ⟨rfl, rfl⟩
  | _, _, ns, .cons (w := w) (ws := ws) a b, e => by
    cases a <;> first | cases e | skip
    rename_i i
    have e : (inT ws).map (i :: ·) = some ns := e
    cases e2 : inT ws with
    | none => rw [e2] at e; cases e
    | some ms =>
      rw [e2] at e
      cases e
      obtain ⟨h1, h2⟩ := inT_ok b e2
      exact ⟨by rw [h1]; rfl, by rw [h2]; rfl⟩
def blT : List W → Option (List Bool)
  | [] => some []
  | .bl i :: ws => (blT ws).map (i :: ·)
  | _ :: _ => none
theorem blT_ok : ∀ {vs : List V} {ws : List W} {ns : List Bool}, Rps Γ H μ vs ws → blT ws = some ns → vs = ns.map V.bl
  | _, _, ns, .nil, e => by cases e; rfl
  | _, _, ns, .cons (w := w) (ws := ws) a b, e => by
    cases a <;> first | cases e | skip
    rename_i i
    have e : (blT ws).map (i :: ·) = some ns := e
    cases e2 : blT ws with
    | none => rw [e2] at e; cases e
    | some ms =>
      rw [e2] at e
      cases e
      rw [blT_ok b e2]
      rfl
/-- as data, the lists of the store read -/
def dat (S : Store) : Nat → W → Option PyData
  | 0, _ => none
  | _ + 1, .non => some .none
  | _ + 1, .bl b => some (.bool b)
  | _ + 1, .int i => some (.int i)
  | _ + 1, .str x => some (.str x)
  | n + 1, .tup ws => (ws.mapM (dat S n)).map .tuple
  | n + 1, .cl ws => (ws.mapM (dat S n)).map .list
  | n + 1, .lst m => match S[m]? with
    | some ws => (ws.mapM (dat S n)).map .list
    | none => none
  | _ + 1, _ => none
theorem rps_dat {f : W → Option PyData} (h : ∀ v w d, Rp Γ H μ v w → f w = some d → Dp Γ.K H v d) : ∀ {vs : List V} {ws : List W} {ds : List PyData}, Rps Γ H μ vs ws → ws.mapM f = some ds → DpAll Γ.K H vs ds
  | _, _, ds, .nil, e => by
    rw [List.mapM_nil] at e
    cases e
    exact .nil
  | _, _, ds, .cons (w := w) (ws := ws) a b, e => by
    rw [List.mapM_cons] at e
    cases e1 : f w with
    | none => rw [e1] at e; cases e
    | some d =>
      cases e2 : ws.mapM f with
      | none => rw [e1, e2] at e; cases e
      | some ds' =>
        rw [e1, e2] at e
        cases e
        exact .cons (h _ _ _ a e1) (rps_dat h b e2)
theorem dat_ok (k : Ok Γ H μ S) : ∀ (n : Nat) (v : V) (w : W) (d : PyData), Rp Γ H μ v w → dat S n w = some d → Dp Γ.K H v d
  | 0, _, _, _, _, e => by cases e
  | n + 1, v, w, d, r, e => by
    have ih := dat_ok k n
    cases r with
    | non => cases e; exact .non
    | bl b => cases e; exact .bl b
    | int i => cases e; exact .int i
    | str x => cases e; exact .str x
    | @tup a xs ws h l q =>
      have e : (ws.mapM (dat S n)).map PyData.tuple = some d := e
      cases e1 : ws.mapM (dat S n) with
      | none => rw [e1] at e; cases e
      | some ds => rw [e1] at e; cases e; exact .tup h.sq (rps_dat ih q e1)
    | @cl a xs ws h nn mm l q =>
      have e : (ws.mapM (dat S n)).map PyData.list = some d := e
      cases e1 : ws.mapM (dat S n) with
      | none => rw [e1] at e; cases e
      | some ds => rw [e1] at e; cases e; exact .lst (.inl (.inl h)) (rps_dat ih q e1)
    | @lst a m h hq =>
      obtain ⟨xs, ws, e1, e2, l, q⟩ := k.lat h hq
      have e : (match S[m]? with | some ws => (ws.mapM (dat S n)).map PyData.list | none => none) = some d := e
      rw [e1] at e
      have e : (ws.mapM (dat S n)).map PyData.list = some d := e
      cases e3 : ws.mapM (dat S n) with
      | none => rw [e3] at e; cases e
      | some ds => rw [e3] at e; cases e; exact .lst (.inl (.inl e2)) (rps_dat ih q e3)
    | _ => cases e
/-- data of a shape that is told apart -/
def datS (S : Store) (w : W) : Option PyData := match dat S 12 w with
  | some d => if SeqAt.shaped d = true then some d else none
  | none => none
theorem datS_ok (k : Ok Γ H μ S) {v : V} {w : W} {d : PyData} (r : Rp Γ H μ v w) (e : datS S w = some d) : Dp Γ.K H v d ∧ SeqAt.shaped d = true := by
  unfold datS at e
  cases e1 : dat S 12 w with
  | none => rw [e1] at e; cases e
  | some d' =>
    rw [e1] at e
    by_cases hs : SeqAt.shaped d' = true
    · simp only [hs, if_true] at e
      cases e
      exact ⟨dat_ok k 12 v w d r e1, hs⟩
    · simp only [hs, if_false] at e
      cases e
/-! ### two-place operations -/
def lstS (S : Store) : W → Option (List W)
  | .cl ws => some ws
  | .lst n => S[n]?
  | _ => none
theorem Rp.lstS (k : Ok Γ H μ S) {v : V} {w : W} {ws : List W} (r : Rp Γ H μ v w) (e : lstS S w = some ws) : ∃ p xs, v = .ref p ∧ H p = some (.lst xs) ∧ xs.length ≤ sizeLine ∧ Rps Γ H μ xs ws := by
  cases r with
  | cl h n m l q => cases e; exact ⟨_, _, rfl, h, l, q⟩
  | lst h hq =>
    obtain ⟨xs, zs, e1, e2, l, q⟩ := k.lat h hq
    have e : S[_]? = some ws := e
    rw [e1] at e
    cases e
    exact ⟨_, _, rfl, e2, l, q⟩
  | _ => cases e
def fAdd (S : Store) : W → W → Option W
  | .int i, .int j => some (.int (i + j))
  | .bl b, .int j => some (.int ((if b then 1 else 0) + j))
  | .tup x, .tup y => if szB (x.length + y.length) = true then some (.tup (x ++ y)) else none
  | x, y => match lstS S x, lstS S y with
    | some p, some q => if szB (p.length + q.length) = true then some (.cl (p ++ q)) else none
    | _, _ => none
abbrev rAddW (K : PySem.W.Frag) : R2 := rOr (fun x y H Q => ∃ i j, nv x = some i ∧ y = .int j ∧ Q (.int (i + j)) H) (rOr (rCatN K) rCat)
theorem op_addW : OpR X (binaryOp .Add) (rAddW X.K) := OpR.or op_addN (OpR.or op_catN op_cat)
theorem fAdd_ok : Op2 K mg (rAddW K) fAdd := by
  intro δ H μ S v u x y w Q k rx ry e q
  have lists : ∀ {x y : W} {v u : V}, Rp ⟨K, mg, δ⟩ H μ v x → Rp ⟨K, mg, δ⟩ H μ u y → (match lstS S x, lstS S y with | some p, some q => if szB (p.length + q.length) = true then some (W.cl (p ++ q)) else none | _, _ => none) = some w → rAddW K v u H Q := fun {x y v u} rx ry e => by
    cases e1 : lstS S x with
    | none => rw [e1] at e; cases e
    | some p =>
      cases e2 : lstS S y with
      | none => rw [e1, e2] at e; cases e
      | some q' =>
        rw [e1, e2] at e
        by_cases hz : szB (p.length + q'.length) = true
        · have e : (if szB (p.length + q'.length) = true then some (W.cl (p ++ q')) else none) = some w := e
          rw [if_pos hz] at e
          cases e
          obtain ⟨a1, xs, rfl, h1, l1, r1⟩ := rx.lstS k e1
          obtain ⟨a2, ys, rfl, h2, l2, r2⟩ := ry.lstS k e2
          have l3 : xs.length + ys.length ≤ sizeLine := by rw [r1.len, r2.len]; exact sz_ok hz
          refine .inr (.inr ⟨a1, a2, xs, ys, rfl, rfl, h1, h2, l3, fun p hp => ?_⟩)
          obtain ⟨g, k2, r⟩ := new_cl k hp (by rw [List.length_append]; exact l3) (r1.app r2)
          exact q _ _ g k2 r
        · have e : (if szB (p.length + q'.length) = true then some (W.cl (p ++ q')) else none) = some w := e
          rw [if_neg hz] at e
          cases e
  cases rx with
  | int i =>
    cases ry with
    | int j => cases e; exact .inl ⟨i, j, rfl, rfl, q _ _ Gr.refl k (.int _)⟩
    | _ => cases e
  | bl b =>
    cases ry with
    | int j => cases e; exact .inl ⟨_, j, rfl, rfl, q _ _ Gr.refl k (.int _)⟩
    | _ => cases e
  | @tup a1 xs1 ws1 h1 l1 r1 =>
    cases ry with
    | @tup a2 xs2 ws2 h2 l2 r2 =>
      have e : (if szB (ws1.length + ws2.length) = true then some (W.tup (ws1 ++ ws2)) else none) = some w := e
      by_cases hz : szB (ws1.length + ws2.length) = true
      · rw [if_pos hz] at e
        cases e
        have l3 : xs1.length + xs2.length ≤ sizeLine := by rw [r1.len, r2.len]; exact sz_ok hz
        refine .inr (.inl ⟨a1, a2, xs1, xs2, rfl, rfl, h1.sq, h2.sq, l3, fun z => ?_, fun _ z => ?_, fun _ _ p o ho hp => ?_⟩)
        · subst z
          cases r1
          exact q _ _ Gr.refl k (.tup h2 l2 r2)
        · subst z
          cases r2
          rw [List.append_nil] at q
          exact q _ _ Gr.refl k (.tup h1 l1 r1)
        · obtain ⟨g, k2, r⟩ := new_tup k hp ho (by rw [List.length_append]; exact l3) (r1.app r2)
          exact q _ _ g k2 r
      · rw [if_neg hz] at e
        cases e
    | _ => cases e
  | cl h n m l r => exact lists (.cl h n m l r) ry e
  | lst h hq => exact lists (.lst h hq) ry e
  | _ => cases e
def mulB (i j : Int) : Bool := (decide (-(2 ^ 64) < i) && decide (i < 2 ^ 64)) || (decide (-(2 ^ 64) < j) && decide (j < 2 ^ 64))
def fMul (S : Store) : W → W → Option W
  | .int i, .int j => if mulB i j = true then some (.int (i * j)) else none
  | x, .int j => match lstS S x with
    | some p => if decide (0 ≤ j ∧ j ≤ 1000) && szB (p.length * j.toNat) then some (.cl (List.replicate j.toNat p).flatten) else none
    | none => none
  | _, _ => none
theorem rps_rep {vs : List V} {ws : List W} (r : Rps Γ H μ vs ws) : ∀ n : Nat, Rps Γ H μ (List.replicate n vs).flatten (List.replicate n ws).flatten
  | 0 => .nil
  | n + 1 => by
    rw [List.replicate_succ, List.replicate_succ, List.flatten_cons, List.flatten_cons]
    exact r.app (rps_rep r n)
theorem fMul_ok : Op2 K mg (rOr (rI CMul fun i j => .int (i * j)) rRep) fMul := by
  intro δ H μ S v u x y w Q k rx ry e q
  have lists : ∀ {x : W} {v u : V} {j : Int}, Rp ⟨K, mg, δ⟩ H μ v x → u = .int j → (match lstS S x with | some p => if decide (0 ≤ j ∧ j ≤ 1000) && szB (p.length * j.toNat) then some (W.cl (List.replicate j.toNat p).flatten) else none | none => none) = some w → rOr (rI CMul fun i j => .int (i * j)) rRep v u H Q := fun {x v u j} rx eu e => by
    subst eu
    cases e1 : lstS S x with
    | none => rw [e1] at e; cases e
    | some p =>
      rw [e1] at e
      by_cases hz : (decide (0 ≤ j ∧ j ≤ 1000) && szB (p.length * j.toNat)) = true
      · have e : (if (decide (0 ≤ j ∧ j ≤ 1000) && szB (p.length * j.toNat)) = true then some (W.cl (List.replicate j.toNat p).flatten) else none) = some w := e
        rw [if_pos hz] at e
        cases e
        obtain ⟨hj, hz⟩ := Bool.and_eq_true_iff.mp hz
        have hj := of_decide_eq_true hj
        obtain ⟨a1, xs, rfl, h1, l1, r1⟩ := rx.lstS k e1
        have l3 : xs.length * j.toNat ≤ sizeLine := by rw [r1.len]; exact sz_ok hz
        refine .inr ⟨a1, j, xs, rfl, rfl, h1, by omega, by omega, l3, fun p hp => ?_⟩
        obtain ⟨g, k2, r⟩ := new_cl k hp (by rw [List.length_flatten, List.map_replicate, List.sum_replicate_nat, Nat.mul_comm]; exact l3) (rps_rep r1 j.toNat)
        exact q _ _ g k2 r
      · have e : (if (decide (0 ≤ j ∧ j ≤ 1000) && szB (p.length * j.toNat)) = true then some (W.cl (List.replicate j.toNat p).flatten) else none) = some w := e
        rw [if_neg hz] at e
        cases e
  cases rx with
  | int i =>
    cases ry with
    | int j =>
      have e : (if mulB i j = true then some (W.int (i * j)) else none) = some w := e
      by_cases hm : mulB i j = true
      · rw [if_pos hm] at e
        cases e
        refine .inl ⟨i, j, rfl, rfl, ?_, q _ _ Gr.refl k (.int _)⟩
        unfold mulB at hm
        rcases Bool.or_eq_true_iff.mp hm with h | h
        · obtain ⟨h1, h2⟩ := Bool.and_eq_true_iff.mp h
          exact .inl ⟨of_decide_eq_true h1, of_decide_eq_true h2⟩
        · obtain ⟨h1, h2⟩ := Bool.and_eq_true_iff.mp h
          exact .inr ⟨of_decide_eq_true h1, of_decide_eq_true h2⟩
      · rw [if_neg hm] at e
        cases e
    | _ => cases e
  | cl h n m l r =>
    cases ry <;> first | (exact lists (.cl h n m l r) rfl e) | cases e
  | lst h hq =>
    cases ry <;> first | (exact lists (.lst h hq) rfl e) | cases e
  | _ => cases ry <;> cases e
def fDiv (_ : Store) : W → W → Option W
  | .int i, .int j => if decide (0 < j ∧ j < 1073741824) = true then some (.int (i / j)) else none
  | _, _ => none
theorem fDiv_ok : Op2 K mg (rI CDiv fun i j => .int (i / j)) fDiv := by
  intro δ H μ S v u x y w Q k rx ry e q
  cases rx <;> first | cases e | skip
  cases ry <;> first | cases e | skip
  rename_i i j
  have e : (if decide (0 < j ∧ j < 1073741824) = true then some (W.int (i / j)) else none) = some w := e
  by_cases hm : decide (0 < j ∧ j < 1073741824) = true
  · rw [if_pos hm] at e
    cases e
    exact ⟨_, _, rfl, rfl, (by have z := of_decide_eq_true hm; exact z), q _ _ Gr.refl k (.int _)⟩
  · rw [if_neg hm] at e
    cases e
def fMod (_ : Store) : W → W → Option W
  | .int i, .int j => if decide (0 < j) = true then some (.int (i % j)) else none
  | _, _ => none
theorem fMod_ok : Op2 K mg (rI (fun _ j => 0 < j) fun i j => .int (i % j)) fMod := by
  intro δ H μ S v u x y w Q k rx ry e q
  cases rx <;> first | cases e | skip
  cases ry <;> first | cases e | skip
  rename_i i j
  have e : (if decide (0 < j) = true then some (W.int (i % j)) else none) = some w := e
  by_cases hm : decide (0 < j) = true
  · rw [if_pos hm] at e
    cases e
    exact ⟨_, _, rfl, rfl, (by have z := of_decide_eq_true hm; exact z), q _ _ Gr.refl k (.int _)⟩
  · rw [if_neg hm] at e
    cases e
def fPow (_ : Store) : W → W → Option W
  | .int i, .int j => if decide (0 ≤ j ∧ j ≤ 1000000 ∧ i.natAbs < 2 ^ 64) = true then some (.int (i ^ j.toNat)) else none
  | _, _ => none
theorem fPow_ok : Op2 K mg (rI CPow fun i j => .int (i ^ j.toNat)) fPow := by
  intro δ H μ S v u x y w Q k rx ry e q
  cases rx <;> first | cases e | skip
  cases ry <;> first | cases e | skip
  rename_i i j
  have e : (if decide (0 ≤ j ∧ j ≤ 1000000 ∧ i.natAbs < 2 ^ 64) = true then some (W.int (i ^ j.toNat)) else none) = some w := e
  by_cases hm : decide (0 ≤ j ∧ j ≤ 1000000 ∧ i.natAbs < 2 ^ 64) = true
  · rw [if_pos hm] at e
    cases e
    exact ⟨_, _, rfl, rfl, (by have z := of_decide_eq_true hm; exact z), q _ _ Gr.refl k (.int _)⟩
  · rw [if_neg hm] at e
    cases e
/-! ### comparisons -/
def fCmp (p : Int → Int → Bool) (_ : Store) : W → W → Option W
  | .int i, .int j => some (.bl (p i j))
  | _, _ => none
theorem fCmp_ok {p : Int → Int → Bool} : Op2 K mg (rI0 fun i j => .bl (p i j)) (fCmp p) := by
  intro δ H μ S v u x y w Q k rx ry e q
  cases rx <;> first | cases e | skip
  cases ry <;> first | cases e | skip
  exact ⟨_, _, rfl, rfl, q _ _ Gr.refl k (.bl _)⟩
abbrev pLt : Int → Int → Bool := fun i j => decide (i < j)
abbrev pLe : Int → Int → Bool := fun i j => decide (i ≤ j)
abbrev pGt : Int → Int → Bool := fun i j => decide (j < i)
abbrev pGe : Int → Int → Bool := fun i j => decide (j ≤ i)
def eqD (S : Store) (x y : W) : Option Bool := match datS S x, datS S y with
  | some d, some e => some (PyData.eqv d e)
  | _, _ => none
def fEq (S : Store) (x y : W) : Option W := (eqD S x y).map .bl
def fNe (S : Store) (x y : W) : Option W := (eqD S x y).map fun b => .bl (!b)
theorem eqD_ok (k : Ok Γ H μ S) {v u : V} {x y : W} {b : Bool} (rx : Rp Γ H μ v x) (ry : Rp Γ H μ u y) (e : eqD S x y = some b) : ∃ d f, Dp Γ.K H v d ∧ Dp Γ.K H u f ∧ SeqAt.shaped d = true ∧ SeqAt.shaped f = true ∧ b = PyData.eqv d f := by
  unfold eqD at e
  cases e1 : datS S x with
  | none => rw [e1] at e; cases e
  | some d =>
    cases e2 : datS S y with
    | none => rw [e1, e2] at e; cases e
    | some f =>
      rw [e1, e2] at e
      cases e
      obtain ⟨h1, h2⟩ := datS_ok k rx e1
      obtain ⟨h3, h4⟩ := datS_ok k ry e2
      exact ⟨d, f, h1, h3, h2, h4, rfl⟩
theorem fEq_ok : Op2 K mg (rEqD K) fEq := by
  intro δ H μ S v u x y w Q k rx ry e q
  unfold fEq at e
  cases e1 : eqD S x y with
  | none => rw [e1] at e; cases e
  | some b =>
    rw [e1] at e
    cases e
    obtain ⟨d, f, h1, h2, h3, h4, rfl⟩ := eqD_ok k rx ry e1
    exact ⟨d, f, h1, h2, h3, h4, q _ _ Gr.refl k (.bl _)⟩
theorem fNe_ok : Op2 K mg (rNeD K) fNe := by
  intro δ H μ S v u x y w Q k rx ry e q
  unfold fNe at e
  cases e1 : eqD S x y with
  | none => rw [e1] at e; cases e
  | some b =>
    rw [e1] at e
    cases e
    obtain ⟨d, f, h1, h2, h3, h4, rfl⟩ := eqD_ok k rx ry e1
    exact ⟨d, f, h1, h2, h3, h4, q _ _ Gr.refl k (.bl _)⟩
/-- is None -/
def isN : W → Bool
  | .non => true
  | _ => false
def fIs (_ : Store) (x : W) : W → Option W
  | .non => some (.bl (isN x))
  | _ => none
theorem isN_ok {v : V} {x : W} (r : Rp Γ H μ v x) : decide (v = .non) = isN x := by
  cases r <;> first | rfl | exact decide_eq_false fun z => nomatch z
theorem fIs_ok : Op2 K mg (fun x y H Q => y = .non ∧ Q (.bl (decide (x = .non))) H) fIs := by
  intro δ H μ S v u x y w Q k rx ry e q
  cases ry <;> first | cases e | skip
  refine ⟨rfl, ?_⟩
  rw [isN_ok rx]
  exact q _ _ Gr.refl k (.bl _)
/-! ### places -/
def ixW (S : Store) : W → Option (List W)
  | .sc ws => some ws
  | w => itmsS S w
def fIx (S : Store) (x : W) : W → Option W
  | .int i => match ixW S x with
    | some ws => atI ws i
    | none => none
  | _ => none
theorem atI_rps {vs : List V} {ws : List W} {i : Int} {w : W} (r : Rps Γ H μ vs ws) (e : atI ws i = some w) : ∃ v, atI vs i = some v ∧ Rp Γ H μ v w := by
  unfold atI at e ⊢
  rw [r.len]
  cases e1 : ixN ws.length i with
  | none => rw [e1] at e; cases e
  | some j =>
    rw [e1] at e
    exact r.getW e
theorem fIx_ok : Op2 K mg (rOr (rIxL K) (rIxT K)) fIx := by
  intro δ H μ S v u x y w Q k rx ry e q
  cases ry <;> first | cases e | skip
  rename_i i
  have e : (match ixW S x with | some ws => atI ws i | none => none) = some w := e
  cases e1 : ixW S x with
  | none => rw [e1] at e; cases e
  | some ws =>
    rw [e1] at e
    have seq : itmsS S x = some ws → rOr (rIxL K) (rIxT K) v (.int i) H Q := fun e1 => by
      obtain ⟨p, xs, rfl, hq, l, r⟩ := rx.seq k e1
      obtain ⟨z, h1, h2⟩ := atI_rps r e
      rcases hq with hq | hq
      · exact .inr ⟨p, xs, i, z, rfl, rfl, hq, h1, q _ _ Gr.refl k h2⟩
      · exact .inl ⟨p, xs, i, z, rfl, rfl, hq, h1, q _ _ Gr.refl k h2⟩
    cases rx with
    | sc h r =>
      cases e1
      obtain ⟨z, h1, h2⟩ := atI_rps r e
      exact .inl ⟨_, _, i, z, rfl, rfl, h.sq, h1, q _ _ Gr.refl k h2⟩
    | _ => exact seq e1
def fNeg (_ : Store) : W → Option W
  | .int i => some (.int (-i))
  | _ => none
theorem fNeg_ok : Op1 K mg (rU fun i => .int (-i)) fNeg := by
  intro δ H μ S v x w Q k rx e q
  cases rx <;> first | cases e | skip
  exact ⟨_, rfl, q _ _ Gr.refl k (.int _)⟩
end
end Den

namespace Den
open PySem PySem.Spec PyProof.Rows L2 Bal
section
variable {X : Cx} {E : L2.St → XK} {e a b c : Expr} {es : List Expr} {pos p : Pos} {K : PySem.W.Frag} {mg : Str → Option Value} {Γ : Gm} {H : Hp} {μ : List Addr} {S : Store} {x : Str} {idn T : String} {r : List V → Hp → VK → Prop}
/-! ### calls of built-ins -/
def dCallN (f : Store → List W → Option W) (d : DA) : DE := fun ρ => bnd (d ρ) fun ws => rdS fun S => f S ws
theorem callN_ok {f : Store → List W → Option W} {d : DA} (hf : OpN K mg r f) {σ : L2.St} {Q : VK} (h : tOf K mg E (dCallN f d) σ H Q) : tCB r (taOf K mg E d) σ H Q := by
  obtain ⟨δ, μ, S, ρ, k, s, h⟩ := h
  refine ⟨δ, μ, S, ρ, k, s, Res.step h fun ws S1 H1 μ1 g1 k1 h1 vs rs => ?_⟩
  obtain ⟨w, e, q⟩ := rd_ok h1
  exact hf k1 rs e q
theorem de_callB {f : Store → List W → Option W} {d : DA} (hc : CallR X (.builtin idn) r) (hf : OpN X.K X.mg r f) (hg : Gl X x) (hm : X.mg x = none) (hv : bootBuiltins x = some (.builtin idn)) (ha : PDA X E (e :: es) d) (hn : x ≠ "__name__" := by decide) (hdb : (x == ("__debug__" : Str)) = false := by decide)
    (he : starEach (e :: es) X.env = (false, eval e X.env) :: starEach es X.env := by rfl) (hpl : (backTo pos (starEach es X.env)).any (·.1) = false := by rfl) : PD X E (.Call (.Name x p) (e :: es) [] pos) (dCallN f d) := pe_of (pe_callB hc hg hm hv ha hn hdb he hpl) fun _ _ _ h => callN_ok hf h
theorem de_callTy {f : Store → List W → Option W} {d : DA} (hc : CallR X (.type T) r) (hf : OpN X.K X.mg r f) (hg : Gl X x) (hm : X.mg x = none) (hv : bootBuiltins x = some (.type T)) (ha : PDA X E (e :: es) d) (hn : x ≠ "__name__" := by decide) (hdb : (x == ("__debug__" : Str)) = false := by decide)
    (he : starEach (e :: es) X.env = (false, eval e X.env) :: starEach es X.env := by rfl) (hpl : (backTo pos (starEach es X.env)).any (·.1) = false := by rfl) : PD X E (.Call (.Name x p) (e :: es) [] pos) (dCallN f d) := pe_of (pe_callTy hc hg hm hv ha hn hdb he hpl) fun _ _ _ h => callN_ok hf h
/-! ### that make a new list -/
/-- how a new list is kept: as one that nobody changes, or in the store -/
inductive Kp where | cl | st
def newK : Kp → List W → Mo W
  | .cl, us => fun S => .ok (.cl us) S
  | .st, us => fun S => .ok (.lst S.length) (S ++ [us])
theorem newK_ok {E : XK} (kp : Kp) {us : List W} {Q : VK} (k : Ok Γ H μ S) (h : Res Γ E H μ (newK kp us S) fun w H' μ' _ => ∀ v, Rp Γ H' μ' v w → Q v H') {p : Addr} {ys : List V} (hp : H p = none) (l : ys.length ≤ sizeLine) (r : Rps Γ H μ ys us) : Q (.ref p) (upd H p (.lst ys)) := by
  cases kp with
  | cl =>
    obtain ⟨g, k2, r2⟩ := new_cl k hp l r
    exact h _ _ g k2 _ r2
  | st =>
    obtain ⟨k2, g⟩ := k.alloc hp l r
    refine h _ _ g k2 _ (.lst ?_ ⟨_, upd_same, rfl⟩)
    rw [← k.len, List.getElem?_append_right (Nat.le_refl _), Nat.sub_self]
    rfl
/-! ### len, tuple, list, all, any, abs, int, max, min, sorted -/
theorem Rps.one {vs : List V} {ws : List W} {w : W} (r : Rps Γ H μ vs ws) (e : ws = [w]) : ∃ v, vs = [v] ∧ Rp Γ H μ v w := by
  subst e
  cases r with
  | cons a b => cases b; exact ⟨_, rfl, a⟩
theorem Rps.two {vs : List V} {ws : List W} {w z : W} (r : Rps Γ H μ vs ws) (e : ws = [w, z]) : ∃ v u, vs = [v, u] ∧ Rp Γ H μ v w ∧ Rp Γ H μ u z := by
  subst e
  cases r with
  | cons a b =>
    obtain ⟨u, rfl, h⟩ := Rps.one b rfl
    exact ⟨_, _, rfl, a, h⟩
def fLen (S : Store) : List W → Option W
  | [w] => match ixW S w with
    | some ws => some (.int (ws.length : Nat))
    | none => none
  | _ => none
theorem fLen_ok : OpN K mg (fun xs H Q => ∃ p ys, xs = [.ref p] ∧ (SqL K H p ys ∨ SqT K H p ys) ∧ Q (.int ys.length) H) fLen := by
  intro δ H μ S vs xs w Q k rs e q
  match xs, e with
  | [x], e =>
    obtain ⟨v, rfl, rx⟩ := rs.one rfl
    have e : (match ixW S x with | some ws => some (W.int (ws.length : Nat)) | none => none) = some w := e
    cases e1 : ixW S x with
    | none => rw [e1] at e; cases e
    | some ws =>
      rw [e1] at e
      cases e
      have seq : itmsS S x = some ws → ∃ p ys, [v] = [.ref p] ∧ (SqL K H p ys ∨ SqT K H p ys) ∧ Q (.int ys.length) H := fun e1 => by
        obtain ⟨p, xs, rfl, hq, l, r⟩ := rx.seq k e1
        exact ⟨p, xs, rfl, hq.symm, by rw [r.len]; exact q _ _ Gr.refl k (.int _)⟩
      cases rx with
      | sc h r =>
        cases e1
        exact ⟨_, _, rfl, .inl h.sq, by rw [r.len]; exact q _ _ Gr.refl k (.int _)⟩
      | _ => exact seq e1
def fTuple (S : Store) : List W → Option W
  | [w] => (itmsS S w).map .tup
  | _ => none
theorem fTuple_ok : OpN K mg (rTupN K) fTuple := by
  intro δ H μ S vs xs w Q k rs e q
  match xs, e with
  | [x], e =>
    obtain ⟨v, rfl, rx⟩ := rs.one rfl
    have e : (itmsS S x).map W.tup = some w := e
    cases e1 : itmsS S x with
    | none => rw [e1] at e; cases e
    | some ws =>
      rw [e1] at e
      cases e
      cases rx with
      | tup h l r => cases e1; exact ⟨_, _, rfl, .inr ⟨h.sq, q _ _ Gr.refl k (.tup h l r)⟩⟩
      | cl h n m l r =>
        cases e1
        refine ⟨_, _, rfl, .inl ⟨.inl (.inl h), fun p o ho hp => ?_⟩⟩
        obtain ⟨g, k2, r⟩ := new_tup k hp ho l r
        exact q _ _ g k2 r
      | lst h hq =>
        obtain ⟨ys, zs, e2, e3, l, r⟩ := k.lat h hq
        have e1 : S[_]? = some ws := e1
        rw [e2] at e1
        cases e1
        refine ⟨_, _, rfl, .inl ⟨.inl (.inl e3), fun p o ho hp => ?_⟩⟩
        obtain ⟨g, k2, r⟩ := new_tup k hp ho l r
        exact q _ _ g k2 r
      | _ => cases e1
def fAll (S : Store) : List W → Option W
  | [w] => match lstS S w with
    | some ws => (blT ws).map fun bs => .bl (bs.all id)
    | none => none
  | _ => none
theorem bls_ok (k : Ok Γ H μ S) {v : V} {x : W} {ws : List W} {bs : List Bool} (rx : Rp Γ H μ v x) (e1 : lstS S x = some ws) (e2 : blT ws = some bs) : ∃ p, v = .ref p ∧ SqL Γ.K H p (bs.map V.bl) := by
  obtain ⟨p, ys, rfl, h, l, r⟩ := rx.lstS k e1
  rw [blT_ok r e2] at h
  exact ⟨p, rfl, .inl (.inl h)⟩
theorem fAll_ok : OpN K mg (rAll K) fAll := by
  intro δ H μ S vs xs w Q k rs e q
  match xs, e with
  | [x], e =>
    obtain ⟨v, rfl, rx⟩ := rs.one rfl
    have e : (match lstS S x with | some ws => (blT ws).map fun bs => W.bl (bs.all id) | none => none) = some w := e
    cases e1 : lstS S x with
    | none => rw [e1] at e; cases e
    | some ws =>
      rw [e1] at e
      have e : (blT ws).map (fun bs => W.bl (bs.all id)) = some w := e
      cases e2 : blT ws with
      | none => rw [e2] at e; cases e
      | some bs =>
        rw [e2] at e
        cases e
        obtain ⟨p, rfl, h⟩ := bls_ok k rx e1 e2
        exact ⟨p, bs, rfl, h, q _ _ Gr.refl k (.bl _)⟩
def fAbs (_ : Store) : List W → Option W
  | [.int i] => some (.int (if i < 0 then -i else i))
  | _ => none
theorem fAbs_ok : OpN K mg (fun xs H Q => ∃ i, xs = [.int i] ∧ Q (.int (if i < 0 then -i else i)) H) fAbs := by
  intro δ H μ S vs xs w Q k rs e q
  match xs, e with
  | [.int i], e =>
    cases e
    obtain ⟨v, rfl, rx⟩ := rs.one rfl
    cases rx
    exact ⟨i, rfl, q _ _ Gr.refl k (.int _)⟩
def fInt (_ : Store) : List W → Option W
  | [.int i] => some (.int i)
  | [.bl b] => some (.int (if b then 1 else 0))
  | _ => none
theorem fInt_ok : OpN K mg (fun xs H Q => (∃ i, xs = [.int i] ∧ Q (.int i) H) ∨ ∃ k, xs = [.bl k] ∧ Q (.int (if k then 1 else 0)) H) fInt := by
  intro δ H μ S vs xs w Q k rs e q
  match xs, e with
  | [.int i], e =>
    cases e
    obtain ⟨v, rfl, rx⟩ := rs.one rfl
    cases rx
    exact .inl ⟨i, rfl, q _ _ Gr.refl k (.int _)⟩
  | [.bl b], e =>
    cases e
    obtain ⟨v, rfl, rx⟩ := rs.one rfl
    cases rx
    exact .inr ⟨b, rfl, q _ _ Gr.refl k (.int _)⟩
def fMax2 (_ : Store) : List W → Option W
  | [.int i, .int j] => some (.int (if j > i then j else i))
  | _ => none
theorem fMax2_ok : OpN K mg (fun xs H Q => ∃ i j, xs = [.int i, .int j] ∧ Q (.int (if j > i then j else i)) H) fMax2 := by
  intro δ H μ S vs xs w Q k rs e q
  match xs, e with
  | [.int i, .int j], e =>
    cases e
    obtain ⟨v, u, rfl, rx, ry⟩ := rs.two rfl
    cases rx; cases ry
    exact ⟨i, j, rfl, q _ _ Gr.refl k (.int _)⟩
def fMin2 (_ : Store) : List W → Option W
  | [.int i, .int j] => some (.int (if j < i then j else i))
  | _ => none
theorem fMin2_ok : OpN K mg (fun xs H Q => ∃ i j, xs = [.int i, .int j] ∧ Q (.int (if j < i then j else i)) H) fMin2 := by
  intro δ H μ S vs xs w Q k rs e q
  match xs, e with
  | [.int i, .int j], e =>
    cases e
    obtain ⟨v, u, rfl, rx, ry⟩ := rs.two rfl
    cases rx; cases ry
    exact ⟨i, j, rfl, q _ _ Gr.refl k (.int _)⟩
theorem rps_ints : ∀ ns : List Int, Rps Γ H μ (ns.map V.int) (ns.map W.int)
  | [] => .nil
  | n :: ns => .cons (.int n) (rps_ints ns)
/-! ### isinstance of data -/
inductive Kd where | non | bl | int | str | tup | lst
def Kd.nm : Kd → String
  | .non => "NoneType" | .bl => "bool" | .int => "int" | .str => "str" | .tup => "tuple" | .lst => "list"
def kdW : W → Option Kd
  | .non => some .non | .bl _ => some .bl | .int _ => some .int | .str _ => some .str | .tup _ => some .tup | .cl _ => some .lst | .lst _ => some .lst | _ => none
theorem kd_ty (k : Ok Γ H μ S) {v : V} {w : W} {n : Kd} (r : Rp Γ H μ v w) (e : kdW w = some n) : TyX Γ.K H v (.type n.nm) := by
  cases r with
  | non => cases e; exact .base .non
  | bl b => cases e; exact .base (.bl b)
  | int i => cases e; exact .base (.int i)
  | str x => cases e; exact .base (.str x)
  | tup h l q =>
    cases e
    rcases h with ⟨⟨o, _, h⟩, _⟩ | ⟨o, its, n, h1, _, h2, _⟩
    · exact .fTuple h
    · exact .kTuple h1 h2
  | cl h n m l q => cases e; exact .base (.lst h)
  | lst h hq =>
    cases e
    obtain ⟨xs, ws, _, e2, _⟩ := k.lat h hq
    exact .base (.lst e2)
  | _ => cases e
def dIs (f : Kd → Bool) (d : DE) : DE := fun ρ => bnd (d ρ) fun w => match kdW w with
  | some n => ret (.bl (f n))
  | none => bad
def kInt : Kd → Bool | .int => true | .bl => true | _ => false
def kBool : Kd → Bool | .bl => true | _ => false
def kTup : Kd → Bool | .tup => true | _ => false
def kLst : Kd → Bool | .lst => true | _ => false
def kStr : Kd → Bool | .str => true | _ => false
def kSeq : Kd → Bool | .tup => true | .lst => true | _ => false
/-- isinstance(x, T) -/
theorem de_is {f : Kd → Bool} {d : DE} {n : String} {y : Str} {p2 : Pos} (hk : ∀ k : Kd, kitB k.nm n = some (f k)) (hg : Gl X "isinstance") (hm : X.mg "isinstance" = none) (hg2 : Gl X y) (hm2 : X.mg y = none) (hv2 : bootBuiltins y = some (.type n)) (ha : PD X E a d) (hn : y ≠ "__name__" := by decide) (hd2 : (y == ("__debug__" : Str)) = false := by decide)
    (he : starEach (a :: [.Name y p2]) X.env = (false, eval a X.env) :: starEach [.Name y p2] X.env := by rfl) (hpl : (backTo pos (starEach [.Name y p2] X.env)).any (·.1) = false := by rfl) : PD X E (.Call (.Name "isinstance" p) [a, .Name y p2] [] pos) (dIs f d) :=
  pe_of (pe_callB call_isi hg hm (by decide +kernel) (pa_cons ha (pa_cons (pe_bltn (v := .ty n) hg2 hm2 hv2 rfl hn hd2) pa_nil) he) (by decide) (by decide) he hpl) fun σ H Q ⟨δ, μ, S, ρ, k, s, h⟩ =>
  ⟨δ, μ, S, ρ, k, s, Res.step h fun w S1 H1 μ1 g1 k1 h1 v rv => by
    cases e : kdW w with
    | none => rw [e] at h1; exact h1.elim
    | some n' =>
      rw [e] at h1
      exact ⟨v, .ty n, _, _, f n', rfl, .ty _, kd_ty k1 rv e, kit_ty (hk n'), Res.now k1 h1 _ (.bl _)⟩⟩
theorem is_int (k : Kd) : kitB k.nm "int" = some (kInt k) := by cases k <;> decide +kernel
theorem is_bool (k : Kd) : kitB k.nm "bool" = some (kBool k) := by cases k <;> decide +kernel
theorem is_tup (k : Kd) : kitB k.nm "tuple" = some (kTup k) := by cases k <;> decide +kernel
theorem is_lst (k : Kd) : kitB k.nm "list" = some (kLst k) := by cases k <;> decide +kernel
theorem is_str (k : Kd) : kitB k.nm "str" = some (kStr k) := by cases k <;> decide +kernel
/-- isinstance(x, (list, tuple)) -/
theorem de_isSeq {d : DE} {p2 p3 p4 : Pos} {kk : Nat} (hg : Gl X "isinstance") (hm : X.mg "isinstance" = none) (hg2 : Gl X "list") (hm2 : X.mg "list" = none) (hg3 : Gl X "tuple") (hm3 : X.mg "tuple" = none) (ha : PD X E a d)
    (he : starEach (a :: [.Tuple [.Name "list" p2, .Name "tuple" p3] kk p4]) X.env = (false, eval a X.env) :: starEach [.Tuple [.Name "list" p2, .Name "tuple" p3] kk p4] X.env := by rfl) (hpl : (backTo pos (starEach [.Tuple [.Name "list" p2, .Name "tuple" p3] kk p4] X.env)).any (·.1) = false := by rfl) : PD X E (.Call (.Name "isinstance" p) [a, .Tuple [.Name "list" p2, .Name "tuple" p3] kk p4] [] pos) (dIs kSeq d) :=
  pe_of (pe_callB call_isiT hg hm (by decide +kernel) (pa_cons ha (pa_cons (pe_tup (pa_cons (pe_bltn (v := .ty "list") hg2 hm2 (by decide +kernel) rfl) (pa_cons (pe_bltn (v := .ty "tuple") hg3 hm3 (by decide +kernel) rfl) pa_nil))) pa_nil) he) (by decide) (by decide) he hpl) fun σ H Q ⟨δ, μ, S, ρ, k, s, h⟩ =>
  ⟨δ, μ, S, ρ, k, s, Res.step h fun w S1 H1 μ1 g1 k1 h1 v rv => by
    cases e : kdW w with
    | none => rw [e] at h1; exact h1.elim
    | some n' =>
      rw [e] at h1
      refine ⟨by show 2 ≤ sizeLine; decide, fun tp ntp => ?_⟩
      have g2 := Gr.new (o := .tup [.ty "list", .ty "tuple"]) ntp (k1.ne ntp)
      have k2 := k1.new (o := .tup [.ty "list", .ty "tuple"]) ntp
      refine ⟨v, tp, _, _, _, kSeq n', rfl, upd_same, cls2, kd_ty k2 (rv.gr g2) e, ?_, h1 _ _ g2 k2 _ (.bl _)⟩
      cases n' with
      | lst => exact kA_lst
      | tup => exact kA_tup
      | _ => exact kA_no (by decide +kernel) (by decide +kernel)⟩
/-! ### cuts -/
abbrev DO := En → Mo (Option Int)
def toOf (K : PySem.W.Frag) (mg : Str → Option Value) (E : L2.St → XK) (d : DO) : TO := fun σ H Q => ∃ δ μ S ρ, Ok ⟨K, mg, δ⟩ H μ S ∧ Rσ ⟨K, mg, δ⟩ H μ σ ρ ∧ Res ⟨K, mg, δ⟩ (E σ) H μ (d ρ S) fun o H' _ _ => Q o H'
theorem po_of {o : Option Expr} {t t' : TO} (h : PO X o t) (f : ∀ σ H Q, t' σ H Q → t σ H Q) : PO X o t' := ⟨fun pins s σ H Q I q => h.run pins s σ H Q I (f σ H Q q)⟩
def oNone : DO := fun _ => ret none
def oSome (d : DE) : DO := fun ρ => bnd (d ρ) fun w => match w with
  | .int i => ret (some i)
  | _ => bad
theorem do_none : PO X none (toOf X.K X.mg E oNone) := po_of po_none fun σ H Q ⟨δ, μ, S, ρ, k, s, h⟩ => Res.now k h
theorem do_some {d : DE} (h : PD X E a d) : PO X (some a) (toOf X.K X.mg E (oSome d)) := po_of (po_some h) fun σ H Q ⟨δ, μ, S, ρ, k, s, h⟩ =>
  ⟨δ, μ, S, ρ, k, s, Res.step h fun w S1 H1 μ1 g1 k1 h1 v rv => by
    cases rv <;> first | exact h1.elim | exact ⟨_, rfl, Res.now k1 h1⟩⟩
def cutW (xs : List W) (lo hi : Option Int) : List W := (xs.drop (HT.sIx xs.length 0 lo)).take (HT.sIx xs.length xs.length hi - HT.sIx xs.length 0 lo)
theorem rps_cut {vs : List V} {ws : List W} (r : Rps Γ H μ vs ws) (lo hi : Option Int) : Rps Γ H μ (cutV vs lo hi) (cutW ws lo hi) := by
  unfold cutV cutW
  rw [r.len]
  exact (r.drop _).take _
def fCut (kp : Kp) (w : W) (lo hi : Option Int) : Mo W := fun S => match w with
  | .tup ws => .ok (.tup (cutW ws lo hi)) S
  | w => match lstS S w with
    | some ws => newK kp (cutW ws lo hi) S
    | none => .bad
def dCut (kp : Kp) (d : DE) (l u : DO) : DE := fun ρ => bnd (d ρ) fun w => bnd (l ρ) fun lo => bnd (u ρ) fun hi => fCut kp w lo hi
theorem de_cut (kp : Kp) {d : DE} {l u : DO} {lo hi : Option Expr} {p2 : Pos} (ha : PD X E a d) (hl : PO X lo (toOf X.K X.mg E l)) (hu : PO X hi (toOf X.K X.mg E u)) : PD X E (.Subscript a (.Slice lo hi none p2) pos) (dCut kp d l u) := pe_of (pe_slice (SlR.or sl_tupN sl_list) ha hl hu) fun σ H Q ⟨δ, μ, S, ρ, k, s, h⟩ =>
  ⟨δ, μ, S, ρ, k, s, Res.step h fun w S1 H1 μ1 g1 k1 h1 v rv => ⟨δ, μ1, S1, ρ, k1, rσ_gr g1 s, Res.step h1 fun lo S2 H2 μ2 g2 k2 h2 => ⟨δ, μ2, S2, ρ, k2, rσ_gr (g1.trans g2) s, Res.step h2 fun hi S3 H3 μ3 g3 k3 h3 => by
    have rv3 := rv.gr (g2.trans g3)
    have lists : ∀ {v : V} {w : W}, Rp ⟨X.K, X.mg, δ⟩ H3 μ3 v w → Res ⟨X.K, X.mg, δ⟩ (E σ) H3 μ3 (match lstS S3 w with | some ws => newK kp (cutW ws lo hi) S3 | none => .bad) (fun w H' μ' _ => ∀ v, Rp ⟨X.K, X.mg, δ⟩ H' μ' v w → Q v H') → rSlL X.K v lo hi H3 Q := fun {v w} rv h3 => by
      cases e : lstS S3 w with
      | none => rw [e] at h3; exact h3.elim
      | some ws =>
        rw [e] at h3
        obtain ⟨p, xs, rfl, hx, l, r⟩ := rv.lstS k3 e
        exact ⟨p, xs, rfl, .inl (.inl hx), fun p hp => newK_ok kp k3 h3 hp (Nat.le_trans (cutV_length _ _ _) l) (rps_cut r lo hi)⟩
    cases rv3 with
    | @tup a xs ws ht l r =>
      have h3 : Res ⟨X.K, X.mg, δ⟩ (E σ) H3 μ3 (.ok (.tup (cutW ws lo hi)) S3) (fun w H' μ' _ => ∀ v, Rp ⟨X.K, X.mg, δ⟩ H' μ' v w → Q v H') := h3
      refine .inl ⟨a, xs, rfl, ht.sq, fun hw => ?_, fun hw p o ho hp => ?_⟩
      · have ew : cutW ws lo hi = ws := by
          rw [r.len] at hw
          unfold cutW
          rw [hw.1, hw.2, List.drop_zero, Nat.sub_zero, List.take_length]
        rw [ew] at h3
        exact Res.now k3 h3 _ (.tup ht l r)
      · obtain ⟨g, k4, r4⟩ := new_tup k3 hp ho (Nat.le_trans (cutV_length _ _ _) l) (rps_cut r lo hi)
        exact h3 _ _ g k4 _ r4
    | cl hh n m l r => exact .inr (lists (.cl hh n m l r) h3)
    | lst hh hq => exact .inr (lists (.lst hh hq) h3)
    | _ => exact h3.elim⟩⟩⟩
/-- xs[::-1] -/
def fRev (kp : Kp) (w : W) : Mo W := fun S => match w with
  | .tup ws => .ok (.tup ws.reverse) S
  | w => match lstS S w with
    | some ws => newK kp ws.reverse S
    | none => .bad
def dRev (kp : Kp) (d : DE) : DE := fun ρ => bnd (d ρ) (fRev kp)
theorem de_rev (kp : Kp) {d : DE} {kk : Nat} {p1 p2 p3 : Pos} (ha : PD X E a d) : PD X E (.Subscript a (.Slice none none (some (.UnaryOp .USub (.Constant (.int 1) kk p1) p2)) p3) pos) (dRev kp d) := pe_of (pe_revN ha) fun σ H Q ⟨δ, μ, S, ρ, k, s, h⟩ =>
  ⟨δ, μ, S, ρ, k, s, Res.step h fun w S1 H1 μ1 g1 k1 h1 v rv => by
    have lists : ∀ {v : V} {w : W}, Rp ⟨X.K, X.mg, δ⟩ H1 μ1 v w → Res ⟨X.K, X.mg, δ⟩ (E σ) H1 μ1 (match lstS S1 w with | some ws => newK kp ws.reverse S1 | none => .bad) (fun w H' μ' _ => ∀ v, Rp ⟨X.K, X.mg, δ⟩ H' μ' v w → Q v H') → ∃ a xs, v = .ref a ∧ (SqL X.K H1 a xs ∧ ∀ p, H1 p = none → Q (.ref p) (upd H1 p (.lst xs.reverse))) := fun {v w} rv h3 => by
      cases e : lstS S1 w with
      | none => rw [e] at h3; exact h3.elim
      | some ws =>
        rw [e] at h3
        obtain ⟨p, xs, rfl, hx, l, r⟩ := rv.lstS k1 e
        exact ⟨p, xs, rfl, .inl (.inl hx), fun p hp => newK_ok kp k1 h3 hp (by rw [List.length_reverse]; exact l) r.rev⟩
    cases rv with
    | @tup a xs ws ht l r =>
      have h1 : Res ⟨X.K, X.mg, δ⟩ (E σ) H1 μ1 (.ok (.tup ws.reverse) S1) (fun w H' μ' _ => ∀ v, Rp ⟨X.K, X.mg, δ⟩ H' μ' v w → Q v H') := h1
      refine ⟨a, xs, rfl, .inr ⟨ht.sq, fun p o ho hp => ?_⟩⟩
      obtain ⟨g, k4, r4⟩ := new_tup k1 hp ho (by rw [List.length_reverse]; exact l) r.rev
      exact h1 _ _ g k4 _ r4
    | cl hh n m l r => obtain ⟨a, xs, e, h⟩ := lists (.cl hh n m l r) h1; exact ⟨a, xs, e, .inl h⟩
    | lst hh hq => obtain ⟨a, xs, e, h⟩ := lists (.lst hh hq) h1; exact ⟨a, xs, e, .inl h⟩
    | _ => exact h1.elim⟩
end
end Den

namespace Den
open PySem PySem.Spec PyProof.Rows L2 Bal
/-! ### targets -/
inductive Tg where
  | nm (i : Nat) | tp (ts : List Tg)
mutual
def gT (K : PySem.W.Frag) : Tg → TG
  | .nm i => gName i
  | .tp ts => fun v σ H Q => gTup K ts.length (gTs K ts) v σ H Q ∨ gLst K ts.length (gTs K ts) v σ H Q
def gTs (K : PySem.W.Frag) : List Tg → TGs
  | [] => gNil
  | t :: ts => gCons (gT K t) (gTs K ts)
end
mutual
def setT (S : Store) : Tg → W → En → Option En
  | .nm i, w, ρ => some (ρ.set i (some w))
  | .tp ts, w, ρ => match itmsS S w with
    | some ws => setTs S ts ws ρ
    | none => none
def setTs (S : Store) : List Tg → List W → En → Option En
  | [], [], ρ => some ρ
  | t :: ts, w :: ws, ρ => match setT S t w ρ with
    | some ρ1 => setTs S ts ws ρ1
    | none => none
  | _, _, _ => none
end
mutual
def slt : Tg → List Nat
  | .nm i => [i]
  | .tp ts => slts ts
def slts : List Tg → List Nat
  | [] => []
  | t :: ts => slt t ++ slts ts
end
theorem wipe_set (σ : L2.St) (i : Nat) (x : Option V) : ∀ vs : List Nat, i ∈ vs → wipe (σ.set i x) vs = wipe σ vs
  | [], h => by simp at h
  | v :: vs, h => by
    unfold wipe
    by_cases hv : i ∈ vs
    · rw [wipe_set σ i x vs hv]
    · have e : i = v := by
        rcases List.mem_cons.mp h with h | h
        · exact h
        · exact absurd h hv
      subst e
      clear h
      have h2 : ∀ (us : List Nat) (τ : L2.St), i ∉ us → wipe (τ.set i x) us = (wipe τ us).set i x := by
        intro us
        induction us with
        | nil => intro τ _; rfl
        | cons u us ih =>
          intro τ hu
          unfold wipe
          rw [ih τ (fun z => hu (List.mem_cons_of_mem _ z)), List.set_comm _ _ (fun z => hu (by rw [z]; exact List.mem_cons_self ..))]
      rw [h2 vs σ hv, List.set_set]
theorem wipe_wipe (σ : L2.St) : ∀ vs : List Nat, wipe (wipe σ vs) vs = wipe σ vs := by
  intro vs
  apply List.ext_getElem?
  intro i
  by_cases hi : i ∈ vs
  · have h : ∀ (us : List Nat) (τ : L2.St), i ∈ us → (wipe τ us)[i]? = if i < τ.length then some none else none := by
      intro us
      induction us with
      | nil => intro τ h; simp at h
      | cons u us ih =>
        intro τ h
        unfold wipe
        by_cases hu : u = i
        · subst hu
          by_cases hl : u < τ.length
          · rw [if_pos hl, List.getElem?_set_self (by rw [wipe_length]; exact hl)]
          · rw [if_neg hl, List.getElem?_eq_none (by rw [List.length_set, wipe_length]; omega)]
        · rw [List.getElem?_set_ne hu]
          exact ih τ ((List.mem_cons.mp h).elim (fun z => absurd z.symm hu) id)
    rw [h vs _ hi, h vs _ hi, wipe_length]
  · have h : ∀ (us : List Nat) (τ : L2.St), i ∉ us → (wipe τ us)[i]? = τ[i]? := by
      intro us
      induction us with
      | nil => intro τ _; rfl
      | cons u us ih =>
        intro τ h
        unfold wipe
        rw [List.getElem?_set_ne (fun z => h (by rw [z]; exact List.mem_cons_self ..))]
        exact ih τ fun z => h (List.mem_cons_of_mem _ z)
    rw [h vs _ hi]
section
variable {Γ : Gm} {H : Hp} {μ : List Addr} {S : Store}
theorem setTs_len : ∀ (ts : List Tg) (ws : List W) (ρ ρ' : En), setTs S ts ws ρ = some ρ' → ws.length = ts.length
  | [], [], _, _, _ => rfl
  | [], _ :: _, _, _, e => by unfold setTs at e; cases e
  | _ :: _, [], _, _, e => by unfold setTs at e; cases e
  | t :: ts, w :: ws, ρ, ρ', e => by
    unfold setTs at e
    cases e1 : setT S t w ρ with
    | none => rw [e1] at e; cases e
    | some ρ1 =>
      rw [e1] at e
      exact congrArg (· + 1) (setTs_len ts ws ρ1 ρ' e)
mutual
theorem gT_ok (k : Ok Γ H μ S) : ∀ (t : Tg) {v : V} {w : W} {σ : L2.St} {ρ ρ' : En} {Q : L2.St → Hp → Prop}, Rp Γ H μ v w → Rσ Γ H μ σ ρ → setT S t w ρ = some ρ' →
    (∀ σ', Rσ Γ H μ σ' ρ' → (∀ vs : List Nat, (∀ i ∈ slt t, i ∈ vs) → wipe σ' vs = wipe σ vs) → Q σ' H) → gT Γ.K t v σ H Q
  | .nm i, v, w, σ, ρ, ρ', Q, r, s, e, q => by
    unfold gT
    unfold setT at e
    cases e
    exact q _ (rσ_set s r) fun vs h => wipe_set σ i _ vs (h i (by unfold slt; exact List.mem_singleton.mpr rfl))
  | .tp ts, v, w, σ, ρ, ρ', Q, r, s, e, q => by
    unfold gT
    unfold setT at e
    cases e1 : itmsS S w with
    | none => rw [e1] at e; cases e
    | some ws =>
      rw [e1] at e
      have e : setTs S ts ws ρ = some ρ' := e
      obtain ⟨p, xs, rfl, hq, l, rs⟩ := r.seq k e1
      have h := gTs_ok k ts rs s e (Q := Q) fun σ' h1 h2 => q σ' h1 fun vs h => h2 vs (by unfold slt at h; exact h)
      have hl : xs.length = ts.length := rs.len.trans (setTs_len ts ws ρ ρ' e)
      rcases hq with hq | hq
      · exact .inl ⟨p, xs, rfl, hq, hl, h⟩
      · exact .inr ⟨p, xs, rfl, hq, hl, h⟩
theorem gTs_ok (k : Ok Γ H μ S) : ∀ (ts : List Tg) {vs : List V} {ws : List W} {σ : L2.St} {ρ ρ' : En} {Q : L2.St → Hp → Prop}, Rps Γ H μ vs ws → Rσ Γ H μ σ ρ → setTs S ts ws ρ = some ρ' →
    (∀ σ', Rσ Γ H μ σ' ρ' → (∀ us : List Nat, (∀ i ∈ slts ts, i ∈ us) → wipe σ' us = wipe σ us) → Q σ' H) → gTs Γ.K ts vs σ H Q
  | [], vs, ws, σ, ρ, ρ', Q, rs, s, e, q => by
    cases rs with
    | nil =>
      unfold setTs at e
      cases e
      unfold gTs
      exact ⟨rfl, q σ s fun _ _ => rfl⟩
    | cons a b => unfold setTs at e; cases e
  | t :: ts, vs, ws, σ, ρ, ρ', Q, rs, s, e, q => by
    cases rs with
    | nil => unfold setTs at e; cases e
    | @cons v vs w ws a b =>
      unfold setTs at e
      cases e1 : setT S t w ρ with
      | none => rw [e1] at e; cases e
      | some ρ1 =>
        rw [e1] at e
        have e : setTs S ts ws ρ1 = some ρ' := e
        unfold gTs
        refine ⟨v, vs, rfl, gT_ok k t a s e1 fun σ' h1 h2 => ?_⟩
        exact gTs_ok k ts b h1 e fun σ2 h3 h4 => q σ2 h3 fun us h => by
          rw [h4 us (fun i hi => h i (by unfold slts; exact List.mem_append_right _ hi)), h2 us (fun i hi => h i (by unfold slts; exact List.mem_append_left _ hi))]
end
end
/-! ### the rules of targets -/
section
variable {X : Cx} {pos : Pos}
theorem PG.or {tg : Expr} {t t' : TG} (h : PG X tg t) (h' : PG X tg t') : PG X tg (fun v σ H Q => t v σ H Q ∨ t' v σ H Q) := ⟨fun pins s σ H v u Q I r hw => hw.elim (h.run pins s σ H v u Q I r) (h'.run pins s σ H v u Q I r)⟩
theorem pg_of {tg : Expr} {t t' : TG} (h : PG X tg t) (f : ∀ v σ H Q, t' v σ H Q → t v σ H Q) : PG X tg t' := ⟨fun pins s σ H v u Q I r hw => h.run pins s σ H v u Q I r (f _ _ _ _ hw)⟩
theorem pgs_of {tg : List Expr} {t t' : TGs} (h : PGs X tg t) (f : ∀ v σ H Q, t' v σ H Q → t v σ H Q) : PGs X tg t' := ⟨fun pins s σ H v u Q I r hw => h.run pins s σ H v u Q I r (f _ _ _ _ hw)⟩
theorem dg_nm (i : Nat) {x : Str} (hN : X.N.Nodup) (hi : X.N[i]? = some x := by rfl) (hx : Loc X.env.scope x := by first | exact .inl rfl | exact .inr rfl) (hf : X.fn x = true ∨ X.env.scope.names.lookup x = some .local := by first | exact .inl rfl | exact .inr rfl | assumption) : PG X (.Name x pos) (gT X.K (.nm i)) :=
  pg_of (pg_name hN hi hx hf) fun v σ H Q h => by unfold gT at h; exact h
theorem dgs_nil : PGs X [] (gTs X.K []) := pgs_of pgs_nil fun v σ H Q h => by unfold gTs at h; exact h
theorem dgs_cons {e : Expr} {es : List Expr} {t : Tg} {ts : List Tg} (h1 : PG X e (gT X.K t)) (h2 : PGs X es (gTs X.K ts)) (hs : (assignEach (e :: es) X.env).map (·.2) = assign e X.env :: (assignEach es X.env).map (·.2) := by rfl) : PGs X (e :: es) (gTs X.K (t :: ts)) :=
  pgs_of (pgs_cons h1 h2 hs) fun v σ H Q h => by unfold gTs at h; exact h
theorem dg_tp {es : List Expr} {k : Nat} {ts : List Tg} (hc : X.calm = true) (h : PGs X es (gTs X.K ts)) (hn : (assignEach es X.env).length = ts.length := by rfl) (hst : (assignEach es X.env).findIdx? (·.1) = none := by rfl) : PG X (.Tuple es k pos) (gT X.K (.tp ts)) :=
  pg_of (PG.or (pg_tup hc h hn hst) (pg_lst hc h hn hst)) fun v σ H Q h => by unfold gT at h; exact h
end
/-! ### equal values -/
mutual
def eqW : W → W → Bool
  | .non, .non => true
  | .bl a, .bl b => a == b
  | .int a, .int b => a == b
  | .str a, .str b => a == b
  | .tup a, .tup b => eqWs a b
  | .cl a, .cl b => eqWs a b
  | .sc a, .sc b => eqWs a b
  | .lst a, .lst b => a == b
  | .dct a, .dct b => a == b
  | .dtt a, .dtt b => a == b
  | .ins a, .ins b => a == b
  | .exn a b c, .exn d e f => a == d && (b == e && eqWs c f)
  | .lam a b c x y, .lam d e f z u => (a == d && (b == e && (c == f && x == z))) && eqWs y u
  | _, _ => false
def eqWs : List W → List W → Bool
  | [], [] => true
  | a :: r, b :: t => eqW a b && eqWs r t
  | _, _ => false
end
mutual
theorem eqW_to : ∀ (a b : W), eqW a b = true → a = b
  | .non, b, h => by cases b <;> simp [eqW] at h ⊢
  | .bl x, b, h => by cases b <;> simp [eqW] at h ⊢; exact h
  | .int x, b, h => by cases b <;> simp [eqW] at h ⊢; exact h
  | .str x, b, h => by cases b <;> simp [eqW] at h ⊢; exact h
  | .tup x, b, h => by cases b <;> simp [eqW] at h ⊢; exact eqWs_to _ _ h
  | .cl x, b, h => by cases b <;> simp [eqW] at h ⊢; exact eqWs_to _ _ h
  | .sc x, b, h => by cases b <;> simp [eqW] at h ⊢; exact eqWs_to _ _ h
  | .lst x, b, h => by cases b <;> simp [eqW] at h ⊢; exact h
  | .dct x, b, h => by cases b <;> simp [eqW] at h ⊢; exact h
  | .dtt x, b, h => by cases b <;> simp [eqW] at h ⊢; exact h
  | .ins x, b, h => by cases b <;> simp [eqW] at h ⊢; exact h
  | .exn x y z, b, h => by cases b <;> simp [eqW] at h ⊢; exact ⟨h.1, h.2.1, eqWs_to _ _ h.2.2⟩
  | .lam x y z u v, b, h => by cases b <;> simp [eqW] at h ⊢; exact ⟨h.1.1, h.1.2.1, h.1.2.2.1, h.1.2.2.2, eqWs_to _ _ h.2⟩
theorem eqWs_to : ∀ (a b : List W), eqWs a b = true → a = b
  | [], b, h => by cases b <;> simp [eqWs] at h ⊢
  | x :: r, b, h => by
    cases b with
    | nil => simp [eqWs] at h
    | cons y t =>
      simp [eqWs] at h
      rw [eqW_to _ _ h.1, eqWs_to _ _ h.2]
end
mutual
theorem eqW_rfl : ∀ a : W, eqW a a = true
  | .non => by simp [eqW]
  | .bl x => by simp [eqW]
  | .int x => by simp [eqW]
  | .str x => by simp [eqW]
  | .tup x => by simp [eqW, eqWs_rfl x]
  | .cl x => by simp [eqW, eqWs_rfl x]
  | .sc x => by simp [eqW, eqWs_rfl x]
  | .lst x => by simp [eqW]
  | .dct x => by simp [eqW]
  | .dtt x => by simp [eqW]
  | .ins x => by simp [eqW]
  | .exn x y z => by simp [eqW, eqWs_rfl z]
  | .lam x y z u v => by simp [eqW, eqWs_rfl v]
theorem eqWs_rfl : ∀ a : List W, eqWs a a = true
  | [] => by simp [eqWs]
  | x :: r => by simp [eqWs, eqW_rfl x, eqWs_rfl r]
end
/-- these lists of the store are as they were -/
def kept (S0 S : Store) : List Nat → Bool
  | [] => true
  | n :: ns => (match S0[n]?, S[n]? with
    | some a, some b => eqWs a b
    | _, _ => false) && kept S0 S ns
theorem kept_to {S0 S : Store} : ∀ {ns : List Nat}, kept S0 S ns = true → ∀ n ∈ ns, S[n]? = S0[n]?
  | [], _, n, h => by simp at h
  | m :: ns, e, n, h => by
    unfold kept at e
    obtain ⟨e1, e2⟩ := Bool.and_eq_true_iff.mp e
    rcases List.mem_cons.mp h with h | h
    · subst h
      cases h1 : S0[n]? with
      | none => rw [h1] at e1; cases e1
      | some a =>
        cases h2 : S[n]? with
        | none => rw [h1, h2] at e1; cases e1
        | some b => rw [h1, h2] at e1; rw [eqWs_to _ _ e1]
    · exact kept_to e2 n h
theorem kept_of {S0 S : Store} : ∀ {ns : List Nat}, (∀ n ∈ ns, n < S0.length ∧ S[n]? = S0[n]?) → kept S0 S ns = true
  | [], _ => rfl
  | m :: ns, h => by
    unfold kept
    obtain ⟨h1, h2⟩ := h m (List.mem_cons_self ..)
    rw [h2, List.getElem?_eq_getElem h1, kept_of fun n hn => h n (List.mem_cons_of_mem _ hn)]
    simp only [eqWs_rfl, Bool.and_self]
@[simp] theorem kept_nil {S0 S : Store} : kept S0 S [] = true := rfl
/-! ### what is walked -/
def Srv (Γ : Gm) (J : It) (ws : List W) (keep : List Nat) (H0 : Hp) (μ0 : List Addr) (S0 : Store) : Prop := ws.length ≤ sizeLine ∧ ∀ {Γ' : Gm} H μ S, Γ'.K = Γ.K → Gr H0 μ0 H μ → Ok Γ' H μ S → (∀ n ∈ keep, S[n]? = S0[n]?) → (∀ v w, Rp Γ H0 μ0 v w → Rp Γ' H μ v w) →
  (∀ i, i < ws.length → J.go i H ∧ ∀ x H', J.yld i H x H' → ∃ w, ws[i]? = some w ∧ Same H H' ∧ Rp Γ' H' μ x w) ∧ J.stop ws.length H
abbrev DI := En → Mo (List W × List Nat)
def iOf (K : PySem.W.Frag) (mg : Str → Option Value) (E : L2.St → XK) (d : DI) : TI := fun σ H R => ∃ δ μ S ρ, Ok ⟨K, mg, δ⟩ H μ S ∧ Rσ ⟨K, mg, δ⟩ H μ σ ρ ∧ Res ⟨K, mg, δ⟩ (E σ) H μ (d ρ S) fun x H' μ' S' => ∀ J, Srv ⟨K, mg, δ⟩ J x.1 x.2 H' μ' S' → R J H'
theorem pi_of {X : Cx} {tg it : Expr} {t t' : TI} (h : PI X tg it t) (f : ∀ σ H R, t' σ H R → t σ H R) : PI X tg it t' := ⟨fun pins s σ H R I q => h.run pins s σ H R I (f σ H R q)⟩
def seqI (S : Store) : W → Option (List W × List Nat)
  | .tup ws => some (ws, [])
  | .cl ws => some (ws, [])
  | .lst n => (S[n]?).map fun ws => (ws, [n])
  | _ => none
def rdI (g : Store → Option (List W × List Nat)) : Mo (List W × List Nat) := fun S => match g S with
  | some x => .ok x S
  | none => .bad
/-- a list or a tuple -/
def iSeq (d : DE) : DI := fun ρ => bnd (d ρ) fun w => rdI fun S => seqI S w
section
variable {X : Cx} {E : L2.St → XK} {tg a : Expr}
theorem srv_tup {Γ : Gm} {H0 : Hp} {μ0 : List Addr} {S0 : Store} {p : Addr} {xs : List V} {ws : List W} (h : TupAt Γ H0 μ0 p xs) (l : xs.length ≤ sizeLine) (r : Rps Γ H0 μ0 xs ws) : Srv Γ (Itt Γ.K p) ws [] H0 μ0 S0 := by
  refine ⟨by rw [← r.len]; exact l, fun {Γ'} H μ S hK g k _ up => ?_⟩
  have h1 : SqT Γ.K H p xs := by
    have h0 := up (.ref p) (.tup ws) (.tup h l r)
    have := h.gr g
    exact this.sq
  refine ⟨fun i hi => ⟨⟨xs, xs[i]'(by rw [r.len]; exact hi), h1, List.getElem?_eq_getElem _⟩, fun x H' y => ?_⟩, ⟨xs, h1, by rw [r.len]; exact Nat.le_refl _⟩⟩
  obtain ⟨e, y⟩ := y
  subst e
  obtain ⟨w, e1, r1⟩ := r.get (y xs h1)
  exact ⟨w, e1, Same.refl _, up _ _ r1⟩
theorem srv_cl {Γ : Gm} {H0 : Hp} {μ0 : List Addr} {S0 : Store} {p : Addr} {xs : List V} {ws : List W} (h : H0 p = some (.lst xs)) (n : p ∉ μ0) (l : xs.length ≤ sizeLine) (r : Rps Γ H0 μ0 xs ws) : Srv Γ (Itl Γ.K p) ws [] H0 μ0 S0 := by
  refine ⟨by rw [← r.len]; exact l, fun {Γ'} H μ S hK g k _ up => ?_⟩
  have h1 : SqL Γ.K H p xs := .inl (.inl (g.keep _ _ h n).1)
  refine ⟨fun i hi => ⟨⟨xs, xs[i]'(by rw [r.len]; exact hi), h1, List.getElem?_eq_getElem _⟩, fun x H' y => ?_⟩, ⟨xs, h1, by rw [r.len]; exact Nat.le_refl _⟩⟩
  obtain ⟨e, y⟩ := y
  subst e
  obtain ⟨w, e1, r1⟩ := r.get (y xs h1)
  exact ⟨w, e1, Same.refl _, up _ _ r1⟩
theorem srv_lst {Γ : Gm} {H0 : Hp} {μ0 : List Addr} {S0 : Store} {n : Nat} {p : Addr} {ws : List W} (e0 : μ0[n]? = some p) (hq : Kd_ H0 p 0) (es : S0[n]? = some ws) (hl : ws.length ≤ sizeLine) : Srv Γ (Itl Γ.K p) ws [n] H0 μ0 S0 := by
  refine ⟨hl, fun {Γ'} H μ S hK g k hk up => ?_⟩
  have en := g.get e0
  obtain ⟨xs, us, e1, e2, l, r⟩ := k.lat en (g.kind _ _ (List.mem_of_getElem? e0) hq)
  rw [hk n (List.mem_singleton.mpr rfl), es] at e1
  cases e1
  have h1 : SqL Γ.K H p xs := .inl (.inl e2)
  refine ⟨fun i hi => ⟨⟨xs, xs[i]'(by rw [r.len]; exact hi), h1, List.getElem?_eq_getElem _⟩, fun x H' y => ?_⟩, ⟨xs, h1, by rw [r.len]; exact Nat.le_refl _⟩⟩
  obtain ⟨e, y⟩ := y
  subst e
  obtain ⟨w, e1, r1⟩ := r.get (y xs h1)
  exact ⟨w, e1, Same.refl _, r1⟩
theorem di_seq {d : DE} (h : PD X E a d) : PI X tg a (iOf X.K X.mg E (iSeq d)) := pi_of (pi_ei h) fun σ H R ⟨δ, μ, S, ρ, k, s, h⟩ =>
  ⟨δ, μ, S, ρ, k, s, Res.step h fun w S1 H1 μ1 g1 k1 h1 v rv => by
    unfold rdI at h1
    cases rv with
    | tup hh l r => exact ⟨_, rfl, .inr ⟨⟨_, hh.sq⟩, Res.now k1 h1 _ (srv_tup hh l r)⟩⟩
    | cl hh n m l r => exact ⟨_, rfl, .inl ⟨⟨_, .inl (.inl hh)⟩, Res.now k1 h1 _ (srv_cl hh n l r)⟩⟩
    | @lst a n hh hq =>
      obtain ⟨xs, ws, e1, e2, l, r⟩ := k1.lat hh hq
      have es : seqI S1 (.lst n) = some (ws, [n]) := by
        show (S1[n]?).map _ = _
        rw [e1]
        rfl
      simp only [es] at h1
      exact ⟨_, rfl, .inl ⟨⟨_, .inl (.inl e2)⟩, Res.now k1 h1 _ (srv_lst hh hq e1 (by rw [← r.len]; exact l))⟩⟩
    | _ => exact h1.elim⟩
/-- range(n), range(m, n) -/
def rgW (lo n : Int) : List W := (List.range (n - lo).toNat).map fun i : Nat => .int (lo + i)
def iRg1 (d : DA) : DI := fun ρ => bnd (d ρ) fun ws => rdI fun _ => match ws with
  | [.int n] => if szB n.toNat && decide (-1000000000 ≤ n) then some (rgW 0 n, []) else none
  | _ => none
def iRg2 (d : DA) : DI := fun ρ => bnd (d ρ) fun ws => rdI fun _ => match ws with
  | [.int m, .int n] => if szB (n - m).toNat && decide (-1000000000 ≤ n ∧ n ≤ 1000000000 ∧ -1000000000 ≤ m ∧ m ≤ 1000000000) then some (rgW m n, []) else none
  | _ => none
theorem srv_rg {Γ : Gm} {H0 : Hp} {μ0 : List Addr} {S0 : Store} {lo n : Int} (hz : (n - lo).toNat ≤ sizeLine) : Srv Γ (Itr lo (n - lo).toNat) (rgW lo n) [] H0 μ0 S0 := by
  have hl : (rgW lo n).length = (n - lo).toNat := by unfold rgW; rw [List.length_map, List.length_range]
  refine ⟨by rw [hl]; exact hz, fun {Γ'} H μ S hK g k _ up => ?_⟩
  rw [hl]
  refine ⟨fun i hi => ⟨hi, fun x H' y => ?_⟩, Nat.le_refl _⟩
  obtain ⟨e, rfl⟩ := y
  subst e
  refine ⟨.int (lo + i), ?_, Same.refl _, .int _⟩
  unfold rgW
  rw [List.getElem?_map, List.getElem?_range hi]
  rfl
theorem di_rg1 {d : DA} {p pos : Pos} (hg : Gl X "range") (hm : X.mg "range" = none) (ha : PDA X E [a] d) (hs : starEach [a] X.env = [(false, eval a X.env)] := by rfl) : PI X tg (.Call (.Name "range" p) [a] [] pos) (iOf X.K X.mg E (iRg1 d)) := pi_of (pi_range1 hg hm ha hs) fun σ H R ⟨δ, μ, S, ρ, k, s, h⟩ =>
  ⟨δ, μ, S, ρ, k, s, Res.step h fun ws S1 H1 μ1 g1 k1 h1 vs rs => by
    unfold rdI at h1
    match ws, h1 with
    | [.int n], h1 =>
      obtain ⟨v, rfl, rx⟩ := rs.one rfl
      cases rx
      by_cases hz : (szB n.toNat && decide (-1000000000 ≤ n)) = true
      · simp only [hz, if_true] at h1
        obtain ⟨h2, h3⟩ := Bool.and_eq_true_iff.mp hz
        have h3 := of_decide_eq_true h3
        have h4 := of_decide_eq_true h2
        refine ⟨n, rfl, by omega, by omega, ?_⟩
        have q := Res.now k1 h1 (Itr 0 n.toNat) (by
          have z := srv_rg (Γ := ⟨X.K, X.mg, δ⟩) (H0 := H1) (μ0 := μ1) (S0 := S1) (lo := 0) (n := n) (by rw [Int.sub_zero]; exact sz_ok h2)
          rw [Int.sub_zero] at z
          exact z)
        exact q
      · simp only [hz] at h1
        exact h1.elim⟩
theorem di_rg2 {b : Expr} {d : DA} {p pos : Pos} (hg : Gl X "range") (hm : X.mg "range" = none) (ha : PDA X E [a, b] d) (hs : starEach [a, b] X.env = [(false, eval a X.env), (false, eval b X.env)] := by rfl) (hs2 : starEach [b] X.env = [(false, eval b X.env)] := by rfl) : PI X tg (.Call (.Name "range" p) [a, b] [] pos) (iOf X.K X.mg E (iRg2 d)) := pi_of (pi_range2 hg hm ha hs hs2) fun σ H R ⟨δ, μ, S, ρ, k, s, h⟩ =>
  ⟨δ, μ, S, ρ, k, s, Res.step h fun ws S1 H1 μ1 g1 k1 h1 vs rs => by
    unfold rdI at h1
    match ws, h1 with
    | [.int m, .int n], h1 =>
      obtain ⟨v, u, rfl, rx, ry⟩ := rs.two rfl
      cases rx; cases ry
      by_cases hz : (szB (n - m).toNat && decide (-1000000000 ≤ n ∧ n ≤ 1000000000 ∧ -1000000000 ≤ m ∧ m ≤ 1000000000)) = true
      · simp only [hz, if_true] at h1
        obtain ⟨h2, h3⟩ := Bool.and_eq_true_iff.mp hz
        have h3 := of_decide_eq_true h3
        exact ⟨m, n, rfl, ⟨by omega, by omega, by omega, by omega⟩, Res.now k1 h1 _ (srv_rg (sz_ok h2))⟩
      · simp only [hz] at h1
        exact h1.elim⟩
end
end Den

namespace Den
open PySem PySem.Spec PyProof.Rows L2 Bal
abbrev noE : L2.St → XK := fun _ _ _ _ => False
theorem not_app {a D : Addr} {μ δ : List Addr} (n : a ∉ μ) (m : a ∉ D :: δ) : a ∉ μ ++ [D] := fun z => by
  rcases List.mem_append.mp z with z | z
  · exact n z
  · rw [List.mem_singleton] at z
    exact m (by rw [z]; exact List.mem_cons_self ..)
mutual
theorem rp_put {Γ : Gm} {H : Hp} {μ : List Addr} {D : Addr} : ∀ {v : V} {w : W}, Rp (Γ.und D) H μ v w → Rp Γ H (μ ++ [D]) v w
  | _, _, .non => .non
  | _, _, .bl b => .bl b
  | _, _, .int i => .int i
  | _, _, .str x => .str x
  | _, _, .tup h l r => .tup (h.imp (fun ⟨e, n, m⟩ => ⟨e, not_app n m, fun z => m (List.mem_cons_of_mem _ z)⟩) id) l (rps_put r)
  | _, _, .cl h n m l r => .cl h (not_app n m) (fun z => m (List.mem_cons_of_mem _ z)) l (rps_put r)
  | _, _, .sc h r => .sc (h.imp (fun ⟨e, n, m⟩ => ⟨e, not_app n m, fun z => m (List.mem_cons_of_mem _ z)⟩) id) (rps_put r)
  | _, _, .lst h q => .lst (by rw [List.getElem?_append_left (List.getElem?_eq_some_iff.mp h).1]; exact h) q
  | _, _, .dct h q => .dct (by rw [List.getElem?_append_left (List.getElem?_eq_some_iff.mp h).1]; exact h) q
  | _, _, .dtt h q => .dtt (by rw [List.getElem?_append_left (List.getElem?_eq_some_iff.mp h).1]; exact h) q
  | _, _, .ins h q m => .ins (by rw [List.getElem?_append_left (List.getElem?_eq_some_iff.mp h).1]; exact h) q m
  | _, _, .exn m h n z hd nd zd l r => .exn m h (not_app n z) (fun y => z (List.mem_cons_of_mem _ y)) hd (not_app nd zd) (fun y => zd (List.mem_cons_of_mem _ y)) l (rps_put r)
  | _, _, .exn0 m h n z => .exn0 m h (not_app n z) (fun y => z (List.mem_cons_of_mem _ y))
  | _, _, .lam h n z r => .lam h (not_app n z) (fun y => z (List.mem_cons_of_mem _ y)) (rps_put r)
theorem rps_put {Γ : Gm} {H : Hp} {μ : List Addr} {D : Addr} : ∀ {vs : List V} {ws : List W}, Rps (Γ.und D) H μ vs ws → Rps Γ H (μ ++ [D]) vs ws
  | _, _, .nil => .nil
  | _, _, .cons a b => .cons (rp_put a) (rps_put b)
end
/-! ### comprehensions -/
def lcL (t : Tg) (tt : DT) (de : DE) (ρ : En) (S0 : Store) (keep : List Nat) : List W → Store → Out (List W)
  | [], S => .ok [] S
  | w :: ws, S => match setT S t w ρ with
    | none => .bad
    | some ρ1 => match tt ρ1 S with
      | .ok true S2 => match de ρ1 S2 with
        | .ok u S3 => if kept S0 S3 keep = true then (match lcL t tt de ρ S0 keep ws S3 with
            | .ok us S4 => .ok (u :: us) S4
            | _ => .bad) else .bad
        | _ => .bad
      | .ok false S2 => if kept S0 S2 keep = true then lcL t tt de ρ S0 keep ws S2 else .bad
      | _ => .bad
def dLc (kp : Kp) (vs : List Nat) (di : DI) (t : Tg) (tt : DT) (de : DE) : DE := fun ρ => bnd (di ρ) fun x => fun S1 => match lcL t tt de (wipeW ρ vs) S1 x.2 x.1 S1 with
  | .ok us S2 => newK kp us S2
  | _ => .bad
def dYes : DT := fun _ => ret true
section
variable {X : Cx} {E : L2.St → XK}
abbrev PDTs (X : Cx) (E : L2.St → XK) (es : List Expr) (d : DT) : Prop := PTs X es (ttOf X.K X.mg E d)
theorem dts_nil : PDTs X E [] dYes := ⟨fun pins s σ H Q I ⟨δ, μ, S, ρ, k, s', h⟩ => pts_nil.run pins s σ H Q I (Res.now k h)⟩
theorem dts_one {c : Expr} {d : DT} (h : PDT X E c d) : PDTs X E [c] d := pts_one h
theorem lc_ok {K : PySem.W.Frag} {mg : Str → Option Value} {kp : Kp} {vs : List Nat} {di : DI} {t : Tg} {tt : DT} {de : DE} {σ : L2.St} {H : Hp} {Q : VK} (hv : ∀ i ∈ slt t, i ∈ vs) (h : tOf K mg E (dLc kp vs di t tt de) σ H Q) :
    tLc (iOf K mg E di) (gT K t) (ttOf K mg noE tt) (tOf K mg noE de) vs σ H Q := by
  obtain ⟨δ, μ, S, ρ, k, s, h⟩ := h
  refine ⟨δ, μ, S, ρ, k, s, Res.step h fun x S1 H1 μ1 g1 k1 h1 J srv D nD => ?_⟩
  have s1 := rσ_gr g1 s
  obtain ⟨hlen, srv⟩ := srv
  cases e : lcL t tt de (wipeW ρ vs) S1 x.2 x.1 S1 with
  | bad => simp only [e] at h1; exact h1.elim
  | err _ _ _ _ => simp only [e] at h1; exact h1.elim
  | ok us S2 =>
    simp only [e] at h1
    have ΓD : Gm := (⟨K, mg, δ⟩ : Gm).und D
    -- the invariant: so many are done, their values in D; the rest is still to be gone through
    refine lc_gen (n := x.1.length) (fun i G => ∃ (μ2 : List Addr) (S3 : Store) (ys : List V) (done rest : List W), Ok ((⟨K, mg, δ⟩ : Gm).und D) G μ2 S3 ∧ Gr H1 μ1 G μ2 ∧ (∀ v w, Rp ⟨K, mg, δ⟩ H1 μ1 v w → Rp ((⟨K, mg, δ⟩ : Gm).und D) G μ2 v w) ∧ (∀ n ∈ x.2, S3[n]? = S1[n]?) ∧
        G D = some (.lst ys) ∧ Rps ((⟨K, mg, δ⟩ : Gm).und D) G μ2 ys done ∧ done.length ≤ i ∧ lcL t tt de (wipeW ρ vs) S1 x.2 (x.1.drop i) S3 = .ok rest S2 ∧ us = done ++ rest)
      ⟨μ1, S1, [], [], us, k1.into nD, ⟨⟨[], by simp⟩, fun a o ha hn _ => ⟨by rw [upd_ne (ne_of_none ha nD)]; exact ha, hn⟩, fun a k _ q => kd_new nD q, fun a o u _ e => by rw [upd_ne (ne_of_none e nD)]; exact e⟩, fun v w r => r.into nD, fun _ _ => rfl, upd_same, .nil, Nat.zero_le _, by rw [List.drop_zero]; exact e, rfl⟩
      (fun i G hi ⟨μ2, S3, ys, done, rest, k2, g2, up, hk, hD, rs, dl, e2, eu⟩ => ?_) (fun G ⟨μ2, S3, ys, done, rest, k2, g2, up, hk, hD, rs, dl, e2, eu⟩ => ?_) (fun i G v G2 hi ⟨μ2, S3, ys, done, rest, k2, g2, up, hk, hD, rs, dl, e2, eu⟩ hy => ?_) (fun G ⟨μ2, S3, ys, done, rest, k2, g2, up, hk, hD, rs, dl, e2, eu⟩ => ?_)
    · exact ((srv (Γ' := (⟨K, mg, δ⟩ : Gm).und D) G μ2 S3 rfl g2 k2 hk up).1 i hi).1
    · exact (srv (Γ' := (⟨K, mg, δ⟩ : Gm).und D) G μ2 S3 rfl g2 k2 hk up).2
    · obtain ⟨w, ew, sG, rw⟩ := ((srv (Γ' := (⟨K, mg, δ⟩ : Gm).und D) G μ2 S3 rfl g2 k2 hk up).1 i hi).2 v G2 hy
      have ed : x.1.drop i = w :: x.1.drop (i + 1) := by
        have := List.getElem?_eq_some_iff.mp ew
        rw [← this.2, List.drop_eq_getElem_cons hi]
      rw [ed] at e2
      unfold lcL at e2
      obtain ⟨k3, g3⟩ := k2.same sG
      have hD3 := sG _ _ hD
      cases e3 : setT S3 t w (wipeW ρ vs) with
      | none => simp only [e3] at e2; cases e2
      | some ρ1 =>
        simp only [e3] at e2
        have sw : Rσ ((⟨K, mg, δ⟩ : Gm).und D) G2 μ2 (wipe σ vs) (wipeW ρ vs) := rσ_wipeW ⟨s1.1, fun i w hw => let ⟨v, h1, h2⟩ := s1.2 i w hw; ⟨v, h1, (up v w h2).gr g3⟩⟩
        refine gT_ok (Γ := (⟨K, mg, δ⟩ : Gm).und D) k3 t rw sw e3 fun σ2 s2 hw => ⟨by rw [hw vs hv, wipe_wipe], ?_⟩
        -- what every way from here comes to
        have fin : ∀ (G4 : Hp) (μ4 : List Addr) (S4 : Store) (y : V) (u : W), Gr G2 μ2 G4 μ4 → Ok ((⟨K, mg, δ⟩ : Gm).und D) G4 μ4 S4 → Rp ((⟨K, mg, δ⟩ : Gm).und D) G4 μ4 y u → ∀ rest', lcL t tt de (wipeW ρ vs) S1 x.2 (x.1.drop (i + 1)) S4 = .ok rest' S2 → rest = u :: rest' → kept S1 S4 x.2 = true → ∃ acc, G4 D = some (.lst acc) ∧ acc.length < sizeLine ∧ ∃ (μ2 : List Addr) (S3 : Store) (ys : List V) (done rest : List W), Ok ((⟨K, mg, δ⟩ : Gm).und D) (upd G4 D (.lst (acc ++ [y]))) μ2 S3 ∧ Gr H1 μ1 (upd G4 D (.lst (acc ++ [y]))) μ2 ∧ (∀ v w, Rp ⟨K, mg, δ⟩ H1 μ1 v w → Rp ((⟨K, mg, δ⟩ : Gm).und D) (upd G4 D (.lst (acc ++ [y]))) μ2 v w) ∧ (∀ n ∈ x.2, S3[n]? = S1[n]?) ∧
            (upd G4 D (.lst (acc ++ [y]))) D = some (.lst ys) ∧ Rps ((⟨K, mg, δ⟩ : Gm).und D) (upd G4 D (.lst (acc ++ [y]))) μ2 ys done ∧ done.length ≤ i + 1 ∧ lcL t tt de (wipeW ρ vs) S1 x.2 (x.1.drop (i + 1)) S3 = .ok rest S2 ∧ us = done ++ rest := fun G4 μ4 S4 y u g4 k4 ry rest' e4 er hkp => by
          have mD : D ∈ ((⟨K, mg, δ⟩ : Gm).und D).δ := List.mem_cons_self ..
          have nDμ : D ∉ μ2 := (k2.dl D mD).2
          have hD4 := (g4.keep _ _ hD3 nDμ).1
          have nD4 := (g4.keep _ _ hD3 nDμ).2
          refine ⟨ys, hD4, ?_, μ4, S4, ys ++ [y], done ++ [u], rest', k4.at_D mD, ?_, fun v w r => Rp.at_ mD nD4 (((up v w r).gr g3).gr g4), fun n hn => kept_to hkp n hn, upd_same, ?_, by rw [List.length_append]; simp; omega, e4, by rw [eu, er, List.append_assoc]; rfl⟩
          · rw [rs.len]
            omega
          · have gg := g2.trans (g3.trans g4)
            exact ⟨gg.pre, fun a o ha hn nt => ⟨by rw [upd_ne (ne_of_none ha nD)]; exact (gg.keep a o ha hn nt).1, (gg.keep a o ha hn nt).2⟩, fun a k m ⟨u, eu, qu⟩ => let ⟨u', e', q'⟩ := gg.kind a k m ⟨u, eu, qu⟩; ⟨u', by rw [upd_ne (ne_of_none eu nD)]; exact e', q'⟩, fun a o u m eu => by rw [upd_ne (ne_of_none eu nD)]; exact gg.frz a o u m eu⟩
          · exact Rps.at_ mD nD4 (((rs.gr g3).gr g4).app (.cons ry .nil))
        cases e4 : tt ρ1 S3 with
        | bad => simp only [e4] at e2; cases e2
        | err _ _ _ _ => simp only [e4] at e2; cases e2
        | ok b S4 =>
          simp only [e4] at e2
          refine ⟨D :: δ, μ2, S3, ρ1, k3, s2, ?_⟩
          rw [e4]
          intro G4 μ4 g4 k4
          cases b with
          | true =>
            rw [if_pos rfl]
            cases e5 : de ρ1 S4 with
            | bad => simp only [e5] at e2; cases e2
            | err _ _ _ _ => simp only [e5] at e2; cases e2
            | ok u S5 =>
              simp only [e5] at e2
              refine ⟨D :: δ, μ4, S4, ρ1, k4, rσ_gr g4 s2, ?_⟩
              rw [e5]
              intro G5 μ5 g5 k5 y ry
              by_cases hkp : kept S1 S5 x.2 = true
              · rw [if_pos hkp] at e2
                cases e6 : lcL t tt de (wipeW ρ vs) S1 x.2 (x.1.drop (i + 1)) S5 with
                | bad => simp only [e6] at e2; cases e2
                | err _ _ _ _ => simp only [e6] at e2; cases e2
                | ok us' S6 =>
                  simp only [e6] at e2
                  cases e2
                  exact fin G5 μ5 S5 y u (g4.trans g5) k5 ry us' e6 rfl hkp
              · rw [if_neg hkp] at e2
                cases e2
          | false =>
            rw [if_neg (by decide)]
            by_cases hkp : kept S1 S4 x.2 = true
            · simp only [hkp, if_true] at e2
              have mD : D ∈ ((⟨K, mg, δ⟩ : Gm).und D).δ := List.mem_cons_self ..
              have nDμ : D ∉ μ2 := (k2.dl D mD).2
              exact ⟨μ4, S4, ys, done, rest, k4, g2.trans (g3.trans g4), fun v w r => ((up v w r).gr g3).gr g4, fun n hn => kept_to hkp n hn, (g4.keep _ _ hD3 nDμ).1, (rs.gr g3).gr g4, by omega, e2, eu⟩
            · simp only [hkp, if_false] at e2
              cases e2
    · rw [List.drop_length] at e2
      unfold lcL at e2
      cases e2
      rw [List.append_nil] at eu
      subst eu
      have mD : D ∈ ((⟨K, mg, δ⟩ : Gm).und D).δ := List.mem_cons_self ..
      have nDμ : D ∉ μ2 := (k2.dl D mD).2
      have nDδ : D ∉ δ := fun z => (k1.nδ nD) z
      have hl : ys.length ≤ sizeLine := by rw [rs.len]; omega
      cases kp with
      | cl => exact h1 _ _ g2 k2.out _ (.cl hD nDμ nDδ hl rs.out)
      | st =>
        -- D itself becomes the last list of the store
        have k4 : Ok ⟨K, mg, δ⟩ G (μ2 ++ [D]) (S2 ++ [us]) ∧ Gr H1 μ1 G (μ2 ++ [D]) := by
          have gD : ∀ v w, Rp ((⟨K, mg, δ⟩ : Gm).und D) G μ2 v w → Rp ⟨K, mg, δ⟩ G (μ2 ++ [D]) v w := fun v w r => rp_put r
          refine ⟨⟨by simp [k2.len], ?_, fun a ha => ?_, fun n a ea => ?_, k2.tb⟩, ⟨?_, fun a o ha hn nt => ?_, fun a k m h => g2.kind a k m h, fun a o u m h => g2.frz a o u m h⟩⟩
          · rw [List.nodup_append]
            refine ⟨k2.nd, by simp, fun a ha b hb => ?_⟩
            rw [List.mem_singleton] at hb
            subst hb
            exact fun z => nDμ (z ▸ ha)
          · obtain ⟨h1, h2⟩ := k2.dl a (List.mem_cons_of_mem _ ha)
            refine ⟨h1, fun z => ?_⟩
            rcases List.mem_append.mp z with z | z
            · exact h2 z
            · rw [List.mem_singleton] at z
              exact nDδ (z ▸ ha)
          · by_cases hn : n < μ2.length
            · rw [List.getElem?_append_left hn] at ea
              obtain ⟨ob, zs, qs, vs, e1, e2, en, l2, r2⟩ := k2.at_ n a ea
              exact ⟨ob, zs, qs, vs, by rw [List.getElem?_append_left (by rw [← k2.len]; exact hn)]; exact e1, e2, en, l2, rps_put r2⟩
            · rw [List.getElem?_append_right (by omega)] at ea
              have hn2 : n = μ2.length := by
                have := (List.getElem?_eq_some_iff.mp ea).1
                simp at this
                omega
              subst hn2
              simp at ea
              subst ea
              exact ⟨.lst ys, us, ys, us, by rw [k2.len, List.getElem?_append_right (Nat.le_refl _)]; simp, hD, ⟨rfl, rfl⟩, hl, rps_put rs⟩
          · obtain ⟨r, er⟩ := g2.pre
            exact ⟨r ++ [D], by rw [er, List.append_assoc]⟩
          · refine ⟨(g2.keep a o ha hn nt).1, fun z => ?_⟩
            rcases List.mem_append.mp z with z | z
            · exact (g2.keep a o ha hn nt).2 z
            · rw [List.mem_singleton] at z
              exact ne_of_none ha nD z
        refine h1 _ _ k4.2 k4.1 _ (.lst ?_ ⟨_, hD, rfl⟩)
        rw [← k2.len, List.getElem?_append_right (Nat.le_refl _), Nat.sub_self]
        rfl
variable {elt tg iter : Expr} {ifs : List Expr} {scope : Scope} {own : List (Str × Nat)} {pos : Pos} {di : DI} {t : Tg} {tt : DT} {de : DE}
theorem de_lc (kp : Kp) (hc : X.calm = true) (hN : X.N.Nodup) (hi : PI X tg iter (iOf X.K X.mg E di)) (ok : BlkOk X.N X.env.scope scope own)
    (hg : ∀ (s : Shared) (H : Hp) (C : Addr) (cl : List (Str × Addr)) (fp : List Addr), PG (X.blk s H scope (compEnvC scope cl C X.env) fp) tg (gT X.K t)) (ht : ∀ (s : Shared) (H : Hp) (C : Addr) (cl : List (Str × Addr)) (fp : List Addr), PDTs (X.blk s H scope (compEnvC scope cl C X.env) fp) noE ifs tt)
    (he : ∀ (s : Shared) (H : Hp) (C : Addr) (cl : List (Str × Addr)) (fp : List Addr), PD (X.blk s H scope (compEnvC scope cl C X.env) fp) noE elt de) (hv : ∀ i ∈ slt t, i ∈ own.map (·.2) := by decide) (hs : ∀ x, foldedSetIterable iter X.env x = pure x := by intro _; rfl) :
    PD X E (.ListComp elt [⟨tg, iter, ifs, 0⟩] scope pos) (dLc kp (own.map (·.2)) di t tt de) := pe_of (pe_lc hc hN hi ok hg ht he hs) fun _ _ _ h => lc_ok hv h
end
end Den

namespace Den
open PySem PySem.Spec PyProof.Rows L2 Bal
/-! ### statements -/
inductive Fl where
  | nx (ρ : En) | rt (w : W) | bk (ρ : En) | ct (ρ : En) | er (c f : Str) (ws : List W) (ρ : En)
abbrev DS := En → Mo Fl
def EndS (Γ : Gm) (E : L2.St → XK) (D : Ends) (H : Hp) (μ : List Addr) : Fl → Prop
  | .nx ρ => ∀ σ, Rσ Γ H μ σ ρ → D.nx σ H
  | .rt w => ∀ v, Rp Γ H μ v w → D.rt v H
  | .bk ρ => ∀ σ, Rσ Γ H μ σ ρ → D.bk σ H
  | .ct ρ => ∀ σ, Rσ Γ H μ σ ρ → D.ct σ H
  | .er c f ws ρ => ∀ σ, Rσ Γ H μ σ ρ → ∀ cls d, RpX Γ H μ cls d c f ws → E σ cls d H
def ResS (Γ : Gm) (E : L2.St → XK) (D : Ends) (H : Hp) (μ : List Addr) : Out Fl → Prop
  | .ok fl S' => ∀ H' μ', Gr H μ H' μ' → Ok Γ H' μ' S' → EndS Γ E D H' μ' fl
  | _ => False
def tsOf (K : PySem.W.Frag) (mg : Str → Option Value) (E : L2.St → XK) (d : DS) : TS := fun D σ H => ∃ δ μ S ρ, Ok ⟨K, mg, δ⟩ H μ S ∧ Rσ ⟨K, mg, δ⟩ H μ σ ρ ∧ ResS ⟨K, mg, δ⟩ E D H μ (d ρ S)
abbrev PDS (X : Cx) (E : L2.St → XK) (st : Stmt) (d : DS) : Prop := PS X st (tsOf X.K X.mg E d)
abbrev PDSs (X : Cx) (E : L2.St → XK) (st : List Stmt) (d : DS) : Prop := PSs X st (tsOf X.K X.mg E d)
theorem ps_of {X : Cx} {st : Stmt} {t t' : TS} (h : PS X st t) (f : ∀ D σ H, t' D σ H → t D σ H) : PS X st t' := ⟨fun pins s σ H D I q => h.run pins s σ H D I (f D σ H q)⟩
theorem pss_of {X : Cx} {st : List Stmt} {t t' : TS} (h : PSs X st t) (f : ∀ D σ H, t' D σ H → t D σ H) : PSs X st t' := ⟨fun pins s σ H D I q => h.run pins s σ H D I (f D σ H q)⟩
/-- an expression's value, then a statement's rest -/
def lft {α : Type} (m : Mo α) (ρ : En) (f : α → Mo Fl) : Mo Fl := fun S => match m S with
  | .ok a S' => f a S'
  | .err c g ws S' => .ok (.er c g ws ρ) S'
  | .bad => .bad
section
variable {Γ : Gm} {E : L2.St → XK} {D : Ends} {H H' : Hp} {μ μ' : List Addr} {S : Store}
theorem ResS.gr {o : Out Fl} (g : Gr H μ H' μ') (h : ResS Γ E D H μ o) : ResS Γ E D H' μ' o := by
  cases o with
  | ok a S' => exact fun H2 μ2 g2 k => h H2 μ2 (g.trans g2) k
  | err c f ws S' => exact h
  | bad => exact h
theorem ResS.step {α : Type} {m : Mo α} {f : α → Mo Fl} {σ : L2.St} {ρ : En} {q : α → Hp → List Addr → Store → Prop} (s : Rσ Γ H μ σ ρ) (h : ResS Γ E D H μ (lft m ρ f S))
    (n : ∀ a S' H' μ', Gr H μ H' μ' → Ok Γ H' μ' S' → ResS Γ E D H' μ' (f a S') → q a H' μ' S') : Res Γ (E σ) H μ (m S) q := by
  unfold lft at h
  cases e : m S with
  | ok a S' =>
    rw [e] at h
    exact fun H' μ' g k => n a S' H' μ' g k (ResS.gr g h)
  | err c g ws S' =>
    rw [e] at h
    exact fun H' μ' g k cls d r => h H' μ' g k σ (rσ_gr g s) cls d r
  | bad =>
    rw [e] at h
    exact h
theorem ResS.now {fl : Fl} (k : Ok Γ H μ S) (h : ResS Γ E D H μ (.ok fl S)) : EndS Γ E D H μ fl := h H μ Gr.refl k
end
section
variable {X : Cx} {E : L2.St → XK} {e a b c tg iter : Expr} {pos : Pos} {st : Stmt} {rest body els : List Stmt} {d : DE} {dt : DT} {s1 s2 : DS}
def sNil : DS := fun ρ => ret (.nx ρ)
def sSeq (s t : DS) : DS := fun ρ S => match s ρ S with
  | .ok (.nx ρ') S' => t ρ' S'
  | o => o
theorem dss_nil : PDSs X E [] sNil := pss_of pss_nil fun D σ H ⟨δ, μ, S, ρ, k, s, h⟩ => ResS.now k h σ s
theorem dss_one (h : PDS X E st s1) : PDSs X E [st] s1 := pss_one h
theorem dss_cons (h1 : PDS X E st s1) (h2 : PDSs X E rest s2) : PDSs X E (st :: rest) (sSeq s1 s2) := pss_of (pss_cons h1 h2) fun D σ H ⟨δ, μ, S, ρ, k, s, h⟩ => by
  refine ⟨δ, μ, S, ρ, k, s, ?_⟩
  unfold sSeq at h
  cases e1 : s1 ρ S with
  | bad => rw [e1] at h; exact h
  | err _ _ _ _ => rw [e1] at h; exact h
  | ok fl S1 =>
    rw [e1] at h
    intro H1 μ1 g1 k1
    cases fl with
    | nx ρ1 => exact fun σ1 q => ⟨δ, μ1, S1, ρ1, k1, q, ResS.gr g1 h⟩
    | rt w => exact h H1 μ1 g1 k1
    | bk ρ1 => exact h H1 μ1 g1 k1
    | ct ρ1 => exact h H1 μ1 g1 k1
    | er _ _ _ _ => exact h H1 μ1 g1 k1
def sRet (d : DE) : DS := fun ρ => lft (d ρ) ρ fun w => ret (.rt w)
theorem ds_ret (h : PD X E e d) : PDS X E (.Return (some e) pos) (sRet d) := ps_of (ps_ret h) fun D σ H ⟨δ, μ, S, ρ, k, s, h⟩ =>
  ⟨δ, μ, S, ρ, k, s, ResS.step s h fun w S1 H1 μ1 g1 k1 h1 v rv => ResS.now k1 h1 v rv⟩
def sDrop (d : DE) : DS := fun ρ => lft (d ρ) ρ fun _ => ret (.nx ρ)
theorem ds_expr (h : PD X E e d) (hs : swapsWith e none pos.line X.env = pure false := by rfl) : PDS X E (.Expr e pos) (sDrop d) := ps_of (ps_expr h hs) fun D σ H ⟨δ, μ, S, ρ, k, s, h⟩ =>
  ⟨δ, μ, S, ρ, k, s, ResS.step s h fun w S1 H1 μ1 g1 k1 h1 v rv => ResS.now k1 h1 σ (rσ_gr g1 s)⟩
def sIf (t : DT) (s u : DS) : DS := fun ρ => lft (t ρ) ρ fun b => if b = true then s ρ else u ρ
theorem ds_if (hc : PDT X E c dt) (ha : PDSs X E body s1) (hb : PDSs X E els s2) : PDS X E (.If c body els pos) (sIf dt s1 s2) := ps_of (ps_if hc ha hb) fun D σ H ⟨δ, μ, S, ρ, k, s, h⟩ =>
  ⟨δ, μ, S, ρ, k, s, ResS.step s h fun w S1 H1 μ1 g1 k1 h1 => by
    cases w with
    | true => rw [if_pos rfl] at h1 ⊢; exact ⟨δ, μ1, S1, ρ, k1, rσ_gr g1 s, h1⟩
    | false => rw [if_neg (by decide)] at h1 ⊢; exact ⟨δ, μ1, S1, ρ, k1, rσ_gr g1 s, h1⟩⟩
/-! ### assignments -/
def sAsg (t : Tg) (d : DE) : DS := fun ρ => lft (d ρ) ρ fun w S => match setT S t w ρ with
  | some ρ' => .ok (.nx ρ') S
  | none => .bad
abbrev sSet (i : Nat) (d : DE) : DS := sAsg (.nm i) d
theorem asg_ok {K : PySem.W.Frag} {mg : Str → Option Value} {t : Tg} {D : Ends} {σ : L2.St} {H : Hp} (h : tsOf K mg E (sAsg t d) D σ H) : tOf K mg E d σ H fun x H1 => gT K t x σ H1 D.nx := by
  obtain ⟨δ, μ, S, ρ, k, s, h⟩ := h
  refine ⟨δ, μ, S, ρ, k, s, ResS.step s h fun w S1 H1 μ1 g1 k1 h1 v rv => ?_⟩
  cases e1 : setT S1 t w ρ with
  | none => rw [e1] at h1; exact h1.elim
  | some ρ' =>
    rw [e1] at h1
    exact gT_ok (Γ := ⟨K, mg, δ⟩) k1 t rv (rσ_gr g1 s) e1 fun σ' s' _ => ResS.now k1 h1 σ' s'
theorem ds_set (i : Nat) {x : Str} {p' : Pos} (hN : X.N.Nodup) (h : PD X E e d) (hi : X.N[i]? = some x := by rfl) (hx : Loc X.env.scope x := by first | exact .inl rfl | exact .inr rfl) (hs : swapsWith e (some (.Name x p')) pos.line X.env = pure false := by rfl) (hf : X.fn x = true ∨ X.env.scope.names.lookup x = some .local := by first | exact .inl rfl | exact .inr rfl | assumption) :
    PDS X E (.Assign [.Name x p'] e pos) (sSet i d) := ps_of (ps_set (i := i) hN hi hx h hs hf) fun D σ H h => by
  have h := asg_ok h
  unfold gT at h
  exact h
theorem ds_asg {t : Tg} (h : PD X E e d) (hg : PG X tg (gT X.K t)) (hs : swapsWithSole [tg] e pos.line X.env = pure false := by rfl) (hw : swappedStores [tg] e X.env = pure none := by rfl)
    (h1 : (assignEach [tg] X.env).map (·.2) = [assign tg X.env] := by rfl) : PDS X E (.Assign [tg] e pos) (sAsg t d) := ps_of (ps_asg h hg hs hw h1) fun D σ H h => asg_ok h
/-- a, b = x, y -/
theorem ds_par {i j : Nat} {x y : Str} {da db : DE} {px py pt : Pos} {kt k2 pt2} (hc : X.calm = true) (hN : X.N.Nodup) (ha : PD X E a da) (hb : PD X E b db) (hi : X.N[i]? = some x := by rfl) (hj : X.N[j]? = some y := by rfl) (hij : i ≠ j := by decide)
    (hx : X.env.scope.names.lookup x = some .local := by rfl) (hy : X.env.scope.names.lookup y = some .local := by rfl) (hs1 : starEach [a, b] X.env = (false, eval a X.env) :: starEach [b] X.env := by rfl) (hs2 : starEach [b] X.env = (false, eval b X.env) :: starEach [] X.env := by rfl)
    (hw : swappedStores [.Tuple [.Name x px, .Name y py] kt pt] (.Tuple [a, b] k2 pt2) X.env = pure (some [x, y]) := by rfl)
    (hs : swapsWithSole [.Tuple [.Name x px, .Name y py] kt pt] (.Tuple [a, b] k2 pt2) pos.line X.env = pure false := by rfl) :
    PDS X E (.Assign [.Tuple [.Name x px, .Name y py] kt pt] (.Tuple [a, b] k2 pt2) pos) (sAsg (.tp [.nm i, .nm j]) (dTup (dCons da (dCons db dNil)))) :=
  ps_of (ps_par hc hN hi hj hij hx hy (da_cons ha (da_cons hb da_nil hs2) hs1) hw hs) fun D σ H ⟨δ, μ, S, ρ, k, s, h⟩ => by
    have h2 : ResS ⟨X.K, X.mg, δ⟩ E D H μ (lft (bnd (dCons da (dCons db dNil) ρ) mkT) ρ (fun w S => match setT S (.tp [.nm i, .nm j]) w ρ with | some ρ' => .ok (.nx ρ') S | none => .bad) S) := h
    refine ⟨δ, μ, S, ρ, k, s, Res.step (q := fun w H' μ' S' => ResS ⟨X.K, X.mg, δ⟩ E D H' μ' (match setT S' (.tp [.nm i, .nm j]) w ρ with | some ρ' => .ok (.nx ρ') S' | none => .bad)) (ResS.step s h2 fun w S1 H1 μ1 g1 k1 h1 => h1) fun ws S1 H1 μ1 g1 k1 h1 vs rs => ?_⟩
    unfold mkT at h1
    by_cases hz : szB ws.length = true
    · rw [if_pos hz] at h1
      have h1 := Res.now k1 h1
      match ws, rs, h1 with
      | [w1, w2], rs, h1 =>
        obtain ⟨v, u, rfl, rv, ru⟩ := rs.two rfl
        have e : setT S1 (.tp [.nm i, .nm j]) (.tup [w1, w2]) ρ = some ((ρ.set i (some w1)).set j (some w2)) := by
          simp [setT, setTs, itmsS]
        rw [e] at h1
        exact ⟨v, u, rfl, ResS.now k1 h1 _ (rσ_set (rσ_set (rσ_gr g1 s) rv) ru)⟩
      | [], rs, h1 => simp [setT, setTs, itmsS] at h1; exact h1.elim
      | [w1], rs, h1 => simp [setT, setTs, itmsS] at h1; exact h1.elim
      | w1 :: w2 :: w3 :: r, rs, h1 => simp [setT, setTs, itmsS] at h1; exact h1.elim
    · rw [if_neg hz] at h1
      exact h1.elim
/-- y = [..] on one line -/
theorem ds_setLc (kp : Kp) (i : Nat) {y : Str} {py spos : Pos} {elt : Expr} {ifs : List Expr} {scope : Scope} {own : List (Str × Nat)} {di : DI} {t : Tg} {tt : DT} {de : DE} (hc : X.calm = true) (hN : X.N.Nodup) (hsw : swapsWith (.ListComp elt [⟨tg, iter, ifs, 0⟩] scope pos) (some (.Name y py)) spos.line X.env = pure true) (hi : PI X tg iter (iOf X.K X.mg E di)) (ok : BlkOk X.N X.env.scope scope own)
    (hg : ∀ (s : Shared) (H : Hp) (C : Addr) (cl : List (Str × Addr)) (fp : List Addr), PG (X.blk s H scope (compEnvC scope cl C X.env) fp) tg (gT X.K t)) (ht : ∀ (s : Shared) (H : Hp) (C : Addr) (cl : List (Str × Addr)) (fp : List Addr), PDTs (X.blk s H scope (compEnvC scope cl C X.env) fp) noE ifs tt)
    (he : ∀ (s : Shared) (H : Hp) (C : Addr) (cl : List (Str × Addr)) (fp : List Addr), PD (X.blk s H scope (compEnvC scope cl C X.env) fp) noE elt de) (hy : X.N[i]? = some y := by rfl) (hyl : X.env.scope.names.lookup y = some .local := by rfl) (hv : ∀ i ∈ slt t, i ∈ own.map (·.2) := by decide) (hs : ∀ x, foldedSetIterable iter X.env x = pure x := by intro _; rfl) :
    PDS X E (.Assign [.Name y py] (.ListComp elt [⟨tg, iter, ifs, 0⟩] scope pos) spos) (sSet i (dLc kp (own.map (·.2)) di t tt de)) := ps_of (ps_setLc (i := i) hc hN hy hyl hsw hi ok hg ht he hs) fun D σ H h => by
  have h := asg_ok h
  unfold gT at h
  exact lc_ok hv h
/-! ### loops -/
def forL (t : Tg) (b : DS) (keep : List Nat) (S0 : Store) : List W → En → Store → Out Fl
  | [], ρ, S => .ok (.nx ρ) S
  | w :: ws, ρ, S => match setT S t w ρ with
    | none => .bad
    | some ρ1 => match b ρ1 S with
      | .ok (.nx ρ2) S2 => if kept S0 S2 keep = true then forL t b keep S0 ws ρ2 S2 else .bad
      | .ok (.ct ρ2) S2 => if kept S0 S2 keep = true then forL t b keep S0 ws ρ2 S2 else .bad
      | .ok (.bk ρ2) S2 => .ok (.nx ρ2) S2
      | .ok (.rt w) S2 => .ok (.rt w) S2
      | .ok (.er c f us ρ2) S2 => .ok (.er c f us ρ2) S2
      | _ => .bad
def sFor (di : DI) (t : Tg) (b : DS) : DS := fun ρ => lft (di ρ) ρ fun x S => forL t b x.2 S x.1 ρ S
theorem ds_for {di : DI} {t : Tg} {bd : DS} (hp : PassesOwn (model X.prog X.w) X.A X.env X.xe) (hc : X.calm = true) (hi : PI X tg iter (iOf X.K X.mg E di)) (hg : PG X tg (gT X.K t)) (hb : PDSs X E body bd)
    (hs : ∀ x, foldedSetIterable iter X.env x = pure x := by intro _; rfl) : PDS X E (.For tg iter body [] pos) (sFor di t bd) := ps_of (ps_for hp hc hi hg hb hs) fun D σ H ⟨δ, μ, S, ρ, k, s, h⟩ =>
  ⟨δ, μ, S, ρ, k, s, ResS.step s h fun x S1 H1 μ1 g1 k1 h1 J srv => by
    obtain ⟨hlen, srv⟩ := srv
    refine for_gen (n := x.1.length) (fun i τ G => ∃ (μ2 : List Addr) (S2 : Store) (ρ2 : En), Ok ⟨X.K, X.mg, δ⟩ G μ2 S2 ∧ Gr H1 μ1 G μ2 ∧ Rσ ⟨X.K, X.mg, δ⟩ G μ2 τ ρ2 ∧ (∀ n ∈ x.2, S2[n]? = S1[n]?) ∧ ResS ⟨X.K, X.mg, δ⟩ E D G μ2 (forL t bd x.2 S1 (x.1.drop i) ρ2 S2))
      ⟨μ1, S1, ρ, k1, Gr.refl, rσ_gr g1 s, fun _ _ => rfl, by rw [List.drop_zero]; exact h1⟩ (fun i τ G hi ⟨μ2, S2, ρ2, k2, g2, s2, hk, h2⟩ => ?_) (fun τ G ⟨μ2, S2, ρ2, k2, g2, s2, hk, h2⟩ => ?_) (fun i τ G v G2 hi ⟨μ2, S2, ρ2, k2, g2, s2, hk, h2⟩ hy => ?_) (fun τ G ⟨μ2, S2, ρ2, k2, g2, s2, hk, h2⟩ => ?_)
    · exact ((srv (Γ' := ⟨X.K, X.mg, δ⟩) G μ2 S2 rfl g2 k2 hk (fun v w r => r.gr g2)).1 i hi).1
    · exact (srv (Γ' := ⟨X.K, X.mg, δ⟩) G μ2 S2 rfl g2 k2 hk (fun v w r => r.gr g2)).2
    · obtain ⟨w, ew, sG, rw⟩ := ((srv (Γ' := ⟨X.K, X.mg, δ⟩) G μ2 S2 rfl g2 k2 hk (fun v w r => r.gr g2)).1 i hi).2 v G2 hy
      have ed : x.1.drop i = w :: x.1.drop (i + 1) := by
        have := List.getElem?_eq_some_iff.mp ew
        rw [← this.2, List.drop_eq_getElem_cons hi]
      rw [ed] at h2
      unfold forL at h2
      obtain ⟨k3, g3⟩ := k2.same sG
      cases e3 : setT S2 t w ρ2 with
      | none => simp only [e3] at h2; exact h2.elim
      | some ρ3 =>
        simp only [e3] at h2
        refine gT_ok (Γ := ⟨X.K, X.mg, δ⟩) k3 t rw (rσ_gr g3 s2) e3 fun σ4 s4 _ => ⟨δ, μ2, S2, ρ3, k3, s4, ?_⟩
        cases e4 : bd ρ3 S2 with
        | bad => simp only [e4] at h2; exact h2.elim
        | err _ _ _ _ => simp only [e4] at h2; exact h2.elim
        | ok fl S4 =>
          simp only [e4] at h2
          intro G5 μ5 g5 k5
          have h2 := ResS.gr (g3.trans g5) h2
          have again : ∀ (ρ6 : En), ResS ⟨X.K, X.mg, δ⟩ E D G5 μ5 (if kept S1 S4 x.2 = true then forL t bd x.2 S1 (x.1.drop (i + 1)) ρ6 S4 else .bad) → ∀ σ6, Rσ ⟨X.K, X.mg, δ⟩ G5 μ5 σ6 ρ6 → ∃ (μ2 : List Addr) (S2 : Store) (ρ2 : En), Ok ⟨X.K, X.mg, δ⟩ G5 μ2 S2 ∧ Gr H1 μ1 G5 μ2 ∧ Rσ ⟨X.K, X.mg, δ⟩ G5 μ2 σ6 ρ2 ∧ (∀ n ∈ x.2, S2[n]? = S1[n]?) ∧ ResS ⟨X.K, X.mg, δ⟩ E D G5 μ2 (forL t bd x.2 S1 (x.1.drop (i + 1)) ρ2 S2) := fun ρ6 h6 σ6 s6 => by
            by_cases hkp : kept S1 S4 x.2 = true
            · rw [if_pos hkp] at h6
              exact ⟨μ5, S4, ρ6, k5, g2.trans (g3.trans g5), s6, fun n hn => kept_to hkp n hn, h6⟩
            · rw [if_neg hkp] at h6
              exact h6.elim
          cases fl with
          | nx ρ6 => exact again ρ6 h2
          | ct ρ6 => exact again ρ6 h2
          | bk ρ6 => exact fun σ6 s6 => ResS.now k5 h2 σ6 s6
          | rt w => exact fun v r => ResS.now k5 h2 v r
          | er c f us ρ6 => exact fun σ6 s6 => ResS.now k5 h2 σ6 s6
    · rw [List.drop_length] at h2
      unfold forL at h2
      exact ResS.now k2 h2 τ s2⟩
end
end Den

namespace Den
open PySem PySem.Spec PyProof.Rows L2 Bal
/-! ### methods of lists -/
def MtW (K : PySem.W.Frag) (mg : Str → Option Value) (r : V → List V → Hp → VK → Prop) (f : Store → W → List W → Option (W × Store)) : Prop := ∀ {δ : List Addr} {H : Hp} {μ : List Addr} {S S' : Store} {v : V} {vs : List V} {x w : W} {ws : List W} {Q : VK}, Ok ⟨K, mg, δ⟩ H μ S → Rp ⟨K, mg, δ⟩ H μ v x → Rps ⟨K, mg, δ⟩ H μ vs ws → f S x ws = some (w, S') →
  (∀ z H', Gr H μ H' μ → Ok ⟨K, mg, δ⟩ H' μ S' → Rp ⟨K, mg, δ⟩ H' μ z w → Q z H') → r v vs H Q
def lsB : W → Bool
  | .cl _ => true
  | .lst _ => true
  | _ => false
def wrS (g : Store → Option (W × Store)) : Mo W := fun S => match g S with
  | some (w, S') => .ok w S'
  | none => .bad
def dMth (f : Store → W → List W → Option (W × Store)) (d : DE) (da : DA) : DE := fun ρ => bnd (d ρ) fun x => if lsB x = true then bnd (da ρ) fun ws => wrS fun S => f S x ws else bad
section
variable {X : Cx} {E : L2.St → XK} {o e a b : Expr} {es : List Expr} {name : Str} {apos cpos pos p : Pos} {idn : String} {K : PySem.W.Frag} {mg : Str → Option Value} {Γ : Gm} {H : Hp} {μ : List Addr} {S : Store}
theorem ls_ty (k : Ok Γ H μ S) {v : V} {x : W} (r : Rp Γ H μ v x) (h : lsB x = true) : tyV Γ.K "list" v H := by
  cases r with
  | cl hh n m l q => exact .inl ⟨rfl, _, .inl (.inl hh)⟩
  | lst hh hq =>
    obtain ⟨xs, ws, _, e2, _⟩ := k.lat hh hq
    exact .inl ⟨rfl, _, .inl (.inl e2)⟩
  | _ => cases h
theorem mth_ok {r : V → List V → Hp → VK → Prop} {f : Store → W → List W → Option (W × Store)} {d : DE} {da : DA} (hf : MtW K mg r f) {σ : L2.St} {Q : VK} (h : tOf K mg E (dMth f d da) σ H Q) : tBM K "list" r (tOf K mg E d) (taOf K mg E da) σ H Q := by
  obtain ⟨δ, μ, S, ρ, k, s, h⟩ := h
  refine ⟨δ, μ, S, ρ, k, s, Res.step h fun x S1 H1 μ1 g1 k1 h1 v rv => ?_⟩
  by_cases hb : lsB x = true
  · rw [if_pos hb] at h1
    refine ⟨ls_ty k1 rv hb, δ, μ1, S1, ρ, k1, rσ_gr g1 s, Res.step h1 fun ws S2 H2 μ2 g2 k2 h2 vs rs => ?_⟩
    unfold wrS at h2
    cases e1 : f S2 x ws with
    | none => simp only [e1] at h2; exact h2.elim
    | some y =>
      simp only [e1] at h2
      exact hf k2 (rv.gr g2) rs e1 fun z H' g k r => h2 H' μ2 g k z r
  · rw [if_neg hb] at h1
    exact h1.elim
theorem de_mth {r : V → List V → Hp → VK → Prop} {f : Store → W → List W → Option (W × Store)} {d : DE} {da : DA} (slot : Slot "list" name idn) (hty : typeOf (.builtin idn) = pure (.type "method_descriptor")) (hm : MtR X idn r) (hf : MtW X.K X.mg r f) (ho : PD X E o d) (ha : PDA X E (e :: es) da)
    (hbase : attributeBase o name X.env (eval o X.env) = eval o X.env := by rfl) (hfew : ((backTo cpos (starEach (e :: es) X.env)).all (fun x => !x.1) && (backToKw cpos (keywordEach [] X.env)).all (fun x => x.1.isSome) && decide ((e :: es).length + ([] : List Keyword).length + (if ([] : List Keyword).isEmpty then 0 else 1) < 30)) = true := by rfl) (hline : (apos.endLine == cpos.line) = true := by rfl) (hs : starEach (e :: es) X.env = (false, eval e X.env) :: starEach es X.env := by rfl) (hplain : (backTo cpos (starEach es X.env)).any (·.1) = false := by rfl) :
    PD X E (.Call (.Attribute o name apos) (e :: es) [] cpos) (dMth f d da) := pe_of (pe_bm PySem.F.plainAttrs_list slot hty hm ho ha hbase hfew hline hs hplain) fun _ _ _ h => mth_ok hf h
/-- the n-th list of the store changed -/
def chS (S : Store) (n : Nat) (g : List W → Option (W × List W)) : Option (W × Store) := match S[n]? with
  | some ws => match g ws with
    | some (w, us) => if szB us.length = true then some (w, S.set n us) else none
    | none => none
  | none => none
theorem chS_some {n : Nat} {g : List W → Option (W × List W)} {w : W} {S' : Store} (e : chS S n g = some (w, S')) : ∃ ws us, S[n]? = some ws ∧ g ws = some (w, us) ∧ us.length ≤ sizeLine ∧ S' = S.set n us := by
  unfold chS at e
  cases e1 : S[n]? with
  | none => rw [e1] at e; cases e
  | some ws =>
    rw [e1] at e
    cases e2 : g ws with
    | none => simp only [e2] at e; cases e
    | some y =>
      obtain ⟨w', us⟩ := y
      simp only [e2] at e
      by_cases hz : szB us.length = true
      · rw [if_pos hz] at e
        cases e
        exact ⟨ws, us, rfl, e2, sz_ok hz, rfl⟩
      · rw [if_neg hz] at e
        cases e
def fAppend (S : Store) : W → List W → Option (W × Store)
  | .lst n, [y] => chS S n fun ws => if szB (ws.length + 1) = true then some (.non, ws ++ [y]) else none
  | _, _ => none
theorem fAppend_ok : MtW K mg rAppend fAppend := by
  intro δ H μ S S' v vs x w ws Q k rx rs e q
  cases rx with
  | @lst a n hh hq =>
    match ws, rs, e with
    | [y], rs, e =>
      obtain ⟨u, rfl, ry⟩ := rs.one rfl
      obtain ⟨zs, us, e1, e2, l, rfl⟩ := chS_some (show chS S n _ = _ from e)
      obtain ⟨xs, zs', e3, e4, l4, r4⟩ := k.lat hh hq
      rw [e1] at e3
      cases e3
      by_cases hz : szB (zs.length + 1) = true
      · rw [if_pos hz] at e2
        cases e2
        have hl : xs.length + 1 ≤ sizeLine := by rw [r4.len]; exact sz_ok hz
        obtain ⟨k2, g2⟩ := k.set hh hq (xs := xs ++ [u]) (by rw [List.length_append]; exact hl) (r4.app (.cons ry .nil))
        exact ⟨a, xs, u, rfl, rfl, e4, by omega, q _ _ g2 k2 .non⟩
      · rw [if_neg hz] at e2
        cases e2
  | _ => cases e
theorem da_one {da : DE} {σ : L2.St} {δ : List Addr} {ρ : En} {f : W → Mo W} {q : W → Hp → List Addr → Store → Prop} {q' : List V → Hp → Prop} (k : Ok ⟨K, mg, δ⟩ H μ S) (s : Rσ ⟨K, mg, δ⟩ H μ σ ρ) (h : Res ⟨K, mg, δ⟩ (E σ) H μ (bnd (da ρ) f S) q)
    (n : ∀ y S' H' μ', Gr H μ H' μ' → Ok ⟨K, mg, δ⟩ H' μ' S' → Res ⟨K, mg, δ⟩ (E σ) H' μ' (f y S') q → ∀ u, Rp ⟨K, mg, δ⟩ H' μ' u y → q' [u] H') : taOf K mg E (dCons da dNil) σ H q' := by
  refine ⟨δ, μ, S, ρ, k, s, ?_⟩
  unfold dCons dNil ret
  unfold bnd at h ⊢
  cases e1 : da ρ S with
  | bad => rw [e1] at h; exact h
  | err _ _ _ _ => rw [e1] at h; exact h
  | ok y S2 =>
    rw [e1] at h
    intro H2 μ2 g2 k2 vs rs
    obtain ⟨u, rfl, ru⟩ := rs.one rfl
    exact n y S2 H2 μ2 g2 k2 (Res.gr g2 h) u ru
end
end Den

namespace Den
open PySem PySem.Spec PyProof.Rows L2 Bal
/-! ### defs -/
def spD (K : PySem.W.Frag) (mg : Str → Option Value) (n : Nat) (g : List W → Mo W) : Sp := fun vs H Q E => vs.length = n ∧ ∃ δ μ S ws, Ok ⟨K, mg, δ⟩ H μ S ∧ Rps ⟨K, mg, δ⟩ H μ vs ws ∧ Res ⟨K, mg, δ⟩ E H μ (g ws S) fun w H' μ' _ => ∀ v, Rp ⟨K, mg, δ⟩ H' μ' v w → Q v H'
def fnW (N : Nat) (d : DS) : List W → Mo W := fun ws S => match d (ws.map some ++ List.replicate (N - ws.length) none) S with
  | .ok (.rt w) S' => .ok w S'
  | .ok (.nx _) S' => .ok .non S'
  | .ok (.er c f us _) S' => .err c f us S'
  | _ => .bad
theorem rσ_start {Γ : Gm} {H : Hp} {μ : List Addr} {vs : List V} {ws : List W} (r : Rps Γ H μ vs ws) (N : List Str) : Rσ Γ H μ (L2.start N vs) (ws.map some ++ List.replicate (N.length - ws.length) none) := by
  unfold L2.start
  refine ⟨by simp [r.len], fun i w e => ?_⟩
  by_cases hi : i < ws.length
  · rw [List.getElem?_append_left (by simpa using hi), List.getElem?_map] at e
    cases e1 : ws[i]? with
    | none => rw [e1] at e; cases e
    | some w' =>
      rw [e1] at e
      cases e
      obtain ⟨v, e2, r2⟩ := r.getW e1
      exact ⟨v, by rw [List.getElem?_append_left (by simp [r.len]; exact hi), List.getElem?_map, e2]; rfl, r2⟩
  · rw [List.getElem?_append_right (by simpa using hi)] at e
    have := List.mem_of_getElem? e
    rw [List.mem_replicate] at this
    cases this.2
/-- from a def's body to what it tells -/
theorem fn_den {P : Program} {w : World} {K : PySem.W.Frag} {mg : Str → Option Value} {base : Heap} {x qual : Str} {st : Stmt} {f : Addr} {fd : FuncData} {N ps : List Str} {k : Nat} {d : DS} (F : Fun K x qual st f fd) (S : FnScope N ps (defScope st))
    (hbody : ∀ (cdv : Value) (A : Around) (outer : List Env) (s : Shared) (H : Hp) (E : XK), Room k (A.deeper (envOfC qual (defScope st) s.heap.objs.size f cdv)) → PDSs (cxOf (L2.CX P w) P w K mg base N qual (defScope st) f cdv A outer s H E) (fun _ => E) (defBody st) d) :
    FnOk P w K mg base (L2.CX P w) (k + 1) f fd ps (spD K mg ps.length (fnW N.length d)) := by
  refine F.okX S (fun vs H Q E h => h.1) (fun cdv A outer s H vs Q E hr h => ?_)
  obtain ⟨_, δ, μ, T, ws, ok, rs, h⟩ := h
  refine ⟨_, hbody cdv A outer s H E hr, δ, μ, T, _, ok, rσ_start rs N, ?_⟩
  unfold fnW at h
  cases e : d (ws.map some ++ List.replicate (N.length - ws.length) none) T with
  | bad => rw [e] at h; exact h
  | err _ _ _ _ => rw [e] at h; exact h.elim
  | ok fl S' =>
    rw [e] at h
    intro H1 μ1 g1 k1
    cases fl with
    | nx ρ => exact fun σ s => h H1 μ1 g1 k1 _ .non
    | rt w => exact fun v r => h H1 μ1 g1 k1 v r
    | bk ρ => exact h.elim
    | ct ρ => exact h.elim
    | er c f us ρ => exact fun σ s cls d r => h H1 μ1 g1 k1 cls d r
section
variable {X : Cx} {E : L2.St → XK} {e a b o : Expr} {es : List Expr} {pos p p1 : Pos} {x : Str} {k n : Nat} {f : Addr} {fd : FuncData} {ps : List Str} {g : List W → Mo W}
abbrev PX (X : Cx) (E : L2.St → XK) : Prop := ∀ σ, PassesAt (L2.CX X.prog X.w) X σ (E σ)
theorem px0 : PX X noE := fun σ pins H s e s' I h => by
  obtain ⟨_, _, _, _, _, _, _, _, _, _, _, _, z⟩ := h
  exact z.elim
def dCall (n : Nat) (g : List W → Mo W) (d : DA) : DE := fun ρ => bnd (d ρ) fun ws => if ws.length = n then g ws else bad
theorem de_call {d : DA} (F : FnOk X.prog X.w X.K X.mg X.base (L2.CX X.prog X.w) k f fd ps (spD X.K X.mg n g)) (hr : Room k X.A) (hg : Gl X x) (hm : X.mg x = some (.ref f)) (hk : PySem.W.keepIn X.K (.ref f) = true) (hb : Binds X.K fd ps []) (hx : PX X E) (ha : PDA X E (e :: es) d) (hdb : (x == ("__debug__" : Str)) = false := by decide)
    (he : starEach (e :: es) X.env = (false, eval e X.env) :: starEach es X.env := by rfl) (hpl : (backTo pos (starEach es X.env)).any (·.1) = false := by rfl) : PD X E (.Call (.Name x p) (e :: es) [] pos) (dCall n g d) := pe_of (pe_callS F hr hg hm hk hb hx ha hdb he hpl) fun σ H Q ⟨δ, μ, S, ρ, k, s, h⟩ =>
  ⟨δ, μ, S, ρ, k, s, Res.step h fun ws S1 H1 μ1 g1 k1 h1 vs rs => by
    by_cases hn : ws.length = n
    · rw [if_pos hn] at h1
      exact ⟨rs.len.trans hn, δ, μ1, S1, ws, k1, rs, h1⟩
    · rw [if_neg hn] at h1
      exact h1.elim⟩
/-! ### .. by names -/
def gp {α : Type} (π : List Nat) (l : List α) : List α := π.filterMap fun i => l[i]?
theorem gp_vals {zs : List V} {ws : List Value} (r : Vals zs ws) : ∀ π : List Nat, Vals (gp π zs) (gp π ws)
  | [] => .nil
  | i :: π => by
    have ih := gp_vals r π
    unfold gp at ih ⊢
    cases e : zs[i]? with
    | none => rw [List.filterMap_cons_none e, List.filterMap_cons_none (r.none_of e)]; exact ih
    | some v =>
      obtain ⟨u, e2, r2⟩ := r.get e
      rw [List.filterMap_cons_some e, List.filterMap_cons_some e2]
      exact .cons r2 ih
theorem gp_rps {Γ : Gm} {H : Hp} {μ : List Addr} {zs : List V} {ws : List W} (r : Rps Γ H μ zs ws) : ∀ π : List Nat, Rps Γ H μ (gp π zs) (gp π ws)
  | [] => .nil
  | i :: π => by
    have ih := gp_rps r π
    unfold gp at ih ⊢
    cases e : zs[i]? with
    | none =>
      have e2 : ws[i]? = none := by rw [List.getElem?_eq_none_iff] at e ⊢; rw [← r.len]; exact e
      rw [List.filterMap_cons_none e, List.filterMap_cons_none e2]
      exact ih
    | some v =>
      obtain ⟨u, e2, r2⟩ := r.get e
      rw [List.filterMap_cons_some e, List.filterMap_cons_some e2]
      exact .cons r2 ih
theorem kb_gp {K : PySem.W.Frag} {x qual : Str} {st : Stmt} {f : Addr} {fd : FuncData} {ps ks : List Str} (π : List Nat) (F : Fun K x qual st f fd)
    (h : ∀ (kV doc pm : Value) (an : Option Addr) (cdv ct : Value) (us : List Value), us.length = ks.length → bindArgs (PySem.W.fnOf x qual (defArgs st) (defBody st) (defScope st) .none kV doc pm an cdv ct) ⟨[], ks.zip us⟩ = pure (ps.zip (gp π us))) : KB0 K fd ps ks (gp π) (gp π) := by
  obtain ⟨oc, od, kV, doc, pm, an, cdv, ct, osl, rfl, lk, hcd⟩ := F.ex
  exact ⟨fun s ws _ hl => .of_eq (h kV doc pm an cdv ct ws hl), fun _ r => gp_vals r π⟩
abbrev PDK (X : Cx) (E : L2.St → XK) (kws : List Keyword) (d : DA) : Prop := PK X kws (taOf X.K X.mg E d)
theorem pk_of {kws : List Keyword} {t t' : TA} (h : PK X kws t) (f : ∀ σ H Q, t' σ H Q → t σ H Q) : PK X kws t' := ⟨fun pos pins s σ H Q I q => h.run pos pins s σ H Q I (f σ H Q q)⟩
theorem dk_nil : PDK X E [] dNil := pk_of pk_nil fun σ H Q ⟨δ, μ, S, ρ, k, s, h⟩ => Res.now k h [] .nil
theorem dk_cons {kws : List Keyword} {d : DE} {r : DA} {nm : Option Str} {kpos : Pos} (ha : PD X E a d) (hr : PDK X E kws r) : PDK X E (⟨nm, a, kpos⟩ :: kws) (dCons d r) := pk_of (pk_cons ha hr) fun σ H Q ⟨δ, μ, S, ρ, k, s, h⟩ =>
  ⟨δ, μ, S, ρ, k, s, Res.step h fun x S1 H1 μ1 g1 k1 h1 v rv => ⟨δ, μ1, S1, ρ, k1, rσ_gr g1 s, Res.step h1 fun ws S2 H2 μ2 g2 k2 h2 vs rs => Res.now k2 h2 _ (.cons (rv.gr g2) rs)⟩⟩
def tCallKS (n : Nat) (sp : Sp) (gV : List V → List V) (E : L2.St → XK) (tk : TA) : TE := fun σ H Q => tk σ H fun zs H1 => zs.length = n ∧ sp (gV zs) H1 Q (E σ)
theorem pe_callKS {CX : CXT} {ks : List Str} {sp : Sp} {gl : List Value → List Value} {gV : List V → List V} {kws : List Keyword} {tk : TA} (F : FnOk X.prog X.w X.K X.mg X.base CX k f fd ps sp) (hr : Room k X.A) (hg : Gl X x) (hm : X.mg x = some (.ref f)) (hk : PySem.W.keepIn X.K (.ref f) = true) (hb : KB0 X.K fd ps ks gl gV) (hx : ∀ σ, PassesAt CX X σ (E σ)) (hkw : PK X kws tk)
    (hall : (backToKw pos (keywordEach kws X.env)).all (·.1.isSome) = true) (hks : (backToKw pos (keywordEach kws X.env)).filterMap (·.1) = ks) (hdb : (x == ("__debug__" : Str)) = false) (hpl : ((backTo pos (starEach [] X.env)).any (·.1) || (backToKw pos (keywordEach kws X.env)).any (·.1.isNone)) = false) : PE X (.Call (.Name x p) [] kws pos) (tCallKS ks.length sp gV E tk) := by
  refine ⟨fun pins s σ H Q I h => wpAny_Call_Name_kw (ld_glob I hg hm ?_ hdb)⟩
  refine PySem.W.callWith_KW0 (h₀ := X.base) I.ok.mod.kin hk hall (thn (hkw.run pos pins s σ H _ I h) fun ws s2 ⟨zs, H2, I2, rz, hz, q2⟩ => ⟨I2.kIn, ?_⟩) hpl
  rw [hks]
  refine wpAny_call (codeAny_mono (F.run X.A X.stack s2 H2 ⟨[], ks.zip ws⟩ (gl ws) (gV zs) Q (E σ) hr I2.env0 (hb.to s2 ws I2.kIn (by rw [← rz.length]; exact hz)) (hb.rel hz rz) q2) fun r s' hq => ?_)
  match r, hq with
  | .error e, hq => exact hx σ pins H2 s2 e s' I2 hq
  | .ok (.ret u), hq => exact I2.after hq
  | .ok .next, hq => exact False.elim hq
  | .ok .brk, hq => exact False.elim hq
  | .ok .cont, hq => exact False.elim hq
def dCallK (m n : Nat) (π : List Nat) (g : List W → Mo W) (d : DA) : DE := fun ρ => bnd (d ρ) fun ws => if ws.length = m ∧ (gp π ws).length = n then g (gp π ws) else bad
theorem de_callK {ks : List Str} {π : List Nat} {kws : List Keyword} {d : DA} (F : FnOk X.prog X.w X.K X.mg X.base (L2.CX X.prog X.w) k f fd ps (spD X.K X.mg n g)) (hr : Room k X.A) (hg : Gl X x) (hm : X.mg x = some (.ref f)) (hk : PySem.W.keepIn X.K (.ref f) = true) (hb : KB0 X.K fd ps ks (gp π) (gp π)) (hx : PX X E) (ha : PDK X E kws d)
    (hall : (backToKw pos (keywordEach kws X.env)).all (·.1.isSome) = true := by rfl) (hks : (backToKw pos (keywordEach kws X.env)).filterMap (·.1) = ks := by rfl) (hdb : (x == ("__debug__" : Str)) = false := by decide) (hpl : ((backTo pos (starEach [] X.env)).any (·.1) || (backToKw pos (keywordEach kws X.env)).any (·.1.isNone)) = false := by rfl) :
    PD X E (.Call (.Name x p) [] kws pos) (dCallK ks.length n π g d) := pe_of (pe_callKS F hr hg hm hk hb hx ha hall hks hdb hpl) fun σ H Q ⟨δ, μ, S, ρ, k, s, h⟩ =>
  ⟨δ, μ, S, ρ, k, s, Res.step h fun ws S1 H1 μ1 g1 k1 h1 vs rs => by
    by_cases hn : ws.length = ks.length ∧ (gp π ws).length = n
    · rw [if_pos hn] at h1
      have r2 := gp_rps rs π
      exact ⟨rs.len.trans hn.1, r2.len.trans hn.2, δ, μ1, S1, _, k1, r2, h1⟩
    · rw [if_neg hn] at h1
      exact h1.elim⟩
/-! ### targets that are places of lists -/
abbrev DG := W → En → Mo En
def tgOf (K : PySem.W.Frag) (mg : Str → Option Value) (g : DG) : TG := fun v σ H Q => ∃ δ μ S ρ w, Ok ⟨K, mg, δ⟩ H μ S ∧ Rσ ⟨K, mg, δ⟩ H μ σ ρ ∧ Rp ⟨K, mg, δ⟩ H μ v w ∧ Res ⟨K, mg, δ⟩ (fun _ _ _ => False) H μ (g w ρ S) fun ρ' H' μ' _ => ∀ σ', Rσ ⟨K, mg, δ⟩ H' μ' σ' ρ' → Q σ' H'
/-- o[i] = w -/
def putW (o i w : W) : Mo Unit := fun S => match o, i with
  | .lst n, .int j => match S[n]? with
    | some ws => match ixN ws.length j with
      | some m => .ok () (S.set n (ws.set m w))
      | none => .bad
    | none => .bad
  | _, _ => .bad
def gPut (d di : DE) : DG := fun w ρ => bnd (d ρ) fun o => bnd (di ρ) fun i => bnd (putW o i w) fun _ => ret ρ
theorem dm_put {d di : DE} {i : Expr} (ho : PD X noE o d) (hi : PD X noE i di)
    (ha : ∀ v, assign (.Subscript o i pos) X.env v = (do let ov ← holding [v] (eval o X.env); let iv ← holding [v, ov] (eval i X.env); standAt pos; holding [v, ov, iv] (setItem ov iv v); release [v, ov, iv] []) := by intro _; rfl) : PG X (.Subscript o i pos) (tgOf X.K X.mg (gPut d di)) :=
  pg_of (pg_sub ho hi set_list ha) fun v σ H Q ⟨δ, μ, S, ρ, w, k, s, r, h⟩ =>
    ⟨δ, μ, S, ρ, k, s, Res.step h fun ow S1 H1 μ1 g1 k1 h1 ov ro => ⟨δ, μ1, S1, ρ, k1, rσ_gr g1 s, Res.step h1 fun iw S2 H2 μ2 g2 k2 h2 iv ri => by
      have r2 := r.gr (g1.trans g2)
      have ro2 := ro.gr g2
      unfold bnd putW at h2
      cases ro2 with
      | @lst a n hh hq =>
        cases ri with
        | int j =>
          obtain ⟨xs, ws, e1, e2, l, rs⟩ := k2.lat hh hq
          simp only [e1] at h2
          cases e3 : ixN ws.length j with
          | none => simp only [e3] at h2; exact h2.elim
          | some m =>
            simp only [e3] at h2
            obtain ⟨k3, g3⟩ := k2.set hh hq (xs := xs.set m v) (by rw [List.length_set]; exact l) (rs.set m r2)
            exact ⟨a, xs, j, m, rfl, rfl, e2, by rw [rs.len]; exact e3, h2 _ _ g3 k3 _ (rσ_gr g3 (rσ_gr (g1.trans g2) s))⟩
        | _ => exact h2.elim
      | _ => exact h2.elim⟩⟩
def sAsgM (g : DG) (d : DE) : DS := fun ρ => lft (d ρ) ρ fun w S => match g w ρ S with
  | .ok ρ' S' => .ok (.nx ρ') S'
  | _ => .bad
theorem ds_asgM {tg : Expr} {g : DG} {d : DE} (h : PD X E e d) (hg : PG X tg (tgOf X.K X.mg g)) (hs : swapsWithSole [tg] e pos.line X.env = pure false := by rfl) (hw : swappedStores [tg] e X.env = pure none := by rfl)
    (h1 : (assignEach [tg] X.env).map (·.2) = [assign tg X.env] := by rfl) : PDS X E (.Assign [tg] e pos) (sAsgM g d) := ps_of (ps_asg h hg hs hw h1) fun D σ H ⟨δ, μ, S, ρ, k, s, h⟩ =>
  ⟨δ, μ, S, ρ, k, s, ResS.step s h fun w S1 H1 μ1 g1 k1 h1 v rv => by
    refine ⟨δ, μ1, S1, ρ, w, k1, rσ_gr g1 s, rv, ?_⟩
    cases e : g w ρ S1 with
    | bad => rw [e] at h1; exact h1
    | err _ _ _ _ => rw [e] at h1; exact h1.elim
    | ok ρ' S' =>
      rw [e] at h1
      exact fun H2 μ2 g2 k2 σ' s' => h1 H2 μ2 g2 k2 σ' s'⟩
end
end Den

namespace Den
open PySem PySem.Spec PyProof.Rows L2 Bal
/-! ### errors -/
/-- the errors of the program: what classes they are, none under another one -/
structure ErS (K : PySem.W.Frag) (mg : Str → Option Value) (all : List Str) : Prop where
  k : ∀ c ∈ all, ∃ C, ErK K mg c C
  ec : ∀ c ∈ all, ∀ C, mg c = some (.ref C) → ExcC K C
  sub : ∀ c ∈ all, ∀ d ∈ all, ∀ C D, mg c = some (.ref C) → mg d = some (.ref D) → PySem.W.subIn K (.ref C) (.ref D) = some (decide (c = d))
theorem ErS.at {K : PySem.W.Frag} {mg : Str → Option Value} {all : List Str} (T : ErS K mg all) {c : Str} (h : c ∈ all) {C : Addr} (e : mg c = some (.ref C)) : ErK K mg c C := by
  obtain ⟨D, k⟩ := T.k c h
  have := k.g
  rw [e] at this
  cases this
  exact k
theorem exm_val {K : PySem.W.Frag} {cls : Value} : ∀ {us : List Value}, (∀ u ∈ us, ∃ b, PySem.W.exmOne K cls u = some b) → PySem.W.exmAny K cls us = some (us.any fun c => PySem.W.exmOne K cls c == some true) := by
  have all : ∀ {us : List Value}, (∀ u ∈ us, ∃ b, PySem.W.exmOne K cls u = some b) → ∃ b, PySem.W.exmAny K cls us = some b := by
    intro us
    induction us with
    | nil => exact fun _ => ⟨false, rfl⟩
    | cons u us ih =>
      intro h
      obtain ⟨b, hb⟩ := h u (List.mem_cons_self ..)
      obtain ⟨d, hd⟩ := ih fun v hv => h v (List.mem_cons_of_mem _ hv)
      exact ⟨b || d, by unfold PySem.W.exmAny; rw [hb, hd]⟩
  intro us h
  obtain ⟨b, hb⟩ := all h
  obtain ⟨_, eb⟩ := exmAny_each hb
  rw [hb, eb]
/-- the classes that are named, by their values -/
inductive NmS (mg : Str → Option Value) : List Str → List Value → Prop
  | nil : NmS mg [] []
  | cons {c : Str} {C : Addr} {cs : List Str} {us : List Value} (h : mg c = some (.ref C)) (r : NmS mg cs us) : NmS mg (c :: cs) (.ref C :: us)
theorem nmS_exm {K : PySem.W.Frag} {mg : Str → Option Value} {all : List Str} (T : ErS K mg all) {c : Str} (hc : c ∈ all) {C : Addr} (e : mg c = some (.ref C)) : ∀ {cs : List Str} {us : List Value}, NmS mg cs us → (∀ d ∈ cs, d ∈ all) → (∀ u ∈ us, ∃ b, PySem.W.exmOne K (.ref C) u = some b) ∧ (us.any fun u => PySem.W.exmOne K (.ref C) u == some true) = cs.contains c
  | _, _, .nil, _ => ⟨fun _ h => (nomatch h), rfl⟩
  | _, _, .cons (c := d) (C := D) (cs := cs) (us := us) h r, hs => by
    have e1 : PySem.W.exmOne K (.ref C) (.ref D) = some (decide (c = d)) := (T.at (hs d (List.mem_cons_self ..)) h).one (T.sub c hc d (hs d (List.mem_cons_self ..)) C D e h)
    obtain ⟨i1, i2⟩ := nmS_exm T hc e r fun d hd => hs d (List.mem_cons_of_mem _ hd)
    refine ⟨fun u hu => ?_, ?_⟩
    · rcases List.mem_cons.mp hu with rfl | hu
      · exact ⟨_, e1⟩
      · exact i1 u hu
    · rw [List.any_cons, e1, i2, List.contains_cons]
      congr 1
      rw [Bool.eq_iff_iff]
      simp
section
variable {X : Cx} {E : L2.St → XK} {e a b : Expr} {es : List Expr} {pos p p1 : Pos} {x : Str} {k n i j : Nat} {all : List Str}
/-- raise C(e) -/
def sRaise (c f : Str) (d : DE) : DS := fun ρ => lft (d ρ) ρ fun w => ret (.er c f [w] ρ)
theorem ds_raise {c f qual : Str} {st : Stmt} {C fI : Addr} {fdI : FuncData} {newId : String} {tail : List Value} {d : DE} (hc : X.calm = true) (tk : Takes X (fun cls d σ H => E σ cls d H)) (T : ErT X.K X.mg c f qual st C fI fdI newId tail) (GI : FnOk X.prog X.w X.K X.mg X.base CX0 k fI fdI ["self", f] (spInit X.K C f)) (hr : Room (k + 1) X.A) (bI : Binds X.K fdI ["self", f] [])
    (hg : Gl X c) (ha : PD X E a d) (hdb : (c == ("__debug__" : Str)) = false := by decide) (he : starEach [a] X.env = (false, eval a X.env) :: starEach [] X.env := by rfl) (hpl : (backTo p1 (starEach [] X.env)).any (·.1) = false := by rfl) : PDS X E (.Raise (some (.Call (.Name c p) [a] [] p1)) none pos) (sRaise c f d) :=
  ps_of (ps_raise hc tk (pmk_er T.c T.iC T.tI GI hr bI .nil pass0 hg T.k.g (da_cons ha da_nil he) hdb he hpl)) fun D σ H ⟨δ, μ, S, ρ, k, s, h⟩ => by
    have h2 : ResS ⟨X.K, X.mg, δ⟩ E D H μ (lft (d ρ) ρ (fun w => ret (.er c f [w] ρ)) S) := h
    refine da_one k s (f := fun w => ret w) (q := fun w H' μ' S' => Ok ⟨X.K, X.mg, δ⟩ H' μ' S' ∧ Gr H μ H' μ' ∧ ResS ⟨X.K, X.mg, δ⟩ E D H' μ' (.ok (.er c f [w] ρ) S')) ?_ fun y S1 H1 μ1 g1 k1 h1 u ru => ?_
    · have h3 := ResS.step s h2 (q := fun w H' μ' S' => Ok ⟨X.K, X.mg, δ⟩ H' μ' S' ∧ Gr H μ H' μ' ∧ ResS ⟨X.K, X.mg, δ⟩ E D H' μ' (.ok (.er c f [w] ρ) S')) fun w S1 H1 μ1 g1 k1 h1 => ⟨k1, g1, h1⟩
      unfold bnd
      cases e : d ρ S with
      | bad => rw [e] at h3; exact h3
      | err _ _ _ _ => rw [e] at h3; exact h3
      | ok w S' => rw [e] at h3; exact h3
    · obtain ⟨_, _, h4⟩ := Res.now k1 h1
      refine made_er fun dd nd => ?_
      have g2 := Gr.new (o := .xd [(f, u)]) nd (k1.ne nd)
      have k2 := k1.new (o := .xd [(f, u)]) nd
      exact h4 _ _ g2 k2 σ (rσ_gr (g1.trans g2) s) _ _ ⟨C, T.k.g, rfl, .inr ⟨dd, [u], rfl, upd_same, k1.ne nd, k1.nδ nd, by show 1 ≤ 1; decide, .cons (ru.gr g2) .nil⟩⟩
/-- try: .. except (C1, ..) as n: kept = n -/
def sTry (all cs : List Str) (i j : Nat) (b : DS) : DS := fun ρ S => match b ρ S with
  | .ok (.er c f ws ρ') S' => if (all.contains c && decide (i < ρ'.length)) = true then (if cs.contains c = true then .ok (.nx (((ρ'.set i none).set j (some (.exn c f ws))).set i none)) S' else .ok (.er c f ws ρ') S') else .bad
  | o => o
theorem rσ_none {Γ : Gm} {H : Hp} {μ : List Addr} {σ : L2.St} {ρ : En} (i : Nat) (v : Option V) (s : Rσ Γ H μ σ ρ) : Rσ Γ H μ (σ.set i v) (ρ.set i none) := ⟨by rw [List.length_set, List.length_set]; exact s.1, fun m w e => by
  by_cases hm : i = m
  · subst hm
    by_cases hi : i < ρ.length
    · rw [List.getElem?_set_self hi] at e; cases e
    · rw [List.getElem?_eq_none (by rw [List.length_set]; omega)] at e; cases e
  · rw [List.getElem?_set_ne hm] at e ⊢
    exact s.2 m w e⟩
theorem ds_try {nm y : Str} {cs : List Str} {us : List Value} {body : List Stmt} {bd : DS} {kx : Nat} {np pos' px pa pv' : Pos} (T : ErS X.K X.mg all) (hcs : ∀ c ∈ cs, c ∈ all) (hcu : NmS X.mg cs us) (hs : X.stack = X.env :: X.outer) (hf : X.env.frame = some X.env.locals) (hex : X.ex = []) (hN : X.N.Nodup) (hi : X.N[i]? = some nm) (hln : X.env.kindOf nm = some .local) (hj : X.N[j]? = some y) (hly : X.env.kindOf y = some .local) (hij : i ≠ j) (hc : NmAll X es us) (hel : us.length ≤ 1000) (tk : Takes X (fun cls d σ H => E σ cls d H))
    (hb : ∀ (W : WX) (pn : List (Addr × Obj)) (xe : Value → Shared → Prop), Takes (X.tr pn xe) W → PassesOwn (model X.prog X.w) X.A X.env xe → PDSs (X.tr pn xe) (WE W) body bd)
    (hsu : ∀ (a : Addr) (oe : Obj) (pn : List (Addr × Obj)), PSs (X.suite a ((a, oe) :: pn)) [.Assign [.Name y px] (.Name nm pv') pa] (tAsg (tVar i) (gName j))) :
    PDS X E (.Try body [.ExceptHandler (some (.Tuple es kx np)) (some nm) [.Assign [.Name y px] (.Name nm pv') pa] pos'] [] [] pos) (sTry all cs i j bd) :=
  ps_of (ps_try_keep (i := i) (tb := fun W => tsOf X.K X.mg (WE W) bd) (ts := fun _ _ _ => tAsg (tVar i) (gName j)) (Wout := fun cls d σ H => E σ cls d H) hs hf hex hN hi hln hc hel tk (fun W pn xe tk ho => hb W pn xe tk ho) (fun a oe cls d pn _ _ => hsu a oe pn)) fun D σ H ⟨δ, μ, S, ρ, k, s, h⟩ => by
    refine ⟨δ, μ, S, ρ, k, s, ?_⟩
    unfold sTry at h
    cases eb : bd ρ S with
    | bad => rw [eb] at h; exact h
    | err _ _ _ _ => rw [eb] at h; exact h
    | ok fl S1 =>
      rw [eb] at h
      cases fl with
      | nx ρ1 => exact h
      | rt w => exact h
      | bk ρ1 => exact h
      | ct ρ1 => exact h
      | er c f ws ρ1 =>
        intro H1 μ1 g1 k1 σ1 s1 cls d rx
        by_cases hin : (all.contains c && decide (i < ρ1.length)) = true
        · simp only [hin, if_true] at h
          obtain ⟨hin, hl⟩ := Bool.and_eq_true_iff.mp hin
          have hl := of_decide_eq_true hl
          have hc : c ∈ all := by simpa using hin
          obtain ⟨C, eC, rfl, rd⟩ := id rx
          obtain ⟨q1, q2⟩ := nmS_exm T hc eC hcu hcs
          refine ⟨cs.contains c, by rw [exm_val q1, q2], fun hy a na => ?_, fun hn => ?_⟩
          · rw [if_pos hy] at h
            have li : i < σ1.length := by rw [s1.1]; exact hl
            refine ⟨.ref a, by rw [List.getElem?_set_self li], ?_⟩
            have g2 := Gr.new (o := ErV (.ref C) d a) na (k1.ne na)
            have k2 := k1.new (o := ErV (.ref C) d a) na
            refine h _ _ (g1.trans g2) k2 _ (rσ_none i none (rσ_set (rσ_none i _ (rσ_gr g2 s1)) ?_))
            rcases rd with ⟨rfl, rfl⟩ | ⟨dd, xs, rfl, hd, nd, ndd, l, r⟩
            · exact .exn0 eC upd_same (k1.ne na) (k1.nδ na)
            · exact .exn eC upd_same (k1.ne na) (k1.nδ na) (by rw [upd_ne (ne_of_none hd na)]; exact hd) nd ndd l (r.gr g2)
          · rw [hn] at h
            simp only [Bool.false_eq_true, if_false] at h
            exact h H1 μ1 g1 k1 σ1 s1 _ _ rx
        · simp only [hin, if_false] at h
          exact h.elim
/-! ### what an error is -/
/-- isinstance(x, C), isinstance(x, T), isinstance(x, (C1, ..)) of an error -/
def dIsX (all : List Str) (f : Str → Bool) (d : DE) : DE := fun ρ => bnd (d ρ) fun w => match w with
  | .exn c _ _ => if all.contains c = true then ret (.bl (f c)) else bad
  | _ => bad
theorem exn_at {Γ : Gm} {H : Hp} {μ : List Addr} {v : V} {c f : Str} {ws : List W} (r : Rp Γ H μ v (.exn c f ws)) : ∃ a C d, v = .ref a ∧ Γ.mg c = some (.ref C) ∧ H a = some (ErV (.ref C) d a) ∧ DcOk H d := by
  cases r with
  | exn m h n z hd nd zd l q => exact ⟨_, _, _, rfl, m, h, DcOk.some hd⟩
  | exn0 m h n z => exact ⟨_, _, _, rfl, m, h, DcOk.none⟩
theorem de_isX {f : Str → Bool} {d : DE} {c : Expr} {cv : V} {u : Value} (T : ErS X.K X.mg all) (hc : PE X c (tC cv)) (hcl : ClsV cv u) (hk : ∀ c ∈ all, ∀ C, X.mg c = some (.ref C) → PySem.W.kitOne X.K (.ref C) u = some (f c)) (hg : Gl X "isinstance") (hm : X.mg "isinstance" = none) (ha : PD X E a d)
    (he : starEach (a :: [c]) X.env = (false, eval a X.env) :: starEach [c] X.env := by rfl) (he2 : starEach [c] X.env = (false, eval c X.env) :: starEach [] X.env := by rfl) (hpl : (backTo pos (starEach [c] X.env)).any (·.1) = false := by rfl) : PD X E (.Call (.Name "isinstance" p) [a, c] [] pos) (dIsX all f d) :=
  pe_of (pe_callB call_isV hg hm (by decide +kernel) (pa_cons ha (pa_cons hc pa_nil he2) he) (by decide) (by decide) he hpl) fun σ H Q ⟨δ, μ, S, ρ, k, s, h⟩ =>
  ⟨δ, μ, S, ρ, k, s, Res.step h fun w S1 H1 μ1 g1 k1 h1 v rv => by
    cases w with
    | exn c' f' ws =>
      by_cases hin : all.contains c' = true
      · simp only [hin, if_true] at h1
        have hc' : c' ∈ all := by simpa using hin
        obtain ⟨a', C, dd, rfl, e1, e2, e3⟩ := exn_at rv
        exact ⟨a', C, dd, cv, u, f c', rfl, e2, T.ec c' hc' C e1, e3, hcl, hk c' hc' C e1, Res.now k1 h1 _ (.bl _)⟩
      · simp only [hin, if_false] at h1
        exact h1.elim
    | _ => exact h1.elim⟩
theorem nmS_kit {K : PySem.W.Frag} {mg : Str → Option Value} (T : ErS K mg all) {c : Str} (hc : c ∈ all) {C : Addr} (e : mg c = some (.ref C)) {d : Str} (hd : d ∈ all) {D : Addr} (e2 : mg d = some (.ref D)) : PySem.W.kitOne K (.ref C) (.ref D) = some (decide (c = d)) := by
  by_cases h : c = d
  · subst h
    rw [e] at e2
    cases e2
    rw [decide_eq_true rfl]
    exact kit_self
  · rw [decide_eq_false h]
    have z := T.at hd e2
    refine kit_no z.hd z.ty ?_ ?_
    · have := T.sub c hc c hc C C e e
      rw [decide_eq_true rfl] at this
      exact this
    · have := T.sub c hc d hd C D e e2
      rw [decide_eq_false h] at this
      exact this
theorem nmS_kits {K : PySem.W.Frag} {mg : Str → Option Value} (T : ErS K mg all) {c : Str} (hc : c ∈ all) {C : Addr} (e : mg c = some (.ref C)) : ∀ {cs : List Str} {us : List Value}, NmS mg cs us → (∀ d ∈ cs, d ∈ all) → PySem.W.kitAny K (.ref C) us = some (cs.contains c)
  | _, _, .nil, _ => rfl
  | _, _, .cons (c := d) (C := D) (cs := cs) (us := us) h r, hs => by
    have e1 := nmS_kit T hc e (hs d (List.mem_cons_self ..)) h
    have e2 := nmS_kits T hc e r fun d hd => hs d (List.mem_cons_of_mem _ hd)
    unfold PySem.W.kitAny
    rw [e1, List.contains_cons]
    by_cases hcd : c = d
    · rw [decide_eq_true hcd]
      have : (c == d) = true := by rw [hcd]; exact beq_self_eq_true d
      rw [this]
      rfl
    · rw [decide_eq_false hcd]
      have : (c == d) = false := by
        rw [Bool.eq_false_iff]
        exact fun z => hcd (beq_iff_eq.mp z)
      rw [this, Bool.false_or]
      exact e2
/-- isinstance(x, (C1, ..)) -/
theorem de_isXs {d : DE} {c : Expr} {vs : List V} {cs : List Str} {us : List Value} {kk : Nat} {p2 : Pos} {ces : List Expr} (T : ErS X.K X.mg all) (hcs : ∀ c ∈ cs, c ∈ all) (hcu : NmS X.mg cs us) (hpv : Paired ClsV vs us) (hl : vs.length ≤ sizeLine) (hc : PA X ces (fun _ H Q => Q vs H)) (hg : Gl X "isinstance") (hm : X.mg "isinstance" = none) (ha : PD X E a d)
    (he : starEach (a :: [.Tuple ces kk p2]) X.env = (false, eval a X.env) :: starEach [.Tuple ces kk p2] X.env := by rfl) (he2 : starEach [.Tuple ces kk p2] X.env = (false, eval (.Tuple ces kk p2) X.env) :: starEach [] X.env := by rfl) (hpl : (backTo pos (starEach [.Tuple ces kk p2] X.env)).any (·.1) = false := by rfl) : PD X E (.Call (.Name "isinstance" p) [a, .Tuple ces kk p2] [] pos) (dIsX all (fun c => cs.contains c) d) :=
  pe_of (pe_callB call_isVT hg hm (by decide +kernel) (pa_cons ha (pa_cons (pe_tup hc) pa_nil he2) he) (by decide) (by decide) he hpl) fun σ H Q ⟨δ, μ, S, ρ, k, s, h⟩ =>
  ⟨δ, μ, S, ρ, k, s, Res.step h fun w S1 H1 μ1 g1 k1 h1 v rv => by
    cases w with
    | exn c' f' ws =>
      by_cases hin : all.contains c' = true
      · simp only [hin, if_true] at h1
        have hc' : c' ∈ all := by simpa using hin
        refine ⟨hl, fun tp ntp => ?_⟩
        have g2 := Gr.new (o := .tup vs) ntp (k1.ne ntp)
        have k2 := k1.new (o := .tup vs) ntp
        obtain ⟨a', C, dd, rfl, e1, e2, e3⟩ := exn_at (rv.gr g2)
        exact ⟨a', C, dd, tp, vs, us, cs.contains c', rfl, e2, T.ec c' hc' C e1, e3, upd_same, hpv, nmS_kits T hc' e1 hcu hcs, h1 _ _ g2 k2 _ (.bl _)⟩
      · simp only [hin, if_false] at h1
        exact h1.elim
    | _ => exact h1.elim⟩
/-- x.f of an error -/
def dFld (all : List Str) (n : Str) (d : DE) : DE := fun ρ => bnd (d ρ) fun w => match w with
  | .exn c f [u] => if (all.contains c && (f == n)) = true then ret u else bad
  | _ => bad
theorem de_fld {d : DE} {nm : Str} (T : ErS X.K X.mg all) (hno : ∀ c ∈ all, ∀ C, X.mg c = some (.ref C) → PySem.W.findIn X.K (.ref C) nm = some none) (ha : PD X E a d) (hb : attributeBase a nm X.env (eval a X.env) = eval a X.env := by rfl) : PD X E (.Attribute a nm pos) (dFld all nm d) :=
  pe_of (pe_fV ha hb) fun σ H Q ⟨δ, μ, S, ρ, k, s, h⟩ =>
  ⟨δ, μ, S, ρ, k, s, Res.step h fun w S1 H1 μ1 g1 k1 h1 v rv => by
    cases w with
    | exn c f ws =>
      match ws, rv, h1 with
      | [u], rv, h5 =>
        by_cases hin : (all.contains c && (f == nm)) = true
        · have h6 : Res ⟨X.K, X.mg, δ⟩ (E σ) H1 μ1 ((if (all.contains c && (f == nm)) = true then ret u else bad) S1) (fun w H' μ' _ => ∀ v, Rp ⟨X.K, X.mg, δ⟩ H' μ' v w → Q v H') := h5
          rw [if_pos hin] at h6
          obtain ⟨hin, hf⟩ := Bool.and_eq_true_iff.mp hin
          have hc' : c ∈ all := by simpa using hin
          have hf := beq_iff_eq.mp hf
          subst hf
          cases rv with
          | @exn a' C _ _ dd xs _ m hh n z hd nd zd l q =>
            obtain ⟨v1, rfl, r1⟩ := q.one rfl
            exact ⟨a', C, dd, [(f, v1)], v1, rfl, hh, T.ec c hc' C m, hno c hc' C m, hd, by rw [List.lookup_cons, beq_self_eq_true], Res.now k1 h6 _ r1⟩
        · have h6 : Res ⟨X.K, X.mg, δ⟩ (E σ) H1 μ1 ((if (all.contains c && (f == nm)) = true then ret u else bad) S1) (fun w H' μ' _ => ∀ v, Rp ⟨X.K, X.mg, δ⟩ H' μ' v w → Q v H') := h5
          rw [if_neg hin] at h6
          exact h6.elim
    | _ => exact h1.elim⟩
end
end Den

namespace Den
open PySem PySem.Spec PyProof.Rows L2 Bal
/-! ### zip of any number of lists and tuples -/
structure Zc where
  it : Addr
  l : Addr
  b : Bool
  xs : Array Value
def itS : Bool → Heap → Addr → Addr → Nat → Prop
  | true, h, it, l, k => h.IsListIter it l k
  | false, h, it, l, k => h.IsTupleIter it l k
def sqS : Bool → Heap → Addr → Array Value → Prop
  | true, h, l, xs => h.IsList l xs
  | false, h, l, xs => h.IsTuple l xs
def Zc.st (c : Zc) (i : Nat) (h : Heap) : Prop := itS c.b h c.it c.l i ∧ sqS c.b h c.l c.xs
theorem Zc.dr {prog : Program} {w : World} {A : Around} (hh : A.handled = none) (c : Zc) (ne : c.l ≠ c.it) : Draws prog w A c.it [c.it, c.l] c.xs.size (fun i v => c.xs[i]? = some v) c.st := by
  obtain ⟨it, l, b, xs⟩ := c
  cases b with
  | true => exact Draws.list hh it l ne xs
  | false => exact Draws.tuple hh it l ne xs
abbrev TupO (h : Heap) (T : Addr) (vs : List Value) : Prop := h.get? T = some { cls := .type "tuple", data := .seq vs.toArray }
structure ZSep (z TI TO : Addr) (cs : List Zc) : Prop where
  TIz : TI ≠ z
  TOz : TO ≠ z
  TITO : TI ≠ TO
  TIc : ∀ c ∈ cs, TI ≠ c.it
  zc : ∀ c ∈ cs, z ≠ c.it ∧ z ≠ c.l
  Tc : ∀ c ∈ cs, TO ≠ c.it ∧ TO ≠ c.l
  ne : ∀ c ∈ cs, c.l ≠ c.it
  pw : ∀ (j k : Nat) (c d : Zc), cs[j]? = some c → cs[k]? = some d → j ≠ k → c.it ≠ d.it ∧ c.it ≠ d.l
section
variable {prog : Program} {w : World} {A : Around} {E : Value → Shared → Prop} {s : Shared}
theorem updT {T : Addr} {vs : List Value} {x : Value} {k : Nat} {Q : Unit → Shared → Prop} (hT : TupO s.heap T vs) (hl : vs.length ≤ 1000) (h : ∀ h', TupO h' T (vs.set k x) → Heap.SameBut T s.heap h' → Q () { s with heap := h' }) : wpAny (model prog w) A (updateSeq T (·.setIfInBounds k x)) Q E s := by
  have hsz : vs.toArray.size ≤ sizeLine := by rw [List.size_toArray, sizeLine_eq]; omega
  have hsz' : (vs.toArray.setIfInBounds k x).size ≤ sizeLine + 1 := by rw [Array.size_setIfInBounds]; omega
  refine wpAny_updateSeq hT rfl (h _ ?_ (Heap.SameBut.update ..)) (by assumption) (by assumption)
  show Heap.get? _ T = _
  rw [Heap.get?_update_self _ hT rfl]
  simp [Obj.mapSeq]
theorem forIn_stp {β : Type} {M : Model} {f : Value × Nat → β → Sem (ForInStep β)} {b : β} {Q : β → Shared → Prop} (I : Nat → Shared → Prop) : ∀ (L : List (Value × Nat)) (n : Nat) {s : Shared}, (∀ (j : Nat) (p : Value × Nat) (s : Shared), L[j]? = some p → I (n + j) s → wpAny M A (f p b) (fun r s' => r = ForInStep.yield b ∧ I (n + j + 1) s') E s) → I n s →
    (∀ s', I (n + L.length) s' → Q b s') → wpAny M A (forIn L b f) Q E s
  | [], n, s, _, h0, hq => by
    rw [List.forIn_nil]
    exact wpAny_pure (hq s h0)
  | p :: L, n, s, hs, h0, hq => by
    rw [List.forIn_cons]
    refine wpAny_bind (wpAny_mono (hs 0 p s rfl h0) (fun r s' hr => ?_) fun _ _ x => x)
    obtain ⟨er, h1⟩ := hr
    rw [er]
    exact forIn_stp I L (n + 1) (fun j q s hj hi => by
      have := hs (j + 1) q s (by simpa using hj) (by rw [← Nat.add_assoc, Nat.add_right_comm]; exact hi)
      rw [← Nat.add_assoc, Nat.add_right_comm n j 1] at this
      exact this) h1 fun s' h => hq s' (by rw [List.length_cons, ← Nat.add_assoc, Nat.add_right_comm]; exact h)
/-- so far m of the iterators are drawn from -/
def ZAt (z TI TO : Addr) (cs : List Zc) (i : Nat) (s0 : Shared) (m : Nat) (s' : Shared) : Prop := ∃ h' tk' vs, s' = { s0 with heap := h', toks := tk' } ∧ IsZip h' z TI TO .ellipsis ∧ vs.length = cs.length ∧ TupO h' TO vs ∧ (∀ (j : Nat) (c : Zc) (v : Value), j < m → cs[j]? = some c → vs[j]? = some v → c.xs[i]? = some v) ∧
  (∀ (j : Nat) (c : Zc), cs[j]? = some c → c.st (if j < m then i + 1 else i) h') ∧ h'.objs.size = s0.heap.objs.size ∧ (∀ c o, c ≠ z → c ≠ TO → (∀ d ∈ cs, c ≠ d.it) → s0.heap.get? c = some o → h'.get? c = some o)
theorem zipN_item {z TI TO : Addr} {cs : List Zc} {i : Nat} {olds : List Value} {Q : Value → Shared → Prop} (hh : A.handled = none) (S : ZSep z TI TO cs) (h0 : cs ≠ []) (hz : IsZip s.heap z TI TO .none) (hTI : TupO s.heap TI (cs.map fun c => .ref c.it)) (hTO : TupO s.heap TO olds) (hl : olds.length = cs.length) (hc : cs.length ≤ 100) (st : ∀ c ∈ cs, c.st i s.heap) (lt : ∀ c ∈ cs, i < c.xs.size)
    (hQ : ∀ vs h' tk, vs.length = cs.length → (∀ (j : Nat) (c : Zc) (v : Value), cs[j]? = some c → vs[j]? = some v → c.xs[i]? = some v) → IsZip h' z TI TO (rawInt s.heap.objs.size) → TupO h' TO vs → (∀ c ∈ cs, c.st (i + 1) h') → TupO h' s.heap.objs.size vs → h'.objs.size = s.heap.objs.size + 1 →
      (∀ c o, c ≠ z → c ≠ TO → (∀ d ∈ cs, c ≠ d.it) → s.heap.get? c = some o → h'.get? c = some o) → Q (.ref s.heap.objs.size) { s with heap := h', toks := tk }) :
    wpAny (model prog w) A (Builtin.«zip.__next__» ⟨[.ref z], []⟩) (fun fin s' => ∃ v, fin = .done (.ret v) ∧ Q v s') E s := by
  obtain ⟨hp, g, d, tk0, os⟩ := s
  show wpAny _ _ (field (.ref z) 2 >>= _) _ _ _
  refine wpAny_bind (wpAny_field hz rfl (x := .bool false) rfl ?_)
  show wpAny _ _ (field (.ref z) 3 >>= _) _ _ _
  refine wpAny_bind (wpAny_field hz rfl (x := .ref TI) rfl (wpAny_bind (wpAny_seqItems hTI rfl ?_)))
  have hem : (cs.map fun c => Value.ref c.it).toArray.isEmpty = false := by
    cases cs with
    | nil => exact absurd rfl h0
    | cons c r => simp
  show wpAny _ _ (if (cs.map fun c => Value.ref c.it).toArray.isEmpty = true then _ else _) _ _ _
  rw [hem, if_neg (by decide)]
  show wpAny _ _ (Builtin.SmallTypes.ownedTupleIsFree (.ref z) >>= _) _ _ _
  refine wpAny_bind ?_
  unfold Builtin.SmallTypes.ownedTupleIsFree
  refine wpAny_bind (wpAny_field hz rfl (x := .none) rfl (wpAny_pure ?_))
  rw [if_pos rfl]
  refine wpAny_bind (wpAny_rule (wpAny_bind (wpAny_field hz rfl (x := .ref TO) rfl ?_)))
  refine wpAny_bind (wpAny_setField_rec hz (by simp) fun g0 hz0 hs0 => ?_)
  have hz0' : IsZip g0 z TI TO .ellipsis := hz0
  have hs0' : Heap.SameBut z hp g0 := hs0
  refine wpAny_bind (forIn_stp (ZAt z TI TO cs i ⟨hp, g, d, tk0, os⟩) _ 0 (fun j p s' hj hI => ?_) ?_ (fun s' hI => ?_))
  · obtain ⟨h1, tk1, vs, rfl, hz1, l1, hT1, hv1, hst1, hsz1, hk1⟩ := hI
    rw [Nat.zero_add] at hst1 hv1 ⊢
    obtain ⟨c, hcj, rfl⟩ : ∃ c, cs[j]? = some c ∧ p = (.ref c.it, j) := by
      rw [List.getElem?_zipIdx] at hj
      cases e : cs[j]? with
      | none => simp [e] at hj
      | some c => exact ⟨c, rfl, by simpa [e, eq_comm] using hj⟩
    have mc : c ∈ cs := List.mem_of_getElem? hcj
    have hjl : j < cs.length := (List.getElem?_eq_some_iff.mp hcj).1
    refine wpAny_bind (wpAny_onRaise ?_)
    show wpAny _ _ (Builtin.SmallTypes.nextOf (.ref c.it) >>= _) _ _ ⟨h1, g, d, tk1, os⟩
    have stc := hst1 j c hcj
    rw [if_neg (Nat.lt_irrefl j)] at stc
    refine wpAny_bind ((c.dr hh (S.ne c mc)).item i _ _ _ (lt c mc) stc fun x p1 tk2 hx sn hp1 => wpAny_pure ?_)
    have hp1' : Heap.SameBut c.it h1 p1 := hp1
    have hU1 : TupO p1 TO vs := hp1'.extBut _ _ (S.Tc c mc).1 hT1
    refine wpAny_bind (wpAny_seqItems (s := ⟨p1, g, d, tk2, os⟩) hU1 rfl ?_)
    refine wpAny_bind (updT (s := ⟨p1, g, d, tk2, os⟩) hU1 (by omega) fun g1 hT2 hs1 => ?_)
    have hs1' : Heap.SameBut TO p1 g1 := hs1
    refine wpAny_bind (wpAny_letGo (wpAny_pure ⟨rfl, g1, tk2, vs.set j x, rfl, ?_, by rw [List.length_set]; exact l1, hT2, fun j' c' v' hlt hc' hv' => ?_, fun j' c' hc' => ?_, ?_, fun a o az aT ac e => ?_⟩))
    · exact hs1'.extBut _ _ (Ne.symm S.TOz) (hp1'.extBut _ _ (S.zc c mc).1 hz1)
    · by_cases hjj : j = j'
      · subst hjj
        rw [hcj] at hc'
        cases hc'
        rw [List.getElem?_set_self (by rw [l1]; exact hjl)] at hv'
        cases hv'
        exact hx
      · rw [List.getElem?_set_ne hjj] at hv'
        exact hv1 j' c' v' (by omega) hc' hv'
    · have mc' : c' ∈ cs := List.mem_of_getElem? hc'
      have fr : ∀ k, c'.st k p1 → c'.st k g1 := fun k hk => (c'.dr (A := A) (prog := prog) (w := w) hh (S.ne c' mc')).over hk hs1' (by simp; exact S.Tc c' mc')
      refine fr _ ?_
      by_cases hjj : j = j'
      · subst hjj
        rw [hcj] at hc'
        cases hc'
        rw [if_pos (Nat.lt_succ_self j)]
        exact sn
      · have e : (if j' < j + 1 then i + 1 else i) = (if j' < j then i + 1 else i) := by
          by_cases hlt : j' < j
          · rw [if_pos hlt, if_pos (by omega)]
          · rw [if_neg hlt, if_neg (by omega)]
        rw [e]
        exact (c'.dr (A := A) (prog := prog) (w := w) hh (S.ne c' mc')).over (hst1 j' c' hc') hp1' (by simp; exact S.pw j j' c c' hcj hc' hjj)
    · rw [hs1'.1, hp1'.1]
      exact hsz1
    · exact hs1'.extBut _ _ aT (hp1'.extBut _ _ (ac c mc) (hk1 a o az aT ac e))
  · refine ⟨g0, tk0, olds, rfl, hz0', hl, hs0'.extBut _ _ S.TOz hTO, fun _ _ _ hlt => absurd hlt (Nat.not_lt_zero _), fun j c hcj => ?_, hs0'.1, fun a o az aT ac e => hs0'.extBut _ _ az e⟩
    rw [if_neg (Nat.not_lt_zero _)]
    have mc : c ∈ cs := List.mem_of_getElem? hcj
    exact (c.dr (A := A) (prog := prog) (w := w) hh (S.ne c mc)).over (st c mc) hs0' (by simp; exact S.zc c mc)
  · obtain ⟨h1, tk1, vs, rfl, hz1, l1, hT1, hv1, hst1, hsz1, hk1⟩ := hI
    rw [Nat.zero_add] at hst1 hv1
    have hlen : ((cs.map fun c => Value.ref c.it).toArray.toList.zipIdx).length = cs.length := by simp
    rw [hlen] at hst1 hv1
    have hst2 : ∀ c ∈ cs, c.st (i + 1) h1 := fun c mc => by
      obtain ⟨j, hj, e⟩ := List.getElem_of_mem mc
      have := hst1 j c (by rw [List.getElem?_eq_getElem hj, e])
      rw [if_pos hj] at this
      exact this
    refine wpAny_bind (wpAny_seqItems (s := ⟨h1, g, d, tk1, os⟩) hT1 rfl ?_)
    refine wpAny_bind (wpAny_newTuple ?_)
    have hzlt : z < h1.objs.size := Heap.lt_size hz1
    show wpAny _ _ (Builtin.SmallTypes.ownedTupleHandOut (.ref z) (.ref h1.objs.size) >>= _) _ _ ⟨h1.push { cls := .type "tuple", data := .seq vs.toArray }, g, d, tk1, os⟩
    refine wpAny_bind ?_
    unfold Builtin.SmallTypes.ownedTupleHandOut
    have hz6 : IsZip (h1.push { cls := .type "tuple", data := .seq vs.toArray }) z TI TO .ellipsis := Heap.get?_push_of_some _ hz1
    refine wpAny_bind (wpAny_setField_rec hz6 (by simp) fun h7 hz7 hs7 => ?_)
    have hz7' : IsZip h7 z TI TO (rawInt h1.objs.size) := hz7
    have hs7' : Heap.SameBut z (h1.push { cls := .type "tuple", data := .seq vs.toArray }) h7 := hs7
    refine wpAny_setField_rec hz7' (by simp) fun h8 hz8 hs8 => ?_
    have hz8' : IsZip h8 z TI TO (rawInt h1.objs.size) := hz8
    have hs8' : Heap.SameBut z h7 h8 := hs8
    have up : ∀ c o, c ≠ z → h1.get? c = some o → h8.get? c = some o := fun c o c1 e => hs8'.extBut _ _ c1 (hs7'.extBut _ _ c1 (Heap.get?_push_of_some _ e))
    have hT8 : TupO h8 h1.objs.size vs := hs8'.extBut _ _ (Nat.ne_of_gt hzlt) (hs7'.extBut _ _ (Nat.ne_of_gt hzlt) (Heap.get?_push_size _ rfl))
    have sz8 : h8.objs.size = h1.objs.size + 1 := by rw [hs8'.1, hs7'.1, Heap.size_push]
    have hsz1' : h1.objs.size = hp.objs.size := hsz1
    rw [hsz1'] at hz8' hT8 sz8
    refine wpAny_pure ⟨_, rfl, ?_⟩
    show Q (.ref h1.objs.size) ⟨h8, g, d, tk1, os⟩
    rw [hsz1']
    exact hQ vs h8 tk1 l1 (fun j c v hc hv => hv1 j c v (List.getElem?_eq_some_iff.mp hc).1 hc hv) hz8' (up _ _ S.TOz hT1) (fun c mc => (c.dr (A := A) (prog := prog) (w := w) hh (S.ne c mc)).frame _ _ _ (hst2 c mc) fun b hb o e => up b o (by
      rcases (by simpa using hb : b = c.it ∨ b = c.l) with q | q
      · rw [q]; exact Ne.symm (S.zc c mc).1
      · rw [q]; exact Ne.symm (S.zc c mc).2) e) hT8 sz8 fun c o cz cT cc e => up c o cz (hk1 c o cz cT cc e)
theorem zipN_end {z TI TO : Addr} {cs : List Zc} {i : Nat} {olds : List Value} {Q : Fin → Shared → Prop} (hh : A.handled = none) (S : ZSep z TI TO cs) (h0 : cs ≠ []) (hz : IsZip s.heap z TI TO .none) (hTI : TupO s.heap TI (cs.map fun c => .ref c.it)) (hTO : TupO s.heap TO olds) (hl : olds.length = cs.length) (hc : cs.length ≤ 100) (st : ∀ c ∈ cs, c.st i s.heap) (le : ∀ c ∈ cs, i ≤ c.xs.size)
    (m : Nat) (cm : Zc) (hm : cs[m]? = some cm) (em : i = cm.xs.size) (lt : ∀ (j : Nat) (c : Zc), j < m → cs[j]? = some c → i < c.xs.size)
    (hE : ∀ h' tk e, (∀ c o, c ≠ z → c ≠ TO → (∀ d ∈ cs, c ≠ d.it) → s.heap.get? c = some o → h'.get? c = some o) → (∃ o, h'.get? e = some o ∧ o.cls = .type "StopIteration") → E (.ref e) { s with heap := h', toks := tk }) :
    wpAny (model prog w) A (Builtin.«zip.__next__» ⟨[.ref z], []⟩) Q E s := by
  obtain ⟨hp, g, d, tk0, os⟩ := s
  show wpAny _ _ (field (.ref z) 2 >>= _) _ _ _
  refine wpAny_bind (wpAny_field hz rfl (x := .bool false) rfl ?_)
  show wpAny _ _ (field (.ref z) 3 >>= _) _ _ _
  refine wpAny_bind (wpAny_field hz rfl (x := .ref TI) rfl (wpAny_bind (wpAny_seqItems hTI rfl ?_)))
  have hem : (cs.map fun c => Value.ref c.it).toArray.isEmpty = false := by
    cases cs with
    | nil => exact absurd rfl h0
    | cons c r => simp
  show wpAny _ _ (if (cs.map fun c => Value.ref c.it).toArray.isEmpty = true then _ else _) _ _ _
  rw [hem, if_neg (by decide)]
  show wpAny _ _ (Builtin.SmallTypes.ownedTupleIsFree (.ref z) >>= _) _ _ _
  refine wpAny_bind ?_
  unfold Builtin.SmallTypes.ownedTupleIsFree
  refine wpAny_bind (wpAny_field hz rfl (x := .none) rfl (wpAny_pure ?_))
  rw [if_pos rfl]
  refine wpAny_bind (wpAny_rule (wpAny_bind (wpAny_field hz rfl (x := .ref TO) rfl ?_)))
  refine wpAny_bind (wpAny_setField_rec hz (by simp) fun g0 hz0 hs0 => ?_)
  have hz0' : IsZip g0 z TI TO .ellipsis := hz0
  have hs0' : Heap.SameBut z hp g0 := hs0
  refine wpAny_bind (forIn_stp (fun n s' => n ≤ m ∧ ZAt z TI TO cs i ⟨hp, g, d, tk0, os⟩ n s') _ 0 (fun j p s' hj hI => ?_) ?_ (fun s' hI => ?_))
  · obtain ⟨hjm, h1, tk1, vs, rfl, hz1, l1, hT1, hv1, hst1, hsz1, hk1⟩ := hI
    rw [Nat.zero_add] at hst1 hv1 hjm ⊢
    obtain ⟨c, hcj, rfl⟩ : ∃ c, cs[j]? = some c ∧ p = (.ref c.it, j) := by
      rw [List.getElem?_zipIdx] at hj
      cases e : cs[j]? with
      | none => simp [e] at hj
      | some c => exact ⟨c, rfl, by simpa [e, eq_comm] using hj⟩
    have mc : c ∈ cs := List.mem_of_getElem? hcj
    have hjl : j < cs.length := (List.getElem?_eq_some_iff.mp hcj).1
    refine wpAny_bind (wpAny_onRaise ?_)
    show wpAny _ _ (Builtin.SmallTypes.nextOf (.ref c.it) >>= _) _ _ ⟨h1, g, d, tk1, os⟩
    have stc := hst1 j c hcj
    rw [if_neg (Nat.lt_irrefl j)] at stc
    by_cases hend : j = m
    · subst hend
      rw [hm] at hcj
      cases hcj
      refine wpAny_bind ((cm.dr hh (S.ne cm mc)).done ⟨h1, g, d, tk1, os⟩ _ _ (by rw [← em]; exact stc) fun q e hq he => ?_)
      have hq' : Heap.ExtBut cm.it h1 q := hq
      obtain ⟨oe, hoe, hce⟩ := he
      have hoe' : q.get? e = some oe := hoe
      have hzq : IsZip q z TI TO .ellipsis := hq' _ _ (S.zc cm mc).1 hz1
      have hez : e ≠ z := fun x => by subst x; rw [hzq] at hoe'; cases hoe'; simp at hce
      refine wpAny_setField_rec (s := ⟨q, g, d, tk1, os⟩) hzq (by simp) fun q' _ hq2 => ?_
      have hq2' : Heap.SameBut z q q' := hq2
      exact hE q' tk1 e (fun a o az aT ac x => hq2'.extBut _ _ az (hq' _ _ (ac cm mc) (hk1 a o az aT ac x))) ⟨oe, hq2'.extBut _ _ hez hoe', hce⟩
    refine wpAny_bind ((c.dr hh (S.ne c mc)).item i _ _ _ (lt j c (by omega) hcj) stc fun x p1 tk2 hx sn hp1 => wpAny_pure ?_)
    have hp1' : Heap.SameBut c.it h1 p1 := hp1
    have hU1 : TupO p1 TO vs := hp1'.extBut _ _ (S.Tc c mc).1 hT1
    refine wpAny_bind (wpAny_seqItems (s := ⟨p1, g, d, tk2, os⟩) hU1 rfl ?_)
    refine wpAny_bind (updT (s := ⟨p1, g, d, tk2, os⟩) hU1 (by omega) fun g1 hT2 hs1 => ?_)
    have hs1' : Heap.SameBut TO p1 g1 := hs1
    refine wpAny_bind (wpAny_letGo (wpAny_pure ⟨rfl, by omega, g1, tk2, vs.set j x, rfl, ?_, by rw [List.length_set]; exact l1, hT2, fun j' c' v' hlt hc' hv' => ?_, fun j' c' hc' => ?_, ?_, fun a o az aT ac e => ?_⟩))
    · exact hs1'.extBut _ _ (Ne.symm S.TOz) (hp1'.extBut _ _ (S.zc c mc).1 hz1)
    · by_cases hjj : j = j'
      · subst hjj
        rw [hcj] at hc'
        cases hc'
        rw [List.getElem?_set_self (by rw [l1]; exact hjl)] at hv'
        cases hv'
        exact hx
      · rw [List.getElem?_set_ne hjj] at hv'
        exact hv1 j' c' v' (by omega) hc' hv'
    · have mc' : c' ∈ cs := List.mem_of_getElem? hc'
      have fr : ∀ k, c'.st k p1 → c'.st k g1 := fun k hk => (c'.dr (A := A) (prog := prog) (w := w) hh (S.ne c' mc')).over hk hs1' (by simp; exact S.Tc c' mc')
      refine fr _ ?_
      by_cases hjj : j = j'
      · subst hjj
        rw [hcj] at hc'
        cases hc'
        rw [if_pos (Nat.lt_succ_self j)]
        exact sn
      · have e : (if j' < j + 1 then i + 1 else i) = (if j' < j then i + 1 else i) := by
          by_cases hlt : j' < j
          · rw [if_pos hlt, if_pos (by omega)]
          · rw [if_neg hlt, if_neg (by omega)]
        rw [e]
        exact (c'.dr (A := A) (prog := prog) (w := w) hh (S.ne c' mc')).over (hst1 j' c' hc') hp1' (by simp; exact S.pw j j' c c' hcj hc' hjj)
    · rw [hs1'.1, hp1'.1]
      exact hsz1
    · exact hs1'.extBut _ _ aT (hp1'.extBut _ _ (ac c mc) (hk1 a o az aT ac e))
  · refine ⟨Nat.zero_le _, g0, tk0, olds, rfl, hz0', hl, hs0'.extBut _ _ S.TOz hTO, fun _ _ _ hlt => absurd hlt (Nat.not_lt_zero _), fun j c hcj => ?_, hs0'.1, fun a o az aT ac e => hs0'.extBut _ _ az e⟩
    rw [if_neg (Nat.not_lt_zero _)]
    have mc : c ∈ cs := List.mem_of_getElem? hcj
    exact (c.dr (A := A) (prog := prog) (w := w) hh (S.ne c mc)).over (st c mc) hs0' (by simp; exact S.zc c mc)
  · obtain ⟨hle, _⟩ := hI
    have hlen : ((cs.map fun c => Value.ref c.it).toArray.toList.zipIdx).length = cs.length := by simp
    rw [hlen] at hle
    have := (List.getElem?_eq_some_iff.mp hm).1
    omega
theorem in1_h (h : A.handled = none) : A.in1.handled = none := h
theorem nextN_item {z TI TO : Addr} {cs : List Zc} {i : Nat} {olds : List Value} {Q : Option Value → Shared → Prop} (hh : A.handled = none) (S : ZSep z TI TO cs) (h0 : cs ≠ []) (hz : IsZip s.heap z TI TO .none) (hTI : TupO s.heap TI (cs.map fun c => .ref c.it)) (hTO : TupO s.heap TO olds) (hl : olds.length = cs.length) (hc : cs.length ≤ 100) (st : ∀ c ∈ cs, c.st i s.heap) (lt : ∀ c ∈ cs, i < c.xs.size)
    (hQ : ∀ vs h' tk, vs.length = cs.length → (∀ (j : Nat) (c : Zc) (v : Value), cs[j]? = some c → vs[j]? = some v → c.xs[i]? = some v) → IsZip h' z TI TO (rawInt s.heap.objs.size) → TupO h' TO vs → (∀ c ∈ cs, c.st (i + 1) h') → TupO h' s.heap.objs.size vs → h'.objs.size = s.heap.objs.size + 1 →
      (∀ c o, c ≠ z → c ≠ TO → (∀ d ∈ cs, c ≠ d.it) → s.heap.get? c = some o → h'.get? c = some o) → Q (some (.ref s.heap.objs.size)) { s with heap := h', toks := tk }) : wpAny (model prog w) A (pyNext (.ref z)) Q E s := by
  have hT : s.TypeIs (.ref z) "zip" := ⟨_, hz, rfl⟩
  unfold pyNext
  exact wpAny_bind (wpAny_attempt (wpAny_callSpecial?_slot (name := Str.ofString "__next__") hT F.slot_zip_next (wpAny_call_entry F.slot_zip_next hT F.entry_zip_next (zipN_item (in1_h hh) S h0 hz hTI hTO hl hc st lt fun vs h' tk a1 a2 a3 a4 a5 a6 a7 a8 => wpAny_pure (hQ vs h' tk a1 a2 a3 a4 a5 a6 a7 a8)) (F.args_zip_next_1 _))))
theorem nextN_end {z TI TO : Addr} {cs : List Zc} {i : Nat} {olds : List Value} {Q : Option Value → Shared → Prop} (hh : A.handled = none) (S : ZSep z TI TO cs) (h0 : cs ≠ []) (hz : IsZip s.heap z TI TO .none) (hTI : TupO s.heap TI (cs.map fun c => .ref c.it)) (hTO : TupO s.heap TO olds) (hl : olds.length = cs.length) (hc : cs.length ≤ 100) (st : ∀ c ∈ cs, c.st i s.heap) (le : ∀ c ∈ cs, i ≤ c.xs.size) (he : ∃ c ∈ cs, i = c.xs.size)
    (hQ : ∀ h' tk, (∀ c o, c ≠ z → c ≠ TO → (∀ d ∈ cs, c ≠ d.it) → s.heap.get? c = some o → h'.get? c = some o) → Q none { s with heap := h', toks := tk }) : wpAny (model prog w) A (pyNext (.ref z)) Q E s := by
  have hT : s.TypeIs (.ref z) "zip" := ⟨_, hz, rfl⟩
  -- the first that is at its end
  have first : ∀ n : Nat, (∃ j c, j < n ∧ cs[j]? = some c ∧ i = c.xs.size) → ∃ m cm, cs[m]? = some cm ∧ i = cm.xs.size ∧ ∀ (j : Nat) (c : Zc), j < m → cs[j]? = some c → i < c.xs.size := by
    intro n
    induction n with
    | zero => rintro ⟨j, c, h, _⟩; exact absurd h (Nat.not_lt_zero _)
    | succ n ih =>
      rintro ⟨j, c, h1, h2, h3⟩
      by_cases hx : ∃ j c, j < n ∧ cs[j]? = some c ∧ i = c.xs.size
      · exact ih hx
      · have ej : j = n := by
          by_cases hj : j = n
          · exact hj
          · exact absurd ⟨j, c, by omega, h2, h3⟩ hx
        subst ej
        refine ⟨j, c, h2, h3, fun k d hk hd => ?_⟩
        have l1 := le d (List.mem_of_getElem? hd)
        by_cases hq : i = d.xs.size
        · exact absurd ⟨k, d, hk, hd, hq⟩ hx
        · omega
  obtain ⟨c0, mc0, e0⟩ := he
  obtain ⟨j0, hj0, ej0⟩ := List.getElem_of_mem mc0
  obtain ⟨m, cm, hm, em, hlt⟩ := first cs.length ⟨j0, c0, hj0, by rw [List.getElem?_eq_getElem hj0, ej0], e0⟩
  unfold pyNext
  refine wpAny_bind (wpAny_attempt (wpAny_callSpecial?_slot (name := Str.ofString "__next__") hT F.slot_zip_next (wpAny_call_entry F.slot_zip_next hT F.entry_zip_next (zipN_end (in1_h hh) S h0 hz hTI hTO hl hc st le m cm hm em hlt fun h' tk e hk hx => ?_) (F.args_zip_next_1 _))))
  obtain ⟨o, ho, hcl⟩ := hx
  exact wpAny_bind (wpAny_isInstance (T := "StopIteration") (b := true) ⟨o, ho, hcl⟩ isSubtype_stop (wpAny_pure (hQ _ _ hk)))
end
end Den

namespace Den
open PySem PySem.Spec PyProof.Rows L2 Bal
/-- a list, a tuple, read -/
def SqK (K : PySem.W.Frag) (H : Hp) : Bool × Addr → List V → Prop
  | (true, a), xs => SqL K H a xs
  | (false, a), xs => SqT K H a xs
def ItN (K : PySem.W.Frag) (ps : List (Bool × Addr)) : It :=
  ⟨fun i H => ∀ p ∈ ps, ∃ xs x, SqK K H p xs ∧ xs[i]? = some x,
    fun i H v H' => ∃ (T : Addr) (ys : List V) (o : Obj), v = .ref T ∧ H T = none ∧ o.dict = none ∧ H' = upd H T (.frz o (.tup ys)) ∧ ys.length = ps.length ∧ ∀ (j : Nat) (p : Bool × Addr) (y : V), ps[j]? = some p → ys[j]? = some y → ∀ xs, SqK K H p xs → xs[i]? = some y,
    fun i H => (∀ p ∈ ps, ∃ xs, SqK K H p xs ∧ i ≤ xs.length) ∧ ∃ p ∈ ps, ∃ xs, SqK K H p xs ∧ xs.length ≤ i⟩
section
variable {X : Cx} {pins : List (Addr × Obj)} {σ : L2.St} {H : Hp} {s : Shared}
theorem sqK_obj (I : Inv X pins σ H s) {p : Bool × Addr} {xs : List V} (h : SqK X.K H p xs) : ∃ its : List Value, Vals xs its ∧ sqS p.1 s.heap p.2 its.toArray ∧ p.2 < s.heap.objs.size := by
  obtain ⟨b, a⟩ := p
  cases b with
  | true =>
    obtain ⟨its, r, pl, _⟩ := I.list h
    exact ⟨its, r, pl.isList, pl.lt⟩
  | false =>
    obtain ⟨its, r, pl, _⟩ := I.tuple h
    exact ⟨its, r, (show s.heap.IsTuple a its.toArray from pl), pl.lt⟩
theorem sqK_inj (I : Inv X pins σ H s) {p : Bool × Addr} {xs ys : List V} (h : SqK X.K H p xs) (h' : SqK X.K H p ys) : xs = ys := by
  obtain ⟨b, a⟩ := p
  cases b with
  | true => exact I.list_inj h h'
  | false => exact I.tuple_inj h h'
/-- the iterators with what they walk, as it stands -/
theorem zcs (I : Inv X pins σ H s) (f : List V → Prop) : ∀ (ts : List Addr) (ps : List (Bool × Addr)), ts.length = ps.length → (∀ p ∈ ps, ∃ xs, SqK X.K H p xs ∧ f xs) →
    ∃ cs : List Zc, cs.map (·.it) = ts ∧ cs.map (fun c => (c.b, c.l)) = ps ∧ ∀ c ∈ cs, ∃ xs : List V, SqK X.K H (c.b, c.l) xs ∧ f xs ∧ Vals xs c.xs.toList ∧ sqS c.b s.heap c.l c.xs
  | [], [], _, _ => ⟨[], rfl, rfl, fun _ h => (nomatch h)⟩
  | t :: ts, p :: ps, hl, h => by
    obtain ⟨cs, e1, e2, h1⟩ := zcs I f ts ps (Nat.succ.inj hl) fun q hq => h q (List.mem_cons_of_mem _ hq)
    obtain ⟨xs, hs, hf⟩ := h p (List.mem_cons_self ..)
    obtain ⟨its, r, hq, _⟩ := sqK_obj I hs
    refine ⟨⟨t, p.2, p.1, its.toArray⟩ :: cs, by rw [List.map_cons, e1], by rw [List.map_cons, e2], fun c hc => ?_⟩
    rcases List.mem_cons.mp hc with rfl | hc
    · exact ⟨xs, hs, hf, by simpa using r, hq⟩
    · exact h1 c hc
theorem itS_keep {b : Bool} {h h' : Heap} {it l : Addr} {k : Nat} (x : itS b h it l k) (kp : ∀ o, h.get? it = some o → h'.get? it = some o) : itS b h' it l k := by
  cases b with
  | true => exact Heap.IsListIter.at x kp
  | false => exact Heap.IsTupleIter.at x kp
theorem itS_obj {b : Bool} {h : Heap} {it l : Addr} {k : Nat} (x : itS b h it l k) : ∃ o, h.get? it = some o ∧ ∀ v, o.data ≠ .cell v := by
  cases b with
  | true =>
    obtain ⟨o, e, _, d⟩ := x
    exact ⟨o, e, fun v q => by rw [d] at q; cases q⟩
  | false =>
    obtain ⟨o, e, _, d⟩ := x
    exact ⟨o, e, fun v q => by rw [d] at q; cases q⟩
end
/-- the cells lie apart -/
structure Apt (z TI TO : Addr) (ts : List Addr) (ps : List (Bool × Addr)) : Prop where
  len : ts.length = ps.length
  few : ts.length ≤ 100
  one : ts ≠ []
  TIz : TI ≠ z
  TOz : TO ≠ z
  TITO : TI ≠ TO
  zt : z ∉ ts
  It : TI ∉ ts
  Ot : TO ∉ ts
  nd : ts.Nodup
  pz : ∀ p ∈ ps, p.2 ≠ z ∧ p.2 ≠ TO ∧ p.2 ∉ ts
def ZTn (z TI TO : Addr) (ts : List Addr) (ps : List (Bool × Addr)) (i : Nat) (h : Heap) : Prop := IsZip h z TI TO .none ∧ TupO h TI (ts.map .ref) ∧ (∃ olds, olds.length = ts.length ∧ TupO h TO olds) ∧ ∀ (j : Nat) (t : Addr) (p : Bool × Addr), ts[j]? = some t → ps[j]? = some p → itS p.1 h t p.2 i
theorem apt_sep {z TI TO : Addr} {cs : List Zc} (D : Apt z TI TO (cs.map (·.it)) (cs.map fun c => (c.b, c.l))) : ZSep z TI TO cs where
  TIz := D.TIz
  TOz := D.TOz
  TITO := D.TITO
  TIc := fun c hc e => D.It (by rw [e]; exact List.mem_map.mpr ⟨c, hc, rfl⟩)
  zc := fun c hc => ⟨fun e => D.zt (by rw [e]; exact List.mem_map.mpr ⟨c, hc, rfl⟩), fun e => (D.pz (c.b, c.l) (List.mem_map.mpr ⟨c, hc, rfl⟩)).1 e.symm⟩
  Tc := fun c hc => ⟨fun e => D.Ot (by rw [e]; exact List.mem_map.mpr ⟨c, hc, rfl⟩), fun e => (D.pz (c.b, c.l) (List.mem_map.mpr ⟨c, hc, rfl⟩)).2.1 e.symm⟩
  ne := fun c hc e => (D.pz (c.b, c.l) (List.mem_map.mpr ⟨c, hc, rfl⟩)).2.2 (by show c.l ∈ _; rw [e]; exact List.mem_map.mpr ⟨c, hc, rfl⟩)
  pw := fun j k c d hj hk hjk => ⟨fun e => by
      have h1 : (cs.map (·.it))[j]? = some c.it := by rw [List.getElem?_map, hj]; rfl
      have h2 : (cs.map (·.it))[k]? = some c.it := by rw [List.getElem?_map, hk, e]; rfl
      obtain ⟨l1, e1⟩ := List.getElem?_eq_some_iff.mp h1
      obtain ⟨l2, e2⟩ := List.getElem?_eq_some_iff.mp h2
      exact hjk ((List.getElem_inj D.nd).mp (e1.trans e2.symm)), fun e => (D.pz (d.b, d.l) (List.mem_map.mpr ⟨d, List.mem_of_getElem? hk, rfl⟩)).2.2 (by show d.l ∈ _; rw [← e]; exact List.mem_map.mpr ⟨c, List.mem_of_getElem? hj, rfl⟩)⟩
theorem turnN {P : Program} {w : World} {K : PySem.W.Frag} {elts : List Expr} {kk : Nat} {tpos : Pos} {z TI TO : Addr} {ts : List Addr} {ps : List (Bool × Addr)} (D : Apt z TI TO ts ps) : Turn P w K (.Tuple elts kk tpos) (ItN K ps) (z :: TI :: TO :: ts) z (ZTn z TI TO ts ps) where
  mem := List.mem_cons_self ..
  obj := fun i h st c hc => by
    obtain ⟨hz, hTI, ⟨olds, _, hTO⟩, hi⟩ := st
    rcases List.mem_cons.mp hc with rfl | hc
    · exact ⟨_, hz, fun v q => nomatch q⟩
    rcases List.mem_cons.mp hc with rfl | hc
    · exact ⟨_, hTI, fun v q => nomatch q⟩
    rcases List.mem_cons.mp hc with rfl | hc
    · exact ⟨_, hTO, fun v q => nomatch q⟩
    obtain ⟨j, hj, e⟩ := List.getElem_of_mem hc
    exact itS_obj (hi j c _ (by rw [List.getElem?_eq_getElem hj, e]) (List.getElem?_eq_getElem (by rw [← D.len]; exact hj)))
  keep := fun i h h' st k => by
    obtain ⟨hz, hTI, ⟨olds, l, hTO⟩, hi⟩ := st
    refine ⟨k z (List.mem_cons_self ..) _ hz, k TI (List.mem_cons_of_mem _ (List.mem_cons_self ..)) _ hTI, ⟨olds, l, k TO (List.mem_cons_of_mem _ (List.mem_cons_of_mem _ (List.mem_cons_self ..))) _ hTO⟩, fun j t p hj hp => itS_keep (hi j t p hj hp) fun o q => ?_⟩
    exact k t (List.mem_cons_of_mem _ (List.mem_cons_of_mem _ (List.mem_cons_of_mem _ (List.mem_of_getElem? hj)))) o q
  item := by
    intro X hP hw hK hc i pins s σ H E I hf st hg
    subst hP hw hK
    obtain ⟨hz, hTI, ⟨olds, lo, hTO⟩, hi⟩ := st
    obtain ⟨cs, e1, e2, hcs⟩ := zcs I (fun xs => ∃ x, xs[i]? = some x) ts ps D.len fun p hp => let ⟨xs, x, h1, h2⟩ := hg p hp; ⟨xs, h1, x, h2⟩
    subst e1 e2
    have S := apt_sep D
    have hzl : z < s.heap.objs.size := Heap.lt_size hz
    have gc : ∀ (j : Nat) (c : Zc), cs[j]? = some c → (cs.map (·.it))[j]? = some c.it ∧ (cs.map fun c => (c.b, c.l))[j]? = some (c.b, c.l) := fun j c h => by
      rw [List.getElem?_map, List.getElem?_map, h]
      exact ⟨rfl, rfl⟩
    have sts : ∀ c ∈ cs, c.st i s.heap := fun c mc => by
      obtain ⟨j, hj, e⟩ := List.getElem_of_mem mc
      have hc : cs[j]? = some c := by rw [List.getElem?_eq_getElem hj, e]
      obtain ⟨xs, _, _, _, hq⟩ := hcs c mc
      exact ⟨hi j c.it (c.b, c.l) (gc j c hc).1 (gc j c hc).2, hq⟩
    have lts : ∀ c ∈ cs, i < c.xs.size := fun c mc => by
      obtain ⟨xs, _, ⟨x, hx⟩, r, _⟩ := hcs c mc
      have := (List.getElem?_eq_some_iff.mp hx).1
      have e : xs.length = c.xs.size := by rw [Vals.length r, Array.length_toList]
      omega
    have h0 : cs ≠ [] := fun e => D.one (by rw [e]; rfl)
    have hTI' : TupO s.heap TI (cs.map fun c => .ref c.it) := by rw [List.map_map] at hTI; exact hTI
    refine nextN_item (I.ok.hd hc) S h0 hz hTI' hTO (by rw [lo, List.length_map]) (by have := D.few; rw [List.length_map] at this; exact this) sts lts fun vs h' tk lv hv z' TO' sts' hT hsz hk => ?_
    refine ⟨_, rfl, wpAny_letOwnedTupleGo_zip (s := { s with heap := h', toks := tk }) z' fun h'' z'' sb => ?_⟩
    have sb' : Heap.SameBut z h' h'' := sb
    have hT2 : TupO h'' s.heap.objs.size vs := (sb'.2 _ (Nat.ne_of_gt hzl)).trans hT
    -- what was drawn, as values
    have drawn : ∀ (cs : List Zc) (vs : List Value), vs.length = cs.length → (∀ (j : Nat) (c : Zc) (v : Value), cs[j]? = some c → vs[j]? = some v → c.xs[i]? = some v) → (∀ c ∈ cs, ∃ xs : List V, SqK X.K H (c.b, c.l) xs ∧ (∃ x, xs[i]? = some x) ∧ Vals xs c.xs.toList ∧ sqS c.b s.heap c.l c.xs) → ∃ ys : List V, Vals ys vs ∧ ∀ (j : Nat) (c : Zc) (y : V), cs[j]? = some c → ys[j]? = some y → ∀ xs, SqK X.K H (c.b, c.l) xs → xs[i]? = some y := by
      intro cs
      induction cs with
      | nil => intro vs lv _ _; cases vs with | nil => exact ⟨[], .nil, fun j c y h => by simp at h⟩ | cons _ _ => simp at lv
      | cons c cs ih =>
        intro vs lv hv hcs
        cases vs with
        | nil => simp at lv
        | cons v vs =>
          obtain ⟨ys, r, hy⟩ := ih vs (Nat.succ.inj lv) (fun j c' v' h1 h2 => hv (j + 1) c' v' (by simpa using h1) (by simpa using h2)) fun c' hc' => hcs c' (List.mem_cons_of_mem _ hc')
          obtain ⟨xs, hs, ⟨x, hx⟩, rx, _⟩ := hcs c (List.mem_cons_self ..)
          obtain ⟨u, hu, ru⟩ := rx.get hx
          have e1 := hv 0 c v rfl rfl
          have eu : u = v := by
            rw [Array.getElem?_toList] at hu
            rw [hu] at e1
            exact Option.some.inj e1
          subst eu
          refine ⟨x :: ys, .cons ru r, fun j c' y h1 h2 xs' hs' => ?_⟩
          cases j with
          | zero =>
            simp at h1 h2
            subst h1 h2
            rw [sqK_inj I hs' hs]
            exact hx
          | succ j => exact hy j c' y (by simpa using h1) (by simpa using h2) xs' hs'
    obtain ⟨ys, ry, hy⟩ := drawn cs vs lv hv hcs
    have ly : ys.length = cs.length := ry.length.trans lv
    have fpm : ∀ {c : Addr}, c ∉ (z :: TI :: TO :: cs.map (·.it)) → c ≠ z ∧ c ≠ TO ∧ ∀ d ∈ cs, c ≠ d.it := fun {c} hc => ⟨fun e => hc (by rw [e]; exact List.mem_cons_self ..), fun e => hc (by rw [e]; exact List.mem_cons_of_mem _ (List.mem_cons_of_mem _ (List.mem_cons_self ..))), fun d hd e => hc (by rw [e]; exact List.mem_cons_of_mem _ (List.mem_cons_of_mem _ (List.mem_cons_of_mem _ (List.mem_map.mpr ⟨d, hd, rfl⟩))))⟩
    have I1 : Inv X pins σ (upd H s.heap.objs.size (.frz { cls := .type "tuple", data := .seq vs.toArray } (.tup ys))) { s with heap := h'', toks := tk } :=
      I.turnedNew (t' := tk) (ch := z :: TI :: TO :: cs.map (·.it)) (fun c o hb q => (sb'.2 c (fpm hb).1).trans (hk c o (fpm hb).1 (fpm hb).2.1 (fpm hb).2.2 q)) hf (Nat.le_refl _) (frz_tup (by rw [ly, sizeLine_eq]; have := D.few; rw [List.length_map] at this; omega) ry hT2)
    refine ⟨.ref s.heap.objs.size, _, I1, rfl, ⟨_, ys, _, rfl, I.hok.fresh (Nat.le_refl _), rfl, rfl, by rw [ly, List.length_map], fun j p y hp hy2 xs hs => ?_⟩, ⟨z'', ?_, ⟨vs, by rw [lv, List.length_map], (sb'.2 _ S.TOz).trans TO'⟩, fun j t p hj hp => ?_⟩, fun c hcm => ?_⟩
    · rw [List.getElem?_map] at hp
      cases ec : cs[j]? with
      | none => rw [ec] at hp; cases hp
      | some c =>
        rw [ec] at hp
        cases hp
        exact hy j c y ec hy2 xs hs
    · exact (sb'.2 _ S.TIz).trans (hk _ _ S.TIz S.TITO (fun d hd => S.TIc d hd) hTI)
    · rw [List.getElem?_map] at hj hp
      cases ec : cs[j]? with
      | none => rw [ec] at hj; cases hj
      | some c =>
        rw [ec] at hj hp
        cases hj
        cases hp
        have mc := List.mem_of_getElem? ec
        exact itS_keep (sts' c mc).1 fun o q => (sb'.2 _ (Ne.symm (S.zc c mc).1)).trans q
    · have hlt : c < s.heap.objs.size := by
        rcases List.mem_cons.mp hcm with rfl | hcm
        · exact hzl
        rcases List.mem_cons.mp hcm with rfl | hcm
        · exact Heap.lt_size hTI
        rcases List.mem_cons.mp hcm with rfl | hcm
        · exact Heap.lt_size hTO
        obtain ⟨d, hd, rfl⟩ := List.mem_map.mp hcm
        obtain ⟨o, e, _⟩ := itS_obj (sts d hd).1
        exact Heap.lt_size e
      rw [upd_ne (Nat.ne_of_lt hlt)]
      exact (hf c hcm).1
  done := by
    intro X hP hw hK hc i pins s σ H E I hf st hg
    subst hP hw hK
    obtain ⟨hz, hTI, ⟨olds, lo, hTO⟩, hi⟩ := st
    obtain ⟨hall, p0, hp0, xs0, hs0, hl0⟩ := hg
    obtain ⟨cs, e1, e2, hcs⟩ := zcs I (fun xs => i ≤ xs.length) ts ps D.len hall
    subst e1 e2
    have S := apt_sep D
    have gc : ∀ (j : Nat) (c : Zc), cs[j]? = some c → (cs.map (·.it))[j]? = some c.it ∧ (cs.map fun c => (c.b, c.l))[j]? = some (c.b, c.l) := fun j c h => by
      rw [List.getElem?_map, List.getElem?_map, h]
      exact ⟨rfl, rfl⟩
    have sts : ∀ c ∈ cs, c.st i s.heap := fun c mc => by
      obtain ⟨j, hj, e⟩ := List.getElem_of_mem mc
      have hc : cs[j]? = some c := by rw [List.getElem?_eq_getElem hj, e]
      obtain ⟨xs, _, _, _, hq⟩ := hcs c mc
      exact ⟨hi j c.it (c.b, c.l) (gc j c hc).1 (gc j c hc).2, hq⟩
    have les : ∀ c ∈ cs, i ≤ c.xs.size := fun c mc => by
      obtain ⟨xs, _, hx, r, _⟩ := hcs c mc
      have e : xs.length = c.xs.size := by rw [Vals.length r, Array.length_toList]
      omega
    have hend : ∃ c ∈ cs, i = c.xs.size := by
      obtain ⟨c, mc, rfl⟩ := List.mem_map.mp hp0
      obtain ⟨xs, hs, hx, r, _⟩ := hcs c mc
      have e : xs.length = c.xs.size := by rw [Vals.length r, Array.length_toList]
      rw [sqK_inj I hs0 hs] at hl0
      exact ⟨c, mc, by omega⟩
    have h0 : cs ≠ [] := fun e => D.one (by rw [e]; rfl)
    have hTI' : TupO s.heap TI (cs.map fun c => .ref c.it) := by rw [List.map_map] at hTI; exact hTI
    refine nextN_end (I.ok.hd hc) S h0 hz hTI' hTO (by rw [lo, List.length_map]) (by have := D.few; rw [List.length_map] at this; exact this) sts les hend fun h' tk hk => ⟨rfl, I.turnedL (t' := tk) (ch := z :: TI :: TO :: cs.map (·.it)) (fun c o hb q => hk c o (fun e => hb (by rw [e]; exact List.mem_cons_self ..)) (fun e => hb (by rw [e]; exact List.mem_cons_of_mem _ (List.mem_cons_of_mem _ (List.mem_cons_self ..)))) (fun d hd e => hb (by rw [e]; exact List.mem_cons_of_mem _ (List.mem_cons_of_mem _ (List.mem_cons_of_mem _ (List.mem_map.mpr ⟨d, hd, rfl⟩))))) q) hf⟩
  self := fun A i s Q E st h => wpAny_pyIter_zip st.1 h
end Den

namespace Den
open PySem PySem.Spec PyProof.Rows L2 Bal
/-! ### what zip tells -/
def minL : List (List W) → Nat
  | [] => 0
  | [l] => l.length
  | l :: r => min l.length (minL r)
def atR (i : Nat) : List (List W) → List W
  | [] => []
  | l :: r => (l[i]?.getD .non) :: atR i r
def zipL (ls : List (List W)) : List W := (List.range (minL ls)).map fun i => .tup (atR i ls)
theorem minL_le : ∀ {ls : List (List W)} {l : List W}, l ∈ ls → minL ls ≤ l.length
  | [l], _, h => by simp at h; subst h; exact Nat.le_refl _
  | l :: m :: r, k, h => by
    rcases List.mem_cons.mp h with rfl | h
    · exact Nat.min_le_left ..
    · exact Nat.le_trans (Nat.min_le_right ..) (minL_le (ls := m :: r) h)
theorem minL_eq : ∀ {ls : List (List W)}, ls ≠ [] → ∃ l ∈ ls, minL ls = l.length
  | [], h => absurd rfl h
  | [l], _ => ⟨l, List.mem_cons_self .., rfl⟩
  | l :: m :: r, _ => by
    obtain ⟨k, hk, e⟩ := minL_eq (ls := m :: r) (by simp)
    show ∃ l' : List W, l' ∈ l :: m :: r ∧ min l.length (minL (m :: r)) = l'.length
    rcases Nat.le_total l.length (minL (m :: r)) with h | h
    · exact ⟨l, List.mem_cons_self .., by rw [Nat.min_eq_left h]⟩
    · exact ⟨k, List.mem_cons_of_mem _ hk, by rw [Nat.min_eq_right h]; exact e⟩
/-- an argument of zip, as it is walked -/
def ArgSv (Γ : Gm) (p : Bool × Addr) (ws : List W) (keep : List Nat) (H0 : Hp) (μ0 : List Addr) (S0 : Store) : Prop := ws.length ≤ sizeLine ∧ ∀ {Γ' : Gm} H μ S, Γ'.K = Γ.K → Gr H0 μ0 H μ → Ok Γ' H μ S → (∀ n ∈ keep, S[n]? = S0[n]?) → (∀ v w, Rp Γ H0 μ0 v w → Rp Γ' H μ v w) → ∃ xs, SqK Γ.K H p xs ∧ Rps Γ' H μ xs ws
def sqI (S : Store) : List W → Option (List (List W) × List Nat)
  | [] => some ([], [])
  | w :: ws => match seqI S w, sqI S ws with
    | some (a, k), some (r, m) => some (a :: r, k ++ m)
    | _, _ => none
theorem arg_one {Γ : Gm} {H0 : Hp} {μ0 : List Addr} {S0 : Store} (k0 : Ok Γ H0 μ0 S0) {v : V} {w : W} {ws : List W} {keep : List Nat} (r : Rp Γ H0 μ0 v w) (e : seqI S0 w = some (ws, keep)) : ∃ p : Bool × Addr, v = .ref p.2 ∧ (∃ xs, SqK Γ.K H0 p xs) ∧ ArgSv Γ p ws keep H0 μ0 S0 := by
  have rsU : ∀ {Γ' : Gm} {H : Hp} {μ : List Addr}, (∀ v w, Rp Γ H0 μ0 v w → Rp Γ' H μ v w) → ∀ {xs : List V} {ws : List W}, Rps Γ H0 μ0 xs ws → Rps Γ' H μ xs ws := fun {Γ' H μ} up => by
    intro xs
    induction xs with
    | nil => intro ws r; cases r; exact .nil
    | cons x xs ih => intro ws r; cases r with | cons a b => exact .cons (up _ _ a) (ih b)
  cases r with
  | @tup a xs us h l q =>
    cases e
    exact ⟨(false, a), rfl, ⟨xs, h.sq⟩, by rw [← q.len]; exact l, fun {Γ'} H μ S hK g k _ up => ⟨xs, (h.gr g).sq, rsU up q⟩⟩
  | @cl a xs us h n m l q =>
    cases e
    exact ⟨(true, a), rfl, ⟨xs, .inl (.inl h)⟩, by rw [← q.len]; exact l, fun {Γ'} H μ S hK g k _ up => ⟨xs, .inl (.inl (g.keep _ _ h n).1), rsU up q⟩⟩
  | @lst a n h hq =>
    obtain ⟨xs, us, e1, e2, l, q⟩ := k0.lat h hq
    have e : (S0[n]?).map (fun ws => (ws, [n])) = some (ws, keep) := e
    rw [e1] at e
    cases e
    refine ⟨(true, a), rfl, ⟨xs, .inl (.inl e2)⟩, by rw [← q.len]; exact l, fun {Γ'} H μ S hK g k hk up => ?_⟩
    obtain ⟨ys, vs, e3, e4, l4, q4⟩ := k.lat (g.get h) (g.kind _ _ (List.mem_of_getElem? h) hq)
    rw [hk n (List.mem_singleton.mpr rfl), e1] at e3
    cases e3
    exact ⟨ys, .inl (.inl e4), q4⟩
  | _ => cases e
theorem args_all {Γ : Gm} {H0 : Hp} {μ0 : List Addr} {S0 : Store} (k0 : Ok Γ H0 μ0 S0) : ∀ {vs : List V} {ws : List W} {ls : List (List W)} {keep : List Nat}, Rps Γ H0 μ0 vs ws → sqI S0 ws = some (ls, keep) →
    ∃ ps : List (Bool × Addr), vs = ps.map (fun p => .ref p.2) ∧ ps.length = ls.length ∧ ∀ (j : Nat) (p : Bool × Addr) (l : List W), ps[j]? = some p → ls[j]? = some l → (∃ xs, SqK Γ.K H0 p xs) ∧ ArgSv Γ p l keep H0 μ0 S0
  | _, _, ls, keep, .nil, e => by
    cases e
    exact ⟨[], rfl, rfl, fun j p l h => by simp at h⟩
  | _, _, ls, keep, .cons (w := w) (ws := ws) a b, e => by
    unfold sqI at e
    cases e1 : seqI S0 w with
    | none => rw [e1] at e; cases e
    | some x =>
      cases e2 : sqI S0 ws with
      | none => rw [e1, e2] at e; cases e
      | some y =>
        obtain ⟨x1, x2⟩ := x
        obtain ⟨y1, y2⟩ := y
        rw [e1, e2] at e
        cases e
        obtain ⟨p, rfl, hp, sv⟩ := arg_one k0 a e1
        obtain ⟨ps, rfl, hl, hs⟩ := args_all k0 b e2
        refine ⟨p :: ps, rfl, by simp [hl], fun j q l hq hl => ?_⟩
        cases j with
        | zero =>
          simp at hq hl
          subst hq hl
          exact ⟨hp, sv.1, fun {Γ'} H μ S hK g k hk up => sv.2 H μ S hK g k (fun n hn => hk n (List.mem_append_left _ hn)) up⟩
        | succ j =>
          obtain ⟨h1, h2⟩ := hs j q l (by simpa using hq) (by simpa using hl)
          exact ⟨h1, h2.1, fun {Γ'} H μ S hK g k hk up => h2.2 H μ S hK g k (fun n hn => hk n (List.mem_append_right _ hn)) up⟩
/-- zip serves the rows -/
theorem srv_zip {Γ : Gm} {H0 : Hp} {μ0 : List Addr} {S0 : Store} {ps : List (Bool × Addr)} {ls : List (List W)} {keep : List Nat} (hl : ps.length = ls.length) (h0 : ps ≠ []) (hf : ps.length ≤ 100) (hs : ∀ (j : Nat) (p : Bool × Addr) (l : List W), ps[j]? = some p → ls[j]? = some l → ArgSv Γ p l keep H0 μ0 S0) : Srv Γ (ItN Γ.K ps) (zipL ls) keep H0 μ0 S0 := by
  have hz : (zipL ls).length = minL ls := by unfold zipL; rw [List.length_map, List.length_range]
  have h1 : ls ≠ [] := fun e => h0 (by rw [e] at hl; exact List.eq_nil_of_length_eq_zero hl)
  obtain ⟨l0, ml0, el0⟩ := minL_eq h1
  have pl : ∀ p ∈ ps, ∃ l ∈ ls, ArgSv Γ p l keep H0 μ0 S0 := fun p mp => by
    obtain ⟨j, hj, e⟩ := List.getElem_of_mem mp
    have hj2 : j < ls.length := by omega
    exact ⟨ls[j], List.getElem_mem hj2, hs j p ls[j] (by rw [List.getElem?_eq_getElem hj, e]) (List.getElem?_eq_getElem hj2)⟩
  have lp : ∀ l ∈ ls, ∃ p ∈ ps, ArgSv Γ p l keep H0 μ0 S0 := fun l ml => by
    obtain ⟨j, hj, e⟩ := List.getElem_of_mem ml
    have hj2 : j < ps.length := by omega
    exact ⟨ps[j], List.getElem_mem hj2, hs j ps[j] l (List.getElem?_eq_getElem hj2) (by rw [List.getElem?_eq_getElem hj, e])⟩
  refine ⟨?_, fun {Γ'} H μ S hK g k hk up => ?_⟩
  · rw [hz, el0]
    obtain ⟨p, _, sv⟩ := lp l0 ml0
    exact sv.1
  rw [hz]
  refine ⟨fun i hi => ⟨fun p mp => ?_, fun x H' y => ?_⟩, fun p mp => ?_, ?_⟩
  · obtain ⟨l, ml, sv⟩ := pl p mp
    obtain ⟨xs, h2, r⟩ := sv.2 H μ S hK g k hk up
    have hlt : i < xs.length := by
      rw [r.len]
      exact Nat.lt_of_lt_of_le hi (minL_le ml)
    exact ⟨xs, xs[i], h2, List.getElem?_eq_getElem hlt⟩
  · obtain ⟨T, ys, o, rfl, nT, ho, rfl, ly, hy⟩ := y
    refine ⟨.tup (atR i ls), ?_, sm_upd nT, ?_⟩
    · unfold zipL
      rw [List.getElem?_map, List.getElem?_range hi]
      rfl
    · have rr : ∀ (ps : List (Bool × Addr)) (ls : List (List W)) (ys : List V), ps.length = ls.length → ys.length = ps.length → (∀ l ∈ ls, i < l.length) → (∀ (j : Nat) (p : Bool × Addr) (l : List W), ps[j]? = some p → ls[j]? = some l → ArgSv Γ p l keep H0 μ0 S0) → (∀ (j : Nat) (p : Bool × Addr) (y : V), ps[j]? = some p → ys[j]? = some y → ∀ xs, SqK Γ.K H p xs → xs[i]? = some y) → Rps Γ' H μ ys (atR i ls) := by
        intro ps
        induction ps with
        | nil =>
          intro ls ys h1 h2 _ _ _
          cases ls with
          | nil => cases ys with | nil => exact .nil | cons _ _ => simp at h2
          | cons _ _ => simp at h1
        | cons p ps ih =>
          intro ls ys h1 h2 hlt hs hy
          cases ls with
          | nil => simp at h1
          | cons l ls =>
            cases ys with
            | nil => simp at h2
            | cons y ys =>
              obtain ⟨xs, h3, r⟩ := (hs 0 p l rfl rfl).2 H μ S hK g k hk up
              have e := hy 0 p y rfl rfl xs h3
              obtain ⟨w, e2, r2⟩ := r.get e
              refine .cons ?_ (ih ls ys (Nat.succ.inj h1) (Nat.succ.inj h2) (fun l hl => hlt l (List.mem_cons_of_mem _ hl)) (fun j p l a b => hs (j + 1) p l (by simpa using a) (by simpa using b)) (fun j p y a b => hy (j + 1) p y (by simpa using a) (by simpa using b)))
              rw [e2]
              exact r2
      have r := rr ps ls ys hl ly (fun l ml => Nat.lt_of_lt_of_le hi (minL_le ml)) hs hy
      exact (new_tup k nT ho (by rw [ly, sizeLine_eq]; omega) r).2.2
  · obtain ⟨l, ml, sv⟩ := pl p mp
    obtain ⟨xs, h2, r⟩ := sv.2 H μ S hK g k hk up
    exact ⟨xs, h2, by rw [r.len]; exact minL_le ml⟩
  · obtain ⟨p, mp, sv⟩ := lp l0 ml0
    obtain ⟨xs, h2, r⟩ := sv.2 H μ S hK g k hk up
    exact ⟨p, mp, xs, h2, by rw [r.len, el0]; exact Nat.le_refl _⟩
def zipI (n : Nat) (S : Store) (ws : List W) : Option (List W × List Nat) := if ws.length = n then (match sqI S ws with
  | some (ls, keep) => some (zipL ls, keep)
  | none => none) else none
def iZip (n : Nat) (d : DA) : DI := fun ρ => bnd (d ρ) fun ws => rdI fun S => zipI n S ws
/-! ### zip is made -/
def itO : Bool × Addr → Obj
  | (true, l) => { cls := .type "list_iterator", data := .fields #[.ref l, .int 0 0] }
  | (false, l) => { cls := .type "tuple_iterator", data := .fields #[.ref l, .int 0 0] }
theorem beg (p : Bool × Addr) (items : Array Value) : Begins (.ref p.2) (itO p) fun h => sqS p.1 h p.2 items := by
  obtain ⟨b, a⟩ := p
  cases b with
  | true => exact begins_list a items
  | false => exact begins_tuple a items
theorem itO_at {p : Bool × Addr} {h : Heap} {t : Addr} (e : h.get? t = some (itO p)) : itS p.1 h t p.2 0 := by
  obtain ⟨b, a⟩ := p
  cases b with
  | true => exact ⟨_, e, rfl, rfl⟩
  | false => exact ⟨_, e, rfl, rfl⟩
section
variable {X : Cx} {pins : List (Addr × Obj)} {σ : L2.St} {H : Hp} {s : Shared}
theorem adn {a b : Nat} (h : a < b ∨ b < a) : (show Addr from a) ≠ (show Addr from b) := fun e => by
  have e : a = b := e
  omega
theorem apt_new {N : Nat} {ps : List (Bool × Addr)} (h : ∀ p ∈ ps, p.2 < N) (h0 : ps ≠ []) (hf : ps.length ≤ 100) : Apt (N + ps.length + 2) (N + ps.length) (N + ps.length + 1) ((List.range ps.length).map (N + ·)) ps where
  len := by simp
  few := by simpa using hf
  one := fun e => h0 (by
    have := congrArg List.length e
    simp at this
    exact this)
  TIz := adn (.inl (by omega))
  TOz := adn (.inl (by omega))
  TITO := adn (.inl (by omega))
  zt := fun e => by
    obtain ⟨j, hj, e⟩ := List.mem_map.mp e
    have := List.mem_range.mp hj
    exact adn (.inl (by omega)) e
  It := fun e => by
    obtain ⟨j, hj, e⟩ := List.mem_map.mp e
    have := List.mem_range.mp hj
    exact adn (.inl (by omega)) e
  Ot := fun e => by
    obtain ⟨j, hj, e⟩ := List.mem_map.mp e
    have := List.mem_range.mp hj
    exact adn (.inl (by omega)) e
  nd := by
    rw [List.nodup_iff_pairwise_ne]
    exact List.Pairwise.map _ (fun a b h e => h (Nat.add_left_cancel (show (N + a : Nat) = N + b from e))) List.nodup_range
  pz := fun p hp => by
    have h1 := h p hp
    refine ⟨adn (.inl (Nat.lt_of_lt_of_le h1 (by omega))), adn (.inl (Nat.lt_of_lt_of_le h1 (by omega))), fun e => ?_⟩
    obtain ⟨j, hj, e⟩ := List.mem_map.mp e
    exact adn (.inr (Nat.lt_of_lt_of_le h1 (Nat.le_add_right ..))) e
theorem pie_zip {elts : List Expr} {kk : Nat} {tpos : Pos} {R : It → Hp → Prop} {E : Value → Shared → Prop} {ps : List (Bool × Addr)} {h' : Heap} (I : Inv X pins σ H s) (hp : ∀ p ∈ ps, ∃ xs, SqK X.K H p xs) (h0 : ps ≠ []) (hf : ps.length ≤ 100) (hz : IsZip h' (s.heap.objs.size + ps.length + 2) (s.heap.objs.size + ps.length) (s.heap.objs.size + ps.length + 1) .none)
    (hTI : TupO h' (s.heap.objs.size + ps.length) (((List.range ps.length).map (s.heap.objs.size + ·)).map .ref)) (hTO : TupO h' (s.heap.objs.size + ps.length + 1) (List.replicate ps.length .none)) (hi : ∀ (j : Nat) (p : Bool × Addr), ps[j]? = some p → h'.get? (s.heap.objs.size + j) = some (itO p)) (kp : ∀ c o, s.heap.get? c = some o → h'.get? c = some o) (q : R (ItN X.K ps) H) :
    wpAny (model X.prog X.w) X.A (pyIter (.ref (s.heap.objs.size + ps.length + 2))) (PIE X pins σ (.Tuple elts kk tpos) R) E { s with heap := h' } := by
  refine wpAny_pyIter_zip hz ?_
  have I2 : Inv X pins σ H { s with heap := h' } := I.kept (t' := s.toks) kp
  refine ⟨_, _, _, _, H, rfl, I2, turnN (apt_new (fun p mp => let ⟨xs, hx⟩ := hp p mp; (sqK_obj I hx).choose_spec.2.2) h0 hf), ⟨hz, hTI, ⟨_, by simp, hTO⟩, fun j t p hj hpj => ?_⟩, fun b hb => ?_, q⟩
  · rw [List.getElem?_map] at hj
    have hjl : j < ps.length := (List.getElem?_eq_some_iff.mp hpj).1
    rw [List.getElem?_range hjl] at hj
    cases hj
    exact itO_at (hi j p hpj)
  · have hle : s.heap.objs.size ≤ b := by
      rcases List.mem_cons.mp hb with rfl | hb
      · omega
      rcases List.mem_cons.mp hb with rfl | hb
      · omega
      rcases List.mem_cons.mp hb with rfl | hb
      · omega
      obtain ⟨j, _, rfl⟩ := List.mem_map.mp hb
      exact Nat.le_add_right ..
    exact I.fpOk hle (I.hok.fresh hle)
end
section
variable {X : Cx} {E : L2.St → XK} {e1 e2 e3 e4 : Expr} {p pos tpos : Pos} {elts : List Expr} {kk : Nat} {d : DA}
theorem zip_go {σ : L2.St} {δ : List Addr} {H1 : Hp} {μ1 : List Addr} {S1 : Store} {ws : List W} {vs : List V} {R : It → Hp → Prop} {n : Nat} (k1 : Ok ⟨X.K, X.mg, δ⟩ H1 μ1 S1) (rs : Rps ⟨X.K, X.mg, δ⟩ H1 μ1 vs ws) (h0 : 0 < n) (hf : n ≤ 100)
    (h1 : Res ⟨X.K, X.mg, δ⟩ (E σ) H1 μ1 (rdI (fun S => zipI n S ws) S1) fun x H' μ' S' => ∀ J, Srv ⟨X.K, X.mg, δ⟩ J x.1 x.2 H' μ' S' → R J H') :
    ∃ ps : List (Bool × Addr), vs = ps.map (fun p => .ref p.2) ∧ ps.length = n ∧ (∀ p ∈ ps, ∃ xs, SqK X.K H1 p xs) ∧ R (ItN X.K ps) H1 := by
  unfold rdI zipI at h1
  by_cases hn : ws.length = n
  · simp only [hn, if_true] at h1
    cases e : sqI S1 ws with
    | none => simp only [e] at h1; exact h1.elim
    | some y =>
      obtain ⟨ls, keep⟩ := y
      simp only [e] at h1
      obtain ⟨ps, ev, hl, hs⟩ := args_all k1 rs e
      have hpn : ps.length = n := by rw [← hn, ← rs.len, ev, List.length_map]
      refine ⟨ps, ev, hpn, fun q mq => ?_, Res.now k1 h1 _ (srv_zip hl (fun z => by rw [z] at hpn; simp at hpn; omega) (by omega) fun j p l hp hl2 => (hs j p l hp hl2).2)⟩
      obtain ⟨j, hj, ej⟩ := List.getElem_of_mem mq
      have hj2 : j < ls.length := by omega
      exact (hs j q ls[j] (by rw [List.getElem?_eq_getElem hj, ej]) (List.getElem?_eq_getElem hj2)).1
  · simp only [hn, if_false] at h1
    exact h1.elim
def ZQ (X : Cx) (n : Nat) (R : It → Hp → Prop) (vs : List V) (H1 : Hp) : Prop := ∃ ps : List (Bool × Addr), vs = ps.map (fun p => .ref p.2) ∧ ps.length = n ∧ (∀ p ∈ ps, ∃ xs, SqK X.K H1 p xs) ∧ R (ItN X.K ps) H1
theorem zip_args {n : Nat} (h0 : 0 < n) (hf : n ≤ 100) {σ : L2.St} {H : Hp} {R : It → Hp → Prop} (h : iOf X.K X.mg E (iZip n d) σ H R) : taOf X.K X.mg E d σ H (ZQ X n R) := by
  obtain ⟨δ, μ, S, ρ, k, sσ, h⟩ := h
  exact ⟨δ, μ, S, ρ, k, sσ, Res.step h fun ws S1 H1 μ1 g1 k1 h1 vs rs => zip_go k1 rs h0 hf h1⟩
/-- zip(a, b) -/
theorem di_zip2 (hg : Gl X "zip") (hm : X.mg "zip" = none) (ha : PDA X E [e1, e2] d) (hs : starEach [e1, e2] X.env = (false, eval e1 X.env) :: starEach [e2] X.env := by rfl) (hpl : (backTo pos (starEach [e2] X.env)).any (·.1) = false := by rfl) : PI X (.Tuple elts kk tpos) (.Call (.Name "zip" p) [e1, e2] [] pos) (iOf X.K X.mg E (iZip 2 d)) := by
  refine ⟨fun pins s σ H R I h => ?_⟩
  refine Call_ (ld_blt I hg hm PyProof.Rows.boot_zip (PyProof.Rows.callWith_type1 (thn (ha.run pos pins s σ H (ZQ X 2 R) I (zip_args (by decide) (by decide) h)) fun us s1 ⟨vs, H1, I1, r1, ps, ev, hl, hp, q⟩ => ?_) hs hpl))
  match ps, hl with
  | [p1, p2], _ =>
    subst ev
    cases r1 with
    | cons r rr =>
      cases rr with
      | cons r' rr =>
        cases rr
        cases r
        cases r'
        obtain ⟨xs1, h1⟩ := hp p1 (by simp)
        obtain ⟨xs2, h2⟩ := hp p2 (by simp)
        obtain ⟨i1, _, q1, _⟩ := sqK_obj I1 h1
        obtain ⟨i2, _, q2, _⟩ := sqK_obj I1 h2
        refine zip_begins2 (beg p1 _) (beg p2 _) q1 q2 fun h' hz hTI hTO g1 g2 _ kp => ?_
        exact pie_zip (ps := [p1, p2]) I1 hp (by simp) (by show 2 ≤ 100; decide) hz hTI hTO (fun j p hj => match j, hj with | 0, hj => by cases hj; exact g1 | 1, hj => by cases hj; exact g2 | n + 2, hj => by simp at hj) kp q
end
end Den

namespace Den
open PySem PySem.Spec PyProof.Rows L2 Bal
/-! ### zip of two, its rows kept -/
end Den

namespace Den
open PySem PySem.Spec PyProof.Rows L2 Bal
/-! ### list(zip(a, b)) -/
end Den

namespace Den
open PySem PySem.Spec PyProof.Rows L2 Bal
/-! ### many new things seen at once -/
end Den

namespace Den
open PySem PySem.Spec PyProof.Rows L2 Bal
/-! ### zip of four -/
end Den

namespace Den
open PySem PySem.Spec PyProof.Rows L2 Bal
/-! ### max, min of numbers in a row -/
end Den

namespace Den
open PySem PySem.Spec PyProof.Rows L2 Bal
theorem passes {X : Cx} {K : Value → Shared → Prop} {E₁ : Value → Shared → Prop} (hx : X.xe = fun e s' => wpAny (model X.prog X.w) X.A (leaving X.env e) (fun _ s'' => K e s'') E₁ s') : PassesOwn (model X.prog X.w) X.A X.env X.xe := passes_of hx
theorem pt_wordAnd {X : Cx} {e : Expr} {t : TT} (h : PW X e t) : PT X e t := h.pt
theorem pt_wordOr {X : Cx} {e : Expr} {t : TT} (h : PW X e t) : PT X e t := h.pt
/-- nothing is said of what it tells -/
theorem fn_bad {P : Program} {w : World} {K : PySem.W.Frag} {mg : Str → Option Value} {base : Heap} {x qual : Str} {st : Stmt} {f : Addr} {fd : FuncData} {N ps : List Str} {k : Nat} (F : Fun K x qual st f fd) (S : FnScope N ps (defScope st)) : FnOk P w K mg base (L2.CX P w) (k + 1) f fd ps (spD K mg ps.length fun _ _ => .bad) :=
  F.okX S (fun vs H Q E h => h.1) fun cdv A outer s H vs Q E hr h => by
    obtain ⟨_, δ, μ, T, ws, ok, rs, h⟩ := h
    exact h.elim
end Den

namespace Den
open PySem PySem.Spec PyProof.Rows L2 Bal
/-! ### how functions are worked out -/
theorem pGt_ap (i j : Int) : pGt i j = decide (j < i) := rfl
theorem pLt_ap (i j : Int) : pLt i j = decide (i < j) := rfl
theorem pGe_ap (i j : Int) : pGe i j = decide (j ≤ i) := rfl
theorem pLe_ap (i j : Int) : pLe i j = decide (i ≤ j) := rfl
end Den

namespace Den
open PySem PySem.Spec PyProof.Rows L2 Bal
def iW (ns : List Int) : List W := ns.map .int
@[simp] theorem fil_yes {α : Type} : ∀ l : List α, l.filter (fun _ => true) = l
  | [] => rfl
  | x :: l => by rw [List.filter_cons_of_pos rfl, fil_yes l]
theorem iW_cons (n : Int) (ns : List Int) : iW (n :: ns) = .int n :: iW ns := rfl
@[simp] theorem iW_len (ns : List Int) : (iW ns).length = ns.length := by simp [iW]
@[simp] theorem iW_rev (ns : List Int) : (iW ns).reverse = iW ns.reverse := by simp [iW]
@[simp] theorem inT_iW : ∀ ns : List Int, inT (iW ns) = some ns
  | [] => rfl
  | n :: ns => by
    have ih := inT_iW ns
    show (inT (iW ns)).map (n :: ·) = _
    rw [ih]
    rfl
theorem lc_iW {i : Nat} {tt : DT} {de : DE} {ρ : En} {S : Store} (p : Int → Bool) (f : Int → W) : ∀ ns : List Int, (∀ n ∈ ns, tt (ρ.set i (some (.int n))) S = .ok (p n) S ∧ (p n = true → de (ρ.set i (some (.int n))) S = .ok (f n) S)) → lcL (.nm i) tt de ρ S [] (iW ns) S = .ok ((ns.filter p).map f) S
  | [], _ => rfl
  | n :: ns, h => by
    have e : iW (n :: ns) = .int n :: iW ns := rfl
    rw [e]
    have ih := lc_iW p f ns fun m hm => h m (List.mem_cons_of_mem _ hm)
    obtain ⟨h1, h2⟩ := h n (List.mem_cons_self ..)
    cases hp : p n with
    | true =>
      have h2 := h2 hp
      rw [hp] at h1
      simp [lcL, setT, h1, h2, ih, hp]
    | false =>
      rw [hp] at h1
      simp [lcL, setT, h1, ih, hp]
end Den

namespace Den
open PySem PySem.Spec PyProof.Rows L2 Bal
theorem lc_all {t : Tg} {de : DE} {ρ : En} {S : Store} {keep : List Nat} (hk : kept S S keep = true) (u : W) : ∀ ws : List W, (∀ w ∈ ws, ∃ ρ1, setT S t w ρ = some ρ1 ∧ de ρ1 S = .ok u S) → lcL t dYes de ρ S keep ws S = .ok (List.replicate ws.length u) S
  | [], _ => rfl
  | w :: ws, h => by
    have ih := lc_all hk u ws fun m hm => h m (List.mem_cons_of_mem _ hm)
    obtain ⟨ρ1, h0, h2⟩ := h w (List.mem_cons_self ..)
    simp [lcL, h0, h2, ih, dYes, ret, hk, List.replicate_succ]
def all2 (f : W → W → Bool) : List W → List W → Bool
  | [], [] => true
  | x :: xs, y :: ys => f x y && all2 f xs ys
  | _, _ => false
theorem all2_len {f : W → W → Bool} : ∀ {xs ys : List W}, all2 f xs ys = true → xs.length = ys.length
  | [], [], _ => rfl
  | _ :: _, _ :: _, h => by
    unfold all2 at h
    rw [Bool.and_eq_true] at h
    exact congrArg (· + 1) (all2_len h.2)
theorem all2_at {f : W → W → Bool} : ∀ {xs ys : List W}, all2 f xs ys = true → ∀ (i : Nat), i < xs.length → f (xs[i]?.getD .non) (ys[i]?.getD .non) = true
  | [], [], _, i, hi => by simp at hi
  | x :: xs, y :: ys, h, i, hi => by
    unfold all2 at h
    rw [Bool.and_eq_true] at h
    cases i with
    | zero => simpa using h.1
    | succ i => simpa using all2_at h.2 i (by simpa using hi)
/-- alike, kind by kind, lists by what they hold -/
def likeB (S : Store) : Nat → W → W → Bool
  | 0, _, _ => false
  | _ + 1, .int i, .int j => decide (i = j)
  | _ + 1, .bl i, .bl j => decide (i = j)
  | _ + 1, .str i, .str j => decide (i = j) && PyData.canLay0 (.str i)
  | n + 1, .tup xs, .tup ys => all2 (likeB S n) xs ys
  | n + 1, x, y => match lstS S x, lstS S y with
    | some xs, some ys => all2 (likeB S n) xs ys
    | _, _ => false
theorem zipL_two {xs ys : List W} (h : xs.length = ys.length) : zipL [xs, ys] = (List.range xs.length).map fun i => W.tup [xs[i]?.getD .non, ys[i]?.getD .non] := by
  unfold zipL
  have : minL [xs, ys] = xs.length := by simp [minL, h]
  rw [this]
  rfl
end Den

namespace Den
open PySem PySem.Spec PyProof.Rows L2 Bal
/-! ### dicts by numbers and texts, in the store by their pairs -/
/-- whether a dict is being walked -/
def fzB : List W → Bool
  | .tup [] :: _ => true
  | _ => false
section
variable {Γ : Gm} {H : Hp} {μ : List Addr} {S : Store}
theorem DGet.rd {a : Addr} {kvs : List (Key × V)} {k : Key} (e : Rd H a (.dK kvs)) : DGet H a (kV k) (valV kvs k) := .inl ⟨kvs, k, e, rfl, rfl⟩
end
end Den

namespace Den
open PySem PySem.Spec PyProof.Rows L2 Bal
/-! ### where one belongs among those ahead -/
def tb (l : List Int) (x : Int) : Nat := (l.filter (fun i => decide (x < i))).length
end Den

namespace Den
open PySem PySem.Spec PyProof.Rows L2 Bal
/-! ### the dict of how many taller ones each has ahead -/
abbrev aT : DT := dTst (dBin (fCmp pLt) (dVar 4) (dVar 5))
end Den

namespace Den
open PySem PySem.Spec PyProof.Rows L2 Bal
/-! ### the end -/
def spLaw (K : PySem.W.Frag) (mg : Str → Option Value) : Sp := fun vs H Q _ => ∃ (a : Addr) (ns : List Int), vs = [.ref a] ∧ SqL K H a (ns.map V.int) ∧ ns.length ≤ 63 ∧ LamX.Tabs (tabsOf K mg) H ∧ ∀ H', Q (.bl true) H'
theorem law_end {P : Program} {w : World} {K : PySem.W.Frag} {mg : Str → Option Value} {base : Heap} {k : Nat} {f : Addr} {fd : FuncData} {ps : List Str} {g : List W → Mo W} (hg : ∀ ns : List Int, ns.length ≤ 63 → ∃ S', g [.sc (iW ns)] [] = .ok (.bl true) S') (F : FnOk P w K mg base (L2.CX P w) k f fd ps (spD K mg 1 g)) : FnOk P w K mg base (L2.CX P w) k f fd ps (spLaw K mg) :=
  F.imp fun vs H Q E ⟨a, ns, e, hS, hl, tb, q⟩ => by
    subst e
    obtain ⟨S', e⟩ := hg ns hl
    refine ⟨rfl, [], [], [], [.sc (iW ns)], ⟨rfl, List.nodup_nil, fun _ h => (nomatch h), fun n b h => by simp at h, tb⟩, .cons (.sc (hS.imp (fun z => ⟨z, by simp, by simp⟩) id) (rps_ints ns)) .nil, ?_⟩
    rw [e]
    intro H' μ' _ _ v r
    cases r
    exact q H'
theorem cx_no {P : Program} {w : World} {l : List Env} {H : Hp} {s : Shared} {e : Value} {s' : Shared} (h : L2.CX P w l H s (fun _ _ _ => False) e s') : False := by
  obtain ⟨_, _, _, _, _, _, _, _, _, _, _, _, z⟩ := h
  exact z.elim
end Den

namespace Bal
/-! ### rows and their codes, in plain words -/
/-- how many taller ones x has ahead in l -/
def ahead (l : List Int) (x : Int) : Nat := ((l.take (l.idxOf x)).filter (fun y => decide (x < y))).length
def behind (l : List Int) (x : Int) : Nat := ((l.drop (l.idxOf x)).filter (fun y => decide (x < y))).length
/-- x put in at place i -/
def ins (acc : List Int) (i : Nat) (x : Int) : List Int := acc.take i ++ [x] ++ acc.drop i
/-- those of the row who are among the first i -/
def part (l F : List Int) (i : Nat) : List Int := l.filter (fun y => decide (y ∈ F.take i))
end Bal

namespace Den
open PySem PySem.Spec PyProof.Rows L2 Bal
/-! ### classes named in a row -/
theorem pa_cls0 {X : Cx} : PA X [] (fun _ H Q => Q [] H) := pa_nil
theorem pa_cls {X : Cx} {x : Str} {C : Addr} {vs : List V} {es : List Expr} {pos : Pos} (hg : Gl X x) (hm : X.mg x = some (.ref C)) (r : PA X es (fun _ H Q => Q vs H)) (hd : (x == ("__debug__" : Str)) = false := by decide) (he : starEach (.Name x pos :: es) X.env = (false, eval (.Name x pos) X.env) :: starEach es X.env := by rfl) : PA X (.Name x pos :: es) (fun _ H Q => Q (.ref C :: vs) H) := pa_cons (pe_glob (v := .ref C) hg hm rfl hd) r he
end Den

namespace Den
open PySem PySem.Spec PyProof.Rows L2 Bal
/-! ### enumerate of a list or a tuple -/
section
variable {prog : Program} {w : World} {A : Around} {E : Value → Shared → Prop} {s : Shared}
theorem call_en {p : Bool × Addr} {items : Array Value} {Q : Value → Shared → Prop} (hL : sqS p.1 s.heap p.2 items)
    (h : ∀ h', IsEnum h' (s.heap.objs.size + 1) s.heap.objs.size 0 .none → itS p.1 h' s.heap.objs.size p.2 0 → (∀ b o, s.heap.get? b = some o → h'.get? b = some o) → Q (.ref (s.heap.objs.size + 1)) { s with heap := h' }) : wpAny (model prog w) A (call (.type "enumerate") [.ref p.2]) Q E s := by
  refine callType_new F.called_enumerate (by decide) (F.typeCall_enumerate_1 _) (F.newCall_enumerate_1 _) (fun obj => F.args_object_init_2 obj _) F.entry_enumerate_new (meets_enB (beg p items)) ⟨hL, ?_⟩
  have hz : (s.heap.push (itO p)).objs.size = s.heap.objs.size + 1 := Heap.size_push ..
  have he : IsEnum ((s.heap.push (itO p)).push (enO s.heap.objs.size)) (s.heap.objs.size + 1) s.heap.objs.size 0 .none := by
    have q := Heap.get?_push_size (s.heap.push (itO p)) (o := enO s.heap.objs.size) rfl
    rw [hz] at q
    exact q
  have hfr : ∀ o' : Obj, (itO p).cls = (itO p).cls := fun _ => rfl
  show _ ∧ _
  rw [hz]
  refine ⟨⟨_, he, rfl⟩, h _ he (itO_at (Heap.get?_push_of_some _ (Heap.get?_push_size _ ?_))) fun b o x => Heap.get?_push_of_some _ (Heap.get?_push_of_some _ x)⟩
  obtain ⟨b, a⟩ := p
  cases b <;> rfl
end
/-- what stands at p at each turn, each item in a new pair -/
def ItE (K : PySem.W.Frag) (p : Bool × Addr) : It :=
  ⟨fun i H => ∃ (xs : List V) (x : V), SqK K H p xs ∧ xs[i]? = some x, fun i H v H' => ∃ (T : Addr) (x : V) (o : Obj), v = .ref T ∧ H T = none ∧ o.dict = none ∧ H' = upd H T (.frz o (.tup [.int (i : Nat), x])) ∧ ∀ xs, SqK K H p xs → xs[i]? = some x, fun i H => ∃ xs : List V, SqK K H p xs ∧ xs.length = i⟩
theorem turn_en {P : Program} {w : World} {K : PySem.W.Frag} {elts : List Expr} {kk : Nat} {tpos : Pos} (p : Bool × Addr) (e it : Addr) (hei : e ≠ it) (hae : p.2 ≠ e) (hai : p.2 ≠ it) :
    Turn P w K (.Tuple elts kk tpos) (ItE K p) [e, it] e (fun i h => (∃ old, IsEnum h e it ((i : Nat) : Int) old) ∧ itS p.1 h it p.2 i) where
  mem := by simp
  obj := fun i h st b hb => by
    obtain ⟨⟨old, he⟩, st⟩ := st
    obtain ⟨o, ho, hd⟩ := itS_obj st
    rcases (show b = e ∨ b = it by simpa using hb) with z | z
    · rw [z]; exact ⟨_, he, fun v q => nomatch q⟩
    · rw [z]; exact ⟨o, ho, fun v q => hd v q⟩
  keep := fun i h h' st k => by
    obtain ⟨⟨old, he⟩, hi⟩ := st
    exact ⟨⟨old, k e (by simp) _ he⟩, itS_keep hi fun o q => k it (by simp) o q⟩
  item := by
    intro X hP hw hK hc i pins s σ H E I hf st hg
    subst hP hw hK
    obtain ⟨⟨old, he⟩, hit⟩ := st
    obtain ⟨xs, x, hq, hx⟩ := hg
    obtain ⟨its, rv, pT, hpl⟩ := sqK_obj I hq
    obtain ⟨u, hu, ru⟩ := rv.get hx
    have hel : e < s.heap.objs.size := Heap.lt_size he
    have hil : it < s.heap.objs.size := Heap.lt_size (itS_obj hit).choose_spec.1
    have hlt : i < its.toArray.size := by
      rw [List.size_toArray]
      exact (List.getElem?_eq_some_iff.mp hu).1
    refine wpAny_pyNext_enum_itemD (Zc.dr (A := X.A.in1) (I.ok.hd hc) ⟨it, p.2, p.1, its.toArray⟩ hai) he ⟨hit, pT⟩ hlt hei (by simp [hei, Ne.symm hae]) fun x' h' tk hx' ho hst hT hsz hk => ?_
    have ex : x' = u := by
      have z : its[i]? = some x' := by simpa using hx'
      exact Option.some.inj (z.symm.trans hu)
    subst ex
    refine ⟨_, rfl, wpAny_letOwnedTupleGo_enum (s := { s with heap := h', toks := tk + 1 }) ho fun h'' he' sb => ?_⟩
    have hT2 : h''.get? s.heap.objs.size = some { cls := .type "tuple", data := .seq [.int i tk, x'].toArray } := (sb.2 _ (Nat.ne_of_gt hel)).trans hT
    have J : Inv X pins σ (upd H s.heap.objs.size (.frz { cls := .type "tuple", data := .seq [.int i tk, x'].toArray } (.tup [.int (i : Nat), x]))) { s with heap := h'', toks := tk + 1 } := I.turnedNew (ch := [e, it]) (fun b ob hb q => (sb.2 b (fun z => hb (by simp [z]))).trans (hk b ob (fun z => hb (by simp [z])) (fun z => hb (by simp [z])) q)) hf (Nat.le_refl _) (frz_tup (by show 2 ≤ sizeLine; decide) (.cons ⟨_, rfl⟩ (.cons ru .nil)) hT2)
    refine ⟨.ref s.heap.objs.size, _, J, rfl, ⟨_, x, _, rfl, I.hok.fresh (Nat.le_refl _), rfl, rfl, fun ys hy => by rw [sqK_inj I hy hq]; exact hx⟩, ⟨⟨x', ?_⟩, itS_keep hst.1 fun o q => (sb.2 it (Ne.symm hei)).trans q⟩, fun b hb => ?_⟩
    · rw [show ((i + 1 : Nat) : Int) = (i : Int) + 1 by omega]
      exact he'
    · have hb' : b < s.heap.objs.size := by
        rcases (show b = e ∨ b = it by simpa using hb) with z | z
        · rw [z]; exact hel
        · rw [z]; exact hil
      rw [upd_ne (Nat.ne_of_lt hb')]
      exact (hf b hb).1
  done := by
    intro X hP hw hK hc i pins s σ H E I hf st hg
    subst hP hw hK
    obtain ⟨⟨old, he⟩, hit⟩ := st
    obtain ⟨xs, hq, hx⟩ := hg
    obtain ⟨its, rv, pT, hpl⟩ := sqK_obj I hq
    obtain ⟨f0, f1, f2, f3, f4, f5⟩ := hf it (by simp)
    have hl := rv.length
    have hsz : its.toArray.size = i := by simp; omega
    have D := Zc.dr (prog := X.prog) (w := X.w) (A := X.A.in1) (I.ok.hd hc) ⟨it, p.2, p.1, its.toArray⟩ hai
    rw [show (Zc.mk it p.2 p.1 its.toArray).xs.size = i from hsz] at D
    exact wpAny_pyNext_enum_endD D he ⟨hit, pT⟩ fun h' eb => ⟨rfl, I.turned (t' := s.toks) (fun b o hb q => eb b o hb q) f0 f1 f3 f4 f5⟩
  self := fun A i s Q E st h => let ⟨⟨_, he⟩, _⟩ := st; wpAny_pyIter_enum he h
/-! ### what is walked -/
def enL (ws : List W) : List W := (List.range ws.length).map fun i : Nat => .tup [.int (i : Int), ws[i]?.getD .non]
def iEnu (d : DA) : DI := fun ρ => bnd (d ρ) fun ws => rdI fun S => match ws with
  | [w] => (seqI S w).map fun x => (enL x.1, x.2)
  | _ => none
theorem srv_en {Γ : Gm} {H0 : Hp} {μ0 : List Addr} {S0 : Store} {p : Bool × Addr} {l : List W} {keep : List Nat} (sv : ArgSv Γ p l keep H0 μ0 S0) : Srv Γ (ItE Γ.K p) (enL l) keep H0 μ0 S0 := by
  have hl : (enL l).length = l.length := by simp [enL]
  refine ⟨by rw [hl]; exact sv.1, fun {Γ'} H μ S hK g k hk up => ?_⟩
  obtain ⟨xs, h2, r⟩ := sv.2 H μ S hK g k hk up
  rw [hl]
  refine ⟨fun i hi => ⟨⟨xs, xs[i]'(by rw [r.len]; exact hi), h2, List.getElem?_eq_getElem _⟩, fun x H' y => ?_⟩, xs, h2, r.len⟩
  obtain ⟨T, y, o, rfl, nT, ho, rfl, hy⟩ := y
  obtain ⟨w, ew, rw⟩ := r.get (hy xs h2)
  refine ⟨.tup [.int (i : Int), w], ?_, sm_upd nT, ?_⟩
  · unfold enL
    rw [List.getElem?_map, List.getElem?_range hi]
    simp [ew]
  · have gg := Gr.new (o := .frz o (.tup [.int (i : Nat), y])) nT (k.ne nT)
    exact .tup (.inl ⟨⟨o, ho, upd_same⟩, k.ne nT, k.nδ nT⟩) (by show 2 ≤ sizeLine; decide) (.cons (.int _) (.cons (rw.gr gg) .nil))
section
variable {X : Cx} {E : L2.St → XK} {e : Expr} {p pos tpos : Pos} {elts : List Expr} {kk : Nat} {d : DA}
def EQ (X : Cx) (R : It → Hp → Prop) (vs : List V) (H1 : Hp) : Prop := ∃ q : Bool × Addr, vs = [.ref q.2] ∧ (∃ xs, SqK X.K H1 q xs) ∧ R (ItE X.K q) H1
theorem en_args {σ : L2.St} {H : Hp} {R : It → Hp → Prop} (h : iOf X.K X.mg E (iEnu d) σ H R) : taOf X.K X.mg E d σ H (EQ X R) := by
  obtain ⟨δ, μ, S, ρ, k, sσ, h⟩ := h
  refine ⟨δ, μ, S, ρ, k, sσ, Res.step h fun ws S1 H1 μ1 g1 k1 h1 vs rs => ?_⟩
  unfold rdI at h1
  match ws, rs, h1 with
  | [w], rs, h1 =>
    obtain ⟨v, rfl, rx⟩ := rs.one rfl
    cases es : seqI S1 w with
    | none => simp only [es, Option.map_none] at h1; exact h1.elim
    | some y =>
      obtain ⟨l, keep⟩ := y
      simp only [es, Option.map_some] at h1
      obtain ⟨q, rfl, hs, sv⟩ := arg_one k1 rx es
      exact ⟨q, rfl, hs, Res.now k1 h1 _ (srv_en sv)⟩
  | [], rs, h1 => exact h1.elim
  | _ :: _ :: _, rs, h1 => exact h1.elim
/-- enumerate(a) -/
theorem di_enum (hg : Gl X "enumerate") (hm : X.mg "enumerate" = none) (ha : PDA X E [e] d) (hs : starEach [e] X.env = [(false, eval e X.env)] := by rfl) : PI X (.Tuple elts kk tpos) (.Call (.Name "enumerate" p) [e] [] pos) (iOf X.K X.mg E (iEnu d)) := by
  refine ⟨fun pins s σ H R I h => Call_ (ld_blt I hg hm boot_enumerate (PyProof.Rows.callWith_type1 (thn (ha.run pos pins s σ H (EQ X R) I (en_args h)) fun us s1 ⟨vs, H1, I1, r1, q1⟩ => ?_) hs rfl))⟩
  obtain ⟨q, rfl, ⟨xs, hq⟩, hR⟩ := q1
  obtain ⟨u, rfl, rx⟩ := vals1 r1
  cases rx
  obtain ⟨its, rv, pT, al⟩ := sqK_obj I1 hq
  refine call_en pT fun h' he hit hk => wpAny_pyIter_enum he ?_
  refine ⟨s1.heap.objs.size + 1, [s1.heap.objs.size + 1, s1.heap.objs.size], _, _, H1, rfl, I1.kept (t' := s1.toks) hk, turn_en q (s1.heap.objs.size + 1) s1.heap.objs.size (Nat.succ_ne_self _) (Nat.ne_of_lt (Nat.lt_succ_of_lt al)) (Nat.ne_of_lt al), ⟨⟨.none, he⟩, hit⟩, fun b hb => ?_, hR⟩
  have hle : s1.heap.objs.size ≤ b := by
    rcases (show b = s1.heap.objs.size + 1 ∨ b = s1.heap.objs.size by simpa using hb) with z | z <;> rw [z]
    · exact Nat.le_succ _
    · exact Nat.le_refl _
  exact I1.fpOk hle (I1.hok.fresh hle)
end
end Den

namespace Den
open PySem PySem.Spec PyProof.Rows L2 Bal
/-! ### three names at once -/
section
variable {X : Cx} {E : L2.St → XK} {a b c : Expr} {pos : Pos}
theorem Rps.three {Γ : Gm} {H : Hp} {μ : List Addr} {vs : List V} {w1 w2 w3 : W} (r : Rps Γ H μ vs [w1, w2, w3]) : ∃ v1 v2 v3, vs = [v1, v2, v3] ∧ Rp Γ H μ v1 w1 ∧ Rp Γ H μ v2 w2 ∧ Rp Γ H μ v3 w3 := by
  cases r with
  | cons a r =>
    obtain ⟨v, u, rfl, b, c⟩ := r.two rfl
    exact ⟨_, v, u, rfl, a, b, c⟩
end
end Den

namespace Den
open PySem PySem.Spec PyProof.Rows L2 Bal
/-! ### repr, of small data, and the defs that ask it -/
theorem _root_.Bal.FnG.mono {P : Program} {w : World} {K : PySem.W.Frag} {mg : Str → Option Value} {base : Heap} {k k' : Nat} {f : Addr} {fd : FuncData} {ps : List Str} {sp : Sp} (F : FnG P w K mg base k f fd ps sp) (h : k ≤ k') : FnG P w K mg base k' f fd ps sp := ⟨F.lenG, fun A outer s H args us vs Q E hg hr => F.runG A outer s H args us vs Q E hg (hr.mono h)⟩
end Den

namespace Den
open PySem PySem.Spec PyProof.Rows L2 Bal
/-! ### list(range(a, b)) -/
/-! ### sorted of pairs -/
abbrev Pr := Int × Int
end Den

namespace Den
open PySem PySem.Spec PyProof.Rows L2 Bal
/-! ### sorted(set(..)) of pairs -/
abbrev pl (p : Pr) : List Int := [p.1, p.2]
end Den

namespace Den
open PySem PySem.Spec PyProof.Rows L2 Bal
/-! ### numbers rising, each once -/
/-! ### pairs of any numbers, in their order -/
end Den

namespace Den
open PySem PySem.Spec PyProof.Rows L2 Bal
section
variable {P : Program} {w : World} {A : Around} {E : Value → Shared → Prop} {s : Shared}
/-- the bare set that set(..) starts with -/
abbrev bare (w : World) : Obj := { cls := .type "set", dict := none, data := .set #[] 0 (.fresh 0 0 (!w.params.followText "set-order")) }
end
end Den

namespace Den
open PySem PySem.Spec PyProof.Rows L2 Bal
/-! ### sorted(set(..)) of ints -/
def nT : List W → Option (List Int)
  | [] => some []
  | .int a :: ws => (nT ws).map (a :: ·)
  | _ :: _ => none
/-! ### sorted of pairs of any numbers -/
end Den

namespace Den
open PySem PySem.Spec PyProof.Rows L2 Bal
end Den

namespace Den
open PySem PySem.Spec PyProof.Rows L2 Bal
end Den

namespace Bal
open PySem PySem.Spec PyProof.Rows L2
/-! ### one class named in an except -/
end Bal
namespace Den
open PySem PySem.Spec PyProof.Rows L2 Bal
end Den

namespace Den
open PySem PySem.Spec PyProof.Rows L2 Bal
section
variable {K : PySem.W.Frag} {mg : Str → Option Value}
/-! ### x -= n, sum of a list of numbers -/
end
end Den

namespace Den
open PySem PySem.Spec PyProof.Rows L2 Bal
/-! ### f(a, b, k = c) -/
/-! ### list(range(b)) -/
end Den

namespace Den
open PySem PySem.Spec PyProof.Rows L2 Bal
/-! ### xs.pop() -/
/-! ### continue, break -/
def sCont : DS := fun ρ S => .ok (.ct ρ) S
theorem ds_cont {X : Cx} {E : L2.St → XK} {pos : Pos} : PDS X E (.Continue pos) sCont := ps_of ps_continue fun D σ H ⟨δ, μ, S, ρ, k, s, h⟩ => h H μ Gr.refl k σ s
end Den

namespace Den
open PySem PySem.Spec PyProof.Rows L2 Bal
/-! ### tables may grow -/
/-! ### the slots of the maker, as they are handed on -/
/-! ### what was handed in, called -/
def dAct (i : Nat) (f c : Addr) (q : Str) (xs : List V) (qd : List W → Mo W) : DE := fun ρ S => match ρ[i]? with
  | some (some (.lam f' c' q' xs' ws)) => if f' = f ∧ c' = c ∧ q' = q ∧ xs' = xs then qd ws S else .bad
  | _ => .bad
def ActOk (Z : Cx) (a : Str) (d : DE) : Prop := ∀ (W : WX) (pn : List (Addr × Obj)) (xe : Value → Shared → Prop) (p1 p2 : Pos), Takes (Z.tr pn xe) W → PD (Z.tr pn xe) (WE W) (.Call (.Name a p1) [] [] p2) d
/-- a def that gets such a thing, and calls it in a try: what it tells of what that tells -/
def LamFn (P : Program) (w : World) (K : PySem.W.Frag) (mg : Str → Option Value) (base : Heap) (k : Nat) (x : Str) (st : Stmt) (g : Addr) (a : Str) (Ng : List Str) (n : Nat) (G : Mo W → List W → Mo W) : Prop :=
  ∃ d : Addr → Addr → Str → List V → (List W → Mo W) → DS,
    (∀ f c q xs qd ws us S, us.length = n → fnW Ng.length (d f c q xs qd) (.lam f c q xs ws :: us) S = G (qd ws) us S) ∧
    ∀ (f c : Addr) (q : Str) (xs : List V) (qd : List W → Mo W) (cdv : Value) (A : Around) (outer : List Env) (s : Shared) (H : Hp) (E : XK), Room k (A.deeper (envOfC x (defScope st) s.heap.objs.size g cdv)) →
      ActOk (cxOf (L2.CX P w) P w K mg base Ng x (defScope st) g cdv A outer s H E) a (dAct 0 f c q xs qd) → PDSs (cxOf (L2.CX P w) P w K mg base Ng x (defScope st) g cdv A outer s H E) (fun _ => E) (defBody st) (d f c q xs qd)
theorem LamFn.mono {P : Program} {w : World} {K : PySem.W.Frag} {mg : Str → Option Value} {base : Heap} {k k' : Nat} {x : Str} {st : Stmt} {g : Addr} {a : Str} {Ng : List Str} {n : Nat} {G : Mo W → List W → Mo W} (h : LamFn P w K mg base k x st g a Ng n G) (hk : k ≤ k') : LamFn P w K mg base k' x st g a Ng n G :=
  let ⟨d, h1, h2⟩ := h
  ⟨d, h1, fun f c q xs qd cdv A outer s H E r => h2 f c q xs qd cdv A outer s H E (r.mono hk)⟩
end Den

namespace Den
open PySem PySem.Spec PyProof.Rows L2 Bal
/-! ### the end, with tables -/
/-- the code object of the def at f is written, its table is bare -/
def OwnT (K : PySem.W.Frag) (f : Addr) (h : Heap) : Prop := ∀ (c P : Addr) (o : Obj) (fd : FuncData) (e : Value) (dd : Option Addr) (vs : Array Value) (sl : Array (Option Value)), K.lookup f = some o → o.data = .func fd → fd.code = .ref c →
  K.lookup c = some ⟨e, dd, .fields vs, sl⟩ → vs[11]? = some (.ref P) → h.get? P = some (PySem.W.tabObj #[]) ∧ PySem.W.CodeHd h c P
theorem walk_tab {l : PySem.W.OpenLaw} {n k : Nat} {q : Program} {loose : List Str} {XP : (Str → Option Value) → Heap → Prop} {YP : World → Heap → Prop} {d : DefRec} {K : Params → PySem.W.Frag} {CX : World → CXT} {x : Str}
    (hn : l.most = some n) (hn2 : n ≤ sizeLine) (hdf : d.params.defaults = []) (hr : Room k callerA) (hY : ∀ (w : World) (h : Heap), YP w h → (K w.params).In h)
    (F : ∀ (w : World) (mg : Str → Option Value) (fa : Addr) (h : Heap), (K w.params).In h → h.Ns mainGlobals mg → mg d.name = some (.ref fa) → (∀ (nm : Str) (f : Addr), ((recsOf q).any fun e => e.name == nm) = true → mg nm = some (.ref f) → OwnT (K w.params) f h) → LamX.LawAtS l w (K w.params) (CX w) k n x mg fa h)
    (hCX : ∀ (w : World) (H : Hp) (s : Shared) (e : Value) (s' : Shared), CX w [] H s (fun _ _ _ => False) e s' → False) : PySem.W.WalkO q loose XP YP l.row.toRowW d [] (fun f vs => PySem.call f vs) := by
  refine Att.attach_callB hn hdf fun w s₀ s₁ mg mb fa o pm cd doc a vs ns G Y ho hd hcd hmg hobj hints hlen hbits hg => ?_
  have KX := hY w _ Y
  have own : ∀ (nm : Str) (f : Addr), ((recsOf q).any fun e => e.name == nm) = true → mg nm = some (.ref f) → OwnT (K w.params) f s₁.heap := fun nm f hrec hf c P o1 fd1 e dd vs1 sl k1 k2 k3 k4 k5 => by
    obtain ⟨dL, mL, nL⟩ := List.any_eq_true.mp hrec
    obtain ⟨a', o', fd', c', P', h1, h2, h3, h4, h5, h6⟩ := G.T.tab dL mL
    rw [beq_iff_eq.mp nL, hf] at h1
    cases h1
    rw [KX _ _ k1] at h2
    cases h2
    rw [k2] at h3
    cases h3
    rw [k3] at h4
    cases h4
    obtain ⟨⟨oc, vc, e1, e2, e3, e4⟩, hP⟩ := id h6
    rw [KX _ _ k4] at e1
    cases e1
    cases e3
    rw [k5] at e4
    cases e4
    exact ⟨hP, PySem.W.CodeHd.of h5 h6⟩
  obtain ⟨fd, cs, sp, hT, nT, C, hb, hsp, hF⟩ := F w mg fa _ KX G.T.g hmg own
  exact LamX.law_callTs KX G.T.g G.T.b G.T.builtins G.T.nolimit hg hT nT C G.T.bmain hobj hints (Nat.le_trans hlen hn2) hr hF hb (fun H hH hS => hsp H a ns hlen hbits hH hS) fun H e s' => hCX w H s₁ e s'
theorem tab_of {K : PySem.W.Frag} {mg : Str → Option Value} {nm : Str} {f c P : Addr} {oc : Value} {od : Option Addr} {fd : FuncData} {osl : Array (Option Value)} {e : Value} {dd : Option Addr} {vs : Array Value} {sl : Array (Option Value)} (g : mg nm = some (.ref f)) (l : K.lookup f = some ⟨oc, od, .func fd, osl⟩) (o : fd.code = .ref c) (v : K.lookup c = some ⟨e, dd, .fields vs, sl⟩) (p : vs[11]? = some (.ref P)) :
    tabOf K mg nm = some (P, (nm ++ ".<locals>.") ++ "<lambda>") := by
  unfold tabOf
  simp only [g, l, o, v, p]
theorem tab_no {K : PySem.W.Frag} {mg : Str → Option Value} {nm : Str} (g : mg nm = none) : tabOf K mg nm = none := by
  unfold tabOf
  simp only [g]
/-- what is known at the head, from a promise of the law over such tables -/
theorem at_head {l : PySem.W.OpenLaw} {w : World} {K : PySem.W.Frag} {CX : CXT} {k : Nat} {x : Str} {mg : Str → Option Value} {fa : Addr} {h : Heap} {fd : FuncData} {cs : List (Addr × Addr)} (hT : ∀ p ∈ cs, h.get? p.2 = some (PySem.W.tabObj #[])) (nT : ∀ p ∈ cs, K.lookup p.2 = none) (C : ∀ p ∈ cs, PySem.W.CodeHd h p.1 p.2) (hc : ∀ p ∈ tabsOf K mg, ∃ c, (c, p.1) ∈ cs)
    (hb : ∀ (s : Shared) (u : Value), BindsTo s fd ⟨[u], []⟩ [(x, u)]) (F : ∀ base : Heap, (∀ p ∈ cs, LamX.TabB base mg p.1 p.2) → FnOk l.prog w K mg base CX k fa fd [x] (spLaw K mg)) : LamX.LawAtS l w K CX k 63 x mg fa h :=
  ⟨fd, cs, spLaw K mg, hT, nT, C, hb, fun H a ns hl _ hH hS => ⟨a, ns, rfl, hS, hl, fun p hp => let ⟨c, m⟩ := hc p hp; LamX.TabS.nil (hH _ m), fun _ => rfl⟩, fun base _ _ TB => F base TB⟩
/-! ### a def whose code object is known -/
/-! ### what a def tells does not hang on which thing it got, but on what that tells -/
end Den

namespace Den
open PySem PySem.Spec PyProof.Rows L2 Bal
/-! ### an own error that has no field, raised -/
/-! ### the end, with tables, where the law asks repr -/
end Den

namespace Den
open PySem PySem.Spec PyProof.Rows L2 Bal
/-! ### {k: v for x in xs} -/
end Den

namespace Den
open PySem PySem.Spec PyProof.Rows L2 Bal
/-! ### a list or a tuple as a test -/
end Den

namespace Den
open PySem PySem.Spec PyProof.Rows L2 Bal
/-! ### division by great numbers -/
/-! ### a op1 b op2 c op3 d -/
end Den

namespace Den
open PySem PySem.Spec PyProof.Rows L2 Bal
/-! ### sorted of any data that are alike: numbers, texts, tuples and lists of them -/
end Den

namespace Den
open PySem PySem.Spec PyProof.Rows L2 Bal
/-! ### == and != of data that lie deep -/
end Den

namespace Den
open PySem PySem.Spec PyProof.Rows L2 Bal
/-! ### a try in which nothing is raised -/
end Den

namespace Den
open PySem PySem.Spec PyProof.Rows L2 Bal
/-! ### list(range(a, b, -1)) -/
end Den

namespace Den
open PySem PySem.Spec PyProof.Rows L2 Bal
/-! ### sorted(set(t)), t a tuple of ints -/
end Den

namespace Den
open PySem PySem.Spec PyProof.Rows L2 Bal
/-! ### dicts by tuples of numbers: as the machine has them -/
abbrev KVs := List ((Addr × List Int) × V)
end Den

namespace Den
open PySem PySem.Spec PyProof.Rows L2 Bal
/-! ### dicts by tuples of numbers: in the store, by their pairs -/
end Den

namespace Den
open PySem PySem.Spec PyProof.Rows L2 Bal
/-! ### {k: v}, k a tuple of numbers -/
end Den

namespace Den
open PySem PySem.Spec PyProof.Rows L2 Bal
/-! ### sorted(d) of a dict by tuples of numbers -/
end Den

namespace Den
open PySem PySem.Spec PyProof.Rows L2 Bal
/-! ### sorted of a dict by tuples: its keys -/
end Den

namespace Den
open PySem PySem.Spec PyProof.Rows L2 Bal
/-! ### len(set(xs)), xs a list of ints -/
end Den

namespace Den
open PySem PySem.Spec PyProof.Rows L2 Bal
/-! ### a dict is locked while it is walked -/
section
variable {Γ : Gm} {H H' : Hp} {μ : List Addr} {S : Store}
mutual
theorem Rp.th (g1 : ∀ a o, H a = some o → a ∉ μ → H' a = some o) (g2 : ∀ a k, a ∈ μ → Kd_ H a k → Kd_ H' a k) : ∀ {v : V} {w : W}, Rp Γ H μ v w → Rp Γ H' μ v w
  | _, _, .non => .non
  | _, _, .bl b => .bl b
  | _, _, .int i => .int i
  | _, _, .str x => .str x
  | _, _, .tup h l r => .tup (h.imp (fun ⟨⟨ob, hd, e⟩, n, m⟩ => ⟨⟨ob, hd, g1 _ _ e n⟩, n, m⟩) id) l (Rps.th g1 g2 r)
  | _, _, .cl h n m l r => .cl (g1 _ _ h n) n m l (Rps.th g1 g2 r)
  | _, _, .sc h r => .sc (h.imp (fun ⟨e, n, m⟩ => ⟨e.imp (fun e => g1 _ _ e n) (fun ⟨ob, e⟩ => ⟨ob, g1 _ _ e n⟩), n, m⟩) id) (Rps.th g1 g2 r)
  | _, _, .lst h q => .lst h (g2 _ _ (List.mem_of_getElem? h) q)
  | _, _, .dct h q => .dct h (g2 _ _ (List.mem_of_getElem? h) q)
  | _, _, .dtt h q => .dtt h (g2 _ _ (List.mem_of_getElem? h) q)
  | _, _, .ins h q m => .ins h (g2 _ _ (List.mem_of_getElem? h) q) m
  | _, _, .exn m h n z hd nd zd l r => .exn m (g1 _ _ h n) n z (g1 _ _ hd nd) nd zd l (Rps.th g1 g2 r)
  | _, _, .exn0 m h n z => .exn0 m (g1 _ _ h n) n z
  | _, _, .lam h n z r => .lam (g1 _ _ h n) n z (Rps.th g1 g2 r)
theorem Rps.th (g1 : ∀ a o, H a = some o → a ∉ μ → H' a = some o) (g2 : ∀ a k, a ∈ μ → Kd_ H a k → Kd_ H' a k) : ∀ {vs : List V} {ws : List W}, Rps Γ H μ vs ws → Rps Γ H' μ vs ws
  | _, _, .nil => .nil
  | _, _, .cons a b => .cons (Rp.th g1 g2 a) (Rps.th g1 g2 b)
end
/-- what a dict of the store is, when nobody walks it -/
theorem Ok.dict {n : Nat} {d : Addr} {ws : List W} (k : Ok Γ H μ S) (e : μ[n]? = some d) (q : Kd_ H d 1 ∨ Kd_ H d 2) (es : S[n]? = some ws) (hz : fzB ws = false) : ∃ (u : HO) (xs : List V) (us : List W), H d = some u ∧ EntD d u ws xs us ∧ xs.length ≤ sizeLine ∧ Rps Γ H μ xs us := by
  obtain ⟨o, ws', xs, us, e1, e2, en, l, r⟩ := k.at_ n d e
  rw [es] at e1
  cases e1
  refine ⟨o, xs, us, e2, ?_, l, r⟩
  cases o with
  | lst ys =>
    exfalso
    rcases q with ⟨o', e3, q⟩ | ⟨o', e3, q⟩ <;> (rw [e2] at e3; cases e3; cases q)
  | frz ob u =>
    obtain ⟨ws0, rfl, _⟩ := en
    cases hz
  | ins C dx fs =>
    exfalso
    rcases q with ⟨o', e3, q⟩ | ⟨o', e3, q⟩ <;> (rw [e2] at e3; cases e3; have hk : 4 ≤ kd (HO.ins C dx fs) := Nat.le_add_left 4 C; rw [q] at hk; exact absurd hk (by decide))
  | dK kvs => exact en
  | ext φ => exact en
  | _ => exact en.elim
end
/-! ### a statement, a value, while a dict is locked -/
/-! ### its keys -/
end Den

namespace Den
open PySem PySem.Spec PyProof.Rows L2 Bal
/-! ### list(d.values()), sorted(d), len(d), d.setdefault(k, []) -/
end Den

namespace Den
open PySem PySem.Spec PyProof.Rows L2 Bal
/-! ### len(d), for x, y in d.items() -/
end Den

namespace Den
open PySem PySem.Spec PyProof.Rows L2 Bal
/-! ### dict(xs) of a list of pairs -/
end Den

namespace Den
open PySem PySem.Spec PyProof.Rows L2 Bal
/-! ### d.items() of a dict by tuples of numbers, d.get(k, z) -/
/-! d.get(k, z) -/
end Den

namespace Den
open PySem PySem.Spec PyProof.Rows L2 Bal
/-! ### {}, to be a dict by tuples of numbers -/
/-! ### {k: v, ..}, its keys tuples of numbers -/
section
variable {Γ : Gm} {H : Hp} {μ : List Addr}
inductive Rpp (Γ : Gm) (H : Hp) (μ : List Addr) : List (V × V) → List (W × W) → Prop
  | nil : Rpp Γ H μ [] []
  | cons {x v : V} {k u : W} {xs : List (V × V)} {ws : List (W × W)} : Rp Γ H μ x k → Rp Γ H μ v u → Rpp Γ H μ xs ws → Rpp Γ H μ ((x, v) :: xs) ((k, u) :: ws)
end
section
variable {X : Cx} {E : L2.St → XK} {pos : Pos}
theorem Rpp.gr {Γ : Gm} {H H' : Hp} {μ μ' : List Addr} (g : Gr H μ H' μ') : ∀ {xs : List (V × V)} {ws : List (W × W)}, Rpp Γ H μ xs ws → Rpp Γ H' μ' xs ws
  | _, _, .nil => .nil
  | _, _, .cons a b c => .cons (a.gr g) (b.gr g) (Rpp.gr g c)
end
/-! d[k] -/
end Den

namespace Den
open PySem PySem.Spec PyProof.Rows L2 Bal
/-! ### xs[i] += n, xs.count(n) -/
/-! xs.count(n) -/
/-! x * n of lists, kept in the store -/
end Den

namespace Den
open PySem PySem.Spec PyProof.Rows L2 Bal
/-! ### xs.count(x) of data of any depth -/
end Den

namespace Den
open PySem PySem.Spec PyProof.Rows L2 Bal
/-! ### numbers less truths and truths less numbers, str of a number, xs[i:j] = ys -/
def strW : W → Option Str
  | .int i => if decide (i.natAbs < 1000000000000000000) = true then some (toString i) else none
  | .bl b => some (if b = true then "True" else "False")
  | _ => none
def fStr (_ : Store) : List W → Option W
  | [x] => (strW x).map .str
  | _ => none
section
variable {Γ : Gm} {K : PySem.W.Frag} {mg : Str → Option Value} {H : Hp} {μ : List Addr}
theorem fStr_ok : OpN K mg (fun xs H Q => ∃ x i, xs = [x] ∧ nv x = some i ∧ i.natAbs.log2 < 1920 ∧ Q (.str (strN x)) H) fStr := by
  intro δ H μ S vs xs w Q k rs e q
  match xs, rs, e with
  | [x], rs, e =>
    obtain ⟨v, rfl, rx⟩ := rs.one rfl
    have e : (strW x).map W.str = some w := e
    cases rx with
    | bl b =>
      cases e
      exact ⟨_, _, rfl, rfl, by split <;> decide, q _ _ Gr.refl k (.str _)⟩
    | int i =>
      have e : (if decide (i.natAbs < 1000000000000000000) = true then some (toString i) else none : Option Str).map W.str = some w := e
      by_cases h : decide (i.natAbs < 1000000000000000000) = true
      · rw [if_pos h] at e
        cases e
        refine ⟨_, i, rfl, rfl, ?_, q _ _ Gr.refl k (.str _)⟩
        have h := of_decide_eq_true h
        by_cases z : i.natAbs = 0
        · rw [z]; decide
        · refine (Nat.log2_lt z).mpr (Nat.lt_of_lt_of_le h ?_)
          exact Nat.le_trans (show 1000000000000000000 ≤ 2 ^ 60 by decide) (Nat.pow_le_pow_right (by decide) (by decide))
      · rw [if_neg h] at e
        cases e
    | _ => cases e
  | [], rs, e => cases e
  | _ :: _ :: _, rs, e => cases e
end
end Den

namespace Den
open PySem PySem.Spec PyProof.Rows L2 Bal
/-! ### try: .. except (C1, ..): a suite of its own -/
end Den

namespace Den
open PySem PySem.Spec PyProof.Rows L2 Bal
/-! ### statements that end in a return: the slots behind them are told too -/
abbrev TR := (V → L2.St → Hp → Prop) → L2.St → Hp → Prop
/-! ### as readings -/
inductive Rt where
  | rt (w : W) (ρ : En) | er (c f : Str) (ws : List W) (ρ : En)
abbrev DR := En → Mo Rt
def EndR (Γ : Gm) (E : L2.St → XK) (Q : V → L2.St → Hp → Prop) (H : Hp) (μ : List Addr) : Rt → Prop
  | .rt w ρ => ∀ σ v, Rσ Γ H μ σ ρ → Rp Γ H μ v w → Q v σ H
  | .er c f ws ρ => ∀ σ, Rσ Γ H μ σ ρ → ∀ cls d, RpX Γ H μ cls d c f ws → E σ cls d H
def ResR (Γ : Gm) (E : L2.St → XK) (Q : V → L2.St → Hp → Prop) (H : Hp) (μ : List Addr) : Out Rt → Prop
  | .ok x S' => ∀ H' μ', Gr H μ H' μ' → Ok Γ H' μ' S' → EndR Γ E Q H' μ' x
  | _ => False
theorem ResR.gr {Γ : Gm} {E : L2.St → XK} {Q : V → L2.St → Hp → Prop} {H H' : Hp} {μ μ' : List Addr} {o : Out Rt} (g : Gr H μ H' μ') (h : ResR Γ E Q H μ o) : ResR Γ E Q H' μ' o := by
  cases o with
  | ok a S' => exact fun H2 μ2 g2 k => h H2 μ2 (g.trans g2) k
  | err c f ws S' => exact h
  | bad => exact h
end Den

namespace Den
open PySem PySem.Spec PyProof.Rows L2 Bal
/-! ### instances of an own class -/
/-- the class is one of one's own -/
structure ClsG (K : PySem.W.Frag) (mg : Str → Option Value) : Prop where
  c : ∀ C, mg "Gallery" = some (.ref C) → Cls K C
  past : ∀ C, mg "Gallery" = some (.ref C) → NoAttr K C "past"
  notes : ∀ C, mg "Gallery" = some (.ref C) → NoAttr K C "notes"
theorem ClsG.no {K : PySem.W.Frag} {mg : Str → Option Value} (T : ClsG K mg) {i : Nat} {f : Str} (hi : insNames[i]? = some f) {C : Addr} (hC : mg "Gallery" = some (.ref C)) : NoAttr K C f := by
  match i, hi with
  | 0, hi => simp [insNames] at hi; subst hi; exact T.past C hC
  | 1, hi => simp [insNames] at hi; subst hi; exact T.notes C hC
  | i + 2, hi => simp [insNames] at hi
section
variable {X : Cx} {E : L2.St → XK} {e o value : Expr} {es : List Expr} {pos pos' apos : Pos} {f m : Str} {i k n : Nat} {d dv : DE} {da : DA}
/-! ### an attribute read, an attribute stored -/
/-! ### a method called -/
end
end Den

namespace Den
open PySem PySem.Spec PyProof.Rows L2 Bal
/-! ### an instance made, arguments by names too -/
section
variable {X : Cx} {E : L2.St → XK} {e o : Expr} {es : List Expr} {kws : List Keyword} {p pos apos : Pos} {m x : Str} {k n l : Nat} {d : DE} {da dk : DA} {π : List Nat} {ks : List Str} {fa C : Addr} {fd : FuncData} {ps : List Str} {g : List W → Mo W}
/-! a method, arguments by names -/
end
end Den

namespace Den
open PySem PySem.Spec PyProof.Rows L2 Bal
/-! ### len, repr and == of an instance, by its class's own -/
section
variable {X : Cx} {E : L2.St → XK} {e a b : Expr} {p pos : Pos} {k : Nat} {d da db : DE} {fa C : Addr} {fd : FuncData} {ps : List Str} {g : List W → Mo W} {sp : Sp}
/-! == -/
end
end Den

namespace Den
open PySem PySem.Spec PyProof.Rows L2 Bal
/-! ### texts: f'..', x + y; == of instances; isinstance of one -/
section
variable {K : PySem.W.Frag} {mg : Str → Option Value}
def fCatS (_ : Store) : W → W → Option W
  | .str x, .str y => if szB (x.length + y.length) = true then some (.str (x ++ y)) else none
  | _, _ => none
abbrev rCatSS : R2 := fun x y H Q => ∃ i j, x = .str i ∧ y = .str j ∧ i.length + j.length ≤ sizeLine ∧ Q (.str (i ++ j)) H
theorem fCatS_ok : Op2 K mg rCatSS fCatS := by
  intro δ H μ S v u x y w Q k rx ry e q
  cases rx <;> first | (cases e; done) | skip
  cases ry <;> first | (cases e; done) | skip
  rename_i x y
  have e : (if szB (x.length + y.length) = true then some (W.str (x ++ y)) else none) = some w := e
  by_cases hz : szB (x.length + y.length) = true
  · rw [if_pos hz] at e
    cases e
    exact ⟨x, y, rfl, rfl, sz_ok hz, q _ _ Gr.refl k (.str _)⟩
  · rw [if_neg hz] at e
    cases e
end
end Den

namespace Den
open PySem PySem.Spec PyProof.Rows L2 Bal
/-! ### xs.index(k) of texts, of truths -/
def strT : List W → Option (List Str)
  | [] => some []
  | .str i :: ws => (strT ws).map (i :: ·)
  | _ :: _ => none
section
variable {Γ : Gm} {H : Hp} {μ : List Addr} {S : Store}
theorem strT_ok : ∀ {vs : List V} {ws : List W} {ns : List Str}, Rps Γ H μ vs ws → strT ws = some ns → vs = ns.map V.str
  | _, _, ns, .nil, e => by cases e; rfl
  | _, _, ns, .cons (w := w) (ws := ws) a b, e => by
    cases a <;> first | cases e | skip
    rename_i i
    have e : (strT ws).map (i :: ·) = some ns := e
    cases e2 : strT ws with
    | none => rw [e2] at e; cases e
    | some y =>
      rw [e2] at e
      cases e
      rw [strT_ok b e2]
      rfl
end
end Den

namespace Den
open PySem PySem.Spec PyProof.Rows L2 Bal
/-! ### methods of texts: startswith, strip(signs), split(text), join; int(text); a sign in a text -/
def isT : W → Bool
  | .str _ => true
  | _ => false
/-- x.m(y) of two texts, asked C -/
def tx1 (C : Str → Str → Bool) (g : Str → Str → W) : W → W → Option W
  | .str a, .str b => if C a b = true then some (g a b) else none
  | _, _ => none
def dT1 (C : Str → Str → Bool) (g : Str → Str → W) (d da : DE) : DE := fun ρ => bnd (d ρ) fun x => if isT x = true then bnd (da ρ) fun y => rdS fun _ => tx1 C g x y else bad
section
variable {X : Cx} {E : L2.St → XK} {o e : Expr} {apos pos : Pos} {d da : DE}
theorem de_t1 {id : String} {name : Str} {C : Str → Str → Bool} {g : Str → Str → V} {gw : Str → Str → W} (slot : Slot "str" name id) (ty : typeOf (.builtin id) = pure (.type "method_descriptor"))
    (rule : MtR X id fun x xs H Q => ∃ a b, x = .str a ∧ xs = [.str b] ∧ C a b = true ∧ Q (g a b) H) (hr : ∀ {Γ : Gm} {H : Hp} {μ : List Addr} (a b : Str), Rp Γ H μ (g a b) (gw a b)) (ho : PD X E o d) (ha : PD X E e da)
    (hs : starEach [e] X.env = [(false, eval e X.env)] := by rfl) (hbase : attributeBase o name X.env (eval o X.env) = eval o X.env := by rfl) (hline : (apos.endLine == pos.line) = true := by rfl) : PD X E (.Call (.Attribute o name apos) [e] [] pos) (dT1 C gw d da) :=
  pe_of (pe_m1 slot ty rule ho ha hs hbase hline) fun σ H Q ⟨δ, μ, S, ρ, k, s, h⟩ =>
  ⟨δ, μ, S, ρ, k, s, Res.step h fun x S1 H1 μ1 g1 k1 h1 v rv => by
    cases rv with
    | str a =>
      refine ⟨⟨a, rfl⟩, δ, μ1, S1, ρ, k1, rσ_gr g1 s, ?_⟩
      have h1 : Res ⟨X.K, X.mg, δ⟩ (E σ) H1 μ1 (bnd (da ρ) (fun y => rdS fun _ => tx1 C gw (.str a) y) S1) (fun w H' μ' _ => ∀ v, Rp ⟨X.K, X.mg, δ⟩ H' μ' v w → Q v H') := h1
      exact Res.step h1 fun y S2 H2 μ2 g2 k2 h2 u ru => by
        obtain ⟨w, e, q⟩ := rd_ok h2
        cases ru with
        | str b =>
          have e : (if C a b = true then some (gw a b) else none) = some w := e
          by_cases hc : C a b = true
          · rw [if_pos hc] at e
            cases e
            exact ⟨a, b, rfl, rfl, hc, q _ _ Gr.refl k2 (hr a b)⟩
          · rw [if_neg hc] at e
            cases e
        | _ => cases e
    | _ => exact h1.elim⟩
/-- x.startswith(y) -/
def dStarts : DE → DE → DE := dT1 (fun _ _ => true) fun a b => .bl (Txt.startswith a b)
theorem de_starts (ho : PD X E o d) (ha : PD X E e da) (hs : starEach [e] X.env = [(false, eval e X.env)] := by rfl) (hbase : attributeBase o "startswith" X.env (eval o X.env) = eval o X.env := by rfl) (hline : (apos.endLine == pos.line) = true := by rfl) : PD X E (.Call (.Attribute o "startswith" apos) [e] [] pos) (dStarts d da) :=
  de_t1 (g := fun a b => .bl (Txt.startswith a b)) PySem.F.slot_str_startswith PySem.F.type_str_startswith (fun pins s σ H x xs v us Q I rx rs ⟨a, b, h1, h2, _, h3⟩ => mt_startswith pins s σ H x xs v us Q I rx rs ⟨a, b, h1, h2, h3⟩) (fun a b => .bl _) ho ha hs hbase hline
/-- x.strip(y) -/
def dStripC : DE → DE → DE := dT1 (fun a _ => szB a.length) fun a b => .str (Txt.stripChars a b)
theorem de_stripC (ho : PD X E o d) (ha : PD X E e da) (hs : starEach [e] X.env = [(false, eval e X.env)] := by rfl) (hbase : attributeBase o "strip" X.env (eval o X.env) = eval o X.env := by rfl) (hline : (apos.endLine == pos.line) = true := by rfl) : PD X E (.Call (.Attribute o "strip" apos) [e] [] pos) (dStripC d da) :=
  de_t1 (g := fun a b => .str (Txt.stripChars a b)) PySem.F.slot_str_strip PySem.F.type_str_strip (fun pins s σ H x xs v us Q I rx rs ⟨a, b, h1, h2, hc, h3⟩ => mt_stripChars pins s σ H x xs v us Q I rx rs ⟨a, b, h1, h2, sz_ok hc, h3⟩) (fun a b => .str _) ho ha hs hbase hline
/-- x.split(y): a new list -/
def spW : W → W → Mo W
  | .str a, .str b => if (!(b.length == 0) && szB (a.length + 2) && szB (Txt.split a b).length) = true then newK .cl ((Txt.split a b).map W.str) else bad
  | _, _ => bad
def dSplit (d da : DE) : DE := fun ρ => bnd (d ρ) fun x => if isT x = true then bnd (da ρ) fun y => spW x y else bad
theorem rps_str {Γ : Gm} {H : Hp} {μ : List Addr} : ∀ ys : List Str, Rps Γ H μ (ys.map V.str) (ys.map W.str)
  | [] => .nil
  | y :: ys => .cons (.str y) (rps_str ys)
theorem de_split (ho : PD X E o d) (ha : PD X E e da) (hs : starEach [e] X.env = [(false, eval e X.env)] := by rfl) (hbase : attributeBase o "split" X.env (eval o X.env) = eval o X.env := by rfl) (hline : (apos.endLine == pos.line) = true := by rfl) : PD X E (.Call (.Attribute o "split" apos) [e] [] pos) (dSplit d da) :=
  pe_of (pe_split ho ha hs hbase hline) fun σ H Q ⟨δ, μ, S, ρ, k, s, h⟩ =>
  ⟨δ, μ, S, ρ, k, s, Res.step h fun x S1 H1 μ1 g1 k1 h1 v rv => by
    cases rv with
    | str a =>
      refine ⟨⟨a, rfl⟩, δ, μ1, S1, ρ, k1, rσ_gr g1 s, ?_⟩
      have h1 : Res ⟨X.K, X.mg, δ⟩ (E σ) H1 μ1 (bnd (da ρ) (fun y => spW (.str a) y) S1) (fun w H' μ' _ => ∀ v, Rp ⟨X.K, X.mg, δ⟩ H' μ' v w → Q v H') := h1
      exact Res.step h1 fun y S2 H2 μ2 g2 k2 h2 u ru => by
        cases ru with
        | str b =>
          by_cases hc : (!(b.length == 0) && szB (a.length + 2) && szB (Txt.split a b).length) = true
          · have h2 : Res ⟨X.K, X.mg, δ⟩ (E σ) H2 μ2 ((if (!(b.length == 0) && szB (a.length + 2) && szB (Txt.split a b).length) = true then newK .cl ((Txt.split a b).map W.str) else bad) S2) (fun w H' μ' _ => ∀ v, Rp ⟨X.K, X.mg, δ⟩ H' μ' v w → Q v H') := h2
            rw [if_pos hc] at h2
            rw [Bool.and_eq_true, Bool.and_eq_true, Bool.not_eq_true'] at hc
            exact ⟨a, b, rfl, rfl, hc.1.1, sz_ok hc.1.2, fun p hp => newK_ok .cl k2 h2 hp (by rw [List.length_map]; exact sz_ok hc.2) (rps_str _)⟩
          · have h2 : Res ⟨X.K, X.mg, δ⟩ (E σ) H2 μ2 ((if (!(b.length == 0) && szB (a.length + 2) && szB (Txt.split a b).length) = true then newK .cl ((Txt.split a b).map W.str) else bad) S2) (fun w H' μ' _ => ∀ v, Rp ⟨X.K, X.mg, δ⟩ H' μ' v w → Q v H') := h2
            rw [if_neg hc] at h2
            exact h2.elim
        | _ => exact h2.elim
    | _ => exact h1.elim⟩
/-- x.join(ys) of a list or a tuple of texts -/
def fJoin (S : Store) (x y : W) : Option W := match x with
  | .str a => match (itmsS S y).bind strT with
    | some ys => if decide ((ys.map (·.length)).sum + ys.length * a.length ≤ 16777216) = true then some (.str (Txt.join a ys)) else none
    | none => none
  | _ => none
def dJoin (d da : DE) : DE := fun ρ => bnd (d ρ) fun x => if isT x = true then bnd (da ρ) fun y => rdS fun S => fJoin S x y else bad
theorem de_join (ho : PD X E o d) (ha : PD X E e da) (hs : starEach [e] X.env = [(false, eval e X.env)] := by rfl) (hbase : attributeBase o "join" X.env (eval o X.env) = eval o X.env := by rfl) (hline : (apos.endLine == pos.line) = true := by rfl) : PD X E (.Call (.Attribute o "join" apos) [e] [] pos) (dJoin d da) :=
  pe_of (pe_join ho ha hs hbase hline) fun σ H Q ⟨δ, μ, S, ρ, k, s, h⟩ =>
  ⟨δ, μ, S, ρ, k, s, Res.step h fun x S1 H1 μ1 g1 k1 h1 v rv => by
    cases rv with
    | str a =>
      refine ⟨⟨a, rfl⟩, δ, μ1, S1, ρ, k1, rσ_gr g1 s, ?_⟩
      have h1 : Res ⟨X.K, X.mg, δ⟩ (E σ) H1 μ1 (bnd (da ρ) (fun y => rdS fun S => fJoin S (.str a) y) S1) (fun w H' μ' _ => ∀ v, Rp ⟨X.K, X.mg, δ⟩ H' μ' v w → Q v H') := h1
      exact Res.step h1 fun y S2 H2 μ2 g2 k2 h2 u ru => by
        obtain ⟨w, e, q⟩ := rd_ok h2
        unfold fJoin at e
        dsimp only at e
        cases e1 : itmsS S2 y with
        | none => rw [e1] at e; cases e
        | some ws =>
          rw [e1] at e
          obtain ⟨p, xs, rfl, hq, l, r⟩ := ru.seq k2 e1
          cases e2 : strT ws with
          | none => rw [Option.bind_some, e2] at e; cases e
          | some ys =>
            rw [Option.bind_some, e2] at e
            have ex := strT_ok r e2
            subst ex
            dsimp only at e
            by_cases hc : (ys.map (·.length)).sum + ys.length * a.length ≤ 16777216
            · rw [if_pos (decide_eq_true hc)] at e
              cases e
              exact ⟨a, p, ys, rfl, rfl, hq.symm, hc, q _ _ Gr.refl k2 (.str _)⟩
            · rw [if_neg (by simpa using hc)] at e
              cases e
    | _ => exact h1.elim⟩
/-- int(x) of a number, a truth or a text -/
def fIntX (S : Store) : List W → Option W
  | [.str a] => match PySem.intText? a with
    | some n => if decide (a.length ≤ 640) = true then some (.int n) else none
    | none => none
  | xs => fInt S xs
theorem call_intX : CallR X (.type "int") (fun xs H Q => ((∃ i, xs = [.int i] ∧ Q (.int i) H) ∨ ∃ k, xs = [.bl k] ∧ Q (.int (if k then 1 else 0)) H) ∨ ∃ a n, xs = [.str a] ∧ PySem.intText? a = some n ∧ a.length ≤ 640 ∧ Q (.int n) H) := fun pins s σ H xs us Q I rs z => z.elim (call_int1 pins s σ H xs us Q I rs) (call_int_str pins s σ H xs us Q I rs)
theorem fIntX_ok {K : PySem.W.Frag} {mg : Str → Option Value} : OpN K mg (fun xs H Q => ((∃ i, xs = [.int i] ∧ Q (.int i) H) ∨ ∃ k, xs = [.bl k] ∧ Q (.int (if k then 1 else 0)) H) ∨ ∃ a n, xs = [.str a] ∧ PySem.intText? a = some n ∧ a.length ≤ 640 ∧ Q (.int n) H) fIntX := by
  intro δ H μ S vs xs w Q k rs e q
  unfold fIntX at e
  split at e
  · rename_i a
    obtain ⟨v, rfl, rx⟩ := rs.one rfl
    cases rx
    cases e1 : PySem.intText? a with
    | none => rw [e1] at e; cases e
    | some n =>
      rw [e1] at e
      dsimp only at e
      by_cases hc : a.length ≤ 640
      · rw [if_pos (decide_eq_true hc)] at e
        cases e
        exact .inr ⟨a, n, rfl, e1, hc, q _ _ Gr.refl k (.int n)⟩
      · rw [if_neg (by simpa using hc)] at e
        cases e
  · exact .inl (fInt_ok k rs e q)
/-- a sign in a text -/
def fInT (_ : Store) : W → W → Option W
  | .str a, .str z => match a with
    | ⟨⟨[c]⟩⟩ => some (.bl (decide (c ∈ z.cps.toList)))
    | _ => none
  | _, _ => none
theorem fInT_ok {K : PySem.W.Frag} {mg : Str → Option Value} : Op2 K mg (fun x y H Q => ∃ (c : Nat) (z : Str), x = .str ⟨#[c]⟩ ∧ y = .str z ∧ Q (.bl (decide (c ∈ z.cps.toList))) H) fInT := by
  intro δ H μ S v u x y w Q k rx ry e q
  cases rx <;> first | (cases e; done) | skip
  cases ry <;> first | (cases e; done) | skip
  rename_i a z
  unfold fInT at e
  dsimp only at e
  split at e
  · rename_i c
    cases e
    exact ⟨c, z, rfl, rfl, q _ _ Gr.refl k (.bl _)⟩
  · cases e
end
end Den

namespace Den
open PySem PySem.Spec PyProof.Rows L2 Bal
/-! ### texts gone through, cut, asked for a sign and for their length; what is told of lists holds on -/
/-- the signs of a text -/
def sgW (x : Str) : List W := x.cps.toList.map fun c => .str ⟨#[c]⟩
def iStrD (d : DE) : DI := fun ρ => bnd (d ρ) fun w => rdI fun _ => match w with
  | .str x => if szB x.cps.toList.length = true then some (sgW x, []) else none
  | _ => none
theorem srv_str {Γ : Gm} {H0 : Hp} {μ0 : List Addr} {S0 : Store} {x : Str} (hz : x.cps.toList.length ≤ sizeLine) : Srv Γ (Its x) (sgW x) [] H0 μ0 S0 := by
  have hl : (sgW x).length = x.cps.toList.length := by unfold sgW; rw [List.length_map]
  have hs : x.cps.size = x.cps.toList.length := by simp
  refine ⟨by rw [hl]; exact hz, fun {Γ'} H μ S hK g k _ up => ?_⟩
  rw [hl]
  refine ⟨fun i hi => ⟨by show i < x.cps.size; omega, fun y H' z => ?_⟩, by show x.cps.size ≤ _; omega⟩
  obtain ⟨e, c, e2, rfl⟩ := z
  subst e
  refine ⟨.str ⟨#[c]⟩, ?_, Same.refl _, .str _⟩
  unfold sgW
  have e3 : x.cps.toList[i]? = some c := by rw [Array.getElem?_toList]; exact e2
  rw [List.getElem?_map, e3]
  rfl
section
variable {X : Cx} {E : L2.St → XK} {tg a : Expr}
theorem di_str {d : DE} (h : PD X E a d) : PI X tg a (iOf X.K X.mg E (iStrD d)) := pi_of (pi_str h) fun σ H R ⟨δ, μ, S, ρ, k, s, h⟩ =>
  ⟨δ, μ, S, ρ, k, s, Res.step h fun w S1 H1 μ1 g1 k1 h1 v rv => by
    unfold rdI at h1
    cases rv with
    | str x =>
      by_cases hz : szB x.cps.toList.length = true
      · simp only [hz, if_true] at h1
        exact ⟨x, rfl, Res.now k1 h1 (Its x) (srv_str (sz_ok hz))⟩
      · simp only [hz] at h1
        exact h1.elim
    | _ => exact h1.elim⟩
/-- x[lo:hi] of a text -/
def cutT (lo hi : Option Int) : W → Option W
  | .str z => if szB z.length = true then some (.str (cutS z lo hi)) else none
  | _ => none
def dCutT (d : DE) (l u : DO) : DE := fun ρ => bnd (d ρ) fun w => bnd (l ρ) fun lo => bnd (u ρ) fun hi => rdS fun _ => cutT lo hi w
theorem de_cutT {d : DE} {l u : DO} {lo hi : Option Expr} {p2 pos : Pos} (ha : PD X E a d) (hl : PO X lo (toOf X.K X.mg E l)) (hu : PO X hi (toOf X.K X.mg E u)) : PD X E (.Subscript a (.Slice lo hi none p2) pos) (dCutT d l u) := pe_of (pe_slice sl_str ha hl hu) fun σ H Q ⟨δ, μ, S, ρ, k, s, h⟩ =>
  ⟨δ, μ, S, ρ, k, s, Res.step h fun w S1 H1 μ1 g1 k1 h1 v rv => ⟨δ, μ1, S1, ρ, k1, rσ_gr g1 s, Res.step h1 fun lo S2 H2 μ2 g2 k2 h2 => ⟨δ, μ2, S2, ρ, k2, rσ_gr (g1.trans g2) s, Res.step h2 fun hi S3 H3 μ3 g3 k3 h3 => by
    have rv3 := rv.gr (g2.trans g3)
    obtain ⟨x, e, q⟩ := rd_ok h3
    cases rv3 with
    | str z =>
      have e : (if szB z.length = true then some (W.str (cutS z lo hi)) else none) = some x := e
      by_cases hz : szB z.length = true
      · rw [if_pos hz] at e
        cases e
        exact ⟨z, rfl, sz_ok hz, q _ _ Gr.refl k3 (.str _)⟩
      · rw [if_neg hz] at e
        cases e
    | _ => cases e⟩⟩⟩
/-- x[i] of a list, a tuple or a text -/
def fIxT (S : Store) : W → W → Option W
  | .str z, .int i => if szB z.length = true then (atI z.cps.toList i).map fun c => .str ⟨#[c]⟩ else none
  | x, y => fIx S x y
theorem ix_orT {r : R2} (h : IxR X r) : IxR X fun x y H Q => r x y H Q ∨ rIxS x y H Q := IxR.or h ix_str
theorem fIxT_ok {K : PySem.W.Frag} {mg : Str → Option Value} {r : R2} (h : Op2 K mg r fIx) : Op2 K mg (fun x y H Q => r x y H Q ∨ rIxS x y H Q) fIxT := by
  intro δ H μ S v u x y w Q k rx ry e q
  unfold fIxT at e
  split at e
  · rename_i z i
    cases rx
    cases ry
    by_cases hz : szB z.length = true
    · rw [if_pos hz] at e
      cases e1 : atI z.cps.toList i with
      | none => rw [e1] at e; cases e
      | some c =>
        rw [e1] at e
        cases e
        exact .inr ⟨z, i, c, rfl, rfl, sz_ok hz, e1, q _ _ Gr.refl k (.str _)⟩
    · rw [if_neg hz] at e
      cases e
  · exact .inl (h k rx ry e q)
/-- len of a list, a tuple or a text -/
def fLenT (S : Store) : List W → Option W
  | [.str z] => if szB z.length = true then some (.int (z.length : Nat)) else none
  | xs => fLen S xs
theorem call_lenT : CallR X (.builtin "len") (fun xs H Q => (∃ p ys, xs = [.ref p] ∧ (SqL X.K H p ys ∨ SqT X.K H p ys) ∧ Q (.int ys.length) H) ∨ ∃ z, xs = [.str z] ∧ z.length ≤ sizeLine ∧ Q (.int z.length) H) := fun pins s σ H xs us Q I rs z => z.elim (call_len_seq pins s σ H xs us Q I rs) (call_len_str pins s σ H xs us Q I rs)
theorem fLenT_ok {K : PySem.W.Frag} {mg : Str → Option Value} : OpN K mg (fun xs H Q => (∃ p ys, xs = [.ref p] ∧ (SqL K H p ys ∨ SqT K H p ys) ∧ Q (.int ys.length) H) ∨ ∃ z, xs = [.str z] ∧ z.length ≤ sizeLine ∧ Q (.int z.length) H) fLenT := by
  intro δ H μ S vs xs w Q k rs e q
  unfold fLenT at e
  split at e
  · rename_i z
    obtain ⟨v, rfl, rx⟩ := rs.one rfl
    cases rx
    by_cases hz : szB z.length = true
    · rw [if_pos hz] at e
      cases e
      exact .inr ⟨z, rfl, sz_ok hz, q _ _ Gr.refl k (.int _)⟩
    · rw [if_neg hz] at e
      cases e
  · exact .inl (fLen_ok k rs e q)
end
end Den

namespace Den
open PySem PySem.Spec PyProof.Rows L2 Bal
/-! ### max(xs, default=d) of a list of numbers -/
def rMaxDf (K : PySem.W.Frag) : List V → List V → Hp → VK → Prop := fun vs zs H Q => ∃ (a : Addr) (ns : List Int) (d : V), vs = [V.ref a] ∧ zs = [d] ∧ SqL K H a (ns.map V.int) ∧ (ns = [] → Q d H) ∧ ∀ n l, ns = n :: l → Q (.int (l.foldl max n)) H
section
variable {X : Cx} {E : L2.St → XK} {e : Expr} {es : List Expr} {kws : List Keyword} {p pos : Pos} {d dk : DA}
theorem cr_maxDf (hc : X.calm = true) (hu : X.A.units + 1 < cLine) : CallRK X (.builtin "max") [Str.ofString "default"] (rMaxDf X.K) := by
  intro pins s σ H vs zs us ws Q I r rz h
  obtain ⟨a, ns, d, rfl, rfl, hs, q0, q1⟩ := h
  obtain ⟨its, rv, hl, hz⟩ := I.list hs
  rw [Vals.ref1 r]
  obtain ⟨w1, rfl, e1⟩ := vals1 rz
  obtain ⟨as, hr⟩ := Dp.readsAll I (ns.map PyData.int) _ _ (dps_ints ns) rv
  show wpAny _ _ (call (.builtin "max") [.ref a] [(Str.ofString "default", w1)]) _ _ _
  refine PySem.W.max_list_default (I.ok.hd hc) (show s.heap.IsList a its.toArray from hl.isList) hr (PySem.W.alikeAll_datum ns) (by rw [dep_ints]; exact hu) (fun e h' tk hk => ⟨d, H, I.kept hk, e1, q0 (List.map_eq_nil_iff.mp e)⟩) fun z zs i v h' tk bs e hi rd hk => ?_
  cases ns with
  | nil => cases e
  | cons n ns =>
    rw [List.map_cons] at e
    injection e with e1 e2
    subst e1
    subst e2
    rw [PySem.W.maxD_ints] at rd
    obtain ⟨t, rfl⟩ := reads_int rd
    exact ⟨.int _, H, I.kept hk, ⟨_, rfl⟩, q1 n ns rfl⟩
def fMaxDf (S : Store) : List W → List W → Option W
  | [x], [y] => match (lstS S x).bind inT with
    | some [] => some y
    | some (n :: l) => some (.int (l.foldl max n))
    | none => none
  | _, _ => none
def dMaxDf (d dk : DA) : DE := fun ρ => bnd (d ρ) fun us => bnd (dk ρ) fun ws => rdS fun S => fMaxDf S us ws
theorem de_maxDf (hc : X.calm = true) (hu : X.A.units + 1 < cLine) (hg : Gl X "max") (hm : X.mg "max" = none) (ha : PDA X E (e :: es) d) (hk : PDK X E kws dk)
    (he : backTo pos (starEach (e :: es) X.env) = (false, eval e X.env) :: backTo pos (starEach es X.env) := by rfl) (hpl : (backTo pos (starEach (e :: es) X.env)).any (·.1) = false := by rfl)
    (hall : (backToKw pos (keywordEach kws X.env)).all (·.1.isSome) = true := by rfl) (hnone : (backToKw pos (keywordEach kws X.env)).any (·.1.isNone) = false := by rfl) (hks : (backToKw pos (keywordEach kws X.env)).filterMap (·.1) = [Str.ofString "default"] := by rfl) :
    PD X E (.Call (.Name "max" p) (e :: es) kws pos) (dMaxDf d dk) := pe_of (pe_callBK (cr_maxDf hc hu) hg hm (by decide +kernel) ha hk (by decide) (by decide) he hpl hall hnone hks) fun σ H Q ⟨δ, μ, S, ρ, k, s, h⟩ =>
  ⟨δ, μ, S, ρ, k, s, Res.step h fun us S1 H1 μ1 g1 k1 h1 vs rs => ⟨δ, μ1, S1, ρ, k1, rσ_gr g1 s, Res.step h1 fun ws S2 H2 μ2 g2 k2 h2 zs rz => by
    obtain ⟨w, ew, q⟩ := rd_ok h2
    unfold fMaxDf at ew
    split at ew
    · rename_i x y
      obtain ⟨v, rfl, rx⟩ := (rs.gr g2).one rfl
      obtain ⟨u, rfl, ru⟩ := rz.one rfl
      cases e1 : lstS S2 x with
      | none => rw [e1] at ew; cases ew
      | some xs =>
        rw [e1, Option.bind_some] at ew
        cases e2 : inT xs with
        | none => rw [e2] at ew; cases ew
        | some ns =>
          rw [e2] at ew
          obtain ⟨a, ys, rfl, hh, hl, r⟩ := rx.lstS k2 e1
          obtain ⟨rfl, _⟩ := inT_ok r e2
          refine ⟨a, ns, u, rfl, rfl, .inl (.inl hh), fun en => ?_, fun n l en => ?_⟩
          · subst en
            cases ew
            exact q _ _ Gr.refl k2 ru
          · subst en
            cases ew
            exact q _ _ Gr.refl k2 (.int _)
    · cases ew⟩⟩
end
end Den

namespace Den
open PySem PySem.Spec PyProof.Rows L2 Bal
def topS (i : Nat) : Stmt := PySem.Challenge.pw_balconyrow_k72_houses_as_texts.main.body.getD i (.Pass ⟨0, 0, 0, 0⟩)
def c_FIGURES : W := (.str "0123456789")
def c_MOST_FIGURES : W := (.int 10)
def errs : List Str := ["Known", "BadText", "BadRow"]
def up_ValueError (c : Str) : Bool := List.contains (α := Str) ["Known", "BadText", "BadRow"] c
def d_law_pot : DS := (sSeq (sSet 2 (dC (.int 0))) (sSeq (sIf (dTst (dBin (fCmp pLt) (dVar 1) (dCallN fLen (dCons (dVar 0) dNil)))) (sSet 2 (dBin fIx (dVar 0) (dVar 1))) sNil) (sRet (dLst (dCons (dBin fMul (dCallN fAbs (dCons (dVar 2) dNil)) (dCallN fInt (dCons (dBin (fCmp pGe) (dCallN fAbs (dCons (dVar 2) dNil)) (dBin fPow (dC (.int 10)) (dC (.int 18)))) dNil))) (dCons (dBin fMod (dBin fMul (dBin fAdd (dBin fAdd (dBin fMod (dVar 2) (dC (.int 2147483587))) (dBin fMul (dC (.int 104729)) (dVar 1))) (dC (.int 29))) (dC (.int 40692))) (dC (.int 2147483399))) (dCons (dC (.int 0)) dNil)))))))
def g_law_pot : List W → Mo W := fnW 3 d_law_pot
def d_law_take (rec_ : List W → Mo W) : DS := (sSeq (sIf (dTst (dBin (fCmp pGt) (dBin fIx (dVar 0) (dC (.int 0))) (dC (.int 0)))) (sSeq (sSet 2 (dBin fMod (dBin fIx (dVar 0) (dC (.int 0))) (dVar 1))) (sSeq (sAsgM (gPut (dVar 0) (dC (.int 0))) (dBin fDiv (dBin fIx (dVar 0) (dC (.int 0))) (dVar 1))) (sRet (dVar 2)))) sNil) (sSeq (sIf (dTst (dBin (fCmp pGt) (dVar 1) (dBin fPow (dC (.int 10)) (dC (.int 7))))) (sRet (dBin fMod (dBin fAdd (dCall 2 rec_ (dCons (dVar 0) (dCons (dBin fPow (dC (.int 10)) (dC (.int 7))) dNil))) (dBin fMul (dBin fPow (dC (.int 10)) (dC (.int 7))) (dCall 2 rec_ (dCons (dVar 0) (dCons (dBin fAdd (dBin fDiv (dVar 1) (dBin fPow (dC (.int 10)) (dC (.int 7)))) (dC (.int 1))) dNil))))) (dVar 1))) sNil) (sSeq (sAsgM (gPut (dVar 0) (dC (.int 2))) (dBin fAdd (dBin fIx (dVar 0) (dC (.int 2))) (dC (.int 1)))) (sSeq (sSet 3 (dBin fMod (dBin fPow (dBin fAdd (dBin fIx (dVar 0) (dC (.int 1))) (dBin fMul (dC (.int 52774)) (dBin fIx (dVar 0) (dC (.int 2))))) (dC (.int 3))) (dC (.int 2147483563)))) (sRet (dBin fMod (dBin fDiv (dBin fMod (dBin fAdd (dBin fMul (dVar 3) (dBin fAdd (dBin fMod (dVar 3) (dC (.int 40013))) (dC (.int 11)))) (dBin fMul (dBin fIx (dVar 0) (dC (.int 2))) (dC (.int 6089)))) (dC (.int 2147483647))) (dC (.int 32))) (dVar 1)))))))
def g_law_take : Nat → List W → Mo W
  | 0 => fun _ _ => .bad
  | n + 1 => fnW 4 (d_law_take (g_law_take n))
def d_law_floors : DS := (sSeq (sAsg (.tp [.nm 2, .nm 3]) (dTup (dCons (dCall 2 (g_law_take 6) (dCons (dVar 0) (dCons (dC (.int 5)) dNil))) (dCons (dLst dNil) dNil)))) (sSeq (sIf (dTst (dBin fEq (dVar 2) (dC (.int 1)))) (sRet (dCl (dCons (dBin fAdd (dC (.int 1)) (dCall 2 (g_law_take 6) (dCons (dVar 0) (dCons (dVar 1) dNil)))) dNil))) sNil) (sSeq (sFor (iRg2 (dCons (dC (.int 1)) (dCons (dBin fAdd (dVar 1) (dC (.int 1))) dNil))) (.nm 4) (sIf (dOrT (dTst (dBin fEq (dVar 2) (dC (.int 4)))) (dAndT (dTst (dBin (fCmp pGt) (dVar 2) (dC (.int 1)))) (dTst (dBin fEq (dCall 2 (g_law_take 6) (dCons (dVar 0) (dCons (dVar 2) dNil))) (dC (.int 0)))))) (sDrop (dMth fAppend (dVar 3) (dCons (dVar 4) dNil))) sNil)) (sRet (dVar 3)))))
def g_law_floors : List W → Mo W := fnW 5 d_law_floors
def d_law_homes : DS := (sRet (dTup (dCons (dCallN fTuple (dCons (dCall 2 g_law_floors (dCons (dVar 0) (dCons (dVar 1) dNil))) dNil)) (dCons (dCallN fTuple (dCons (dCall 2 g_law_floors (dCons (dVar 0) (dCons (dVar 1) dNil))) dNil)) dNil))))
def g_law_homes : List W → Mo W := fnW 2 d_law_homes
def d_houses_text : DS := (sSeq (sAsg (.tp [(.nm 1), (.nm 2)]) (dVar 0)) (sRet (dJoin (dC (.str " ")) (dBin fAdd (dBin fAdd (dLc .cl [3] (iSeq (dVar 1)) (.nm 3) dYes (dCallN fStr (dCons (dVar 3) dNil))) (dCl (dCons (dC (.str ":")) dNil))) (dLc .cl [3] (iSeq (dVar 2)) (.nm 3) dYes (dCallN fStr (dCons (dVar 3) dNil)))))))
def g_houses_text : List W → Mo W := fnW 4 d_houses_text
def d_law_lists (rec_ : List W → Mo W) : DS := (sRet (dIf (dTst (dIs kSeq (dVar 0))) (dLc .cl [1] (iSeq (dVar 0)) (.nm 1) dYes (dCall 1 rec_ (dCons (dVar 1) dNil))) (dVar 0)))
def g_law_lists : Nat → List W → Mo W
  | 0 => fun _ _ => .bad
  | n + 1 => fnW 2 (d_law_lists (g_law_lists n))
def d_number_in : DS := (sSeq (sSet 1 (dIf (dTst (dStarts (dVar 0) (dC (.str "-")))) (dCutT (dVar 0) (oSome (dC (.int 1))) oNone) (dVar 0))) (sSeq (sIf (dOrT (dNotT (dTst (dChain (fCmp pLe) (fCmp pLe) (dC (.int 1)) (dCallN fLenT (dCons (dVar 1) dNil)) (dC c_MOST_FIGURES)))) (dNotT (dTst (dCallN fAll (dCons (dLc .cl [2] (iStrD (dVar 1)) (.nm 2) dYes (dBin fInT (dVar 2) (dC c_FIGURES))) dNil))))) (sRet (dC .non)) sNil) (sSeq (sIf (dAndT (dTst (dBin fEq (dBin fIxT (dVar 1) (dC (.int 0))) (dC (.str "0")))) (dTst (dBin fNe (dVar 0) (dC (.str "0"))))) (sRet (dC .non)) sNil) (sRet (dCallN fIntX (dCons (dVar 0) dNil))))))
def g_number_in : List W → Mo W := fnW 3 d_number_in
def d_houses_in : DS := (sSeq (sSet 1 (dLst (dCons (dLst dNil) dNil))) (sSeq (sSet 2 (dSplit (dVar 0) (dC (.str " ")))) (sSeq (sFor (iEnu (dCons (dVar 2) dNil)) (.tp [(.nm 3), (.nm 4)]) (sSeq (sIf (dAndT (dTst (dBin fEq (dVar 4) (dC (.str ":")))) (dTst (dBin fEq (dCallN fLen (dCons (dVar 1) dNil)) (dC (.int 1))))) (sSeq (sDrop (dMth fAppend (dVar 1) (dCons (dLst dNil) dNil))) sCont) sNil) (sSeq (sSet 5 (dCall 1 g_number_in (dCons (dVar 4) dNil))) (sSeq (sIf (dOrT (dTst (dBin fIs (dVar 5) (dC .non))) (dTst (dBin (fCmp pLe) (dVar 5) (dMaxDf (dCons (dBin fIx (dVar 1) (dUn fNeg (dC (.int 1)))) dNil) (dCons (dC (.int 0)) dNil))))) (sRaise "BadText" "at" (dVar 3)) sNil) (sDrop (dMth fAppend (dBin fIx (dVar 1) (dUn fNeg (dC (.int 1)))) (dCons (dVar 5) dNil))))))) (sSeq (sIf (dTst (dBin fEq (dCallN fLen (dCons (dVar 1) dNil)) (dC (.int 1)))) (sRaise "BadText" "at" (dCallN fLen (dCons (dVar 2) dNil))) sNil) (sRet (dTup (dCons (dCallN fTuple (dCons (dBin fIx (dVar 1) (dC (.int 0))) dNil)) (dCons (dCallN fTuple (dCons (dBin fIx (dVar 1) (dC (.int 1))) dNil)) dNil))))))))
def g_houses_in : List W → Mo W := fnW 6 d_houses_in
def d_law_same (rec_ : List W → Mo W) : DS := (sSeq (sIf (dTst (dIs kSeq (dVar 1))) (sSeq (sIf (dOrT (dTst (dBin fNe (dIs kLst (dVar 0)) (dIs kLst (dVar 1)))) (dTst (dBin fNe (dIs kTup (dVar 0)) (dIs kTup (dVar 1))))) (sRet (dC (.bl false))) sNil) (sRet (dAnd (dBin fEq (dCallN fLen (dCons (dVar 0) dNil)) (dCallN fLen (dCons (dVar 1) dNil))) (dCallN fAll (dCons (dLc .cl [2, 3] (iZip 2 (dCons (dVar 0) (dCons (dVar 1) dNil))) (.tp [(.nm 2), (.nm 3)]) dYes (dCall 2 rec_ (dCons (dVar 2) (dCons (dVar 3) dNil)))) dNil))))) sNil) (sSeq (sIf (dOrT (dTst (dBin fIs (dVar 1) (dC .non))) (dTst (dIs kStr (dVar 1)))) (sRet (dAnd (dBin fEq (dVar 0) (dVar 1)) (dBin fEq (dIs kStr (dVar 0)) (dIs kStr (dVar 1))))) sNil) (sRet (dAnd (dIs kInt (dVar 0)) (dAnd (dBin fEq (dIs kBool (dVar 0)) (dIs kBool (dVar 1))) (dBin fEq (dVar 0) (dVar 1)))))))
def g_law_same : Nat → List W → Mo W
  | 0 => fun _ _ => .bad
  | n + 1 => fnW 4 (d_law_same (g_law_same n))
def d_law_pick : DS := (sRet (dBin fIxT (dVar 1) (dCall 2 (g_law_take 6) (dCons (dVar 0) (dCons (dCallN fLenT (dCons (dVar 1) dNil)) dNil)))))
def g_law_pick : List W → Mo W := fnW 2 d_law_pick
def d_law_signs_bent : DS := (sSeq (sAsg (.tp [.nm 2, .nm 3]) (dTup (dCons (dCall 2 (g_law_take 6) (dCons (dVar 0) (dCons (dBin fAdd (dCallN fLenT (dCons (dVar 1) dNil)) (dC (.int 1))) dNil))) (dCons (dCall 2 (g_law_take 6) (dCons (dVar 0) (dCons (dC (.int 7)) dNil))) dNil)))) (sSeq (sAsg (.tp [.nm 4, .nm 5]) (dTup (dCons (dCall 2 g_law_pick (dCons (dVar 0) (dCons (dC (.str "0123456789 -:+_.a")) dNil))) (dCons (dSplit (dVar 1) (dC (.str " "))) dNil)))) (sSeq (sIf (dTst (dBin fEq (dVar 3) (dC (.int 0)))) (sRet (dBin fCatS (dBin fCatS (dCutT (dVar 1) oNone (oSome (dVar 2))) (dVar 4)) (dCutT (dVar 1) (oSome (dVar 2)) oNone))) sNil) (sSeq (sIf (dTst (dBin fEq (dVar 3) (dC (.int 1)))) (sRet (dBin fCatS (dCutT (dVar 1) oNone (oSome (dVar 2))) (dCutT (dVar 1) (oSome (dBin fAdd (dVar 2) (dC (.int 1)))) oNone))) sNil) (sSeq (sIf (dTst (dBin fEq (dVar 3) (dC (.int 2)))) (sRet (dBin fCatS (dBin fCatS (dCutT (dVar 1) oNone (oSome (dVar 2))) (dVar 4)) (dCutT (dVar 1) (oSome (dBin fAdd (dVar 2) (dC (.int 1)))) oNone))) sNil) (sSeq (sSet 6 (dCall 2 (g_law_take 6) (dCons (dVar 0) (dCons (dCallN fLen (dCons (dVar 5) dNil)) dNil)))) (sSeq (sIf (dTst (dBin fEq (dVar 3) (dC (.int 3)))) (sRet (dJoin (dC (.str " ")) (dBin fAdd (dCut .cl (dVar 5) oNone (oSome (dVar 6))) (dCut .cl (dVar 5) (oSome (dBin fAdd (dVar 6) (dC (.int 1)))) oNone)))) sNil) (sSeq (sIf (dTst (dBin fEq (dVar 3) (dC (.int 4)))) (sRet (dJoin (dC (.str " ")) (dBin fAdd (dCut .cl (dVar 5) oNone (oSome (dBin fAdd (dVar 6) (dC (.int 1))))) (dCut .cl (dVar 5) (oSome (dVar 6)) oNone)))) sNil) (sRet (dJoin (dC (.str " ")) (dBin fAdd (dBin fAdd (dCut .cl (dVar 5) oNone (oSome (dVar 6))) (dRev .cl (dCut .cl (dVar 5) (oSome (dVar 6)) (oSome (dBin fAdd (dVar 6) (dC (.int 2))))))) (dCut .cl (dVar 5) (oSome (dBin fAdd (dVar 6) (dC (.int 2)))) oNone))))))))))))
def g_law_signs_bent : List W → Mo W := fnW 7 d_law_signs_bent
def d_law_read : DS := (sSeq (sAsg (.tp [(.nm 1), (.nm 2)]) (dTup (dCons (dC .non) (dCons (dC .non) dNil)))) (sSeq (sTry errs ["BadRow", "BadText", "Known"] 3 2 (sSet 1 (dCall 1 g_houses_in (dCons (dVar 0) dNil)))) (sSeq (sIf (dTst (dBin fIs (dVar 2) (dC .non))) (sRet (dVar 1)) sNil) (sSeq (sSet 4 (dAnd (dIsX errs (fun c => decide (c = "BadText")) (dVar 2)) (dAnd (dIsX errs up_ValueError (dVar 2)) (dNot (dIsX errs (fun c => List.contains (α := Str) ["BadRow", "Known"] c) (dVar 2)))))) (sRet (dIf (dTst (dVar 4)) (dFld errs "at" (dVar 2)) (dC .non)))))))
def g_law_read : List W → Mo W := fnW 5 d_law_read
def d_law_is_plain : DS := (sSeq (sIf (dOrT (dTst (dBin fEq (dVar 0) (dC (.str "")))) (dOrT (dTst (dBin (fCmp pGt) (dCallN fLenT (dCons (dVar 0) dNil)) (dC (.int 10)))) (dTst (dBin fNe (dStripC (dVar 0) (dC (.str "0123456789"))) (dC (.str "")))))) (sRet (dC (.bl false))) sNil) (sRet (dAnd (dBin fEq (dCallN fStr (dCons (dCallN fIntX (dCons (dVar 0) dNil)) dNil)) (dVar 0)) (dBin (fCmp pGe) (dCallN fIntX (dCons (dVar 0) dNil)) (dVar 1)))))
def g_law_is_plain : List W → Mo W := fnW 2 d_law_is_plain
def d_law_homes_in : DS := (sSeq (sAsg (.tp [.nm 1, .nm 2]) (dTup (dCons (dLst (dCons (dLst dNil) dNil)) (dCons (dSplit (dVar 0) (dC (.str " "))) dNil)))) (sSeq (sFor (iEnu (dCons (dVar 2) dNil)) (.tp [(.nm 3), (.nm 4)]) (sSeq (sSet 5 (dIf (dTst (dBin fNe (dBin fIx (dVar 1) (dUn fNeg (dC (.int 1)))) (dCl dNil))) (dBin fAdd (dBin fIx (dBin fIx (dVar 1) (dUn fNeg (dC (.int 1)))) (dUn fNeg (dC (.int 1)))) (dC (.int 1))) (dC (.int 1)))) (sIf (dAndT (dTst (dBin fEq (dVar 4) (dC (.str ":")))) (dTst (dBin fEq (dCallN fLen (dCons (dVar 1) dNil)) (dC (.int 1))))) (sDrop (dMth fAppend (dVar 1) (dCons (dLst dNil) dNil))) (sIf (dNotT (dTst (dCall 2 g_law_is_plain (dCons (dVar 4) (dCons (dVar 5) dNil))))) (sRet (dVar 3)) (sDrop (dMth fAppend (dBin fIx (dVar 1) (dUn fNeg (dC (.int 1)))) (dCons (dCallN fIntX (dCons (dVar 4) dNil)) dNil))))))) (sRet (dIf (dTst (dBin fEq (dCallN fLen (dCons (dVar 1) dNil)) (dC (.int 2)))) (dTup (dCons (dCallN fTuple (dCons (dBin fIx (dVar 1) (dC (.int 0))) dNil)) (dCons (dCallN fTuple (dCons (dBin fIx (dVar 1) (dC (.int 1))) dNil)) dNil))) (dCallN fLen (dCons (dVar 2) dNil))))))
def g_law_homes_in : List W → Mo W := fnW 6 d_law_homes_in
def d_law_right : DS := (sSeq (sSet 1 (dCall 2 g_law_homes (dCons (dVar 0) (dCons (dBin fAdd (dC (.int 1)) (dCall 2 (g_law_take 6) (dCons (dVar 0) (dCons (dC (.int 30)) dNil)))) dNil)))) (sSeq (sSet 2 (dLc .cl [4] (iSeq (dVar 1)) (.nm 4) dYes (dJoin (dC (.str " ")) (dLc .cl [3] (iSeq (dVar 4)) (.nm 3) dYes (dCallN fStr (dCons (dVar 3) dNil)))))) (sSeq (sSet 5 (dJoin (dC (.str " ")) (dLc .cl [4] (iSeq (dCl (dCons (dBin fIx (dVar 2) (dC (.int 0))) (dCons (dC (.str ":")) (dCons (dBin fIx (dVar 2) (dC (.int 1))) dNil))))) (.nm 4) (dTst (dBin fNe (dVar 4) (dC (.str "")))) (dVar 4)))) (sSeq (sSet 6 (dCl (dCons (dCall 1 g_houses_text (dCons (dVar 1) dNil)) (dCons (dCallK 1 1 [0] g_houses_text (dCons (dCall 1 (g_law_lists 6) (dCons (dVar 1) dNil)) dNil)) (dCons (dCall 1 g_houses_in (dCons (dVar 5) dNil)) (dCons (dCallK 1 1 [0] g_houses_in (dCons (dVar 5) dNil)) dNil)))))) (sSeq (sIf (dNotT (dTst (dCall 2 (g_law_same 16) (dCons (dVar 6) (dCons (dCl (dCons (dVar 5) (dCons (dVar 5) (dCons (dVar 1) (dCons (dVar 1) dNil))))) dNil))))) (sRet (dC (.bl false))) sNil) (sSeq (sSet 7 (dCl (dCons (dC (.str "")) (dCons (dC (.str ":")) (dCons (dC (.str " :")) (dCons (dC (.str ": ")) (dCons (dC (.str "1")) (dCons (dC (.str "1 2")) (dCons (dC (.str "1 : 2")) (dCons (dC (.str "1:2")) (dCons (dC (.str "1 :2")) (dCons (dC (.str ": :")) (dCons (dC (.str "1 : : 2")) (dCons (dC (.str "2 1 :")) dNil)))))))))))))) (sSeq (sSet 7 (dBin fAdd (dVar 7) (dCl (dCons (dC (.str "1 1 :")) (dCons (dC (.str ": 2 1")) (dCons (dC (.str ": 1 1")) dNil)))))) (sSeq (sSet 7 (dBin fAdd (dVar 7) (dCl (dCons (dC (.str "0 :")) (dCons (dC (.str ": 0")) (dCons (dC (.str "-1 :")) (dCons (dC (.str "01 :")) (dCons (dC (.str "1  : 2")) (dCons (dC (.str "a :")) (dCons (dC (.str "3 : 1 2 3")) (dCons (dC (.str "1 : 2\n")) (dCons (dC (.str ":\n")) (dCons (dC (.str ": 9999999999")) dNil))))))))))))) (sSeq (sSet 7 (dBin fAdd (dVar 7) (dCl (dCons (dC (.str ": 99999999999")) (dCons (dC (.str "1 : x 2 1")) dNil))))) (sSeq (sSet 7 (dBin fAdd (dVar 7) (dLc .cl [8] (iRg1 (dCons (dC (.int 12)) dNil)) (.nm 8) dYes (dCall 2 g_law_signs_bent (dCons (dVar 0) (dCons (dVar 5) dNil)))))) (sRet (dCallN fAll (dCons (dLc .cl [9] (iSeq (dVar 7)) (.nm 9) dYes (dCall 2 (g_law_same 16) (dCons (dCall 1 g_law_read (dCons (dVar 9) dNil)) (dCons (dCall 1 g_law_homes_in (dCons (dVar 9) dNil)) dNil)))) dNil)))))))))))))
def g_law_right : List W → Mo W := fnW 10 d_law_right
def d_law : DS := (sSeq (sFor (iRg1 (dCons (dCallN fMax2 (dCons (dC (.int 1)) (dCons (dCallN fMin2 (dCons (dC (.int 3)) (dCons (dCallN fLen (dCons (dVar 0) dNil)) dNil))) dNil))) dNil)) (.nm 1) (sSeq (sSet 2 (dCall 2 g_law_pot (dCons (dVar 0) (dCons (dVar 1) dNil)))) (sIf (dNotT (dTst (dCallN fAll (dCons (dLc .cl [3] (iRg1 (dCons (dC (.int 2)) dNil)) (.nm 3) dYes (dCall 1 g_law_right (dCons (dVar 2) dNil))) dNil)))) (sRet (dC (.bl false))) sNil))) (sRet (dC (.bl true))))
def g_law : List W → Mo W := fnW 4 d_law
end Den

namespace Den
open PySem PySem.Spec PyProof.Rows L2 Bal
section
@[simp] theorem fLenT_cl {S : Store} {ws : List W} : fLenT S [.cl ws] = fLen S [.cl ws] := rfl
@[simp] theorem fLenT_tup {S : Store} {ws : List W} : fLenT S [.tup ws] = fLen S [.tup ws] := rfl
@[simp] theorem fIxT_cl {S : Store} {ws : List W} {x : W} : fIxT S (.cl ws) x = fIx S (.cl ws) x := rfl
@[simp] theorem fIxT_tup {S : Store} {ws : List W} {x : W} : fIxT S (.tup ws) x = fIx S (.tup ws) x := rfl
end

section
variable {S : Store}
def Rw (w : W) (r : List Int) : Prop := w = .tup (iW r) ∨ w = .cl (iW r)
theorem Rw.t (r : List Int) : Rw (.tup (iW r)) r := .inl rfl
theorem Rw.l (r : List Int) : Rw (.cl (iW r)) r := .inr rfl
theorem Rw.sq {w : W} {r : List Int} (h : Rw w r) (S : Store) : seqI S w = some (iW r, []) := by rcases h with rfl | rfl <;> rfl
def ahead (r : List Int) (w : Int) : Nat := tb (r.take (r.idxOf w)) w
def behind (r : List Int) (w : Int) : Nat := tb (r.drop (r.idxOf w)) w
abbrev homes (fl fr : List Int) : W := .tup [.tup (iW fl), .tup (iW fr)]
def Hm (w : W) (fl fr : List Int) : Prop := ∃ x y, (w = .tup [x, y] ∨ w = .cl [x, y]) ∧ Rw x fl ∧ Rw y fr
theorem Hm.t (fl fr : List Int) : Hm (homes fl fr) fl fr := ⟨_, _, .inl rfl, .t fl, .t fr⟩
end


section
variable {S : Store}
/-- those at a place and the next exchanged -/
def sw (r : List Int) (k : Nat) : List Int := r.take k ++ [r[k + 1]?.getD 0, r[k]?.getD 0] ++ r.drop (k + 2)
end

end Den

namespace Den
open PySem PySem.Spec PyProof.Rows L2 Bal
section
variable {S : Store}
theorem iW_at (r : List Int) (k : Nat) (h : k < r.length) : atI (iW r) (k : Int) = some (.int (r[k]?.getD 0)) := by
  unfold atI ixN
  rw [iW_len, if_pos (by omega), if_pos (by omega)]
  simp [iW, List.getElem?_eq_getElem h]
/-- what is drawn from -/
def PotL (p : List W) (c : Int) : Prop := ∃ x0 x1 x2 : Int, p = [.int x0, .int x1, .int x2] ∧ 0 ≤ x0 ∧ 0 ≤ x1 ∧ x1 < 2147483399 ∧ 0 ≤ x2 ∧ x2 ≤ c
theorem PotL.mono {p : List W} {c d : Int} (h : PotL p c) (hcd : c ≤ d) : PotL p d := by
  obtain ⟨x0, x1, x2, e, h0, h1, h2, h3, h4⟩ := h
  exact ⟨x0, x1, x2, e, h0, h1, h2, h3, by omega⟩
def fnR : Out Fl → Out W
  | .ok (.rt w) S' => .ok w S'
  | .ok (.nx _) S' => .ok .non S'
  | .ok (.er c f us _) S' => .err c f us S'
  | _ => .bad
theorem fnW_R (N : Nat) (d : DS) (ws : List W) : fnW N d ws S = fnR (d (ws.map some ++ List.replicate (N - ws.length) none) S) := rfl
theorem mulL {i j : Int} (h1 : -(2 ^ 64) < i) (h2 : i < 2 ^ 64) : fMul S (.int i) (.int j) = some (.int (i * j)) := by
  have : mulB i j = true := by
    unfold mulB
    rw [decide_eq_true h1, decide_eq_true h2]
    rfl
  simp [fMul, this]
theorem mulR {i j : Int} (h1 : -(2 ^ 64) < j) (h2 : j < 2 ^ 64) : fMul S (.int i) (.int j) = some (.int (i * j)) := by
  have : mulB i j = true := by
    unfold mulB
    rw [decide_eq_true h1, decide_eq_true h2]
    simp
  simp [fMul, this]
theorem modP {i j : Int} (h : 0 < j) : fMod S (.int i) (.int j) = some (.int (i % j)) := by simp [fMod, h]
theorem divP {i j : Int} (h : 0 < j) (h2 : j < 1073741824) : fDiv S (.int i) (.int j) = some (.int (i / j)) := by simp [fDiv, h, h2]
theorem pow3 {i : Int} (h : i.natAbs < 2 ^ 64) : fPow S (.int i) (.int 3) = some (.int (i ^ 3)) := by
  have : decide ((0 : Int) ≤ 3 ∧ (3 : Int) ≤ 1000000 ∧ i.natAbs < 2 ^ 64) = true := decide_eq_true ⟨by decide, by decide, h⟩
  show (if decide ((0 : Int) ≤ 3 ∧ (3 : Int) ≤ 1000000 ∧ i.natAbs < 2 ^ 64) = true then some (W.int (i ^ (3 : Int).toNat)) else none) = _
  rw [if_pos this]
  rfl
theorem pow7 : fPow S (.int 10) (.int 7) = some (.int 10000000) := rfl
theorem pow18 : fPow S (.int 10) (.int 18) = some (.int 1000000000000000000) := rfl
theorem at0 (x y z : W) : atI [x, y, z] 0 = some x := rfl
theorem at1 (x y z : W) : atI [x, y, z] 1 = some y := rfl
theorem at2 (x y z : W) : atI [x, y, z] 2 = some z := rfl
theorem v_take {n : Nat} {c b : Int} {p : List W} (e : S[n]? = some p) (hp : PotL p c) (hc : c ≤ 1000000) (h0 : 0 < b) (h1 : b ≤ 10000000) (m : Nat) : ∃ (r : Int) (p' : List W), g_law_take (m + 1) [.lst n, .int b] S = .ok (.int r) (S.set n p') ∧ 0 ≤ r ∧ r < b ∧ PotL p' (c + 1) := by
  obtain ⟨x0, x1, x2, ep, p0, p1, p2, p3, p4⟩ := hp
  subst ep
  have hn : n < S.length := (List.getElem?_eq_some_iff.mp e).1
  have nb : ¬ (10000000 : Int) < b := by omega
  have i0 : ixN 3 0 = some 0 := rfl
  have i2 : ixN 3 2 = some 2 := rfl
  show ∃ (r : Int) (p' : List W), fnW 4 (d_law_take (g_law_take m)) [.lst n, .int b] S = _ ∧ _
  by_cases hx : 0 < x0
  · refine ⟨x0 % b, [.int (x0 / b), .int x1, .int x2], ?_, Int.emod_nonneg _ (by omega), Int.emod_lt_of_pos _ h0, ⟨x0 / b, x1, x2, rfl, Int.ediv_nonneg p0 (by omega), p1, p2, p3, by omega⟩⟩
    simp [d_law_take, fnW, sSeq, sIf, sRet, sSet, sAsg, sNil, lft, dTst, dBin, dVar, dC, bnd, ret, rdS, fCmp, pGt_ap, toB, fIx, ixW, itmsS, e, at0, hx, modP h0, divP h0 (show b < 1073741824 by omega), setT, sAsgM, gPut, putW, i0]
  · have hw : (x1 + 52774 * (x2 + 1)).natAbs < 2 ^ 64 := by omega
    generalize hq : (x1 + 52774 * (x2 + 1)) ^ 3 % 2147483563 = q
    have q0 : 0 ≤ q := by rw [← hq]; exact Int.emod_nonneg _ (by decide)
    have q1 : q < 2147483563 := by rw [← hq]; exact Int.emod_lt_of_pos _ (by decide)
    refine ⟨(q * (q % 40013 + 11) + (x2 + 1) * 6089) % 2147483647 / 32 % b, [.int x0, .int x1, .int (x2 + 1)], ?_, Int.emod_nonneg _ (by omega), Int.emod_lt_of_pos _ h0, ⟨x0, x1, x2 + 1, rfl, p0, p1, p2, by omega, by omega⟩⟩
    have e2 : (S.set n [.int x0, .int x1, .int (x2 + 1)])[n]? = some [.int x0, .int x1, .int (x2 + 1)] := by rw [List.getElem?_set_self hn]
    simp [d_law_take, fnW, sSeq, sIf, sRet, sSet, sAsg, sNil, lft, dTst, dBin, dVar, dC, bnd, ret, rdS, fCmp, pGt_ap, toB, fIx, ixW, itmsS, e, e2, at0, at1, at2, hx, nb, pow7, fAdd, setT, sAsgM, gPut, putW, i2, mulL (S := S.set n [.int x0, .int x1, .int (x2 + 1)]) (i := 52774) (j := x2 + 1) (by decide) (by decide), pow3 hw, modP (show (0 : Int) < 2147483563 by decide), modP (show (0 : Int) < 40013 by decide), modP (show (0 : Int) < 2147483647 by decide), divP (show (0 : Int) < 32 by decide) (show (32 : Int) < 1073741824 by decide), modP h0, hq, mulL (S := S.set n [.int x0, .int x1, .int (x2 + 1)]) (i := q) (j := q % 40013 + 11) (by omega) (by omega), mulR (S := S.set n [.int x0, .int x1, .int (x2 + 1)]) (i := x2 + 1) (j := 6089) (by decide) (by decide)]
theorem v_pot (ns : List Int) (k : Nat) : ∃ p, g_law_pot [.sc (iW ns), .int (k : Int)] S = .ok (.lst S.length) (S ++ [p]) ∧ PotL p 0 := by
  have key : ∀ cell : Int, ∃ x0 x1 : Int, 0 ≤ x0 ∧ 0 ≤ x1 ∧ x1 < 2147483399 ∧ (sRet (dLst (dCons (dBin fMul (dCallN fAbs (dCons (dVar 2) dNil)) (dCallN fInt (dCons (dBin (fCmp pGe) (dCallN fAbs (dCons (dVar 2) dNil)) (dBin fPow (dC (.int 10)) (dC (.int 18)))) dNil))) (dCons (dBin fMod (dBin fMul (dBin fAdd (dBin fAdd (dBin fMod (dVar 2) (dC (.int 2147483587))) (dBin fMul (dC (.int 104729)) (dVar 1))) (dC (.int 29))) (dC (.int 40692))) (dC (.int 2147483399))) (dCons (dC (.int 0)) dNil))))) [some (.sc (iW ns)), some (.int (k : Int)), some (.int cell)] S = .ok (.rt (.lst S.length)) (S ++ [[.int x0, .int x1, .int 0]]) := fun cell => by
    refine ⟨(if cell < 0 then -cell else cell) * (if decide ((1000000000000000000 : Int) ≤ (if cell < 0 then -cell else cell)) = true then 1 else 0), (cell % 2147483587 + 104729 * (k : Int) + 29) * 40692 % 2147483399, ?_, Int.emod_nonneg _ (by decide), Int.emod_lt_of_pos _ (by decide), ?_⟩
    · refine Int.mul_nonneg ?_ ?_
      · split <;> omega
      · split <;> omega
    · have m1 : ∀ b : Bool, fMul S (.int (if cell < 0 then -cell else cell)) (.int (if b = true then 1 else 0)) = some (.int ((if cell < 0 then -cell else cell) * (if b = true then 1 else 0))) := fun b => by cases b <;> exact mulR (by decide) (by decide)
      simp only [sRet, lft, dLst, dCons, dNil, dBin, dCallN, dVar, dC, bnd, ret, rdS, fAbs, fInt, fCmp, pGe_ap, pow18, m1, fAdd, mulL (S := S) (i := 104729) (j := (k : Int)) (by decide) (by decide), mulR (S := S) (i := cell % 2147483587 + 104729 * (k : Int) + 29) (j := 40692) (by decide) (by decide), modP (show (0 : Int) < 2147483587 by decide), modP (show (0 : Int) < 2147483399 by decide), List.getElem?_cons_zero, List.getElem?_cons_succ]
      rfl
  have fin : ∀ cell : Int, g_law_pot [.sc (iW ns), .int (k : Int)] S = fnR ((sRet (dLst (dCons (dBin fMul (dCallN fAbs (dCons (dVar 2) dNil)) (dCallN fInt (dCons (dBin (fCmp pGe) (dCallN fAbs (dCons (dVar 2) dNil)) (dBin fPow (dC (.int 10)) (dC (.int 18)))) dNil))) (dCons (dBin fMod (dBin fMul (dBin fAdd (dBin fAdd (dBin fMod (dVar 2) (dC (.int 2147483587))) (dBin fMul (dC (.int 104729)) (dVar 1))) (dC (.int 29))) (dC (.int 40692))) (dC (.int 2147483399))) (dCons (dC (.int 0)) dNil))))) [some (.sc (iW ns)), some (.int (k : Int)), some (.int cell)] S) → ∃ p, g_law_pot [.sc (iW ns), .int (k : Int)] S = .ok (.lst S.length) (S ++ [p]) ∧ PotL p 0 := fun cell h => by
    obtain ⟨x0, x1, h0, h1, h2, e⟩ := key cell
    rw [h, e]
    exact ⟨_, rfl, ⟨x0, x1, 0, rfl, h0, h1, h2, by decide, by decide⟩⟩
  by_cases hk : k < ns.length
  · refine fin (ns[k]?.getD 0) ?_
    have c1 : (k : Int) < (ns.length : Int) := by omega
    simp [g_law_pot, d_law_pot, fnW_R, sSeq, sIf, sSet, sAsg, sNil, lft, dTst, dBin, dVar, dC, dCallN, dCons, dNil, bnd, ret, rdS, fCmp, pLt_ap, toB, fLen, ixW, fIx, iW_at ns k hk, setT, hk]
  · refine fin 0 ?_
    have c1 : ¬ (k : Int) < (ns.length : Int) := by omega
    simp [g_law_pot, d_law_pot, fnW_R, sSeq, sIf, sSet, sAsg, sNil, lft, dTst, dBin, dVar, dC, dCallN, dCons, dNil, bnd, ret, rdS, fCmp, pLt_ap, toB, fLen, ixW, fIx, setT, hk]
end

section
variable {S : Store}
theorem ixN_ok {n k : Nat} (h : k < n) : ixN n (k : Int) = some k := by
  unfold ixN
  rw [if_pos (by omega), if_pos (by omega)]
  simp
end

section
variable {S : Store}
theorem set_app {α : Type} {T g : List α} {n : Nat} (h : n < T.length) (p : α) : (T ++ g).set n p = T.set n p ++ g := List.set_append_left _ _ h
theorem get_app {α : Type} {T g : List α} {n : Nat} {p : α} (h : T[n]? = some p) : (T ++ g)[n]? = some p := by
  rw [List.getElem?_append_left (List.getElem?_eq_some_iff.mp h).1]
  exact h
theorem get_lt {α : Type} {T : List α} {n : Nat} {p : α} (h : T[n]? = some p) : n < T.length := (List.getElem?_eq_some_iff.mp h).1
theorem get_set {α : Type} {T : List α} {n : Nat} {p : α} (h : T[n]? = some p) (q : α) : (T.set n q)[n]? = some q := List.getElem?_set_self (get_lt h)
theorem eq_int (i j : Int) : fEq S (.int i) (.int j) = some (.bl (decide (i = j))) := by
  by_cases h : i = j <;> simp [fEq, eqD, datS, dat, SeqAt.shaped, PyData.eqv, PyData.canLay0, PyData.depth, h]
theorem dat_list {l : List Int} {w : W} {ds : List PyData} (hd : (iW l).mapM (dat S 11) = some ds → True) : (iW l).mapM (dat S 11) = some (l.map .int) := by
  clear hd
  induction l with
  | nil => rfl
  | cons x p ih => simp [iW_cons, List.mapM_cons, ih, dat]
theorem lay_ints (p : List Int) : PyData.canLayAll0 (p.map .int) = true := by
  induction p with
  | nil => rfl
  | cons x p ih => simp [PyData.canLayAll0, PyData.canLay0, ih]
theorem depth_ints (p : List Int) : PyData.depthAll (p.map .int) = 0 := by
  induction p with
  | nil => rfl
  | cons x p ih => simp [PyData.depthAll, PyData.depth, ih]
theorem eqv_ints : ∀ p q : List Int, PyData.eqvAll (p.map .int) (q.map .int) = decide (p = q) := by
  intro p
  induction p with
  | nil => intro q; cases q <;> simp [PyData.eqvAll]
  | cons x p ih =>
    intro q
    cases q with
    | nil => simp [PyData.eqvAll]
    | cons y q =>
      simp only [List.map_cons, PyData.eqvAll, ih, PyData.eqv]
      by_cases hx : x = y <;> by_cases hp : p = q <;> simp [hx, hp]
theorem datS_ints (l : List Int) {w : W} (h : w = .cl (iW l) ∨ ∃ m, w = .lst m ∧ S[m]? = some (iW l)) : datS S w = some (.list (l.map .int)) := by
  have h1 : (iW l).mapM (dat S 11) = some (l.map .int) := dat_list (w := .non) (ds := []) fun _ => trivial
  rcases h with rfl | ⟨m, rfl, h⟩
  · simp [datS, dat, h1, SeqAt.shaped, PyData.canLay0, PyData.depth, lay_ints, depth_ints]
  · simp [datS, dat, h, h1, SeqAt.shaped, PyData.canLay0, PyData.depth, lay_ints, depth_ints]
/-- lists of numbers compared -/
theorem eqD_ints {a b : List Int} {w u : W} (h1 : w = .cl (iW a) ∨ ∃ m, w = .lst m ∧ S[m]? = some (iW a)) (h2 : u = .cl (iW b) ∨ ∃ m, u = .lst m ∧ S[m]? = some (iW b)) : eqD S w u = some (decide (a = b)) := by
  simp [eqD, datS_ints a h1, datS_ints b h2, PyData.eqv, eqv_ints]
end


section
variable {S : Store}
/-- the store behind draws: what was there is, but for the pot; some more -/
def Aft (S S' : Store) (n : Nat) (c : Int) : Prop := ∃ p g, S' = S.set n p ++ g ∧ PotL p c
theorem Aft.pot {S S' : Store} {n : Nat} {c : Int} (h : Aft S S' n c) (hn : n < S.length) : ∃ p, S'[n]? = some p ∧ PotL p c := by
  obtain ⟨p, g, rfl, hp⟩ := h
  exact ⟨p, by rw [List.getElem?_append_left (by simpa using hn), List.getElem?_set_self hn], hp⟩
theorem Aft.len {S S' : Store} {n : Nat} {c : Int} (h : Aft S S' n c) (hn : n < S.length) : n < S'.length := by
  obtain ⟨p, g, rfl, hp⟩ := h
  simp; omega
theorem Aft.trans {S S1 S2 : Store} {n : Nat} {c d : Int} (hn : n < S.length) (h : Aft S S1 n c) (h2 : Aft S1 S2 n d) : Aft S S2 n d := by
  obtain ⟨p, g, rfl, _⟩ := h
  obtain ⟨q, g2, rfl, hq⟩ := h2
  refine ⟨q, g ++ g2, ?_, hq⟩
  rw [set_app (by simpa using hn), List.set_set, List.append_assoc]
theorem Aft.more {S S1 : Store} {n : Nat} {c : Int} (h : Aft S S1 n c) (g : Store) : Aft S (S1 ++ g) n c := by
  obtain ⟨p, g1, rfl, hp⟩ := h
  exact ⟨p, g1 ++ g, by rw [List.append_assoc], hp⟩
theorem Aft.mono {S S1 : Store} {n : Nat} {c d : Int} (h : Aft S S1 n c) (hd : c ≤ d) : Aft S S1 n d := by
  obtain ⟨p, g1, rfl, hp⟩ := h
  exact ⟨p, g1, rfl, hp.mono hd⟩
theorem Aft.same {S S1 : Store} {n : Nat} {c : Int} {i : Nat} {x : List W} (h : Aft S S1 n c) (hi : S[i]? = some x) (hne : i ≠ n) : S1[i]? = some x := by
  obtain ⟨p, g1, rfl, hp⟩ := h
  rw [List.getElem?_append_left (by simpa using get_lt hi), List.getElem?_set_ne (Ne.symm hne)]
  exact hi
theorem v_takeA {n : Nat} {c b : Int} {p : List W} (e : S[n]? = some p) (hp : PotL p c) (hc : c ≤ 1000000) (h0 : 0 < b) (h1 : b ≤ 10000000) : ∃ (r : Int) (S' : Store), g_law_take 6 [.lst n, .int b] S = .ok (.int r) S' ∧ 0 ≤ r ∧ r < b ∧ Aft S S' n (c + 1) := by
  obtain ⟨r, p', h, r0, r1, hp'⟩ := v_take e hp hc h0 h1 5
  exact ⟨r, _, h, r0, r1, p', [], by simp, hp'⟩
end

section
variable {S : Store}
abbrev flB : DS := (sIf (dOrT (dTst (dBin fEq (dVar 2) (dC (.int 4)))) (dAndT (dTst (dBin (fCmp pGt) (dVar 2) (dC (.int 1)))) (dTst (dBin fEq (dCall 2 (g_law_take 6) (dCons (dVar 0) (dCons (dVar 2) dNil))) (dC (.int 0)))))) (sDrop (dMth fAppend (dVar 3) (dCons (dVar 4) dNil))) sNil)
theorem floors_loop {n : Nat} {way : Int} (w0 : 0 ≤ way) (w1 : way < 5) {S0 : Store} {x1 : Option W} (ks : List Int) : ∀ (T : Store) (p : List W) (c : Int) (fl : List Int) (x4 : Option W), T[n]? = some p → PotL p c → c + ks.length ≤ 1000000 → fl.length + ks.length ≤ 1000 →
    ∃ (fl' : List Int) (p' : List W) (y4 : Option W), forL (.nm 4) flB [] S0 (iW ks) [some (.lst n), x1, some (.int way), some (.lst T.length), x4] (T ++ [iW fl]) = .ok (.nx [some (.lst n), x1, some (.int way), some (.lst T.length), y4]) (T.set n p' ++ [iW (fl ++ fl')]) ∧ fl'.Sublist ks ∧ PotL p' (c + ks.length) := by
  induction ks with
  | nil =>
    intro T p c fl x4 e hp _ _
    have ts : T.set n p = T := by
      apply List.ext_getElem?
      intro j
      by_cases hj : n = j
      · subst hj; rw [List.getElem?_set_self (get_lt e), e]
      · rw [List.getElem?_set_ne hj]
    exact ⟨[], p, x4, by simp [forL, iW, ts], .slnil, by simpa using hp⟩
  | cons k ks ihk =>
    intro T p c fl x4 e hp hc hl
    have hn := get_lt e
    simp only [List.length_cons] at hc hl
    have e4 : c + 1 + (ks.length : Int) = c + ((ks.length + 1 : Nat) : Int) := by omega
    have ts : T.set n p = T := by
      apply List.ext_getElem?
      intro j
      by_cases hj : n = j
      · subst hj; rw [List.getElem?_set_self (get_lt e), e]
      · rw [List.getElem?_set_ne hj]
    have c4 : fl.length ≤ 16777215 := by omega
    have eA : iW fl ++ [W.int k] = iW (fl ++ [k]) := by simp [iW]
    -- what is left, whether it was taken or not
    have go : ∀ (p1 : List W) (tk : Bool), PotL p1 (c + 1) → flB [some (.lst n), x1, some (.int way), some (.lst T.length), some (.int k)] (T ++ [iW fl]) = .ok (.nx [some (.lst n), x1, some (.int way), some (.lst T.length), some (.int k)]) (T.set n p1 ++ [iW (if tk = true then fl ++ [k] else fl)]) →
        ∃ (fl' : List Int) (p' : List W) (y4 : Option W), forL (.nm 4) flB [] S0 (iW (k :: ks)) [some (.lst n), x1, some (.int way), some (.lst T.length), x4] (T ++ [iW fl]) = .ok (.nx [some (.lst n), x1, some (.int way), some (.lst T.length), y4]) (T.set n p' ++ [iW (fl ++ fl')]) ∧ fl'.Sublist (k :: ks) ∧ PotL p' (c + (k :: ks).length) := by
      intro p1 tk hp1 hb
      have e2 : (T.set n p1)[n]? = some p1 := get_set e _
      obtain ⟨fl', p', y4, ih, h1, h2⟩ := ihk (T.set n p1) p1 (c + 1) (if tk = true then fl ++ [k] else fl) (some (.int k)) e2 hp1 (by omega) (by cases tk <;> simp <;> omega)
      refine ⟨(if tk = true then [k] else []) ++ fl', p', y4, ?_, ?_, by simp only [List.length_cons]; rw [← e4]; exact h2⟩
      · rw [iW_cons]
        unfold forL
        simp only [setT, List.set_cons_succ, List.set_cons_zero, hb, kept_nil, if_true]
        rw [List.length_set] at ih
        rw [ih]
        cases tk <;> simp [List.set_set]
      · cases tk
        · exact h1.cons k
        · exact h1.cons_cons k
    by_cases h4 : way = 4
    · subst h4
      refine go p true (hp.mono (by omega)) ?_
      rw [ts]
      simp [flB, sIf, dOrT, dTst, dBin, dVar, dC, bnd, ret, rdS, eq_int, toB, sDrop, lft, dMth, dCons, dNil, lsB, wrS, fAppend, chS, szB, c4, eA]
    · by_cases h1 : 1 < way
      · obtain ⟨r, p1, ht, r0, r1, hp1⟩ := v_take (get_app (g := [iW fl]) e) hp (by omega) (b := way) (by omega) (by omega) 5
        rw [set_app hn] at ht
        have a1 : (T.set n p1 ++ [iW fl])[T.length]? = some (iW fl) := by rw [List.getElem?_append_right (by simp)]; simp
        have a2 : ∀ x : List W, (T.set n p1 ++ [iW fl]).set T.length x = T.set n p1 ++ [x] := fun x => by rw [List.set_append_right _ _ (by simp)]; simp
        by_cases hr : r = 0
        · refine go p1 true hp1 ?_
          subst hr
          simp [flB, sIf, dOrT, dAndT, dTst, dBin, dVar, dC, bnd, ret, rdS, eq_int, toB, h4, fCmp, pGt_ap, h1, dCall, dCons, dNil, ht, sDrop, lft, dMth, lsB, wrS, fAppend, chS, szB, c4, eA, a1, a2]
        · refine go p1 false hp1 ?_
          simp [flB, sIf, dOrT, dAndT, dTst, dBin, dVar, dC, bnd, ret, rdS, eq_int, toB, h4, fCmp, pGt_ap, h1, dCall, dCons, dNil, ht, hr, sNil, lft]
      · refine go p false (hp.mono (by omega)) ?_
        rw [ts]
        simp [flB, sIf, dOrT, dAndT, dTst, dBin, dVar, dC, bnd, ret, rdS, eq_int, toB, h4, fCmp, pGt_ap, h1, sNil, lft]
/-- floors: rising, from 1 to the most -/
def Flr (fl : List Int) (m : Nat) : Prop := fl.Pairwise (· < ·) ∧ (∀ f ∈ fl, 1 ≤ f ∧ f ≤ m) ∧ fl.length ≤ m
theorem v_floors {n m : Nat} {c : Int} {p : List W} (e : S[n]? = some p) (hp : PotL p c) (m0 : 0 < m) (m1 : m ≤ 60) (hc : c + m + 2 ≤ 1000000) : ∃ (fl : List Int) (w : W) (S' : Store), g_law_floors [.lst n, .int (m : Int)] S = .ok w S' ∧ itmsS S' w = some (iW fl) ∧ Flr fl m ∧ Aft S S' n (c + m + 2) := by
  have hn := get_lt e
  obtain ⟨way, p1, t1, w0, w1, hp1⟩ := v_take e hp (by omega) (b := 5) (by decide) (by decide) 5
  have e1 := get_set e p1
  have it : ∀ (T : Store) (ws : List W), itmsS T (.tup ws) = some ws := fun _ _ => rfl
  have a1 : sAsg (.tp [.nm 2, .nm 3]) (dTup (dCons (dCall 2 (g_law_take 6) (dCons (dVar 0) (dCons (dC (.int 5)) dNil))) (dCons (dLst dNil) dNil))) [some (.lst n), some (.int (m : Int)), none, none, none] S = .ok (.nx [some (.lst n), some (.int (m : Int)), some (.int way), some (.lst S.length), none]) (S.set n p1 ++ [[]]) := by
    simp [sAsg, lft, dTup, dCons, dNil, dCall, dVar, dC, bnd, ret, t1, dLst, mkL, mkT, szB, setT, setTs, it]
  by_cases hw : way = 1
  · subst hw
    have e2 : (S.set n p1 ++ [[]])[n]? = some p1 := get_app e1
    obtain ⟨r, p2, t2, r0, r1, hp2⟩ := v_take e2 hp1 (by omega) (b := (m : Int)) (by omega) (by omega) 5
    rw [set_app (by simpa using hn), List.set_set] at t2
    refine ⟨[1 + r], .cl [.int (1 + r)], S.set n p2 ++ [[]], ?_, rfl, ⟨by simp, fun f hf => ?_, by simp; omega⟩, p2, [[]], rfl, hp2.mono (by omega)⟩
    · have b1 : (sSeq (sIf (dTst (dBin fEq (dVar 2) (dC (.int 1)))) (sRet (dCl (dCons (dBin fAdd (dC (.int 1)) (dCall 2 (g_law_take 6) (dCons (dVar 0) (dCons (dVar 1) dNil)))) dNil))) sNil) (sSeq (sFor (iRg2 (dCons (dC (.int 1)) (dCons (dBin fAdd (dVar 1) (dC (.int 1))) dNil))) (.nm 4) flB) (sRet (dVar 3)))) [some (.lst n), some (.int (m : Int)), some (.int 1), some (.lst S.length), none] (S.set n p1 ++ [[]]) = .ok (.rt (.cl [.int (1 + r)])) (S.set n p2 ++ [[]]) := by
        simp [sSeq, sIf, sRet, lft, dTst, dBin, dVar, dC, bnd, ret, rdS, eq_int, toB, dCl, dCons, dNil, dCall, t2, fAdd, mkC, szB]
      show fnR (d_law_floors [some (.lst n), some (.int (m : Int)), none, none, none] S) = _
      unfold d_law_floors
      rw [sSeq, a1]
      exact congrArg fnR b1
    · have := List.mem_singleton.mp hf
      omega
  · have lr : rgW 1 ((m : Int) + 1) = iW ((List.range m).map fun i : Nat => (1 : Int) + i) := by
      have : ((m : Int) + 1 - 1).toNat = m := by omega
      simp [rgW, iW, this, Function.comp_def]
    have hl : ((List.range m).map fun i : Nat => (1 : Int) + i).length = m := by simp
    obtain ⟨fl', p', y4, ih, h1, h2⟩ := floors_loop (n := n) w0 w1 (S0 := S.set n p1 ++ [[]]) (x1 := some (.int (m : Int))) ((List.range m).map fun i : Nat => (1 : Int) + i) (S.set n p1) p1 (c + 1) [] none e1 hp1 (by rw [hl]; omega) (by rw [hl]; simp; omega)
    rw [List.length_set, List.set_set] at ih
    have ih : forL (.nm 4) flB [] (S.set n p1 ++ [[]]) (iW ((List.range m).map fun i : Nat => (1 : Int) + i)) [some (.lst n), some (.int (m : Int)), some (.int way), some (.lst S.length), none] (S.set n p1 ++ [[]]) = .ok (.nx [some (.lst n), some (.int (m : Int)), some (.int way), some (.lst S.length), y4]) (S.set n p' ++ [iW fl']) := ih
    refine ⟨fl', .lst S.length, S.set n p' ++ [iW fl'], ?_, ?_, ⟨?_, fun f hf => ?_, by have := h1.length_le; rw [hl] at this; exact this⟩, p', _, rfl, ?_⟩
    · have sz : (szB ((m : Int) + 1 - 1).toNat && decide (-1000000000 ≤ (m : Int) + 1 ∧ (m : Int) + 1 ≤ 1000000000 ∧ -1000000000 ≤ (1 : Int) ∧ (1 : Int) ≤ 1000000000)) = true := by
        rw [Bool.and_eq_true]
        exact ⟨decide_eq_true (by omega), decide_eq_true (by omega)⟩
      have i1 : iRg2 (dCons (dC (.int 1)) (dCons (dBin fAdd (dVar 1) (dC (.int 1))) dNil)) [some (.lst n), some (.int (m : Int)), some (.int way), some (.lst S.length), none] (S.set n p1 ++ [[]]) = .ok (iW ((List.range m).map fun i : Nat => (1 : Int) + i), []) (S.set n p1 ++ [[]]) := by
        have q : rdI (fun _ => match [W.int 1, W.int ((m : Int) + 1)] with
          | [.int m, .int n] => if szB (n - m).toNat && decide (-1000000000 ≤ n ∧ n ≤ 1000000000 ∧ -1000000000 ≤ m ∧ m ≤ 1000000000) then some (rgW m n, []) else none
          | _ => none) (S.set n p1 ++ [[]]) = .ok (iW ((List.range m).map fun i : Nat => (1 : Int) + i), []) (S.set n p1 ++ [[]]) := by
          simp only [rdI, sz, if_true, lr]
        simpa [iRg2, dCons, dNil, dC, dBin, dVar, bnd, ret, rdS, fAdd] using q
      have b1 : (sSeq (sIf (dTst (dBin fEq (dVar 2) (dC (.int 1)))) (sRet (dCl (dCons (dBin fAdd (dC (.int 1)) (dCall 2 (g_law_take 6) (dCons (dVar 0) (dCons (dVar 1) dNil)))) dNil))) sNil) (sSeq (sFor (iRg2 (dCons (dC (.int 1)) (dCons (dBin fAdd (dVar 1) (dC (.int 1))) dNil))) (.nm 4) flB) (sRet (dVar 3)))) [some (.lst n), some (.int (m : Int)), some (.int way), some (.lst S.length), none] (S.set n p1 ++ [[]]) = .ok (.rt (.lst S.length)) (S.set n p' ++ [iW fl']) := by
        have s1 : sIf (dTst (dBin fEq (dVar 2) (dC (.int 1)))) (sRet (dCl (dCons (dBin fAdd (dC (.int 1)) (dCall 2 (g_law_take 6) (dCons (dVar 0) (dCons (dVar 1) dNil)))) dNil))) sNil [some (.lst n), some (.int (m : Int)), some (.int way), some (.lst S.length), none] (S.set n p1 ++ [[]]) = .ok (.nx [some (.lst n), some (.int (m : Int)), some (.int way), some (.lst S.length), none]) (S.set n p1 ++ [[]]) := by
          simp [sIf, lft, dTst, dBin, dVar, dC, bnd, ret, rdS, eq_int, hw, toB, sNil]
        rw [sSeq, s1]
        show sSeq _ _ _ _ = _
        rw [sSeq, sFor, lft, i1]
        show (match forL _ _ _ _ _ _ _ with | .ok (.nx ρ') S' => _ | o => o) = _
        rw [ih]
        simp [sRet, lft, dVar, ret]
      show fnR (d_law_floors [some (.lst n), some (.int (m : Int)), none, none, none] S) = _
      unfold d_law_floors
      rw [sSeq, a1]
      exact congrArg fnR b1
    · simp [itmsS]
    · refine List.Pairwise.sublist h1 ?_
      rw [List.pairwise_map]
      exact List.pairwise_lt_range.imp fun h => by omega
    · obtain ⟨i, hi, rfl⟩ := List.mem_map.mp (h1.subset hf)
      have := List.mem_range.mp hi
      omega
    · rw [hl] at h2
      exact h2.mono (by omega)
theorem v_homes {n m : Nat} {c : Int} {p : List W} (e : S[n]? = some p) (hp : PotL p c) (m0 : 0 < m) (m1 : m ≤ 60) (hc : c + 2 * m + 4 ≤ 1000000) : ∃ (fl fr : List Int) (S' : Store), g_law_homes [.lst n, .int (m : Int)] S = .ok (homes fl fr) S' ∧ Flr fl m ∧ Flr fr m ∧ Aft S S' n (c + 2 * m + 4) := by
  have hn := get_lt e
  obtain ⟨fl, w, S1, t1, i1, f1, a1⟩ := v_floors e hp m0 m1 (by omega)
  obtain ⟨p1, e1, hp1⟩ := a1.pot hn
  obtain ⟨fr, u, S2, t2, i2, f2, a2⟩ := v_floors e1 hp1 m0 m1 (by omega)
  refine ⟨fl, fr, S2, ?_, f1, f2, (a1.trans hn a2).mono (by omega)⟩
  have q1 : fTuple S1 [w] = some (.tup (iW fl)) := by simp [fTuple, i1]
  have q2 : fTuple S2 [u] = some (.tup (iW fr)) := by simp [fTuple, i2]
  simp [g_law_homes, d_law_homes, fnW, sRet, lft, dTup, dCallN, dCons, dNil, dCall, dVar, bnd, ret, t1, t2, rdS, q1, q2, mkT, szB]
end

end Den

namespace Den
open PySem PySem.Spec PyProof.Rows L2 Bal
section
variable {S : Store}
theorem same_seq {g : List W → Mo W} {x y : W} {xs ys : List W} {keep : List Nat} {k : Kd} (hk : kSeq k = true) (h1 : kdW x = some k) (h2 : kdW y = some k) (hq : sqI S [x, y] = some ([xs, ys], keep)) (kp : kept S S keep = true) (e1 : ixW S x = some xs) (e2 : ixW S y = some ys) (hl : xs.length = ys.length)
    (h : ∀ i, i < xs.length → g [xs[i]?.getD .non, ys[i]?.getD .non] S = .ok (.bl true) S) : fnW 4 (d_law_same g) [x, y] S = .ok (.bl true) S := by
  have key := lc_all (t := .tp [.nm 2, .nm 3]) (de := dCall 2 g (dCons (dVar 2) (dCons (dVar 3) dNil))) (ρ := [some x, some y, none, none]) (S := S) kp (.bl true) ((List.range xs.length).map fun i => W.tup [xs[i]?.getD .non, ys[i]?.getD .non]) fun w hw => by
    obtain ⟨i, hi, rfl⟩ := List.mem_map.mp hw
    have := h i (List.mem_range.mp hi)
    exact ⟨[some x, some y, some (xs[i]?.getD .non), some (ys[i]?.getD .non)], by simp [setT, setTs, itmsS], by simp [dCall, dCons, dNil, dVar, bnd, ret, this]⟩
  have bt : ∀ n : Nat, blT (List.replicate n (W.bl true)) = some (List.replicate n true) := fun n => by
    induction n with
    | zero => rfl
    | succ n ih => simp [List.replicate_succ, blT, ih]
  have eb : ∀ b : Bool, eqD S (.bl b) (.bl b) = some true := fun b => by cases b <;> simp [eqD, datS, dat, SeqAt.shaped, PyData.eqv, PyData.canLay0, PyData.depth]
  have ei : ∀ i : Int, eqD S (.int i) (.int i) = some true := fun i => by simp [eqD, datS, dat, SeqAt.shaped, PyData.eqv, PyData.canLay0, PyData.depth]
  rw [← zipL_two hl] at key
  simp [d_law_same, fnW, sSeq, sIf, sRet, sNil, lft, dTst, dIs, dVar, bnd, ret, h1, h2, hk, toB, dOrT, dBin, rdS, fNe, eb, dAnd, fEq, dCallN, dCons, dNil, fLen, e1, e2, hl, ei, dLc, iZip, zipI, hq, rdI, wipeW, key, newK, fAll, lstS, bt]
theorem kept_sq {x y : W} {xs ys : List W} {keep : List Nat} (h : sqI S [x, y] = some ([xs, ys], keep)) : kept S S keep = true := by
  refine kept_of fun n hn => ⟨?_, rfl⟩
  have one : ∀ {w : W} {ws : List W} {k : List Nat}, seqI S w = some (ws, k) → ∀ n ∈ k, n < S.length := fun {w ws k} e n hn => by
    cases w with
    | tup us => cases e; simp at hn
    | cl us => cases e; simp at hn
    | lst m =>
      have e : (S[m]?).map (fun ws => (ws, [m])) = some (ws, k) := e
      cases e1 : S[m]? with
      | none => rw [e1] at e; cases e
      | some us =>
        rw [e1] at e
        cases e
        rw [List.mem_singleton.mp hn]
        exact (List.getElem?_eq_some_iff.mp e1).1
    | _ => cases e
  simp only [sqI] at h
  cases e1 : seqI S x with
  | none => rw [e1] at h; cases h
  | some p =>
    cases e2 : seqI S y with
    | none => rw [e1, e2] at h; cases h
    | some q =>
      rw [e1, e2] at h
      cases h
      rcases List.mem_append.mp hn with hn | hn
      · exact one e1 n hn
      · rw [List.append_nil] at hn
        exact one e2 n hn
theorem same_true : ∀ (n : Nat) (x y : W), likeB S n x y = true → g_law_same n [x, y] S = .ok (.bl true) S
  | 0, _, _, h => by simp [likeB] at h
  | n + 1, x, y, h => by
    have eb : ∀ b : Bool, eqD S (.bl b) (.bl b) = some true := fun b => by cases b <;> simp [eqD, datS, dat, SeqAt.shaped, PyData.eqv, PyData.canLay0, PyData.depth]
    show fnW 4 (d_law_same (g_law_same n)) [x, y] S = _
    have lists : ∀ {x y : W} {xs ys : List W}, lstS S x = some xs → lstS S y = some ys → all2 (likeB S n) xs ys = true → fnW 4 (d_law_same (g_law_same n)) [x, y] S = .ok (.bl true) S := fun {x y xs ys} e1 e2 h => by
      have q1 : ∃ k, seqI S x = some (xs, k) ∧ kdW x = some .lst ∧ ixW S x = some xs := by
        cases x with
        | cl us => cases e1; exact ⟨_, rfl, rfl, rfl⟩
        | lst m =>
          have e1 : S[m]? = some xs := e1
          exact ⟨[m], by simp [seqI, e1], rfl, by simp [ixW, itmsS, e1]⟩
        | _ => cases e1
      have q2 : ∃ k, seqI S y = some (ys, k) ∧ kdW y = some .lst ∧ ixW S y = some ys := by
        cases y with
        | cl us => cases e2; exact ⟨_, rfl, rfl, rfl⟩
        | lst m =>
          have e2 : S[m]? = some ys := e2
          exact ⟨[m], by simp [seqI, e2], rfl, by simp [ixW, itmsS, e2]⟩
        | _ => cases e2
      obtain ⟨k1, s1, d1, i1⟩ := q1
      obtain ⟨k2, s2, d2, i2⟩ := q2
      have hq : sqI S [x, y] = some ([xs, ys], k1 ++ (k2 ++ [])) := by simp [sqI, s1, s2]
      exact same_seq (k := .lst) rfl d1 d2 hq (kept_sq hq) i1 i2 (all2_len h) fun i hi => same_true n _ _ (all2_at h i hi)
    cases x with
    | int i =>
      cases y with
      | int j =>
        have h : decide (i = j) = true := h
        have h := of_decide_eq_true h
        subst h
        simp [d_law_same, fnW, sSeq, sIf, sRet, sNil, lft, dTst, dIs, dVar, dC, bnd, ret, kdW, kSeq, kStr, kInt, kBool, toB, dOrT, dBin, rdS, fIs, isN, eb, dAnd, fEq, eqD, datS, dat, SeqAt.shaped, PyData.eqv, PyData.canLay0, PyData.depth]
      | _ => simp [likeB, lstS] at h
    | bl i =>
      cases y with
      | bl j =>
        have h : decide (i = j) = true := h
        have h := of_decide_eq_true h
        subst h
        simp [d_law_same, fnW, sSeq, sIf, sRet, sNil, lft, dTst, dIs, dVar, dC, bnd, ret, kdW, kSeq, kStr, kInt, kBool, toB, dOrT, dBin, rdS, fIs, isN, eb, dAnd, fEq]
      | _ => simp [likeB, lstS] at h
    | str i =>
      cases y with
      | str j =>
        have h : (decide (i = j) && PyData.canLay0 (.str i)) = true := h
        rw [Bool.and_eq_true] at h
        have h1 := of_decide_eq_true h.1
        subst h1
        simp [d_law_same, fnW, sSeq, sIf, sRet, sNil, lft, dTst, dIs, dVar, dC, bnd, ret, kdW, kSeq, kStr, kInt, kBool, toB, dOrT, dBin, rdS, fIs, isN, dAnd, fEq, eqD, datS, dat, SeqAt.shaped, PyData.eqv, PyData.depth, h.2]
        simp [PyData.canLay0, PyData.eqv]
      | _ => simp [likeB, lstS] at h
    | tup xs =>
      cases y with
      | tup ys =>
        have h : all2 (likeB S n) xs ys = true := h
        have hq : sqI S [.tup xs, .tup ys] = some ([xs, ys], []) := rfl
        exact same_seq (k := .tup) rfl rfl rfl hq (kept_sq hq) rfl rfl (all2_len h) fun i hi => same_true n _ _ (all2_at h i hi)
      | _ => simp [likeB, lstS] at h
    | cl xs =>
      cases y with
      | cl ys => exact lists rfl rfl h
      | lst m =>
        cases e : S[m]? with
        | none => simp [likeB, lstS, e] at h
        | some ys => exact lists rfl e (by simpa [likeB, lstS, e] using h)
      | _ => simp [likeB, lstS] at h
    | lst k =>
      cases e : S[k]? with
      | none => cases y <;> simp [likeB, lstS, e] at h
      | some xs =>
        cases y with
        | cl ys => exact lists e rfl (by simpa [likeB, lstS, e] using h)
        | lst m =>
          cases e2 : S[m]? with
          | none => simp [likeB, lstS, e, e2] at h
          | some ys => exact lists e e2 (by simpa [likeB, lstS, e, e2] using h)
        | _ => simp [likeB, lstS, e] at h
    | _ => cases y <;> simp [likeB, lstS] at h
end

section
variable {S : Store}
theorem like_iW (S : Store) (l : List Int) (n : Nat) : all2 (likeB S (n + 1)) (iW l) (iW l) = true := by
  induction l with
  | nil => rfl
  | cons x l ih => simp [iW_cons, all2, likeB, ih]
theorem like_tup (S : Store) (l : List Int) (n : Nat) : likeB S (n + 2) (.tup (iW l)) (.tup (iW l)) = true := by
  simp [likeB, like_iW]
end

section
variable {S : Store}
theorem lists_int (i : Int) (m : Nat) : g_law_lists (m + 1) [.int i] S = .ok (.int i) S := by
  show fnW 2 (d_law_lists (g_law_lists m)) [.int i] S = _
  simp [d_law_lists, fnW, sRet, lft, dIf, dTst, dIs, dVar, bnd, ret, kdW, kSeq, toB]
theorem lists_row (r : List Int) (m : Nat) : g_law_lists (m + 2) [.tup (iW r)] S = .ok (.cl (iW r)) S := by
  show fnW 2 (d_law_lists (g_law_lists (m + 1))) [.tup (iW r)] S = _
  have key := lc_iW (i := 1) (tt := dYes) (de := dCall 1 (g_law_lists (m + 1)) (dCons (dVar 1) dNil)) (ρ := [some (.tup (iW r)), none]) (S := S) (fun _ => true) (fun n => .int n) r fun n _ => ⟨rfl, fun _ => by simp [dCall, dCons, dNil, dVar, bnd, ret, lists_int]⟩
  simp [d_law_lists, fnW, sRet, lft, dIf, dTst, dIs, dVar, bnd, ret, kdW, kSeq, toB, dLc, iSeq, rdI, seqI, wipeW, key, newK]
  rfl
theorem lists_homes (fl fr : List Int) : g_law_lists 6 [homes fl fr] S = .ok (.cl [.cl (iW fl), .cl (iW fr)]) S := by
  show fnW 2 (d_law_lists (g_law_lists 5)) [homes fl fr] S = _
  simp [d_law_lists, fnW, sRet, lft, dIf, dTst, dIs, dVar, bnd, ret, kdW, kSeq, toB, dLc, iSeq, rdI, seqI, wipeW, lcL, setT, dYes, dCall, dCons, dNil, lists_row, kept, newK]
theorem Hm.l (fl fr : List Int) : Hm (.cl [.cl (iW fl), .cl (iW fr)]) fl fr := ⟨_, _, .inr rfl, .l fl, .l fr⟩
end

end Den

namespace Den
open PySem PySem.Spec PyProof.Rows L2 Bal
/-! ### texts of numbers: the program's reading of a word, and the law's -/
section
variable {S : Store}
def isD (c : Nat) : Bool := decide (48 ≤ c ∧ c ≤ 57)
theorem figs_cps : ("0123456789" : Str).cps.toList = [48, 49, 50, 51, 52, 53, 54, 55, 56, 57] := by decide +kernel
theorem in_figs (c : Nat) : decide (c ∈ ("0123456789" : Str).cps.toList) = isD c := by
  rw [figs_cps]
  unfold isD
  refine decide_eq_decide.mpr ?_
  simp only [List.mem_cons, List.not_mem_nil, or_false]
  omega
theorem str_ext {a b : Str} (h : a.cps.toList = b.cps.toList) : a = b := by
  cases a; cases b
  simp only [Str.mk.injEq]
  exact Array.toList_inj.mp h
theorem str_iff {a b : Str} : a = b ↔ a.cps.toList = b.cps.toList := ⟨fun h => by rw [h], str_ext⟩
theorem len_cps (w : Str) : w.length = w.cps.toList.length := by
  show w.cps.size = _
  simp
theorem zero_cps : ("0" : Str).cps.toList = [48] := by decide +kernel
theorem empty_cps : ("" : Str).cps.toList = [] := by decide +kernel
theorem cut_d1 (w : Str) : (cutS w (some 1) none).cps.toList = w.cps.toList.drop 1 := by
  have h : HT.sIx w.length 0 (some 1) = min 1 w.length := HT.sIx_nat w.length 0 1
  unfold cutS
  rw [HT.sIx_none, h, len_cps]
  cases w.cps.toList with
  | nil => rfl
  | cons a l => simp
/-- does it begin with a minus -/
def minus (w : Str) : Bool := decide (w.cps.toList.take 1 = [45])
theorem ok_cut {w : Str} {lo hi : Option Int} (h : PyData.strOk w = true) : PyData.strOk (cutS w lo hi) = true := by
  unfold PyData.strOk at h ⊢
  rw [← Array.all_toList] at h ⊢
  rw [List.all_eq_true] at h ⊢
  intro c hc
  refine h c ?_
  have hc : c ∈ ((w.cps.toList.drop (HT.sIx w.length 0 lo)).take (HT.sIx w.length w.length hi - HT.sIx w.length 0 lo)).toArray.toList := hc
  exact List.mem_of_mem_drop (List.mem_of_mem_take hc)
/-- the figures of a word -/
def figs (w : Str) : Str := if minus w = true then cutS w (some 1) none else w
def fine (v : List Nat) : Bool := decide (1 ≤ v.length ∧ v.length ≤ 10) && v.all isD
/-- what a word says -/
def numO (w : Str) : Option Int := if fine (figs w).cps.toList = true ∧ ¬ ((figs w).cps.toList.take 1 = [48] ∧ w.cps.toList ≠ [48]) then PySem.intText? w else none
theorem digs_of {l : List Nat} : l.all isD = true ↔ PySem.NumText.AllDigits l := by
  rw [List.all_eq_true]
  exact forall_congr' fun c => forall_congr' fun _ => by unfold isD; rw [decide_eq_true_eq]
/-- a number without needless noughts is told as it was written -/
theorem told_same {l : List Nat} (h : PySem.NumText.AllDigits l) (h1 : l ≠ []) : (Nat.toDigits 10 (PySem.NumText.digitsVal l) = l.map Char.ofNat) ↔ (l = [48] ∨ l.take 1 ≠ [48]) := by
  rw [PySem.NumText.toDigits_all l h]
  cases l with
  | nil => exact absurd rfl h1
  | cons c l =>
    by_cases hc : c = 48
    · subst hc
      have len : ∀ m : List Nat, (m.dropWhile (· == 48)).length ≤ m.length := fun m => (List.dropWhile_sublist _).length_le
      have ll := len l
      rw [List.dropWhile_cons]
      simp only [beq_self_eq_true, if_true]
      cases hd : l.dropWhile (· == 48) with
      | nil =>
        cases l with
        | nil => simp
        | cons d l => simp
      | cons d r =>
        rw [hd] at ll
        simp only [List.take_succ_cons, List.take_zero, ne_eq, not_true, or_false]
        constructor
        · intro e
          have := congrArg List.length e
          simp at this ll
          omega
        · intro e
          rw [List.cons.injEq] at e
          rw [e.2] at hd
          cases hd
    · rw [List.dropWhile_cons, if_neg (by rw [beq_iff_eq]; exact hc)]
      simp [hc]
end

end Den

namespace Den
open PySem PySem.Spec PyProof.Rows L2 Bal
section
variable {S : Store}
theorem blT_map : ∀ bs : List Bool, blT (bs.map W.bl) = some bs
  | [] => rfl
  | b :: bs => by
    have := blT_map bs
    simp [blT, this]
theorem fAll_map (bs : List Bool) : fAll S [.cl (bs.map W.bl)] = some (.bl (bs.all id)) := by simp [fAll, lstS, blT_map]
theorem eq_strs {a b : Str} (ha : PyData.canLay0 (.str a) = true) (hb : PyData.canLay0 (.str b) = true) : fEq S (.str a) (.str b) = some (.bl (decide (a = b))) := by
  simp [fEq, eqD, datS, dat, SeqAt.shaped, PyData.depth, ha, hb, PyData.eqv]
  try exact (by rw [Bool.eq_iff_iff, beq_iff_eq, decide_eq_true_eq])
end

section
variable {S : Store}
theorem starts_m (w : Str) : Txt.startswith w "-" = minus w := by
  have hl : ("-" : Str).length = 1 := by decide +kernel
  have hc : ("-" : Str).cps = #[45] := by decide +kernel
  have hs : (w.cps.extract 0 (0 + 1) == #[45]) = decide (w.cps.toList.take 1 = [45]) := by
    rw [Bool.eq_iff_iff, beq_iff_eq, decide_eq_true_eq, ← Array.toList_inj]
    simp [Array.toList_extract]
  show (decide (0 + ("-" : Str).length ≤ w.length) && (w.cps.extract 0 (0 + ("-" : Str).length) == ("-" : Str).cps)) = minus w
  rw [hl, hc, hs, len_cps]
  unfold minus
  cases w.cps.toList with
  | nil => simp
  | cons a l => simp
/-- the program's reading of a word -/
theorem sg_lc {i : Nat} {ρ : En} {S0 : Store} (hi : i < ρ.length) : ∀ l : List Nat, lcL (.nm i) dYes (dBin fInT (dVar i) (dC (.str "0123456789"))) ρ S0 [] (l.map fun c => W.str ⟨#[c]⟩) S = .ok (l.map fun c => .bl (isD c)) S
  | [] => rfl
  | c :: l => by
    have ih := sg_lc (S0 := S0) hi l
    have st : setT S (.nm i) (W.str ⟨#[c]⟩) ρ = some (ρ.set i (some (.str ⟨#[c]⟩))) := by simp [setT, hi]
    have g : (ρ.set i (some (W.str ⟨#[c]⟩)))[i]? = some (some (.str ⟨#[c]⟩)) := List.getElem?_set_self hi
    have fi : fInT S (.str ⟨#[c]⟩) (.str "0123456789") = some (.bl (isD c)) := by
      show some (W.bl (decide (c ∈ ("0123456789" : Str).cps.toList))) = _
      rw [in_figs]
    have de : dBin fInT (dVar i) (dC (.str "0123456789")) (ρ.set i (some (.str ⟨#[c]⟩))) S = .ok (.bl (isD c)) S := by
      generalize W.str "0123456789" = F at *
      simp [dBin, dVar, g, dC, bnd, ret, rdS, fi]
    rw [List.map_cons, List.map_cons]
    unfold lcL
    rw [st]
    simp only [show ∀ ρ S, dYes ρ S = .ok true S from fun _ _ => rfl, de, kept_nil, if_true, ih]
def owT : Option Int → W
  | some n => .int n
  | none => .non
theorem figs_ok {w : Str} (h : PyData.strOk w = true) : PyData.strOk (figs w) = true := by
  unfold figs
  split
  · exact ok_cut h
  · exact h
theorem figs_len (w : Str) : (figs w).cps.toList.length ≤ w.cps.toList.length := by
  unfold figs
  split
  · rw [cut_d1, List.length_drop]; omega
  · exact Nat.le_refl _
theorem lay_str {w : Str} (h : PyData.strOk w = true) : PyData.canLay0 (.str w) = true := by simpa [PyData.canLay0] using h
theorem text_some {w : Str} (h : fine (figs w).cps.toList = true) : ∃ n, PySem.intText? w = some n ∧ w.length ≤ 640 := by
  unfold fine at h
  rw [Bool.and_eq_true, decide_eq_true_eq, digs_of] at h
  obtain ⟨⟨h1, h2⟩, h3⟩ := h
  unfold figs at h1 h2 h3
  by_cases c : minus w = true
  · rw [if_pos c, cut_d1] at h1 h2 h3
    unfold minus at c
    have c := of_decide_eq_true c
    cases hw : w.cps.toList with
    | nil => rw [hw] at c; cases c
    | cons a l =>
      rw [hw] at c h1 h2 h3
      have ha : a = 45 := by simpa using c
      subst ha
      simp only [List.drop_succ_cons, List.drop_zero] at h1 h2 h3
      have hl : w.length = l.length + 1 := by rw [len_cps, hw]; rfl
      exact ⟨_, PySem.intText_neg hw h3 (fun e => by rw [e] at h1; simp at h1) (by omega), by omega⟩
  · rw [if_neg c] at h1 h2 h3
    have hl := len_cps w
    exact ⟨_, PySem.intText_digits h3 (fun e => by rw [e] at h1; simp at h1) (by omega), by omega⟩
theorem v_numin {w : Str} (hz : w.length ≤ 1000) (ok : PyData.strOk w = true) : g_number_in [.str w] S = .ok (owT (numO w)) S := by
  have hwl := len_cps w
  have fl := figs_len w
  have fok := figs_ok ok
  have e1 : sSet 1 (dIf (dTst (dStarts (dVar 0) (dC (.str "-")))) (dCutT (dVar 0) (oSome (dC (.int 1))) oNone) (dVar 0)) [some (.str w), none, none] S = .ok (.nx [some (.str w), some (.str (figs w)), none]) S := by
    have st : tx1 (fun _ _ => true) (fun a b => .bl (Txt.startswith a b)) (.str w) (.str "-") = some (.bl (minus w)) := by
      show (if true = true then some (W.bl (Txt.startswith w "-")) else none) = _
      rw [if_pos rfl, starts_m]
    have ct : cutT (some 1) none (.str w) = some (.str (cutS w (some 1) none)) := by
      show (if szB w.length = true then some (W.str (cutS w (some 1) none)) else none) = _
      rw [if_pos (show szB w.length = true from decide_eq_true (by omega))]
    unfold figs
    generalize cutS w (some 1) none = CW at *
    generalize W.str "-" = MN at *
    cases hm : minus w with
    | true =>
      rw [hm] at st
      simp [sSet, sAsg, setT, lft, dIf, dTst, dStarts, dT1, isT, dVar, dC, bnd, ret, rdS, st, toB, dCutT, oSome, oNone, ct]
    | false =>
      rw [hm] at st
      simp [sSet, sAsg, setT, lft, dIf, dTst, dStarts, dT1, isT, dVar, dC, bnd, ret, rdS, st, toB]
  obtain ⟨f, hf⟩ : ∃ f, f = figs w := ⟨_, rfl⟩
  have hfl := len_cps f
  have ln : fLenT S [.str f] = some (.int (f.cps.toList.length : Nat)) := by
    show (if szB f.length = true then some (W.int (f.length : Nat)) else none) = _
    rw [if_pos (show szB f.length = true from decide_eq_true (by rw [len_cps, hf]; omega)), len_cps]
  have si : iStrD (dVar 1) [some (.str w), some (.str f), none] S = .ok (sgW f, []) S := by
    have z : szB f.cps.toList.length = true := decide_eq_true (by rw [hf]; omega)
    simp only [iStrD, dVar, bnd, ret, rdI, List.getElem?_cons_succ, List.getElem?_cons_zero, z, if_true]
  have lc := sg_lc (S := S) (i := 2) (ρ := [some (.str w), some (.str f), none]) (S0 := S) (by simp) f.cps.toList
  have fa := fAll_map (S := S) (f.cps.toList.map isD)
  rw [List.map_map] at fa
  have ea : (f.cps.toList.map isD).all id = f.cps.toList.all isD := by simp [List.all_map]
  rw [ea] at fa
  have fa : fAll S [.cl (f.cps.toList.map fun c => .bl (isD c))] = some (.bl (f.cps.toList.all isD)) := fa
  have t1 : (dOrT (dNotT (dTst (dChain (fCmp pLe) (fCmp pLe) (dC (.int 1)) (dCallN fLenT (dCons (dVar 1) dNil)) (dC c_MOST_FIGURES)))) (dNotT (dTst (dCallN fAll (dCons (dLc .cl [2] (iStrD (dVar 1)) (.nm 2) dYes (dBin fInT (dVar 2) (dC c_FIGURES))) dNil))))) [some (.str w), some (.str f), none] S = .ok (!fine f.cps.toList) S := by
    have wp : wipeW [some (.str w), some (.str f), none] [2] = [some (.str w), some (.str f), (none : Option W)] := rfl
    have lc : lcL (.nm 2) dYes (dBin fInT (dVar 2) (dC c_FIGURES)) [some (.str w), some (.str f), none] S [] (sgW f) S = .ok (f.cps.toList.map fun c => .bl (isD c)) S := lc
    unfold fine
    generalize (f.cps.toList.map fun c => W.bl (isD c)) = BL at *
    generalize f.cps.toList.all isD = AL at *
    generalize (dBin fInT (dVar 2) (dC c_FIGURES) : DE) = DB at *
    by_cases c1 : 1 ≤ f.cps.toList.length
    · by_cases c2 : f.cps.toList.length ≤ 10
      · have d1 : (1 : Int) ≤ (f.cps.toList.length : Int) := by omega
        have d2 : (f.cps.toList.length : Int) ≤ 10 := by omega
        rw [decide_eq_true ⟨c1, c2⟩]
        generalize (f.cps.toList.length : Int) = L at *
        simp [dOrT, dNotT, dTst, dChain, dC, c_MOST_FIGURES, dCallN, dCons, dNil, dVar, bnd, ret, rdS, ln, fCmp, pLe_ap, d1, d2, toB, dLc, si, wp, lc, newK, fa]
      · have d1 : (1 : Int) ≤ (f.cps.toList.length : Int) := by omega
        have d2 : ¬ (f.cps.toList.length : Int) ≤ 10 := by omega
        rw [decide_eq_false fun z => c2 z.2]
        generalize (f.cps.toList.length : Int) = L at *
        simp [dOrT, dNotT, dTst, dChain, dC, c_MOST_FIGURES, dCallN, dCons, dNil, dVar, bnd, ret, rdS, ln, fCmp, pLe_ap, d1, d2, toB]
    · have d1 : ¬ (1 : Int) ≤ (f.cps.toList.length : Int) := by omega
      rw [decide_eq_false fun z => c1 z.1]
      generalize (f.cps.toList.length : Int) = L at *
      simp [dOrT, dNotT, dTst, dChain, dC, c_MOST_FIGURES, dCallN, dCons, dNil, dVar, bnd, ret, rdS, ln, fCmp, pLe_ap, d1, toB]
  show fnW 3 d_number_in _ S = _
  show fnR (d_number_in [some (.str w), none, none] S) = _
  unfold d_number_in numO
  rw [sSeq, e1, ← hf]
  show fnR (sSeq _ _ _ _) = _
  by_cases hfi : fine f.cps.toList = true
  · rw [hfi] at t1
    have s2 : sIf (dOrT (dNotT (dTst (dChain (fCmp pLe) (fCmp pLe) (dC (.int 1)) (dCallN fLenT (dCons (dVar 1) dNil)) (dC c_MOST_FIGURES)))) (dNotT (dTst (dCallN fAll (dCons (dLc .cl [2] (iStrD (dVar 1)) (.nm 2) dYes (dBin fInT (dVar 2) (dC c_FIGURES))) dNil))))) (sRet (dC .non)) sNil [some (.str w), some (.str f), none] S = .ok (.nx [some (.str w), some (.str f), none]) S := by
      rw [sIf, lft, t1]
      rfl
    rw [sSeq, s2]
    show fnR (sSeq _ _ _ _) = _
    obtain ⟨n, hn, hn2⟩ := text_some (w := w) (by rw [← hf]; exact hfi)
    have ix : fIntX S [.str w] = some (.int n) := by
      unfold fIntX
      dsimp only
      rw [hn]
      dsimp only
      rw [if_pos (decide_eq_true hn2)]
    have hne : f.cps.toList ≠ [] := fun e => by
      unfold fine at hfi
      rw [e] at hfi
      simp at hfi
    obtain ⟨a, l, hal⟩ : ∃ a l, f.cps.toList = a :: l := by
      cases h : f.cps.toList with
      | nil => exact absurd h hne
      | cons a l => exact ⟨a, l, rfl⟩
    have i0 : fIxT S (.str f) (.int 0) = some (.str ⟨#[a]⟩) := by
      have at0 : atI f.cps.toList ((0 : Nat) : Int) = some a := by
        rw [hal]
        unfold atI
        rw [ixN_ok (by simp)]
        rfl
      show (if szB f.length = true then (atI f.cps.toList 0).map fun c => W.str ⟨#[c]⟩ else none) = _
      rw [if_pos (show szB f.length = true from decide_eq_true (by rw [len_cps, hf]; omega))]
      have at0 : atI f.cps.toList 0 = some a := at0
      rw [at0]
      rfl
    have aok : PyData.strOk ⟨#[a]⟩ = true := by
      have fo : PyData.strOk f = true := hf ▸ fok
      unfold PyData.strOk at fo ⊢
      rw [← Array.all_toList, hal, List.all_cons, Bool.and_eq_true] at fo
      simpa using fo.1
    have zok : PyData.strOk "0" = true := by decide +kernel
    have q1 := eq_strs (S := S) (lay_str aok) (lay_str zok)
    have q2 := eq_strs (S := S) (lay_str ok) (lay_str zok)
    have p1 : decide ((⟨#[a]⟩ : Str) = "0") = decide (a = 48) := decide_eq_decide.mpr (by rw [str_iff, zero_cps]; simp)
    have p2 : decide (w = ("0" : Str)) = decide (w.cps.toList = [48]) := decide_eq_decide.mpr (by rw [str_iff, zero_cps])
    rw [p1] at q1
    rw [p2] at q2
    have q3 : fNe S (.str w) (.str "0") = some (.bl (!decide (w.cps.toList = [48]))) := by
      have hx := q2
      simp only [fEq] at hx
      simp only [fNe]
      cases he : eqD S (.str w) (.str "0") with
      | none => rw [he] at hx; cases hx
      | some b =>
        rw [he] at hx
        have hx : some (W.bl b) = some (.bl (decide (w.cps.toList = [48]))) := hx
        cases hx
        rfl
    rw [hal]
    have tk : ((a :: l).take 1 = [48]) = (a = 48) := by simp
    generalize W.str ⟨#[a]⟩ = WA at *
    generalize W.str "0" = W0 at *
    by_cases ca : a = 48
    · by_cases cw : w.cps.toList = [48]
      · rw [decide_eq_true ca] at q1
        rw [decide_eq_true cw] at q3
        rw [if_pos ⟨by rw [← hal]; exact hfi, fun z => z.2 cw⟩, hn]
        simp [sSeq, sIf, sNil, sRet, lft, dAndT, dTst, dBin, dVar, dC, bnd, ret, rdS, i0, q1, q3, toB, dCallN, dCons, dNil, ix, fnR, owT]
      · rw [decide_eq_true ca] at q1
        rw [decide_eq_false cw] at q3
        rw [if_neg fun z => z.2 ⟨by rw [tk]; exact ca, cw⟩]
        simp [sSeq, sIf, sNil, sRet, lft, dAndT, dTst, dBin, dVar, dC, bnd, ret, rdS, i0, q1, q3, toB, fnR, owT]
    · rw [decide_eq_false ca] at q1
      rw [if_pos ⟨by rw [← hal]; exact hfi, fun z => ca (by have := z.1; rw [tk] at this; exact this)⟩, hn]
      simp [sSeq, sIf, sNil, sRet, lft, dAndT, dTst, dBin, dVar, dC, bnd, ret, rdS, i0, q1, toB, dCallN, dCons, dNil, ix, fnR, owT]
  · rw [Bool.not_eq_true] at hfi
    rw [hfi] at t1
    have s2 : sIf (dOrT (dNotT (dTst (dChain (fCmp pLe) (fCmp pLe) (dC (.int 1)) (dCallN fLenT (dCons (dVar 1) dNil)) (dC c_MOST_FIGURES)))) (dNotT (dTst (dCallN fAll (dCons (dLc .cl [2] (iStrD (dVar 1)) (.nm 2) dYes (dBin fInT (dVar 2) (dC c_FIGURES))) dNil))))) (sRet (dC .non)) sNil [some (.str w), some (.str f), none] S = .ok (.rt .non) S := by
      rw [sIf, lft, t1]
      rfl
    rw [sSeq, s2, if_neg fun z => by rw [hfi] at z; cases z.1]
    rfl
end

end Den

namespace Den
open PySem PySem.Spec PyProof.Rows L2 Bal
section
variable {S : Store}
theorem tw_all (g : Nat → Bool) : ∀ l : List Nat, (l.takeWhile g).all g = true
  | [] => rfl
  | c :: l => by
    rw [List.takeWhile_cons]
    cases h : g c with
    | true => simp [h, tw_all g l]
    | false => simp
theorem dw_head {g : Nat → Bool} {c : Nat} {r : List Nat} : ∀ {l : List Nat}, l.dropWhile g = c :: r → g c = false
  | [], h => by cases h
  | a :: l, h => by
    rw [List.dropWhile_cons] at h
    cases ha : g a with
    | true => rw [ha, if_pos rfl] at h; exact dw_head h
    | false =>
      rw [ha] at h
      simp only [Bool.false_eq_true, if_false, List.cons.injEq] at h
      rw [← h.1]
      exact ha
theorem tw_len {g : Nat → Bool} {c : Nat} (hc : g c = false) : ∀ xs : List Nat, ((xs ++ [c]).takeWhile g).length ≤ xs.length
  | [] => by simp [hc]
  | x :: xs => by
    rw [List.cons_append, List.takeWhile_cons]
    split
    · simp only [List.length_cons]
      have := tw_len hc xs
      omega
    · simp
theorem strip_nil (g : Nat → Bool) (x : Str) : (PySem.W.stripped g true true x).cps.toList = [] ↔ x.cps.toList.all g = true := by
  obtain ⟨l, hl⟩ : ∃ l, l = x.cps.toList := ⟨_, rfl⟩
  have hs : x.length = l.length := by rw [len_cps, hl]
  have e : (PySem.W.stripped g true true x).cps.toList = (l.drop (l.takeWhile g).length).take (l.length - ((l.drop (l.takeWhile g).length).reverse.takeWhile g).length - (l.takeWhile g).length) := by
    show (x.cps.extract (x.cps.toList.takeWhile g).length (x.length - ((x.cps.toList.drop (x.cps.toList.takeWhile g).length).reverse.takeWhile g).length)).toList = _
    rw [Array.toList_extract, hs, hl, List.extract_eq_take_drop]
  rw [e, ← hl]
  have tw : l.takeWhile g ++ l.dropWhile g = l := List.takeWhile_append_dropWhile
  have dl : l.drop (l.takeWhile g).length = l.dropWhile g := by
    have h2 := List.drop_left (l₁ := l.takeWhile g) (l₂ := l.dropWhile g)
    rw [tw] at h2
    exact h2
  rw [dl]
  have ln : l.length = (l.takeWhile g).length + (l.dropWhile g).length := by rw [← List.length_append, tw]
  cases hd : l.dropWhile g with
  | nil =>
    have ha : l.all g = true := by
      have := tw_all g l
      rw [hd, List.append_nil] at tw
      rwa [tw] at this
    simp [ha]
  | cons c r =>
    have gf := dw_head hd
    have gc : g c ≠ true := by rw [gf]; simp
    have nall : ¬ l.all g = true := fun h => gc (List.all_eq_true.mp h c (by rw [← tw, hd]; simp))
    have ll : ((c :: r).reverse.takeWhile g).length ≤ r.length := by
      rw [List.reverse_cons]
      have := tw_len gf r.reverse
      simpa using this
    rw [hd] at ln
    simp only [List.length_cons] at ln
    constructor
    · intro h
      have := congrArg List.length h
      simp at this ll
      omega
    · exact fun h => absurd h nall
theorem cps_num (n : Nat) : (Str.ofString (toString (n : Int))).cps.toList = (Nat.toDigits 10 n).map Char.toNat := by
  have e : toString (n : Int) = String.ofList (Nat.toDigits 10 n) := rfl
  rw [e, PySem.W.Fast.ofString_ofList]
theorem ofNat_inj {l m : List Nat} (hl : ∀ c ∈ l, c < 128) : (l.map Char.ofNat).map Char.toNat = l := by
  rw [List.map_map]
  conv => rhs; rw [← List.map_id l]
  refine List.map_congr_left fun c hc => ?_
  have h := hl c hc
  show (Char.ofNat c).toNat = c
  have hv : c.isValidChar := Or.inl (by omega)
  simp [Char.ofNat, hv, Char.ofNatAux, Char.toNat]
end

end Den

namespace Den
open PySem PySem.Spec PyProof.Rows L2 Bal
section
variable {S : Store}
theorem ne_strs {a b : Str} (ha : PyData.strOk a = true) (hb : PyData.strOk b = true) : fNe S (.str a) (.str b) = some (.bl (!decide (a = b))) := by
  have hx := eq_strs (S := S) (lay_str ha) (lay_str hb)
  simp only [fEq] at hx
  simp only [fNe]
  cases he : eqD S (.str a) (.str b) with
  | none => rw [he] at hx; cases hx
  | some c =>
    rw [he] at hx
    have hx : some (W.bl c) = some (.bl (decide (a = b))) := hx
    cases hx
    rfl
theorem ok_ofString (s : String) : PyData.strOk (Str.ofString s) = true := by
  have e : Str.ofString s = ⟨(s.toList.map Char.toNat).toArray⟩ := by
    have := PySem.W.Fast.ofString_ofList s.toList
    rwa [String.ofList_toList] at this
  rw [e]
  unfold PyData.strOk
  rw [← Array.all_toList, List.all_eq_true]
  intro c hc
  have hc : c ∈ s.toList.map Char.toNat := hc
  obtain ⟨d, _, rfl⟩ := List.mem_map.mp hc
  have := d.valid
  rw [decide_eq_true_eq]
  rcases this with h | h
  · have : d.toNat < 0xd800 := h
    omega
  · exact h.2
theorem strip_eq (v : Str) : Txt.stripChars v "0123456789" = PySem.W.stripped (("0123456789" : Str).cps.contains) true true v := stripBy_eq _ _ _ _
theorem strip_figs (v : Str) : (Txt.stripChars v "0123456789").cps.toList = [] ↔ v.cps.toList.all isD = true := by
  have hg : ∀ c, ("0123456789" : Str).cps.contains c = isD c := fun c => by
    rw [← in_figs, Bool.eq_iff_iff, decide_eq_true_eq, Array.contains_iff_mem, Array.mem_toList_iff]
  rw [strip_eq, strip_nil, show (("0123456789" : Str).cps.contains) = isD from funext hg]
theorem ok_strip {v : Str} (h : PyData.strOk v = true) : PyData.strOk (Txt.stripChars v "0123456789") = true := by
  rw [strip_eq]
  unfold PyData.strOk at h ⊢
  rw [← Array.all_toList, List.all_eq_true] at h ⊢
  intro c hc
  refine h c ?_
  have hc : c ∈ (v.cps.extract (v.cps.toList.takeWhile (("0123456789" : Str).cps.contains)).length (v.length - ((v.cps.toList.drop (v.cps.toList.takeWhile (("0123456789" : Str).cps.contains)).length).reverse.takeWhile (("0123456789" : Str).cps.contains)).length)).toList := hc
  rw [Array.toList_extract, List.extract_eq_take_drop] at hc
  exact List.mem_of_mem_drop (List.mem_of_mem_take hc)
/-- a number as the law takes it -/
def plainB (v : Str) (least : Int) : Bool := fine v.cps.toList && (decide (v.cps.toList = [48] ∨ v.cps.toList.take 1 ≠ [48]) && decide (least ≤ (PySem.NumText.digitsVal v.cps.toList : Nat)))
theorem same_text {v : Str} (h : v.cps.toList.all isD = true) (h1 : v.cps.toList ≠ []) : (Str.ofString (toString ((PySem.NumText.digitsVal v.cps.toList : Nat) : Int)) = v) ↔ (v.cps.toList = [48] ∨ v.cps.toList.take 1 ≠ [48]) := by
  have hd := digs_of.mp h
  rw [str_iff, cps_num, ← told_same hd h1]
  constructor
  · intro e
    have := congrArg (List.map Char.ofNat) e
    rw [List.map_map] at this
    rw [← this]
    conv => lhs; rw [← List.map_id (Nat.toDigits 10 _)]
    refine List.map_congr_left fun c _ => ?_
    show c = Char.ofNat c.toNat
    rw [Char.ofNat_toNat]
  · intro e
    rw [e]
    exact ofNat_inj (m := []) fun c hc => by have := hd c hc; omega
end

end Den

namespace Den
open PySem PySem.Spec PyProof.Rows L2 Bal
section
variable {S : Store}
theorem strW_nat (n : Nat) (h : n < 10 ^ 11) : fStr S [.int (n : Int)] = some (.str (Str.ofString (toString (n : Int)))) := by
  have h : n < 100000000000 := by simpa using h
  have hl : decide ((n : Int).natAbs < 1000000000000000000) = true := decide_eq_true (by omega)
  simp only [fStr, strW, hl, if_true, Option.map_some]
theorem dv_lt : ∀ (l : List Nat), PySem.NumText.AllDigits l → PySem.NumText.digitsVal l < 10 ^ l.length := by
  intro l
  have key : ∀ (r : List Nat) (a : Nat), PySem.NumText.AllDigits r → r.foldl (fun acc c => acc * 10 + (c - 48)) a < (a + 1) * 10 ^ r.length := fun r => by
    induction r with
    | nil => intro a _; simp
    | cons c r ih =>
      intro a h
      have hc := h.head
      have := ih (a * 10 + (c - 48)) h.tail
      rw [List.foldl_cons, List.length_cons, Nat.pow_succ]
      refine Nat.lt_of_lt_of_le this ?_
      rw [Nat.mul_comm (10 ^ r.length) 10, ← Nat.mul_assoc]
      exact Nat.mul_le_mul_right _ (by omega)
  intro h
  have := key l 0 h
  unfold PySem.NumText.digitsVal
  simpa using this
theorem v_isplain {v : Str} (hz : v.length ≤ 1000) (ok : PyData.strOk v = true) (least : Int) : g_law_is_plain [.str v, .int least] S = .ok (.bl (plainB v least)) S := by
  have hl := len_cps v
  have eok : PyData.strOk "" = true := by decide +kernel
  have q0 := eq_strs (S := S) (lay_str ok) (lay_str eok)
  have p0 : decide (v = ("" : Str)) = decide (v.cps.toList = []) := decide_eq_decide.mpr (by rw [str_iff, empty_cps])
  rw [p0] at q0
  have ln : fLenT S [.str v] = some (.int (v.cps.toList.length : Nat)) := by
    show (if szB v.length = true then some (W.int (v.length : Nat)) else none) = _
    rw [if_pos (show szB v.length = true from decide_eq_true (by omega)), len_cps]
  have st : tx1 (fun a _ => szB a.length) (fun a b => .str (Txt.stripChars a b)) (.str v) (.str "0123456789") = some (.str (Txt.stripChars v "0123456789")) := by
    show (if szB v.length = true then some (W.str (Txt.stripChars v "0123456789")) else none) = _
    rw [if_pos (show szB v.length = true from decide_eq_true (by omega))]
  have ns := ne_strs (S := S) (ok_strip ok) eok
  have pn : decide (Txt.stripChars v "0123456789" = ("" : Str)) = v.cps.toList.all isD := by
    rw [Bool.eq_iff_iff, decide_eq_true_eq, str_iff, empty_cps, strip_figs]
  rw [pn] at ns
  have t1 : (dOrT (dTst (dBin fEq (dVar 0) (dC (.str "")))) (dOrT (dTst (dBin (fCmp pGt) (dCallN fLenT (dCons (dVar 0) dNil)) (dC (.int 10)))) (dTst (dBin fNe (dStripC (dVar 0) (dC (.str "0123456789"))) (dC (.str "")))))) [some (.str v), some (.int least)] S = .ok (!fine v.cps.toList) S := by
    unfold fine
    generalize W.str (Txt.stripChars v "0123456789") = SV at *
    generalize v.cps.toList.all isD = AL at *
    have hne : (v.cps.toList = []) ↔ ¬ 1 ≤ v.cps.toList.length := by
      rw [← List.length_eq_zero_iff]
      omega
    by_cases c1 : 1 ≤ v.cps.toList.length
    · rw [decide_eq_false (fun z => (hne.mp z) c1)] at q0
      by_cases c2 : v.cps.toList.length ≤ 10
      · have d2 : ¬ (10 : Int) < (v.cps.toList.length : Int) := by omega
        rw [decide_eq_true ⟨c1, c2⟩]
        generalize (v.cps.toList.length : Int) = L at *
        generalize W.str "0123456789" = FG at *
        generalize W.str "" = EM at *
        simp [dOrT, dTst, dBin, dC, dCallN, dCons, dNil, dVar, bnd, ret, rdS, q0, toB, ln, fCmp, pGt_ap, d2, dStripC, dT1, isT, st, ns]
      · have d2 : (10 : Int) < (v.cps.toList.length : Int) := by omega
        rw [decide_eq_false fun z => c2 z.2]
        generalize (v.cps.toList.length : Int) = L at *
        generalize W.str "" = EM at *
        simp [dOrT, dTst, dBin, dC, dCallN, dCons, dNil, dVar, bnd, ret, rdS, q0, toB, ln, fCmp, pGt_ap, d2]
    · rw [decide_eq_true (hne.mpr c1)] at q0
      rw [decide_eq_false fun z => c1 z.1]
      generalize W.str "" = EM at *
      simp [dOrT, dTst, dBin, dC, dVar, bnd, ret, rdS, q0, toB]
  show fnW 2 d_law_is_plain _ S = _
  show fnR (d_law_is_plain [some (.str v), some (.int least)] S) = _
  unfold d_law_is_plain plainB
  by_cases hf : fine v.cps.toList = true
  · rw [hf] at t1
    have hf2 := hf
    unfold fine at hf2
    rw [Bool.and_eq_true, decide_eq_true_eq] at hf2
    obtain ⟨⟨h1, h2⟩, h3⟩ := hf2
    have hd := digs_of.mp h3
    have hne : v.cps.toList ≠ [] := fun e => by rw [e] at h1; simp at h1
    have it := PySem.intText_digits hd hne (by omega)
    have ix : fIntX S [.str v] = some (.int (PySem.NumText.digitsVal v.cps.toList : Nat)) := by
      unfold fIntX
      dsimp only
      rw [it]
      dsimp only
      rw [if_pos (decide_eq_true (by omega))]
    have lt : PySem.NumText.digitsVal v.cps.toList < 10 ^ 11 := Nat.lt_of_lt_of_le (dv_lt _ hd) (Nat.pow_le_pow_right (by decide) (by omega))
    have fs := strW_nat (S := S) _ lt
    have fe : fEq S (.str (Str.ofString (toString ((PySem.NumText.digitsVal v.cps.toList : Nat) : Int)))) (.str v) = some (.bl (decide (v.cps.toList = [48] ∨ v.cps.toList.take 1 ≠ [48]))) := (eq_strs (S := S) (lay_str (ok_ofString (toString ((PySem.NumText.digitsVal v.cps.toList : Nat) : Int)))) (lay_str ok)).trans (by rw [decide_eq_decide.mpr (same_text h3 hne)])
    have s1 : sIf (dOrT (dTst (dBin fEq (dVar 0) (dC (.str "")))) (dOrT (dTst (dBin (fCmp pGt) (dCallN fLenT (dCons (dVar 0) dNil)) (dC (.int 10)))) (dTst (dBin fNe (dStripC (dVar 0) (dC (.str "0123456789"))) (dC (.str "")))))) (sRet (dC (.bl false))) sNil [some (.str v), some (.int least)] S = .ok (.nx [some (.str v), some (.int least)]) S := by
      rw [sIf, lft, t1]
      rfl
    rw [sSeq, s1, hf]
    show fnR (sRet _ _ _) = _
    generalize W.str (Str.ofString (toString ((PySem.NumText.digitsVal v.cps.toList : Nat) : Int))) = TS at *
    generalize ((PySem.NumText.digitsVal v.cps.toList : Nat) : Int) = N at *
    by_cases hc : v.cps.toList = [48] ∨ v.cps.toList.take 1 ≠ [48]
    · rw [decide_eq_true hc] at fe ⊢
      simp [sRet, lft, dAnd, dTst, dBin, dCallN, dCons, dNil, dVar, bnd, ret, rdS, ix, fs, fe, toB, fCmp, pGe_ap, fnR]
    · rw [decide_eq_false hc] at fe ⊢
      simp [sRet, lft, dAnd, dTst, dBin, dCallN, dCons, dNil, dVar, bnd, ret, rdS, ix, fs, fe, toB, fnR]
  · rw [Bool.not_eq_true] at hf
    rw [hf] at t1
    have s1 : sIf (dOrT (dTst (dBin fEq (dVar 0) (dC (.str "")))) (dOrT (dTst (dBin (fCmp pGt) (dCallN fLenT (dCons (dVar 0) dNil)) (dC (.int 10)))) (dTst (dBin fNe (dStripC (dVar 0) (dC (.str "0123456789"))) (dC (.str "")))))) (sRet (dC (.bl false))) sNil [some (.str v), some (.int least)] S = .ok (.rt (.bl false)) S := by
      rw [sIf, lft, t1]
      rfl
    rw [sSeq, s1, hf]
    rfl
end

end Den

namespace Den
open PySem PySem.Spec PyProof.Rows L2 Bal
section
variable {S : Store}
def enT (k : Nat) : List Str → List W
  | [] => []
  | w :: ws => .tup [.int (k : Int), .str w] :: enT (k + 1) ws
theorem en_get : ∀ (ws : List Str) (k i : Nat), (enT k ws)[i]? = (ws[i]?).map fun w => W.tup [.int ((k + i : Nat) : Int), .str w]
  | [], _, _ => by simp [enT]
  | w :: ws, k, 0 => by simp [enT]
  | w :: ws, k, i + 1 => by
    have := en_get ws (k + 1) i
    simp only [enT, List.getElem?_cons_succ, this]
    rw [show k + 1 + i = k + (i + 1) by omega]
theorem en_strs (ws : List Str) : enL (ws.map W.str) = enT 0 ws := by
  apply List.ext_getElem?
  intro i
  rw [en_get]
  unfold enL
  rw [List.getElem?_map]
  by_cases hi : i < ws.length
  · rw [List.getElem?_range (by simpa using hi)]
    have e : ws[i]? = some ws[i] := List.getElem?_eq_getElem hi
    simp [e]
  · have e : ws[i]? = none := List.getElem?_eq_none (by omega)
    rw [List.getElem?_eq_none (by simp; omega)]
    rw [e]
    rfl
theorem num_int {w : Str} {n : Int} (h : numO w = some n) : fIntX S [.str w] = some (.int n) := by
  unfold numO at h
  split at h
  · rename_i hf
    obtain ⟨n', h1, h2⟩ := text_some hf.1
    rw [h1] at h
    cases h
    unfold fIntX
    dsimp only
    rw [h1]
    dsimp only
    rw [if_pos (decide_eq_true h2)]
  · cases h
theorem set_same {S : Store} {m : Nat} {x : List W} (e : S[m]? = some x) : S.set m x = S := by
  apply List.ext_getElem?
  intro j
  by_cases hj : m = j
  · subst hj; rw [List.getElem?_set_self (get_lt e), e]
  · rw [List.getElem?_set_ne hj]
end

end Den

namespace Den
open PySem PySem.Spec PyProof.Rows L2 Bal
section
variable {S : Store}
structure Tx (t : Str) : Prop where
  z : t.length ≤ 1000
  ok : PyData.strOk t = true
  n : (Txt.split t " ").length ≤ 1000
  ws : ∀ w ∈ Txt.split t " ", w.length ≤ 1000 ∧ PyData.strOk w = true
end

end Den

namespace Den
open PySem PySem.Spec PyProof.Rows L2 Bal
section
theorem sub_ok {x : Str} (h : PyData.strOk x = true) (i j : Nat) : PyData.strOk (PySem.Builtin.Str.strSub x i j) = true := by
  unfold PyData.strOk at h ⊢
  rw [← Array.all_toList, List.all_eq_true] at h ⊢
  intro c hc
  refine h c ?_
  have hc : c ∈ (x.cps.extract i j).toList := hc
  rw [Array.toList_extract, List.extract_eq_take_drop] at hc
  exact List.mem_of_mem_drop (List.mem_of_mem_take hc)
theorem parts_ok {x : Str} (h : PyData.strOk x = true) (w : Nat) : ∀ (cuts : List Nat) (a : Nat), ∀ p ∈ PySem.StrLaws.partsFrom x w a cuts, PyData.strOk p = true
  | [], a, p, hp => by rw [List.mem_singleton.mp hp]; exact sub_ok h _ _
  | c :: r, a, p, hp => by
    rcases List.mem_cons.mp hp with rfl | hp'
    · exact sub_ok h _ _
    · exact parts_ok h w r _ p hp'
theorem split_ok {x y a : Str} (hx : PyData.strOk x = true) (h : a ∈ Txt.split x y) : PyData.strOk a = true := by
  unfold Txt.split at h
  split at h
  · rw [List.mem_singleton.mp h]; exact hx
  · split at h
    · rw [List.mem_singleton.mp h]; exact hx
    · rw [PySem.StrLaws.partsBetween_eq] at h
      exact parts_ok hx _ _ _ a h
/-- a text of bounded length may be read -/
theorem tx_of {t : Str} (hz : t.length ≤ 990) (ok : PyData.strOk t = true) : Tx t := ⟨by omega, ok, by have := PyProof.Rows.split_le t " "; omega, fun w hw => ⟨by have := PyProof.Rows.part_short hw; omega, split_ok ok hw⟩⟩
end

end Den

namespace Den
open PySem PySem.Spec PyProof.Rows L2 Bal
section
variable {S : Store}
/-- a sign drawn from a text -/
theorem v_pickS {n : Nat} {c : Int} {p : List W} (e : S[n]? = some p) (hp : PotL p c) (hc : c ≤ 1000000) (z : Str) (h0 : 0 < z.cps.toList.length) (h1 : z.cps.toList.length ≤ 1000) : ∃ (x : Nat) (p' : List W), g_law_pick [.lst n, .str z] S = .ok (.str ⟨#[x]⟩) (S.set n p') ∧ x ∈ z.cps.toList ∧ PotL p' (c + 1) := by
  obtain ⟨r, p', ht, r0, r1, hp'⟩ := v_take e hp hc (b := (z.cps.toList.length : Int)) (by omega) (by omega) 5
  obtain ⟨i, rfl⟩ := Int.eq_ofNat_of_zero_le r0
  have hi : i < z.cps.toList.length := by omega
  have ea : atI z.cps.toList (i : Int) = some (z.cps.toList[i]'hi) := by
    unfold atI ixN
    rw [if_pos (by omega), if_pos (by omega)]
    rw [Option.bind_some]
    exact List.getElem?_eq_getElem hi
  have hz : szB z.length = true := decide_eq_true (by rw [len_cps]; omega)
  have ln : fLenT S [.str z] = some (.int (z.cps.toList.length : Nat)) := by
    show (if szB z.length = true then some (W.int (z.length : Nat)) else none) = _
    rw [if_pos hz, len_cps]
  have ix : fIxT (S.set n p') (.str z) (.int (i : Int)) = some (.str ⟨#[z.cps.toList[i]'hi]⟩) := by
    show (if szB z.length = true then (atI z.cps.toList (i : Int)).map fun c => W.str ⟨#[c]⟩ else none) = _
    rw [if_pos hz, ea]
    rfl
  refine ⟨z.cps.toList[i]'hi, p', ?_, List.getElem_mem hi, hp'⟩
  show fnW 2 d_law_pick _ S = _
  have ht : g_law_take 6 [.lst n, .int (z.cps.toList.length : Int)] S = .ok (.int (i : Int)) (S.set n p') := ht
  generalize S.set n p' = T at *
  generalize W.str ⟨#[z.cps.toList[i]'hi]⟩ = R at *
  generalize (z.cps.toList.length : Int) = L at *
  simp [d_law_pick, fnW, sRet, lft, dBin, dVar, dCall, dCons, dNil, dCallN, bnd, ret, rdS, ln, ht, ix]
end

section
theorem ok_all {x : Str} : PyData.strOk x = true ↔ ∀ c ∈ x.cps.toList, decide (c < 0x110000) = true := by
  unfold PyData.strOk
  rw [← Array.all_toList, List.all_eq_true]
theorem ok_cat {x y : Str} (hx : PyData.strOk x = true) (hy : PyData.strOk y = true) : PyData.strOk (x ++ y) = true := by
  rw [ok_all] at *
  intro c hc
  have hc : c ∈ (x.cps ++ y.cps).toList := hc
  rw [Array.toList_append, List.mem_append] at hc
  exact hc.elim (hx c) (hy c)
theorem ok_blank : PyData.strOk " " = true := by decide +kernel
theorem ok_joinS : ∀ ys : List Str, (∀ y ∈ ys, PyData.strOk y = true) → PyData.strOk (Str.join " " ys) = true
  | [], _ => by decide +kernel
  | [x], h => h x (List.mem_singleton.mpr rfl)
  | x :: y :: r, h => by
    have ih := ok_joinS (y :: r) fun z hz => h z (List.mem_cons_of_mem _ hz)
    exact ok_cat (ok_cat (h x (List.mem_cons_self ..)) ok_blank) ih
theorem txt_join (ys : List Str) : Txt.join " " ys = Str.join " " ys := PySem.StrLaws.glued_eq_join " " ys
def Wt (q : List Str) : Nat := (q.map (·.length)).sum + q.length
theorem wt_app (a b : List Str) : Wt (a ++ b) = Wt a + Wt b := by simp [Wt]; omega
theorem wt_rev (a : List Str) : Wt a.reverse = Wt a := by
  have h : (a.reverse.map (·.length)).sum = (a.map (·.length)).sum := ((List.reverse_perm a).map _).sum_nat
  simp only [Wt, h, List.length_reverse]
theorem wt_sub {a b : List Str} (h : a.Sublist b) : Wt a ≤ Wt b := by
  induction h with
  | slnil => exact Nat.le_refl _
  | cons x _ ih => simp [Wt] at ih ⊢; omega
  | cons_cons x _ ih => simp [Wt] at ih ⊢; omega
theorem len_blank : (" " : Str).length = 1 := by decide +kernel
theorem len_joinS (ys : List Str) : (Str.join " " ys).length ≤ Wt ys := by
  cases ys with
  | nil => decide +kernel
  | cons a l =>
    have h := PyProof.Rows.len_join_cons " " a l
    rw [len_blank] at h
    rw [h]
    simp only [Wt, List.length_cons]
    omega
/-- parts of a text, of bounded weight -/
structure Bn (q : List Str) (N : Nat) : Prop where
  ok : ∀ y ∈ q, PyData.strOk y = true
  w : Wt q ≤ N
theorem Bn.app {a b : List Str} {N M : Nat} (h : Bn a N) (g : Bn b M) : Bn (a ++ b) (N + M) := ⟨fun y hy => (List.mem_append.mp hy).elim (h.ok y) (g.ok y), by rw [wt_app]; have := h.w; have := g.w; omega⟩
theorem Bn.rev {a : List Str} {N : Nat} (h : Bn a N) : Bn a.reverse N := ⟨fun y hy => h.ok y (List.mem_reverse.mp hy), by rw [wt_rev]; exact h.w⟩
theorem Bn.sub {a b : List Str} {N : Nat} (h : Bn b N) (s : a.Sublist b) : Bn a N := ⟨fun y hy => h.ok y (s.subset hy), Nat.le_trans (wt_sub s) h.w⟩
theorem Bn.len {a : List Str} {N : Nat} (h : Bn a N) : a.length ≤ N := by have := h.w; unfold Wt at this; omega
theorem bn_split {t : Str} (h : PyData.strOk t = true) : Bn (Txt.split t " ") (t.length + 1) := ⟨fun y hy => split_ok h hy, by have := PyProof.Rows.split_weight t " " (by rw [len_blank]; exact Nat.le_refl _); unfold Wt; exact this⟩
theorem split_ne (t : Str) : Txt.split t " " ≠ [] := by
  unfold Txt.split
  split
  · simp
  · split
    · simp
    · rw [PySem.StrLaws.partsBetween_eq]
      obtain ⟨p, r, h⟩ := PySem.StrLaws.partsFrom_ne t (" " : Str).length 0 (PySem.Builtin.Str.occurrences t " " 0 t.length (t.length + 1))
      rw [h]
      simp
theorem cut_strs (ps : List Str) (lo hi : Option Int) : ∃ qs : List Str, cutW (ps.map W.str) lo hi = qs.map W.str ∧ qs.Sublist ps := by
  refine ⟨(ps.drop (HT.sIx ps.length 0 lo)).take (HT.sIx ps.length ps.length hi - HT.sIx ps.length 0 lo), ?_, (List.take_sublist _ _).trans (List.drop_sublist _ _)⟩
  unfold cutW
  rw [List.length_map, ← List.map_drop, ← List.map_take]
theorem strT_strs : ∀ q : List Str, strT (q.map W.str) = some q
  | [] => rfl
  | y :: q => by
    show (strT (q.map W.str)).map (y :: ·) = _
    rw [strT_strs q]
    rfl
end
section
variable {S : Store}
theorem join_fits {q : List Str} {N : Nat} (h : Bn q N) (hN : N ≤ 16000000) : fJoin S (.str " ") (.cl (q.map W.str)) = some (.str (Str.join " " q)) := by
  have hw := h.w
  unfold Wt at hw
  have c : (q.map (fun y : Str => y.length)).sum + q.length * (" " : Str).length ≤ 16777216 := by rw [len_blank]; omega
  unfold fJoin
  dsimp only
  have e : (itmsS S (.cl (q.map W.str))).bind strT = some q := strT_strs q
  rw [e]
  dsimp only
  rw [if_pos (decide_eq_true c), txt_join]
theorem cut_fit {S : Store} (ps : List Str) (lo hi : Option Int) {N : Nat} (h : Bn ps N) (hN : N ≤ 1000) : ∃ qs, Bn qs N ∧ fCut .cl (.cl (ps.map W.str)) lo hi S = .ok (.cl (qs.map W.str)) S := by
  obtain ⟨qs, e, s⟩ := cut_strs ps lo hi
  refine ⟨qs, h.sub s, ?_⟩
  show newK .cl (cutW (ps.map W.str) lo hi) S = _
  rw [e]
  rfl
theorem add_fit {S : Store} {a b : List Str} {N M : Nat} (ha : Bn a N) (hb : Bn b M) (hN : N + M ≤ 10000) : fAdd S (.cl (a.map W.str)) (.cl (b.map W.str)) = some (.cl ((a ++ b).map W.str)) := by
  have h1 := ha.len
  have h2 := hb.len
  have z : szB ((a.map W.str).length + (b.map W.str).length) = true := decide_eq_true (by simp; omega)
  show (if szB ((a.map W.str).length + (b.map W.str).length) = true then some (W.cl (a.map W.str ++ b.map W.str)) else none) = _
  rw [if_pos z, List.map_append]
theorem cat_fit {S : Store} {x y : Str} (h : x.length + y.length ≤ 10000) : fCatS S (.str x) (.str y) = some (.str (x ++ y)) := by
  show (if szB (x.length + y.length) = true then some (W.str (x ++ y)) else none) = _
  rw [if_pos (show szB (x.length + y.length) = true from decide_eq_true (by omega))]
theorem cutT_fit {x : Str} (lo hi : Option Int) (h : x.length ≤ 1000) : cutT lo hi (.str x) = some (.str (cutS x lo hi)) := by
  show (if szB x.length = true then some (W.str (cutS x lo hi)) else none) = _
  rw [if_pos (show szB x.length = true from decide_eq_true (by omega))]
theorem cutS_len (x : Str) (lo hi : Option Int) : (cutS x lo hi).length ≤ x.length := by
  unfold cutS
  rw [len_cps, len_cps]
  simp only [List.length_take, List.length_drop]
  omega
end

end Den

namespace Den
open PySem PySem.Spec PyProof.Rows L2 Bal
section
variable {S : Store}
/-- a text some sign or part of which is otherwise -/
theorem v_signs {n : Nat} {c : Int} {p : List W} (e : S[n]? = some p) (hp : PotL p c) (hc : c ≤ 990000) {t : Str} (hz : t.length ≤ 300) (ok : PyData.strOk t = true) : ∃ (v : Str) (S' : Store), g_law_signs_bent [.lst n, .str t] S = .ok (.str v) S' ∧ PyData.strOk v = true ∧ v.length ≤ 910 ∧ Aft S S' n (c + 4) := by
  have hn := get_lt e
  obtain ⟨a, S1, t1, a0, a1, f1⟩ := v_takeA (b := (t.length : Int) + 1) e hp (by omega) (by omega) (by omega)
  obtain ⟨p1, e1, hp1⟩ := f1.pot hn
  obtain ⟨w, S2, t2, w0, w1, f2⟩ := v_takeA (b := 7) e1 hp1 (by omega) (by omega) (by omega)
  obtain ⟨p2, e2, hp2⟩ := f2.pot (f1.len hn)
  have zc : ("0123456789 -:+_.a" : Str).cps.toList.length = 17 := by decide +kernel
  have zo : PyData.strOk ("0123456789 -:+_.a" : Str) = true := by decide +kernel
  obtain ⟨x, p3, t3, hx, hp3⟩ := v_pickS e2 hp2 (by omega) "0123456789 -:+_.a" (by omega) (by omega)
  have ox : PyData.strOk (⟨#[x]⟩ : Str) = true := by
    rw [ok_all] at *
    intro c hc
    have hc : c ∈ [x] := hc
    rw [List.mem_singleton.mp hc]
    exact zo x hx
  have lx : (⟨#[x]⟩ : Str).length = 1 := rfl
  have f3 : Aft S2 (S2.set n p3) n (c + 1 + 1 + 1) := ⟨p3, [], by simp, hp3⟩
  have f13 : Aft S (S2.set n p3) n (c + 3) := ((f1.trans hn f2).trans hn f3).mono (by omega)
  generalize S2.set n p3 = S3 at *
  obtain ⟨p4, e4, hp4⟩ := f13.pot hn
  have hz' : szB t.length = true := decide_eq_true (by omega)
  have ln : fLenT S [.str t] = some (.int (t.length : Nat)) := by
    show (if szB t.length = true then some (W.int (t.length : Nat)) else none) = _
    rw [if_pos hz']
  have bs := bn_split ok
  obtain ⟨ps, hps⟩ : ∃ ps, ps = Txt.split t " " := ⟨_, rfl⟩
  have hpl : 0 < ps.length := by
    rw [hps]
    cases h : Txt.split t " " with
    | nil => exact absurd h (split_ne t)
    | cons a l => simp
  have hpn := (bn_split ok).len
  obtain ⟨b, S4, t4, b0, b4, f4⟩ := v_takeA (b := (ps.length : Int)) e4 hp4 (by omega) (by omega) (by rw [hps]; omega)
  have sp : spW (.str t) (.str " ") S3 = .ok (.cl (ps.map W.str)) S3 := by
    have hb : ((" " : Str).length == 0) = false := by decide +kernel
    have hn := bs.len
    have c : (!((" " : Str).length == 0) && szB (t.length + 2) && szB (Txt.split t " ").length) = true := by
      rw [hb, show szB (t.length + 2) = true from decide_eq_true (by omega), show szB (Txt.split t " ").length = true from decide_eq_true (by omega)]
      rfl
    show (if (!((" " : Str).length == 0) && szB (t.length + 2) && szB (Txt.split t " ").length) = true then newK .cl ((Txt.split t " ").map W.str) else bad) S3 = _
    rw [if_pos c, hps]
    rfl
  rw [← hps] at bs
  have s1 : sAsg (.tp [.nm 2, .nm 3]) (dTup (dCons (dCall 2 (g_law_take 6) (dCons (dVar 0) (dCons (dBin fAdd (dCallN fLenT (dCons (dVar 1) dNil)) (dC (.int 1))) dNil))) (dCons (dCall 2 (g_law_take 6) (dCons (dVar 0) (dCons (dC (.int 7)) dNil))) dNil))) [some (.lst n), some (.str t), none, none, none, none, none] S = .ok (.nx [some (.lst n), some (.str t), some (.int a), some (.int w), none, none, none]) S2 := by
    generalize (t.length : Int) = L at *
    have ad : fAdd S (.int L) (.int 1) = some (.int (L + 1)) := rfl
    simp [sAsg, lft, dTup, dCall, dCallN, dCons, dNil, dVar, dBin, dC, bnd, ret, rdS, ln, ad, t1, t2, mkT, szB, setT, setTs, itmsS]
  have s2 : sAsg (.tp [.nm 4, .nm 5]) (dTup (dCons (dCall 2 g_law_pick (dCons (dVar 0) (dCons (dC (.str "0123456789 -:+_.a")) dNil))) (dCons (dSplit (dVar 1) (dC (.str " "))) dNil))) [some (.lst n), some (.str t), some (.int a), some (.int w), none, none, none] S2 = .ok (.nx [some (.lst n), some (.str t), some (.int a), some (.int w), some (.str ⟨#[x]⟩), some (.cl (ps.map W.str)), none]) S3 := by
    generalize ps.map W.str = PW at *
    generalize W.str ⟨#[x]⟩ = XW at *
    simp [sAsg, lft, dTup, dCall, dCallN, dCons, dNil, dVar, dBin, dC, bnd, ret, rdS, t3, dSplit, isT, sp, mkT, szB, setT, setTs, itmsS]
  show ∃ (v : Str) (S' : Store), fnR (d_law_signs_bent [some (.lst n), some (.str t), none, none, none, none, none] S) = _ ∧ _
  unfold d_law_signs_bent
  rw [sSeq, s1]
  show ∃ (v : Str) (S' : Store), fnR (sSeq _ _ _ _) = _ ∧ _
  rw [sSeq, s2]
  show ∃ (v : Str) (S' : Store), fnR (sSeq _ _ _ _) = _ ∧ _
  have b1 : ∀ lo hi, cutT lo hi (.str t) = some (.str (cutS t lo hi)) := fun lo hi => cutT_fit lo hi (by omega)
  have b2 : ∀ lo hi, (cutS t lo hi).length ≤ 300 := fun lo hi => Nat.le_trans (cutS_len t lo hi) hz
  have b3 : ∀ lo hi, PyData.strOk (cutS t lo hi) = true := fun lo hi => ok_cut ok
  have cases7 : w = 0 ∨ w = 1 ∨ w = 2 ∨ w = 3 ∨ w = 4 ∨ w = 5 ∨ w = 6 := by omega
  have cf := fun (lo hi : Option Int) => cut_fit (S := S4) ps lo hi bs (by omega)
  have t4 : g_law_take 6 [.lst n, .int (ps.length : Int)] S3 = .ok (.int b) S4 := t4
  have lnp : fLen S3 [.cl (ps.map W.str)] = some (.int (ps.length : Nat)) := by simp [fLen, ixW, itmsS]
  have s3 : sSet 6 (dCall 2 (g_law_take 6) (dCons (dVar 0) (dCons (dCallN fLen (dCons (dVar 5) dNil)) dNil))) [some (.lst n), some (.str t), some (.int a), some (.int w), some (.str ⟨#[x]⟩), some (.cl (ps.map W.str)), none] S3 = .ok (.nx [some (.lst n), some (.str t), some (.int a), some (.int w), some (.str ⟨#[x]⟩), some (.cl (ps.map W.str)), some (.int b)]) S4 := by
    generalize ps.map W.str = PW at *
    generalize (ps.length : Int) = L at *
    generalize W.str ⟨#[x]⟩ = XW at *
    simp [sSet, sAsg, setT, lft, dCall, dCallN, dCons, dNil, dVar, bnd, ret, rdS, lnp, t4]
  have f14 : Aft S S4 n (c + 4) := (f13.trans hn f4).mono (by omega)
  have adF : ∀ (x y : Int), fAdd S3 (.int x) (.int y) = some (.int (x + y)) := fun _ _ => rfl
  have adF4 : ∀ (x y : Int), fAdd S4 (.int x) (.int y) = some (.int (x + y)) := fun _ _ => rfl
  rcases cases7 with rfl | rfl | rfl | rfl | rfl | rfl | rfl
  · refine ⟨cutS t none (some a) ++ ⟨#[x]⟩ ++ cutS t (some a) none, S3, ?_, ok_cat (ok_cat (b3 _ _) ox) (b3 _ _), ?_, f13.mono (by omega)⟩
    · have k1 := b1 none (some a)
      have k2 := b1 (some a) none
      have l1 := b2 none (some a)
      have l2 := b2 (some a) none
      clear cf s3 t4 lnp bs sp
      generalize cutS t none (some a) = u1 at *
      generalize cutS t (some a) none = u2 at *
      have k3 := cat_fit (S := S3) (x := u1) (y := ⟨#[x]⟩) (by omega)
      have k4 := cat_fit (S := S3) (x := u1 ++ ⟨#[x]⟩) (y := u2) (by rw [Str.length_append]; omega)
      generalize u1 ++ (⟨#[x]⟩ : Str) ++ u2 = u4 at *
      generalize u1 ++ (⟨#[x]⟩ : Str) = u3 at *
      generalize (⟨#[x]⟩ : Str) = xs at *
      simp [sSeq, sIf, lft, dTst, dBin, dVar, dC, bnd, ret, rdS, eq_int, toB, sRet, dCutT, oNone, oSome, k1, k2, k3, k4, fnR]
    · have l1 := b2 none (some a)
      have l2 := b2 (some a) none
      rw [Str.length_append, Str.length_append]
      omega
  · refine ⟨cutS t none (some a) ++ cutS t (some (a + 1)) none, S3, ?_, ok_cat (b3 _ _) (b3 _ _), ?_, f13.mono (by omega)⟩
    · have k1 := b1 none (some a)
      have k2 := b1 (some (a + 1)) none
      have l1 := b2 none (some a)
      have l2 := b2 (some (a + 1)) none
      have k5 := adF a 1
      clear cf s3 t4 lnp bs sp
      generalize cutS t none (some a) = u1 at *
      generalize cutS t (some (a + 1)) none = u2 at *
      have k3 := cat_fit (S := S3) (x := u1) (y := u2) (by omega)
      generalize a + 1 = a2 at *
      generalize u1 ++ u2 = u4 at *
      generalize (⟨#[x]⟩ : Str) = xs at *
      simp [sSeq, sIf, lft, dTst, dBin, dVar, dC, bnd, ret, rdS, eq_int, toB, sRet, sNil, dCutT, oNone, oSome, k1, k2, k3, k5, fnR]
    · have l1 := b2 none (some a)
      have l2 := b2 (some (a + 1)) none
      rw [Str.length_append]
      omega
  · refine ⟨cutS t none (some a) ++ ⟨#[x]⟩ ++ cutS t (some (a + 1)) none, S3, ?_, ok_cat (ok_cat (b3 _ _) ox) (b3 _ _), ?_, f13.mono (by omega)⟩
    · have k1 := b1 none (some a)
      have k2 := b1 (some (a + 1)) none
      have l1 := b2 none (some a)
      have l2 := b2 (some (a + 1)) none
      have k5 := adF a 1
      clear cf s3 t4 lnp bs sp
      generalize cutS t none (some a) = u1 at *
      generalize cutS t (some (a + 1)) none = u2 at *
      have k3 := cat_fit (S := S3) (x := u1) (y := ⟨#[x]⟩) (by omega)
      have k4 := cat_fit (S := S3) (x := u1 ++ ⟨#[x]⟩) (y := u2) (by rw [Str.length_append]; omega)
      generalize a + 1 = a2 at *
      generalize u1 ++ (⟨#[x]⟩ : Str) ++ u2 = u4 at *
      generalize u1 ++ (⟨#[x]⟩ : Str) = u3 at *
      generalize (⟨#[x]⟩ : Str) = xs at *
      simp [sSeq, sIf, lft, dTst, dBin, dVar, dC, bnd, ret, rdS, eq_int, toB, sRet, sNil, dCutT, oNone, oSome, k1, k2, k3, k4, k5, fnR]
    · have l1 := b2 none (some a)
      have l2 := b2 (some (a + 1)) none
      rw [Str.length_append, Str.length_append]
      omega
  · obtain ⟨q1, o1, c1⟩ := cf none (some b)
    obtain ⟨q2, o2, c2⟩ := cf (some (b + 1)) none
    have k5 := adF4 b 1
    have k1 := add_fit (S := S4) o1 o2 (by omega)
    have oo := o1.app o2
    have k2 := join_fits (S := S4) oo (by omega)
    refine ⟨Str.join " " (q1 ++ q2), S4, ?_, ok_joinS _ oo.ok, by have := len_joinS (q1 ++ q2); have := oo.w; omega, f14⟩
    clear cf lnp sp t4
    generalize Str.join " " (q1 ++ q2) = J at *
    generalize (q1 ++ q2).map W.str = Q at *
    generalize q1.map W.str = Q1 at *
    generalize q2.map W.str = Q2 at *
    generalize ps.map W.str = PW at *
    generalize b + 1 = b1 at *
    generalize (⟨#[x]⟩ : Str) = xs at *
    generalize hB : W.str " " = B at *
    have hT : isT B = true := by rw [← hB]; rfl
    simp [sSeq, sIf, lft, dTst, dBin, dVar, dC, bnd, ret, rdS, eq_int, toB, sNil, s3, sRet, dJoin, hT, dCut, oNone, oSome, c1, c2, k1, k2, k5, fnR]
  · obtain ⟨q1, o1, c1⟩ := cf none (some (b + 1))
    obtain ⟨q2, o2, c2⟩ := cf (some b) none
    have k5 := adF4 b 1
    have k1 := add_fit (S := S4) o1 o2 (by omega)
    have oo := o1.app o2
    have k2 := join_fits (S := S4) oo (by omega)
    refine ⟨Str.join " " (q1 ++ q2), S4, ?_, ok_joinS _ oo.ok, by have := len_joinS (q1 ++ q2); have := oo.w; omega, f14⟩
    clear cf lnp sp t4
    generalize Str.join " " (q1 ++ q2) = J at *
    generalize (q1 ++ q2).map W.str = Q at *
    generalize q1.map W.str = Q1 at *
    generalize q2.map W.str = Q2 at *
    generalize ps.map W.str = PW at *
    generalize b + 1 = b1 at *
    generalize (⟨#[x]⟩ : Str) = xs at *
    generalize hB : W.str " " = B at *
    have hT : isT B = true := by rw [← hB]; rfl
    simp [sSeq, sIf, lft, dTst, dBin, dVar, dC, bnd, ret, rdS, eq_int, toB, sNil, s3, sRet, dJoin, hT, dCut, oNone, oSome, c1, c2, k1, k2, k5, fnR]
  all_goals
    obtain ⟨q1, o1, c1⟩ := cf none (some b)
    obtain ⟨q2, o2, c2⟩ := cf (some b) (some (b + 2))
    obtain ⟨q3, o3, c3⟩ := cf (some (b + 2)) none
    have k5 := adF4 b 2
    have rv : fRev .cl (.cl (q2.map W.str)) S4 = .ok (.cl (q2.reverse.map W.str)) S4 := by
      rw [List.map_reverse]
      rfl
    have k1 := add_fit (S := S4) o1 o2.rev (by omega)
    have o12 := o1.app o2.rev
    have k6 := add_fit (S := S4) o12 o3 (by omega)
    have oo := o12.app o3
    have k2 := join_fits (S := S4) oo (by omega)
    refine ⟨Str.join " " (q1 ++ q2.reverse ++ q3), S4, ?_, ok_joinS _ oo.ok, by have := len_joinS (q1 ++ q2.reverse ++ q3); have := oo.w; omega, f14⟩
    clear cf lnp sp t4
    generalize Str.join " " (q1 ++ q2.reverse ++ q3) = J at *
    generalize (q1 ++ q2.reverse ++ q3).map W.str = Q at *
    generalize (q1 ++ q2.reverse).map W.str = Q12 at *
    generalize q2.reverse.map W.str = Q2r at *
    generalize q1.map W.str = Q1 at *
    generalize q2.map W.str = Q2 at *
    generalize q3.map W.str = Q3 at *
    generalize ps.map W.str = PW at *
    generalize b + 2 = b2' at *
    generalize (⟨#[x]⟩ : Str) = xs at *
    generalize hB : W.str " " = B at *
    have hT : isT B = true := by rw [← hB]; rfl
    simp [sSeq, sIf, lft, dTst, dBin, dVar, dC, bnd, ret, rdS, eq_int, toB, sNil, s3, sRet, dJoin, hT, dCut, dRev, rv, oNone, oSome, c1, c2, c3, k1, k2, k5, k6, fnR]
end

end Den

namespace Den
open PySem PySem.Spec PyProof.Rows L2 Bal
section
theorem cps_str (s : String) : (Str.ofString s).cps.toList = s.toList.map Char.toNat := PyProof.Rows.signs_ofString s
theorem cps_neg (m : Nat) : (Str.ofString (toString (Int.negSucc m))).cps.toList = 45 :: (Nat.toDigits 10 (m + 1)).map Char.toNat := by
  have e : toString (Int.negSucc m) = "-" ++ toString ((m + 1 : Nat) : Int) := rfl
  have e2 := cps_num (m + 1)
  rw [cps_str] at e2
  rw [cps_str, e, String.toList_append, List.map_append, e2]
  rfl
theorem digs_isD (n : Nat) : ((Nat.toDigits 10 n).map Char.toNat).all isD = true := by
  rw [List.all_eq_true]
  intro c hc
  have h := TL.numL_digits n c hc
  unfold isD
  rw [decide_eq_true_eq]
  omega
theorem digs_ne (n : Nat) : (Nat.toDigits 10 n).map Char.toNat ≠ [] := TL.numL_ne n
theorem digs_val (n : Nat) : PySem.NumText.digitsVal ((Nat.toDigits 10 n).map Char.toNat) = n := TL.numL_val n
theorem digs_len {n : Nat} (h : n < 10000000000) : ((Nat.toDigits 10 n).map Char.toNat).length ≤ 10 := TL.numL_len (k := 10) (by decide) (by simpa using h)
theorem digs_head (n : Nat) : (Nat.toDigits 10 n).map Char.toNat = [48] ∨ ((Nat.toDigits 10 n).map Char.toNat).take 1 ≠ [48] := by
  have h := same_text (v := Str.ofString (toString (n : Int))) (by rw [cps_num]; exact digs_isD n) (by rw [cps_num]; exact digs_ne n)
  rw [cps_num, digs_val] at h
  exact h.mp rfl
theorem fine_digs {n : Nat} (h : n < 10000000000) : fine ((Nat.toDigits 10 n).map Char.toNat) = true := by
  have h1 := digs_ne n
  have h2 := digs_len h
  have h3 : 1 ≤ ((Nat.toDigits 10 n).map Char.toNat).length := by
    cases hh : (Nat.toDigits 10 n).map Char.toNat with
    | nil => exact absurd hh h1
    | cons a l => simp
  unfold fine
  rw [Bool.and_eq_true, decide_eq_true_eq]
  exact ⟨⟨h3, h2⟩, digs_isD n⟩
/-- the word of a number says that number -/
theorem num_say {i : Int} (h : i.natAbs < 10000000000) : numO (Str.ofString (toString i)) = some i := by
  cases i with
  | ofNat m =>
    have hm : m < 10000000000 := h
    obtain ⟨v, hv⟩ : ∃ v, v = Str.ofString (toString (Int.ofNat m)) := ⟨_, rfl⟩
    have hc : v.cps.toList = (Nat.toDigits 10 m).map Char.toNat := by rw [hv]; exact cps_num m
    have hl := digs_len hm
    have hnm : minus v = false := by
      unfold minus
      rw [hc]
      have hd := digs_isD m
      cases hh : (Nat.toDigits 10 m).map Char.toNat with
      | nil => rfl
      | cons a l =>
        rw [hh] at hd
        have ha := List.all_eq_true.mp hd a (List.mem_cons_self ..)
        unfold isD at ha
        rw [decide_eq_true_eq] at ha
        refine decide_eq_false fun z => ?_
        have : a = 45 := by simpa using z
        omega
    have hf : figs v = v := by unfold figs; rw [hnm]; rfl
    have hi : PySem.intText? v = some (m : Int) := by
      have := PySem.intText_digits (x := v) (by rw [hc]; exact digs_of.mp (digs_isD m)) (by rw [hc]; exact digs_ne m) (by rw [len_cps, hc]; omega)
      rw [hc, digs_val] at this
      exact this
    rw [← hv]
    unfold numO
    rw [hf, hc, if_pos ⟨fine_digs hm, fun z => (digs_head m).elim z.2 fun y => y z.1⟩, hi]
    rfl
  | negSucc m =>
    have hm : m + 1 < 10000000000 := h
    obtain ⟨v, hv⟩ : ∃ v, v = Str.ofString (toString (Int.negSucc m)) := ⟨_, rfl⟩
    have hc : v.cps.toList = 45 :: (Nat.toDigits 10 (m + 1)).map Char.toNat := by rw [hv]; exact cps_neg m
    have hl := digs_len hm
    have hnm : minus v = true := by
      unfold minus
      rw [hc]
      rfl
    have hf : (figs v).cps.toList = (Nat.toDigits 10 (m + 1)).map Char.toNat := by
      unfold figs
      rw [if_pos hnm, cut_d1, hc]
      rfl
    have hi : PySem.intText? v = some (-((m + 1 : Nat) : Int)) := by
      have := PySem.intText_neg (x := v) hc (digs_of.mp (digs_isD (m + 1))) (digs_ne (m + 1)) (by rw [len_cps, hc, List.length_cons]; omega)
      rw [digs_val] at this
      exact this
    have h48 : ((Nat.toDigits 10 (m + 1)).map Char.toNat).take 1 ≠ [48] := by
      rcases digs_head (m + 1) with e | e
      · have := digs_val (m + 1)
        rw [e] at this
        exact absurd this (by show (0 : Nat) ≠ m + 1; omega)
      · exact e
    rw [← hv]
    unfold numO
    rw [hf, if_pos ⟨fine_digs hm, fun z => h48 z.1⟩, hi]
    rfl
/-- the words of a row -/
def wds (r : List Int) : List Str := r.map fun i => Str.ofString (toString i)
def rowX (r : List Int) : Str := Str.join " " (wds r)
theorem cps_blank : (" " : Str).cps.toList = [32] := by decide +kernel
theorem cps_cat (x y : Str) : (x ++ y).cps.toList = x.cps.toList ++ y.cps.toList := by
  show (x.cps ++ y.cps).toList = _
  rw [Array.toList_append]
theorem cut_one {c : Nat} {a b x y : List Nat} (ha : c ∉ a) (hb : c ∉ b) (h : a ++ c :: x = b ++ c :: y) : a = b ∧ x = y := by
  induction a generalizing b with
  | nil =>
    cases b with
    | nil => exact ⟨rfl, by simpa using h⟩
    | cons b0 b =>
      simp only [List.nil_append, List.cons_append, List.cons.injEq] at h
      exact absurd (h.1 ▸ List.mem_cons_self ..) hb
  | cons a0 a ih =>
    cases b with
    | nil =>
      simp only [List.nil_append, List.cons_append, List.cons.injEq] at h
      exact absurd (h.1 ▸ List.mem_cons_self ..) ha
    | cons b0 b =>
      simp only [List.cons_append, List.cons.injEq] at h
      obtain ⟨h1, h2⟩ := ih (fun z => ha (List.mem_cons_of_mem _ z)) (fun z => hb (List.mem_cons_of_mem _ z)) h.2
      exact ⟨by rw [h.1, h1], h2⟩
theorem join_cps (a b : Str) (r : List Str) : (Str.join " " (a :: b :: r)).cps.toList = a.cps.toList ++ 32 :: (Str.join " " (b :: r)).cps.toList := by
  show (a ++ (" " : Str) ++ Str.join " " (b :: r)).cps.toList = _
  rw [cps_cat, cps_cat, cps_blank, List.append_assoc]
  rfl
theorem join_inj : ∀ (a : Str) (as : List Str) (b : Str) (bs : List Str), (∀ x ∈ a :: as, 32 ∉ x.cps.toList) → (∀ x ∈ b :: bs, 32 ∉ x.cps.toList) → Str.join " " (a :: as) = Str.join " " (b :: bs) → a :: as = b :: bs
  | a, [], b, [], _, _, h => by
    have h : a = b := h
    rw [h]
  | a, [], b, b2 :: bs, ha, _, h => by
    have h := congrArg (fun x : Str => x.cps.toList) h
    have h : a.cps.toList = _ := h
    have h := h.trans (join_cps b b2 bs)
    exact absurd (by rw [h]; simp) (ha a (List.mem_cons_self ..))
  | a, a2 :: as, b, [], _, hb, h => by
    have h := congrArg (fun x : Str => x.cps.toList) h.symm
    have h : b.cps.toList = _ := h
    have h := h.trans (join_cps a a2 as)
    exact absurd (by rw [h]; simp) (hb b (List.mem_cons_self ..))
  | a, a2 :: as, b, b2 :: bs, ha, hb, h => by
    have h := congrArg (fun x : Str => x.cps.toList) h
    have h := (join_cps a a2 as).symm.trans (h.trans (join_cps b b2 bs))
    obtain ⟨h1, h2⟩ := cut_one (ha a (List.mem_cons_self ..)) (hb b (List.mem_cons_self ..)) h
    have ih := join_inj a2 as b2 bs (fun x hx => ha x (List.mem_cons_of_mem _ hx)) (fun x hx => hb x (List.mem_cons_of_mem _ hx)) (str_ext h2)
    rw [str_ext h1, ih]
/-- a text of words without blanks is split into these words -/
theorem split_join {q : List Str} (hq : q ≠ []) (hf : ∀ x ∈ q, 32 ∉ x.cps.toList) : Txt.split (Str.join " " q) " " = q := by
  have h1 := PySem.StrLaws.join_split (Str.join " " q) " "
  have h2 : ∀ p ∈ Txt.split (Str.join " " q) " ", 32 ∉ p.cps.toList := by
    have := PySem.StrLaws.split_free (Str.join " " q) 32
    rwa [show (⟨#[32]⟩ : Str) = " " by decide +kernel] at this
  have h3 := split_ne (Str.join " " q)
  cases q with
  | nil => exact absurd rfl hq
  | cons b bs =>
    cases hs : Txt.split (Str.join " " (b :: bs)) " " with
    | nil => exact absurd hs h3
    | cons a as =>
      rw [hs] at h1 h2
      exact join_inj a as b bs h2 hf h1
end
section
variable {S : Store}
theorem strW_int {i : Int} (h : i.natAbs < 10000000000) : fStr S [.int i] = some (.str (Str.ofString (toString i))) := by
  have hl : decide (i.natAbs < 1000000000000000000) = true := decide_eq_true (by omega)
  simp only [fStr, strW, hl, if_true, Option.map_some]
theorem words_lc {i : Nat} {ρ : En} (hi : i < ρ.length) {r : List Int} (h : ∀ x ∈ r, x.natAbs < 10000000000) : lcL (.nm i) dYes (dCallN fStr (dCons (dVar i) dNil)) ρ S [] (iW r) S = .ok ((wds r).map W.str) S := by
  have key := lc_iW (i := i) (tt := dYes) (de := dCallN fStr (dCons (dVar i) dNil)) (ρ := ρ) (S := S) (fun _ => true) (fun n => .str (Str.ofString (toString n))) r fun n hn => ⟨rfl, fun _ => by
    have g : (ρ.set i (some (W.int n)))[i]? = some (some (.int n)) := List.getElem?_set_self hi
    have e := strW_int (S := S) (h n hn)
    generalize W.str (Str.ofString (toString n)) = z at *
    simp [dCallN, dCons, dNil, dVar, g, bnd, ret, rdS, e]⟩
  rw [key]
  simp [wds, List.map_map]
end

end Den

namespace Den
open PySem PySem.Spec PyProof.Rows L2 Bal
section
def topL : List Int → Int
  | [] => 0
  | n :: l => l.foldl max n
theorem top_snoc {b : List Int} {n : Int} (h : topL b < n) : topL (b ++ [n]) = n := by
  cases b with
  | nil => rfl
  | cons a l =>
    have h : l.foldl max a < n := h
    show (l ++ [n]).foldl max a = n
    rw [List.foldl_append]
    show max (l.foldl max a) n = n
    omega
/-- a word read by the law with a least number is the same as read by the program -/
theorem plain_num (w : Str) {k : Int} (hk : 1 ≤ k) : plainB w k = (match numO w with | some n => decide (k ≤ n) | none => false) := by
  by_cases hm : minus w = true
  · have hl : w.cps.toList = 45 :: w.cps.toList.drop 1 := by
      unfold minus at hm
      have hm := of_decide_eq_true hm
      cases h : w.cps.toList with
      | nil => rw [h] at hm; cases hm
      | cons a l =>
        rw [h] at hm
        have : a = 45 := by simpa using hm
        rw [this]
        rfl
    have hp : plainB w k = false := by
      unfold plainB fine
      rw [hl]
      simp [isD]
    rw [hp]
    cases hn : numO w with
    | none => rfl
    | some n =>
      dsimp only
      symm
      rw [decide_eq_false_iff_not]
      unfold numO at hn
      split at hn
      · rename_i hf
        have hff := hf.1
        unfold figs at hff
        rw [if_pos hm, cut_d1] at hff
        unfold fine at hff
        rw [Bool.and_eq_true, decide_eq_true_eq] at hff
        obtain ⟨⟨h1, h2⟩, h3⟩ := hff
        have e := PySem.intText_neg (x := w) hl (digs_of.mp h3) (fun z => by rw [z] at h1; simp at h1) (by rw [len_cps, hl, List.length_cons]; omega)
        rw [e] at hn
        cases hn
        omega
      · cases hn
  · have hf : figs w = w := by unfold figs; rw [if_neg hm]
    unfold numO plainB
    rw [hf]
    by_cases h : fine w.cps.toList = true
    · by_cases h2 : w.cps.toList = [48] ∨ w.cps.toList.take 1 ≠ [48]
      · rw [if_pos ⟨h, fun z => h2.elim z.2 fun y => y z.1⟩, h, decide_eq_true h2]
        unfold fine at h
        rw [Bool.and_eq_true, decide_eq_true_eq] at h
        obtain ⟨⟨h1, h4⟩, h3⟩ := h
        rw [PySem.intText_digits (x := w) (digs_of.mp h3) (fun z => by rw [z] at h1; simp at h1) (by rw [len_cps]; omega)]
        simp
      · rw [decide_eq_false h2, if_neg (fun z => h2 (by
          by_cases e : w.cps.toList = [48]
          · exact .inl e
          · exact .inr fun y => z.2 ⟨y, e⟩))]
        simp
    · rw [if_neg fun z => h z.1]
      have : fine w.cps.toList = false := by simpa using h
      rw [this]
      rfl
def h2 : List Str → Nat → List Int → Nat ⊕ List Int
  | [], _, b => .inr b
  | w :: ws, k, b => match numO w with
    | none => .inl k
    | some n => if n ≤ topL b then .inl k else h2 ws (k + 1) (b ++ [n])
def h1 : List Str → Nat → List Int → Nat ⊕ (List Int × List Int)
  | [], k, _ => .inl k
  | w :: ws, k, a => if w = ":" then (match h2 ws (k + 1) [] with | .inl j => .inl j | .inr b => .inr (a, b)) else
    match numO w with
    | none => .inl k
    | some n => if n ≤ topL a then .inl k else h1 ws (k + 1) (a ++ [n])
def hdW : Nat ⊕ (List Int × List Int) → W
  | .inl k => .int (k : Int)
  | .inr x => homes x.1 x.2
theorem at_lastW (xs : List W) (x : W) : atI (xs ++ [x]) (-1) = some x := by
  unfold atI ixN
  rw [if_neg (by omega), if_pos (by simp only [List.length_append, List.length_cons, List.length_nil]; omega)]
  have e : ((-1 : Int) + ((xs ++ [x]).length : Nat)).toNat = xs.length := by
    simp only [List.length_append, List.length_cons, List.length_nil]
    omega
  rw [Option.bind_some, e]
  simp
def Bs (S0 S : Store) : Prop := ∃ g, S = S0 ++ g
theorem Bs.rfl' (S : Store) : Bs S S := ⟨[], by simp⟩
theorem Bs.app {S0 S : Store} (h : Bs S0 S) (g : Store) : Bs S0 (S ++ g) := by
  obtain ⟨a, rfl⟩ := h
  exact ⟨a ++ g, by rw [List.append_assoc]⟩
theorem Bs.set {S0 S : Store} {m : Nat} (h : Bs S0 S) (hm : S0.length ≤ m) (z : List W) : Bs S0 (S.set m z) := by
  obtain ⟨a, rfl⟩ := h
  exact ⟨a.set (m - S0.length) z, by rw [List.set_append_right _ _ hm]⟩
end

end Den

namespace Den
open PySem PySem.Spec PyProof.Rows L2 Bal
section
abbrev HPT : Tg := (.tp [(.nm 3), (.nm 4)])
abbrev HP1 : DS := (sIf (dAndT (dTst (dBin fEq (dVar 4) (dC (.str ":")))) (dTst (dBin fEq (dCallN fLen (dCons (dVar 1) dNil)) (dC (.int 1))))) (sSeq (sDrop (dMth fAppend (dVar 1) (dCons (dLst dNil) dNil))) sCont) sNil)
abbrev HP2 : DS := (sSet 5 (dCall 1 g_number_in (dCons (dVar 4) dNil)))
abbrev HP3 : DS := (sIf (dOrT (dTst (dBin fIs (dVar 5) (dC .non))) (dTst (dBin (fCmp pLe) (dVar 5) (dMaxDf (dCons (dBin fIx (dVar 1) (dUn fNeg (dC (.int 1)))) dNil) (dCons (dC (.int 0)) dNil))))) (sRaise "BadText" "at" (dVar 3)) sNil)
abbrev HP4 : DS := (sDrop (dMth fAppend (dBin fIx (dVar 1) (dUn fNeg (dC (.int 1)))) (dCons (dVar 5) dNil)))
abbrev HPB : DS := (sSeq HP1 (sSeq HP2 (sSeq HP3 HP4)))
abbrev HI1 : DS := (sSet 1 (dLst (dCons (dLst dNil) dNil)))
abbrev HI2 : DS := (sSet 2 (dSplit (dVar 0) (dC (.str " "))))
abbrev HI3 : DS := (sFor (iEnu (dCons (dVar 2) dNil)) (.tp [(.nm 3), (.nm 4)]) (sSeq (sIf (dAndT (dTst (dBin fEq (dVar 4) (dC (.str ":")))) (dTst (dBin fEq (dCallN fLen (dCons (dVar 1) dNil)) (dC (.int 1))))) (sSeq (sDrop (dMth fAppend (dVar 1) (dCons (dLst dNil) dNil))) sCont) sNil) (sSeq (sSet 5 (dCall 1 g_number_in (dCons (dVar 4) dNil))) (sSeq (sIf (dOrT (dTst (dBin fIs (dVar 5) (dC .non))) (dTst (dBin (fCmp pLe) (dVar 5) (dMaxDf (dCons (dBin fIx (dVar 1) (dUn fNeg (dC (.int 1)))) dNil) (dCons (dC (.int 0)) dNil))))) (sRaise "BadText" "at" (dVar 3)) sNil) (sDrop (dMth fAppend (dBin fIx (dVar 1) (dUn fNeg (dC (.int 1)))) (dCons (dVar 5) dNil)))))))
abbrev HI4 : DS := (sIf (dTst (dBin fEq (dCallN fLen (dCons (dVar 1) dNil)) (dC (.int 1)))) (sRaise "BadText" "at" (dCallN fLen (dCons (dVar 2) dNil))) sNil)
abbrev HI5 : DS := (sRet (dTup (dCons (dCallN fTuple (dCons (dBin fIx (dVar 1) (dC (.int 0))) dNil)) (dCons (dCallN fTuple (dCons (dBin fIx (dVar 1) (dC (.int 1))) dNil)) dNil))))
theorem HI_is : d_houses_in = (sSeq HI1 (sSeq HI2 (sSeq HI3 (sSeq HI4 HI5)))) := rfl
end

section
variable {S : Store}
theorem colon_ok : PyData.strOk ":" = true := by decide +kernel
theorem col_eq {w : Str} (ok : PyData.strOk w = true) : fEq S (.str w) (.str ":") = some (.bl (decide (w = (":" : Str)))) := eq_strs (lay_str ok) (lay_str colon_ok)
theorem ix_last {m : Nat} {qs : List W} {x : W} (e : S[m]? = some (qs ++ [x])) : fIx S (.lst m) (.int (-1)) = some x := by
  have := at_lastW qs x
  simp only [fIx, ixW, itmsS, e, this]
theorem len_lst {m : Nat} {ws : List W} (e : S[m]? = some ws) : fLen S [.lst m] = some (.int (ws.length : Nat)) := by
  simp [fLen, ixW, itmsS, e]
theorem neg_one (ρ : En) : dUn fNeg (dC (.int 1)) ρ S = .ok (.int (-1)) S := rfl
theorem max_top {m : Nat} {b : List Int} (e : S[m]? = some (iW b)) : fMaxDf S [.lst m] [.int 0] = some (.int (topL b)) := by
  have h : (lstS S (.lst m)).bind inT = some b := by
    show (S[m]?).bind inT = _
    rw [e, Option.bind_some, inT_iW]
  unfold fMaxDf
  dsimp only
  rw [h]
  cases b <;> rfl
theorem app_lst {m : Nat} {ws : List W} (e : S[m]? = some ws) (y : W) (hl : ws.length ≤ 1000000) : fAppend S (.lst m) [y] = some (.non, S.set m (ws ++ [y])) := by
  have z : szB (ws.length + 1) = true := decide_eq_true (by omega)
  have z2 : szB (ws ++ [y]).length = true := decide_eq_true (by simp; omega)
  show (match S[m]? with | some ws => (match (if szB (ws.length + 1) = true then some (W.non, ws ++ [y]) else none) with | some (w, us) => if szB us.length = true then some (w, S.set m us) else none | none => none) | none => none) = _
  rw [e]
  dsimp only
  rw [if_pos z]
  dsimp only
  rw [if_pos z2]
theorem hp1_no {m : Nat} {x0 x2 x5 : Option W} {k : Int} {w : Str} {qs : List W} (e : S[m]? = some qs) (ok : PyData.strOk w = true) (h : ¬ (w = ":" ∧ qs.length = 1)) : HP1 [x0, some (.lst m), x2, some (.int k), some (.str w), x5] S = .ok (.nx [x0, some (.lst m), x2, some (.int k), some (.str w), x5]) S := by
  have c := col_eq (S := S) ok
  have l := len_lst e
  generalize hB : W.str ":" = B at *
  by_cases h1 : w = ":"
  · rw [decide_eq_true h1] at c
    have h2 : ¬ ((qs.length : Nat) : Int) = 1 := fun z => h ⟨h1, by omega⟩
    have q := eq_int (S := S) (qs.length : Nat) 1
    rw [decide_eq_false h2] at q
    generalize ((qs.length : Nat) : Int) = L at *
    simp [HP1, sIf, sNil, lft, dAndT, dTst, dBin, dCallN, dCons, dNil, dVar, dC, bnd, ret, rdS, hB, c, l, q, toB]
  · rw [decide_eq_false h1] at c
    simp [HP1, sIf, sNil, lft, dAndT, dTst, dBin, dCallN, dCons, dNil, dVar, dC, bnd, ret, rdS, hB, c, toB]
theorem hp_err {m mc : Nat} {x0 x2 x5 : Option W} {k : Int} {w : Str} {qs : List W} {b : List Int} (e : S[m]? = some (qs ++ [.lst mc])) (eb : S[mc]? = some (iW b)) (hz : w.length ≤ 1000) (ok : PyData.strOk w = true) (h : ¬ (w = ":" ∧ (qs ++ [W.lst mc]).length = 1)) (hn : numO w = none ∨ ∃ n, numO w = some n ∧ n ≤ topL b) : ∃ ρ, HPB [x0, some (.lst m), x2, some (.int k), some (.str w), x5] S = .ok (.er "BadText" "at" [.int k] ρ) S := by
  have s1 := hp1_no (x0 := x0) (x2 := x2) (x5 := x5) (k := k) e ok h
  have t := v_numin (S := S) hz ok
  have s2 : HP2 [x0, some (.lst m), x2, some (.int k), some (.str w), x5] S = .ok (.nx [x0, some (.lst m), x2, some (.int k), some (.str w), some (owT (numO w))]) S := by
    simp [HP2, sSet, sAsg, setT, lft, dCall, dCons, dNil, dVar, bnd, ret, t]
  have il := ix_last e
  have mx := max_top eb
  refine ⟨[x0, some (.lst m), x2, some (.int k), some (.str w), some (owT (numO w))], ?_⟩
  unfold HPB
  rw [sSeq, s1]
  show sSeq _ _ _ _ = _
  rw [sSeq, s2]
  show sSeq _ _ _ _ = _
  rcases hn with hn | ⟨n, hn, hle⟩
  · rw [hn]
    simp [sSeq, HP3, sIf, sRaise, lft, dOrT, dTst, dBin, dVar, dC, bnd, ret, rdS, owT, fIs, isN, toB]
  · rw [hn]
    have le : fCmp pLe S (.int n) (.int (topL b)) = some (.bl true) := by
      have : pLe n (topL b) = true := decide_eq_true hle
      simp only [fCmp, this]
    simp [sSeq, HP3, sIf, sRaise, lft, dOrT, dTst, dBin, dVar, dC, bnd, ret, rdS, owT, fIs, isN, toB, dMaxDf, dCons, dNil, neg_one, il, mx, le]
theorem hp_ok {m mc : Nat} {x0 x2 x5 : Option W} {k : Int} {w : Str} {qs : List W} {b : List Int} {n : Int} (e : S[m]? = some (qs ++ [.lst mc])) (eb : S[mc]? = some (iW b)) (hz : w.length ≤ 1000) (ok : PyData.strOk w = true) (h : ¬ (w = ":" ∧ (qs ++ [W.lst mc]).length = 1)) (hl : b.length ≤ 1000000) (hn : numO w = some n) (hlt : topL b < n) : HPB [x0, some (.lst m), x2, some (.int k), some (.str w), x5] S = .ok (.nx [x0, some (.lst m), x2, some (.int k), some (.str w), some (.int n)]) (S.set mc (iW (b ++ [n]))) := by
  have s1 := hp1_no (x0 := x0) (x2 := x2) (x5 := x5) (k := k) e ok h
  have t := v_numin (S := S) hz ok
  rw [hn] at t
  have t : g_number_in [.str w] S = .ok (.int n) S := t
  have s2 : HP2 [x0, some (.lst m), x2, some (.int k), some (.str w), x5] S = .ok (.nx [x0, some (.lst m), x2, some (.int k), some (.str w), some (.int n)]) S := by
    simp [HP2, sSet, sAsg, setT, lft, dCall, dCons, dNil, dVar, bnd, ret, t]
  have il := ix_last e
  have mx := max_top eb
  have ap := app_lst eb (.int n) (by rw [iW_len]; exact hl)
  have ea : iW b ++ [W.int n] = iW (b ++ [n]) := by simp [iW]
  rw [ea] at ap
  have le : fCmp pLe S (.int n) (.int (topL b)) = some (.bl false) := by
    have : pLe n (topL b) = false := decide_eq_false (by omega)
    simp only [fCmp, this]
  unfold HPB
  rw [sSeq, s1]
  show sSeq _ _ _ _ = _
  rw [sSeq, s2]
  show sSeq _ _ _ _ = _
  generalize iW (b ++ [n]) = B2 at *
  generalize topL b = tb at *
  simp [sSeq, HP3, HP4, sIf, sNil, sDrop, lft, dOrT, dTst, dBin, dVar, dC, bnd, ret, rdS, fIs, isN, toB, dMaxDf, dMth, lsB, wrS, dCons, dNil, neg_one, il, mx, le, ap]
theorem hp_colon {m m1 : Nat} {x0 x2 x5 : Option W} {k : Int} (e : S[m]? = some [.lst m1]) : HPB [x0, some (.lst m), x2, some (.int k), some (.str ":"), x5] S = .ok (.ct [x0, some (.lst m), x2, some (.int k), some (.str ":"), x5]) ((S ++ [[]]).set m [.lst m1, .lst S.length]) := by
  have c := col_eq (S := S) colon_ok
  rw [decide_eq_true rfl] at c
  have l := len_lst e
  have l : fLen S [.lst m] = some (.int 1) := l
  have e2 : (S ++ [[]])[m]? = some [.lst m1] := get_app e
  have ap := app_lst e2 (.lst S.length) (by simp)
  have ap : fAppend (S ++ [[]]) (.lst m) [.lst S.length] = some (.non, (S ++ [[]]).set m [.lst m1, .lst S.length]) := ap
  have q : fEq S (.int 1) (.int 1) = some (.bl true) := rfl
  unfold HPB
  generalize hB : W.str ":" = B at *
  generalize (S ++ [[]]).set m [.lst m1, .lst S.length] = T at *
  simp [sSeq, HP1, sIf, sDrop, sCont, lft, dAndT, dTst, dBin, dCallN, dCons, dNil, dVar, dC, bnd, ret, rdS, hB, c, l, q, toB, dMth, lsB, wrS, dLst, mkL, szB, ap]
theorem hp_two {S0 B0 : Store} {x0 x2 : Option W} {m m1 m2 : Nat} (hb : B0.length ≤ m2) (hne : m ≠ m2) : ∀ (ws : List Str) (k : Nat) (b : List Int) (S : Store) (x3 x4 x5 : Option W), (∀ w ∈ ws, w.length ≤ 1000 ∧ PyData.strOk w = true) → S[m]? = some [.lst m1, .lst m2] → S[m2]? = some (iW b) → b.length + ws.length ≤ 1000000 → Bs B0 S →
    (∃ j y ρ, h2 ws k b = .inl j ∧ forL HPT HPB [] S0 (enT k ws) [x0, some (.lst m), x2, x3, x4, x5] S = .ok (.er "BadText" "at" [.int (j : Int)] ρ) y ∧ Bs B0 y) ∨ ∃ b' x3' x4' x5', h2 ws k b = .inr b' ∧ forL HPT HPB [] S0 (enT k ws) [x0, some (.lst m), x2, x3, x4, x5] S = .ok (.nx [x0, some (.lst m), x2, x3', x4', x5']) (S.set m2 (iW b'))
  | [], k, b, S, x3, x4, x5, _, _, e, _, _ => .inr ⟨b, x3, x4, x5, rfl, by rw [set_same e]; rfl⟩
  | w :: ws, k, b, S, x3, x4, x5, h, es, e, hl, hB => by
    obtain ⟨hz, ok⟩ := h w (List.mem_cons_self ..)
    simp only [List.length_cons] at hl
    have st : setT S HPT (.tup [.int (k : Int), .str w]) [x0, some (.lst m), x2, x3, x4, x5] = some [x0, some (.lst m), x2, some (.int (k : Int)), some (.str w), x5] := rfl
    have es' : S[m]? = some ([.lst m1] ++ [.lst m2]) := es
    by_cases hbad : numO w = none ∨ ∃ n, numO w = some n ∧ n ≤ topL b
    · obtain ⟨ρ, bd⟩ := hp_err (x0 := x0) (x2 := x2) (x5 := x5) (k := (k : Int)) es' e hz ok (fun z => by have := z.2; simp at this) hbad
      refine .inl ⟨k, S, ρ, ?_, ?_, hB⟩
      · unfold h2
        rcases hbad with hn | ⟨n, hn, hle⟩
        · rw [hn]
        · rw [hn]
          dsimp only
          rw [if_pos hle]
      · show forL _ _ _ _ (_ :: _) _ _ = _
        unfold forL
        rw [st]
        simp only [bd]
    · obtain ⟨n, hn⟩ : ∃ n, numO w = some n := by
        cases h : numO w with
        | none => exact absurd (.inl h) hbad
        | some n => exact ⟨n, rfl⟩
      have hlt : topL b < n := by
        by_cases c : topL b < n
        · exact c
        · exact absurd (.inr ⟨n, hn, by omega⟩) hbad
      have bd := hp_ok (x0 := x0) (x2 := x2) (x5 := x5) (k := (k : Int)) es' e hz ok (fun z => by have := z.2; simp at this) (by omega) hn hlt
      have e2 : (S.set m2 (iW (b ++ [n])))[m2]? = some (iW (b ++ [n])) := List.getElem?_set_self (get_lt e)
      have es2 : (S.set m2 (iW (b ++ [n])))[m]? = some [.lst m1, .lst m2] := by rw [List.getElem?_set_ne (Ne.symm hne)]; exact es
      have rd : h2 (w :: ws) k b = h2 ws (k + 1) (b ++ [n]) := by
        show (match numO w with | none => Sum.inl k | some n => if n ≤ topL b then Sum.inl k else h2 ws (k + 1) (b ++ [n])) = _
        rw [hn]
        dsimp only
        rw [if_neg (by omega)]
      rcases hp_two (S0 := S0) (x0 := x0) (x2 := x2) (m1 := m1) hb hne ws (k + 1) (b ++ [n]) (S.set m2 (iW (b ++ [n]))) (some (.int (k : Int))) (some (.str w)) (some (.int n)) (fun z hz => h z (List.mem_cons_of_mem _ hz)) es2 e2 (by simp; omega) (hB.set hb _) with ⟨j, y, ρ, r1, f1, q1⟩ | ⟨b', y3, y4, y5, r1, f1⟩
      · refine .inl ⟨j, y, ρ, by rw [rd]; exact r1, ?_, q1⟩
        show forL _ _ _ _ (_ :: _) _ _ = _
        unfold forL
        rw [st]
        simp only [bd, kept_nil, if_true]
        exact f1
      · refine .inr ⟨b', y3, y4, y5, by rw [rd]; exact r1, ?_⟩
        rw [List.set_set] at f1
        show forL _ _ _ _ (_ :: _) _ _ = _
        unfold forL
        rw [st]
        simp only [bd, kept_nil, if_true]
        exact f1
/-- the ways in which the walk over the words ends -/
theorem hp_one {S0 B0 : Store} {x0 x2 : Option W} {m m1 : Nat} (hb : B0.length ≤ m) (hb1 : B0.length ≤ m1) (hne : m ≠ m1) : ∀ (ws : List Str) (k : Nat) (a : List Int) (S : Store) (x3 x4 x5 : Option W), (∀ w ∈ ws, w.length ≤ 1000 ∧ PyData.strOk w = true) → S[m]? = some [.lst m1] → S[m1]? = some (iW a) → a.length + ws.length ≤ 1000000 → Bs B0 S →
    (∃ j y ρ, h1 ws k a = .inl j ∧ forL HPT HPB [] S0 (enT k ws) [x0, some (.lst m), x2, x3, x4, x5] S = .ok (.er "BadText" "at" [.int (j : Int)] ρ) y ∧ Bs B0 y) ∨
    (∃ y x3' x4' x5', h1 ws k a = .inl (k + ws.length) ∧ forL HPT HPB [] S0 (enT k ws) [x0, some (.lst m), x2, x3, x4, x5] S = .ok (.nx [x0, some (.lst m), x2, x3', x4', x5']) y ∧ y[m]? = some [.lst m1] ∧ Bs B0 y) ∨
    ∃ a' b' m2 y x3' x4' x5', h1 ws k a = .inr (a', b') ∧ forL HPT HPB [] S0 (enT k ws) [x0, some (.lst m), x2, x3, x4, x5] S = .ok (.nx [x0, some (.lst m), x2, x3', x4', x5']) y ∧ y[m]? = some [.lst m1, .lst m2] ∧ y[m1]? = some (iW a') ∧ y[m2]? = some (iW b') ∧ Bs B0 y
  | [], k, a, S, x3, x4, x5, _, es, e, _, hB => .inr (.inl ⟨S, x3, x4, x5, rfl, rfl, es, hB⟩)
  | w :: ws, k, a, S, x3, x4, x5, h, es, e, hl, hB => by
    obtain ⟨hz, ok⟩ := h w (List.mem_cons_self ..)
    simp only [List.length_cons] at hl
    have hm := get_lt es
    have hm1 := get_lt e
    have st : setT S HPT (.tup [.int (k : Int), .str w]) [x0, some (.lst m), x2, x3, x4, x5] = some [x0, some (.lst m), x2, some (.int (k : Int)), some (.str w), x5] := rfl
    by_cases hw : w = ":"
    · subst hw
      have bd := hp_colon (x0 := x0) (x2 := x2) (x5 := x5) (k := (k : Int)) es
      have hlen : B0.length ≤ S.length := by obtain ⟨g, rfl⟩ := hB; simp
      have t1 : ((S ++ [[]]).set m [.lst m1, .lst S.length])[m]? = some [.lst m1, .lst S.length] := List.getElem?_set_self (by simp; omega)
      have t2 : ((S ++ [[]]).set m [.lst m1, .lst S.length])[S.length]? = some (iW []) := by
        rw [List.getElem?_set_ne (by omega)]
        simp [iW]
      have t3 : ((S ++ [[]]).set m [.lst m1, .lst S.length])[m1]? = some (iW a) := by
        rw [List.getElem?_set_ne hne]
        exact get_app e
      have t4 := (hB.app [[]]).set hb [.lst m1, .lst S.length]
      have rd : h1 (":" :: ws) k a = (match h2 ws (k + 1) [] with | .inl j => .inl j | .inr b => .inr (a, b)) := by
        unfold h1
        rw [if_pos rfl]
        all_goals (cases h2 ws (k + 1) [] <;> rfl)
      have hne2 : m ≠ S.length := by omega
      have hne3 : m1 ≠ S.length := by omega
      generalize (S ++ [[]]).set m [.lst m1, .lst S.length] = T at *
      rcases hp_two (S0 := S0) (x0 := x0) (x2 := x2) (m1 := m1) hlen hne2 ws (k + 1) [] T (some (.int (k : Int))) (some (.str ":")) x5 (fun z hz => h z (List.mem_cons_of_mem _ hz)) t1 t2 (by simp; omega) t4 with ⟨j, y, ρ, r1, f1, q1⟩ | ⟨b', y3, y4, y5, r1, f1⟩
      · refine .inl ⟨j, y, ρ, by rw [rd, r1], ?_, q1⟩
        show forL _ _ _ _ (_ :: _) _ _ = _
        unfold forL
        rw [st]
        simp only [bd, kept_nil, if_true]
        exact f1
      · refine .inr (.inr ⟨a, b', S.length, T.set S.length (iW b'), y3, y4, y5, by rw [rd, r1], ?_, ?_, ?_, ?_, t4.set hlen _⟩)
        · show forL _ _ _ _ (_ :: _) _ _ = _
          unfold forL
          rw [st]
          simp only [bd, kept_nil, if_true]
          exact f1
        · rw [List.getElem?_set_ne (Ne.symm hne2)]; exact t1
        · rw [List.getElem?_set_ne (Ne.symm hne3)]; exact t3
        · exact List.getElem?_set_self (get_lt t2)
    · have es' : S[m]? = some ([] ++ [.lst m1]) := es
      by_cases hbad : numO w = none ∨ ∃ n, numO w = some n ∧ n ≤ topL a
      · obtain ⟨ρ, bd⟩ := hp_err (x0 := x0) (x2 := x2) (x5 := x5) (k := (k : Int)) es' e hz ok (fun z => hw z.1) hbad
        refine .inl ⟨k, S, ρ, ?_, ?_, hB⟩
        · unfold h1
          rw [if_neg hw]
          rcases hbad with hn | ⟨n, hn, hle⟩
          · rw [hn]
          · rw [hn]
            dsimp only
            rw [if_pos hle]
        · show forL _ _ _ _ (_ :: _) _ _ = _
          unfold forL
          rw [st]
          simp only [bd]
      · obtain ⟨n, hn⟩ : ∃ n, numO w = some n := by
          cases h : numO w with
          | none => exact absurd (.inl h) hbad
          | some n => exact ⟨n, rfl⟩
        have hlt : topL a < n := by
          by_cases c : topL a < n
          · exact c
          · exact absurd (.inr ⟨n, hn, by omega⟩) hbad
        have bd := hp_ok (x0 := x0) (x2 := x2) (x5 := x5) (k := (k : Int)) es' e hz ok (fun z => hw z.1) (by omega) hn hlt
        have e2 : (S.set m1 (iW (a ++ [n])))[m1]? = some (iW (a ++ [n])) := List.getElem?_set_self (get_lt e)
        have es2 : (S.set m1 (iW (a ++ [n])))[m]? = some [.lst m1] := by rw [List.getElem?_set_ne (Ne.symm hne)]; exact es
        have rd : h1 (w :: ws) k a = h1 ws (k + 1) (a ++ [n]) := by
          show (if w = ":" then _ else (match numO w with | none => Sum.inl k | some n => if n ≤ topL a then Sum.inl k else h1 ws (k + 1) (a ++ [n]))) = _
          rw [if_neg hw, hn]
          dsimp only
          rw [if_neg (by omega)]
        have go : forL HPT HPB [] S0 (enT k (w :: ws)) [x0, some (.lst m), x2, x3, x4, x5] S = forL HPT HPB [] S0 (enT (k + 1) ws) [x0, some (.lst m), x2, some (.int (k : Int)), some (.str w), some (.int n)] (S.set m1 (iW (a ++ [n]))) := by
          show forL _ _ _ _ (_ :: _) _ _ = _
          conv => lhs; unfold forL
          rw [st]
          simp only [bd, kept_nil, if_true]
        rw [rd, go, List.length_cons, show k + (ws.length + 1) = k + 1 + ws.length by omega]
        exact hp_one (S0 := S0) (x0 := x0) (x2 := x2) hb hb1 hne ws (k + 1) (a ++ [n]) (S.set m1 (iW (a ++ [n]))) (some (.int (k : Int))) (some (.str w)) (some (.int n)) (fun z hz => h z (List.mem_cons_of_mem _ hz)) es2 e2 (by simp; omega) (hB.set hb1 _)
end

end Den

namespace Den
open PySem PySem.Spec PyProof.Rows L2 Bal
section
abbrev HLT : Tg := (.tp [(.nm 3), (.nm 4)])
abbrev HL1 : DS := (sSet 5 (dIf (dTst (dBin fNe (dBin fIx (dVar 1) (dUn fNeg (dC (.int 1)))) (dCl dNil))) (dBin fAdd (dBin fIx (dBin fIx (dVar 1) (dUn fNeg (dC (.int 1)))) (dUn fNeg (dC (.int 1)))) (dC (.int 1))) (dC (.int 1))))
abbrev HL2 : DS := (sIf (dAndT (dTst (dBin fEq (dVar 4) (dC (.str ":")))) (dTst (dBin fEq (dCallN fLen (dCons (dVar 1) dNil)) (dC (.int 1))))) (sDrop (dMth fAppend (dVar 1) (dCons (dLst dNil) dNil))) (sIf (dNotT (dTst (dCall 2 g_law_is_plain (dCons (dVar 4) (dCons (dVar 5) dNil))))) (sRet (dVar 3)) (sDrop (dMth fAppend (dBin fIx (dVar 1) (dUn fNeg (dC (.int 1)))) (dCons (dCallN fIntX (dCons (dVar 4) dNil)) dNil)))))
abbrev HLB : DS := (sSeq HL1 HL2)
abbrev HN1 : DS := (sAsg (.tp [.nm 1, .nm 2]) (dTup (dCons (dLst (dCons (dLst dNil) dNil)) (dCons (dSplit (dVar 0) (dC (.str " "))) dNil))))
abbrev HN2 : DS := (sFor (iEnu (dCons (dVar 2) dNil)) (.tp [(.nm 3), (.nm 4)]) (sSeq (sSet 5 (dIf (dTst (dBin fNe (dBin fIx (dVar 1) (dUn fNeg (dC (.int 1)))) (dCl dNil))) (dBin fAdd (dBin fIx (dBin fIx (dVar 1) (dUn fNeg (dC (.int 1)))) (dUn fNeg (dC (.int 1)))) (dC (.int 1))) (dC (.int 1)))) (sIf (dAndT (dTst (dBin fEq (dVar 4) (dC (.str ":")))) (dTst (dBin fEq (dCallN fLen (dCons (dVar 1) dNil)) (dC (.int 1))))) (sDrop (dMth fAppend (dVar 1) (dCons (dLst dNil) dNil))) (sIf (dNotT (dTst (dCall 2 g_law_is_plain (dCons (dVar 4) (dCons (dVar 5) dNil))))) (sRet (dVar 3)) (sDrop (dMth fAppend (dBin fIx (dVar 1) (dUn fNeg (dC (.int 1)))) (dCons (dCallN fIntX (dCons (dVar 4) dNil)) dNil)))))))
abbrev HN3 : DS := (sRet (dIf (dTst (dBin fEq (dCallN fLen (dCons (dVar 1) dNil)) (dC (.int 2)))) (dTup (dCons (dCallN fTuple (dCons (dBin fIx (dVar 1) (dC (.int 0))) dNil)) (dCons (dCallN fTuple (dCons (dBin fIx (dVar 1) (dC (.int 1))) dNil)) dNil))) (dCallN fLen (dCons (dVar 2) dNil))))
theorem HN_is : d_law_homes_in = (sSeq HN1 (sSeq HN2 HN3)) := rfl
end

section
variable {S : Store}
def LtL (b : List Int) : Prop := 0 ≤ topL b ∧ (b = [] ∨ ∃ c, b = c ++ [topL b])
theorem LtL.nil : LtL [] := ⟨Int.le_refl _, .inl rfl⟩
theorem LtL.snoc {b : List Int} {n : Int} (h : LtL b) (hn : topL b < n) : LtL (b ++ [n]) := by
  have e := top_snoc hn
  have h0 := h.1
  exact ⟨by rw [e]; omega, .inr ⟨b, by rw [e]⟩⟩
theorem ne_lstI {m : Nat} {b : List Int} (e : S[m]? = some (iW b)) : fNe S (.lst m) (.cl []) = some (.bl (!decide (b = []))) := by
  have := eqD_ints (S := S) (a := b) (b := []) (w := .lst m) (u := .cl []) (.inr ⟨m, rfl, e⟩) (.inl rfl)
  simp only [fNe, this, Option.map_some]
theorem hl1_at {m mc : Nat} {x0 x2 x5 : Option W} {k : Int} {w : Str} {qs : List W} {b : List Int} (e : S[m]? = some (qs ++ [.lst mc])) (eb : S[mc]? = some (iW b)) (hLt : LtL b) : HL1 [x0, some (.lst m), x2, some (.int k), some (.str w), x5] S = .ok (.nx [x0, some (.lst m), x2, some (.int k), some (.str w), some (.int (topL b + 1))]) S := by
  have il := ix_last e
  have ne := ne_lstI eb
  rcases hLt.2 with h | ⟨c, h⟩
  · rw [decide_eq_true h] at ne
    subst h
    have t0 : topL [] + 1 = 1 := rfl
    rw [t0]
    simp [HL1, sSet, sAsg, setT, lft, dIf, dTst, dBin, dVar, dC, bnd, ret, rdS, neg_one, il, dCl, dNil, mkC, szB, ne, toB]
  · have hne : b ≠ [] := fun z => by rw [z] at h; simp at h
    rw [decide_eq_false hne] at ne
    have il2 : fIx S (.lst mc) (.int (-1)) = some (.int (topL b)) := ix_last (qs := iW c) (by
      rw [eb]
      conv => lhs; rw [h]
      simp [iW])
    have ad : fAdd S (.int (topL b)) (.int 1) = some (.int (topL b + 1)) := rfl
    generalize topL b = tb at *
    generalize tb + 1 = tb1 at *
    simp [HL1, sSet, sAsg, setT, lft, dIf, dTst, dBin, dVar, dC, bnd, ret, rdS, neg_one, il, il2, ad, dCl, dNil, mkC, szB, ne, toB]
theorem hl_test {m : Nat} {x0 x2 x5 : Option W} {k : Int} {w : Str} {qs : List W} (e : S[m]? = some qs) (ok : PyData.strOk w = true) (h : ¬ (w = ":" ∧ qs.length = 1)) : dAndT (dTst (dBin fEq (dVar 4) (dC (.str ":")))) (dTst (dBin fEq (dCallN fLen (dCons (dVar 1) dNil)) (dC (.int 1)))) [x0, some (.lst m), x2, some (.int k), some (.str w), x5] S = .ok false S := by
  have c := col_eq (S := S) ok
  have l := len_lst e
  generalize hB : W.str ":" = B at *
  by_cases h1 : w = ":"
  · rw [decide_eq_true h1] at c
    have h2 : ¬ ((qs.length : Nat) : Int) = 1 := fun z => h ⟨h1, by omega⟩
    have q := eq_int (S := S) (qs.length : Nat) 1
    rw [decide_eq_false h2] at q
    generalize ((qs.length : Nat) : Int) = L at *
    simp [dAndT, dTst, dBin, dCallN, dCons, dNil, dVar, dC, bnd, ret, rdS, hB, c, l, q, toB]
  · rw [decide_eq_false h1] at c
    simp [dAndT, dTst, dBin, dCallN, dCons, dNil, dVar, dC, bnd, ret, rdS, hB, c, toB]
theorem hl_err {m mc : Nat} {x0 x2 x5 : Option W} {k : Int} {w : Str} {qs : List W} {b : List Int} (e : S[m]? = some (qs ++ [.lst mc])) (eb : S[mc]? = some (iW b)) (hz : w.length ≤ 1000) (ok : PyData.strOk w = true) (h : ¬ (w = ":" ∧ (qs ++ [W.lst mc]).length = 1)) (hn : numO w = none ∨ ∃ n, numO w = some n ∧ n ≤ topL b) (hLt : LtL b) : HLB [x0, some (.lst m), x2, some (.int k), some (.str w), x5] S = .ok (.rt (.int k)) S := by
  have s1 := hl1_at (x0 := x0) (x2 := x2) (x5 := x5) (k := k) (w := w) e eb hLt
  have tt := hl_test (x0 := x0) (x2 := x2) (x5 := some (.int (topL b + 1))) (k := k) e ok h
  have t0 := hLt.1
  have pl := v_isplain (S := S) hz ok (topL b + 1)
  have pf : plainB w (topL b + 1) = false := by
    rw [plain_num w (by omega)]
    rcases hn with hn | ⟨n, hn, hle⟩
    · rw [hn]
    · rw [hn]
      exact decide_eq_false (by omega)
  rw [pf] at pl
  unfold HLB
  rw [sSeq, s1]
  show HL2 _ _ = _
  unfold HL2
  generalize topL b + 1 = tb at *
  rw [sIf, lft, tt]
  show sIf _ _ _ _ _ = _
  simp [sIf, sRet, lft, dNotT, dTst, dCall, dCons, dNil, dVar, bnd, ret, pl, toB]
theorem hl_ok {m mc : Nat} {x0 x2 x5 : Option W} {k : Int} {w : Str} {qs : List W} {b : List Int} {n : Int} (e : S[m]? = some (qs ++ [.lst mc])) (eb : S[mc]? = some (iW b)) (hz : w.length ≤ 1000) (ok : PyData.strOk w = true) (h : ¬ (w = ":" ∧ (qs ++ [W.lst mc]).length = 1)) (hl : b.length ≤ 1000000) (hn : numO w = some n) (hlt : topL b < n) (hLt : LtL b) : HLB [x0, some (.lst m), x2, some (.int k), some (.str w), x5] S = .ok (.nx [x0, some (.lst m), x2, some (.int k), some (.str w), some (.int (topL b + 1))]) (S.set mc (iW (b ++ [n]))) := by
  have s1 := hl1_at (x0 := x0) (x2 := x2) (x5 := x5) (k := k) (w := w) e eb hLt
  have tt := hl_test (x0 := x0) (x2 := x2) (x5 := some (.int (topL b + 1))) (k := k) e ok h
  have t0 := hLt.1
  have pl := v_isplain (S := S) hz ok (topL b + 1)
  have pf : plainB w (topL b + 1) = true := by
    rw [plain_num w (by omega), hn]
    exact decide_eq_true (by omega)
  rw [pf] at pl
  have il := ix_last e
  have ix := num_int (S := S) hn
  have ap := app_lst eb (.int n) (by rw [iW_len]; exact hl)
  have ea : iW b ++ [W.int n] = iW (b ++ [n]) := by simp [iW]
  rw [ea] at ap
  unfold HLB
  rw [sSeq, s1]
  show HL2 _ _ = _
  unfold HL2
  generalize topL b + 1 = tb at *
  generalize iW (b ++ [n]) = B2 at *
  rw [sIf, lft, tt]
  show sIf _ _ _ _ _ = _
  simp [sIf, sDrop, lft, dNotT, dTst, dCall, dCallN, dCons, dNil, dVar, dBin, bnd, ret, rdS, pl, toB, neg_one, il, ix, dMth, lsB, wrS, ap]
theorem hl_colon {m m1 : Nat} {x0 x2 x5 : Option W} {k : Int} {a : List Int} (e : S[m]? = some [.lst m1]) (eb : S[m1]? = some (iW a)) (hLt : LtL a) : HLB [x0, some (.lst m), x2, some (.int k), some (.str ":"), x5] S = .ok (.nx [x0, some (.lst m), x2, some (.int k), some (.str ":"), some (.int (topL a + 1))]) ((S ++ [[]]).set m [.lst m1, .lst S.length]) := by
  have s1 := hl1_at (x0 := x0) (x2 := x2) (x5 := x5) (k := k) (w := ":") (qs := []) e eb hLt
  have c := col_eq (S := S) colon_ok
  rw [decide_eq_true rfl] at c
  have l := len_lst e
  have l : fLen S [.lst m] = some (.int 1) := l
  have e2 : (S ++ [[]])[m]? = some [.lst m1] := get_app e
  have ap := app_lst e2 (.lst S.length) (by simp)
  have ap : fAppend (S ++ [[]]) (.lst m) [.lst S.length] = some (.non, (S ++ [[]]).set m [.lst m1, .lst S.length]) := ap
  have q : fEq S (.int 1) (.int 1) = some (.bl true) := rfl
  unfold HLB
  rw [sSeq, s1]
  show HL2 _ _ = _
  unfold HL2
  generalize hB : W.str ":" = B at *
  generalize (S ++ [[]]).set m [.lst m1, .lst S.length] = T at *
  generalize topL a + 1 = tb at *
  simp [sIf, sDrop, lft, dAndT, dTst, dBin, dCallN, dCons, dNil, dVar, dC, bnd, ret, rdS, hB, c, l, q, toB, dMth, lsB, wrS, dLst, mkL, szB, ap]
theorem hl_two {S0 B0 : Store} {x0 x2 : Option W} {m m1 m2 : Nat} (hb : B0.length ≤ m2) (hne : m ≠ m2) : ∀ (ws : List Str) (k : Nat) (b : List Int) (S : Store) (x3 x4 x5 : Option W), (∀ w ∈ ws, w.length ≤ 1000 ∧ PyData.strOk w = true) → S[m]? = some [.lst m1, .lst m2] → S[m2]? = some (iW b) → b.length + ws.length ≤ 1000000 → Bs B0 S → LtL b →
    (∃ j y, h2 ws k b = .inl j ∧ forL HLT HLB [] S0 (enT k ws) [x0, some (.lst m), x2, x3, x4, x5] S = .ok (.rt (.int (j : Int))) y ∧ Bs B0 y) ∨ ∃ b' x3' x4' x5', h2 ws k b = .inr b' ∧ forL HLT HLB [] S0 (enT k ws) [x0, some (.lst m), x2, x3, x4, x5] S = .ok (.nx [x0, some (.lst m), x2, x3', x4', x5']) (S.set m2 (iW b'))
  | [], k, b, S, x3, x4, x5, _, _, e, _, _, _ => .inr ⟨b, x3, x4, x5, rfl, by rw [set_same e]; rfl⟩
  | w :: ws, k, b, S, x3, x4, x5, h, es, e, hl, hB, hLt => by
    obtain ⟨hz, ok⟩ := h w (List.mem_cons_self ..)
    simp only [List.length_cons] at hl
    have st : setT S HLT (.tup [.int (k : Int), .str w]) [x0, some (.lst m), x2, x3, x4, x5] = some [x0, some (.lst m), x2, some (.int (k : Int)), some (.str w), x5] := rfl
    have es' : S[m]? = some ([.lst m1] ++ [.lst m2]) := es
    by_cases hbad : numO w = none ∨ ∃ n, numO w = some n ∧ n ≤ topL b
    · have bd := hl_err (x0 := x0) (x2 := x2) (x5 := x5) (k := (k : Int)) es' e hz ok (fun z => by have := z.2; simp at this) hbad hLt
      refine .inl ⟨k, S, ?_, ?_, hB⟩
      · unfold h2
        rcases hbad with hn | ⟨n, hn, hle⟩
        · rw [hn]
        · rw [hn]
          dsimp only
          rw [if_pos hle]
      · show forL _ _ _ _ (_ :: _) _ _ = _
        unfold forL
        rw [st]
        simp only [bd]
    · obtain ⟨n, hn⟩ : ∃ n, numO w = some n := by
        cases h : numO w with
        | none => exact absurd (.inl h) hbad
        | some n => exact ⟨n, rfl⟩
      have hlt : topL b < n := by
        by_cases c : topL b < n
        · exact c
        · exact absurd (.inr ⟨n, hn, by omega⟩) hbad
      have bd := hl_ok (x0 := x0) (x2 := x2) (x5 := x5) (k := (k : Int)) es' e hz ok (fun z => by have := z.2; simp at this) (by omega) hn hlt hLt
      have e2 : (S.set m2 (iW (b ++ [n])))[m2]? = some (iW (b ++ [n])) := List.getElem?_set_self (get_lt e)
      have es2 : (S.set m2 (iW (b ++ [n])))[m]? = some [.lst m1, .lst m2] := by rw [List.getElem?_set_ne (Ne.symm hne)]; exact es
      have rd : h2 (w :: ws) k b = h2 ws (k + 1) (b ++ [n]) := by
        show (match numO w with | none => Sum.inl k | some n => if n ≤ topL b then Sum.inl k else h2 ws (k + 1) (b ++ [n])) = _
        rw [hn]
        dsimp only
        rw [if_neg (by omega)]
      rcases hl_two (S0 := S0) (x0 := x0) (x2 := x2) (m1 := m1) hb hne ws (k + 1) (b ++ [n]) (S.set m2 (iW (b ++ [n]))) (some (.int (k : Int))) (some (.str w)) (some (.int (topL b + 1))) (fun z hz => h z (List.mem_cons_of_mem _ hz)) es2 e2 (by simp; omega) (hB.set hb _) (hLt.snoc hlt) with ⟨j, y, r1, f1, q1⟩ | ⟨b', y3, y4, y5, r1, f1⟩
      · refine .inl ⟨j, y, by rw [rd]; exact r1, ?_, q1⟩
        show forL _ _ _ _ (_ :: _) _ _ = _
        unfold forL
        rw [st]
        simp only [bd, kept_nil, if_true]
        exact f1
      · refine .inr ⟨b', y3, y4, y5, by rw [rd]; exact r1, ?_⟩
        rw [List.set_set] at f1
        show forL _ _ _ _ (_ :: _) _ _ = _
        unfold forL
        rw [st]
        simp only [bd, kept_nil, if_true]
        exact f1
/-- the ways in which the walk over the words ends -/
theorem hl_one {S0 B0 : Store} {x0 x2 : Option W} {m m1 : Nat} (hb : B0.length ≤ m) (hb1 : B0.length ≤ m1) (hne : m ≠ m1) : ∀ (ws : List Str) (k : Nat) (a : List Int) (S : Store) (x3 x4 x5 : Option W), (∀ w ∈ ws, w.length ≤ 1000 ∧ PyData.strOk w = true) → S[m]? = some [.lst m1] → S[m1]? = some (iW a) → a.length + ws.length ≤ 1000000 → Bs B0 S → LtL a →
    (∃ j y, h1 ws k a = .inl j ∧ forL HLT HLB [] S0 (enT k ws) [x0, some (.lst m), x2, x3, x4, x5] S = .ok (.rt (.int (j : Int))) y ∧ Bs B0 y) ∨
    (∃ y x3' x4' x5', h1 ws k a = .inl (k + ws.length) ∧ forL HLT HLB [] S0 (enT k ws) [x0, some (.lst m), x2, x3, x4, x5] S = .ok (.nx [x0, some (.lst m), x2, x3', x4', x5']) y ∧ y[m]? = some [.lst m1] ∧ Bs B0 y) ∨
    ∃ a' b' m2 y x3' x4' x5', h1 ws k a = .inr (a', b') ∧ forL HLT HLB [] S0 (enT k ws) [x0, some (.lst m), x2, x3, x4, x5] S = .ok (.nx [x0, some (.lst m), x2, x3', x4', x5']) y ∧ y[m]? = some [.lst m1, .lst m2] ∧ y[m1]? = some (iW a') ∧ y[m2]? = some (iW b') ∧ Bs B0 y
  | [], k, a, S, x3, x4, x5, _, es, e, _, hB, _ => .inr (.inl ⟨S, x3, x4, x5, rfl, rfl, es, hB⟩)
  | w :: ws, k, a, S, x3, x4, x5, h, es, e, hl, hB, hLt => by
    obtain ⟨hz, ok⟩ := h w (List.mem_cons_self ..)
    simp only [List.length_cons] at hl
    have hm := get_lt es
    have hm1 := get_lt e
    have st : setT S HLT (.tup [.int (k : Int), .str w]) [x0, some (.lst m), x2, x3, x4, x5] = some [x0, some (.lst m), x2, some (.int (k : Int)), some (.str w), x5] := rfl
    by_cases hw : w = ":"
    · subst hw
      have bd := hl_colon (x0 := x0) (x2 := x2) (x5 := x5) (k := (k : Int)) es e hLt
      have hlen : B0.length ≤ S.length := by obtain ⟨g, rfl⟩ := hB; simp
      have t1 : ((S ++ [[]]).set m [.lst m1, .lst S.length])[m]? = some [.lst m1, .lst S.length] := List.getElem?_set_self (by simp; omega)
      have t2 : ((S ++ [[]]).set m [.lst m1, .lst S.length])[S.length]? = some (iW []) := by
        rw [List.getElem?_set_ne (by omega)]
        simp [iW]
      have t3 : ((S ++ [[]]).set m [.lst m1, .lst S.length])[m1]? = some (iW a) := by
        rw [List.getElem?_set_ne hne]
        exact get_app e
      have t4 := (hB.app [[]]).set hb [.lst m1, .lst S.length]
      have rd : h1 (":" :: ws) k a = (match h2 ws (k + 1) [] with | .inl j => .inl j | .inr b => .inr (a, b)) := by
        unfold h1
        rw [if_pos rfl]
        all_goals (cases h2 ws (k + 1) [] <;> rfl)
      have hne2 : m ≠ S.length := by omega
      have hne3 : m1 ≠ S.length := by omega
      generalize (S ++ [[]]).set m [.lst m1, .lst S.length] = T at *
      rcases hl_two (S0 := S0) (x0 := x0) (x2 := x2) (m1 := m1) hlen hne2 ws (k + 1) [] T (some (.int (k : Int))) (some (.str ":")) (some (.int (topL a + 1))) (fun z hz => h z (List.mem_cons_of_mem _ hz)) t1 t2 (by simp; omega) t4 LtL.nil with ⟨j, y, r1, f1, q1⟩ | ⟨b', y3, y4, y5, r1, f1⟩
      · refine .inl ⟨j, y, by rw [rd, r1], ?_, q1⟩
        show forL _ _ _ _ (_ :: _) _ _ = _
        unfold forL
        rw [st]
        simp only [bd, kept_nil, if_true]
        exact f1
      · refine .inr (.inr ⟨a, b', S.length, T.set S.length (iW b'), y3, y4, y5, by rw [rd, r1], ?_, ?_, ?_, ?_, t4.set hlen _⟩)
        · show forL _ _ _ _ (_ :: _) _ _ = _
          unfold forL
          rw [st]
          simp only [bd, kept_nil, if_true]
          exact f1
        · rw [List.getElem?_set_ne (Ne.symm hne2)]; exact t1
        · rw [List.getElem?_set_ne (Ne.symm hne3)]; exact t3
        · exact List.getElem?_set_self (get_lt t2)
    · have es' : S[m]? = some ([] ++ [.lst m1]) := es
      by_cases hbad : numO w = none ∨ ∃ n, numO w = some n ∧ n ≤ topL a
      · have bd := hl_err (x0 := x0) (x2 := x2) (x5 := x5) (k := (k : Int)) es' e hz ok (fun z => hw z.1) hbad hLt
        refine .inl ⟨k, S, ?_, ?_, hB⟩
        · unfold h1
          rw [if_neg hw]
          rcases hbad with hn | ⟨n, hn, hle⟩
          · rw [hn]
          · rw [hn]
            dsimp only
            rw [if_pos hle]
        · show forL _ _ _ _ (_ :: _) _ _ = _
          unfold forL
          rw [st]
          simp only [bd]
      · obtain ⟨n, hn⟩ : ∃ n, numO w = some n := by
          cases h : numO w with
          | none => exact absurd (.inl h) hbad
          | some n => exact ⟨n, rfl⟩
        have hlt : topL a < n := by
          by_cases c : topL a < n
          · exact c
          · exact absurd (.inr ⟨n, hn, by omega⟩) hbad
        have bd := hl_ok (x0 := x0) (x2 := x2) (x5 := x5) (k := (k : Int)) es' e hz ok (fun z => hw z.1) (by omega) hn hlt hLt
        have e2 : (S.set m1 (iW (a ++ [n])))[m1]? = some (iW (a ++ [n])) := List.getElem?_set_self (get_lt e)
        have es2 : (S.set m1 (iW (a ++ [n])))[m]? = some [.lst m1] := by rw [List.getElem?_set_ne (Ne.symm hne)]; exact es
        have rd : h1 (w :: ws) k a = h1 ws (k + 1) (a ++ [n]) := by
          show (if w = ":" then _ else (match numO w with | none => Sum.inl k | some n => if n ≤ topL a then Sum.inl k else h1 ws (k + 1) (a ++ [n]))) = _
          rw [if_neg hw, hn]
          dsimp only
          rw [if_neg (by omega)]
        have go : forL HLT HLB [] S0 (enT k (w :: ws)) [x0, some (.lst m), x2, x3, x4, x5] S = forL HLT HLB [] S0 (enT (k + 1) ws) [x0, some (.lst m), x2, some (.int (k : Int)), some (.str w), some (.int (topL a + 1))] (S.set m1 (iW (a ++ [n]))) := by
          show forL _ _ _ _ (_ :: _) _ _ = _
          conv => lhs; unfold forL
          rw [st]
          simp only [bd, kept_nil, if_true]
        rw [rd, go, List.length_cons, show k + (ws.length + 1) = k + 1 + ws.length by omega]
        exact hl_one (S0 := S0) (x0 := x0) (x2 := x2) hb hb1 hne ws (k + 1) (a ++ [n]) (S.set m1 (iW (a ++ [n]))) (some (.int (k : Int))) (some (.str w)) (some (.int (topL a + 1))) (fun z hz => h z (List.mem_cons_of_mem _ hz)) es2 e2 (by simp; omega) (hB.set hb1 _) (hLt.snoc hlt)
end

end Den

namespace Den
open PySem PySem.Spec PyProof.Rows L2 Bal

section
variable {S : Store}
theorem tup_lst {m : Nat} {b : List Int} (e : S[m]? = some (iW b)) : fTuple S [.lst m] = some (.tup (iW b)) := by simp [fTuple, itmsS, e]
theorem en_of {ws : List Str} {ρ : En} (h : ρ[2]? = some (some (.cl (ws.map W.str)))) : iEnu (dCons (dVar 2) dNil) ρ S = .ok (enT 0 ws, []) S := by
  have sq : seqI S (.cl (ws.map W.str)) = some (ws.map W.str, []) := rfl
  rw [← en_strs]
  generalize ws.map W.str = L at *
  simp [iEnu, dCons, dNil, dVar, h, bnd, ret, rdI, sq]
theorem sp_ok {t : Str} (h : Tx t) : spW (.str t) (.str " ") S = .ok (.cl ((Txt.split t " ").map W.str)) S := by
  have hb : ((" " : Str).length == 0) = false := by decide +kernel
  have c : (!((" " : Str).length == 0) && szB (t.length + 2) && szB (Txt.split t " ").length) = true := by
    have hz := h.z
    have hn := h.n
    rw [hb, show szB (t.length + 2) = true from decide_eq_true (by omega), show szB (Txt.split t " ").length = true from decide_eq_true (by omega)]
    rfl
  show (if (!((" " : Str).length == 0) && szB (t.length + 2) && szB (Txt.split t " ").length) = true then newK .cl ((Txt.split t " ").map W.str) else bad) S = _
  rw [if_pos c]
  rfl
theorem two_sides {m m1 m2 : Nat} {a b : List Int} {ρ : En} (hρ : ρ[1]? = some (some (.lst m))) (e : S[m]? = some [.lst m1, .lst m2]) (e1 : S[m1]? = some (iW a)) (e2 : S[m2]? = some (iW b)) : dTup (dCons (dCallN fTuple (dCons (dBin fIx (dVar 1) (dC (.int 0))) dNil)) (dCons (dCallN fTuple (dCons (dBin fIx (dVar 1) (dC (.int 1))) dNil)) dNil)) ρ S = .ok (homes a b) S := by
  have i0 : fIx S (.lst m) (.int 0) = some (.lst m1) := by
    have : atI [W.lst m1, .lst m2] 0 = some (.lst m1) := rfl
    simp only [fIx, ixW, itmsS, e, this]
  have i1 : fIx S (.lst m) (.int 1) = some (.lst m2) := by
    have : atI [W.lst m1, .lst m2] 1 = some (.lst m2) := rfl
    simp only [fIx, ixW, itmsS, e, this]
  have t1 := tup_lst e1
  have t2 := tup_lst e2
  unfold homes
  generalize iW a = A at *
  generalize iW b = B at *
  simp [dTup, dCallN, dCons, dNil, dBin, dVar, hρ, dC, bnd, ret, rdS, i0, i1, t1, t2, mkT, szB]
/-- the program's reading of a text -/
theorem v_housesin {t : Str} (h : Tx t) : (∃ j S', h1 (Txt.split t " ") 0 [] = .inl j ∧ g_houses_in [.str t] S = .err "BadText" "at" [.int (j : Int)] S' ∧ Bs S S') ∨ ∃ a b S', h1 (Txt.split t " ") 0 [] = .inr (a, b) ∧ g_houses_in [.str t] S = .ok (homes a b) S' ∧ Bs S S' := by
  have hn := h.n
  have hws := h.ws
  have sp := sp_ok (S := S ++ [[], [.lst S.length]]) h
  obtain ⟨ws, hw⟩ : ∃ ws, ws = Txt.split t " " := ⟨_, rfl⟩
  rw [← hw] at sp hn hws
  rw [← hw]
  have a1 : HI1 [some (.str t), none, none, none, none, none] S = .ok (.nx [some (.str t), some (.lst (S.length + 1)), none, none, none, none]) (S ++ [[], [.lst S.length]]) := by
    simp [HI1, sSet, sAsg, setT, lft, dLst, dCons, dNil, mkL, szB, bnd, ret]
  have t1 : (S ++ [[], [W.lst S.length]])[S.length + 1]? = some [.lst S.length] := by
    rw [List.getElem?_append_right (by omega)]
    simp
  have t2 : (S ++ [[], [W.lst S.length]])[S.length]? = some (iW []) := by
    rw [List.getElem?_append_right (by omega)]
    simp [iW]
  have t3 : Bs S (S ++ [[], [W.lst S.length]]) := ⟨_, rfl⟩
  generalize S ++ [[], [W.lst S.length]] = T at *
  have a2 : HI2 [some (.str t), some (.lst (S.length + 1)), none, none, none, none] T = .ok (.nx [some (.str t), some (.lst (S.length + 1)), some (.cl (ws.map W.str)), none, none, none]) T := by
    generalize ws.map W.str = L at *
    simp [HI2, sSet, sAsg, setT, lft, dSplit, dVar, dC, isT, bnd, ret, sp]
  have it := en_of (S := T) (ws := ws) (ρ := [some (.str t), some (.lst (S.length + 1)), some (.cl (ws.map W.str)), none, none, none]) rfl
  have hI3 : HI3 [some (.str t), some (.lst (S.length + 1)), some (.cl (ws.map W.str)), none, none, none] T = forL HPT HPB [] T (enT 0 ws) [some (.str t), some (.lst (S.length + 1)), some (.cl (ws.map W.str)), none, none, none] T := by
    show sFor (iEnu (dCons (dVar 2) dNil)) HPT HPB _ _ = _
    rw [sFor, lft, it]
  have st : g_houses_in [.str t] S = fnR (sSeq HI3 (sSeq HI4 HI5) [some (.str t), some (.lst (S.length + 1)), some (.cl (ws.map W.str)), none, none, none] T) := by
    show fnR (d_houses_in [some (.str t), none, none, none, none, none] S) = _
    rw [HI_is, sSeq, a1]
    show fnR (sSeq _ _ _ _) = _
    rw [sSeq, a2]
  rw [st, sSeq, hI3]
  rcases hp_one (S0 := T) (B0 := S) (x0 := some (.str t)) (x2 := some (.cl (ws.map W.str))) (m := S.length + 1) (m1 := S.length) (by omega) (by omega) (by omega) ws 0 [] T none none none hws t1 t2 (by simp; omega) t3 with ⟨j, y, ρ, r1, f1, q1⟩ | ⟨y, x3, x4, x5, r1, f1, em, q1⟩ | ⟨a, b, m2, y, x3, x4, x5, r1, f1, em, ea, eb, q1⟩
  · refine .inl ⟨j, y, r1, ?_, q1⟩
    rw [f1]
    rfl
  · rw [Nat.zero_add] at r1
    refine .inl ⟨ws.length, y, r1, ?_, q1⟩
    rw [f1]
    have l1 := len_lst em
    have l1 : fLen y [.lst (S.length + 1)] = some (.int 1) := l1
    have l2 : fLen y [.cl (ws.map W.str)] = some (.int (ws.length : Nat)) := by simp [fLen, ixW, itmsS]
    have q : fEq y (.int 1) (.int 1) = some (.bl true) := rfl
    show fnR (sSeq _ _ _ _) = _
    generalize ws.map W.str = L at *
    generalize (ws.length : Int) = N at *
    simp [sSeq, HI4, sIf, sRaise, lft, dTst, dBin, dCallN, dCons, dNil, dVar, dC, bnd, ret, rdS, l1, l2, q, toB, fnR]
  · refine .inr ⟨a, b, y, r1, ?_, q1⟩
    rw [f1]
    have l1 := len_lst em
    have l1 : fLen y [.lst (S.length + 1)] = some (.int 2) := l1
    have q : fEq y (.int 2) (.int 1) = some (.bl false) := by rw [eq_int]; rfl
    have tw := two_sides (ρ := [some (.str t), some (.lst (S.length + 1)), some (.cl (ws.map W.str)), x3, x4, x5]) rfl em ea eb
    show fnR (sSeq _ _ _ _) = _
    generalize ws.map W.str = L at *
    have i4 : HI4 [some (.str t), some (.lst (S.length + 1)), some (.cl L), x3, x4, x5] y = .ok (.nx [some (.str t), some (.lst (S.length + 1)), some (.cl L), x3, x4, x5]) y := by
      simp [HI4, sIf, sNil, lft, dTst, dBin, dCallN, dCons, dNil, dVar, dC, bnd, ret, rdS, l1, q, toB]
    rw [sSeq, i4]
    show fnR (sRet _ _ _) = _
    rw [sRet, lft, tw]
    rfl
/-- the law's reading of a text -/
theorem v_homesin {t : Str} (h : Tx t) : ∃ S', g_law_homes_in [.str t] S = .ok (hdW (h1 (Txt.split t " ") 0 [])) S' ∧ Bs S S' := by
  have hn := h.n
  have hws := h.ws
  have sp := sp_ok (S := S ++ [[], [.lst S.length]]) h
  obtain ⟨ws, hw⟩ : ∃ ws, ws = Txt.split t " " := ⟨_, rfl⟩
  rw [← hw] at sp hn hws
  rw [← hw]
  have t1 : (S ++ [[], [W.lst S.length]])[S.length + 1]? = some [.lst S.length] := by
    rw [List.getElem?_append_right (by omega)]
    simp
  have t2 : (S ++ [[], [W.lst S.length]])[S.length]? = some (iW []) := by
    rw [List.getElem?_append_right (by omega)]
    simp [iW]
  have t3 : Bs S (S ++ [[], [W.lst S.length]]) := ⟨_, rfl⟩
  have ml : dLst (dCons (dLst dNil) dNil) [some (.str t), none, none, none, none, none] S = .ok (.lst (S.length + 1)) (S ++ [[], [.lst S.length]]) := by
    simp [dLst, dCons, dNil, mkL, szB, bnd, ret]
  generalize S ++ [[], [W.lst S.length]] = T at *
  have a1 : HN1 [some (.str t), none, none, none, none, none] S = .ok (.nx [some (.str t), some (.lst (S.length + 1)), some (.cl (ws.map W.str)), none, none, none]) T := by
    generalize ws.map W.str = L at *
    unfold HN1
    generalize dLst (dCons (dLst dNil) dNil) = D at *
    simp [sAsg, setT, setTs, itmsS, lft, dTup, mkT, szB, dCons, dNil, ml, dSplit, dVar, dC, isT, bnd, ret, sp]
  have it := en_of (S := T) (ws := ws) (ρ := [some (.str t), some (.lst (S.length + 1)), some (.cl (ws.map W.str)), none, none, none]) rfl
  have hI3 : HN2 [some (.str t), some (.lst (S.length + 1)), some (.cl (ws.map W.str)), none, none, none] T = forL HLT HLB [] T (enT 0 ws) [some (.str t), some (.lst (S.length + 1)), some (.cl (ws.map W.str)), none, none, none] T := by
    show sFor (iEnu (dCons (dVar 2) dNil)) HLT HLB _ _ = _
    rw [sFor, lft, it]
  have st : g_law_homes_in [.str t] S = fnR (sSeq HN2 HN3 [some (.str t), some (.lst (S.length + 1)), some (.cl (ws.map W.str)), none, none, none] T) := by
    show fnR (d_law_homes_in [some (.str t), none, none, none, none, none] S) = _
    rw [HN_is, sSeq, a1]
  rw [st, sSeq, hI3]
  rcases hl_one (S0 := T) (B0 := S) (x0 := some (.str t)) (x2 := some (.cl (ws.map W.str))) (m := S.length + 1) (m1 := S.length) (by omega) (by omega) (by omega) ws 0 [] T none none none hws t1 t2 (by simp; omega) t3 LtL.nil with ⟨j, y, r1, f1, q1⟩ | ⟨y, x3, x4, x5, r1, f1, em, q1⟩ | ⟨a, b, m2, y, x3, x4, x5, r1, f1, em, ea, eb, q1⟩
  · refine ⟨y, ?_, q1⟩
    rw [f1, r1]
    rfl
  · rw [Nat.zero_add] at r1
    refine ⟨y, ?_, q1⟩
    rw [f1, r1]
    have l1 := len_lst em
    have l1 : fLen y [.lst (S.length + 1)] = some (.int 1) := l1
    have l2 : fLen y [.cl (ws.map W.str)] = some (.int (ws.length : Nat)) := by simp [fLen, ixW, itmsS]
    have q : fEq y (.int 1) (.int 2) = some (.bl false) := by rw [eq_int]; rfl
    show fnR (HN3 _ _) = Out.ok (W.int (ws.length : Int)) y
    generalize ws.map W.str = L at *
    generalize (ws.length : Int) = N at *
    simp [HN3, sRet, lft, dIf, dTst, dBin, dCallN, dCons, dNil, dVar, dC, bnd, ret, rdS, l1, l2, q, toB, fnR]
  · refine ⟨y, ?_, q1⟩
    rw [f1, r1]
    have l1 := len_lst em
    have l1 : fLen y [.lst (S.length + 1)] = some (.int 2) := l1
    have q : fEq y (.int 2) (.int 2) = some (.bl true) := rfl
    have tw := two_sides (ρ := [some (.str t), some (.lst (S.length + 1)), some (.cl (ws.map W.str)), x3, x4, x5]) rfl em ea eb
    show fnR (HN3 _ _) = Out.ok (homes a b) y
    unfold HN3
    generalize ws.map W.str = L at *
    generalize (dTup (dCons (dCallN fTuple (dCons (dBin fIx (dVar 1) (dC (.int 0))) dNil)) (dCons (dCallN fTuple (dCons (dBin fIx (dVar 1) (dC (.int 1))) dNil)) dNil)) : DE) = D at *
    simp [sRet, lft, dIf, dTst, dBin, dCallN, dCons, dNil, dVar, dC, bnd, ret, rdS, l1, q, toB, tw, fnR]
theorem v_read {t : Str} (h : Tx t) : ∃ S', g_law_read [.str t] S = .ok (hdW (h1 (Txt.split t " ") 0 [])) S' ∧ Bs S S' := by
  have a1 : sAsg (.tp [(.nm 1), (.nm 2)]) (dTup (dCons (dC .non) (dCons (dC .non) dNil))) [some (.str t), none, none, none, none] S = .ok (.nx [some (.str t), some .non, some .non, none, none]) S := by
    simp [sAsg, setT, setTs, itmsS, lft, dTup, mkT, szB, dCons, dNil, dC, bnd, ret]
  rcases v_housesin (S := S) h with ⟨j, T, r1, e, q⟩ | ⟨a, b, T, r1, e, q⟩
  · refine ⟨T, ?_, q⟩
    rw [r1]
    have q1 : errs.contains "BadText" = true := by decide
    have m1 : ("BadText" : Str) ∈ errs := by decide
    have q2 : List.contains (α := Str) ["BadRow", "BadText", "Known"] "BadText" = true := by decide
    have q3 : List.contains (α := Str) ["BadRow", "Known"] "BadText" = false := by decide
    have q4 : decide (("BadText" : Str) = "BadText") = true := by decide
    have q5 : up_ValueError "BadText" = true := by decide
    have b1 : sSet 1 (dCall 1 g_houses_in (dCons (dVar 0) dNil)) [some (.str t), some .non, some .non, none, none] S = .ok (.er "BadText" "at" [.int (j : Int)] [some (.str t), some .non, some .non, none, none]) T := by
      simp [sSet, sAsg, lft, dCall, dCons, dNil, dVar, bnd, ret, e]
    have t1 : sTry errs ["BadRow", "BadText", "Known"] 3 2 (sSet 1 (dCall 1 g_houses_in (dCons (dVar 0) dNil))) [some (.str t), some .non, some .non, none, none] S = .ok (.nx [some (.str t), some .non, some (.exn "BadText" "at" [.int (j : Int)]), none, none]) T := by
      unfold sTry
      rw [b1]
      simp only [q1, q2, Bool.true_and]
      rfl
    show fnR (d_law_read [some (.str t), none, none, none, none] S) = _
    unfold d_law_read
    rw [sSeq, a1]
    show fnR (sSeq _ _ _ _) = _
    rw [sSeq, t1]
    have xk : ∀ f : Str → Bool, dIsX errs f (dVar 2) [some (.str t), some .non, some (.exn "BadText" "at" [.int (j : Int)]), none, none] T = .ok (.bl (f "BadText")) T := fun f => by simp only [dIsX, dVar, bnd, ret, List.getElem?_cons_succ, List.getElem?_cons_zero, q1, if_true]
    have i0 : sIf (dTst (dBin fIs (dVar 2) (dC .non))) (sRet (dVar 1)) sNil [some (.str t), some .non, some (.exn "BadText" "at" [.int (j : Int)]), none, none] T = .ok (.nx [some (.str t), some .non, some (.exn "BadText" "at" [.int (j : Int)]), none, none]) T := by
      simp [sIf, sNil, lft, dTst, dBin, dVar, dC, bnd, ret, rdS, fIs, isN, toB]
    have a2 : sSet 4 (dAnd (dIsX errs (fun c => decide (c = "BadText")) (dVar 2)) (dAnd (dIsX errs up_ValueError (dVar 2)) (dNot (dIsX errs (fun c => List.contains (α := Str) ["BadRow", "Known"] c) (dVar 2))))) [some (.str t), some .non, some (.exn "BadText" "at" [.int (j : Int)]), none, none] T = .ok (.nx [some (.str t), some .non, some (.exn "BadText" "at" [.int (j : Int)]), none, some (.bl true)]) T := by
      have z1 := xk (fun c => decide (c = "BadText"))
      have z2 := xk up_ValueError
      have z3 := xk (fun c => List.contains (α := Str) ["BadRow", "Known"] c)
      simp only [q3, q4, q5] at z1 z2 z3
      simp only [sSet, sAsg, lft, dAnd, dNot, dTst, bnd, ret, z1, z2, z3, toB, Bool.not_false, if_true]
      rfl
    show fnR (sSeq _ _ _ _) = _
    rw [sSeq, i0]
    show fnR (sSeq _ _ _ _) = _
    rw [sSeq, a2]
    have fld : dFld errs "at" (dVar 2) [some (.str t), some .non, some (.exn "BadText" "at" [.int (j : Int)]), none, some (.bl true)] T = .ok (.int (j : Int)) T := by
      simp [dFld, dVar, bnd, ret, m1]
    show fnR (sRet _ _ _) = Out.ok (W.int (j : Int)) T
    simp [sRet, lft, dIf, dTst, dVar, bnd, ret, toB, fld, fnR]
  · refine ⟨T, ?_, q⟩
    rw [r1]
    have b1 : sSet 1 (dCall 1 g_houses_in (dCons (dVar 0) dNil)) [some (.str t), some .non, some .non, none, none] S = .ok (.nx [some (.str t), some (homes a b), some .non, none, none]) T := by
      simp [sSet, sAsg, setT, lft, dCall, dCons, dNil, dVar, bnd, ret, e]
    have t1 : sTry errs ["BadRow", "BadText", "Known"] 3 2 (sSet 1 (dCall 1 g_houses_in (dCons (dVar 0) dNil))) [some (.str t), some .non, some .non, none, none] S = .ok (.nx [some (.str t), some (homes a b), some .non, none, none]) T := by
      unfold sTry
      rw [b1]
    show fnR (d_law_read [some (.str t), none, none, none, none] S) = _
    unfold d_law_read
    rw [sSeq, a1]
    show fnR (sSeq _ _ _ _) = _
    rw [sSeq, t1]
    show fnR (sSeq _ _ _ _) = Out.ok (homes a b) T
    unfold homes at *
    generalize [W.tup (iW a), W.tup (iW b)] = L at *
    simp [sSeq, sIf, sRet, lft, dTst, dBin, dVar, dC, bnd, ret, rdS, fIs, isN, toB, fnR]
theorem like_homes (T : Store) (a b : List Int) (n : Nat) : likeB T (n + 3) (homes a b) (homes a b) = true := by
  have h1 := like_tup T a n
  have h2 := like_tup T b n
  show all2 (likeB T (n + 2)) [_, _] [_, _] = true
  simp [all2, h1, h2]
theorem hdW_like (x : Nat ⊕ (List Int × List Int)) : g_law_same 16 [hdW x, hdW x] S = .ok (.bl true) S := by
  cases x with
  | inl k => exact same_true 16 _ _ (by simp [hdW, likeB])
  | inr l => exact same_true 16 _ _ (like_homes S l.1 l.2 13)
end

end Den

namespace Den
open PySem PySem.Spec PyProof.Rows L2 Bal
section
theorem colon_cps : (":" : Str).cps.toList = [58] := by decide +kernel
theorem num_colon : numO ":" = none := by
  unfold numO
  rw [if_neg]
  intro h
  have hm : minus ":" = false := by
    unfold minus
    rw [colon_cps]
    rfl
  have hf : figs ":" = ":" := by
    unfold figs
    rw [hm]
    rfl
  have := h.1
  rw [hf, colon_cps] at this
  exact absurd this (by decide)
theorem num_nc {i : Int} (h : i.natAbs < 10000000000) : Str.ofString (toString i) ≠ ":" := fun e => by
  have := num_say h
  rw [e, num_colon] at this
  cases this
theorem h2_row : ∀ (r : List Int) (k : Nat) (acc : List Int), (∀ i ∈ r, i.natAbs < 10000000000) → (∀ i ∈ r, topL acc < i) → r.Pairwise (· < ·) → h2 (wds r) k acc = .inr (acc ++ r)
  | [], k, acc, _, _, _ => by
    show Sum.inr acc = _
    rw [List.append_nil]
  | i :: r, k, acc, hb, ht, hp => by
    have h0 := ht i (List.mem_cons_self ..)
    have ih := h2_row r (k + 1) (acc ++ [i]) (fun j hj => hb j (List.mem_cons_of_mem _ hj)) (fun j hj => by rw [top_snoc h0]; exact List.rel_of_pairwise_cons hp hj) hp.of_cons
    show (match numO (Str.ofString (toString i)) with | none => Sum.inl k | some n => if n ≤ topL acc then Sum.inl k else h2 (wds r) (k + 1) (acc ++ [n])) = _
    rw [num_say (hb i (List.mem_cons_self ..))]
    dsimp only
    rw [if_neg (by omega), ih, List.append_assoc]
    rfl
theorem h1_row {ws : List Str} : ∀ (r : List Int) (k : Nat) (acc : List Int), (∀ i ∈ r, i.natAbs < 10000000000) → (∀ i ∈ r, topL acc < i) → r.Pairwise (· < ·) → h1 (wds r ++ (":" : Str) :: ws) k acc = (match h2 ws (k + r.length + 1) [] with | .inl j => .inl j | .inr b => .inr (acc ++ r, b))
  | [], k, acc, _, _, _ => by
    show h1 ((":" : Str) :: ws) k acc = _
    unfold h1
    rw [if_pos rfl, List.append_nil]
    rw [show k + ([] : List Int).length + 1 = k + 1 from rfl]
    all_goals (cases h2 ws (k + 1) [] <;> rfl)
  | i :: r, k, acc, hb, ht, hp => by
    have h0 := ht i (List.mem_cons_self ..)
    have hi := hb i (List.mem_cons_self ..)
    have ih := h1_row (ws := ws) r (k + 1) (acc ++ [i]) (fun j hj => hb j (List.mem_cons_of_mem _ hj)) (fun j hj => by rw [top_snoc h0]; exact List.rel_of_pairwise_cons hp hj) hp.of_cons
    show (if Str.ofString (toString i) = ":" then _ else (match numO (Str.ofString (toString i)) with | none => Sum.inl k | some n => if n ≤ topL acc then Sum.inl k else h1 (wds r ++ (":" : Str) :: ws) (k + 1) (acc ++ [n]))) = _
    rw [if_neg (num_nc hi), num_say hi]
    dsimp only
    rw [if_neg (by omega), ih, List.append_assoc, List.length_cons, show k + 1 + r.length + 1 = k + (r.length + 1) + 1 by omega]
    rfl
/-- the words of houses -/
def hws (fl fr : List Int) : List Str := wds fl ++ [(":" : Str)] ++ wds fr
def hX (fl fr : List Int) : Str := Str.join " " (hws fl fr)
theorem hws_free (fl fr : List Int) : ∀ x ∈ hws fl fr, 32 ∉ x.cps.toList := by
  intro x hx
  have num : ∀ r : List Int, x ∈ wds r → 32 ∉ x.cps.toList := fun r hx => by
    obtain ⟨i, _, rfl⟩ := List.mem_map.mp hx
    exact PyProof.Rows.int_text_free' 32 ⟨by decide, by decide⟩ i
  rcases List.mem_append.mp hx with hx | hx
  · rcases List.mem_append.mp hx with hx | hx
    · exact num fl hx
    · rw [List.mem_singleton.mp hx, colon_cps]
      decide
  · exact num fr hx
theorem split_h (fl fr : List Int) : Txt.split (hX fl fr) " " = hws fl fr := split_join (by simp [hws]) (hws_free fl fr)
structure Asc (r : List Int) : Prop where
  up : r.Pairwise (· < ·)
  lo : ∀ i ∈ r, 0 < i
  hi : ∀ i ∈ r, i < 100
theorem Asc.abs {r : List Int} (h : Asc r) : ∀ i ∈ r, i.natAbs < 10000000000 := fun i hi => by have := h.lo i hi; have := h.hi i hi; omega
theorem rd_h {fl fr : List Int} (hl : Asc fl) (hr : Asc fr) : h1 (Txt.split (hX fl fr) " ") 0 [] = .inr (fl, fr) := by
  rw [split_h]
  unfold hws
  rw [List.append_assoc]
  show h1 (wds fl ++ (":" : Str) :: wds fr) 0 [] = _
  rw [h1_row fl 0 [] hl.abs (fun i hi => hl.lo i hi) hl.up, h2_row fr _ [] hr.abs (fun i hi => hr.lo i hi) hr.up]
  rfl
theorem num_len2 {i : Int} (h0 : 0 < i) (h1 : i < 100) : (Str.ofString (toString i)).length ≤ 2 := by
  obtain ⟨m, rfl⟩ := Int.eq_ofNat_of_zero_le (a := i) (by omega)
  have hl := TL.numL_len (n := m) (k := 2) (by decide) (by omega)
  rw [len_cps, cps_num]
  exact hl
theorem num_ne {i : Int} (h0 : 0 < i) : 1 ≤ (Str.ofString (toString i)).length := by
  obtain ⟨m, rfl⟩ := Int.eq_ofNat_of_zero_le (a := i) (by omega)
  have hl := digs_ne m
  rw [len_cps, cps_num]
  cases h : (Nat.toDigits 10 m).map Char.toNat with
  | nil => exact absurd h hl
  | cons a l => simp
theorem bn_wds2 : ∀ (r : List Int), Asc r → Bn (wds r) (3 * r.length)
  | [], _ => ⟨fun y hy => absurd hy (List.not_mem_nil), Nat.le_refl _⟩
  | i :: r, h => by
    have ih := bn_wds2 r ⟨h.up.of_cons, fun j hj => h.lo j (List.mem_cons_of_mem _ hj), fun j hj => h.hi j (List.mem_cons_of_mem _ hj)⟩
    have hl := num_len2 (h.lo i (List.mem_cons_self ..)) (h.hi i (List.mem_cons_self ..))
    refine ⟨fun y hy => ?_, ?_⟩
    · rcases List.mem_cons.mp hy with rfl | hy
      · exact ok_ofString _
      · exact ih.ok y hy
    · have := ih.w
      have e : Wt (wds (i :: r)) = (Str.ofString (toString i)).length + 1 + Wt (wds r) := by
        simp [Wt, wds]
        omega
      rw [e, List.length_cons]
      omega
theorem bn_colon : Bn [(":" : Str)] 2 := ⟨fun y hy => by rw [List.mem_singleton.mp hy]; decide +kernel, by decide +kernel⟩
theorem bn_hws {fl fr : List Int} (hl : Asc fl) (hr : Asc fr) : Bn (hws fl fr) (3 * fl.length + 2 + 3 * fr.length) := ((bn_wds2 fl hl).app bn_colon).app (bn_wds2 fr hr)
theorem join_cons (a : Str) : ∀ (b : List Str), b ≠ [] → Str.join " " (a :: b) = a ++ " " ++ Str.join " " b
  | [], h => absurd rfl h
  | _ :: _, _ => rfl
theorem cat_assoc (x y z : Str) : x ++ y ++ z = x ++ (y ++ z) := str_ext (by rw [cps_cat, cps_cat, cps_cat, cps_cat, List.append_assoc])
theorem join_app : ∀ (a b : List Str), a ≠ [] → b ≠ [] → Str.join " " (a ++ b) = Str.join " " a ++ " " ++ Str.join " " b
  | [], _, h, _ => absurd rfl h
  | [x], b, _, hb => join_cons x b hb
  | x :: y :: r, b, _, hb => by
    have ih := join_app (y :: r) b (by simp) hb
    rw [List.cons_append, join_cons x (y :: r ++ b) (by simp), ih, join_cons x (y :: r) (by simp)]
    simp only [cat_assoc]
theorem rowX_nil : rowX [] = "" := by
  show Str.empty = _
  decide +kernel
theorem rowX_ne {r : List Int} (h : Asc r) (hne : r ≠ []) : rowX r ≠ "" := by
  cases r with
  | nil => exact absurd rfl hne
  | cons i r =>
    intro e
    have h1 := PyProof.Rows.len_join_cons " " (Str.ofString (toString i)) (wds r)
    have h2 : (rowX (i :: r)).length = _ := h1
    have h3 := num_ne (h.lo i (List.mem_cons_self ..))
    rw [e] at h2
    have h4 : ("" : Str).length = 0 := by decide +kernel
    rw [h4, List.map_cons, List.sum_cons] at h2
    omega
theorem wds_ne {r : List Int} (h : r ≠ []) : wds r ≠ [] := fun e => h (List.map_eq_nil_iff.mp e)
/-- the law's text of houses is that of their words -/
theorem join_filt {fl fr : List Int} (hl : Asc fl) (hr : Asc fr) : Str.join " " ([rowX fl, (":" : Str), rowX fr].filter fun x : Str => !decide (x = ("" : Str))) = hX fl fr := by
  have hc : (":" : Str) ≠ "" := fun e => by
    have := congrArg (fun x : Str => x.cps.toList) e
    have := colon_cps.symm.trans (this.trans empty_cps)
    cases this
  unfold hX hws
  by_cases c1 : fl = []
  · by_cases c2 : fr = []
    · subst c1; subst c2
      rw [rowX_nil]
      simp [hc, wds]
    · have n2 := rowX_ne hr c2
      subst c1
      rw [rowX_nil]
      have e : ([("" : Str), (":" : Str), rowX fr].filter fun x : Str => !decide (x = ("" : Str))) = [(":" : Str), rowX fr] := by simp [hc, n2]
      rw [e]
      show (":" : Str) ++ " " ++ rowX fr = Str.join " " ((":" : Str) :: wds fr)
      rw [join_cons ":" (wds fr) (wds_ne c2)]
      rfl
  · have n1 := rowX_ne hl c1
    by_cases c2 : fr = []
    · subst c2
      rw [rowX_nil]
      have e : ([rowX fl, (":" : Str), ""].filter fun x : Str => !decide (x = ("" : Str))) = [rowX fl, (":" : Str)] := by simp [hc, n1]
      rw [e]
      show rowX fl ++ " " ++ (":" : Str) = Str.join " " (wds fl ++ [(":" : Str)] ++ [])
      rw [List.append_nil, join_app (wds fl) [(":" : Str)] (wds_ne c1) (by simp)]
      rfl
    · have n2 := rowX_ne hr c2
      have e : ([rowX fl, (":" : Str), rowX fr].filter fun x : Str => !decide (x = ("" : Str))) = [rowX fl, (":" : Str), rowX fr] := by simp [hc, n1, n2]
      rw [e]
      show rowX fl ++ " " ++ ((":" : Str) ++ " " ++ rowX fr) = _
      rw [join_app (wds fl ++ [(":" : Str)]) (wds fr) (by simp) (wds_ne c2), join_app (wds fl) [(":" : Str)] (wds_ne c1) (by simp)]
      show _ = rowX fl ++ " " ++ (":" : Str) ++ " " ++ rowX fr
      simp only [cat_assoc]
end
section
variable {S : Store}
theorem v_housestext {w : W} {fl fr : List Int} (hw : Hm w fl fr) (hl : Asc fl) (hr : Asc fr) (h1 : fl.length ≤ 60) (h2 : fr.length ≤ 60) : g_houses_text [w] S = .ok (.str (hX fl fr)) S := by
  obtain ⟨x, y, hxy, hx, hy⟩ := hw
  have it : itmsS S w = some [x, y] := by rcases hxy with rfl | rfl <;> rfl
  have s1 : sAsg (.tp [(.nm 1), (.nm 2)]) (dVar 0) [some w, none, none, none] S = .ok (.nx [some w, some x, some y, none]) S := by
    simp [sAsg, lft, dVar, bnd, ret, setT, setTs, it]
  have k1 := words_lc (S := S) (i := 3) (ρ := [some w, some x, some y, none]) (by simp) hl.abs
  have k2 := words_lc (S := S) (i := 3) (ρ := [some w, some x, some y, none]) (by simp) hr.abs
  have q1 := hx.sq S
  have q2 := hy.sq S
  have b1 := bn_wds2 fl hl
  have b2 := bn_wds2 fr hr
  have a1 := add_fit (S := S) b1 bn_colon (by omega)
  have a2 := add_fit (S := S) (b1.app bn_colon) b2 (by omega)
  have jf := join_fits (S := S) (bn_hws hl hr) (by omega)
  have a1 : fAdd S (.cl ((wds fl).map W.str)) (.cl [.str ":"]) = _ := a1
  have a2 : fAdd S (.cl ((wds fl ++ [(":" : Str)]).map W.str)) (.cl ((wds fr).map W.str)) = some (.cl ((hws fl fr).map W.str)) := a2
  have wp : wipeW [some w, some x, some y, none] [3] = [some w, some x, some y, none] := rfl
  show fnR (d_houses_text [some w, none, none, none] S) = _
  unfold d_houses_text hX
  rw [sSeq, s1]
  show fnR (sRet _ _ _) = _
  generalize Str.join " " (hws fl fr) = J at *
  generalize (hws fl fr).map W.str = HW at *
  generalize (wds fl ++ [(":" : Str)]).map W.str = H2 at *
  generalize (wds fl).map W.str = WL at *
  generalize (wds fr).map W.str = WR at *
  generalize (dCallN fStr (dCons (dVar 3) dNil) : DE) = DB at *
  generalize iW fl = L at *
  generalize iW fr = R at *
  generalize W.str ":" = C at *
  generalize hB : W.str " " = B at *
  have hT : isT B = true := by rw [← hB]; rfl
  simp [sRet, lft, dJoin, dC, hT, dBin, dCl, dCons, dNil, mkC, szB, dLc, iSeq, rdI, q1, q2, dVar, wp, k1, k2, a1, a2, newK, bnd, ret, rdS, jf, fnR]
end

end Den

namespace Den
open PySem PySem.Spec PyProof.Rows L2 Bal
section
abbrev RT1 : DS := (sSet 1 (dCall 2 g_law_homes (dCons (dVar 0) (dCons (dBin fAdd (dC (.int 1)) (dCall 2 (g_law_take 6) (dCons (dVar 0) (dCons (dC (.int 30)) dNil)))) dNil))))
abbrev RT2 : DS := (sSet 2 (dLc .cl [4] (iSeq (dVar 1)) (.nm 4) dYes (dJoin (dC (.str " ")) (dLc .cl [3] (iSeq (dVar 4)) (.nm 3) dYes (dCallN fStr (dCons (dVar 3) dNil))))))
abbrev RT3 : DS := (sSet 5 (dJoin (dC (.str " ")) (dLc .cl [4] (iSeq (dCl (dCons (dBin fIx (dVar 2) (dC (.int 0))) (dCons (dC (.str ":")) (dCons (dBin fIx (dVar 2) (dC (.int 1))) dNil))))) (.nm 4) (dTst (dBin fNe (dVar 4) (dC (.str "")))) (dVar 4))))
abbrev RT4 : DS := (sSet 6 (dCl (dCons (dCall 1 g_houses_text (dCons (dVar 1) dNil)) (dCons (dCallK 1 1 [0] g_houses_text (dCons (dCall 1 (g_law_lists 6) (dCons (dVar 1) dNil)) dNil)) (dCons (dCall 1 g_houses_in (dCons (dVar 5) dNil)) (dCons (dCallK 1 1 [0] g_houses_in (dCons (dVar 5) dNil)) dNil))))))
abbrev RT5 : DS := (sIf (dNotT (dTst (dCall 2 (g_law_same 16) (dCons (dVar 6) (dCons (dCl (dCons (dVar 5) (dCons (dVar 5) (dCons (dVar 1) (dCons (dVar 1) dNil))))) dNil))))) (sRet (dC (.bl false))) sNil)
abbrev RT6 : DS := (sSet 7 (dCl (dCons (dC (.str "")) (dCons (dC (.str ":")) (dCons (dC (.str " :")) (dCons (dC (.str ": ")) (dCons (dC (.str "1")) (dCons (dC (.str "1 2")) (dCons (dC (.str "1 : 2")) (dCons (dC (.str "1:2")) (dCons (dC (.str "1 :2")) (dCons (dC (.str ": :")) (dCons (dC (.str "1 : : 2")) (dCons (dC (.str "2 1 :")) dNil))))))))))))))
abbrev RT7 : DS := (sSet 7 (dBin fAdd (dVar 7) (dCl (dCons (dC (.str "1 1 :")) (dCons (dC (.str ": 2 1")) (dCons (dC (.str ": 1 1")) dNil))))))
abbrev RT8 : DS := (sSet 7 (dBin fAdd (dVar 7) (dCl (dCons (dC (.str "0 :")) (dCons (dC (.str ": 0")) (dCons (dC (.str "-1 :")) (dCons (dC (.str "01 :")) (dCons (dC (.str "1  : 2")) (dCons (dC (.str "a :")) (dCons (dC (.str "3 : 1 2 3")) (dCons (dC (.str "1 : 2\n")) (dCons (dC (.str ":\n")) (dCons (dC (.str ": 9999999999")) dNil)))))))))))))
abbrev RT9 : DS := (sSet 7 (dBin fAdd (dVar 7) (dCl (dCons (dC (.str ": 99999999999")) (dCons (dC (.str "1 : x 2 1")) dNil)))))
abbrev RT10 : DS := (sSet 7 (dBin fAdd (dVar 7) (dLc .cl [8] (iRg1 (dCons (dC (.int 12)) dNil)) (.nm 8) dYes (dCall 2 g_law_signs_bent (dCons (dVar 0) (dCons (dVar 5) dNil))))))
abbrev RT11 : DS := (sRet (dCallN fAll (dCons (dLc .cl [9] (iSeq (dVar 7)) (.nm 9) dYes (dCall 2 (g_law_same 16) (dCons (dCall 1 g_law_read (dCons (dVar 9) dNil)) (dCons (dCall 1 g_law_homes_in (dCons (dVar 9) dNil)) dNil)))) dNil)))
theorem RT_is : d_law_right = (sSeq RT1 (sSeq RT2 (sSeq RT3 (sSeq RT4 (sSeq RT5 (sSeq RT6 (sSeq RT7 (sSeq RT8 (sSeq RT9 (sSeq RT10 RT11)))))))))) := rfl
end
section
variable {S : Store}
def wr1 : List Str := ["", ":", " :", ": ", "1", "1 2", "1 : 2", "1:2", "1 :2", ": :", "1 : : 2", "2 1 :"]
def wr2 : List Str := ["1 1 :", ": 2 1", ": 1 1"]
def wr3 : List Str := ["0 :", ": 0", "-1 :", "01 :", "1  : 2", "a :", "3 : 1 2 3", "1 : 2\n", ":\n", ": 9999999999"]
def wr4 : List Str := [": 99999999999", "1 : x 2 1"]
def wrs : List Str := ((wr1 ++ wr2) ++ wr3) ++ wr4
def okX (x : Str) : Bool := decide (x.length ≤ 990) && PyData.strOk x
theorem okX_tx {x : Str} (h : okX x = true) : Tx x := by
  unfold okX at h
  rw [Bool.and_eq_true, decide_eq_true_eq] at h
  exact tx_of h.1 h.2
def csD : List W → DA
  | [] => dNil
  | w :: ws => dCons (dC w) (csD ws)
theorem cs_ok (ρ : En) : ∀ ws : List W, csD ws ρ S = .ok ws S
  | [] => rfl
  | w :: ws => by
    have ih := cs_ok ρ ws
    show bnd (dC w ρ) (fun w => bnd (csD ws ρ) fun ws => ret (w :: ws)) S = _
    simp [bnd, ih, dC, ret]
theorem cl_cs (ρ : En) {ws : List W} (h : ws.length ≤ 1000) : dCl (csD ws) ρ S = .ok (.cl ws) S := by
  have z : szB ws.length = true := decide_eq_true (by omega)
  have e := cs_ok (S := S) ρ ws
  show bnd (csD ws ρ) mkC S = _
  simp [bnd, e, mkC, z]
theorem add_cl {a b : List W} (h : a.length + b.length ≤ 1000) : fAdd S (.cl a) (.cl b) = some (.cl (a ++ b)) := by
  have z : szB (a.length + b.length) = true := decide_eq_true (by omega)
  show (if szB (a.length + b.length) = true then some (W.cl (a ++ b)) else none) = _
  rw [if_pos z]
theorem wrs_ok : wrs.all okX = true := by decide +kernel
theorem bents {n : Nat} {t : Str} (hz : t.length ≤ 300) (ok : PyData.strOk t = true) {x1 x2 x3 x4 x6 x7 x9 : Option W} {S0 : Store} : ∀ (ks : List W) (S : Store) (p : List W) (c : Int), S[n]? = some p → PotL p c → c + 4 * ks.length ≤ 990000 → ∃ (vs : List Str) (S' : Store), lcL (.nm 8) dYes (dCall 2 g_law_signs_bent (dCons (dVar 0) (dCons (dVar 5) dNil))) [some (.lst n), x1, x2, x3, x4, some (.str t), x6, x7, none, x9] S0 [] ks S = .ok (vs.map W.str) S' ∧ vs.length = ks.length ∧ vs.all okX = true ∧ Aft S S' n (c + 4 * ks.length)
  | [], S, p, c, e, hp, hc => ⟨[], S, rfl, rfl, rfl, p, [], by rw [set_same e, List.append_nil], by simpa using hp⟩
  | k :: ks, S, p, c, e, hp, hc => by
    simp only [List.length_cons] at hc
    obtain ⟨v, S1, t1, o1, l1, f1⟩ := v_signs e hp (by omega) hz ok
    obtain ⟨p1, e1, hp1⟩ := f1.pot (get_lt e)
    obtain ⟨vs, S2, ih, l2, o2, f2⟩ := bents hz ok (x1 := x1) (x2 := x2) (x3 := x3) (x4 := x4) (x6 := x6) (x7 := x7) (x9 := x9) (S0 := S0) ks S1 p1 (c + 4) e1 hp1 (by omega)
    refine ⟨v :: vs, S2, ?_, by simp [l2], ?_, (f1.trans (get_lt e) f2).mono (by simp only [List.length_cons]; omega)⟩
    · simp [lcL, setT, dYes, ret, dCall, dCons, dNil, dVar, bnd, t1, ih, kept]
    · have : okX v = true := by
        unfold okX
        rw [Bool.and_eq_true, decide_eq_true_eq]
        exact ⟨by omega, o1⟩
      rw [List.all_cons, this, o2]
      rfl
theorem alls {x0 x1 x2 x3 x4 x5 x6 x7 x8 : Option W} {S0 : Store} : ∀ (ts : List Str) (S : Store), ts.all okX = true → ∃ S', lcL (.nm 9) dYes (dCall 2 (g_law_same 16) (dCons (dCall 1 g_law_read (dCons (dVar 9) dNil)) (dCons (dCall 1 g_law_homes_in (dCons (dVar 9) dNil)) dNil))) [x0, x1, x2, x3, x4, x5, x6, x7, x8, none] S0 [] (ts.map W.str) S = .ok (List.replicate ts.length (.bl true)) S' ∧ Bs S S'
  | [], S, _ => ⟨S, rfl, Bs.rfl' S⟩
  | t :: ts, S, h => by
    rw [List.all_cons, Bool.and_eq_true] at h
    have ht := okX_tx h.1
    obtain ⟨S2, r1, q1⟩ := v_read (S := S) ht
    obtain ⟨S3, r2, q2⟩ := v_homesin (S := S2) ht
    have sm := hdW_like (S := S3) (h1 (Txt.split t " ") 0 [])
    obtain ⟨S4, ih, q4⟩ := alls (x0 := x0) (x1 := x1) (x2 := x2) (x3 := x3) (x4 := x4) (x5 := x5) (x6 := x6) (x7 := x7) (x8 := x8) (S0 := S0) ts S3 h.2
    refine ⟨S4, ?_, ?_⟩
    · generalize hdW (h1 (Txt.split t " ") 0 []) = R at *
      rw [List.map_cons, List.length_cons, List.replicate_succ]
      simp [lcL, setT, dYes, ret, dCall, dCons, dNil, dVar, bnd, r1, r2, sm, ih, kept]
    · obtain ⟨g1, rfl⟩ := q1
      obtain ⟨g2, rfl⟩ := q2
      exact ((Bs.rfl' S).app g1 |>.app g2).elim fun g e => by
        obtain ⟨g4, rfl⟩ := q4
        exact ⟨g1 ++ g2 ++ g4, by simp [List.append_assoc]⟩
theorem all_reps7 (S : Store) (k : Nat) : fAll S [.cl (List.replicate k (.bl true))] = some (.bl true) := by
  have bt : ∀ n : Nat, blT (List.replicate n (W.bl true)) = some (List.replicate n true) := fun n => by
    induction n with
    | zero => rfl
    | succ n ih => simp [List.replicate_succ, blT, ih]
  simp [fAll, lstS, bt]
theorem Aft.bs {S S1 S2 : Store} {n : Nat} {c : Int} (h : Aft S S1 n c) (b : Bs S1 S2) : Aft S S2 n c := by
  obtain ⟨g, rfl⟩ := b
  exact h.more g
theorem filt_lc {ρ : En} (hi : 4 < ρ.length) {S0 : Store} : ∀ ts : List Str, (∀ t ∈ ts, PyData.strOk t = true) → lcL (.nm 4) (dTst (dBin fNe (dVar 4) (dC (.str "")))) (dVar 4) ρ S0 [] (ts.map W.str) S = .ok ((ts.filter fun x : Str => !decide (x = ("" : Str))).map W.str) S
  | [], _ => rfl
  | t :: ts, h => by
    have ih := filt_lc (S0 := S0) hi ts fun x hx => h x (List.mem_cons_of_mem _ hx)
    have eok : PyData.strOk "" = true := by decide +kernel
    have ne := ne_strs (S := S) (h t (List.mem_cons_self ..)) eok
    have st : setT S (.nm 4) (W.str t) ρ = some (ρ.set 4 (some (.str t))) := by simp [setT, hi]
    have g : (ρ.set 4 (some (W.str t)))[4]? = some (some (.str t)) := List.getElem?_set_self hi
    have tt : dTst (dBin fNe (dVar 4) (dC (.str ""))) (ρ.set 4 (some (.str t))) S = .ok (!decide (t = ("" : Str))) S := by
      generalize W.str "" = F at *
      simp [dTst, dBin, dVar, g, dC, bnd, ret, rdS, ne, toB]
    have dv : dVar 4 (ρ.set 4 (some (.str t))) S = .ok (.str t) S := by simp [dVar, g, ret]
    rw [List.map_cons]
    unfold lcL
    rw [st]
    by_cases c : t = ""
    · rw [decide_eq_true c] at tt
      simp only [tt, Bool.not_true]
      simp [kept_nil, ih, c]
    · rw [decide_eq_false c] at tt
      simp only [tt, Bool.not_false, if_true, dv, kept_nil, ih]
      simp [c]
theorem flr_asc {fl : List Int} {m : Nat} (h : Flr fl m) (hm : m ≤ 30) : Asc fl := ⟨h.1, fun i hi => by have := (h.2.1 i hi).1; omega, fun i hi => by have := (h.2.1 i hi).2; omega⟩
theorem v_right {n : Nat} {c : Int} {p : List W} (e : S[n]? = some p) (hp : PotL p c) (hc : c ≤ 900000) : ∃ S', g_law_right [.lst n] S = .ok (.bl true) S' ∧ Aft S S' n (c + 200) := by
  have hn := get_lt e
  obtain ⟨a, S1, t1, a0, a1, f1⟩ := v_takeA (b := 30) e hp (by omega) (by omega) (by omega)
  obtain ⟨p1, e1, hp1⟩ := f1.pot hn
  obtain ⟨k, rfl⟩ : ∃ k : Nat, a = (k : Int) := Int.eq_ofNat_of_zero_le a0
  obtain ⟨fl, fr, S2, t2, hF, hG, f2⟩ := v_homes (m := 1 + k) e1 hp1 (by omega) (by omega) (by omega)
  have f12 : Aft S S2 n (c + 100) := (f1.trans hn f2).mono (by omega)
  have hA := flr_asc hF (by omega)
  have hB := flr_asc hG (by omega)
  have l1 := hF.2.2
  have l2 := hG.2.2
  have bh := bn_hws hA hB
  have hz : (hX fl fr).length ≤ 300 := Nat.le_trans (len_joinS _) (Nat.le_trans bh.w (by omega))
  have ho : PyData.strOk (hX fl fr) = true := ok_joinS _ bh.ok
  have hT : Tx (hX fl fr) := tx_of (by omega) ho
  have hR := rd_h hA hB
  have hin : ∀ T : Store, ∃ T', g_houses_in [.str (hX fl fr)] T = .ok (homes fl fr) T' ∧ Bs T T' := fun T => by
    rcases v_housesin (S := T) hT with ⟨j, z, h1, _, _⟩ | ⟨a, b, z, h1, h2, h3⟩
    · rw [hR] at h1; cases h1
    · rw [hR] at h1
      cases h1
      exact ⟨z, h2, h3⟩
  obtain ⟨S3, w1, b3⟩ := hin S2
  obtain ⟨S4, w2, b4⟩ := hin S3
  have q1 := v_housestext (S := S2) (Hm.t fl fr) hA hB (by omega) (by omega)
  have q2 := v_housestext (S := S2) (Hm.l fl fr) hA hB (by omega) (by omega)
  have ql := lists_homes (S := S2) fl fr
  -- the law's own text
  have k1 := words_lc (S := S2) (i := 3) (ρ := [some (.lst n), some (homes fl fr), none, none, some (.tup (iW fl)), none, none, none, none, none]) (by simp) hA.abs
  have k2 := words_lc (S := S2) (i := 3) (ρ := [some (.lst n), some (homes fl fr), none, none, some (.tup (iW fr)), none, none, none, none, none]) (by simp) hB.abs
  have j1 := join_fits (S := S2) (bn_wds2 fl hA) (by omega)
  have j2 := join_fits (S := S2) (bn_wds2 fr hB) (by omega)
  have j1 : fJoin S2 (.str " ") (.cl ((wds fl).map W.str)) = some (.str (rowX fl)) := j1
  have j2 : fJoin S2 (.str " ") (.cl ((wds fr).map W.str)) = some (.str (rowX fr)) := j2
  have o1 : PyData.strOk (rowX fl) = true := ok_joinS _ (bn_wds2 fl hA).ok
  have o2 : PyData.strOk (rowX fr) = true := ok_joinS _ (bn_wds2 fr hB).ok
  have z1 : (rowX fl).length ≤ 90 := Nat.le_trans (len_joinS _) (Nat.le_trans (bn_wds2 fl hA).w (by omega))
  have z2 : (rowX fr).length ≤ 90 := Nat.le_trans (len_joinS _) (Nat.le_trans (bn_wds2 fr hB).w (by omega))
  have fc := filt_lc (S := S2) (ρ := [some (.lst n), some (homes fl fr), some (.cl [.str (rowX fl), .str (rowX fr)]), none, none, none, none, none, none, none]) (by simp) (S0 := S2) [rowX fl, (":" : Str), rowX fr] (fun t ht => by
    simp only [List.mem_cons, List.not_mem_nil, or_false] at ht
    rcases ht with rfl | rfl | rfl
    · exact o1
    · exact colon_ok
    · exact o2)
  have bf : Bn ([rowX fl, (":" : Str), rowX fr].filter fun x : Str => !decide (x = ("" : Str))) 185 := by
    have b0 : Bn [rowX fl, (":" : Str), rowX fr] 185 := ⟨fun t ht => by
      simp only [List.mem_cons, List.not_mem_nil, or_false] at ht
      rcases ht with rfl | rfl | rfl
      · exact o1
      · exact colon_ok
      · exact o2, by
      have : (":" : Str).length = 1 := by decide +kernel
      simp only [Wt, List.map_cons, List.map_nil, List.sum_cons, List.sum_nil, List.length_cons, List.length_nil, this]
      omega⟩
    exact b0.sub List.filter_sublist
  have jX := join_fits (S := S2) bf (by omega)
  rw [join_filt hA hB] at jX
  have bnt := fun (S : Store) (p : List W) (c : Int) => bents (n := n) (t := hX fl fr) (x1 := some (homes fl fr)) (x2 := some (.cl [.str (rowX fl), .str (rowX fr)])) (x3 := none) (x4 := none) (x6 := some (.cl [.str (hX fl fr), .str (hX fl fr), homes fl fr, homes fl fr])) (x7 := some (.cl (wrs.map W.str))) (x9 := none) hz ho (S0 := S) (rgW 0 12) S p c
  have sm : g_law_same 16 [.cl [.str (hX fl fr), .str (hX fl fr), homes fl fr, homes fl fr], .cl [.str (hX fl fr), .str (hX fl fr), homes fl fr, homes fl fr]] S4 = .ok (.bl true) S4 := by
    have hs : likeB S4 15 (.str (hX fl fr)) (.str (hX fl fr)) = true := by
      simp only [likeB, decide_true, Bool.true_and]
      exact lay_str ho
    have ht := like_homes S4 fl fr 12
    have ht : likeB S4 15 (homes fl fr) (homes fl fr) = true := ht
    refine same_true 16 _ _ ?_
    show all2 (likeB S4 15) [_, _, _, _] [_, _, _, _] = true
    simp only [all2, hs, ht]
    rfl
  have f4 : Aft S S4 n (c + 100) := (f12.bs b3).bs b4
  obtain ⟨p4, e4, hp4⟩ := f4.pot hn
  have h12 : (rgW 0 12).length = 12 := rfl
  obtain ⟨vs, S5, b1, b2, b5, f5⟩ := bnt S4 p4 (c + 100) e4 hp4 (by omega)
  rw [h12] at b2 f5
  have oa : (wrs ++ vs).all okX = true := by rw [List.all_append, wrs_ok, b5]; rfl
  obtain ⟨S6, al, b6⟩ := alls (x0 := some (.lst n)) (x1 := some (homes fl fr)) (x2 := some (.cl [.str (rowX fl), .str (rowX fr)])) (x3 := none) (x4 := none) (x5 := some (.str (hX fl fr))) (x6 := some (.cl [.str (hX fl fr), .str (hX fl fr), homes fl fr, homes fl fr])) (x7 := some (.cl ((wrs ++ vs).map W.str))) (x8 := none) (S0 := S5) (wrs ++ vs) S5 oa
  have ar := all_reps7 S6 (wrs ++ vs).length
  refine ⟨S6, ?_, ((f4.trans hn f5).bs b6).mono (by omega)⟩
  generalize hX fl fr = X at *
  generalize rowX fl = XL at *
  generalize rowX fr = XR at *
  have s1 : RT1 [some (.lst n), none, none, none, none, none, none, none, none, none] S = .ok (.nx [some (.lst n), some (homes fl fr), none, none, none, none, none, none, none, none]) S2 := by
    have ad : fAdd S1 (.int 1) (.int (k : Int)) = some (.int ((1 + k : Nat) : Int)) := by
      show some (W.int (1 + (k : Int))) = _
      rw [Int.natCast_add]
      rfl
    clear b1 al oa bnt fc k1 k2
    generalize ((1 + k : Nat) : Int) = K at *
    generalize homes fl fr = R at *
    simp [RT1, sSet, sAsg, setT, lft, dCall, dCons, dNil, dVar, dBin, dC, bnd, ret, rdS, t1, ad, t2]
  have s2 : RT2 [some (.lst n), some (homes fl fr), none, none, none, none, none, none, none, none] S2 = .ok (.nx [some (.lst n), some (homes fl fr), some (.cl [.str XL, .str XR]), none, none, none, none, none, none, none]) S2 := by
    clear b1 al oa bnt fc jX
    have sq : seqI S2 (homes fl fr) = some ([.tup (iW fl), .tup (iW fr)], []) := rfl
    have sq1 : seqI S2 (.tup (iW fl)) = some (iW fl, []) := rfl
    have sq2 : seqI S2 (.tup (iW fr)) = some (iW fr, []) := rfl
    unfold RT2
    generalize homes fl fr = R at *
    generalize (wds fl).map W.str = WL at *
    generalize (wds fr).map W.str = WR at *
    generalize (dCallN fStr (dCons (dVar 3) dNil) : DE) = DB at *
    generalize iW fl = L1 at *
    generalize iW fr = L2 at *
    generalize hB2 : W.str " " = B at *
    have hTB : isT B = true := by rw [← hB2]; rfl
    simp [sSet, sAsg, setT, lft, dLc, iSeq, rdI, sq, sq1, sq2, dVar, wipeW, lcL, dYes, kept_nil, dJoin, dC, hTB, k1, k2, j1, j2, newK, bnd, ret, rdS]
  have s3 : RT3 [some (.lst n), some (homes fl fr), some (.cl [.str XL, .str XR]), none, none, none, none, none, none, none] S2 = .ok (.nx [some (.lst n), some (homes fl fr), some (.cl [.str XL, .str XR]), none, none, some (.str X), none, none, none, none]) S2 := by
    clear b1 al oa bnt k1 k2 j1 j2
    have i0 : fIx S2 (.cl [.str XL, .str XR]) (.int 0) = some (.str XL) := rfl
    have i1 : fIx S2 (.cl [.str XL, .str XR]) (.int 1) = some (.str XR) := rfl
    have sq : seqI S2 (.cl [.str XL, .str ":", .str XR]) = some ([.str XL, .str ":", .str XR], []) := rfl
    have fc : lcL (.nm 4) (dTst (dBin fNe (dVar 4) (dC (.str "")))) (dVar 4) [some (.lst n), some (homes fl fr), some (.cl [.str XL, .str XR]), none, none, none, none, none, none, none] S2 [] [.str XL, .str ":", .str XR] S2 = .ok (([XL, (":" : Str), XR].filter fun x : Str => !decide (x = ("" : Str))).map W.str) S2 := fc
    have wp : wipeW [some (.lst n), some (homes fl fr), some (.cl [.str XL, .str XR]), none, none, none, none, none, none, none] [4] = [some (.lst n), some (homes fl fr), some (.cl [.str XL, .str XR]), none, none, none, none, none, none, none] := rfl
    unfold RT3
    generalize ([XL, (":" : Str), XR].filter fun x : Str => !decide (x = ("" : Str))).map W.str = FW at *
    generalize (dTst (dBin fNe (dVar 4) (dC (.str ""))) : DT) = DT1 at *
    generalize homes fl fr = R at *
    generalize hB1 : W.str ":" = C at *
    generalize hB2 : W.str " " = B at *
    have hTB : isT B = true := by rw [← hB2]; rfl
    generalize hd4 : (dVar 4 : DE) = D4 at *
    simp [sSet, sAsg, setT, lft, dLc, iSeq, rdI, sq, i0, i1, dCl, dCons, dNil, mkC, szB, dBin, dVar, dJoin, dC, hTB, jX, newK, bnd, ret, rdS]
    rw [show [some (W.lst n), some R, some (W.cl [W.str XL, W.str XR]), none, none, none, none, none, none, none] = wipeW [some (W.lst n), some R, some (W.cl [W.str XL, W.str XR]), none, none, none, none, none, none, none] [4] from rfl] at fc
    simp [sq, fc, jX]
  have s4 : RT4 [some (.lst n), some (homes fl fr), some (.cl [.str XL, .str XR]), none, none, some (.str X), none, none, none, none] S2 = .ok (.nx [some (.lst n), some (homes fl fr), some (.cl [.str XL, .str XR]), none, none, some (.str X), some (.cl [.str X, .str X, homes fl fr, homes fl fr]), none, none, none]) S4 := by
    clear b1 al oa bnt fc k1 k2 sm
    generalize homes fl fr = R at *
    simp [RT4, sSet, sAsg, setT, lft, dCl, dCall, dCallK, gp, newK, dCons, dNil, dVar, bnd, ret, q1, ql, q2, w1, w2, mkC, szB]
  have s5 : RT5 [some (.lst n), some (homes fl fr), some (.cl [.str XL, .str XR]), none, none, some (.str X), some (.cl [.str X, .str X, homes fl fr, homes fl fr]), none, none, none] S4 = .ok (.nx [some (.lst n), some (homes fl fr), some (.cl [.str XL, .str XR]), none, none, some (.str X), some (.cl [.str X, .str X, homes fl fr, homes fl fr]), none, none, none]) S4 := by
    clear b1 al oa bnt fc k1 k2
    generalize homes fl fr = R at *
    simp [RT5, sIf, sNil, lft, dNotT, dTst, dCl, dCall, dCons, dNil, dVar, bnd, ret, sm, mkC, szB, toB]
  clear sm k1 k2 fc
  generalize homes fl fr = R at *
  generalize W.cl [.str X, .str X, R, R] = TL at *
  generalize W.cl [.str XL, .str XR] = PL at *
  have s6 : RT6 [some (.lst n), some R, some PL, none, none, some (.str X), some TL, none, none, none] S4 = .ok (.nx [some (.lst n), some R, some PL, none, none, some (.str X), some TL, some (.cl ((wr1).map W.str)), none, none]) S4 := by
    show sSet 7 (dCl (csD (wr1.map W.str))) _ _ = _
    have h := cl_cs (S := S4) [some (.lst n), some R, some PL, none, none, some (.str X), some TL, none, none, none] (ws := wr1.map W.str) (by decide)
    simp only [sSet, sAsg, lft, h]
    rfl
  have addT : ∀ (a b : List Str), a.length + b.length ≤ 1000 → sSet 7 (dBin fAdd (dVar 7) (dCl (csD (b.map W.str)))) [some (.lst n), some R, some PL, none, none, some (.str X), some TL, some (.cl ((a).map W.str)), none, none] S4 = .ok (.nx [some (.lst n), some R, some PL, none, none, some (.str X), some TL, some (.cl ((a ++ b).map W.str)), none, none]) S4 := fun a b hab => by
    have h := cl_cs (S := S4) [some (.lst n), some R, some PL, none, none, some (.str X), some TL, some (.cl ((a).map W.str)), none, none] (ws := b.map W.str) (by rw [List.length_map]; omega)
    have h2 := add_cl (S := S4) (a := a.map W.str) (b := b.map W.str) (by rw [List.length_map, List.length_map]; exact hab)
    rw [← List.map_append] at h2
    generalize (a ++ b).map W.str = AB at *
    generalize a.map W.str = A at *
    generalize csD (b.map W.str) = D at *
    generalize b.map W.str = B at *
    simp [sSet, sAsg, setT, lft, dBin, dVar, bnd, ret, rdS, h, h2]
  have s7 : RT7 [some (.lst n), some R, some PL, none, none, some (.str X), some TL, some (.cl ((wr1).map W.str)), none, none] S4 = .ok (.nx [some (.lst n), some R, some PL, none, none, some (.str X), some TL, some (.cl ((wr1 ++ wr2).map W.str)), none, none]) S4 := addT wr1 wr2 (by decide)
  have s8 : RT8 [some (.lst n), some R, some PL, none, none, some (.str X), some TL, some (.cl ((wr1 ++ wr2).map W.str)), none, none] S4 = .ok (.nx [some (.lst n), some R, some PL, none, none, some (.str X), some TL, some (.cl (((wr1 ++ wr2) ++ wr3).map W.str)), none, none]) S4 := addT (wr1 ++ wr2) wr3 (by decide)
  have s9 : RT9 [some (.lst n), some R, some PL, none, none, some (.str X), some TL, some (.cl (((wr1 ++ wr2) ++ wr3).map W.str)), none, none] S4 = .ok (.nx [some (.lst n), some R, some PL, none, none, some (.str X), some TL, some (.cl ((wrs).map W.str)), none, none]) S4 := addT ((wr1 ++ wr2) ++ wr3) wr4 (by decide)
  have s10 : RT10 [some (.lst n), some R, some PL, none, none, some (.str X), some TL, some (.cl ((wrs).map W.str)), none, none] S4 = .ok (.nx [some (.lst n), some R, some PL, none, none, some (.str X), some TL, some (.cl ((wrs ++ vs).map W.str)), none, none]) S5 := by
    clear al oa bnt
    have hw : wrs.length = 27 := by decide
    have h2 := add_cl (S := S5) (a := wrs.map W.str) (b := vs.map W.str) (by rw [List.length_map, List.length_map]; omega)
    rw [← List.map_append] at h2
    generalize (wrs ++ vs).map W.str = AB at *
    generalize wrs.map W.str = A at *
    generalize vs.map W.str = V at *
    have ir : iRg1 (dCons (dC (.int 12)) dNil) [some (.lst n), some R, some PL, none, none, some (.str X), some TL, some (.cl A), none, none] S4 = .ok (rgW 0 12, []) S4 := rfl
    have wp : wipeW [some (.lst n), some R, some PL, none, none, some (.str X), some TL, some (.cl A), none, none] [8] = [some (.lst n), some R, some PL, none, none, some (.str X), some TL, some (.cl A), none, none] := rfl
    unfold RT10
    generalize (dCall 2 g_law_signs_bent (dCons (dVar 0) (dCons (dVar 5) dNil)) : DE) = DB at *
    generalize (iRg1 (dCons (dC (.int 12)) dNil) : DI) = DJ at *
    generalize rgW 0 12 = RG at *
    simp [sSet, sAsg, setT, lft, dBin, dLc, ir, dVar, wp, b1, newK, bnd, ret, rdS, h2]
  have s11 : RT11 [some (.lst n), some R, some PL, none, none, some (.str X), some TL, some (.cl ((wrs ++ vs).map W.str)), none, none] S5 = .ok (.rt (.bl true)) S6 := by
    clear b1 oa bnt
    generalize (wrs ++ vs).map W.str = AB at *
    have sq : seqI S5 (.cl AB) = some (AB, []) := rfl
    have wp : wipeW [some (.lst n), some R, some PL, none, none, some (.str X), some TL, some (.cl AB), none, none] [9] = [some (.lst n), some R, some PL, none, none, some (.str X), some TL, some (.cl AB), none, none] := rfl
    unfold RT11
    generalize (dCall 2 (g_law_same 16) (dCons (dCall 1 g_law_read (dCons (dVar 9) dNil)) (dCons (dCall 1 g_law_homes_in (dCons (dVar 9) dNil)) dNil)) : DE) = DB at *
    generalize List.replicate (wrs ++ vs).length (W.bl true) = RP at *
    simp [sRet, lft, dCallN, dCons, dNil, dLc, iSeq, rdI, sq, dVar, wp, al, newK, bnd, ret, rdS, ar]
  show fnR (d_law_right [some (.lst n), none, none, none, none, none, none, none, none, none] S) = _
  rw [RT_is]
  simp only [sSeq, s1, s2, s3, s4, s5, s6, s7, s8, s9, s10, s11, fnR]
end

end Den

namespace Den
open PySem PySem.Spec PyProof.Rows L2 Bal
section
variable {S : Store}
/-- the end: for each of some numbers a pot, drawn from some times -/
theorem turns_ok {n : Nat} {T m : Nat} {d : Int} (hr : ∀ {S : Store} {n : Nat} {c : Int} {p : List W}, S[n]? = some p → PotL p c → c ≤ 900000 → ∃ S', g_law_right [.lst n] S = .ok (.bl true) S' ∧ Aft S S' n (c + d)) (hd : 0 ≤ d) (hd2 : d ≤ 100000) {x0 x1 : Option W} {S0 : Store} : ∀ (ks : List W) (S : Store) (p : List W) (c : Int), S[n]? = some p → PotL p c → c + d * ks.length ≤ 900000 → ∃ S', lcL (.nm 3) dYes (dCall 1 g_law_right (dCons (dVar 2) dNil)) [x0, x1, some (.lst n), none] S0 [] ks S = .ok (List.replicate ks.length (.bl true)) S'
  | [], S, p, c, e, hp, hc => ⟨S, rfl⟩
  | k :: ks, S, p, c, e, hp, hc => by
    have hm : d * ((k :: ks).length : Int) = d * (ks.length : Int) + d := by
      simp only [List.length_cons, Int.natCast_add, Int.natCast_one]
      rw [Int.mul_add, Int.mul_one]
    have h0 : 0 ≤ d * (ks.length : Int) := Int.mul_nonneg hd (by omega)
    obtain ⟨S1, h1, a1⟩ := hr e hp (by omega)
    obtain ⟨p1, e1, hp1⟩ := a1.pot (get_lt e)
    obtain ⟨S2, ih⟩ := turns_ok (T := T) (m := m) hr hd hd2 (x0 := x0) (x1 := x1) (S0 := S0) ks S1 p1 (c + d) e1 hp1 (by omega)
    exact ⟨S2, by simp [lcL, setT, dYes, ret, dCall, dCons, dNil, dVar, bnd, h1, ih, kept, List.replicate_succ]⟩
theorem all_reps (S : Store) (k : Nat) : fAll S [.cl (List.replicate k (.bl true))] = some (.bl true) := by
  have bt : ∀ n : Nat, blT (List.replicate n (W.bl true)) = some (List.replicate n true) := fun n => by
    induction n with
    | zero => rfl
    | succ n ih => simp [List.replicate_succ, blT, ih]
  simp [fAll, lstS, bt]
theorem rg_min (ns : List Int) (M : Nat) (hM : 1 ≤ M) (hM2 : M ≤ 100) : ∃ m : Nat, m ≤ M ∧ ∀ (S : Store) (ρ : En), ρ[0]? = some (some (.sc (iW ns))) → iRg1 (dCons (dCallN fMax2 (dCons (dC (.int 1)) (dCons (dCallN fMin2 (dCons (dC (.int (M : Int))) (dCons (dCallN fLen (dCons (dVar 0) dNil)) dNil))) dNil))) dNil) ρ S = .ok ((List.range m).map fun k : Nat => W.int (k : Int), []) S := by
  obtain ⟨m, hm, hmM⟩ : ∃ m : Nat, (if (if (ns.length : Int) < M then (ns.length : Int) else M) > 1 then (if (ns.length : Int) < M then (ns.length : Int) else M) else 1) = (m : Int) ∧ m ≤ M := by
    by_cases h1 : (ns.length : Int) < M
    · rw [if_pos h1]
      by_cases h2 : (ns.length : Int) > 1
      · rw [if_pos h2]; exact ⟨ns.length, rfl, by omega⟩
      · rw [if_neg h2]; exact ⟨1, rfl, by omega⟩
    · rw [if_neg h1]
      by_cases h2 : (M : Int) > 1
      · rw [if_pos h2]; exact ⟨M, rfl, by omega⟩
      · rw [if_neg h2]; exact ⟨1, rfl, by omega⟩
  refine ⟨m, hmM, fun S ρ hρ => ?_⟩
  have rm : rgW 0 (m : Int) = (List.range m).map fun k : Nat => W.int (k : Int) := by simp [rgW]
  have sz : szB m = true := decide_eq_true (by omega)
  have mx : fMax2 S [.int 1, .int (if (ns.length : Int) < M then (ns.length : Int) else M)] = some (.int m) := by simp only [fMax2, hm]
  have mn : fMin2 S [.int (M : Int), .int (ns.length : Int)] = some (.int (if (ns.length : Int) < M then (ns.length : Int) else M)) := rfl
  have ln : fLen S [.sc (iW ns)] = some (.int (ns.length : Nat)) := by simp [fLen, ixW]
  have sm : (szB (m : Int).toNat && decide (-1000000000 ≤ (m : Int))) = true := by
    rw [Int.toNat_natCast, sz, decide_eq_true (by omega)]
    rfl
  simp only [iRg1, dCons, dNil, dCallN, dC, dVar, bnd, ret, rdS, rdI, hρ, ln, mn, mx, sm, rm, if_true]
theorem v_law (ns : List Int) (_ : ns.length ≤ 63) : ∃ S', g_law [.sc (iW ns)] S = .ok (.bl true) S' := by
  obtain ⟨m, hm, hi⟩ := rg_min ns 3 (by decide) (by decide)
  have hi : ∀ (S : Store) (ρ : En), ρ[0]? = some (some (.sc (iW ns))) → iRg1 (dCons (dCallN fMax2 (dCons (dC (.int 1)) (dCons (dCallN fMin2 (dCons (dC (.int 3)) (dCons (dCallN fLen (dCons (dVar 0) dNil)) dNil))) dNil))) dNil) ρ S = .ok ((List.range m).map fun k : Nat => W.int (k : Int), []) S := hi
  have loop : ∀ (ks : List Nat) (S S0 : Store) (x1 x2 : Option W), ∃ S' z1 z2, forL (.nm 1) (sSeq (sSet 2 (dCall 2 g_law_pot (dCons (dVar 0) (dCons (dVar 1) dNil)))) (sIf (dNotT (dTst (dCallN fAll (dCons (dLc .cl [3] (iRg1 (dCons (dC (.int 2)) dNil)) (.nm 3) dYes (dCall 1 g_law_right (dCons (dVar 2) dNil))) dNil)))) (sRet (dC (.bl false))) sNil)) [] S0 (ks.map fun k : Nat => W.int (k : Int)) [some (.sc (iW ns)), x1, x2, none] S = .ok (.nx [some (.sc (iW ns)), z1, z2, none]) S' := by
    intro ks
    induction ks with
    | nil => intro S S0 x1 x2; exact ⟨S, x1, x2, rfl⟩
    | cons k ks ih =>
      intro S S0 x1 x2
      obtain ⟨p, e1, hp⟩ := v_pot (S := S) ns k
      have e2 : (S ++ [p])[S.length]? = some p := by simp
      obtain ⟨S2, e3⟩ := turns_ok (n := S.length) (T := 0) (m := 0) (d := 200) (fun e hp hc => v_right e hp hc) (by decide) (by decide) (x0 := some (.sc (iW ns))) (x1 := some (.int (k : Int))) (S0 := S ++ [p]) (rgW 0 2) (S ++ [p]) p 0 e2 hp (by decide)
      obtain ⟨S3, z1, z2, e4⟩ := ih S2 S0 (some (.int (k : Int))) (some (.lst S.length))
      refine ⟨S3, z1, z2, ?_⟩
      have rt : (rgW 0 2).length = 2 := rfl
      rw [rt] at e3
      rw [List.map_cons]
      unfold forL
      have bd : (sSeq (sSet 2 (dCall 2 g_law_pot (dCons (dVar 0) (dCons (dVar 1) dNil)))) (sIf (dNotT (dTst (dCallN fAll (dCons (dLc .cl [3] (iRg1 (dCons (dC (.int 2)) dNil)) (.nm 3) dYes (dCall 1 g_law_right (dCons (dVar 2) dNil))) dNil)))) (sRet (dC (.bl false))) sNil)) [some (.sc (iW ns)), some (.int (k : Int)), x2, none] S = .ok (.nx [some (.sc (iW ns)), some (.int (k : Int)), some (.lst S.length), none]) S2 := by
        have i1 : iRg1 (dCons (dC (.int 2)) dNil) [some (.sc (iW ns)), some (.int (k : Int)), some (.lst S.length), none] (S ++ [p]) = .ok (rgW 0 2, []) (S ++ [p]) := rfl
        simp [sSeq, sAsg, lft, dCall, dCons, dNil, dVar, bnd, ret, e1, setT, sIf, dNotT, dTst, dCallN, dLc, i1, wipeW, e3, newK, rdS, all_reps, toB, sNil, -List.reduceReplicate]
      simp only [setT, List.set_cons_succ, List.set_cons_zero, bd, kept_nil, if_true]
      exact e4
  obtain ⟨S', z1, z2, h⟩ := loop (List.range m) S S none none
  refine ⟨S', ?_⟩
  show fnR (d_law [some (.sc (iW ns)), none, none, none] S) = _
  unfold d_law
  rw [sSeq, sFor, lft, hi S _ rfl]
  show fnR (match forL _ _ _ _ _ _ _ with | .ok (.nx ρ') S' => _ | o => o) = _
  rw [h]
  rfl
end

end Den

namespace Den
open PySem PySem.Spec PyProof.Rows L2 Bal
section
variable {P : Program} {w : World} {K : PySem.W.Frag} {mg : Str → Option Value} {base : Heap}
/-! ### _law_pot -/
abbrev s_law_pot : Stmt := topS 11
theorem sc_law_pot : FnScope ["_law_script", "_law_k", "_law_cell"] ["_law_script", "_law_k"] (defScope s_law_pot) := ⟨rfl, rfl, rfl, by decide +kernel, rfl, by decide +kernel, by decide +kernel⟩
theorem ok_law_pot {f : Addr} {fd : FuncData} (F : Fun K "_law_pot" "_law_pot" s_law_pot f fd) (m_len : mg "len" = none) (m_abs : mg "abs" = none) (m_int : mg "int" = none) : FnOk P w K mg base (L2.CX P w) 1 f fd ["_law_script", "_law_k"] (spD K mg 2 g_law_pot) :=
  fn_den (k := 0) F sc_law_pot fun cdv A outer s H E hr => (dss_cons (ds_set 2 sc_law_pot.nd de_int) (dss_cons (ds_if (dt_cmp op_lt fCmp_ok (de_var 1) (de_callB call_len_seq fLen_ok (by rfl) m_len PySem.boot_len (da_cons (de_var 0) da_nil))) (dss_one (ds_set 2 sc_law_pot.nd (de_ix (ix_list.or ix_tup) fIx_ok (de_var 0) (de_var 1)))) dss_nil) (dss_one (ds_ret (de_lst (da_cons (de_bin (OpR.or op_mul op_rep) fMul_ok (de_callB call_abs fAbs_ok (by rfl) m_abs (by decide +kernel) (da_cons (de_var 2) da_nil)) (de_callTy call_int1 fInt_ok (by rfl) m_int (by decide +kernel) (da_cons (de_cmp op_ge fCmp_ok (de_callB call_abs fAbs_ok (by rfl) m_abs (by decide +kernel) (da_cons (de_var 2) da_nil)) (de_bin op_pow fPow_ok de_int de_int)) da_nil))) (da_cons (de_bin op_mod fMod_ok (de_bin (OpR.or op_mul op_rep) fMul_ok (de_bin op_addW fAdd_ok (de_bin op_addW fAdd_ok (de_bin op_mod fMod_ok (de_var 2) de_int) (de_bin (OpR.or op_mul op_rep) fMul_ok de_int (de_var 1))) de_int) de_int) de_int) (da_cons de_int da_nil))))))))
/-! ### _law_take -/
abbrev s_law_take : Stmt := topS 12
theorem sc_law_take : FnScope ["_law_pot_here", "_law_bound", "_law_found", "_law_once"] ["_law_pot_here", "_law_bound"] (defScope s_law_take) := ⟨rfl, rfl, rfl, by decide +kernel, rfl, by decide +kernel, by decide +kernel⟩
theorem ok_law_take {f : Addr} {fd : FuncData} (F : Fun K "_law_take" "_law_take" s_law_take f fd) (bS : Binds K fd ["_law_pot_here", "_law_bound"] []) (gS : mg "_law_take" = some (.ref f))  : ∀ n : Nat, FnOk P w K mg base (L2.CX P w) (n + 1) f fd ["_law_pot_here", "_law_bound"] (spD K mg 2 (g_law_take n))
  | 0 => fn_bad F sc_law_take
  | n + 1 => by
    have ih := ok_law_take F bS gS  n
    exact fn_den (k := n + 1) F sc_law_take fun cdv A outer s H E hr => (dss_cons (ds_if (dt_cmp op_gt fCmp_ok (de_ix (ix_list.or ix_tup) fIx_ok (de_var 0) de_int) de_int) (dss_cons (ds_set 2 sc_law_take.nd (de_bin op_mod fMod_ok (de_ix (ix_list.or ix_tup) fIx_ok (de_var 0) de_int) (de_var 1))) (dss_cons (ds_asgM (de_bin op_fdiv fDiv_ok (de_ix (ix_list.or ix_tup) fIx_ok (de_var 0) de_int) (de_var 1)) (dm_put (de_var 0) de_int)) (dss_one (ds_ret (de_var 2))))) dss_nil) (dss_cons (ds_if (dt_cmp op_gt fCmp_ok (de_var 1) (de_bin op_pow fPow_ok de_int de_int)) (dss_one (ds_ret (de_bin op_mod fMod_ok (de_bin op_addW fAdd_ok (de_call ih hr (by rfl) gS F.kp bS (fun σ => passAt (W := fun cls d _ H => E cls d H) (takes_of rfl rfl rfl rfl) σ) (da_cons (de_var 0) (da_cons (de_bin op_pow fPow_ok de_int de_int) da_nil))) (de_bin (OpR.or op_mul op_rep) fMul_ok (de_bin op_pow fPow_ok de_int de_int) (de_call ih hr (by rfl) gS F.kp bS (fun σ => passAt (W := fun cls d _ H => E cls d H) (takes_of rfl rfl rfl rfl) σ) (da_cons (de_var 0) (da_cons (de_bin op_addW fAdd_ok (de_bin op_fdiv fDiv_ok (de_var 1) (de_bin op_pow fPow_ok de_int de_int)) de_int) da_nil))))) (de_var 1)))) dss_nil) (dss_cons (ds_asgM (de_bin op_addW fAdd_ok (de_ix (ix_list.or ix_tup) fIx_ok (de_var 0) de_int) de_int) (dm_put (de_var 0) de_int)) (dss_cons (ds_set 3 sc_law_take.nd (de_bin op_mod fMod_ok (de_bin op_pow fPow_ok (de_bin op_addW fAdd_ok (de_ix (ix_list.or ix_tup) fIx_ok (de_var 0) de_int) (de_bin (OpR.or op_mul op_rep) fMul_ok de_int (de_ix (ix_list.or ix_tup) fIx_ok (de_var 0) de_int))) de_int) de_int)) (dss_one (ds_ret (de_bin op_mod fMod_ok (de_bin op_fdiv fDiv_ok (de_bin op_mod fMod_ok (de_bin op_addW fAdd_ok (de_bin (OpR.or op_mul op_rep) fMul_ok (de_var 3) (de_bin op_addW fAdd_ok (de_bin op_mod fMod_ok (de_var 3) de_int) de_int)) (de_bin (OpR.or op_mul op_rep) fMul_ok (de_ix (ix_list.or ix_tup) fIx_ok (de_var 0) de_int) de_int)) de_int) de_int) (de_var 1))))))))
/-! ### _law_floors -/
abbrev s_law_floors : Stmt := topS 16
theorem sc_law_floors : FnScope ["_law_pot_here", "_law_most", "_law_way", "_law_found", "_law_storey"] ["_law_pot_here", "_law_most"] (defScope s_law_floors) := ⟨rfl, rfl, rfl, by decide +kernel, rfl, by decide +kernel, by decide +kernel⟩
theorem ok_law_floors {f : Addr} {fd : FuncData} (F : Fun K "_law_floors" "_law_floors" s_law_floors f fd) {f_law_take : Addr} {fd_law_take : FuncData} (F_law_take : Fun K "_law_take" "_law_take" s_law_take f_law_take fd_law_take) (b_law_take : Binds K fd_law_take ["_law_pot_here", "_law_bound"] []) (g_m_law_take : mg "_law_take" = some (.ref f_law_take)) (G_law_take : FnOk P w K mg base (L2.CX P w) 7 f_law_take fd_law_take ["_law_pot_here", "_law_bound"] (spD K mg 2 (g_law_take 6))) (m_range : mg "range" = none) : FnOk P w K mg base (L2.CX P w) 8 f fd ["_law_pot_here", "_law_most"] (spD K mg 2 g_law_floors) :=
  fn_den (k := 7) F sc_law_floors fun cdv A outer s H E hr => (dss_cons (ds_par (i := 2) (j := 3) rfl sc_law_floors.nd (de_call G_law_take hr (by rfl) g_m_law_take F_law_take.kp b_law_take (fun σ => passAt (W := fun cls d _ H => E cls d H) (takes_of rfl rfl rfl rfl) σ) (da_cons (de_var 0) (da_cons de_int da_nil))) (de_lst da_nil)) (dss_cons (ds_if (dt_cmp (op_eqD hr.units) fEq_ok (de_var 2) de_int) (dss_one (ds_ret (de_cl (da_cons (de_bin op_addW fAdd_ok de_int (de_call G_law_take hr (by rfl) g_m_law_take F_law_take.kp b_law_take (fun σ => passAt (W := fun cls d _ H => E cls d H) (takes_of rfl rfl rfl rfl) σ) (da_cons (de_var 0) (da_cons (de_var 1) da_nil)))) da_nil)))) dss_nil) (dss_cons (ds_for (passes rfl) rfl (di_rg2 (by rfl) m_range (da_cons de_int (da_cons (de_bin op_addW fAdd_ok (de_var 1) de_int) da_nil))) (dg_nm 4 sc_law_floors.nd) (dss_one (ds_if (pt_wordOr (dw_or (dt_cmp (op_eqD hr.units) fEq_ok (de_var 2) de_int) (dw_or1 (pt_wordAnd (dw_and (dt_cmp op_gt fCmp_ok (de_var 2) de_int) (dw_and1 (dt_cmp (op_eqD hr.units) fEq_ok (de_call G_law_take hr (by rfl) g_m_law_take F_law_take.kp b_law_take (fun σ => passAt (W := fun cls d _ H => E cls d H) (takes_of rfl rfl rfl rfl) σ) (da_cons (de_var 0) (da_cons (de_var 2) da_nil))) de_int))))))) (dss_one (ds_expr (de_mth PySem.F.slot_list_append PySem.F.type_list_append mt_append fAppend_ok (de_var 3) (da_cons (de_var 4) da_nil)))) dss_nil))) (dss_one (ds_ret (de_var 3))))))
/-! ### _law_homes -/
abbrev s_law_homes : Stmt := topS 17
theorem sc_law_homes : FnScope ["_law_pot_here", "_law_most"] ["_law_pot_here", "_law_most"] (defScope s_law_homes) := ⟨rfl, rfl, rfl, by decide +kernel, rfl, by decide +kernel, by decide +kernel⟩
theorem ok_law_homes {f : Addr} {fd : FuncData} (F : Fun K "_law_homes" "_law_homes" s_law_homes f fd) {f_law_floors : Addr} {fd_law_floors : FuncData} (F_law_floors : Fun K "_law_floors" "_law_floors" s_law_floors f_law_floors fd_law_floors) (b_law_floors : Binds K fd_law_floors ["_law_pot_here", "_law_most"] []) (g_m_law_floors : mg "_law_floors" = some (.ref f_law_floors)) (G_law_floors : FnOk P w K mg base (L2.CX P w) 8 f_law_floors fd_law_floors ["_law_pot_here", "_law_most"] (spD K mg 2 g_law_floors)) (m_tuple : mg "tuple" = none) : FnOk P w K mg base (L2.CX P w) 9 f fd ["_law_pot_here", "_law_most"] (spD K mg 2 g_law_homes) :=
  fn_den (k := 8) F sc_law_homes fun cdv A outer s H E hr => (dss_one (ds_ret (de_tup (da_cons (de_callTy call_tupN fTuple_ok (by rfl) m_tuple (by decide +kernel) (da_cons (de_call G_law_floors hr (by rfl) g_m_law_floors F_law_floors.kp b_law_floors (fun σ => passAt (W := fun cls d _ H => E cls d H) (takes_of rfl rfl rfl rfl) σ) (da_cons (de_var 0) (da_cons (de_var 1) da_nil))) da_nil)) (da_cons (de_callTy call_tupN fTuple_ok (by rfl) m_tuple (by decide +kernel) (da_cons (de_call G_law_floors hr (by rfl) g_m_law_floors F_law_floors.kp b_law_floors (fun σ => passAt (W := fun cls d _ H => E cls d H) (takes_of rfl rfl rfl rfl) σ) (da_cons (de_var 0) (da_cons (de_var 1) da_nil))) da_nil)) da_nil)))))
/-! ### houses_text -/
abbrev s_houses_text : Stmt := topS 7
theorem sc_houses_text : FnScope ["houses", "left", "right", "floor"] ["houses"] (defScope s_houses_text) := ⟨rfl, rfl, rfl, by decide +kernel, rfl, by decide +kernel, by decide +kernel⟩
theorem ok_houses_text {f : Addr} {fd : FuncData} (F : Fun K "houses_text" "houses_text" s_houses_text f fd) (m_str : mg "str" = none) : FnOk P w K mg base (L2.CX P w) 1 f fd ["houses"] (spD K mg 1 g_houses_text) :=
  fn_den (k := 0) F sc_houses_text fun cdv A outer s H E hr => (dss_cons (ds_asg (de_var 0) (dg_tp rfl (dgs_cons (dg_nm 1 sc_houses_text.nd) (dgs_cons (dg_nm 2 sc_houses_text.nd) dgs_nil)))) (dss_one (ds_ret (de_join de_str (de_bin op_addW fAdd_ok (de_bin op_addW fAdd_ok (by exact (de_lc (own := [("floor", 3)]) .cl rfl sc_houses_text.nd (di_seq (de_var 1)) (blkOk_by (own := [("floor", 3)]) (N := ["houses", "left", "right", "floor"]) (sc := defScope s_houses_text) (by decide +kernel)) (fun _ _ _ _ _ => (dg_nm 3 sc_houses_text.nd)) (fun _ _ _ _ _ => dts_nil) (fun _ _ _ _ _ => (de_callTy call_strN fStr_ok (by rfl) m_str (by decide +kernel) (da_cons (de_var 3) da_nil))))) (de_cl (da_cons de_str da_nil))) (by exact (de_lc (own := [("floor", 3)]) .cl rfl sc_houses_text.nd (di_seq (de_var 2)) (blkOk_by (own := [("floor", 3)]) (N := ["houses", "left", "right", "floor"]) (sc := defScope s_houses_text) (by decide +kernel)) (fun _ _ _ _ _ => (dg_nm 3 sc_houses_text.nd)) (fun _ _ _ _ _ => dts_nil) (fun _ _ _ _ _ => (de_callTy call_strN fStr_ok (by rfl) m_str (by decide +kernel) (da_cons (de_var 3) da_nil))))))))))
/-! ### _law_lists -/
abbrev s_law_lists : Stmt := topS 15
theorem sc_law_lists : FnScope ["_law_matter", "_law_part"] ["_law_matter"] (defScope s_law_lists) := ⟨rfl, rfl, rfl, by decide +kernel, rfl, by decide +kernel, by decide +kernel⟩
theorem ok_law_lists {f : Addr} {fd : FuncData} (F : Fun K "_law_lists" "_law_lists" s_law_lists f fd) (bS : Binds K fd ["_law_matter"] []) (gS : mg "_law_lists" = some (.ref f)) (m_isinstance : mg "isinstance" = none) (m_list : mg "list" = none) (m_tuple : mg "tuple" = none) : ∀ n : Nat, FnOk P w K mg base (L2.CX P w) (n + 1) f fd ["_law_matter"] (spD K mg 1 (g_law_lists n))
  | 0 => fn_bad F sc_law_lists
  | n + 1 => by
    have ih := ok_law_lists F bS gS m_isinstance m_list m_tuple n
    exact fn_den (k := n + 1) F sc_law_lists fun cdv A outer s H E hr => (dss_one (ds_ret (de_if (dt_val (de_isSeq (by rfl) m_isinstance (by rfl) m_list (by rfl) m_tuple (de_var 0))) (by exact (de_lc (own := [("_law_part", 1)]) .cl rfl sc_law_lists.nd (di_seq (de_var 0)) (blkOk_by (own := [("_law_part", 1)]) (N := ["_law_matter", "_law_part"]) (sc := defScope s_law_lists) (by decide +kernel)) (fun _ _ _ _ _ => (dg_nm 1 sc_law_lists.nd)) (fun _ _ _ _ _ => dts_nil) (fun _ _ _ _ _ => (de_call ih hr (by rfl) gS F.kp bS px0 (da_cons (de_var 1) da_nil))))) (de_var 0))))
/-! ### number_in -/
abbrev s_number_in : Stmt := topS 9
theorem sc_number_in : FnScope ["word", "figures", "sign"] ["word"] (defScope s_number_in) := ⟨rfl, rfl, rfl, by decide +kernel, rfl, by decide +kernel, by decide +kernel⟩
theorem ok_number_in {f : Addr} {fd : FuncData} (F : Fun K "number_in" "number_in" s_number_in f fd) {u_MOST_FIGURES : Value} {v_MOST_FIGURES : V} (h_MOST_FIGURES : mg "MOST_FIGURES" = some u_MOST_FIGURES) (rr_MOST_FIGURES : RelV v_MOST_FIGURES u_MOST_FIGURES) (r_MOST_FIGURES : ∀ δ H μ, Rp ⟨K, mg, δ⟩ H μ v_MOST_FIGURES c_MOST_FIGURES) {u_FIGURES : Value} {v_FIGURES : V} (h_FIGURES : mg "FIGURES" = some u_FIGURES) (rr_FIGURES : RelV v_FIGURES u_FIGURES) (r_FIGURES : ∀ δ H μ, Rp ⟨K, mg, δ⟩ H μ v_FIGURES c_FIGURES) (m_len : mg "len" = none) (m_all : mg "all" = none) (m_int : mg "int" = none) : FnOk P w K mg base (L2.CX P w) 1 f fd ["word"] (spD K mg 1 g_number_in) :=
  fn_den (k := 0) F sc_number_in fun cdv A outer s H E hr => (dss_cons (ds_set 1 sc_number_in.nd (de_if (dt_val (de_starts (de_var 0) de_str)) (de_cutT (de_var 0) (do_some de_int) do_none) (de_var 0))) (dss_cons (ds_if (pt_wordOr (dw_or (dt_not (dt_chain op_le op_le fCmp_ok fCmp_ok de_int (de_callB call_lenT fLenT_ok (by rfl) m_len PySem.boot_len (da_cons (de_var 1) da_nil)) (de_glob (by rfl) h_MOST_FIGURES rr_MOST_FIGURES r_MOST_FIGURES))) (dw_or1 (dt_not (dt_val (de_callB (cr_all rfl) fAll_ok (by rfl) m_all (by decide +kernel) (da_cons (by exact (de_lc (own := [("sign", 2)]) .cl rfl sc_number_in.nd (di_str (de_var 1)) (blkOk_by (own := [("sign", 2)]) (N := ["word", "figures", "sign"]) (sc := defScope s_number_in) (by decide +kernel)) (fun _ _ _ _ _ => (dg_nm 2 sc_number_in.nd)) (fun _ _ _ _ _ => dts_nil) (fun _ _ _ _ _ => (de_cmp op_in_sign fInT_ok (de_var 2) (de_glob (by rfl) h_FIGURES rr_FIGURES r_FIGURES))))) da_nil))))))) (dss_one (ds_ret de_non)) dss_nil) (dss_cons (ds_if (pt_wordAnd (dw_and (dt_cmp (op_eqD hr.units) fEq_ok (de_ix (ix_orT (ix_list.or ix_tup)) (fIxT_ok fIx_ok) (de_var 1) de_int) de_str) (dw_and1 (dt_cmp (op_neD hr.units) fNe_ok (de_var 0) de_str)))) (dss_one (ds_ret de_non)) dss_nil) (dss_one (ds_ret (de_callTy call_intX fIntX_ok (by rfl) m_int (by decide +kernel) (da_cons (de_var 0) da_nil)))))))
/-! ### houses_in -/
abbrev s_houses_in : Stmt := topS 8
theorem sc_houses_in : FnScope ["text", "sides", "words", "at", "word", "floor"] ["text"] (defScope s_houses_in) := ⟨rfl, rfl, rfl, by decide +kernel, rfl, by decide +kernel, by decide +kernel⟩
theorem ok_houses_in {f : Addr} {fd : FuncData} (F : Fun K "houses_in" "houses_in" s_houses_in f fd) {f_number_in : Addr} {fd_number_in : FuncData} (F_number_in : Fun K "number_in" "number_in" s_number_in f_number_in fd_number_in) (b_number_in : Binds K fd_number_in ["word"] []) (g_m_number_in : mg "number_in" = some (.ref f_number_in)) (G_number_in : FnOk P w K mg base (L2.CX P w) 2 f_number_in fd_number_in ["word"] (spD K mg 1 g_number_in)) {qual_BadText : Str} {st_BadText : Stmt} {C_BadText fI_BadText : Addr} {fdI_BadText : FuncData} {new_BadText : String} {tail_BadText : List Value} (T_BadText : ErT K mg "BadText" "at" qual_BadText st_BadText C_BadText fI_BadText fdI_BadText new_BadText tail_BadText) (i_BadText : ∀ base : Heap, FnOk P w K mg base CX0 1 fI_BadText fdI_BadText ["self", "at"] (spInit K C_BadText "at")) (b_BadText : Binds K fdI_BadText ["self", "at"] []) (m_enumerate : mg "enumerate" = none) (m_len : mg "len" = none) (m_max : mg "max" = none) (m_tuple : mg "tuple" = none) : FnOk P w K mg base (L2.CX P w) 3 f fd ["text"] (spD K mg 1 g_houses_in) :=
  fn_den (k := 2) F sc_houses_in fun cdv A outer s H E hr => (dss_cons (ds_set 1 sc_houses_in.nd (de_lst (da_cons (de_lst da_nil) da_nil))) (dss_cons (ds_set 2 sc_houses_in.nd (de_split (de_var 0) de_str)) (dss_cons (ds_for (passes rfl) rfl (di_enum (by rfl) m_enumerate (da_cons (de_var 2) da_nil)) (dg_tp rfl (dgs_cons (dg_nm 3 sc_houses_in.nd) (dgs_cons (dg_nm 4 sc_houses_in.nd) dgs_nil))) (dss_cons (ds_if (pt_wordAnd (dw_and (dt_cmp (op_eqD hr.units) fEq_ok (de_var 4) de_str) (dw_and1 (dt_cmp (op_eqD hr.units) fEq_ok (de_callB call_len_seq fLen_ok (by rfl) m_len PySem.boot_len (da_cons (de_var 1) da_nil)) de_int)))) (dss_cons (ds_expr (de_mth PySem.F.slot_list_append PySem.F.type_list_append mt_append fAppend_ok (de_var 1) (da_cons (de_lst da_nil) da_nil))) (dss_one ds_cont)) dss_nil) (dss_cons (ds_set 5 sc_houses_in.nd (de_call G_number_in hr (by rfl) g_m_number_in F_number_in.kp b_number_in (fun σ => passAt (W := fun cls d _ H => E cls d H) (takes_of rfl rfl rfl rfl) σ) (da_cons (de_var 4) da_nil))) (dss_cons (ds_if (pt_wordOr (dw_or (dt_cmp op_isN fIs_ok (de_var 5) de_non) (dw_or1 (dt_cmp op_le fCmp_ok (de_var 5) (de_maxDf rfl (hu_of hr) (by rfl) m_max (da_cons (de_ix (ix_list.or ix_tup) fIx_ok (de_var 1) (de_un un_neg fNeg_ok de_int)) da_nil) (dk_cons de_int dk_nil)))))) (dss_one (ds_raise rfl (takes_of rfl rfl rfl rfl) T_BadText (i_BadText _) hr b_BadText (by rfl) (de_var 3))) dss_nil) (dss_one (ds_expr (de_mth PySem.F.slot_list_append PySem.F.type_list_append mt_append fAppend_ok (de_ix (ix_list.or ix_tup) fIx_ok (de_var 1) (de_un un_neg fNeg_ok de_int)) (da_cons (de_var 5) da_nil)))))))) (dss_cons (ds_if (dt_cmp (op_eqD hr.units) fEq_ok (de_callB call_len_seq fLen_ok (by rfl) m_len PySem.boot_len (da_cons (de_var 1) da_nil)) de_int) (dss_one (ds_raise rfl (takes_of rfl rfl rfl rfl) T_BadText (i_BadText _) hr b_BadText (by rfl) (de_callB call_len_seq fLen_ok (by rfl) m_len PySem.boot_len (da_cons (de_var 2) da_nil)))) dss_nil) (dss_one (ds_ret (de_tup (da_cons (de_callTy call_tupN fTuple_ok (by rfl) m_tuple (by decide +kernel) (da_cons (de_ix (ix_list.or ix_tup) fIx_ok (de_var 1) de_int) da_nil)) (da_cons (de_callTy call_tupN fTuple_ok (by rfl) m_tuple (by decide +kernel) (da_cons (de_ix (ix_list.or ix_tup) fIx_ok (de_var 1) de_int) da_nil)) da_nil)))))))))
/-! ### _law_same -/
abbrev s_law_same : Stmt := topS 14
theorem sc_law_same : FnScope ["_law_found", "_law_due", "_law_lone", "_law_mate"] ["_law_found", "_law_due"] (defScope s_law_same) := ⟨rfl, rfl, rfl, by decide +kernel, rfl, by decide +kernel, by decide +kernel⟩
theorem ok_law_same {f : Addr} {fd : FuncData} (F : Fun K "_law_same" "_law_same" s_law_same f fd) (bS : Binds K fd ["_law_found", "_law_due"] []) (gS : mg "_law_same" = some (.ref f)) (m_isinstance : mg "isinstance" = none) (m_list : mg "list" = none) (m_tuple : mg "tuple" = none) (m_len : mg "len" = none) (m_zip : mg "zip" = none) (m_all : mg "all" = none) (m_str : mg "str" = none) (m_int : mg "int" = none) (m_bool : mg "bool" = none) : ∀ n : Nat, FnOk P w K mg base (L2.CX P w) (n + 1) f fd ["_law_found", "_law_due"] (spD K mg 2 (g_law_same n))
  | 0 => fn_bad F sc_law_same
  | n + 1 => by
    have ih := ok_law_same F bS gS m_isinstance m_list m_tuple m_len m_zip m_all m_str m_int m_bool n
    exact fn_den (k := n + 1) F sc_law_same fun cdv A outer s H E hr => (dss_cons (ds_if (dt_val (de_isSeq (by rfl) m_isinstance (by rfl) m_list (by rfl) m_tuple (de_var 1))) (dss_cons (ds_if (pt_wordOr (dw_or (dt_cmp (op_neD hr.units) fNe_ok (de_is is_lst (by rfl) m_isinstance (by rfl) m_list (by decide +kernel) (de_var 0)) (de_is is_lst (by rfl) m_isinstance (by rfl) m_list (by decide +kernel) (de_var 1))) (dw_or1 (dt_cmp (op_neD hr.units) fNe_ok (de_is is_tup (by rfl) m_isinstance (by rfl) m_tuple (by decide +kernel) (de_var 0)) (de_is is_tup (by rfl) m_isinstance (by rfl) m_tuple (by decide +kernel) (de_var 1)))))) (dss_one (ds_ret de_bl)) dss_nil) (dss_one (ds_ret (de_and (de_cmp (op_eqD hr.units) fEq_ok (de_callB call_len_seq fLen_ok (by rfl) m_len PySem.boot_len (da_cons (de_var 0) da_nil)) (de_callB call_len_seq fLen_ok (by rfl) m_len PySem.boot_len (da_cons (de_var 1) da_nil))) (de_one (de_callB (cr_all rfl) fAll_ok (by rfl) m_all (by decide +kernel) (da_cons (by exact (de_lc (own := [("_law_lone", 2), ("_law_mate", 3)]) .cl rfl sc_law_same.nd (di_zip2 (by rfl) m_zip (da_cons (de_var 0) (da_cons (de_var 1) da_nil))) (blkOk_by (own := [("_law_lone", 2), ("_law_mate", 3)]) (N := ["_law_found", "_law_due", "_law_lone", "_law_mate"]) (sc := defScope s_law_same) (by decide +kernel)) (fun _ _ _ _ _ => (dg_tp rfl (dgs_cons (dg_nm 2 sc_law_same.nd) (dgs_cons (dg_nm 3 sc_law_same.nd) dgs_nil)))) (fun _ _ _ _ _ => dts_nil) (fun _ _ _ _ _ => (de_call ih hr (by rfl) gS F.kp bS px0 (da_cons (de_var 2) (da_cons (de_var 3) da_nil)))))) da_nil))))))) dss_nil) (dss_cons (ds_if (pt_wordOr (dw_or (dt_cmp op_isN fIs_ok (de_var 1) de_non) (dw_or1 (dt_val (de_is is_str (by rfl) m_isinstance (by rfl) m_str (by decide +kernel) (de_var 1)))))) (dss_one (ds_ret (de_and (de_cmp (op_eqD hr.units) fEq_ok (de_var 0) (de_var 1)) (de_one (de_cmp (op_eqD hr.units) fEq_ok (de_is is_str (by rfl) m_isinstance (by rfl) m_str (by decide +kernel) (de_var 0)) (de_is is_str (by rfl) m_isinstance (by rfl) m_str (by decide +kernel) (de_var 1))))))) dss_nil) (dss_one (ds_ret (de_and (de_is is_int (by rfl) m_isinstance (by rfl) m_int (by decide +kernel) (de_var 0)) (de_and (de_cmp (op_eqD hr.units) fEq_ok (de_is is_bool (by rfl) m_isinstance (by rfl) m_bool (by decide +kernel) (de_var 0)) (de_is is_bool (by rfl) m_isinstance (by rfl) m_bool (by decide +kernel) (de_var 1))) (de_one (de_cmp (op_eqD hr.units) fEq_ok (de_var 0) (de_var 1)))))))))
/-! ### _law_pick -/
abbrev s_law_pick : Stmt := topS 13
theorem sc_law_pick : FnScope ["_law_pot_here", "_law_some"] ["_law_pot_here", "_law_some"] (defScope s_law_pick) := ⟨rfl, rfl, rfl, by decide +kernel, rfl, by decide +kernel, by decide +kernel⟩
theorem ok_law_pick {f : Addr} {fd : FuncData} (F : Fun K "_law_pick" "_law_pick" s_law_pick f fd) {f_law_take : Addr} {fd_law_take : FuncData} (F_law_take : Fun K "_law_take" "_law_take" s_law_take f_law_take fd_law_take) (b_law_take : Binds K fd_law_take ["_law_pot_here", "_law_bound"] []) (g_m_law_take : mg "_law_take" = some (.ref f_law_take)) (G_law_take : FnOk P w K mg base (L2.CX P w) 7 f_law_take fd_law_take ["_law_pot_here", "_law_bound"] (spD K mg 2 (g_law_take 6))) (m_len : mg "len" = none) : FnOk P w K mg base (L2.CX P w) 8 f fd ["_law_pot_here", "_law_some"] (spD K mg 2 g_law_pick) :=
  fn_den (k := 7) F sc_law_pick fun cdv A outer s H E hr => (dss_one (ds_ret (de_ix (ix_orT (ix_list.or ix_tup)) (fIxT_ok fIx_ok) (de_var 1) (de_call G_law_take hr (by rfl) g_m_law_take F_law_take.kp b_law_take (fun σ => passAt (W := fun cls d _ H => E cls d H) (takes_of rfl rfl rfl rfl) σ) (da_cons (de_var 0) (da_cons (de_callB call_lenT fLenT_ok (by rfl) m_len PySem.boot_len (da_cons (de_var 1) da_nil)) da_nil))))))
/-! ### _law_signs_bent -/
abbrev s_law_signs_bent : Stmt := topS 20
theorem sc_law_signs_bent : FnScope ["_law_pot_here", "_law_words", "_law_at", "_law_way", "_law_sign", "_law_parts", "_law_spot"] ["_law_pot_here", "_law_words"] (defScope s_law_signs_bent) := ⟨rfl, rfl, rfl, by decide +kernel, rfl, by decide +kernel, by decide +kernel⟩
theorem ok_law_signs_bent {f : Addr} {fd : FuncData} (F : Fun K "_law_signs_bent" "_law_signs_bent" s_law_signs_bent f fd) {f_law_take : Addr} {fd_law_take : FuncData} (F_law_take : Fun K "_law_take" "_law_take" s_law_take f_law_take fd_law_take) (b_law_take : Binds K fd_law_take ["_law_pot_here", "_law_bound"] []) (g_m_law_take : mg "_law_take" = some (.ref f_law_take)) (G_law_take : FnOk P w K mg base (L2.CX P w) 8 f_law_take fd_law_take ["_law_pot_here", "_law_bound"] (spD K mg 2 (g_law_take 6))) {f_law_pick : Addr} {fd_law_pick : FuncData} (F_law_pick : Fun K "_law_pick" "_law_pick" s_law_pick f_law_pick fd_law_pick) (b_law_pick : Binds K fd_law_pick ["_law_pot_here", "_law_some"] []) (g_m_law_pick : mg "_law_pick" = some (.ref f_law_pick)) (G_law_pick : FnOk P w K mg base (L2.CX P w) 8 f_law_pick fd_law_pick ["_law_pot_here", "_law_some"] (spD K mg 2 g_law_pick)) (m_len : mg "len" = none) : FnOk P w K mg base (L2.CX P w) 9 f fd ["_law_pot_here", "_law_words"] (spD K mg 2 g_law_signs_bent) :=
  fn_den (k := 8) F sc_law_signs_bent fun cdv A outer s H E hr => (dss_cons (ds_par (i := 2) (j := 3) rfl sc_law_signs_bent.nd (de_call G_law_take hr (by rfl) g_m_law_take F_law_take.kp b_law_take (fun σ => passAt (W := fun cls d _ H => E cls d H) (takes_of rfl rfl rfl rfl) σ) (da_cons (de_var 0) (da_cons (de_bin op_addW fAdd_ok (de_callB call_lenT fLenT_ok (by rfl) m_len PySem.boot_len (da_cons (de_var 1) da_nil)) de_int) da_nil))) (de_call G_law_take hr (by rfl) g_m_law_take F_law_take.kp b_law_take (fun σ => passAt (W := fun cls d _ H => E cls d H) (takes_of rfl rfl rfl rfl) σ) (da_cons (de_var 0) (da_cons de_int da_nil)))) (dss_cons (ds_par (i := 4) (j := 5) rfl sc_law_signs_bent.nd (de_call G_law_pick hr (by rfl) g_m_law_pick F_law_pick.kp b_law_pick (fun σ => passAt (W := fun cls d _ H => E cls d H) (takes_of rfl rfl rfl rfl) σ) (da_cons (de_var 0) (da_cons de_str da_nil))) (de_split (de_var 1) de_str)) (dss_cons (ds_if (dt_cmp (op_eqD hr.units) fEq_ok (de_var 3) de_int) (dss_one (ds_ret (de_bin op_add_str fCatS_ok (de_bin op_add_str fCatS_ok (de_cutT (de_var 1) do_none (do_some (de_var 2))) (de_var 4)) (de_cutT (de_var 1) (do_some (de_var 2)) do_none)))) dss_nil) (dss_cons (ds_if (dt_cmp (op_eqD hr.units) fEq_ok (de_var 3) de_int) (dss_one (ds_ret (de_bin op_add_str fCatS_ok (de_cutT (de_var 1) do_none (do_some (de_var 2))) (de_cutT (de_var 1) (do_some (de_bin op_addW fAdd_ok (de_var 2) de_int)) do_none)))) dss_nil) (dss_cons (ds_if (dt_cmp (op_eqD hr.units) fEq_ok (de_var 3) de_int) (dss_one (ds_ret (de_bin op_add_str fCatS_ok (de_bin op_add_str fCatS_ok (de_cutT (de_var 1) do_none (do_some (de_var 2))) (de_var 4)) (de_cutT (de_var 1) (do_some (de_bin op_addW fAdd_ok (de_var 2) de_int)) do_none)))) dss_nil) (dss_cons (ds_set 6 sc_law_signs_bent.nd (de_call G_law_take hr (by rfl) g_m_law_take F_law_take.kp b_law_take (fun σ => passAt (W := fun cls d _ H => E cls d H) (takes_of rfl rfl rfl rfl) σ) (da_cons (de_var 0) (da_cons (de_callB call_len_seq fLen_ok (by rfl) m_len PySem.boot_len (da_cons (de_var 5) da_nil)) da_nil)))) (dss_cons (ds_if (dt_cmp (op_eqD hr.units) fEq_ok (de_var 3) de_int) (dss_one (ds_ret (de_join de_str (de_bin op_addW fAdd_ok (de_cut .cl (de_var 5) do_none (do_some (de_var 6))) (de_cut .cl (de_var 5) (do_some (de_bin op_addW fAdd_ok (de_var 6) de_int)) do_none))))) dss_nil) (dss_cons (ds_if (dt_cmp (op_eqD hr.units) fEq_ok (de_var 3) de_int) (dss_one (ds_ret (de_join de_str (de_bin op_addW fAdd_ok (de_cut .cl (de_var 5) do_none (do_some (de_bin op_addW fAdd_ok (de_var 6) de_int))) (de_cut .cl (de_var 5) (do_some (de_var 6)) do_none))))) dss_nil) (dss_one (ds_ret (de_join de_str (de_bin op_addW fAdd_ok (de_bin op_addW fAdd_ok (de_cut .cl (de_var 5) do_none (do_some (de_var 6))) (de_rev .cl (de_cut .cl (de_var 5) (do_some (de_var 6)) (do_some (de_bin op_addW fAdd_ok (de_var 6) de_int))))) (de_cut .cl (de_var 5) (do_some (de_bin op_addW fAdd_ok (de_var 6) de_int)) do_none)))))))))))))
/-! ### _law_read -/
abbrev s_law_read : Stmt := topS 21
theorem sc_law_read : FnScope ["_law_words", "_law_found", "_law_caught", "error", "_law_fine"] ["_law_words"] (defScope s_law_read) := ⟨rfl, rfl, rfl, by decide +kernel, rfl, by decide +kernel, by decide +kernel⟩
theorem ok_law_read {f : Addr} {fd : FuncData} (F : Fun K "_law_read" "_law_read" s_law_read f fd) {f_houses_in : Addr} {fd_houses_in : FuncData} (F_houses_in : Fun K "houses_in" "houses_in" s_houses_in f_houses_in fd_houses_in) (b_houses_in : Binds K fd_houses_in ["text"] []) (g_m_houses_in : mg "houses_in" = some (.ref f_houses_in)) (G_houses_in : FnOk P w K mg base (L2.CX P w) 3 f_houses_in fd_houses_in ["text"] (spD K mg 1 g_houses_in)) (TS : ErS K mg errs) {C_Known : Addr} (mc_Known : mg "Known" = some (.ref C_Known)) {C_BadText : Addr} (mc_BadText : mg "BadText" = some (.ref C_BadText)) {C_BadRow : Addr} (mc_BadRow : mg "BadRow" = some (.ref C_BadRow)) (h_up_ValueError : ∀ c ∈ errs, ∀ C, mg c = some (.ref C) → PySem.W.kitOne K (.ref C) (.type "ValueError") = some (up_ValueError c)) (nof_at : ∀ c ∈ errs, ∀ C, mg c = some (.ref C) → PySem.W.findIn K (.ref C) "at" = some none) (m_isinstance : mg "isinstance" = none) (m_ValueError : mg "ValueError" = none) : FnOk P w K mg base (L2.CX P w) 4 f fd ["_law_words"] (spD K mg 1 g_law_read) :=
  fn_den (k := 3) F sc_law_read fun cdv A outer s H E hr => (dss_cons (ds_asg (de_tup (da_cons de_non (da_cons de_non da_nil))) (dg_tp rfl (dgs_cons (dg_nm 1 sc_law_read.nd) (dgs_cons (dg_nm 2 sc_law_read.nd) dgs_nil)))) (dss_cons (ds_try (cs := ["BadRow", "BadText", "Known"]) TS (by decide) (.cons mc_BadRow (.cons mc_BadText (.cons mc_Known .nil))) rfl rfl rfl sc_law_read.nd rfl rfl rfl rfl (by decide) (.cons ⟨rfl, by decide, .inl mc_BadRow⟩ (.cons ⟨rfl, by decide, .inl mc_BadText⟩ (.cons ⟨rfl, by decide, .inl mc_Known⟩ .nil))) (by show 3 ≤ 1000; decide) (takes_of rfl rfl rfl rfl) (fun W pn xe tk ho => (dss_one (ds_set 1 sc_law_read.nd (de_call G_houses_in hr (by rfl) g_m_houses_in F_houses_in.kp b_houses_in (fun σ => passAt tk σ) (da_cons (de_var 0) da_nil))))) (fun a oe pn => pss_one (ps_set (i := 2) sc_law_read.nd rfl (Or.inl rfl) (by exact (pv 3))))) (dss_cons (ds_if (dt_cmp op_isN fIs_ok (de_var 2) de_non) (dss_one (ds_ret (de_var 1))) dss_nil) (dss_cons (ds_set 4 sc_law_read.nd (de_and (de_isX TS (pe_glob (v := .ref C_BadText) (by rfl) mc_BadText rfl) (.own _) (fun c hc C e => nmS_kit TS hc e (by decide) mc_BadText) (by rfl) m_isinstance (de_var 2)) (de_and (de_isX TS (pe_bltn (v := .ty "ValueError") (by rfl) m_ValueError (by decide +kernel) rfl) (.ty _) h_up_ValueError (by rfl) m_isinstance (de_var 2)) (de_one (de_not (de_isXs (c := .Name "x" ⟨0, 0, 0, 0⟩) (cs := ["BadRow", "Known"]) TS (by decide) (.cons mc_BadRow (.cons mc_Known .nil)) (.cons (.own _) (.cons (.own _) .nil)) (by show 2 ≤ sizeLine; decide) (pa_cls (by rfl) mc_BadRow (pa_cls (by rfl) mc_Known pa_cls0)) (by rfl) m_isinstance (de_var 2))))))) (dss_one (ds_ret (de_if (dt_val (de_var 4)) (de_fld TS (nof_at) (de_var 2)) de_non)))))))
/-! ### _law_is_plain -/
abbrev s_law_is_plain : Stmt := topS 18
theorem sc_law_is_plain : FnScope ["_law_word", "_law_least"] ["_law_word", "_law_least"] (defScope s_law_is_plain) := ⟨rfl, rfl, rfl, by decide +kernel, rfl, by decide +kernel, by decide +kernel⟩
theorem ok_law_is_plain {f : Addr} {fd : FuncData} (F : Fun K "_law_is_plain" "_law_is_plain" s_law_is_plain f fd) (m_len : mg "len" = none) (m_int : mg "int" = none) (m_str : mg "str" = none) : FnOk P w K mg base (L2.CX P w) 1 f fd ["_law_word", "_law_least"] (spD K mg 2 g_law_is_plain) :=
  fn_den (k := 0) F sc_law_is_plain fun cdv A outer s H E hr => (dss_cons (ds_if (pt_wordOr (dw_or (dt_cmp (op_eqD hr.units) fEq_ok (de_var 0) de_str) (dw_or (dt_cmp op_gt fCmp_ok (de_callB call_lenT fLenT_ok (by rfl) m_len PySem.boot_len (da_cons (de_var 0) da_nil)) de_int) (dw_or1 (dt_cmp (op_neD hr.units) fNe_ok (de_stripC (de_var 0) de_str) de_str))))) (dss_one (ds_ret de_bl)) dss_nil) (dss_one (ds_ret (de_and (de_cmp (op_eqD hr.units) fEq_ok (de_callTy call_strN fStr_ok (by rfl) m_str (by decide +kernel) (da_cons (de_callTy call_intX fIntX_ok (by rfl) m_int (by decide +kernel) (da_cons (de_var 0) da_nil)) da_nil)) (de_var 0)) (de_one (de_cmp op_ge fCmp_ok (de_callTy call_intX fIntX_ok (by rfl) m_int (by decide +kernel) (da_cons (de_var 0) da_nil)) (de_var 1)))))))
/-! ### _law_homes_in -/
abbrev s_law_homes_in : Stmt := topS 19
theorem sc_law_homes_in : FnScope ["_law_words", "_law_wings", "_law_some", "_law_at", "_law_word", "_law_least"] ["_law_words"] (defScope s_law_homes_in) := ⟨rfl, rfl, rfl, by decide +kernel, rfl, by decide +kernel, by decide +kernel⟩
theorem ok_law_homes_in {f : Addr} {fd : FuncData} (F : Fun K "_law_homes_in" "_law_homes_in" s_law_homes_in f fd) {f_law_is_plain : Addr} {fd_law_is_plain : FuncData} (F_law_is_plain : Fun K "_law_is_plain" "_law_is_plain" s_law_is_plain f_law_is_plain fd_law_is_plain) (b_law_is_plain : Binds K fd_law_is_plain ["_law_word", "_law_least"] []) (g_m_law_is_plain : mg "_law_is_plain" = some (.ref f_law_is_plain)) (G_law_is_plain : FnOk P w K mg base (L2.CX P w) 1 f_law_is_plain fd_law_is_plain ["_law_word", "_law_least"] (spD K mg 2 g_law_is_plain)) (m_enumerate : mg "enumerate" = none) (m_len : mg "len" = none) (m_int : mg "int" = none) (m_tuple : mg "tuple" = none) : FnOk P w K mg base (L2.CX P w) 2 f fd ["_law_words"] (spD K mg 1 g_law_homes_in) :=
  fn_den (k := 1) F sc_law_homes_in fun cdv A outer s H E hr => (dss_cons (ds_par (i := 1) (j := 2) rfl sc_law_homes_in.nd (de_lst (da_cons (de_lst da_nil) da_nil)) (de_split (de_var 0) de_str)) (dss_cons (ds_for (passes rfl) rfl (di_enum (by rfl) m_enumerate (da_cons (de_var 2) da_nil)) (dg_tp rfl (dgs_cons (dg_nm 3 sc_law_homes_in.nd) (dgs_cons (dg_nm 4 sc_law_homes_in.nd) dgs_nil))) (dss_cons (ds_set 5 sc_law_homes_in.nd (de_if (dt_cmp (op_neD hr.units) fNe_ok (de_ix (ix_list.or ix_tup) fIx_ok (de_var 1) (de_un un_neg fNeg_ok de_int)) (de_cl da_nil)) (de_bin op_addW fAdd_ok (de_ix (ix_list.or ix_tup) fIx_ok (de_ix (ix_list.or ix_tup) fIx_ok (de_var 1) (de_un un_neg fNeg_ok de_int)) (de_un un_neg fNeg_ok de_int)) de_int) de_int)) (dss_one (ds_if (pt_wordAnd (dw_and (dt_cmp (op_eqD hr.units) fEq_ok (de_var 4) de_str) (dw_and1 (dt_cmp (op_eqD hr.units) fEq_ok (de_callB call_len_seq fLen_ok (by rfl) m_len PySem.boot_len (da_cons (de_var 1) da_nil)) de_int)))) (dss_one (ds_expr (de_mth PySem.F.slot_list_append PySem.F.type_list_append mt_append fAppend_ok (de_var 1) (da_cons (de_lst da_nil) da_nil)))) (dss_one (ds_if (dt_not (dt_val (de_call G_law_is_plain hr (by rfl) g_m_law_is_plain F_law_is_plain.kp b_law_is_plain (fun σ => passAt (W := fun cls d _ H => E cls d H) (takes_of rfl rfl rfl rfl) σ) (da_cons (de_var 4) (da_cons (de_var 5) da_nil))))) (dss_one (ds_ret (de_var 3))) (dss_one (ds_expr (de_mth PySem.F.slot_list_append PySem.F.type_list_append mt_append fAppend_ok (de_ix (ix_list.or ix_tup) fIx_ok (de_var 1) (de_un un_neg fNeg_ok de_int)) (da_cons (de_callTy call_intX fIntX_ok (by rfl) m_int (by decide +kernel) (da_cons (de_var 4) da_nil)) da_nil)))))))))) (dss_one (ds_ret (de_if (dt_cmp (op_eqD hr.units) fEq_ok (de_callB call_len_seq fLen_ok (by rfl) m_len PySem.boot_len (da_cons (de_var 1) da_nil)) de_int) (de_tup (da_cons (de_callTy call_tupN fTuple_ok (by rfl) m_tuple (by decide +kernel) (da_cons (de_ix (ix_list.or ix_tup) fIx_ok (de_var 1) de_int) da_nil)) (da_cons (de_callTy call_tupN fTuple_ok (by rfl) m_tuple (by decide +kernel) (da_cons (de_ix (ix_list.or ix_tup) fIx_ok (de_var 1) de_int) da_nil)) da_nil))) (de_callB call_len_seq fLen_ok (by rfl) m_len PySem.boot_len (da_cons (de_var 2) da_nil)))))))
/-! ### _law_right -/
abbrev s_law_right : Stmt := topS 22
theorem sc_law_right : FnScope ["_law_pot_here", "_law_homes_here", "_law_parts", "_law_storey", "_law_part", "_law_words", "_law_told", "_law_some", "_law_turn", "_law_lone"] ["_law_pot_here"] (defScope s_law_right) := ⟨rfl, rfl, rfl, by decide +kernel, rfl, by decide +kernel, by decide +kernel⟩
theorem ok_law_right {f : Addr} {fd : FuncData} (F : Fun K "_law_right" "_law_right" s_law_right f fd) {f_law_homes : Addr} {fd_law_homes : FuncData} (F_law_homes : Fun K "_law_homes" "_law_homes" s_law_homes f_law_homes fd_law_homes) (b_law_homes : Binds K fd_law_homes ["_law_pot_here", "_law_most"] []) (g_m_law_homes : mg "_law_homes" = some (.ref f_law_homes)) (G_law_homes : FnOk P w K mg base (L2.CX P w) 17 f_law_homes fd_law_homes ["_law_pot_here", "_law_most"] (spD K mg 2 g_law_homes)) {f_law_take : Addr} {fd_law_take : FuncData} (F_law_take : Fun K "_law_take" "_law_take" s_law_take f_law_take fd_law_take) (b_law_take : Binds K fd_law_take ["_law_pot_here", "_law_bound"] []) (g_m_law_take : mg "_law_take" = some (.ref f_law_take)) (G_law_take : FnOk P w K mg base (L2.CX P w) 17 f_law_take fd_law_take ["_law_pot_here", "_law_bound"] (spD K mg 2 (g_law_take 6))) {f_houses_text : Addr} {fd_houses_text : FuncData} (F_houses_text : Fun K "houses_text" "houses_text" s_houses_text f_houses_text fd_houses_text) (b_houses_text : Binds K fd_houses_text ["houses"] []) (g_m_houses_text : mg "houses_text" = some (.ref f_houses_text)) (G_houses_text : FnOk P w K mg base (L2.CX P w) 17 f_houses_text fd_houses_text ["houses"] (spD K mg 1 g_houses_text)) {f_law_lists : Addr} {fd_law_lists : FuncData} (F_law_lists : Fun K "_law_lists" "_law_lists" s_law_lists f_law_lists fd_law_lists) (b_law_lists : Binds K fd_law_lists ["_law_matter"] []) (g_m_law_lists : mg "_law_lists" = some (.ref f_law_lists)) (G_law_lists : FnOk P w K mg base (L2.CX P w) 17 f_law_lists fd_law_lists ["_law_matter"] (spD K mg 1 (g_law_lists 6))) {f_houses_in : Addr} {fd_houses_in : FuncData} (F_houses_in : Fun K "houses_in" "houses_in" s_houses_in f_houses_in fd_houses_in) (b_houses_in : Binds K fd_houses_in ["text"] []) (g_m_houses_in : mg "houses_in" = some (.ref f_houses_in)) (G_houses_in : FnOk P w K mg base (L2.CX P w) 17 f_houses_in fd_houses_in ["text"] (spD K mg 1 g_houses_in)) {f_law_same : Addr} {fd_law_same : FuncData} (F_law_same : Fun K "_law_same" "_law_same" s_law_same f_law_same fd_law_same) (b_law_same : Binds K fd_law_same ["_law_found", "_law_due"] []) (g_m_law_same : mg "_law_same" = some (.ref f_law_same)) (G_law_same : FnOk P w K mg base (L2.CX P w) 17 f_law_same fd_law_same ["_law_found", "_law_due"] (spD K mg 2 (g_law_same 16))) {f_law_signs_bent : Addr} {fd_law_signs_bent : FuncData} (F_law_signs_bent : Fun K "_law_signs_bent" "_law_signs_bent" s_law_signs_bent f_law_signs_bent fd_law_signs_bent) (b_law_signs_bent : Binds K fd_law_signs_bent ["_law_pot_here", "_law_words"] []) (g_m_law_signs_bent : mg "_law_signs_bent" = some (.ref f_law_signs_bent)) (G_law_signs_bent : FnOk P w K mg base (L2.CX P w) 17 f_law_signs_bent fd_law_signs_bent ["_law_pot_here", "_law_words"] (spD K mg 2 g_law_signs_bent)) {f_law_read : Addr} {fd_law_read : FuncData} (F_law_read : Fun K "_law_read" "_law_read" s_law_read f_law_read fd_law_read) (b_law_read : Binds K fd_law_read ["_law_words"] []) (g_m_law_read : mg "_law_read" = some (.ref f_law_read)) (G_law_read : FnOk P w K mg base (L2.CX P w) 17 f_law_read fd_law_read ["_law_words"] (spD K mg 1 g_law_read)) {f_law_homes_in : Addr} {fd_law_homes_in : FuncData} (F_law_homes_in : Fun K "_law_homes_in" "_law_homes_in" s_law_homes_in f_law_homes_in fd_law_homes_in) (b_law_homes_in : Binds K fd_law_homes_in ["_law_words"] []) (g_m_law_homes_in : mg "_law_homes_in" = some (.ref f_law_homes_in)) (G_law_homes_in : FnOk P w K mg base (L2.CX P w) 17 f_law_homes_in fd_law_homes_in ["_law_words"] (spD K mg 1 g_law_homes_in)) (k_houses_text_houses : KB0 K fd_houses_text ["houses"] ["houses"] (gp [0]) (gp [0])) (k_houses_in_text : KB0 K fd_houses_in ["text"] ["text"] (gp [0]) (gp [0])) (m_str : mg "str" = none) (m_range : mg "range" = none) (m_all : mg "all" = none) : FnOk P w K mg base (L2.CX P w) 18 f fd ["_law_pot_here"] (spD K mg 1 g_law_right) :=
  fn_den (k := 17) F sc_law_right fun cdv A outer s H E hr => (dss_cons (ds_set 1 sc_law_right.nd (de_call G_law_homes hr (by rfl) g_m_law_homes F_law_homes.kp b_law_homes (fun σ => passAt (W := fun cls d _ H => E cls d H) (takes_of rfl rfl rfl rfl) σ) (da_cons (de_var 0) (da_cons (de_bin op_addW fAdd_ok de_int (de_call G_law_take hr (by rfl) g_m_law_take F_law_take.kp b_law_take (fun σ => passAt (W := fun cls d _ H => E cls d H) (takes_of rfl rfl rfl rfl) σ) (da_cons (de_var 0) (da_cons de_int da_nil)))) da_nil)))) (dss_cons (ds_setLc (own := [("_law_part", 4)]) .cl 2 rfl sc_law_right.nd (by rfl) (di_seq (de_var 1)) (blkOk_by (own := [("_law_part", 4)]) (N := ["_law_pot_here", "_law_homes_here", "_law_parts", "_law_storey", "_law_part", "_law_words", "_law_told", "_law_some", "_law_turn", "_law_lone"]) (sc := defScope s_law_right) (by decide +kernel)) (fun _ _ _ _ _ => (dg_nm 4 sc_law_right.nd)) (fun _ _ _ _ _ => dts_nil) (fun _ _ _ _ _ => (de_join de_str (by exact (de_lc (own := [("_law_storey", 3)]) .cl rfl sc_law_right.nd (di_seq (de_var 4)) (blkOk_by (own := [("_law_storey", 3)]) (N := ["_law_pot_here", "_law_homes_here", "_law_parts", "_law_storey", "_law_part", "_law_words", "_law_told", "_law_some", "_law_turn", "_law_lone"]) (by first | decide +kernel | (dsimp only [Cx.blk, compEnvC]; decide +kernel) | rfl)) (fun _ _ _ _ _ => (dg_nm 3 sc_law_right.nd)) (fun _ _ _ _ _ => dts_nil) (fun _ _ _ _ _ => (de_callTy call_strN fStr_ok (by rfl) m_str (by decide +kernel) (da_cons (de_var 3) da_nil)))))))) (dss_cons (ds_set 5 sc_law_right.nd (de_join de_str (by exact (de_lc (own := [("_law_part", 4)]) .cl rfl sc_law_right.nd (di_seq (de_cl (da_cons (de_ix (ix_list.or ix_tup) fIx_ok (de_var 2) de_int) (da_cons de_str (da_cons (de_ix (ix_list.or ix_tup) fIx_ok (de_var 2) de_int) da_nil))))) (blkOk_by (own := [("_law_part", 4)]) (N := ["_law_pot_here", "_law_homes_here", "_law_parts", "_law_storey", "_law_part", "_law_words", "_law_told", "_law_some", "_law_turn", "_law_lone"]) (sc := defScope s_law_right) (by decide +kernel)) (fun _ _ _ _ _ => (dg_nm 4 sc_law_right.nd)) (fun _ _ _ _ _ => (dts_one (dt_cmp (op_neD hr.units) fNe_ok (de_var 4) de_str))) (fun _ _ _ _ _ => (de_var 4)))))) (dss_cons (ds_set 6 sc_law_right.nd (de_cl (da_cons (de_call G_houses_text hr (by rfl) g_m_houses_text F_houses_text.kp b_houses_text (fun σ => passAt (W := fun cls d _ H => E cls d H) (takes_of rfl rfl rfl rfl) σ) (da_cons (de_var 1) da_nil)) (da_cons (de_callK (ks := ["houses"]) (π := [0]) G_houses_text hr (by rfl) g_m_houses_text F_houses_text.kp k_houses_text_houses (fun σ => passAt (W := fun cls d _ H => E cls d H) (takes_of rfl rfl rfl rfl) σ) (dk_cons (de_call G_law_lists hr (by rfl) g_m_law_lists F_law_lists.kp b_law_lists (fun σ => passAt (W := fun cls d _ H => E cls d H) (takes_of rfl rfl rfl rfl) σ) (da_cons (de_var 1) da_nil)) dk_nil)) (da_cons (de_call G_houses_in hr (by rfl) g_m_houses_in F_houses_in.kp b_houses_in (fun σ => passAt (W := fun cls d _ H => E cls d H) (takes_of rfl rfl rfl rfl) σ) (da_cons (de_var 5) da_nil)) (da_cons (de_callK (ks := ["text"]) (π := [0]) G_houses_in hr (by rfl) g_m_houses_in F_houses_in.kp k_houses_in_text (fun σ => passAt (W := fun cls d _ H => E cls d H) (takes_of rfl rfl rfl rfl) σ) (dk_cons (de_var 5) dk_nil)) da_nil)))))) (dss_cons (ds_if (dt_not (dt_val (de_call G_law_same hr (by rfl) g_m_law_same F_law_same.kp b_law_same (fun σ => passAt (W := fun cls d _ H => E cls d H) (takes_of rfl rfl rfl rfl) σ) (da_cons (de_var 6) (da_cons (de_cl (da_cons (de_var 5) (da_cons (de_var 5) (da_cons (de_var 1) (da_cons (de_var 1) da_nil))))) da_nil))))) (dss_one (ds_ret de_bl)) dss_nil) (dss_cons (ds_set 7 sc_law_right.nd (de_cl (da_cons de_str (da_cons de_str (da_cons de_str (da_cons de_str (da_cons de_str (da_cons de_str (da_cons de_str (da_cons de_str (da_cons de_str (da_cons de_str (da_cons de_str (da_cons de_str da_nil)))))))))))))) (dss_cons (ds_set 7 sc_law_right.nd (de_bin op_addW fAdd_ok (de_var 7) (de_cl (da_cons de_str (da_cons de_str (da_cons de_str da_nil)))))) (dss_cons (ds_set 7 sc_law_right.nd (de_bin op_addW fAdd_ok (de_var 7) (de_cl (da_cons de_str (da_cons de_str (da_cons de_str (da_cons de_str (da_cons de_str (da_cons de_str (da_cons de_str (da_cons de_str (da_cons de_str (da_cons de_str da_nil))))))))))))) (dss_cons (ds_set 7 sc_law_right.nd (de_bin op_addW fAdd_ok (de_var 7) (de_cl (da_cons de_str (da_cons de_str da_nil))))) (dss_cons (ds_set 7 sc_law_right.nd (de_bin op_addW fAdd_ok (de_var 7) (by exact (de_lc (own := [("_law_turn", 8)]) .cl rfl sc_law_right.nd (di_rg1 (by rfl) m_range (da_cons de_int da_nil)) (blkOk_by (own := [("_law_turn", 8)]) (N := ["_law_pot_here", "_law_homes_here", "_law_parts", "_law_storey", "_law_part", "_law_words", "_law_told", "_law_some", "_law_turn", "_law_lone"]) (sc := defScope s_law_right) (by decide +kernel)) (fun _ _ _ _ _ => (dg_nm 8 sc_law_right.nd)) (fun _ _ _ _ _ => dts_nil) (fun _ _ _ _ _ => (de_call G_law_signs_bent hr (by rfl) g_m_law_signs_bent F_law_signs_bent.kp b_law_signs_bent px0 (da_cons (de_var 0) (da_cons (de_var 5) da_nil)))))))) (dss_one (ds_ret (de_callB (cr_all rfl) fAll_ok (by rfl) m_all (by decide +kernel) (da_cons (by exact (de_lc (own := [("_law_lone", 9)]) .cl rfl sc_law_right.nd (di_seq (de_var 7)) (blkOk_by (own := [("_law_lone", 9)]) (N := ["_law_pot_here", "_law_homes_here", "_law_parts", "_law_storey", "_law_part", "_law_words", "_law_told", "_law_some", "_law_turn", "_law_lone"]) (sc := defScope s_law_right) (by decide +kernel)) (fun _ _ _ _ _ => (dg_nm 9 sc_law_right.nd)) (fun _ _ _ _ _ => dts_nil) (fun _ _ _ _ _ => (de_call G_law_same hr (by rfl) g_m_law_same F_law_same.kp b_law_same px0 (da_cons (de_call G_law_read hr (by rfl) g_m_law_read F_law_read.kp b_law_read px0 (da_cons (de_var 9) da_nil)) (da_cons (de_call G_law_homes_in hr (by rfl) g_m_law_homes_in F_law_homes_in.kp b_law_homes_in px0 (da_cons (de_var 9) da_nil)) da_nil)))))) da_nil))))))))))))))
/-! ### law -/
abbrev s_law : Stmt := topS 23
theorem sc_law : FnScope ["_law_script", "_law_k", "_law_pot_here", "_law_turn"] ["_law_script"] (defScope s_law) := ⟨rfl, rfl, rfl, by decide +kernel, rfl, by decide +kernel, by decide +kernel⟩
theorem ok_law {f : Addr} {fd : FuncData} (F : Fun K "law" "law" s_law f fd) {f_law_pot : Addr} {fd_law_pot : FuncData} (F_law_pot : Fun K "_law_pot" "_law_pot" s_law_pot f_law_pot fd_law_pot) (b_law_pot : Binds K fd_law_pot ["_law_script", "_law_k"] []) (g_m_law_pot : mg "_law_pot" = some (.ref f_law_pot)) (G_law_pot : FnOk P w K mg base (L2.CX P w) 18 f_law_pot fd_law_pot ["_law_script", "_law_k"] (spD K mg 2 g_law_pot)) {f_law_right : Addr} {fd_law_right : FuncData} (F_law_right : Fun K "_law_right" "_law_right" s_law_right f_law_right fd_law_right) (b_law_right : Binds K fd_law_right ["_law_pot_here"] []) (g_m_law_right : mg "_law_right" = some (.ref f_law_right)) (G_law_right : FnOk P w K mg base (L2.CX P w) 18 f_law_right fd_law_right ["_law_pot_here"] (spD K mg 1 g_law_right)) (m_len : mg "len" = none) (m_min : mg "min" = none) (m_max : mg "max" = none) (m_range : mg "range" = none) (m_all : mg "all" = none) : FnOk P w K mg base (L2.CX P w) 19 f fd ["_law_script"] (spD K mg 1 g_law) :=
  fn_den (k := 18) F sc_law fun cdv A outer s H E hr => (dss_cons (ds_for (passes rfl) rfl (di_rg1 (by rfl) m_range (da_cons (de_callB (call_max2 rfl) fMax2_ok (by rfl) m_max (by decide +kernel) (da_cons de_int (da_cons (de_callB (call_min2 rfl) fMin2_ok (by rfl) m_min (by decide +kernel) (da_cons de_int (da_cons (de_callB call_len_seq fLen_ok (by rfl) m_len PySem.boot_len (da_cons (de_var 0) da_nil)) da_nil))) da_nil))) da_nil)) (dg_nm 1 sc_law.nd) (dss_cons (ds_set 2 sc_law.nd (de_call G_law_pot hr (by rfl) g_m_law_pot F_law_pot.kp b_law_pot (fun σ => passAt (W := fun cls d _ H => E cls d H) (takes_of rfl rfl rfl rfl) σ) (da_cons (de_var 0) (da_cons (de_var 1) da_nil)))) (dss_one (ds_if (dt_not (dt_val (de_callB (cr_all rfl) fAll_ok (by rfl) m_all (by decide +kernel) (da_cons (by exact (de_lc (own := [("_law_turn", 3)]) .cl rfl sc_law.nd (di_rg1 (by rfl) m_range (da_cons de_int da_nil)) (blkOk_by (own := [("_law_turn", 3)]) (N := ["_law_script", "_law_k", "_law_pot_here", "_law_turn"]) (sc := defScope s_law) (by decide +kernel)) (fun _ _ _ _ _ => (dg_nm 3 sc_law.nd)) (fun _ _ _ _ _ => dts_nil) (fun _ _ _ _ _ => (de_call G_law_right hr (by rfl) g_m_law_right F_law_right.kp b_law_right px0 (da_cons (de_var 2) da_nil))))) da_nil)))) (dss_one (ds_ret de_bl)) dss_nil)))) (dss_one (ds_ret de_bl)))
end
end Den

namespace Den
open PySem PySem.Spec PyProof.Rows L2 Bal
abbrev si_Known : Stmt := inClass (topS 1) 0
abbrev si_BadText : Stmt := inClass (topS 2) 0
theorem sci_BadText : FnScope ["self", "at"] ["self", "at"] (defScope si_BadText) := ⟨rfl, rfl, rfl, by decide +kernel, rfl, by decide +kernel, by decide +kernel⟩
theorem ok_i_BadText {P : Program} {w : World} {K : PySem.W.Frag} {mg : Str → Option Value} {base : Heap} {C fI : Addr} {fdI : FuncData} {newId : String} {tail : List Value} {k : Nat} (T : ErT K mg "BadText" "at" "BadText.__init__" si_BadText C fI fdI newId tail) : FnOk P w K mg base CX0 (k + 1) fI fdI ["self", "at"] (spInit K C "at") := by
  refine T.F.ok sci_BadText (fun vs H Q E h => ?_) (fun cdv A outer s H vs Q E hr h => ?_)
  · obtain ⟨a, v, rfl, _⟩ := h
    rfl
  · obtain ⟨a, v, rfl, ha, q⟩ := h
    exact ⟨_, pss_one (ps_est (pv 0) (pv 1)), v, rfl, .ref a, rfl, a, C, newId, tail, rfl, T.c, T.no, ha, fun dx nd ne => q dx nd ne⟩
abbrev si_BadRow : Stmt := inClass (topS 3) 0
/-! ### what the top has written -/
theorem all_mk {l : PySem.W.OpenLaw} {w : World} {K : PySem.W.Frag} {h : Heap} {mg : Str → Option Value} {fa : Addr} (X : K.In h) (G : h.Ns mainGlobals mg) (hfa : mg "law" = some (.ref fa)) (OTD14 : ∀ f, mg "_law_right" = some (.ref f) → Den.OwnT K f h)
    {fD0 : Addr} {odD0 anD0 : Option Addr} {slD0 : Array (Option Value)} {ocD0 kVD0 dcD0 pmD0 cdD0 ctD0 : Value}
    {fD1 : Addr} {odD1 anD1 : Option Addr} {slD1 : Array (Option Value)} {ocD1 kVD1 dcD1 pmD1 cdD1 ctD1 : Value}
    {fD2 : Addr} {odD2 anD2 : Option Addr} {slD2 : Array (Option Value)} {ocD2 kVD2 dcD2 pmD2 cdD2 ctD2 : Value}
    {fD3 : Addr} {odD3 anD3 : Option Addr} {slD3 : Array (Option Value)} {ocD3 kVD3 dcD3 pmD3 cdD3 ctD3 : Value}
    {fD4 : Addr} {odD4 anD4 : Option Addr} {slD4 : Array (Option Value)} {ocD4 kVD4 dcD4 pmD4 cdD4 ctD4 : Value}
    {fD5 : Addr} {odD5 anD5 : Option Addr} {slD5 : Array (Option Value)} {ocD5 kVD5 dcD5 pmD5 cdD5 ctD5 : Value}
    {fD6 : Addr} {odD6 anD6 : Option Addr} {slD6 : Array (Option Value)} {ocD6 kVD6 dcD6 pmD6 cdD6 ctD6 : Value}
    {fD7 : Addr} {odD7 anD7 : Option Addr} {slD7 : Array (Option Value)} {ocD7 kVD7 dcD7 pmD7 cdD7 ctD7 : Value}
    {fD8 : Addr} {odD8 anD8 : Option Addr} {slD8 : Array (Option Value)} {ocD8 kVD8 dcD8 pmD8 cdD8 ctD8 : Value}
    {fD9 : Addr} {odD9 anD9 : Option Addr} {slD9 : Array (Option Value)} {ocD9 kVD9 dcD9 pmD9 cdD9 ctD9 : Value}
    {fD10 : Addr} {odD10 anD10 : Option Addr} {slD10 : Array (Option Value)} {ocD10 kVD10 dcD10 pmD10 cdD10 ctD10 : Value}
    {fD11 : Addr} {odD11 anD11 : Option Addr} {slD11 : Array (Option Value)} {ocD11 kVD11 dcD11 pmD11 cdD11 ctD11 : Value}
    {fD12 : Addr} {odD12 anD12 : Option Addr} {slD12 : Array (Option Value)} {ocD12 kVD12 dcD12 pmD12 cdD12 ctD12 : Value}
    {fD13 : Addr} {odD13 anD13 : Option Addr} {slD13 : Array (Option Value)} {ocD13 kVD13 dcD13 pmD13 cdD13 ctD13 : Value}
    {fD14 : Addr} {odD14 anD14 : Option Addr} {slD14 : Array (Option Value)} {ocD14 kVD14 dcD14 pmD14 cdD14 ctD14 : Value}
    {fD15 : Addr} {odD15 anD15 : Option Addr} {slD15 : Array (Option Value)} {ocD15 kVD15 dcD15 pmD15 cdD15 ctD15 : Value}
    {CE0 iE0 : Addr} {nmE0 qnE0 : Str} {NE0 : Addr} {bsE0 : List Value} {snE0 : List Str} {sbE0 : List Value} {abE0 : Bool} {coE0 : Option Bool} {ddE0 : Option Addr} {m0E0 m1E0 m2E0 m3E0 m5E0 : Option Value} {odE0 anE0 : Option Addr} {slE0 : Array (Option Value)} {ocE0 kVE0 dcE0 pmE0 cdE0 ctE0 : Value}
    {CE1 iE1 : Addr} {nmE1 qnE1 : Str} {NE1 : Addr} {bsE1 : List Value} {snE1 : List Str} {sbE1 : List Value} {abE1 : Bool} {coE1 : Option Bool} {ddE1 : Option Addr} {m0E1 m1E1 m2E1 m3E1 m5E1 : Option Value} {odE1 anE1 : Option Addr} {slE1 : Array (Option Value)} {ocE1 kVE1 dcE1 pmE1 cdE1 ctE1 : Value}
    {CE2 iE2 : Addr} {nmE2 qnE2 : Str} {NE2 : Addr} {bsE2 : List Value} {snE2 : List Str} {sbE2 : List Value} {abE2 : Bool} {coE2 : Option Bool} {ddE2 : Option Addr} {m0E2 m1E2 m2E2 m3E2 m5E2 : Option Value} {odE2 anE2 : Option Addr} {slE2 : Array (Option Value)} {ocE2 kVE2 dcE2 pmE2 cdE2 ctE2 : Value}
    {cTD14 PTD14 : Addr} {eTD14 : Value} {dTD14 : Option Addr} {vTD14 : Array Value} {sTD14 : Array (Option Value)}
    {tFIGURES : Tok}
    {tMOST_FIGURES : Tok}
    (nf0 : PySem.W.findIn K (.ref CE0) "at" = some none)
    (nf1 : PySem.W.findIn K (.ref CE2) "at" = some none)
    (aFIGURES : PySem.W.nsIn K mainGlobals "FIGURES" = some (some (.str "0123456789" tFIGURES)))
    (aMOST_FIGURES : PySem.W.nsIn K mainGlobals "MOST_FIGURES" = some (some (.int 10 tMOST_FIGURES)))
    (aD0 : PySem.W.nsIn K mainGlobals "_law_pot" = some (some (.ref fD0))) (lD0 : K.lookup fD0 = some ⟨ocD0, odD0, .func (PySem.W.fnOf "_law_pot" "_law_pot" (defArgs s_law_pot) (defBody s_law_pot) (defScope s_law_pot) .none kVD0 dcD0 pmD0 anD0 cdD0 ctD0), slD0⟩) (cD0 : PySem.W.codeIn K cdD0 "_law_pot" = true) (kD0 : PySem.W.keepIn K (.ref fD0) = true)
    (aD1 : PySem.W.nsIn K mainGlobals "_law_take" = some (some (.ref fD1))) (lD1 : K.lookup fD1 = some ⟨ocD1, odD1, .func (PySem.W.fnOf "_law_take" "_law_take" (defArgs s_law_take) (defBody s_law_take) (defScope s_law_take) .none kVD1 dcD1 pmD1 anD1 cdD1 ctD1), slD1⟩) (cD1 : PySem.W.codeIn K cdD1 "_law_take" = true) (kD1 : PySem.W.keepIn K (.ref fD1) = true)
    (aD2 : PySem.W.nsIn K mainGlobals "_law_floors" = some (some (.ref fD2))) (lD2 : K.lookup fD2 = some ⟨ocD2, odD2, .func (PySem.W.fnOf "_law_floors" "_law_floors" (defArgs s_law_floors) (defBody s_law_floors) (defScope s_law_floors) .none kVD2 dcD2 pmD2 anD2 cdD2 ctD2), slD2⟩) (cD2 : PySem.W.codeIn K cdD2 "_law_floors" = true) (kD2 : PySem.W.keepIn K (.ref fD2) = true)
    (aD3 : PySem.W.nsIn K mainGlobals "_law_homes" = some (some (.ref fD3))) (lD3 : K.lookup fD3 = some ⟨ocD3, odD3, .func (PySem.W.fnOf "_law_homes" "_law_homes" (defArgs s_law_homes) (defBody s_law_homes) (defScope s_law_homes) .none kVD3 dcD3 pmD3 anD3 cdD3 ctD3), slD3⟩) (cD3 : PySem.W.codeIn K cdD3 "_law_homes" = true) (kD3 : PySem.W.keepIn K (.ref fD3) = true)
    (aD4 : PySem.W.nsIn K mainGlobals "houses_text" = some (some (.ref fD4))) (lD4 : K.lookup fD4 = some ⟨ocD4, odD4, .func (PySem.W.fnOf "houses_text" "houses_text" (defArgs s_houses_text) (defBody s_houses_text) (defScope s_houses_text) .none kVD4 dcD4 pmD4 anD4 cdD4 ctD4), slD4⟩) (cD4 : PySem.W.codeIn K cdD4 "houses_text" = true) (kD4 : PySem.W.keepIn K (.ref fD4) = true)
    (aD5 : PySem.W.nsIn K mainGlobals "_law_lists" = some (some (.ref fD5))) (lD5 : K.lookup fD5 = some ⟨ocD5, odD5, .func (PySem.W.fnOf "_law_lists" "_law_lists" (defArgs s_law_lists) (defBody s_law_lists) (defScope s_law_lists) .none kVD5 dcD5 pmD5 anD5 cdD5 ctD5), slD5⟩) (cD5 : PySem.W.codeIn K cdD5 "_law_lists" = true) (kD5 : PySem.W.keepIn K (.ref fD5) = true)
    (aD6 : PySem.W.nsIn K mainGlobals "number_in" = some (some (.ref fD6))) (lD6 : K.lookup fD6 = some ⟨ocD6, odD6, .func (PySem.W.fnOf "number_in" "number_in" (defArgs s_number_in) (defBody s_number_in) (defScope s_number_in) .none kVD6 dcD6 pmD6 anD6 cdD6 ctD6), slD6⟩) (cD6 : PySem.W.codeIn K cdD6 "number_in" = true) (kD6 : PySem.W.keepIn K (.ref fD6) = true)
    (aD7 : PySem.W.nsIn K mainGlobals "houses_in" = some (some (.ref fD7))) (lD7 : K.lookup fD7 = some ⟨ocD7, odD7, .func (PySem.W.fnOf "houses_in" "houses_in" (defArgs s_houses_in) (defBody s_houses_in) (defScope s_houses_in) .none kVD7 dcD7 pmD7 anD7 cdD7 ctD7), slD7⟩) (cD7 : PySem.W.codeIn K cdD7 "houses_in" = true) (kD7 : PySem.W.keepIn K (.ref fD7) = true)
    (aD8 : PySem.W.nsIn K mainGlobals "_law_same" = some (some (.ref fD8))) (lD8 : K.lookup fD8 = some ⟨ocD8, odD8, .func (PySem.W.fnOf "_law_same" "_law_same" (defArgs s_law_same) (defBody s_law_same) (defScope s_law_same) .none kVD8 dcD8 pmD8 anD8 cdD8 ctD8), slD8⟩) (cD8 : PySem.W.codeIn K cdD8 "_law_same" = true) (kD8 : PySem.W.keepIn K (.ref fD8) = true)
    (aD9 : PySem.W.nsIn K mainGlobals "_law_pick" = some (some (.ref fD9))) (lD9 : K.lookup fD9 = some ⟨ocD9, odD9, .func (PySem.W.fnOf "_law_pick" "_law_pick" (defArgs s_law_pick) (defBody s_law_pick) (defScope s_law_pick) .none kVD9 dcD9 pmD9 anD9 cdD9 ctD9), slD9⟩) (cD9 : PySem.W.codeIn K cdD9 "_law_pick" = true) (kD9 : PySem.W.keepIn K (.ref fD9) = true)
    (aD10 : PySem.W.nsIn K mainGlobals "_law_signs_bent" = some (some (.ref fD10))) (lD10 : K.lookup fD10 = some ⟨ocD10, odD10, .func (PySem.W.fnOf "_law_signs_bent" "_law_signs_bent" (defArgs s_law_signs_bent) (defBody s_law_signs_bent) (defScope s_law_signs_bent) .none kVD10 dcD10 pmD10 anD10 cdD10 ctD10), slD10⟩) (cD10 : PySem.W.codeIn K cdD10 "_law_signs_bent" = true) (kD10 : PySem.W.keepIn K (.ref fD10) = true)
    (aD11 : PySem.W.nsIn K mainGlobals "_law_read" = some (some (.ref fD11))) (lD11 : K.lookup fD11 = some ⟨ocD11, odD11, .func (PySem.W.fnOf "_law_read" "_law_read" (defArgs s_law_read) (defBody s_law_read) (defScope s_law_read) .none kVD11 dcD11 pmD11 anD11 cdD11 ctD11), slD11⟩) (cD11 : PySem.W.codeIn K cdD11 "_law_read" = true) (kD11 : PySem.W.keepIn K (.ref fD11) = true)
    (aD12 : PySem.W.nsIn K mainGlobals "_law_is_plain" = some (some (.ref fD12))) (lD12 : K.lookup fD12 = some ⟨ocD12, odD12, .func (PySem.W.fnOf "_law_is_plain" "_law_is_plain" (defArgs s_law_is_plain) (defBody s_law_is_plain) (defScope s_law_is_plain) .none kVD12 dcD12 pmD12 anD12 cdD12 ctD12), slD12⟩) (cD12 : PySem.W.codeIn K cdD12 "_law_is_plain" = true) (kD12 : PySem.W.keepIn K (.ref fD12) = true)
    (aD13 : PySem.W.nsIn K mainGlobals "_law_homes_in" = some (some (.ref fD13))) (lD13 : K.lookup fD13 = some ⟨ocD13, odD13, .func (PySem.W.fnOf "_law_homes_in" "_law_homes_in" (defArgs s_law_homes_in) (defBody s_law_homes_in) (defScope s_law_homes_in) .none kVD13 dcD13 pmD13 anD13 cdD13 ctD13), slD13⟩) (cD13 : PySem.W.codeIn K cdD13 "_law_homes_in" = true) (kD13 : PySem.W.keepIn K (.ref fD13) = true)
    (aD14 : PySem.W.nsIn K mainGlobals "_law_right" = some (some (.ref fD14))) (lD14 : K.lookup fD14 = some ⟨ocD14, odD14, .func (PySem.W.fnOf "_law_right" "_law_right" (defArgs s_law_right) (defBody s_law_right) (defScope s_law_right) .none kVD14 dcD14 pmD14 anD14 cdD14 ctD14), slD14⟩) (cD14 : PySem.W.codeIn K cdD14 "_law_right" = true) (kD14 : PySem.W.keepIn K (.ref fD14) = true)
    (aD15 : PySem.W.nsIn K mainGlobals "law" = some (some (.ref fD15))) (lD15 : K.lookup fD15 = some ⟨ocD15, odD15, .func (PySem.W.fnOf "law" "law" (defArgs s_law) (defBody s_law) (defScope s_law) .none kVD15 dcD15 pmD15 anD15 cdD15 ctD15), slD15⟩) (cD15 : PySem.W.codeIn K cdD15 "law" = true) (kD15 : PySem.W.keepIn K (.ref fD15) = true)
    (aE0 : PySem.W.nsIn K mainGlobals "Known" = some (some (.ref CE0)))
    (xE0 : K.lookup CE0 = some (excClassObj nmE0 qnE0 CE0 NE0 bsE0 [.type "ValueError", .type "Exception", .type "BaseException", .type "object"] true snE0 sbE0 abE0 coE0 ddE0 m0E0 m1E0 m2E0 m3E0 m5E0 "ValueError.__new__"))
    (sE0 : PySem.W.findIn K (.ref CE0) "__setattr__" = some (some (.builtin "object.__setattr__"))) (gE0 : PySem.W.findIn K (.ref CE0) "__getattribute__" = some (some (.builtin "BaseException.__getattribute__"))) (hE0 : PySem.W.findIn K (.ref CE0) "__getattr__" = some none) (nE0 : PySem.W.findIn K (.ref CE0) "who" = some none)
    (jE0 : PySem.W.findIn K (.ref CE0) "__init__" = some (some (.ref iE0))) (tE0 : PySem.W.typeIn K (.ref iE0) = some (.type "function"))
    (lE0 : K.lookup iE0 = some ⟨ocE0, odE0, .func (PySem.W.fnOf "__init__" "Known.__init__" (defArgs si_Known) (defBody si_Known) (defScope si_Known) .none kVE0 dcE0 pmE0 anE0 cdE0 ctE0), slE0⟩) (cE0 : PySem.W.codeIn K cdE0 "Known.__init__" = true) (kE0 : PySem.W.keepIn K (.ref iE0) = true)
    (yE0 : PySem.W.keepIn K (.ref CE0) = true) (eE0 : PySem.W.subIn K (.ref CE0) (.type "BaseException") = some true) (uE0 : PySem.W.typeIn K (.ref CE0) = some (.type "type")) (dE0 : PySem.W.hasDictIn K CE0 = true) (vE0 : PySem.W.subIn K (.ref CE0) (.ref CE0) = some true)
    (wE0 : PySem.W.findIn K (.ref CE0) "__class__" = some (some (.builtin "object.__class__"))) (zE0 : PySem.W.mroIn K CE0 (.type "object") = some true)
    (aE1 : PySem.W.nsIn K mainGlobals "BadText" = some (some (.ref CE1)))
    (xE1 : K.lookup CE1 = some (excClassObj nmE1 qnE1 CE1 NE1 bsE1 [.type "ValueError", .type "Exception", .type "BaseException", .type "object"] true snE1 sbE1 abE1 coE1 ddE1 m0E1 m1E1 m2E1 m3E1 m5E1 "ValueError.__new__"))
    (sE1 : PySem.W.findIn K (.ref CE1) "__setattr__" = some (some (.builtin "object.__setattr__"))) (gE1 : PySem.W.findIn K (.ref CE1) "__getattribute__" = some (some (.builtin "BaseException.__getattribute__"))) (hE1 : PySem.W.findIn K (.ref CE1) "__getattr__" = some none) (nE1 : PySem.W.findIn K (.ref CE1) "at" = some none)
    (jE1 : PySem.W.findIn K (.ref CE1) "__init__" = some (some (.ref iE1))) (tE1 : PySem.W.typeIn K (.ref iE1) = some (.type "function"))
    (lE1 : K.lookup iE1 = some ⟨ocE1, odE1, .func (PySem.W.fnOf "__init__" "BadText.__init__" (defArgs si_BadText) (defBody si_BadText) (defScope si_BadText) .none kVE1 dcE1 pmE1 anE1 cdE1 ctE1), slE1⟩) (cE1 : PySem.W.codeIn K cdE1 "BadText.__init__" = true) (kE1 : PySem.W.keepIn K (.ref iE1) = true)
    (yE1 : PySem.W.keepIn K (.ref CE1) = true) (eE1 : PySem.W.subIn K (.ref CE1) (.type "BaseException") = some true) (uE1 : PySem.W.typeIn K (.ref CE1) = some (.type "type")) (dE1 : PySem.W.hasDictIn K CE1 = true) (vE1 : PySem.W.subIn K (.ref CE1) (.ref CE1) = some true)
    (wE1 : PySem.W.findIn K (.ref CE1) "__class__" = some (some (.builtin "object.__class__"))) (zE1 : PySem.W.mroIn K CE1 (.type "object") = some true)
    (aE2 : PySem.W.nsIn K mainGlobals "BadRow" = some (some (.ref CE2)))
    (xE2 : K.lookup CE2 = some (excClassObj nmE2 qnE2 CE2 NE2 bsE2 [.type "ValueError", .type "Exception", .type "BaseException", .type "object"] true snE2 sbE2 abE2 coE2 ddE2 m0E2 m1E2 m2E2 m3E2 m5E2 "ValueError.__new__"))
    (sE2 : PySem.W.findIn K (.ref CE2) "__setattr__" = some (some (.builtin "object.__setattr__"))) (gE2 : PySem.W.findIn K (.ref CE2) "__getattribute__" = some (some (.builtin "BaseException.__getattribute__"))) (hE2 : PySem.W.findIn K (.ref CE2) "__getattr__" = some none) (nE2 : PySem.W.findIn K (.ref CE2) "number" = some none)
    (jE2 : PySem.W.findIn K (.ref CE2) "__init__" = some (some (.ref iE2))) (tE2 : PySem.W.typeIn K (.ref iE2) = some (.type "function"))
    (lE2 : K.lookup iE2 = some ⟨ocE2, odE2, .func (PySem.W.fnOf "__init__" "BadRow.__init__" (defArgs si_BadRow) (defBody si_BadRow) (defScope si_BadRow) .none kVE2 dcE2 pmE2 anE2 cdE2 ctE2), slE2⟩) (cE2 : PySem.W.codeIn K cdE2 "BadRow.__init__" = true) (kE2 : PySem.W.keepIn K (.ref iE2) = true)
    (yE2 : PySem.W.keepIn K (.ref CE2) = true) (eE2 : PySem.W.subIn K (.ref CE2) (.type "BaseException") = some true) (uE2 : PySem.W.typeIn K (.ref CE2) = some (.type "type")) (dE2 : PySem.W.hasDictIn K CE2 = true) (vE2 : PySem.W.subIn K (.ref CE2) (.ref CE2) = some true)
    (wE2 : PySem.W.findIn K (.ref CE2) "__class__" = some (some (.builtin "object.__class__"))) (zE2 : PySem.W.mroIn K CE2 (.type "object") = some true)
    (gsG : PySem.W.specialIn K (.builtin "object.__class__") "__get__" = some (some (.builtin "getset_descriptor.__get__"))) (gsT : PySem.W.takesIn K (.builtin "object.__class__") = some true)
    (q0 : PySem.W.subIn K (.ref CE0) (.ref CE1) = some false)
    (q1 : PySem.W.subIn K (.ref CE0) (.ref CE2) = some false)
    (q2 : PySem.W.subIn K (.ref CE1) (.ref CE0) = some false)
    (q3 : PySem.W.subIn K (.ref CE1) (.ref CE2) = some false)
    (q4 : PySem.W.subIn K (.ref CE2) (.ref CE0) = some false)
    (q5 : PySem.W.subIn K (.ref CE2) (.ref CE1) = some false)
    (r0 : PySem.W.subIn K (.ref CE0) (.type "ValueError") = some true)
    (r1 : PySem.W.subIn K (.ref CE1) (.type "ValueError") = some true)
    (r2 : PySem.W.subIn K (.ref CE2) (.type "ValueError") = some true)
    (oTD14 : cdD14 = .ref cTD14) (kTD14 : K.lookup cTD14 = some ⟨eTD14, dTD14, .fields vTD14, sTD14⟩) (pTD14 : vTD14[11]? = some (.ref PTD14)) (nTD14 : K.lookup PTD14 = none)
    (bT__law_all_right : PySem.W.nsIn K mainGlobals "_law_all_right" = some none)
    (b_len : PySem.W.nsIn K mainGlobals "len" = some none)
    (b_abs : PySem.W.nsIn K mainGlobals "abs" = some none)
    (b_int : PySem.W.nsIn K mainGlobals "int" = some none)
    (b_range : PySem.W.nsIn K mainGlobals "range" = some none)
    (b_tuple : PySem.W.nsIn K mainGlobals "tuple" = some none)
    (b_str : PySem.W.nsIn K mainGlobals "str" = some none)
    (b_isinstance : PySem.W.nsIn K mainGlobals "isinstance" = some none)
    (b_list : PySem.W.nsIn K mainGlobals "list" = some none)
    (b_all : PySem.W.nsIn K mainGlobals "all" = some none)
    (b_enumerate : PySem.W.nsIn K mainGlobals "enumerate" = some none)
    (b_max : PySem.W.nsIn K mainGlobals "max" = some none)
    (b_zip : PySem.W.nsIn K mainGlobals "zip" = some none)
    (b_bool : PySem.W.nsIn K mainGlobals "bool" = some none)
    (b_ValueError : PySem.W.nsIn K mainGlobals "ValueError" = some none)
    (b_min : PySem.W.nsIn K mainGlobals "min" = some none) :
    LamX.LawAtS l w K (L2.CX l.prog w) 19 63 "_law_script" mg fa h := by
  have e := hfa.symm.trans (PySem.W.mg_of X G aD15)
  cases e
  have FD0 := fun_mk (st := s_law_pot) lD0 cD0 kD0
  have gD0 := PySem.W.mg_of X G aD0
  have FD1 := fun_mk (st := s_law_take) lD1 cD1 kD1
  have gD1 := PySem.W.mg_of X G aD1
  have FD2 := fun_mk (st := s_law_floors) lD2 cD2 kD2
  have gD2 := PySem.W.mg_of X G aD2
  have FD3 := fun_mk (st := s_law_homes) lD3 cD3 kD3
  have gD3 := PySem.W.mg_of X G aD3
  have FD4 := fun_mk (st := s_houses_text) lD4 cD4 kD4
  have gD4 := PySem.W.mg_of X G aD4
  have FD5 := fun_mk (st := s_law_lists) lD5 cD5 kD5
  have gD5 := PySem.W.mg_of X G aD5
  have FD6 := fun_mk (st := s_number_in) lD6 cD6 kD6
  have gD6 := PySem.W.mg_of X G aD6
  have FD7 := fun_mk (st := s_houses_in) lD7 cD7 kD7
  have gD7 := PySem.W.mg_of X G aD7
  have FD8 := fun_mk (st := s_law_same) lD8 cD8 kD8
  have gD8 := PySem.W.mg_of X G aD8
  have FD9 := fun_mk (st := s_law_pick) lD9 cD9 kD9
  have gD9 := PySem.W.mg_of X G aD9
  have FD10 := fun_mk (st := s_law_signs_bent) lD10 cD10 kD10
  have gD10 := PySem.W.mg_of X G aD10
  have FD11 := fun_mk (st := s_law_read) lD11 cD11 kD11
  have gD11 := PySem.W.mg_of X G aD11
  have FD12 := fun_mk (st := s_law_is_plain) lD12 cD12 kD12
  have gD12 := PySem.W.mg_of X G aD12
  have FD13 := fun_mk (st := s_law_homes_in) lD13 cD13 kD13
  have gD13 := PySem.W.mg_of X G aD13
  have FD14 := fun_mk (st := s_law_right) lD14 cD14 kD14
  have gD14 := PySem.W.mg_of X G aD14
  have FD15 := fun_mk (st := s_law) lD15 cD15 kD15
  have gD15 := PySem.W.mg_of X G aD15
  have FIE0 := fun_mk (st := si_Known) lE0 cE0 kE0
  have TE0 := erT_mk (f := "who") (PySem.W.mg_of X G aE0) xE0 sE0 gE0 hE0 nE0 jE0 tE0 FIE0 yE0 eE0 uE0 dE0 vE0 wE0 zE0 gsG gsT bx_value
  have FIE1 := fun_mk (st := si_BadText) lE1 cE1 kE1
  have TE1 := erT_mk (f := "at") (PySem.W.mg_of X G aE1) xE1 sE1 gE1 hE1 nE1 jE1 tE1 FIE1 yE1 eE1 uE1 dE1 vE1 wE1 zE1 gsG gsT bx_value
  have FIE2 := fun_mk (st := si_BadRow) lE2 cE2 kE2
  have TE2 := erT_mk (f := "number") (PySem.W.mg_of X G aE2) xE2 sE2 gE2 hE2 nE2 jE2 tE2 FIE2 yE2 eE2 uE2 dE2 vE2 wE2 zE2 gsG gsT bx_value
  have mFIGURES := PySem.W.mg_of X G aFIGURES
  have rrFIGURES : RelV (.str "0123456789") (.str "0123456789" tFIGURES) := ⟨_, rfl⟩
  have rpFIGURES : ∀ δ H μ, Rp ⟨K, mg, δ⟩ H μ (.str "0123456789") c_FIGURES := fun δ H μ => .str _
  have mMOST_FIGURES := PySem.W.mg_of X G aMOST_FIGURES
  have rrMOST_FIGURES : RelV (.int 10) (.int 10 tMOST_FIGURES) := ⟨_, rfl⟩
  have rpMOST_FIGURES : ∀ δ H μ, Rp ⟨K, mg, δ⟩ H μ (.int 10) c_MOST_FIGURES := fun δ H μ => .int _
  have m_len := PySem.W.mg_none_of X G b_len
  have m_abs := PySem.W.mg_none_of X G b_abs
  have m_int := PySem.W.mg_none_of X G b_int
  have m_range := PySem.W.mg_none_of X G b_range
  have m_tuple := PySem.W.mg_none_of X G b_tuple
  have m_str := PySem.W.mg_none_of X G b_str
  have m_isinstance := PySem.W.mg_none_of X G b_isinstance
  have m_list := PySem.W.mg_none_of X G b_list
  have m_all := PySem.W.mg_none_of X G b_all
  have m_enumerate := PySem.W.mg_none_of X G b_enumerate
  have m_max := PySem.W.mg_none_of X G b_max
  have m_zip := PySem.W.mg_none_of X G b_zip
  have m_bool := PySem.W.mg_none_of X G b_bool
  have m_ValueError := PySem.W.mg_none_of X G b_ValueError
  have m_min := PySem.W.mg_none_of X G b_min
  have tbD14 := Den.tab_of (nm := "_law_right") gD14 lD14 oTD14 kTD14 pTD14
  have owD14 := OTD14 _ gD14 cTD14 PTD14 _ _ _ _ _ _ lD14 rfl oTD14 kTD14 pTD14
  have tb__law_all_right := Den.tab_no (K := K) (nm := "_law_all_right") (PySem.W.mg_none_of X G bT__law_all_right)
  have hTs : Den.tabsOf K mg = [(PTD14, ((("_law_right" : Str) ++ ".<locals>.") ++ "<lambda>" : Str))] := by
    unfold Den.tabsOf Den.lamNames
    simp only [List.filterMap_cons, List.filterMap_nil, tbD14, tb__law_all_right]
  have bD0 := FD0.binds (ps := ["_law_script", "_law_k"]) fun _ _ _ _ _ _ us hl => match us, hl with | [_, _], _ => rfl
  have bD1 := FD1.binds (ps := ["_law_pot_here", "_law_bound"]) fun _ _ _ _ _ _ us hl => match us, hl with | [_, _], _ => rfl
  have bD2 := FD2.binds (ps := ["_law_pot_here", "_law_most"]) fun _ _ _ _ _ _ us hl => match us, hl with | [_, _], _ => rfl
  have bD3 := FD3.binds (ps := ["_law_pot_here", "_law_most"]) fun _ _ _ _ _ _ us hl => match us, hl with | [_, _], _ => rfl
  have bD4 := FD4.binds (ps := ["houses"]) fun _ _ _ _ _ _ us hl => match us, hl with | [_], _ => rfl
  have bD5 := FD5.binds (ps := ["_law_matter"]) fun _ _ _ _ _ _ us hl => match us, hl with | [_], _ => rfl
  have bD6 := FD6.binds (ps := ["word"]) fun _ _ _ _ _ _ us hl => match us, hl with | [_], _ => rfl
  have bD7 := FD7.binds (ps := ["text"]) fun _ _ _ _ _ _ us hl => match us, hl with | [_], _ => rfl
  have bD8 := FD8.binds (ps := ["_law_found", "_law_due"]) fun _ _ _ _ _ _ us hl => match us, hl with | [_, _], _ => rfl
  have bD9 := FD9.binds (ps := ["_law_pot_here", "_law_some"]) fun _ _ _ _ _ _ us hl => match us, hl with | [_, _], _ => rfl
  have bD10 := FD10.binds (ps := ["_law_pot_here", "_law_words"]) fun _ _ _ _ _ _ us hl => match us, hl with | [_, _], _ => rfl
  have bD11 := FD11.binds (ps := ["_law_words"]) fun _ _ _ _ _ _ us hl => match us, hl with | [_], _ => rfl
  have bD12 := FD12.binds (ps := ["_law_word", "_law_least"]) fun _ _ _ _ _ _ us hl => match us, hl with | [_, _], _ => rfl
  have bD13 := FD13.binds (ps := ["_law_words"]) fun _ _ _ _ _ _ us hl => match us, hl with | [_], _ => rfl
  have bD14 := FD14.binds (ps := ["_law_pot_here"]) fun _ _ _ _ _ _ us hl => match us, hl with | [_], _ => rfl
  have bD15 := FD15.binds (ps := ["_law_script"]) fun _ _ _ _ _ _ us hl => match us, hl with | [_], _ => rfl
  have bE0 := FIE0.binds (ps := ["self", "who"]) fun _ _ _ _ _ _ us hl => match us, hl with | [_, _], _ => rfl
  have bE1 := FIE1.binds (ps := ["self", "at"]) fun _ _ _ _ _ _ us hl => match us, hl with | [_, _], _ => rfl
  have bE2 := FIE2.binds (ps := ["self", "number"]) fun _ _ _ _ _ _ us hl => match us, hl with | [_, _], _ => rfl
  have kD4_houses := kb_gp (ks := ["houses"]) (ps := ["houses"]) [0] FD4 fun _ _ _ _ _ _ us hl => match us, hl with | [_], _ => rfl
  have kD7_text := kb_gp (ks := ["text"]) (ps := ["text"]) [0] FD7 fun _ _ _ _ _ _ us hl => match us, hl with | [_], _ => rfl
  have TS : ErS K mg errs := ⟨fun c hc => by
      simp only [errs, List.mem_cons, List.not_mem_nil, or_false] at hc; rcases hc with rfl | rfl | rfl
      · exact ⟨_, TE0.k⟩
      · exact ⟨_, TE1.k⟩
      · exact ⟨_, TE2.k⟩
    , fun c hc C e => by
      simp only [errs, List.mem_cons, List.not_mem_nil, or_false] at hc; rcases hc with rfl | rfl | rfl
      · cases TE0.k.g.symm.trans e; exact TE0.i
      · cases TE1.k.g.symm.trans e; exact TE1.i
      · cases TE2.k.g.symm.trans e; exact TE2.i
    , fun c hc d hd C D e1 e2 => by
      simp only [errs, List.mem_cons, List.not_mem_nil, or_false] at hc; rcases hc with rfl | rfl | rfl
      · cases TE0.k.g.symm.trans e1
        simp only [errs, List.mem_cons, List.not_mem_nil, or_false] at hd; rcases hd with rfl | rfl | rfl
        · cases TE0.k.g.symm.trans e2; exact vE0.trans (by decide)
        · cases TE1.k.g.symm.trans e2; exact q0.trans (by decide)
        · cases TE2.k.g.symm.trans e2; exact q1.trans (by decide)
      · cases TE1.k.g.symm.trans e1
        simp only [errs, List.mem_cons, List.not_mem_nil, or_false] at hd; rcases hd with rfl | rfl | rfl
        · cases TE0.k.g.symm.trans e2; exact q2.trans (by decide)
        · cases TE1.k.g.symm.trans e2; exact vE1.trans (by decide)
        · cases TE2.k.g.symm.trans e2; exact q3.trans (by decide)
      · cases TE2.k.g.symm.trans e1
        simp only [errs, List.mem_cons, List.not_mem_nil, or_false] at hd; rcases hd with rfl | rfl | rfl
        · cases TE0.k.g.symm.trans e2; exact q4.trans (by decide)
        · cases TE1.k.g.symm.trans e2; exact q5.trans (by decide)
        · cases TE2.k.g.symm.trans e2; exact vE2.trans (by decide)⟩
  have hup_ValueError : ∀ c ∈ errs, ∀ C, mg c = some (.ref C) → PySem.W.kitOne K (.ref C) (.type "ValueError") = some (up_ValueError c) := fun c hc C e => by
    simp only [errs, List.mem_cons, List.not_mem_nil, or_false] at hc; rcases hc with rfl | rfl | rfl
    · cases TE0.k.g.symm.trans e; exact (kit_up (by decide +kernel) r0).trans (by decide)
    · cases TE1.k.g.symm.trans e; exact (kit_up (by decide +kernel) r1).trans (by decide)
    · cases TE2.k.g.symm.trans e; exact (kit_up (by decide +kernel) r2).trans (by decide)
  have hnof_at : ∀ c ∈ errs, ∀ C, mg c = some (.ref C) → PySem.W.findIn K (.ref C) "at" = some none := fun c hc C e => by
    simp only [errs, List.mem_cons, List.not_mem_nil, or_false] at hc; rcases hc with rfl | rfl | rfl
    · cases TE0.k.g.symm.trans e; exact nf0
    · cases TE1.k.g.symm.trans e; exact nE1
    · cases TE2.k.g.symm.trans e; exact nf1
  have fin : ∀ base : Heap, (∀ p ∈ ([(cTD14, PTD14)] : List (Addr × Addr)), LamX.TabB base mg p.1 p.2) → FnOk l.prog w K mg base (L2.CX l.prog w) 19 fa _ ["_law_script"] (spLaw K mg) := fun base TB => by
    have HD0 : FnOk l.prog w K mg base (L2.CX l.prog w) 1 _ _ ["_law_script", "_law_k"] (spD K mg 2 Den.g_law_pot) := ok_law_pot FD0 m_len m_abs m_int
    have HD1 : FnOk l.prog w K mg base (L2.CX l.prog w) 7 _ _ ["_law_pot_here", "_law_bound"] (spD K mg 2 (Den.g_law_take 6)) := ok_law_take FD1 bD1 gD1 6
    have HD2 : FnOk l.prog w K mg base (L2.CX l.prog w) 8 _ _ ["_law_pot_here", "_law_most"] (spD K mg 2 Den.g_law_floors) := ok_law_floors FD2 FD1 bD1 gD1 (HD1.mono (by decide)) m_range
    have HD3 : FnOk l.prog w K mg base (L2.CX l.prog w) 9 _ _ ["_law_pot_here", "_law_most"] (spD K mg 2 Den.g_law_homes) := ok_law_homes FD3 FD2 bD2 gD2 (HD2.mono (by decide)) m_tuple
    have HD4 : FnOk l.prog w K mg base (L2.CX l.prog w) 1 _ _ ["houses"] (spD K mg 1 Den.g_houses_text) := ok_houses_text FD4 m_str
    have HD5 : FnOk l.prog w K mg base (L2.CX l.prog w) 7 _ _ ["_law_matter"] (spD K mg 1 (Den.g_law_lists 6)) := ok_law_lists FD5 bD5 gD5 m_isinstance m_list m_tuple 6
    have HD6 : FnOk l.prog w K mg base (L2.CX l.prog w) 1 _ _ ["word"] (spD K mg 1 Den.g_number_in) := ok_number_in FD6 mMOST_FIGURES rrMOST_FIGURES rpMOST_FIGURES mFIGURES rrFIGURES rpFIGURES m_len m_all m_int
    have HD7 : FnOk l.prog w K mg base (L2.CX l.prog w) 3 _ _ ["text"] (spD K mg 1 Den.g_houses_in) := ok_houses_in FD7 FD6 bD6 gD6 (HD6.mono (by decide)) TE1 (fun _ => (ok_i_BadText (k := 0) TE1).mono (by decide)) bE1 m_enumerate m_len m_max m_tuple
    have HD8 : FnOk l.prog w K mg base (L2.CX l.prog w) 17 _ _ ["_law_found", "_law_due"] (spD K mg 2 (Den.g_law_same 16)) := ok_law_same FD8 bD8 gD8 m_isinstance m_list m_tuple m_len m_zip m_all m_str m_int m_bool 16
    have HD9 : FnOk l.prog w K mg base (L2.CX l.prog w) 8 _ _ ["_law_pot_here", "_law_some"] (spD K mg 2 Den.g_law_pick) := ok_law_pick FD9 FD1 bD1 gD1 (HD1.mono (by decide)) m_len
    have HD10 : FnOk l.prog w K mg base (L2.CX l.prog w) 9 _ _ ["_law_pot_here", "_law_words"] (spD K mg 2 Den.g_law_signs_bent) := ok_law_signs_bent FD10 FD1 bD1 gD1 (HD1.mono (by decide)) FD9 bD9 gD9 (HD9.mono (by decide)) m_len
    have HD11 : FnOk l.prog w K mg base (L2.CX l.prog w) 4 _ _ ["_law_words"] (spD K mg 1 Den.g_law_read) := ok_law_read FD11 FD7 bD7 gD7 (HD7.mono (by decide)) TS TE0.k.g TE1.k.g TE2.k.g hup_ValueError hnof_at m_isinstance m_ValueError
    have HD12 : FnOk l.prog w K mg base (L2.CX l.prog w) 1 _ _ ["_law_word", "_law_least"] (spD K mg 2 Den.g_law_is_plain) := ok_law_is_plain FD12 m_len m_int m_str
    have HD13 : FnOk l.prog w K mg base (L2.CX l.prog w) 2 _ _ ["_law_words"] (spD K mg 1 Den.g_law_homes_in) := ok_law_homes_in FD13 FD12 bD12 gD12 (HD12.mono (by decide)) m_enumerate m_len m_int m_tuple
    have HD14 : FnOk l.prog w K mg base (L2.CX l.prog w) 18 _ _ ["_law_pot_here"] (spD K mg 1 Den.g_law_right) := ok_law_right FD14 FD3 bD3 gD3 (HD3.mono (by decide)) FD1 bD1 gD1 (HD1.mono (by decide)) FD4 bD4 gD4 (HD4.mono (by decide)) FD5 bD5 gD5 (HD5.mono (by decide)) FD7 bD7 gD7 (HD7.mono (by decide)) FD8 bD8 gD8 (HD8.mono (by decide)) FD10 bD10 gD10 (HD10.mono (by decide)) FD11 bD11 gD11 (HD11.mono (by decide)) FD13 bD13 gD13 (HD13.mono (by decide)) kD4_houses kD7_text m_str m_range m_all
    have HD15 : FnOk l.prog w K mg base (L2.CX l.prog w) 19 _ _ ["_law_script"] (spD K mg 1 Den.g_law) := ok_law FD15 FD0 bD0 gD0 (HD0.mono (by decide)) FD14 bD14 gD14 (HD14.mono (by decide)) m_len m_min m_max m_range m_all
    exact law_end (fun ns hl => v_law ns hl) HD15
  refine Den.at_head (cs := [(cTD14, PTD14)]) (fun p hp => by
      simp only [List.mem_cons, List.not_mem_nil, or_false] at hp
      rcases hp with rfl
      · exact owD14.1
      ) (fun p hp => by
      simp only [List.mem_cons, List.not_mem_nil, or_false] at hp
      rcases hp with rfl
      · exact nTD14
      ) (fun p hp => by
      simp only [List.mem_cons, List.not_mem_nil, or_false] at hp
      rcases hp with rfl
      · exact owD14.2
      ) (fun p hp => by
      rw [hTs] at hp
      simp only [List.mem_cons, List.not_mem_nil, or_false] at hp
      rcases hp with rfl
      · exact ⟨cTD14, by simp⟩
      ) (fun s v => .of_eq rfl) fin
end Den
open PySem PySem.W PyProof.Rows
set_option maxHeartbeats 0 in
theorem PySem.Challenge.cw_balconyrow_k72_houses_as_texts_holds : PySem.Challenge.rw_balconyrow_k72_houses_as_texts.Holds := by
  w_on; o_law; k_head; (case hw => w_witness2)
  k_fill
  refine Den.walk_tab (l := PySem.Challenge.rw_balconyrow_k72_houses_as_texts) (n := 63) (k := 19) (x := "_law_script") (CX := fun w => L2.CX (PySem.Challenge.rw_balconyrow_k72_houses_as_texts).prog w) rfl (by decide) rfl ⟨rfl, by decide, by decide⟩ (fun w h Y => PySem.W.kIn_of Y) ?F (fun _ _ _ _ _ h => Den.cx_no h)
  case F =>
    intro w mg fa h KX G hmg tabs
    refine' Den.all_mk KX G hmg (fun f e => tabs "_law_right" f (by decide +kernel) e) ?nf0 ?nf1 ?aFIGURES ?aMOST_FIGURES ?aD0 ?lD0 ?cD0 ?kD0 ?aD1 ?lD1 ?cD1 ?kD1 ?aD2 ?lD2 ?cD2 ?kD2 ?aD3 ?lD3 ?cD3 ?kD3 ?aD4 ?lD4 ?cD4 ?kD4 ?aD5 ?lD5 ?cD5 ?kD5 ?aD6 ?lD6 ?cD6 ?kD6 ?aD7 ?lD7 ?cD7 ?kD7 ?aD8 ?lD8 ?cD8 ?kD8 ?aD9 ?lD9 ?cD9 ?kD9 ?aD10 ?lD10 ?cD10 ?kD10 ?aD11 ?lD11 ?cD11 ?kD11 ?aD12 ?lD12 ?cD12 ?kD12 ?aD13 ?lD13 ?cD13 ?kD13 ?aD14 ?lD14 ?cD14 ?kD14 ?aD15 ?lD15 ?cD15 ?kD15 ?aE0 ?xE0 ?sE0 ?gE0 ?hE0 ?nE0 ?jE0 ?tE0 ?lE0 ?cE0 ?kE0 ?yE0 ?eE0 ?uE0 ?dE0 ?vE0 ?wE0 ?zE0 ?aE1 ?xE1 ?sE1 ?gE1 ?hE1 ?nE1 ?jE1 ?tE1 ?lE1 ?cE1 ?kE1 ?yE1 ?eE1 ?uE1 ?dE1 ?vE1 ?wE1 ?zE1 ?aE2 ?xE2 ?sE2 ?gE2 ?hE2 ?nE2 ?jE2 ?tE2 ?lE2 ?cE2 ?kE2 ?yE2 ?eE2 ?uE2 ?dE2 ?vE2 ?wE2 ?zE2 ?gsG ?gsT ?q0 ?q1 ?q2 ?q3 ?q4 ?q5 ?r0 ?r1 ?r2 ?oTD14 ?kTD14 ?pTD14 ?nTD14 ?bT__law_all_right ?b_len ?b_abs ?b_int ?b_range ?b_tuple ?b_str ?b_isinstance ?b_list ?b_all ?b_enumerate ?b_max ?b_zip ?b_bool ?b_ValueError ?b_min
    (case aD0 => k_is); (case lD0 => k_is); (case cD0 => k_is); (case kD0 => k_is); (case aD1 => k_is); (case lD1 => k_is); (case cD1 => k_is); (case kD1 => k_is)
    (case aD2 => k_is); (case lD2 => k_is); (case cD2 => k_is); (case kD2 => k_is); (case aD3 => k_is); (case lD3 => k_is); (case cD3 => k_is); (case kD3 => k_is)
    (case aD4 => k_is); (case lD4 => k_is); (case cD4 => k_is); (case kD4 => k_is); (case aD5 => k_is); (case lD5 => k_is); (case cD5 => k_is); (case kD5 => k_is)
    (case aD6 => k_is); (case lD6 => k_is); (case cD6 => k_is); (case kD6 => k_is); (case aD7 => k_is); (case lD7 => k_is); (case cD7 => k_is); (case kD7 => k_is)
    (case aD8 => k_is); (case lD8 => k_is); (case cD8 => k_is); (case kD8 => k_is); (case aD9 => k_is); (case lD9 => k_is); (case cD9 => k_is); (case kD9 => k_is)
    (case aD10 => k_is); (case lD10 => k_is); (case cD10 => k_is); (case kD10 => k_is); (case aD11 => k_is); (case lD11 => k_is); (case cD11 => k_is); (case kD11 => k_is)
    (case aD12 => k_is); (case lD12 => k_is); (case cD12 => k_is); (case kD12 => k_is); (case aD13 => k_is); (case lD13 => k_is); (case cD13 => k_is); (case kD13 => k_is)
    (case aD14 => k_is); (case lD14 => k_is); (case cD14 => k_is); (case kD14 => k_is); (case aD15 => k_is); (case lD15 => k_is); (case cD15 => k_is); (case kD15 => k_is)
    (case aE0 => k_is); (case xE0 => k_is); (case sE0 => k_is); (case gE0 => k_is); (case hE0 => k_is); (case nE0 => k_is); (case jE0 => k_is); (case tE0 => k_is)
    (case lE0 => k_is); (case cE0 => k_is); (case kE0 => k_is); (case yE0 => k_is); (case eE0 => k_is); (case uE0 => k_is); (case dE0 => k_is); (case vE0 => k_is)
    (case wE0 => k_is); (case zE0 => k_is); (case aE1 => k_is); (case xE1 => k_is); (case sE1 => k_is); (case gE1 => k_is); (case hE1 => k_is); (case nE1 => k_is)
    (case jE1 => k_is); (case tE1 => k_is); (case lE1 => k_is); (case cE1 => k_is); (case kE1 => k_is); (case yE1 => k_is); (case eE1 => k_is); (case uE1 => k_is)
    (case dE1 => k_is); (case vE1 => k_is); (case wE1 => k_is); (case zE1 => k_is); (case aE2 => k_is); (case xE2 => k_is); (case sE2 => k_is); (case gE2 => k_is)
    (case hE2 => k_is); (case nE2 => k_is); (case jE2 => k_is); (case tE2 => k_is); (case lE2 => k_is); (case cE2 => k_is); (case kE2 => k_is); (case yE2 => k_is)
    (case eE2 => k_is); (case uE2 => k_is); (case dE2 => k_is); (case vE2 => k_is); (case wE2 => k_is); (case zE2 => k_is); (case gsG => k_is); (case gsT => k_is)
    (case q0 => k_is); (case q1 => k_is); (case q2 => k_is); (case q3 => k_is); (case q4 => k_is); (case q5 => k_is); (case r0 => k_is); (case r1 => k_is)
    (case r2 => k_is); (case oTD14 => rfl); (case kTD14 => k_is); (case pTD14 => rfl); (case nTD14 => kernel_rfl); (case bT__law_all_right => k_is); (case b_len => k_is); (case b_abs => k_is)
    (case b_int => k_is); (case b_range => k_is); (case b_tuple => k_is); (case b_str => k_is); (case b_isinstance => k_is); (case b_list => k_is); (case b_all => k_is); (case b_enumerate => k_is)
    (case b_max => k_is); (case b_zip => k_is); (case b_bool => k_is); (case b_ValueError => k_is); (case b_min => k_is)
    (case nf0 => k_is); (case nf1 => k_is); (case aFIGURES => k_is); (case aMOST_FIGURES => k_is)
