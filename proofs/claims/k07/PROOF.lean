import PyProof.Rows.All
import Wide.All
import OpenK.AllK
import Wide.FinOn
import PyProof.EqAt
import PyProof.EqKinds
import PyProof.TupleCall
import HandS.ForMost
import HandS.ForExc
import HandS.ExcInit
import HandS.TryMany
import HandS.Flow
import HandS.Star
import HandS.Conv
import HandS.IsInst
import HandS.ExcField
import HandS.ExcIs
import KE.KExcIs
import KE.KTryMore
import KE.GoesEnum
import KE.GoesMore
import HandS.Iter
import HandS.WideBits
import PySem.Challenge.RW_spoolbox_k07_errors_are_apart
set_option Elab.async false
set_option linter.all false
set_option maxRecDepth 100000
set_option maxHeartbeats 4000000
/-! DL1: values as data. A def's body as a plain Lean function of data, over the hand layer. -/
namespace DL
open PySem PySem.Spec PyProof.Rows L2

abbrev D := PyData
abbrev St := L2.St

/-! ### heaps with a part hidden -/
open Classical in
noncomputable def hide (H : Hp) (Z : Addr → Prop) : Hp := fun b => if Z b then none else H b
theorem hide_of {H : Hp} {Z : Addr → Prop} {b : Addr} {o : HO} (h : hide H Z b = some o) : ¬ Z b ∧ H b = some o := by
  unfold hide at h
  split at h
  · cases h
  · rename_i n
    exact ⟨n, h⟩
theorem hide_at {H : Hp} {Z : Addr → Prop} {b : Addr} {o : HO} (n : ¬ Z b) (h : H b = some o) : hide H Z b = some o := by
  unfold hide
  rw [if_neg n]
  exact h
theorem hide_mono {H H' : Hp} {Z Z' : Addr → Prop} (s : Same H H') (z : ∀ b, Z' b → Z b ∨ H b = none) : Same (hide H Z) (hide H' Z') := fun b o h => by
  obtain ⟨n, e⟩ := hide_of h
  refine hide_at (fun q => ?_) (s b o e)
  rcases z b q with z1 | z1
  · exact n z1
  · rw [e] at z1; cases z1
theorem hide_sub {H : Hp} {Z : Addr → Prop} : Same (hide H Z) H := fun b o h => (hide_of h).2

theorem Rd.same {H H' : Hp} {a : Addr} {u : HO} (s : Same H H') (h : Rd H a u) : Rd H' a u := by
  rcases h with h | ⟨o, h⟩
  · exact .inl (s _ _ h)
  · exact .inr ⟨o, s _ _ h⟩
theorem SqT.same {K : PySem.W.Frag} {H H' : Hp} {a : Addr} {xs : List V} (s : Same H H') (h : SqT K H a xs) : SqT K H' a xs := by
  rcases h with (h | ⟨o, h⟩) | h
  · exact .inl (.inl (s _ _ h))
  · exact .inl (.inr ⟨o, s _ _ h⟩)
  · exact .inr h
/-! the value v stands for the data d: lists are tracked (or known), tuples may stand in the written part too; the script (a list of ints that is read alone) is told by scr -/
abbrev scr (ns : List Int) : D := .dict (ns.map fun n => (.int n, .none))
/-- an error that is held as a value: the place of its class, its at -/
abbrev excD (C : Addr) (i : Int) : D := .dict [(.str "at", .int i), (.int (C : Nat), .none)]
def excL : List (D × D) → Bool
  | (.str _, _) :: _ => true
  | _ => false
@[simp] def excV : D → Bool
  | .dict ks => excL ks
  | _ => false
@[simp] theorem excL_scr (ns : List Int) : excL (ns.map fun n => ((.int n, .none) : D × D)) = false := by cases ns <;> rfl
mutual
inductive Dp (K : PySem.W.Frag) (H : Hp) : V → D → Prop
  | non : Dp K H .non .none
  | bl (b : Bool) : Dp K H (.bl b) (.bool b)
  | int (i : Int) : Dp K H (.int i) (.int i)
  | str (x : Str) : Dp K H (.str x) (.str x)
  | lst {a : Addr} {xs : List V} {ds : List D} : Rd H a (.lst xs) → DpAll K H xs ds → Dp K H (.ref a) (.list ds)
  | tup {a : Addr} {xs : List V} {ds : List D} : SqT K H a xs → DpAll K H xs ds → Dp K H (.ref a) (.tuple ds)
  | scr {a : Addr} {ns : List Int} : SqL K H a (ns.map V.int) → Dp K H (.ref a) (.dict (ns.map fun n => (.int n, .none)))
  | exc {a dd C : Addr} {i : Int} : H a = some (exo a C (some dd)) → H dd = some (exd dd [("at", .int i)]) → Dp K H (.ref a) (.dict [(.str "at", .int i), (.int (C : Nat), .none)])
inductive DpAll (K : PySem.W.Frag) (H : Hp) : List V → List D → Prop
  | nil : DpAll K H [] []
  | cons {v : V} {vs : List V} {d : D} {ds : List D} : Dp K H v d → DpAll K H vs ds → DpAll K H (v :: vs) (d :: ds)
end
mutual
theorem Dp.up {K : PySem.W.Frag} {H : Hp} : ∀ {v : V} {d : D}, d.canLay0 = true → Dp K H v d → L2.Dp K H v d
  | _, _, _, .non => .non
  | _, _, _, .bl b => .bl b
  | _, _, _, .int i => .int i
  | _, _, _, .str x => .str x
  | _, _, c, .lst h t => .lst (.inl h) (DpAll.up c t)
  | _, _, c, .tup h t => .tup h (DpAll.up c t)
  | _, _, c, .scr h => nomatch c
  | _, _, c, .exc _ _ => nomatch c
theorem DpAll.up {K : PySem.W.Frag} {H : Hp} : ∀ {vs : List V} {ds : List D}, PyData.canLayAll0 ds = true → DpAll K H vs ds → L2.DpAll K H vs ds
  | _, _, _, .nil => .nil
  | _, _, c, .cons h t => by
    have c' := Bool.and_eq_true_iff.mp c
    exact .cons (Dp.up c'.1 h) (DpAll.up c'.2 t)
end
mutual
theorem Dp.same {K : PySem.W.Frag} {H H' : Hp} (s : Same H H') : ∀ {v : V} {d : D}, Dp K H v d → Dp K H' v d
  | _, _, .non => .non
  | _, _, .bl b => .bl b
  | _, _, .int i => .int i
  | _, _, .str x => .str x
  | _, _, .lst h t => .lst (Rd.same s h) (DpAll.same s t)
  | _, _, .tup h t => .tup (SqT.same s h) (DpAll.same s t)
  | _, _, .scr h => .scr (s.seq h)
  | _, _, .exc h1 h2 => .exc (s _ _ h1) (s _ _ h2)
theorem DpAll.same {K : PySem.W.Frag} {H H' : Hp} (s : Same H H') : ∀ {vs : List V} {ds : List D}, DpAll K H vs ds → DpAll K H' vs ds
  | _, _, .nil => .nil
  | _, _, .cons h t => .cons (Dp.same s h) (DpAll.same s t)
end
section
variable {K : PySem.W.Frag} {H : Hp}
theorem DpAll.length : ∀ {vs : List V} {ds : List D}, DpAll K H vs ds → vs.length = ds.length
  | _, _, .nil => rfl
  | _, _, .cons _ t => by rw [List.length_cons, List.length_cons, DpAll.length t]
theorem DpAll.get : ∀ {vs : List V} {ds : List D} {i : Nat} {d : D}, DpAll K H vs ds → ds[i]? = some d → ∃ v, vs[i]? = some v ∧ Dp K H v d
  | _, _, _, _, .nil, e => by simp at e
  | _, _, 0, _, .cons h _, e => by simp at e; subst e; exact ⟨_, rfl, h⟩
  | _, _, i + 1, d, .cons _ t, e => by
    obtain ⟨u, h1, h2⟩ := DpAll.get (i := i) (d := d) t (by simpa using e)
    exact ⟨u, by simpa using h1, h2⟩
theorem DpAll.get' : ∀ {vs : List V} {ds : List D} {i : Nat} {v : V}, DpAll K H vs ds → vs[i]? = some v → ∃ d, ds[i]? = some d ∧ Dp K H v d
  | _, _, _, _, .nil, e => by simp at e
  | _, _, 0, _, .cons h _, e => by simp at e; subst e; exact ⟨_, rfl, h⟩
  | _, _, i + 1, v, .cons _ t, e => by
    obtain ⟨u, h1, h2⟩ := DpAll.get' (i := i) (v := v) t (by simpa using e)
    exact ⟨u, by simpa using h1, h2⟩
theorem DpAll.append : ∀ {xs ys : List V} {ds es : List D}, DpAll K H xs ds → DpAll K H ys es → DpAll K H (xs ++ ys) (ds ++ es)
  | _, _, _, _, .nil, s => s
  | _, _, _, _, .cons r t, s => .cons r (DpAll.append t s)
theorem DpAll.take : ∀ {xs : List V} {ds : List D} (n : Nat), DpAll K H xs ds → DpAll K H (xs.take n) (ds.take n)
  | _, _, 0, _ => .nil
  | _, _, _ + 1, .nil => .nil
  | _, _, n + 1, .cons r t => .cons r (DpAll.take n t)
theorem DpAll.drop : ∀ {xs : List V} {ds : List D} (n : Nat), DpAll K H xs ds → DpAll K H (xs.drop n) (ds.drop n)
  | _, _, 0, r => r
  | _, _, _ + 1, .nil => .nil
  | _, _, n + 1, .cons _ t => DpAll.drop n t
theorem DpAll.set {x : V} {d : D} (r : Dp K H x d) : ∀ {xs : List V} {ds : List D} (i : Nat), DpAll K H xs ds → DpAll K H (xs.set i x) (ds.set i d)
  | _, _, _, .nil => .nil
  | _, _, 0, .cons _ t => .cons r t
  | _, _, i + 1, .cons q t => .cons q (DpAll.set r i t)
theorem DpAll.dropLast {xs : List V} {ds : List D} (h : DpAll K H xs ds) : DpAll K H xs.dropLast ds.dropLast := by
  rw [List.dropLast_eq_take, List.dropLast_eq_take, DpAll.length h]
  exact DpAll.take _ h
theorem Dp.int_inv {v : V} {i : Int} (h : Dp K H v (.int i)) : v = .int i := by cases h; rfl
theorem Dp.str_inv {v : V} {x : Str} (h : Dp K H v (.str x)) : v = .str x := by cases h; rfl
theorem Dp.bl_inv {v : V} {b : Bool} (h : Dp K H v (.bool b)) : v = .bl b := by cases h; rfl
theorem Dp.non_inv {v : V} (h : Dp K H v .none) : v = .non := by cases h; rfl
theorem Dp.lst_inv {v : V} {ds : List D} (h : Dp K H v (.list ds)) : ∃ a xs, v = .ref a ∧ Rd H a (.lst xs) ∧ DpAll K H xs ds := by
  cases h with
  | lst h t => exact ⟨_, _, rfl, h, t⟩
theorem Dp.tup_inv {v : V} {ds : List D} (h : Dp K H v (.tuple ds)) : ∃ a xs, v = .ref a ∧ SqT K H a xs ∧ DpAll K H xs ds := by
  cases h with
  | tup h t => exact ⟨_, _, rfl, h, t⟩
theorem DpAll.ints : ∀ {vs : List V} {ns : List Int}, DpAll K H vs (ns.map PyData.int) → vs = ns.map V.int
  | _, [], h => by cases h; rfl
  | _, n :: ns, h => by
    cases h with
    | cons a b =>
      rw [Dp.int_inv a, DpAll.ints b]
      rfl
theorem DpAll.of_ints : ∀ (ns : List Int), DpAll K H (ns.map V.int) (ns.map PyData.int)
  | [] => .nil
  | n :: ns => .cons (.int n) (DpAll.of_ints ns)
theorem DpAll.strs : ∀ {vs : List V} {ns : List Str}, DpAll K H vs (ns.map PyData.str) → vs = ns.map V.str
  | _, [], h => by cases h; rfl
  | _, n :: ns, h => by
    cases h with
    | cons a b =>
      rw [Dp.str_inv a, DpAll.strs b]
      rfl
end
/-- scalars: nothing of the heap is in them -/
@[simp] def scalarD : D → Bool
  | .none => true | .bool _ => true | .int _ => true | .str _ => true
  | _ => false
theorem Dp.scalar {K : PySem.W.Frag} {H H' : Hp} {v : V} {d : D} (s : scalarD d = true) (h : Dp K H v d) : Dp K H' v d := by
  cases h with
  | non => exact .non
  | bl b => exact .bl b
  | int i => exact .int i
  | str x => exact .str x
  | lst _ _ => cases s
  | tup _ _ => cases s
  | scr _ => cases s
  | exc _ _ => cases s
theorem DpAll.scalar {K : PySem.W.Frag} {H H' : Hp} : ∀ {vs : List V} {ds : List D}, ds.all scalarD = true → DpAll K H vs ds → DpAll K H' vs ds
  | _, _, _, .nil => .nil
  | _, _, s, .cons h t => by
    rw [List.all_cons, Bool.and_eq_true] at s
    exact .cons (Dp.scalar s.1 h) (DpAll.scalar s.2 t)

/-! ### slots -/
inductive Slot where
  | un | dat (d : D) | own (ds : List D) | err (a dd : Addr) (i : Int)
abbrev Rho := List Slot
/-- the list at a is slot i's own -/
def OwnAt (σ : St) (ρ : Rho) (i : Nat) (a : Addr) : Prop := σ[i]? = some (some (.ref a)) ∧ ∃ ds, ρ[i]? = some (.own ds)
def Owned (σ : St) (ρ : Rho) (a : Addr) : Prop := ∃ i, OwnAt σ ρ i a
def Zo (Z : Addr → Prop) (σ : St) (ρ : Rho) : Addr → Prop := fun b => Z b ∨ Owned σ ρ b
def SlotOk (K : PySem.W.Frag) (H Hs : Hp) (o : Option (Option V)) : Slot → Prop
  | .un => True
  | .dat d => ∃ v, o = some (some v) ∧ Dp K Hs v d
  | .own ds => ∃ a xs, o = some (some (.ref a)) ∧ H a = some (.lst xs) ∧ DpAll K Hs xs ds
  | .err a dd i => o = some (some (.ref a)) ∧ H dd = some (.xd [(("at" : Str), .int i)])
structure DI (K : PySem.W.Frag) (Z : Addr → Prop) (H : Hp) (σ : St) (ρ : Rho) : Prop where
  len : ρ.length = σ.length
  one : ∀ i j a, OwnAt σ ρ i a → OwnAt σ ρ j a → i = j
  out : ∀ a, Owned σ ρ a → ¬ Z a
  live : ∀ a, Z a → H a ≠ none
  slots : ∀ (i : Nat) s, ρ[i]? = some s → SlotOk K H (hide H (Zo Z σ ρ)) (σ[i]?) s
section
variable {K : PySem.W.Frag} {Z : Addr → Prop} {H H' : Hp} {σ : St} {ρ : Rho}
theorem DI.liveO (I : DI K Z H σ ρ) {a : Addr} (h : Owned σ ρ a) : H a ≠ none := by
  obtain ⟨i, h1, ds, h2⟩ := h
  obtain ⟨b, xs, e, hb, _⟩ := I.slots i _ h2
  rw [h1] at e
  cases e
  rw [hb]
  intro z; cases z
theorem DI.liveZ (I : DI K Z H σ ρ) {a : Addr} (h : Zo Z σ ρ a) : H a ≠ none := by
  rcases h with h | h
  · exact I.live a h
  · exact I.liveO h
theorem DI.same (I : DI K Z H σ ρ) (s : Same H H') : DI K Z H' σ ρ := by
  refine ⟨I.len, I.one, I.out, fun a h => ?_, fun i sl e => ?_⟩
  · have q := I.live a h
    cases e : H a with
    | none => exact absurd e q
    | some o => rw [s a o e]; intro z; cases z
  · have q := I.slots i sl e
    have m : Same (hide H (Zo Z σ ρ)) (hide H' (Zo Z σ ρ)) := hide_mono s fun b h => .inl h
    cases sl with
    | un => trivial
    | dat d =>
      obtain ⟨v, e1, h⟩ := q
      exact ⟨v, e1, Dp.same m h⟩
    | own ds =>
      obtain ⟨a, xs, e1, e2, h⟩ := q
      exact ⟨a, xs, e1, s _ _ e2, DpAll.same m h⟩
    | err a dd j => exact ⟨q.1, s _ _ q.2⟩
/-- a live address is not a new one -/
theorem ne_live {a p : Addr} (h : H a ≠ none) (n : H p = none) : a ≠ p := fun e => h (e ▸ n)
end

/-! ### what an expression gives -/
/-- s: stable; m: for the moment (a slot's own list may be in it); b: a slot's own list, for the moment; f: a new list that nothing else holds -/
inductive Val where
  | s (d : D) | m (d : D) | b (ds : List D) | f (ds : List D)
@[simp] def Val.d : Val → D
  | .s d => d
  | .m d => d
  | .b ds => .list ds
  | .f ds => .list ds
abbrev Er := Nat × Int
abbrev FE := Rho → Option (Except Er Val)
def ZP (Z : Addr → Prop) (p : Addr) : Addr → Prop := fun b => Z b ∨ b = p
def VOk (K : PySem.W.Frag) (Z : Addr → Prop) (σ : St) (ρ : Rho) (H H1 : Hp) (x : V) : Val → Prop
  | .s d => Dp K (hide H1 (Zo Z σ ρ)) x d
  | .m d => Dp K (hide H1 Z) x d
  | .b ds => ∃ p xs, x = .ref p ∧ Owned σ ρ p ∧ H1 p = some (.lst xs) ∧ DpAll K (hide H1 (Zo Z σ ρ)) xs ds
  | .f ds => ∃ p xs, x = .ref p ∧ H p = none ∧ H1 p = some (.lst xs) ∧ DpAll K (hide H1 (ZP (Zo Z σ ρ) p)) xs ds
def ErOk (Cl : Nat → Addr) (W : WX) (σ : St) (H : Hp) (e : Er) : Prop :=
  ∀ dd H', Same H H' → H' dd = some (.xd [(("at" : Str), .int e.2)]) → W (.ref (Cl e.1)) (some dd) σ H'
def ROk (K : PySem.W.Frag) (Cl : Nat → Addr) (W : WX) (Z : Addr → Prop) (σ : St) (ρ : Rho) (H : Hp) (Q : VK) : Except Er Val → Prop
  | .ok v => ∀ x H', Same H H' → VOk K Z σ ρ H H' x v → Q x H'
  | .error e => ErOk Cl W σ H e
def teOf (K : PySem.W.Frag) (Cl : Nat → Addr) (W : WX) (f : FE) : TE := fun σ H Q => ∃ Z ρ r, DI K Z H σ ρ ∧ f ρ = some r ∧ ROk K Cl W Z σ ρ H Q r
def DE (X : Cx) (Cl : Nat → Addr) (W : WX) (e : Expr) (f : FE) : Prop := PE X e (teOf X.K Cl W f)
/-- a reading may be made stronger -/
theorem PE.imp {X : Cx} {e : Expr} {t t' : TE} (h : PE X e t) (i : ∀ σ H Q, t' σ H Q → t σ H Q) : PE X e t' := ⟨fun pins s σ H Q I q => h.run pins s σ H Q I (i σ H Q q)⟩
theorem PT.imp {X : Cx} {e : Expr} {t t' : TT} (h : PT X e t) (i : ∀ σ H Q, t' σ H Q → t σ H Q) : PT X e t' := ⟨fun pins s σ H Q I q => h.run pins s σ H Q I (i σ H Q q)⟩
theorem PW.imp {X : Cx} {e : Expr} {t t' : TT} (h : PW X e t) (i : ∀ σ H Q, t' σ H Q → t σ H Q) : PW X e t' := ⟨fun wh pins s σ H Q I q => h.run wh pins s σ H Q I (i σ H Q q)⟩
theorem PA.imp {X : Cx} {e : List Expr} {t t' : TA} (h : PA X e t) (i : ∀ σ H Q, t' σ H Q → t σ H Q) : PA X e t' := ⟨fun pos pins s σ H Q I q => h.run pos pins s σ H Q I (i σ H Q q)⟩
theorem PS.imp {X : Cx} {e : Stmt} {t t' : TS} (h : PS X e t) (i : ∀ D σ H, t' D σ H → t D σ H) : PS X e t' := ⟨fun pins s σ H D I q => h.run pins s σ H D I (i D σ H q)⟩
theorem PSs.imp {X : Cx} {e : List Stmt} {t t' : TS} (h : PSs X e t) (i : ∀ D σ H, t' D σ H → t D σ H) : PSs X e t' := ⟨fun pins s σ H D I q => h.run pins s σ H D I (i D σ H q)⟩

section
variable {K : PySem.W.Frag} {Cl : Nat → Addr} {W : WX} {Z : Addr → Prop} {H H' H1 H2 : Hp} {σ : St} {ρ : Rho} {Q : VK}
theorem VOk.same {x : V} {v : Val} (s : Same H1 H2) (h : VOk K Z σ ρ H H1 x v) : VOk K Z σ ρ H H2 x v := by
  cases v with
  | s d => exact Dp.same (hide_mono s fun _ h => .inl h) h
  | m d => exact Dp.same (hide_mono s fun _ h => .inl h) h
  | b ds =>
    obtain ⟨p, xs, e, n, h1, h2⟩ := h
    exact ⟨p, xs, e, n, s _ _ h1, DpAll.same (hide_mono s fun _ h => .inl h) h2⟩
  | f ds =>
    obtain ⟨p, xs, e, n, h1, h2⟩ := h
    exact ⟨p, xs, e, n, s _ _ h1, DpAll.same (hide_mono s fun _ h => .inl h) h2⟩
theorem VOk.back {x : V} {v : Val} (s : Same H H1) (h : VOk K Z σ ρ H1 H2 x v) : VOk K Z σ ρ H H2 x v := by
  cases v with
  | s d => exact h
  | m d => exact h
  | b ds => exact h
  | f ds =>
    obtain ⟨p, xs, e, n, h1, h2⟩ := h
    exact ⟨p, xs, e, s.free n, h1, h2⟩
/-- as it is to be read now -/
theorem VOk.dp {x : V} {v : Val} (I : DI K Z H σ ρ) (h : VOk K Z σ ρ H H1 x v) : Dp K (hide H1 Z) x v.d := by
  cases v with
  | s d => exact Dp.same (hide_mono (Same.refl _) fun _ h => .inl (.inl h)) h
  | m d => exact h
  | b ds =>
    obtain ⟨p, xs, rfl, n, h1, h2⟩ := h
    exact .lst (Rd.of (hide_at (I.out p n) h1)) (DpAll.same (hide_mono (Same.refl _) fun _ h => .inl (.inl h)) h2)
  | f ds =>
    obtain ⟨p, xs, rfl, n, h1, h2⟩ := h
    have np : ¬ Z p := fun z => I.live p z n
    exact .lst (Rd.of (hide_at np h1)) (DpAll.same (hide_mono (Same.refl _) fun _ h => .inl (.inl (.inl h))) h2)
/-- as it is to be kept: not for the moment only -/
@[simp] def Val.st : Val → Option D
  | .s d => some d
  | .m d => if scalarD d = true then some d else none
  | .b _ => none
  | .f ds => some (.list ds)
theorem VOk.stab {x : V} {v : Val} {d : D} (I : DI K Z H σ ρ) (e : v.st = some d) (h : VOk K Z σ ρ H H1 x v) : Dp K (hide H1 (Zo Z σ ρ)) x d := by
  cases v with
  | s d' => cases e; exact h
  | m d' =>
    simp only [Val.st] at e
    split at e
    · rename_i sc
      cases e
      exact Dp.scalar sc h
    · cases e
  | b ds => cases e
  | f ds =>
    cases e
    obtain ⟨p, xs, rfl, n, h1, h2⟩ := h
    have np : ¬ Zo Z σ ρ p := fun z => I.liveZ z n
    exact .lst (Rd.of (hide_at np h1)) (DpAll.same (hide_mono (Same.refl _) fun _ h => .inl (.inl h)) h2)
theorem ErOk.same {e : Er} (s : Same H H1) (h : ErOk Cl W σ H e) : ErOk Cl W σ H1 e := fun dd H' s' => h dd H' (s.trans s')
theorem ROk.from {r : Except Er Val} (s : Same H H1) (h : ROk K Cl W Z σ ρ H Q r) : ROk K Cl W Z σ ρ H1 Q r := by
  cases r with
  | error e => exact ErOk.same s h
  | ok v => exact fun x H' s' hv => h x H' (s.trans s') (hv.back s)
end

/-! ### functions of data, one after another -/
@[simp] def bE (f : FE) (k : Val → FE) (ρ : Rho) : Option (Except Er Val) := match f ρ with
  | none => none
  | some (.error e) => some (.error e)
  | some (.ok v) => k v ρ
@[simp] def ok (d : D) : Option (Except Er Val) := some (.ok (.s d))
theorem te_bind {K : PySem.W.Frag} {Cl : Nat → Addr} {W : WX} {Z : Addr → Prop} {H : Hp} {σ : St} {ρ : Rho} {Q Q1 : VK} {f : FE} {k : Val → FE} {r : Except Er Val} (I : DI K Z H σ ρ) (h : bE f k ρ = some r) (q : ROk K Cl W Z σ ρ H Q r)
    (go : ∀ v x H1, f ρ = some (.ok v) → k v ρ = some r → Same H H1 → VOk K Z σ ρ H H1 x v → DI K Z H1 σ ρ → ROk K Cl W Z σ ρ H1 Q r → Q1 x H1) : teOf K Cl W f σ H Q1 := by
  unfold bE at h
  cases e : f ρ with
  | none => rw [e] at h; cases h
  | some r1 =>
    rw [e] at h
    cases r1 with
    | error er =>
      cases h
      exact ⟨Z, ρ, .error er, I, e, q⟩
    | ok v => exact ⟨Z, ρ, .ok v, I, e, fun x H1 s hv => go v x H1 e h s hv (I.same s) (q.from s)⟩
/-- the end: a value that leans on nothing -/
theorem ROk.scalar {K : PySem.W.Frag} {Cl : Nat → Addr} {W : WX} {Z : Addr → Prop} {H : Hp} {σ : St} {ρ : Rho} {Q : VK} {d : D} {v : V} (q : ROk K Cl W Z σ ρ H Q (.ok (.s d))) (h : ∀ H', Dp K H' v d) : Q v H := q v H (Same.refl _) (h _)
end DL
set_option Elab.async false
set_option linter.all false
set_option maxRecDepth 100000
set_option maxHeartbeats 4000000
/-! DL2: expressions by data. -/
namespace DL
open PySem PySem.Spec PyProof.Rows L2

section
variable {X : Cx} {Cl : Nat → Addr} {W : WX} {a b c e : Expr} {es : List Expr} {fa fb fc f : FE} {pos : Pos}

/-! ### constants and names -/
@[simp] def eC (d : D) (ρ : Rho) : Option (Except Er Val) := ok d
theorem de_const {v : V} {d : D} (h : PE X e (tC v)) (hv : ∀ H, Dp X.K H v d) : DE X Cl W e (eC d) :=
  PE.imp h fun σ H Q ⟨Z, ρ, r, I, e, q⟩ => by cases e; exact q.scalar hv
theorem de_int {i : Int} {j pos} : DE X Cl W (.Constant (.int i) j pos) (eC (.int i)) := de_const pe_int fun _ => .int i
theorem de_bl {i : Bool} {j pos} : DE X Cl W (.Constant (.bool i) j pos) (eC (.bool i)) := de_const pe_bl fun _ => .bl i
theorem de_non {j pos} : DE X Cl W (.Constant .none j pos) (eC .none) := de_const pe_non fun _ => .non
theorem de_str {i : Str} {j pos} : DE X Cl W (.Constant (.str i) j pos) (eC (.str i)) := de_const pe_str fun _ => .str i
theorem de_globI {x : Str} {i : Int} {t : Tok} (hm : X.mg x = some (.int i t)) (hg : Gl X x := by rfl) (hd : (x == ("__debug__" : Str)) = false := by decide) : DE X Cl W (.Name x pos) (eC (.int i)) := de_const (pe_glob (v := .int i) hg hm ⟨t, rfl⟩ hd) fun _ => .int i
theorem de_globT {x : Str} {p : Addr} {d : D} (hm : X.mg x = some (.ref p)) (ht : ∀ H, Dp X.K H (.ref p) d) (hg : Gl X x := by rfl) (hd : (x == ("__debug__" : Str)) = false := by decide) : DE X Cl W (.Name x pos) (eC d) := de_const (pe_glob (v := .ref p) hg hm rfl hd) ht
@[simp] def eV (i : Nat) (ρ : Rho) : Option (Except Er Val) := match ρ[i]? with
  | some (.dat d) => ok d
  | some (.own ds) => some (.ok (.b ds))
  | _ => none
theorem de_var {i : Nat} {x : Str} (h : PE X (.Name x pos) (tVar i)) : DE X Cl W (.Name x pos) (eV i) := PE.imp h fun σ H Q ⟨Z, ρ, r, I, e, q⟩ => by
  unfold eV at e
  split at e
  · rename_i d hd
    cases e
    obtain ⟨v, hv, hp⟩ := I.slots i _ hd
    exact ⟨v, hv, q v H (Same.refl _) hp⟩
  · rename_i ds hd
    cases e
    obtain ⟨p, xs, hv, hp, hds⟩ := I.slots i _ hd
    exact ⟨_, hv, q _ H (Same.refl _) ⟨p, xs, rfl, ⟨i, hv, ds, hd⟩, hp, hds⟩⟩
  · cases e

/-! ### operators -/
/-- what an operation on values does, by data -/
def R2D (K : PySem.W.Frag) (r : R2) (g : Val → Val → Option Val) : Prop := ∀ (Z : Addr → Prop) (σ : St) (ρ : Rho) (H0 H : Hp) (x y : V) (a b v : Val) (Q : VK), DI K Z H0 σ ρ → Same H0 H → VOk K Z σ ρ H0 H x a → VOk K Z σ ρ H0 H y b → g a b = some v →
  (∀ z H', Same H H' → VOk K Z σ ρ H0 H' z v → Q z H') → r x y H Q
def e2 (g : Val → Val → Option Val) (fa fb : FE) : FE := bE fa fun a => bE fb fun b _ => (g a b).map .ok
theorem de_tOp {r : R2} {g : Val → Val → Option Val} (h : PE X e (tOp r (teOf X.K Cl W fa) (teOf X.K Cl W fb))) (hr : R2D X.K r g) : DE X Cl W e (e2 g fa fb) := PE.imp h fun σ H Q ⟨Z, ρ, r1, I, e, q⟩ => by
  refine te_bind I e q fun v x H1 _ h1 s1 hv I1 q1 => te_bind I1 h1 q1 fun u y H2 _ h2 s2 hu I2 q2 => ?_
  cases hg : g v u with
  | none => rw [hg] at h2; cases h2
  | some w =>
    rw [hg] at h2
    cases h2
    exact hr Z σ ρ H H2 x y v u w Q I (s1.trans s2) (hv.same s2) (hu.back s1) hg fun z H' s' hz => q z H' (s1.trans (s2.trans s')) hz
theorem de_op {op : Operator} {r : R2} {g : Val → Val → Option Val} (ho : OpR X (binaryOp op) r) (hr : R2D X.K r g) (ha : DE X Cl W a fa) (hb : DE X Cl W b fb) : DE X Cl W (.BinOp a op b pos) (e2 g fa fb) := de_tOp (pe_op ho ha hb) hr
theorem de_cmp {op : CmpOp} {r : R2} {g : Val → Val → Option Val} (ho : OpR X (compareOp op) r) (hr : R2D X.K r g) (ha : DE X Cl W a fa) (hb : DE X Cl W b fb) (hm : behindInMarks op b = false) : DE X Cl W (.Compare a [op] [b] pos) (e2 g fa fb) := de_tOp (pe_cmpR ho ha hb hm) hr
theorem R2D.or {K : PySem.W.Frag} {r r' : R2} {g g' : Val → Val → Option Val} (h : R2D K r g) (h' : R2D K r' g') : R2D K (fun x y H Q => r x y H Q ∨ r' x y H Q) (fun a b => (g a b).or (g' a b)) := fun Z σ ρ H0 H x y a b v Q I s ha hb e q => by
  have e : (g a b).or (g' a b) = some v := e
  cases hg : g a b with
  | some w =>
    rw [hg] at e
    cases e
    exact .inl (h Z σ ρ H0 H x y a b _ Q I s ha hb hg q)
  | none =>
    rw [hg] at e
    exact .inr (h' Z σ ρ H0 H x y a b _ Q I s ha hb e q)

@[simp] def gI (F : Int → Int → D) (a b : Val) : Option Val := match a.d, b.d with
  | .int i, .int j => some (.s (F i j))
  | _, _ => none
@[simp] def gIc (C : Int → Int → Bool) (F : Int → Int → D) (a b : Val) : Option Val := match a.d, b.d with
  | .int i, .int j => if C i j = true then some (.s (F i j)) else none
  | _, _ => none
variable {K : PySem.W.Frag}
theorem VOk.int_inv {Z : Addr → Prop} {σ : St} {ρ : Rho} {H0 H : Hp} {x : V} {a : Val} {i : Int} (I : DI K Z H0 σ ρ) (h : VOk K Z σ ρ H0 H x a) (e : a.d = .int i) : x = .int i := by
  have q := h.dp I
  rw [e] at q
  exact q.int_inv
theorem VOk.str_inv {Z : Addr → Prop} {σ : St} {ρ : Rho} {H0 H : Hp} {x : V} {a : Val} {i : Str} (I : DI K Z H0 σ ρ) (h : VOk K Z σ ρ H0 H x a) (e : a.d = .str i) : x = .str i := by
  have q := h.dp I
  rw [e] at q
  exact q.str_inv
theorem VOk.bl_inv {Z : Addr → Prop} {σ : St} {ρ : Rho} {H0 H : Hp} {x : V} {a : Val} {i : Bool} (I : DI K Z H0 σ ρ) (h : VOk K Z σ ρ H0 H x a) (e : a.d = .bool i) : x = .bl i := by
  have q := h.dp I
  rw [e] at q
  exact q.bl_inv
theorem r2_I {g : Int → Int → V} {F : Int → Int → D} (h : ∀ i j H, Dp K H (g i j) (F i j)) : R2D K (rI0 g) (gI F) := fun Z σ ρ H0 H x y a b v Q I s ha hb e q => by
  unfold gI at e
  split at e
  · rename_i i j e1 e2
    cases e
    exact ⟨i, j, ha.int_inv I e1, hb.int_inv I e2, q _ H (Same.refl _) (h i j _)⟩
  · cases e
theorem r2_Ic {C : Int → Int → Prop} {c : Int → Int → Bool} {g : Int → Int → V} {F : Int → Int → D} (hc : ∀ i j, c i j = true → C i j) (h : ∀ i j H, Dp K H (g i j) (F i j)) : R2D K (rI C g) (gIc c F) := fun Z σ ρ H0 H x y a b v Q I s ha hb e q => by
  unfold gIc at e
  split at e
  · rename_i i j e1 e2
    split at e
    · rename_i hcc
      cases e
      exact ⟨i, j, ha.int_inv I e1, hb.int_inv I e2, hc i j hcc, q _ H (Same.refl _) (h i j _)⟩
    · cases e
  · cases e
def cDiv (i j : Int) : Bool := decide (0 < j) && decide (j < 1073741824)
def cMod (i j : Int) : Bool := decide (0 < j)
def cMul (i j : Int) : Bool := (decide (-(2 ^ 64) < i) && decide (i < 2 ^ 64)) || (decide (-(2 ^ 64) < j) && decide (j < 2 ^ 64))
def cPow (i j : Int) : Bool := decide (0 ≤ j) && (decide (j ≤ 1000000) && decide (i.natAbs < 2 ^ 64))
def cShr (i j : Int) : Bool := decide (0 ≤ j)
@[simp] def gMul (a b : Val) : Option Val := (gIc cMul fun i j => .int (i * j)) a b
@[simp] def gDiv (a b : Val) : Option Val := (gIc cDiv fun i j => .int (i / j)) a b
@[simp] def gMod (a b : Val) : Option Val := (gIc cMod fun i j => .int (i % j)) a b
@[simp] def gPow (a b : Val) : Option Val := (gIc cPow fun i j => .int (i ^ j.toNat)) a b
@[simp] def gShl (a b : Val) : Option Val := (gIc cPow fun i j => .int (i * 2 ^ j.toNat)) a b
@[simp] def gShr (a b : Val) : Option Val := (gIc cShr fun i j => .int (i / 2 ^ j.toNat)) a b
@[simp] def gSub (a b : Val) : Option Val := (gI fun i j => .int (i - j)) a b
@[simp] def gAddI (a b : Val) : Option Val := (gI fun i j => .int (i + j)) a b
@[simp] def gAnd (a b : Val) : Option Val := (gI fun i j => .int (Builtin.bitAnd i j)) a b
@[simp] def gOr (a b : Val) : Option Val := (gI fun i j => .int (Builtin.bitOr i j)) a b
@[simp] def gXor (a b : Val) : Option Val := (gI fun i j => .int (Builtin.bitXor i j)) a b
@[simp] def gLt (a b : Val) : Option Val := (gI fun i j => .bool (decide (i < j))) a b
@[simp] def gLe (a b : Val) : Option Val := (gI fun i j => .bool (decide (i ≤ j))) a b
@[simp] def gGt (a b : Val) : Option Val := (gI fun i j => .bool (decide (j < i))) a b
@[simp] def gGe (a b : Val) : Option Val := (gI fun i j => .bool (decide (j ≤ i))) a b
theorem cPow_ok (i j : Int) (h : cPow i j = true) : CPow i j := by
  simp only [cPow, Bool.and_eq_true, decide_eq_true_eq] at h
  exact ⟨h.1, h.2.1, h.2.2⟩
theorem cMul_ok (i j : Int) (h : cMul i j = true) : CMul i j := by
  simp only [cMul, Bool.and_eq_true, Bool.or_eq_true, decide_eq_true_eq] at h
  exact h
theorem cDiv_ok (i j : Int) (h : cDiv i j = true) : CDiv i j := by
  simp only [cDiv, Bool.and_eq_true, decide_eq_true_eq] at h
  exact h
theorem de_sub (ha : DE X Cl W a fa) (hb : DE X Cl W b fb) : DE X Cl W (.BinOp a .Sub b pos) (e2 gSub fa fb) := de_op op_sub (r2_I fun i j _ => .int _) ha hb
theorem de_addI (ha : DE X Cl W a fa) (hb : DE X Cl W b fb) : DE X Cl W (.BinOp a .Add b pos) (e2 gAddI fa fb) := de_op op_add (r2_I fun i j _ => .int _) ha hb
theorem de_mul (ha : DE X Cl W a fa) (hb : DE X Cl W b fb) : DE X Cl W (.BinOp a .Mult b pos) (e2 gMul fa fb) := de_op op_mul (r2_Ic cMul_ok fun i j _ => .int _) ha hb
theorem de_div (ha : DE X Cl W a fa) (hb : DE X Cl W b fb) : DE X Cl W (.BinOp a .FloorDiv b pos) (e2 gDiv fa fb) := de_op op_fdiv (r2_Ic cDiv_ok fun i j _ => .int _) ha hb
theorem de_mod (ha : DE X Cl W a fa) (hb : DE X Cl W b fb) : DE X Cl W (.BinOp a .Mod b pos) (e2 gMod fa fb) := de_op op_mod (r2_Ic (fun _ _ h => of_decide_eq_true h) fun i j _ => .int _) ha hb
theorem de_pow (ha : DE X Cl W a fa) (hb : DE X Cl W b fb) : DE X Cl W (.BinOp a .Pow b pos) (e2 gPow fa fb) := de_op op_pow (r2_Ic cPow_ok fun i j _ => .int _) ha hb
theorem de_shl (ha : DE X Cl W a fa) (hb : DE X Cl W b fb) : DE X Cl W (.BinOp a .LShift b pos) (e2 gShl fa fb) := de_op op_shl (r2_Ic cPow_ok fun i j _ => .int _) ha hb
theorem de_shr (ha : DE X Cl W a fa) (hb : DE X Cl W b fb) : DE X Cl W (.BinOp a .RShift b pos) (e2 gShr fa fb) := de_op op_shr (r2_Ic (fun _ _ h => of_decide_eq_true h) fun i j _ => .int _) ha hb
theorem de_and (ha : DE X Cl W a fa) (hb : DE X Cl W b fb) : DE X Cl W (.BinOp a .BitAnd b pos) (e2 gAnd fa fb) := de_op op_and (r2_I fun i j _ => .int _) ha hb
theorem de_or (ha : DE X Cl W a fa) (hb : DE X Cl W b fb) : DE X Cl W (.BinOp a .BitOr b pos) (e2 gOr fa fb) := de_op op_or (r2_I fun i j _ => .int _) ha hb
theorem de_xor (ha : DE X Cl W a fa) (hb : DE X Cl W b fb) : DE X Cl W (.BinOp a .BitXor b pos) (e2 gXor fa fb) := de_op op_xor (r2_I fun i j _ => .int _) ha hb
@[simp] def gNeg (a : Val) : Option Val := match a.d with
  | .int i => some (.s (.int (-i)))
  | _ => none
def e1 (g : Val → Option Val) (fa : FE) : FE := bE fa fun a _ => (g a).map .ok
theorem de_neg (ha : DE X Cl W a fa) : DE X Cl W (.UnaryOp .USub a pos) (e1 gNeg fa) := PE.imp (pe_un un_neg ha) fun σ H Q ⟨Z, ρ, r1, I, e, q⟩ => by
  refine te_bind I e q fun v x H1 _ h1 s1 hv I1 q1 => ?_
  unfold gNeg at h1
  split at h1
  · rename_i i e1
    cases h1
    exact ⟨i, hv.int_inv I e1, q _ H1 s1 (.int _)⟩
  · cases h1

/-! ### lists put together -/
/-- the items of a list that is not for the moment only -/
@[simp] def Val.items : Val → Option (List D)
  | .s (.list ds) => some ds
  | .m (.list ds) => if ds.all scalarD = true then some ds else none
  | .b ds => some ds
  | .f ds => some ds
  | _ => none
theorem VOk.items {Z : Addr → Prop} {σ : St} {ρ : Rho} {H0 H : Hp} {x : V} {a : Val} {ds : List D} (I : DI K Z H0 σ ρ) (e : a.items = some ds) (h : VOk K Z σ ρ H0 H x a) : ∃ p xs, x = .ref p ∧ Rd H p (.lst xs) ∧ DpAll K (hide H (Zo Z σ ρ)) xs ds := by
  cases a with
  | s d =>
    cases d with
    | list ys =>
      cases e
      obtain ⟨p, xs, rfl, h1, h2⟩ := Dp.lst_inv (show Dp K (hide H (Zo Z σ ρ)) x (.list ds) from h)
      exact ⟨p, xs, rfl, Rd.same hide_sub h1, h2⟩
    | _ => cases e
  | m d =>
    cases d with
    | list ys =>
      simp only [Val.items] at e
      split at e
      · rename_i sc
        cases e
        obtain ⟨p, xs, rfl, h1, h2⟩ := Dp.lst_inv (show Dp K (hide H Z) x (.list ds) from h)
        exact ⟨p, xs, rfl, Rd.same hide_sub h1, DpAll.scalar sc h2⟩
      · cases e
    | _ => cases e
  | b ys =>
    cases e
    obtain ⟨p, xs, rfl, n, h1, h2⟩ := h
    exact ⟨p, xs, rfl, Rd.of h1, h2⟩
  | f ys =>
    cases e
    obtain ⟨p, xs, rfl, n, h1, h2⟩ := h
    exact ⟨p, xs, rfl, Rd.of h1, DpAll.same (hide_mono (Same.refl _) fun _ h => .inl (.inl h)) h2⟩
theorem Rd.lstM {pins : List (Addr × Obj)} {σ : St} {H : Hp} {s : Shared} {l : Addr} {xs : List V} (I : Inv X pins σ H s) (hH : Rd H l (.lst xs)) : xs.length ≤ sizeLine ∧ ∃ (its : List Value) (n : Nat), Vals xs its ∧ xs.length = its.length ∧ s.heap.get? l = some { cls := .type "list", data := .seq its.toArray n } := by
  obtain ⟨z, its, n, r, e⟩ := (show ObjOk X.prog X.w H s.heap l (.lst xs) from hH.ok I.hok)
  exact ⟨z, its, n, r, r.length, e⟩
/-- list + list, tracked or known -/
def rCatR : R2 := fun x y H Q => ∃ l b xs zs, x = .ref l ∧ y = .ref b ∧ Rd H l (.lst xs) ∧ Rd H b (.lst zs) ∧ xs.length + zs.length ≤ sizeLine ∧ ∀ p, H p = none → Q (.ref p) (upd H p (.lst (xs ++ zs)))
theorem op_catR : OpR X (binaryOp .Add) rCatR := by
  intro pins s σ H x y v u Q I rx ry h
  obtain ⟨l, b, xs, zs, rfl, rfl, hH, hB, hz, q⟩ := h
  cases rx
  cases ry
  obtain ⟨z, its, n, r, hl, e⟩ := Rd.lstM I hH
  obtain ⟨z2, its2, n2, r2, hl2, e2⟩ := Rd.lstM I hB
  refine PySem.P.add_list e e2 ?_ (by rw [List.size_toArray, List.size_toArray]; omega)
  have ea : its.toArray ++ its2.toArray = (its ++ its2).toArray := by simp
  rw [ea]
  exact ⟨.ref _, _, I.lnew (t' := s.toks) (r.append r2) (by rw [List.length_append]; omega), rfl, q _ I.fresh⟩
theorem same_upd {H : Hp} {p : Addr} {o : HO} (h : H p = none) : Same H (upd H p o) := fun b x e => by
  rw [upd_ne (ne_of_none e h)]
  exact e
/-- a new list of stable items, just laid -/
theorem VOk.new {Z : Addr → Prop} {σ : St} {ρ : Rho} {H0 H : Hp} {p : Addr} {xs : List V} {ds : List D} (s : Same H0 H) (n : H p = none) (h : DpAll K (hide H (Zo Z σ ρ)) xs ds) : VOk K Z σ ρ H0 (upd H p (.lst xs)) (.ref p) (.f ds) :=
  ⟨p, xs, rfl, s.free n, upd_same, DpAll.same (hide_mono (same_upd n) fun b hb => by
    rcases hb with hb | rfl
    · exact .inl hb
    · exact .inr n) h⟩
def lineOk (n : Nat) : Bool := decide (n ≤ 16777216)
theorem lineOk_ok {n : Nat} (h : lineOk n = true) : n ≤ sizeLine := by
  rw [sizeLine_eq]
  exact of_decide_eq_true h
@[simp] def gCat (a b : Val) : Option Val := match a.items, b.items with
  | some xs, some ys => if lineOk (xs.length + ys.length) = true then some (.f (xs ++ ys)) else none
  | _, _ => none
theorem r2_cat : R2D K rCatR gCat := fun Z σ ρ H0 H x y a b v Q I s ha hb e q => by
  unfold gCat at e
  split at e
  · rename_i ds es e1 e2
    split at e
    · rename_i hl
      cases e
      obtain ⟨l, xs, rfl, h1, h2⟩ := ha.items I e1
      obtain ⟨m, ys, rfl, h3, h4⟩ := hb.items I e2
      refine ⟨l, m, xs, ys, rfl, rfl, h1, h3, by rw [h2.length, h4.length]; exact lineOk_ok hl, fun p np => ?_⟩
      exact q _ _ (same_upd np) (VOk.new s np (h2.append h4))
    · cases e
  · cases e
/-- text + text -/
@[simp] def gCatS (a b : Val) : Option Val := match a.d, b.d with
  | .str x, .str y => if lineOk (x.length + y.length) = true then some (.s (.str (x ++ y))) else none
  | _, _ => none
theorem r2_catS : R2D K (fun x y H Q => ∃ i j, x = .str i ∧ y = .str j ∧ i.length + j.length ≤ sizeLine ∧ Q (.str (i ++ j)) H) gCatS := fun Z σ ρ H0 H x y a b v Q I s ha hb e q => by
  unfold gCatS at e
  split at e
  · rename_i i j e1 e2
    split at e
    · rename_i hl
      cases e
      exact ⟨i, j, ha.str_inv I e1, hb.str_inv I e2, lineOk_ok hl, q _ H (Same.refl _) (.str _)⟩
    · cases e
  · cases e
@[simp] def gAdd (a b : Val) : Option Val := (gAddI a b).or (gCat a b)
theorem de_add (ha : DE X Cl W a fa) (hb : DE X Cl W b fb) : DE X Cl W (.BinOp a .Add b pos) (e2 gAdd fa fb) := de_op (op_add.or op_catR) ((r2_I fun i j _ => .int _).or r2_cat) ha hb

/-! ### comparisons -/
def eqD (a b : D) : Option Bool := if (SeqAt.shaped a && SeqAt.shaped b) = true then some (PyData.eqv a b) else none
@[simp] def gEq (a b : Val) : Option Val := (eqD a.d b.d).map fun k => .s (.bool k)
@[simp] def gNe (a b : Val) : Option Val := (eqD a.d b.d).map fun k => .s (.bool (!k))
theorem r2_eq : R2D K (rEqD K) gEq := fun Z σ ρ H0 H x y a b v Q I s ha hb e q => by
  unfold gEq eqD at e
  split at e
  · rename_i sh
    cases e
    obtain ⟨s1, s2⟩ := Bool.and_eq_true_iff.mp sh
    exact ⟨a.d, b.d, (Dp.same hide_sub (ha.dp I)).up (SeqAt.canLay_of_shaped s1), (Dp.same hide_sub (hb.dp I)).up (SeqAt.canLay_of_shaped s2), s1, s2, q _ H (Same.refl _) (.bl _)⟩
  · cases e
theorem r2_ne : R2D K (rNeD K) gNe := fun Z σ ρ H0 H x y a b v Q I s ha hb e q => by
  unfold gNe eqD at e
  split at e
  · rename_i sh
    cases e
    obtain ⟨s1, s2⟩ := Bool.and_eq_true_iff.mp sh
    exact ⟨a.d, b.d, (Dp.same hide_sub (ha.dp I)).up (SeqAt.canLay_of_shaped s1), (Dp.same hide_sub (hb.dp I)).up (SeqAt.canLay_of_shaped s2), s1, s2, q _ H (Same.refl _) (.bl _)⟩
  · cases e
@[simp] def isNone : D → Bool
  | .none => true
  | _ => false
theorem Dp.isNone {H : Hp} {x : V} {d : D} (h : Dp K H x d) : decide (x = .non) = isNone d := by
  cases h <;> rfl
@[simp] def gIsN (a b : Val) : Option Val := if isNone b.d = true then some (.s (.bool (isNone a.d))) else none
@[simp] def gNotN (a b : Val) : Option Val := if isNone b.d = true then some (.s (.bool (!isNone a.d))) else none
theorem isNone_eq {d : D} (h : isNone d = true) : d = .none := by cases d <;> first | rfl | cases h
theorem r2_isN : R2D K (fun x y H Q => y = .non ∧ Q (.bl (decide (x = .non))) H) gIsN := fun Z σ ρ H0 H x y a b v Q I s ha hb e q => by
  unfold gIsN at e
  split at e
  · rename_i h
    cases e
    have q1 := hb.dp I
    rw [isNone_eq h] at q1
    refine ⟨q1.non_inv, ?_⟩
    rw [(ha.dp I).isNone]
    exact q _ H (Same.refl _) (.bl _)
  · cases e
theorem r2_notN : R2D K (fun x y H Q => y = .non ∧ Q (.bl (!decide (x = .non))) H) gNotN := fun Z σ ρ H0 H x y a b v Q I s ha hb e q => by
  unfold gNotN at e
  split at e
  · rename_i h
    cases e
    have q1 := hb.dp I
    rw [isNone_eq h] at q1
    refine ⟨q1.non_inv, ?_⟩
    rw [(ha.dp I).isNone]
    exact q _ H (Same.refl _) (.bl _)
  · cases e
/-- flat things, as == of the layer's in takes them -/
theorem Dp.flat {H : Hp} {x : V} {d : D} (h : Dp K H x d) (s : scalarD d = true) : flatV x = true := by
  cases h <;> first | rfl | cases s
def toV : D → V
  | .bool b => .bl b
  | .int i => .int i
  | .str x => .str x
  | _ => .non
theorem Dp.toV {H : Hp} {x : V} {d : D} (h : Dp K H x d) (s : scalarD d = true) : x = toV d := by
  cases h <;> first | rfl | cases s
theorem DpAll.toV {H : Hp} : ∀ {xs : List V} {ds : List D}, DpAll K H xs ds → ds.all scalarD = true → xs = ds.map toV ∧ xs.all flatV = true
  | _, _, .nil, _ => ⟨rfl, rfl⟩
  | _, _, .cons h t, s => by
    rw [List.all_cons, Bool.and_eq_true] at s
    obtain ⟨e1, e2⟩ := DpAll.toV t s.2
    have e3 := Dp.toV h s.1
    have e4 := Dp.flat h s.1
    subst e3
    refine ⟨by rw [List.map_cons, ← e1], ?_⟩
    rw [List.all_cons, e4, e2]
    rfl
def inD (x : D) (ds : List D) : Bool := inV (toV x) (ds.map toV)
@[simp] def seqItems : D → Option (List D)
  | .list ds => some ds
  | .tuple ds => some ds
  | _ => none
@[simp] def gInX (neg : Bool) (a b : Val) : Option Val := match seqItems b.d with
  | some ds => if (scalarD a.d && ds.all scalarD) = true then some (.s (.bool (if neg then !inD a.d ds else inD a.d ds))) else none
  | none => none
theorem Dp.seq_inv {H : Hp} {x : V} {d : D} {ds : List D} (h : Dp K H x d) (e : seqItems d = some ds) : ∃ p xs, x = .ref p ∧ (SqL K H p xs ∨ SqT K H p xs) ∧ DpAll K H xs ds := by
  cases h with
  | lst h t => cases e; exact ⟨_, _, rfl, .inl (.inl h), t⟩
  | tup h t => cases e; exact ⟨_, _, rfl, .inr h, t⟩
  | _ => cases e
theorem r2_in {neg : Bool} : R2D K (rIn K neg) (gInX neg) := fun Z σ ρ H0 H x y a b v Q I s ha hb e q => by
  unfold gInX at e
  split at e
  · rename_i ds hd
    split at e
    · rename_i sc
      cases e
      obtain ⟨s1, s2⟩ := Bool.and_eq_true_iff.mp sc
      obtain ⟨p, xs, rfl, h1, h2⟩ := (Dp.same hide_sub (hb.dp I)).seq_inv hd
      have h3 := (Dp.same hide_sub (ha.dp I))
      obtain ⟨e1, e2⟩ := h2.toV s2
      refine ⟨p, xs, rfl, h1, h3.flat s1, e2, ?_⟩
      have ex := h3.toV s1
      have ei : inV x xs = inD a.d ds := by rw [ex, e1]; rfl
      rw [ei]
      exact q _ H (Same.refl _) (.bl _)
    · cases e
  · cases e
@[simp] def gIn (a b : Val) : Option Val := gInX false a b
@[simp] def gNotIn (a b : Val) : Option Val := gInX true a b
/-- texts by their signs -/
@[simp] def gS (F : Str → Str → D) (a b : Val) : Option Val := match a.d, b.d with
  | .str i, .str j => some (.s (F i j))
  | _, _ => none
theorem r2_S {g : Str → Str → V} {F : Str → Str → D} (h : ∀ i j H, Dp K H (g i j) (F i j)) : R2D K (fun x y H Q => ∃ i j, x = .str i ∧ y = .str j ∧ Q (g i j) H) (gS F) := fun Z σ ρ H0 H x y a b v Q I s ha hb e q => by
  unfold gS at e
  split at e
  · rename_i i j e1 e2
    cases e
    exact ⟨i, j, ha.str_inv I e1, hb.str_inv I e2, q _ H (Same.refl _) (h i j _)⟩
  · cases e
def gLtS := gS fun i j => .bool (decide (i.cps.toList < j.cps.toList))
end
end DL
set_option Elab.async false
set_option linter.all false
set_option maxRecDepth 100000
set_option maxHeartbeats 4000000
/-! DL3: arguments, calls, displays, places, slices, tests, by data. -/
namespace DL
open PySem PySem.Spec PyProof.Rows L2

/-! ### arguments -/
abbrev FA := Rho → Option (Except Er (List Val))
def VAll (K : PySem.W.Frag) (Z : Addr → Prop) (σ : St) (ρ : Rho) (H H1 : Hp) (xs : List V) (vs : List Val) : Prop := Paired (VOk K Z σ ρ H H1) xs vs
def RAk (K : PySem.W.Frag) (Cl : Nat → Addr) (W : WX) (Z : Addr → Prop) (σ : St) (ρ : Rho) (H : Hp) (Q : List V → Hp → Prop) : Except Er (List Val) → Prop
  | .ok vs => ∀ xs H', Same H H' → VAll K Z σ ρ H H' xs vs → Q xs H'
  | .error e => ErOk Cl W σ H e
def taOf (K : PySem.W.Frag) (Cl : Nat → Addr) (W : WX) (f : FA) : TA := fun σ H Q => ∃ Z ρ r, DI K Z H σ ρ ∧ f ρ = some r ∧ RAk K Cl W Z σ ρ H Q r
def DA (X : Cx) (Cl : Nat → Addr) (W : WX) (es : List Expr) (f : FA) : Prop := PA X es (taOf X.K Cl W f)
theorem te_step {K : PySem.W.Frag} {Cl : Nat → Addr} {W : WX} {Z : Addr → Prop} {H : Hp} {σ : St} {ρ : Rho} {Q1 : VK} {f : FE} {r : Except Er Val} (I : DI K Z H σ ρ) (h : f ρ = some r) (he : ∀ e, r = .error e → ErOk Cl W σ H e)
    (go : ∀ v x H1, r = .ok v → Same H H1 → VOk K Z σ ρ H H1 x v → DI K Z H1 σ ρ → Q1 x H1) : teOf K Cl W f σ H Q1 := by
  refine ⟨Z, ρ, r, I, h, ?_⟩
  cases r with
  | error e => exact he e rfl
  | ok v => exact fun x H1 s hv => go v x H1 rfl s hv (I.same s)
theorem ta_step {K : PySem.W.Frag} {Cl : Nat → Addr} {W : WX} {Z : Addr → Prop} {H : Hp} {σ : St} {ρ : Rho} {Q1 : List V → Hp → Prop} {f : FA} {r : Except Er (List Val)} (I : DI K Z H σ ρ) (h : f ρ = some r) (he : ∀ e, r = .error e → ErOk Cl W σ H e)
    (go : ∀ vs xs H1, r = .ok vs → Same H H1 → VAll K Z σ ρ H H1 xs vs → DI K Z H1 σ ρ → Q1 xs H1) : taOf K Cl W f σ H Q1 := by
  refine ⟨Z, ρ, r, I, h, ?_⟩
  cases r with
  | error e => exact he e rfl
  | ok vs => exact fun x H1 s hv => go vs x H1 rfl s hv (I.same s)
section
variable {K : PySem.W.Frag} {Z : Addr → Prop} {σ : St} {ρ : Rho} {H0 H H1 H2 : Hp}
theorem VAll.same : ∀ {xs : List V} {vs : List Val}, Same H1 H2 → VAll K Z σ ρ H0 H1 xs vs → VAll K Z σ ρ H0 H2 xs vs
  | _, _, _, .nil => .nil
  | _, _, s, .cons h t => .cons (h.same s) (VAll.same s t)
theorem VAll.back : ∀ {xs : List V} {vs : List Val}, Same H0 H → VAll K Z σ ρ H H1 xs vs → VAll K Z σ ρ H0 H1 xs vs
  | _, _, _, .nil => .nil
  | _, _, s, .cons h t => .cons (h.back s) (VAll.back s t)
theorem VAll.dp (I : DI K Z H0 σ ρ) : ∀ {xs : List V} {vs : List Val}, VAll K Z σ ρ H0 H1 xs vs → DpAll K (hide H1 Z) xs (vs.map Val.d)
  | _, _, .nil => .nil
  | _, _, .cons h t => .cons (h.dp I) (VAll.dp I t)
/-- all of them are to be kept -/
@[simp] def stAll : List Val → Option (List D)
  | [] => some []
  | v :: vs => match v.st, stAll vs with
    | some d, some ds => some (d :: ds)
    | _, _ => none
theorem VAll.stab (I : DI K Z H0 σ ρ) : ∀ {xs : List V} {vs : List Val} {ds : List D}, stAll vs = some ds → VAll K Z σ ρ H0 H1 xs vs → DpAll K (hide H1 (Zo Z σ ρ)) xs ds
  | _, _, _, e, .nil => by cases e; exact .nil
  | _, _, ds, e, .cons h t => by
    simp only [stAll] at e
    split at e
    · rename_i d es e1 e2
      cases e
      exact .cons (h.stab I e1) (VAll.stab I e2 t)
    · cases e
theorem stAll_len : ∀ {vs : List Val} {ds : List D}, stAll vs = some ds → ds.length = vs.length
  | [], _, e => by cases e; rfl
  | v :: vs, ds, e => by
    simp only [stAll] at e
    split at e
    · rename_i d es e1 e2
      cases e
      rw [List.length_cons, List.length_cons, stAll_len e2]
    · cases e
end
@[simp] def aNil (ρ : Rho) : Option (Except Er (List Val)) := some (.ok [])
@[simp] def aCons (f : FE) (g : FA) (ρ : Rho) : Option (Except Er (List Val)) := match f ρ with
  | none => none
  | some (.error e) => some (.error e)
  | some (.ok v) => match g ρ with
    | none => none
    | some (.error e) => some (.error e)
    | some (.ok vs) => some (.ok (v :: vs))
section
variable {X : Cx} {Cl : Nat → Addr} {W : WX} {a b c e : Expr} {es : List Expr} {fa fb fc f : FE} {g : FA} {p pos : Pos}
theorem da_nil : DA X Cl W [] aNil := PA.imp pa_nil fun σ H Q ⟨Z, ρ, r, I, e, q⟩ => by
  cases e
  exact q [] H (Same.refl _) .nil
theorem da_cons (ha : DE X Cl W e f) (hr : DA X Cl W es g) (hs : starEach (e :: es) X.env = (false, eval e X.env) :: starEach es X.env := by rfl) : DA X Cl W (e :: es) (aCons f g) := PA.imp (pa_cons ha hr hs) fun σ H Q ⟨Z, ρ, r, I, e, q⟩ => by
  unfold aCons at e
  cases e1 : f ρ with
  | none => rw [e1] at e; cases e
  | some r1 =>
    refine te_step I e1 (fun er z => ?_) fun v x H1 ev s1 hv I1 => ?_
    · rw [e1, z] at e
      cases e
      exact q
    · subst ev
      rw [e1] at e
      cases e2 : g ρ with
      | none => rw [e2] at e; cases e
      | some r2 =>
        refine ta_step I1 e2 (fun er z => ?_) fun vs xs H2 ev s2 hvs I2 => ?_
        · rw [e2, z] at e
          cases e
          exact ErOk.same s1 q
        · subst ev
          rw [e2] at e
          cases e
          exact q (x :: xs) H2 (s1.trans s2) (.cons (hv.same s2) (hvs.back s1))
/-- a starred list or tuple: its items -/
@[simp] def Val.parts : Val → Option (List Val)
  | .s (.list ds) => some (ds.map .s)
  | .s (.tuple ds) => some (ds.map .s)
  | .m (.list ds) => some (ds.map .m)
  | .m (.tuple ds) => some (ds.map .m)
  | .b ds => some (ds.map .s)
  | .f ds => some (ds.map .s)
  | _ => none
theorem vall_s {K : PySem.W.Frag} {Z : Addr → Prop} {σ : St} {ρ : Rho} {H0 H1 : Hp} : ∀ {xs : List V} {ds : List D}, DpAll K (hide H1 (Zo Z σ ρ)) xs ds → VAll K Z σ ρ H0 H1 xs (ds.map .s)
  | _, _, .nil => .nil
  | _, _, .cons h t => .cons h (vall_s t)
theorem vall_m {K : PySem.W.Frag} {Z : Addr → Prop} {σ : St} {ρ : Rho} {H0 H1 : Hp} : ∀ {xs : List V} {ds : List D}, DpAll K (hide H1 Z) xs ds → VAll K Z σ ρ H0 H1 xs (ds.map .m)
  | _, _, .nil => .nil
  | _, _, .cons h t => .cons h (vall_m t)
theorem VOk.parts {K : PySem.W.Frag} {Z : Addr → Prop} {σ : St} {ρ : Rho} {H0 H : Hp} {x : V} {v : Val} {vs : List Val} (I : DI K Z H0 σ ρ) (h : VOk K Z σ ρ H0 H x v) (e : v.parts = some vs) :
    ∃ p xs, x = .ref p ∧ (SqT K H p xs ∨ SqL K H p xs) ∧ VAll K Z σ ρ H0 H xs vs := by
  cases v with
  | s d =>
    cases d with
    | list ds =>
      cases e
      obtain ⟨p, xs, rfl, h1, h2⟩ := Dp.lst_inv (show Dp K (hide H (Zo Z σ ρ)) x (.list ds) from h)
      exact ⟨p, xs, rfl, .inr (.inl (Rd.same hide_sub h1)), vall_s h2⟩
    | tuple ds =>
      cases e
      obtain ⟨p, xs, rfl, h1, h2⟩ := Dp.tup_inv (show Dp K (hide H (Zo Z σ ρ)) x (.tuple ds) from h)
      exact ⟨p, xs, rfl, .inl (SqT.same hide_sub h1), vall_s h2⟩
    | _ => cases e
  | m d =>
    cases d with
    | list ds =>
      cases e
      obtain ⟨p, xs, rfl, h1, h2⟩ := Dp.lst_inv (show Dp K (hide H Z) x (.list ds) from h)
      exact ⟨p, xs, rfl, .inr (.inl (Rd.same hide_sub h1)), vall_m h2⟩
    | tuple ds =>
      cases e
      obtain ⟨p, xs, rfl, h1, h2⟩ := Dp.tup_inv (show Dp K (hide H Z) x (.tuple ds) from h)
      exact ⟨p, xs, rfl, .inl (SqT.same hide_sub h1), vall_m h2⟩
    | _ => cases e
  | b ds =>
    cases e
    obtain ⟨p, xs, rfl, n, h1, h2⟩ := h
    exact ⟨p, xs, rfl, .inr (SqL.of h1), vall_s h2⟩
  | f ds =>
    cases e
    obtain ⟨p, xs, rfl, n, h1, h2⟩ := h
    exact ⟨p, xs, rfl, .inr (SqL.of h1), vall_s (DpAll.same (hide_mono (Same.refl _) fun _ h => .inl (.inl h)) h2)⟩
theorem VAll.append {K : PySem.W.Frag} {Z : Addr → Prop} {σ : St} {ρ : Rho} {H0 H1 : Hp} : ∀ {xs ys : List V} {vs ws : List Val}, VAll K Z σ ρ H0 H1 xs vs → VAll K Z σ ρ H0 H1 ys ws → VAll K Z σ ρ H0 H1 (xs ++ ys) (vs ++ ws)
  | _, _, _, _, .nil, s => s
  | _, _, _, _, .cons r t, s => .cons r (VAll.append t s)
@[simp] def aStar (f : FE) (g : FA) (ρ : Rho) : Option (Except Er (List Val)) := match f ρ with
  | none => none
  | some (.error e) => some (.error e)
  | some (.ok v) => match v.parts with
    | none => none
    | some us => match g ρ with
      | none => none
      | some (.error e) => some (.error e)
      | some (.ok vs) => some (.ok (us ++ vs))
theorem da_star (ha : DE X Cl W e f) (hr : DA X Cl W es g) (hs : starEach (.Starred e p :: es) X.env = (true, eval e X.env) :: starEach es X.env := by rfl) : DA X Cl W (.Starred e p :: es) (aStar f g) := PA.imp (StX.pa_star ha hr hs) fun σ H Q ⟨Z, ρ, r, I, e, q⟩ => by
  unfold aStar at e
  cases e1 : f ρ with
  | none => rw [e1] at e; cases e
  | some r1 =>
    refine te_step I e1 (fun er z => ?_) fun v x H1 ev s1 hv I1 => ?_
    · rw [e1, z] at e
      cases e
      exact q
    · subst ev
      rw [e1] at e
      dsimp only at e
      cases e3 : v.parts with
      | none => rw [e3] at e; cases e
      | some us =>
        rw [e3] at e
        dsimp only at e
        obtain ⟨p, xs, rfl, hp, hus⟩ := hv.parts I e3
        refine ⟨p, xs, rfl, hp, ?_⟩
        cases e2 : g ρ with
        | none => rw [e2] at e; cases e
        | some r2 =>
          refine ta_step I1 e2 (fun er z => ?_) fun vs ys H2 ev s2 hvs I2 => ?_
          · rw [e2, z] at e
            cases e
            exact ErOk.same s1 q
          · subst ev
            rw [e2] at e
            cases e
            exact q (xs ++ ys) H2 (s1.trans s2) ((hus.same s2).append (hvs.back s1))

/-! ### calls of built-ins -/
def CRD (K : PySem.W.Frag) (r : List V → Hp → VK → Prop) (g : List Val → Option Val) : Prop := ∀ (Z : Addr → Prop) (σ : St) (ρ : Rho) (H0 H : Hp) (xs : List V) (vs : List Val) (v : Val) (Q : VK), DI K Z H0 σ ρ → Same H0 H → VAll K Z σ ρ H0 H xs vs → g vs = some v →
  (∀ z H', Same H H' → VOk K Z σ ρ H0 H' z v → Q z H') → r xs H Q
@[simp] def eG (h : List Val → Option Val) (g : FA) (ρ : Rho) : Option (Except Er Val) := match g ρ with
  | none => none
  | some (.error e) => some (.error e)
  | some (.ok vs) => (h vs).map .ok
theorem de_tCB {r : List V → Hp → VK → Prop} {h : List Val → Option Val} (hp : PE X e (tCB r (taOf X.K Cl W g))) (hr : CRD X.K r h) : DE X Cl W e (eG h g) := PE.imp hp fun σ H Q ⟨Z, ρ, r1, I, e, q⟩ => by
  unfold eG at e
  cases e1 : g ρ with
  | none => rw [e1] at e; cases e
  | some r2 =>
    refine ta_step I e1 (fun er z => ?_) fun vs xs H1 ev s1 hvs I1 => ?_
    · rw [e1, z] at e
      cases e
      exact q
    · subst ev
      rw [e1] at e
      dsimp only at e
      cases e2 : h vs with
      | none => rw [e2] at e; cases e
      | some v =>
        rw [e2] at e
        cases e
        exact hr Z σ ρ H H1 xs vs v Q I s1 hvs e2 fun z H' s' hz => q z H' (s1.trans s') hz
theorem de_callB {id : String} {x : Str} {r : List V → Hp → VK → Prop} {h : List Val → Option Val} (hc : CallR X (.builtin id) r) (hr : CRD X.K r h) (hm : X.mg x = none) (hv : bootBuiltins x = some (.builtin id)) (ha : DA X Cl W (e :: es) g) (hg : Gl X x := by rfl) (hn : x ≠ "__name__" := by decide) (hdb : (x == ("__debug__" : Str)) = false := by decide)
    (he : starEach (e :: es) X.env = (false, eval e X.env) :: starEach es X.env := by rfl) (hpl : (backTo pos (starEach es X.env)).any (·.1) = false := by rfl) : DE X Cl W (.Call (.Name x p) (e :: es) [] pos) (eG h g) :=
  de_tCB (pe_callB hc hg hm hv ha hn hdb he hpl) hr
theorem de_callTy {id : String} {x : Str} {r : List V → Hp → VK → Prop} {h : List Val → Option Val} (hc : CallR X (.type id) r) (hr : CRD X.K r h) (hm : X.mg x = none) (hv : bootBuiltins x = some (.type id)) (ha : DA X Cl W (e :: es) g) (hg : Gl X x := by rfl) (hn : x ≠ "__name__" := by decide) (hdb : (x == ("__debug__" : Str)) = false := by decide)
    (he : starEach (e :: es) X.env = (false, eval e X.env) :: starEach es X.env := by rfl) (hpl : (backTo pos (starEach es X.env)).any (·.1) = false := by rfl) : DE X Cl W (.Call (.Name x p) (e :: es) [] pos) (eG h g) :=
  de_tCB (pe_callTy hc hg hm hv ha hn hdb he hpl) hr
theorem VAll.one {K : PySem.W.Frag} {Z : Addr → Prop} {σ : St} {ρ : Rho} {H0 H1 : Hp} {xs : List V} {v : Val} (h : VAll K Z σ ρ H0 H1 xs [v]) : ∃ x, xs = [x] ∧ VOk K Z σ ρ H0 H1 x v := by
  cases h with
  | cons h t => cases t; exact ⟨_, rfl, h⟩
theorem VAll.two {K : PySem.W.Frag} {Z : Addr → Prop} {σ : St} {ρ : Rho} {H0 H1 : Hp} {xs : List V} {v u : Val} (h : VAll K Z σ ρ H0 H1 xs [v, u]) : ∃ x y, xs = [x, y] ∧ VOk K Z σ ρ H0 H1 x v ∧ VOk K Z σ ρ H0 H1 y u := by
  cases h with
  | cons h t =>
    cases t with
    | cons h2 t2 => cases t2; exact ⟨_, _, rfl, h, h2⟩
variable {K : PySem.W.Frag}
@[simp] def lenD : D → Option Nat
  | .str x => if lineOk x.length = true then some x.length else none
  | .list ds => some ds.length
  | .tuple ds => some ds.length
  | .dict ks => if excL ks = true then none else some ks.length
  | _ => none
@[simp] def bLen : List Val → Option Val
  | [v] => (lenD v.d).map fun n => .s (.int n)
  | _ => none
theorem Dp.lenV {H : Hp} {x : V} {d : D} {n : Nat} (h : Dp K H x d) (e : lenD d = some n) : LenV K x H n := by
  cases h with
  | str x =>
    simp only [lenD] at e
    split at e
    · rename_i hl
      cases e
      exact ⟨lineOk_ok hl, rfl⟩
    · cases e
  | lst h t => cases e; exact .inl ⟨_, .inl h, t.length.symm⟩
  | tup h t => cases e; exact .inr ⟨_, h, t.length.symm⟩
  | @scr a ns h =>
    simp only [lenD] at e
    rw [excL_scr, if_neg Bool.false_ne_true] at e
    cases e
    exact .inl ⟨_, h, by rw [List.length_map, List.length_map]⟩
  | exc _ _ => cases e
  | _ => cases e
theorem cr_len : CRD K (fun xs H Q => ∃ x n, xs = [x] ∧ LenV K x H n ∧ Q (.int n) H) bLen := fun Z σ ρ H0 H xs vs v Q I s hv e q => by
  unfold bLen at e
  split at e
  · rename_i u
    obtain ⟨x, rfl, h⟩ := hv.one
    cases e1 : lenD u.d with
    | none => rw [e1] at e; cases e
    | some n =>
      rw [e1] at e
      cases e
      exact ⟨x, n, rfl, (Dp.same hide_sub (h.dp I)).lenV e1, q _ H (Same.refl _) (.int _)⟩
  · cases e
@[simp] def bInt : List Val → Option Val
  | [v] => match v.d with
    | .int i => some (.s (.int i))
    | .bool b => some (.s (.int (if b then 1 else 0)))
    | _ => none
  | _ => none
theorem cr_int : CRD K (fun xs H Q => (∃ i, xs = [.int i] ∧ Q (.int i) H) ∨ ∃ k, xs = [.bl k] ∧ Q (.int (if k then 1 else 0)) H) bInt := fun Z σ ρ H0 H xs vs v Q I s hv e q => by
  unfold bInt at e
  split at e
  · rename_i u
    obtain ⟨x, rfl, h⟩ := hv.one
    split at e
    · rename_i i e1
      cases e
      exact .inl ⟨i, by rw [h.int_inv I e1], q _ H (Same.refl _) (.int _)⟩
    · rename_i i e1
      cases e
      exact .inr ⟨i, by rw [h.bl_inv I e1], q _ H (Same.refl _) (.int _)⟩
    · cases e
  · cases e
@[simp] def bAbs : List Val → Option Val
  | [v] => match v.d with
    | .int i => some (.s (.int (if i < 0 then -i else i)))
    | _ => none
  | _ => none
theorem cr_abs : CRD K (fun xs H Q => ∃ i, xs = [.int i] ∧ Q (.int (if i < 0 then -i else i)) H) bAbs := fun Z σ ρ H0 H xs vs v Q I s hv e q => by
  unfold bAbs at e
  split at e
  · rename_i u
    obtain ⟨x, rfl, h⟩ := hv.one
    split at e
    · rename_i i e1
      cases e
      exact ⟨i, by rw [h.int_inv I e1], q _ H (Same.refl _) (.int _)⟩
    · cases e
  · cases e
@[simp] def bMin : List Val → Option Val
  | [v, u] => match v.d, u.d with
    | .int i, .int j => some (.s (.int (if j < i then j else i)))
    | _, _ => none
  | _ => none
theorem cr_min2 : CRD K (fun xs H Q => ∃ i j, xs = [.int i, .int j] ∧ Q (.int (if j < i then j else i)) H) bMin := fun Z σ ρ H0 H xs vs v Q I s hv e q => by
  unfold bMin at e
  split at e
  · rename_i u w
    obtain ⟨x, y, rfl, h, h2⟩ := hv.two
    split at e
    · rename_i i j e1 e2
      cases e
      exact ⟨i, j, by rw [h.int_inv I e1, h2.int_inv I e2], q _ H (Same.refl _) (.int _)⟩
    · cases e
  · cases e
@[simp] def bMax : List Val → Option Val
  | [v, u] => match v.d, u.d with
    | .int i, .int j => some (.s (.int (if j > i then j else i)))
    | _, _ => none
  | _ => none
theorem cr_max2 : CRD K (fun xs H Q => ∃ i j, xs = [.int i, .int j] ∧ Q (.int (if j > i then j else i)) H) bMax := fun Z σ ρ H0 H xs vs v Q I s hv e q => by
  unfold bMax at e
  split at e
  · rename_i u w
    obtain ⟨x, y, rfl, h, h2⟩ := hv.two
    split at e
    · rename_i i j e1 e2
      cases e
      exact ⟨i, j, by rw [h.int_inv I e1, h2.int_inv I e2], q _ H (Same.refl _) (.int _)⟩
    · cases e
  · cases e
/-- list(xs) of a list or a tuple: a new list -/
@[simp] def Val.seq : Val → Option (List D)
  | .s (.tuple ds) => some ds
  | .m (.tuple ds) => if ds.all scalarD = true then some ds else none
  | v => v.items
theorem VOk.seq {Z : Addr → Prop} {σ : St} {ρ : Rho} {H0 H : Hp} {x : V} {a : Val} {ds : List D} (I : DI K Z H0 σ ρ) (e : a.seq = some ds) (h : VOk K Z σ ρ H0 H x a) : ∃ p xs, x = .ref p ∧ (SqL K H p xs ∨ SqT K H p xs) ∧ DpAll K (hide H (Zo Z σ ρ)) xs ds := by
  have go : a.items = some ds → ∃ p xs, x = .ref p ∧ (SqL K H p xs ∨ SqT K H p xs) ∧ DpAll K (hide H (Zo Z σ ρ)) xs ds := fun e => by
    obtain ⟨p, xs, e1, e2, e3⟩ := h.items I e
    exact ⟨p, xs, e1, .inl (.inl e2), e3⟩
  unfold Val.seq at e
  split at e
  · rename_i ys
    cases e
    obtain ⟨p, xs, rfl, h1, h2⟩ := Dp.tup_inv (show Dp K (hide H (Zo Z σ ρ)) x (.tuple ds) from h)
    exact ⟨p, xs, rfl, .inr (SqT.same hide_sub h1), h2⟩
  · rename_i ys
    split at e
    · rename_i sc
      cases e
      obtain ⟨p, xs, rfl, h1, h2⟩ := Dp.tup_inv (show Dp K (hide H Z) x (.tuple ds) from h)
      exact ⟨p, xs, rfl, .inr (SqT.same hide_sub h1), DpAll.scalar sc h2⟩
    · cases e
  · exact go e
@[simp] def bList : List Val → Option Val
  | [v] => v.seq.map .f
  | _ => none
theorem cr_list : CRD K (fun xs H Q => ∃ p ys, xs = [.ref p] ∧ (SqL K H p ys ∨ SqT K H p ys) ∧ ∀ l, H l = none → Q (.ref l) (upd H l (.lst ys))) bList := fun Z σ ρ H0 H xs vs v Q I s hv e q => by
  unfold bList at e
  split at e
  · rename_i u
    obtain ⟨x, rfl, h⟩ := hv.one
    cases e1 : u.seq with
    | none => rw [e1] at e; cases e
    | some ds =>
      rw [e1] at e
      cases e
      obtain ⟨p, ys, rfl, h1, h2⟩ := h.seq I e1
      exact ⟨p, ys, rfl, h1, fun l nl => q _ _ (same_upd nl) (VOk.new s nl h2)⟩
  · cases e
def intsD : List D → Option (List Int)
  | [] => some []
  | .int i :: r => (intsD r).map (i :: ·)
  | _ => none
theorem intsD_map : ∀ (ns : List Int), intsD (ns.map PyData.int) = some ns
  | [] => rfl
  | n :: ns => by
    show (intsD (ns.map PyData.int)).map (n :: ·) = some (n :: ns)
    rw [intsD_map ns]
    rfl
theorem intsD_eq : ∀ {ds : List D} {ns : List Int}, intsD ds = some ns → ds = ns.map PyData.int
  | [], _, e => by cases e; rfl
  | .int i :: r, ns, e => by
    have e' : (intsD r).map (i :: ·) = some ns := e
    cases h : intsD r with
    | none => rw [h] at e'; cases e'
    | some ms =>
      rw [h] at e'
      cases e'
      rw [intsD_eq h]
      rfl
@[simp] def bSum : List Val → Option Val
  | [v] => match v.d with
    | .list ds => (intsD ds).map fun ns => .s (.int ns.sum)
    | _ => none
  | _ => none
theorem cr_sumD : CRD K (rSum K) bSum := fun Z σ ρ H0 H xs vs v Q I s hv e q => by
  unfold bSum at e
  split at e
  · rename_i u
    obtain ⟨x, rfl, h⟩ := hv.one
    split at e
    · rename_i ds e1
      cases e2 : intsD ds with
      | none => rw [e2] at e; cases e
      | some ns =>
        rw [e2] at e
        cases e
        have h1 := Dp.same hide_sub (h.dp I)
        rw [e1] at h1
        obtain ⟨p, ys, rfl, h2, h3⟩ := h1.lst_inv
        rw [intsD_eq e2] at h3
        have e3 := h3.ints
        subst e3
        exact ⟨p, ns, rfl, .inl h2, q _ H (Same.refl _) (.int _)⟩
    · cases e
  · cases e

/-! ### isinstance against a built-in type -/
@[simp] def tyN : D → String
  | .none => "NoneType" | .bool _ => "bool" | .int _ => "int" | .str _ => "str" | .list _ => "list" | .tuple _ => "tuple" | .dict _ => "list"
@[simp] def isTy (T : String) (d : D) : Bool := T == tyN d || (T == "int" && tyN d == "bool")
def tyK (T : String) : Bool := T == "bool" || (T == "int" || (T == "str" || (T == "list" || T == "tuple")))
@[simp] def gIsi (T : String) (v : Val) : Option Val := if excV v.d = true then none else some (.s (.bool (isTy T v.d)))
theorem kit_all {T : String} {d : D} (h : T = "bool" ∨ T = "int" ∨ T = "str" ∨ T = "list" ∨ T = "tuple") : PySem.W.kitOne K (.type (tyN d)) (.type T) = some (isTy T d) := by
  refine kit_ty ?_
  rcases h with rfl | rfl | rfl | rfl | rfl <;> cases d <;> first | decide +kernel | rfl
theorem Dp.tyx {H : Hp} {x : V} {d : D} (n : ¬ excV d = true) (h : Dp K H x d) : TyX K H x (.type (tyN d)) := by
  cases h with
  | non => exact .base .non
  | bl b => exact .base (.bl b)
  | int i => exact .base (.int i)
  | str x => exact .base (.str x)
  | lst h t =>
    rcases h with h | ⟨o, h⟩
    · exact .base (.lst h)
    · exact .base (.frz h)
  | tup h t =>
    rcases h with (h | ⟨o, h⟩) | ⟨o, its, n, h, c, _⟩
    · exact .base (.tup h)
    · exact .fTuple h
    · exact .kTuple h c
  | scr h =>
    rcases h with (h | ⟨o, h⟩) | ⟨o, its, n, h, c, _⟩
    · exact .base (.lst h)
    · exact .base (.frz h)
    · exact .kList h c
  | exc _ _ => exact absurd rfl n
theorem de_isi {T : String} {y : Str} {q : Pos} {x : Str} (hx : x = "isinstance") (hm : X.mg x = none) (hy : X.mg y = none) (hT : bootBuiltins y = some (.type T)) (hk : T = "bool" ∨ T = "int" ∨ T = "str" ∨ T = "list" ∨ T = "tuple") (ha : DE X Cl W e f) (hg : Gl X x := by rfl) (hgy : Gl X y := by rfl) (hn : y ≠ "__name__" := by decide) (hdb : (y == ("__debug__" : Str)) = false := by decide)
    (hs : starEach [e, .Name y q] X.env = (false, eval e X.env) :: starEach [.Name y q] X.env := by rfl) (hs2 : starEach [.Name y q] X.env = (false, eval (.Name y q) X.env) :: starEach [] X.env := by rfl) (hpl : (backTo pos (starEach [.Name y q] X.env)).any (·.1) = false := by rfl) :
    DE X Cl W (.Call (.Name x p) [e, .Name y q] [] pos) (e1 (gIsi T) f) := by
  subst hx
  refine PE.imp (pe_callB call_isi hg hm PyProof.Rows.boot_isinstance (pa_cons ha (pa_cons (pe_bltn (v := .ty T) hgy hy hT rfl hn hdb) pa_nil hs2) hs) (by decide) (by decide) hs hpl) fun σ H Q ⟨Z, ρ, r1, I, e, q⟩ => ?_
  refine te_bind I e q fun v x H1 _ h1 s1 hv I1 q1 => ?_
  unfold gIsi at h1
  split at h1
  · cases h1
  rename_i n
  cases h1
  exact ⟨x, .ty T, _, _, _, rfl, .ty T, (Dp.same hide_sub (hv.dp I)).tyx n, kit_all hk, q _ H1 s1 (.bl _)⟩

/-! ### displays -/
@[simp] def eLst (g : FA) (ρ : Rho) : Option (Except Er Val) := match g ρ with
  | none => none
  | some (.error e) => some (.error e)
  | some (.ok vs) => if lineOk vs.length = true then match stAll vs with
    | some ds => some (.ok (.f ds))
    | none => some (.ok (.m (.list (vs.map Val.d)))) else none
@[simp] def eTup (g : FA) (ρ : Rho) : Option (Except Er Val) := match g ρ with
  | none => none
  | some (.error e) => some (.error e)
  | some (.ok vs) => if lineOk vs.length = true then match stAll vs with
    | some ds => some (.ok (.s (.tuple ds)))
    | none => some (.ok (.m (.tuple (vs.map Val.d)))) else none
theorem Paired.len {α β : Type} {F : α → β → Prop} {l₁ : List α} {l₂ : List β} (h : Paired F l₁ l₂) : l₁.length = l₂.length := Paired.length h
theorem de_lst (h : DA X Cl W es g) : DE X Cl W (.List es pos) (eLst g) := PE.imp (pe_lst h) fun σ H Q ⟨Z, ρ, r1, I, e, q⟩ => by
  unfold eLst at e
  cases e1 : g ρ with
  | none => rw [e1] at e; cases e
  | some r2 =>
    refine ta_step I e1 (fun er z => ?_) fun vs xs H1 ev s1 hvs I1 => ?_
    · rw [e1, z] at e
      cases e
      exact q
    · subst ev
      rw [e1] at e
      dsimp only at e
      split at e
      · rename_i hl
        refine ⟨by rw [Paired.len hvs]; exact lineOk_ok hl, fun p np => ?_⟩
        cases e2 : stAll vs with
        | some ds =>
          rw [e2] at e
          cases e
          exact q _ _ (s1.trans (same_upd np)) (VOk.new s1 np (hvs.stab I e2))
        | none =>
          rw [e2] at e
          cases e
          have nz : ¬ Z p := fun z => I1.live p z np
          refine q _ _ (s1.trans (same_upd np)) ?_
          exact .lst (Rd.of (hide_at nz upd_same)) (DpAll.same (hide_mono (same_upd np) fun _ h => .inl h) (hvs.dp I))
      · cases e
theorem de_tup {x1} (h : DA X Cl W es g) : DE X Cl W (.Tuple es x1 pos) (eTup g) := PE.imp (pe_tup h) fun σ H Q ⟨Z, ρ, r1, I, e, q⟩ => by
  unfold eTup at e
  cases e1 : g ρ with
  | none => rw [e1] at e; cases e
  | some r2 =>
    refine ta_step I e1 (fun er z => ?_) fun vs xs H1 ev s1 hvs I1 => ?_
    · rw [e1, z] at e
      cases e
      exact q
    · subst ev
      rw [e1] at e
      dsimp only at e
      split at e
      · rename_i hl
        refine ⟨by rw [Paired.len hvs]; exact lineOk_ok hl, fun p np => ?_⟩
        cases e2 : stAll vs with
        | some ds =>
          rw [e2] at e
          cases e
          have nz : ¬ Zo Z σ ρ p := fun z => I1.liveZ z np
          refine q _ _ (s1.trans (same_upd np)) ?_
          exact .tup (SqT.of (hide_at nz upd_same)) (DpAll.same (hide_mono (same_upd np) fun _ h => .inl h) (hvs.stab I e2))
        | none =>
          rw [e2] at e
          cases e
          have nz : ¬ Z p := fun z => I1.live p z np
          refine q _ _ (s1.trans (same_upd np)) ?_
          exact .tup (SqT.of (hide_at nz upd_same)) (DpAll.same (hide_mono (same_upd np) fun _ h => .inl h) (hvs.dp I))
      · cases e

/-! ### places and slices -/
theorem Dp.scr_inv {H : Hp} {x : V} {ks : List (D × D)} (n : ¬ excL ks = true) (h : Dp K H x (.dict ks)) : ∃ (a : Addr) (ns : List Int), x = .ref a ∧ ks = (ns.map fun n => (.int n, .none)) ∧ SqL K H a (ns.map V.int) := by
  cases h with
  | scr h => exact ⟨_, _, rfl, rfl, h⟩
  | exc _ _ => exact absurd rfl n
theorem SqL.same' {H H' : Hp} {a : Addr} {xs : List V} (s : Same H H') (h : SqL K H a xs) : SqL K H' a xs := s.seq h
def strAt (x : Str) (i : Int) : Option D := (atI x.cps.toList i).map fun c => .str ⟨#[c]⟩
@[simp] def gIx (a b : Val) : Option Val := match b.d with
  | .int i => match a with
    | .s (.list ds) => (atI ds i).map .s
    | .s (.tuple ds) => (atI ds i).map .s
    | .s (.str x) => if lineOk x.length = true then (strAt x i).map .s else none
    | .s (.dict ks) => if excL ks = true then none else (atI ks i).map fun p => .s p.1
    | .m (.list ds) => (atI ds i).map .m
    | .m (.tuple ds) => (atI ds i).map .m
    | .b ds => (atI ds i).map .s
    | .f ds => (atI ds i).map .s
    | _ => none
  | _ => none
theorem atI_pair {H : Hp} {xs : List V} {ds : List D} {i : Int} {d : D} (h : DpAll K H xs ds) (e : atI ds i = some d) : ∃ v, atI xs i = some v ∧ Dp K H v d := by
  unfold atI at e ⊢
  rw [h.length]
  cases e1 : ixN ds.length i with
  | none => rw [e1] at e; cases e
  | some j =>
    rw [e1] at e
    obtain ⟨v, h1, h2⟩ := h.get (show ds[j]? = some d from e)
    exact ⟨v, h1, h2⟩
theorem r2_ix : R2D K (rIx K) gIx := fun Z σ ρ H0 H x y a b v Q I s ha hb e q => by
  unfold gIx at e
  split at e
  · rename_i i e1
    have ey := hb.int_inv I e1
    subst ey
    have L : ∀ {Hh : Hp} {ds : List D} {d : D}, Same Hh H → Dp K Hh x (.list ds) → atI ds i = some d → (∀ z, Dp K Hh z d → Q z H) → rIx K x (.int i) H Q := fun {Hh ds d} sh h e q => by
      obtain ⟨p, xs, rfl, h1, h2⟩ := h.lst_inv
      obtain ⟨z, e2, hz⟩ := atI_pair h2 e
      exact .inl ⟨p, xs, i, z, rfl, rfl, .inl (Rd.same sh h1), e2, q z hz⟩
    have T : ∀ {Hh : Hp} {ds : List D} {d : D}, Same Hh H → Dp K Hh x (.tuple ds) → atI ds i = some d → (∀ z, Dp K Hh z d → Q z H) → rIx K x (.int i) H Q := fun {Hh ds d} sh h e q => by
      obtain ⟨p, xs, rfl, h1, h2⟩ := h.tup_inv
      obtain ⟨z, e2, hz⟩ := atI_pair h2 e
      exact .inr (.inl ⟨p, xs, i, z, rfl, rfl, SqT.same sh h1, e2, q z hz⟩)
    split at e
    · rename_i ds
      cases e2 : atI ds i with
      | none => rw [e2] at e; cases e
      | some d => rw [e2] at e; cases e; exact L hide_sub (show Dp K (hide H (Zo Z σ ρ)) x (.list ds) from ha) e2 fun z hz => q z H (Same.refl _) hz
    · rename_i ds
      cases e2 : atI ds i with
      | none => rw [e2] at e; cases e
      | some d => rw [e2] at e; cases e; exact T hide_sub (show Dp K (hide H (Zo Z σ ρ)) x (.tuple ds) from ha) e2 fun z hz => q z H (Same.refl _) hz
    · rename_i t
      split at e
      · rename_i hl
        unfold strAt at e
        cases e2 : atI t.cps.toList i with
        | none => rw [e2] at e; cases e
        | some c =>
          rw [e2] at e
          cases e
          exact .inr (.inr ⟨t, i, c, (show Dp K (hide H (Zo Z σ ρ)) x (.str t) from ha).str_inv, rfl, lineOk_ok hl, e2, q _ H (Same.refl _) (.str _)⟩)
      · cases e
    · rename_i ks
      split at e
      · cases e
      rename_i nx
      cases e2 : atI ks i with
      | none => rw [e2] at e; cases e
      | some p =>
        rw [e2] at e
        cases e
        obtain ⟨a, ns, rfl, rfl, h1⟩ := (show Dp K (hide H (Zo Z σ ρ)) x (.dict ks) from ha).scr_inv nx
        have e3 : atI (ns.map V.int) i = some (toV p.1) ∧ ∃ n, p.1 = .int n := by
          unfold atI at e2 ⊢
          rw [List.length_map] at e2 ⊢
          cases e4 : ixN ns.length i with
          | none => rw [e4] at e2; cases e2
          | some j =>
            rw [e4] at e2
            have e5 : (ns.map fun n => ((PyData.int n, PyData.none) : D × D))[j]? = some p := e2
            show (ns.map V.int)[j]? = _ ∧ _
            rw [List.getElem?_map] at e5 ⊢
            cases e6 : ns[j]? with
            | none => rw [e6] at e5; cases e5
            | some n =>
              rw [e6] at e5
              cases e5
              exact ⟨rfl, n, rfl⟩
        obtain ⟨e4, n, en⟩ := e3
        refine .inl ⟨a, _, i, _, rfl, rfl, SqL.same' hide_sub h1, e4, q _ H (Same.refl _) ?_⟩
        show Dp K _ (toV p.1) p.1
        rw [en]
        exact .int n
    · rename_i ds
      cases e2 : atI ds i with
      | none => rw [e2] at e; cases e
      | some d => rw [e2] at e; cases e; exact L hide_sub (show Dp K (hide H Z) x (.list ds) from ha) e2 fun z hz => q z H (Same.refl _) hz
    · rename_i ds
      cases e2 : atI ds i with
      | none => rw [e2] at e; cases e
      | some d => rw [e2] at e; cases e; exact T hide_sub (show Dp K (hide H Z) x (.tuple ds) from ha) e2 fun z hz => q z H (Same.refl _) hz
    · rename_i ds
      cases e2 : atI ds i with
      | none => rw [e2] at e; cases e
      | some d =>
        rw [e2] at e
        cases e
        obtain ⟨p, xs, rfl, n, h1, h2⟩ := ha
        obtain ⟨z, e3, hz⟩ := atI_pair h2 e2
        exact .inl ⟨p, xs, i, z, rfl, rfl, SqL.of h1, e3, q z H (Same.refl _) hz⟩
    · rename_i ds
      cases e2 : atI ds i with
      | none => rw [e2] at e; cases e
      | some d =>
        rw [e2] at e
        cases e
        obtain ⟨p, xs, rfl, n, h1, h2⟩ := ha
        obtain ⟨z, e3, hz⟩ := atI_pair h2 e2
        exact .inl ⟨p, xs, i, z, rfl, rfl, SqL.of h1, e3, q z H (Same.refl _) (Dp.same (hide_mono (Same.refl _) fun _ h => .inl (.inl h)) hz)⟩
    · cases e
  · cases e
theorem de_ix (ha : DE X Cl W a fa) (hb : DE X Cl W b fb) (hs : PlainIx b := by exact fun _ _ => rfl) : DE X Cl W (.Subscript a b pos) (e2 gIx fa fb) := de_tOp (pe_ix ix_seq ha hb hs) r2_ix
/-- an end of a slice -/
abbrev FO := Rho → Option (Except Er (Option Int))
def toOf (K : PySem.W.Frag) (Cl : Nat → Addr) (W : WX) (f : FO) : TO := fun σ H Q => ∃ Z ρ r, DI K Z H σ ρ ∧ f ρ = some r ∧ match r with
  | .ok o => ∀ H', Same H H' → Q o H'
  | .error e => ErOk Cl W σ H e
@[simp] def oNone (ρ : Rho) : Option (Except Er (Option Int)) := some (.ok none)
@[simp] def oSome (f : FE) (ρ : Rho) : Option (Except Er (Option Int)) := match f ρ with
  | none => none
  | some (.error e) => some (.error e)
  | some (.ok v) => match v.d with
    | .int i => some (.ok (some i))
    | _ => none
def DO (X : Cx) (Cl : Nat → Addr) (W : WX) (e : Option Expr) (f : FO) : Prop := PO X e (toOf X.K Cl W f)
theorem PO.imp {e : Option Expr} {t t' : TO} (h : PO X e t) (i : ∀ σ H Q, t' σ H Q → t σ H Q) : PO X e t' := ⟨fun pins s σ H Q I q => h.run pins s σ H Q I (i σ H Q q)⟩
theorem do_none : DO X Cl W none oNone := PO.imp po_none fun σ H Q ⟨Z, ρ, r, I, e, q⟩ => by cases e; exact q H (Same.refl _)
theorem do_some (h : DE X Cl W e f) : DO X Cl W (some e) (oSome f) := PO.imp (po_some h) fun σ H Q ⟨Z, ρ, r, I, e, q⟩ => by
  unfold oSome at e
  cases e1 : f ρ with
  | none => rw [e1] at e; cases e
  | some r1 =>
    refine te_step I e1 (fun er z => ?_) fun v x H1 ev s1 hv I1 => ?_
    · rw [e1, z] at e
      cases e
      exact q
    · subst ev
      rw [e1] at e
      dsimp only at e
      split at e
      · rename_i i e2
        cases e
        exact ⟨i, hv.int_inv I e2, q H1 s1⟩
      · cases e
/-- the items of xs[lo:hi], of any things -/
def cutL {α : Type} (xs : List α) (lo hi : Option Int) : List α := (xs.drop (HT.sIx xs.length 0 lo)).take (HT.sIx xs.length xs.length hi - HT.sIx xs.length 0 lo)
theorem cutL_V (xs : List V) (lo hi : Option Int) : cutL xs lo hi = cutV xs lo hi := rfl
theorem cutL_dp {H : Hp} {xs : List V} {ds : List D} {lo hi : Option Int} (h : DpAll K H xs ds) : DpAll K H (cutV xs lo hi) (cutL ds lo hi) := by
  unfold cutV cutL
  rw [h.length]
  exact (h.drop _).take _
def whole (n : Nat) (lo hi : Option Int) : Bool := decide (HT.sIx n 0 lo = 0 ∧ HT.sIx n n hi = n)
@[simp] def gSl (v : Val) (lo hi : Option Int) : Option Val := match v with
  | .s (.tuple ds) => if whole ds.length lo hi = true then none else some (.s (.tuple (cutL ds lo hi)))
  | .m (.tuple ds) => if whole ds.length lo hi = true then none else some (.m (.tuple (cutL ds lo hi)))
  | v => match v.items with
    | some ds => some (.f (cutL ds lo hi))
    | none => none
@[simp] def eSl (f : FE) (l h : FO) (ρ : Rho) : Option (Except Er Val) := match f ρ with
  | none => none
  | some (.error e) => some (.error e)
  | some (.ok v) => match l ρ with
    | none => none
    | some (.error e) => some (.error e)
    | some (.ok lo) => match h ρ with
      | none => none
      | some (.error e) => some (.error e)
      | some (.ok hi) => (gSl v lo hi).map .ok
theorem de_sl {lo hi : Option Expr} {l h : FO} {p2 : Pos} (he : DE X Cl W e f) (hl : DO X Cl W lo l) (hh : DO X Cl W hi h) : DE X Cl W (.Subscript e (.Slice lo hi none p2) pos) (eSl f l h) := PE.imp (pe_slice (sl_list.or sl_tup) he hl hh) fun σ H Q ⟨Z, ρ, r, I, e, q⟩ => by
  unfold eSl at e
  cases e1 : f ρ with
  | none => rw [e1] at e; cases e
  | some r1 =>
    refine te_step I e1 (fun er z => ?_) fun v x H1 ev s1 hv I1 => ?_
    · rw [e1, z] at e
      cases e
      exact q
    · subst ev
      rw [e1] at e
      dsimp only at e
      cases e2 : l ρ with
      | none => rw [e2] at e; cases e
      | some r2 =>
        refine ⟨Z, ρ, r2, I1, e2, ?_⟩
        cases r2 with
        | error er =>
          rw [e2] at e
          cases e
          exact ErOk.same s1 q
        | ok o1 =>
          rw [e2] at e
          dsimp only at e
          intro H2 s2
          have I2 := I1.same s2
          cases e3 : h ρ with
          | none => rw [e3] at e; cases e
          | some r3 =>
            refine ⟨Z, ρ, r3, I2, e3, ?_⟩
            cases r3 with
            | error er =>
              rw [e3] at e
              cases e
              exact ErOk.same (s1.trans s2) q
            | ok o2 =>
              rw [e3] at e
              dsimp only at e
              intro H3 s3
              have hv3 := hv.same (s2.trans s3)
              have I3 := I2.same s3
              have s13 := s1.trans (s2.trans s3)
              cases e4 : gSl v o1 o2 with
              | none => rw [e4] at e; cases e
              | some w =>
                rw [e4] at e
                cases e
                unfold gSl at e4
                split at e4
                · rename_i ds
                  split at e4
                  · cases e4
                  · rename_i hw
                    cases e4
                    obtain ⟨p, xs, rfl, h1, h2⟩ := Dp.tup_inv (show Dp X.K (hide H3 (Zo Z σ ρ)) x (.tuple ds) from hv3)
                    refine .inr ⟨p, xs, rfl, SqT.same hide_sub h1, fun z => hw (decide_eq_true (by rw [h2.length] at z; exact z)), fun a na => ?_⟩
                    have nz : ¬ Zo Z σ ρ a := fun z => I3.liveZ z na
                    refine q _ _ (s13.trans (same_upd na)) ?_
                    exact .tup (SqT.of (hide_at nz upd_same)) (DpAll.same (hide_mono (same_upd na) fun _ h => .inl h) (cutL_dp h2))
                · rename_i ds
                  split at e4
                  · cases e4
                  · rename_i hw
                    cases e4
                    obtain ⟨p, xs, rfl, h1, h2⟩ := Dp.tup_inv (show Dp X.K (hide H3 Z) x (.tuple ds) from hv3)
                    refine .inr ⟨p, xs, rfl, SqT.same hide_sub h1, fun z => hw (decide_eq_true (by rw [h2.length] at z; exact z)), fun a na => ?_⟩
                    have nz : ¬ Z a := fun z => I3.live a z na
                    refine q _ _ (s13.trans (same_upd na)) ?_
                    exact .tup (SqT.of (hide_at nz upd_same)) (DpAll.same (hide_mono (same_upd na) fun _ h => .inl h) (cutL_dp h2))
                · split at e4
                  · rename_i ds e5
                    cases e4
                    obtain ⟨p, xs, rfl, h1, h2⟩ := hv3.items I e5
                    refine .inl ⟨p, xs, rfl, .inl h1, fun a na => ?_⟩
                    exact q _ _ (s13.trans (same_upd na)) (VOk.new s13 na (cutL_dp h2))
                  · cases e4

/-! ### tests -/
abbrev FT := Rho → Option (Except Er Bool)
def RTk (Cl : Nat → Addr) (W : WX) (σ : St) (H : Hp) (Q : Bool → Hp → Prop) : Except Er Bool → Prop
  | .ok b => ∀ H', Same H H' → Q b H'
  | .error e => ErOk Cl W σ H e
def ttOf (K : PySem.W.Frag) (Cl : Nat → Addr) (W : WX) (f : FT) : TT := fun σ H Q => ∃ Z ρ r, DI K Z H σ ρ ∧ f ρ = some r ∧ RTk Cl W σ H Q r
def DT (X : Cx) (Cl : Nat → Addr) (W : WX) (e : Expr) (f : FT) : Prop := PT X e (ttOf X.K Cl W f)
def DW (X : Cx) (Cl : Nat → Addr) (W : WX) (e : Expr) (f : FT) : Prop := PW X e (ttOf X.K Cl W f)
/-- the value is True or False -/
@[simp] def tV (f : FE) (ρ : Rho) : Option (Except Er Bool) := match f ρ with
  | none => none
  | some (.error e) => some (.error e)
  | some (.ok v) => match v.d with
    | .bool b => some (.ok b)
    | _ => none
theorem te_tV {Z : Addr → Prop} {H : Hp} {σ : St} {ρ : Rho} {Q : Bool → Hp → Prop} {r : Except Er Bool} (I : DI K Z H σ ρ) (e : tV f ρ = some r) (q : RTk Cl W σ H Q r) :
    teOf K Cl W f σ H fun x H1 => ∃ k, x = .bl k ∧ Q k H1 := by
  unfold tV at e
  cases e1 : f ρ with
  | none => rw [e1] at e; cases e
  | some r1 =>
    refine te_step I e1 (fun er z => ?_) fun v x H1 ev s1 hv I1 => ?_
    · rw [e1, z] at e
      cases e
      exact q
    · subst ev
      rw [e1] at e
      dsimp only at e
      split at e
      · rename_i i e2
        cases e
        exact ⟨i, hv.bl_inv I e2, q H1 s1⟩
      · cases e
theorem dt_val (h : DE X Cl W e f) (he : ∀ whole, isTrue e X.env whole = (do let v ← whole; standAt e.pos; holding [v] (truthy v)) := by intro _; rfl) : DT X Cl W e (tV f) := PT.imp (pt_val h he) fun σ H Q ⟨Z, ρ, r, I, e, q⟩ => te_tV I e q
theorem dt_cmp {op : CmpOp} {r : R2} {g : Val → Val → Option Val} (ho : OpR X (compareOp op) r) (hr : R2D X.K r g) (ha : DE X Cl W a fa) (hb : DE X Cl W b fb) (hm : behindInMarks op b = false) : DT X Cl W (.Compare a [op] [b] pos) (tV (e2 g fa fb)) := PT.imp (pt_cmpR ho ha hb hm) fun σ H Q ⟨Z, ρ, r1, I, e, q⟩ => by
  have h := te_tV (W := W) (Cl := Cl) I e q
  obtain ⟨Z', ρ', r', I', e', q'⟩ := h
  refine te_bind I' e' q' fun v x H1 _ h1 s1 hv I1 q1 => te_bind I1 h1 q1 fun u y H2 _ h2 s2 hu I2 q2 => ?_
  cases hg : g v u with
  | none => rw [hg] at h2; cases h2
  | some w =>
    rw [hg] at h2
    cases h2
    exact hr Z' σ ρ' H H2 x y v u w _ I' (s1.trans s2) (hv.same s2) (hu.back s1) hg fun z H' s' hz => q' z H' (s1.trans (s2.trans s')) hz
@[simp] def tAndD (f g : FT) (ρ : Rho) : Option (Except Er Bool) := match f ρ with
  | some (.ok true) => g ρ
  | r => r
@[simp] def tOrD (f g : FT) (ρ : Rho) : Option (Except Er Bool) := match f ρ with
  | some (.ok false) => g ρ
  | r => r
@[simp] def tNotD (f : FT) (ρ : Rho) : Option (Except Er Bool) := match f ρ with
  | some (.ok b) => some (.ok (!b))
  | r => r
theorem tt_step {Z : Addr → Prop} {H : Hp} {σ : St} {ρ : Rho} {Q1 : Bool → Hp → Prop} {f : FT} {r : Except Er Bool} (I : DI K Z H σ ρ) (h : f ρ = some r) (he : ∀ e, r = .error e → ErOk Cl W σ H e)
    (go : ∀ b H1, r = .ok b → Same H H1 → DI K Z H1 σ ρ → Q1 b H1) : ttOf K Cl W f σ H Q1 := by
  refine ⟨Z, ρ, r, I, h, ?_⟩
  cases r with
  | error e => exact he e rfl
  | ok b => exact fun H1 s => go b H1 rfl s (I.same s)
variable {ta tb : FT} {rest : List Expr}
theorem dw_and1 (ha : DT X Cl W a ta) : DW X Cl W (.BoolOp .And [a] pos) ta := pw_and1 ha
theorem dw_or1 (ha : DT X Cl W a ta) : DW X Cl W (.BoolOp .Or [a] pos) ta := pw_or1 ha
theorem dw_and (ha : DT X Cl W a ta) (hb : DW X Cl W (.BoolOp .And (b :: rest) pos) tb) : DW X Cl W (.BoolOp .And (a :: b :: rest) pos) (tAndD ta tb) := PW.imp (pw_and ha hb) fun σ H Q ⟨Z, ρ, r, I, e, q⟩ => by
  unfold tAndD at e
  cases e1 : ta ρ with
  | none => rw [e1] at e; cases e
  | some r1 =>
    refine tt_step I e1 (fun er z => ?_) fun b H1 ev s1 I1 => ?_
    · rw [e1, z] at e
      cases e
      exact q
    · subst ev
      rw [e1] at e
      cases b with
      | true =>
        rw [if_pos rfl]
        refine ⟨Z, ρ, r, I1, e, ?_⟩
        cases r with
        | error er => exact ErOk.same s1 q
        | ok b => exact fun H2 s2 => q H2 (s1.trans s2)
      | false =>
        cases e
        exact q H1 s1
theorem dw_or (ha : DT X Cl W a ta) (hb : DW X Cl W (.BoolOp .Or (b :: rest) pos) tb) : DW X Cl W (.BoolOp .Or (a :: b :: rest) pos) (tOrD ta tb) := PW.imp (pw_or ha hb) fun σ H Q ⟨Z, ρ, r, I, e, q⟩ => by
  unfold tOrD at e
  cases e1 : ta ρ with
  | none => rw [e1] at e; cases e
  | some r1 =>
    refine tt_step I e1 (fun er z => ?_) fun b H1 ev s1 I1 => ?_
    · rw [e1, z] at e
      cases e
      exact q
    · subst ev
      rw [e1] at e
      cases b with
      | false =>
        rw [if_neg Bool.false_ne_true]
        refine ⟨Z, ρ, r, I1, e, ?_⟩
        cases r with
        | error er => exact ErOk.same s1 q
        | ok b => exact fun H2 s2 => q H2 (s1.trans s2)
      | true =>
        cases e
        exact q H1 s1
theorem dt_w (h : DW X Cl W e ta) : DT X Cl W e ta := PW.pt h
theorem dt_not (ha : DT X Cl W a ta) : DT X Cl W (.UnaryOp .Not a pos) (tNotD ta) := PT.imp (pt_not ha) fun σ H Q ⟨Z, ρ, r, I, e, q⟩ => by
  unfold tNotD at e
  cases e1 : ta ρ with
  | none => rw [e1] at e; cases e
  | some r1 =>
    refine tt_step I e1 (fun er z => ?_) fun b H1 ev s1 I1 => ?_
    · rw [e1, z] at e
      cases e
      exact q
    · subst ev
      rw [e1] at e
      cases e
      exact q H1 s1
/-- a if t else b -/
@[simp] def eIf (t : FT) (f g : FE) (ρ : Rho) : Option (Except Er Val) := match t ρ with
  | none => none
  | some (.error e) => some (.error e)
  | some (.ok true) => f ρ
  | some (.ok false) => g ρ
theorem de_if (hc : DT X Cl W c ta) (ha : DE X Cl W a fa) (hb : DE X Cl W b fb) : DE X Cl W (.IfExp c a b pos) (eIf ta fa fb) := PE.imp (pe_ifExp hc ha hb) fun σ H Q ⟨Z, ρ, r, I, e, q⟩ => by
  unfold eIf at e
  cases e1 : ta ρ with
  | none => rw [e1] at e; cases e
  | some r1 =>
    refine tt_step I e1 (fun er z => ?_) fun b H1 ev s1 I1 => ?_
    · rw [e1, z] at e
      cases e
      exact q
    · subst ev
      rw [e1] at e
      cases b with
      | true =>
        rw [if_pos rfl]
        exact ⟨Z, ρ, r, I1, e, q.from s1⟩
      | false =>
        rw [if_neg Bool.false_ne_true]
        exact ⟨Z, ρ, r, I1, e, q.from s1⟩
/-- and, or, not as values: True or False -/
@[simp] def eT (t : FT) (ρ : Rho) : Option (Except Er Val) := match t ρ with
  | none => none
  | some (.error e) => some (.error e)
  | some (.ok b) => ok (.bool b)
def eAndV (f g : FE) : FE := bE f fun v ρ => match v.d with
  | .bool true => g ρ
  | .bool false => ok (.bool false)
  | _ => none
def eOrV (f g : FE) : FE := bE f fun v ρ => match v.d with
  | .bool false => g ρ
  | .bool true => ok (.bool true)
  | _ => none
@[simp] def gNotV (v : Val) : Option Val := match v.d with
  | .bool b => some (.s (.bool (!b)))
  | _ => none
theorem de_one {op} (h : DE X Cl W a fa) : DE X Cl W (.BoolOp op [a] pos) fa := pe_one h
theorem de_andV (ha : DE X Cl W a fa) (hb : DE X Cl W (.BoolOp .And (b :: rest) pos) fb) : DE X Cl W (.BoolOp .And (a :: b :: rest) pos) (eAndV fa fb) := PE.imp (pe_and ha hb) fun σ H Q ⟨Z, ρ, r, I, e, q⟩ => by
  refine te_bind I e q fun v x H1 _ h1 s1 hv I1 q1 => ?_
  split at h1
  · rename_i e1
    exact ⟨true, hv.bl_inv I e1, ⟨Z, ρ, r, I1, h1, q1⟩⟩
  · rename_i e1
    cases h1
    exact ⟨false, hv.bl_inv I e1, q1 _ H1 (Same.refl _) (.bl _)⟩
  · cases h1
theorem de_orV (ha : DE X Cl W a fa) (hb : DE X Cl W (.BoolOp .Or (b :: rest) pos) fb) : DE X Cl W (.BoolOp .Or (a :: b :: rest) pos) (eOrV fa fb) := PE.imp (pe_or ha hb) fun σ H Q ⟨Z, ρ, r, I, e, q⟩ => by
  refine te_bind I e q fun v x H1 _ h1 s1 hv I1 q1 => ?_
  split at h1
  · rename_i e1
    exact ⟨false, hv.bl_inv I e1, ⟨Z, ρ, r, I1, h1, q1⟩⟩
  · rename_i e1
    cases h1
    exact ⟨true, hv.bl_inv I e1, q1 _ H1 (Same.refl _) (.bl _)⟩
  · cases h1
theorem de_notV (ha : DE X Cl W a fa) : DE X Cl W (.UnaryOp .Not a pos) (e1 gNotV fa) := PE.imp (pe_not ha) fun σ H Q ⟨Z, ρ, r, I, e, q⟩ => by
  refine te_bind I e q fun v x H1 _ h1 s1 hv I1 q1 => ?_
  unfold gNotV at h1
  split at h1
  · rename_i b e1
    cases h1
    exact ⟨b, hv.bl_inv I e1, q1 _ H1 (Same.refl _) (.bl _)⟩
  · cases h1
end
end DL
set_option Elab.async false
set_option linter.all false
set_option maxRecDepth 100000
set_option maxHeartbeats 4000000
/-! DL4: statements, loops, defs, by data. -/
namespace DL
open PySem PySem.Spec PyProof.Rows L2

/-! ### the state of a def's body -/
inductive Out where
  | nx (ρ : Rho) | ret (d : D) | retF (ds : List D) | retX (ds : List D) (k : Nat) | brk (ρ : Rho) | ct (ρ : Rho) | exc (ρ : Rho) (c : Nat) (i : Int)
abbrev FS := Rho → Option Out
structure SI (K : PySem.W.Frag) (H0 : Hp) (Z : Addr → Prop) (H : Hp) (σ : St) (ρ : Rho) : Prop where
  di : DI K Z H σ ρ
  same : Same H0 H
  new : ∀ a, Owned σ ρ a → H0 a = none
def OOk (K : PySem.W.Frag) (Cl : Nat → Addr) (W : WX) (H0 : Hp) (Z : Addr → Prop) (D : Ends) : Out → Prop
  | .nx ρ => ∀ σ H, SI K H0 Z H σ ρ → D.nx σ H
  | .brk ρ => ∀ σ H, SI K H0 Z H σ ρ → D.bk σ H
  | .ct ρ => ∀ σ H, SI K H0 Z H σ ρ → D.ct σ H
  | .ret d => ∀ v H, Same H0 H → Dp K (hide H Z) v d → D.rt v H
  | .retF ds => ∀ p xs H, Same H0 H → H0 p = none → H p = some (.lst xs) → DpAll K (hide H (ZP Z p)) xs ds → D.rt (.ref p) H
  | .retX ds k => ∀ T p xs ys H, Same H0 H → SqT K (hide H Z) T xs → DpAll K (hide H Z) xs ds → xs[k]? = some (.ref p) → H0 p = none → H p = some (.lst ys) → D.rt (.ref T) H
  | .exc ρ c i => ∀ dd σ H, SI K H0 Z H σ ρ → H dd = some (.xd [(("at" : Str), .int i)]) → W (.ref (Cl c)) (some dd) σ H
def tsOf (K : PySem.W.Frag) (Cl : Nat → Addr) (W : WX) (f : FS) : TS := fun D σ H => ∃ H0 Z ρ o, SI K H0 Z H σ ρ ∧ f ρ = some o ∧ OOk K Cl W H0 Z D o
def DS (X : Cx) (Cl : Nat → Addr) (W : WX) (st : Stmt) (f : FS) : Prop := PS X st (tsOf X.K Cl W f)
def DSs (X : Cx) (Cl : Nat → Addr) (W : WX) (st : List Stmt) (f : FS) : Prop := PSs X st (tsOf X.K Cl W f)
section
variable {K : PySem.W.Frag} {Cl : Nat → Addr} {W : WX} {H0 H1 : Hp} {Z : Addr → Prop} {H H' : Hp} {σ : St} {ρ : Rho} {D : Ends}
theorem SI.same' (I : SI K H0 Z H σ ρ) (s : Same H H') : SI K H0 Z H' σ ρ := ⟨I.di.same s, I.same.trans s, I.new⟩
/-- a later entry heap, for a part of the body -/
theorem SI.rebase (I : SI K H1 Z H σ ρ) (s : Same H0 H1) : SI K H0 Z H σ ρ := ⟨I.di, s.trans I.same, fun a h => s.free (I.new a h)⟩
theorem OOk.rebase {o : Out} (s : Same H0 H1) (h : OOk K Cl W H0 Z D o) : OOk K Cl W H1 Z D o := by
  cases o with
  | nx ρ => exact fun σ H I => h σ H (I.rebase s)
  | brk ρ => exact fun σ H I => h σ H (I.rebase s)
  | ct ρ => exact fun σ H I => h σ H (I.rebase s)
  | ret d => exact fun v H q e => h v H (s.trans q) e
  | retF ds => exact fun p xs H q n e1 e2 => h p xs H (s.trans q) (s.free n) e1 e2
  | retX ds k => exact fun T p xs ys H q e1 e2 e3 n e4 => h T p xs ys H (s.trans q) e1 e2 e3 (s.free n) e4
  | exc ρ c i => exact fun dd σ H I e => h dd σ H (I.rebase s) e
theorem OOk.err {e : Er} (I : SI K H0 Z H σ ρ) (h : OOk K Cl W H0 Z D (.exc ρ e.1 e.2)) : ErOk Cl W σ H e := fun dd H' s hd => h dd σ H' (I.same' s) hd

/-! ### slots change -/
theorem own_sub {i : Nat} {x : Option V} {s : Slot} (hs : ∀ ds, s ≠ .own ds) {j : Nat} {a : Addr} (h : OwnAt (σ.set i x) (ρ.set i s) j a) : OwnAt σ ρ j a := by
  obtain ⟨h1, ds, h2⟩ := h
  by_cases hj : i = j
  · subst hj
    rw [List.getElem?_set] at h2
    rw [if_pos rfl] at h2
    split at h2
    · exact absurd (Option.some.inj h2) (hs ds)
    · cases h2
  · rw [List.getElem?_set_ne hj] at h1 h2
    exact ⟨h1, ds, h2⟩
theorem DI.setS (I : DI K Z H σ ρ) {i : Nat} {x : Option V} {s : Slot} (hs : ∀ ds, s ≠ .own ds) (h : ∀ Hs, Same (hide H (Zo Z σ ρ)) Hs → SlotOk K H Hs (some x) s) : DI K Z H (σ.set i x) (ρ.set i s) := by
  have sub : ∀ a, Owned (σ.set i x) (ρ.set i s) a → Owned σ ρ a := fun a ⟨j, q⟩ => ⟨j, own_sub hs q⟩
  have hm : Same (hide H (Zo Z σ ρ)) (hide H (Zo Z (σ.set i x) (ρ.set i s))) := hide_mono (Same.refl _) fun b hb => .inl (hb.elim .inl fun z => .inr (sub b z))
  refine ⟨by rw [List.length_set, List.length_set]; exact I.len, fun j k a h1 h2 => I.one j k a (own_sub hs h1) (own_sub hs h2), fun a q => I.out a (sub a q), I.live, fun j t e => ?_⟩
  by_cases hj : i = j
  · subst hj
    rw [List.getElem?_set, if_pos rfl] at e
    split at e
    · rename_i hl
      cases e
      rw [List.getElem?_set, if_pos rfl, if_pos (by rw [← I.len]; exact hl)]
      exact h _ hm
    · cases e
  · rw [List.getElem?_set_ne hj] at e ⊢
    have q := I.slots j t e
    cases t with
    | un => trivial
    | dat d =>
      obtain ⟨v, e1, h1⟩ := q
      exact ⟨v, e1, Dp.same hm h1⟩
    | own ds =>
      obtain ⟨a, xs, e1, e2, h1⟩ := q
      exact ⟨a, xs, e1, e2, DpAll.same hm h1⟩
    | err a dd j => exact q
theorem DI.setDat (I : DI K Z H σ ρ) {i : Nat} {v : V} {d : DL.D} (h : Dp K (hide H (Zo Z σ ρ)) v d) : DI K Z H (σ.set i (some v)) (ρ.set i (.dat d)) :=
  I.setS (fun _ z => nomatch z) fun Hs s => ⟨v, rfl, Dp.same s h⟩
theorem DI.setUn (I : DI K Z H σ ρ) {i : Nat} {x : Option V} : DI K Z H (σ.set i x) (ρ.set i .un) := I.setS (fun _ z => nomatch z) fun _ _ => trivial
theorem SI.setDat (I : SI K H0 Z H σ ρ) {i : Nat} {v : V} {d : DL.D} (h : Dp K (hide H (Zo Z σ ρ)) v d) : SI K H0 Z H (σ.set i (some v)) (ρ.set i (.dat d)) :=
  ⟨I.di.setDat h, I.same, fun a ⟨j, q⟩ => I.new a ⟨j, own_sub (s := .dat d) (fun _ z => by cases z) q⟩⟩
theorem SI.setUn (I : SI K H0 Z H σ ρ) {i : Nat} {x : Option V} : SI K H0 Z H (σ.set i x) (ρ.set i .un) :=
  ⟨I.di.setUn, I.same, fun a ⟨j, q⟩ => I.new a ⟨j, own_sub (s := .un) (fun _ z => by cases z) q⟩⟩
theorem own_set {i : Nat} {p : Addr} {es : List DL.D} {j : Nat} {a : Addr} (h : OwnAt (σ.set i (some (.ref p))) (ρ.set i (.own es)) j a) : (i = j ∧ a = p) ∨ (i ≠ j ∧ OwnAt σ ρ j a) := by
  obtain ⟨h1, ds, h2⟩ := h
  by_cases hj : i = j
  · subst hj
    rw [List.getElem?_set, if_pos rfl] at h1
    split at h1
    · cases h1
      exact .inl ⟨rfl, rfl⟩
    · cases h1
  · rw [List.getElem?_set_ne hj] at h1 h2
    exact .inr ⟨hj, h1, ds, h2⟩
theorem DI.setOwn (I : DI K Z H1 σ ρ) (s1 : Same H1 H) {i : Nat} {p : Addr} {xs : List V} {ds : List DL.D} (np : H1 p = none) (hp : H p = some (.lst xs)) (h : DpAll K (hide H (ZP (Zo Z σ ρ) p)) xs ds) : DI K Z H (σ.set i (some (.ref p))) (ρ.set i (.own ds)) := by
  have nz : ¬ Zo Z σ ρ p := fun z => I.liveZ z np
  have no : ∀ j, ¬ OwnAt σ ρ j p := fun j q => nz (.inr ⟨j, q⟩)
  have sub : ∀ b, Zo Z (σ.set i (some (.ref p))) (ρ.set i (.own ds)) b → ZP (Zo Z σ ρ) p b := fun b hb => by
    rcases hb with hb | ⟨j, q⟩
    · exact .inl (.inl hb)
    · rcases own_set q with ⟨_, e⟩ | ⟨_, q⟩
      · exact .inr e
      · exact .inl (.inr ⟨j, q⟩)
  have hm : Same (hide H (ZP (Zo Z σ ρ) p)) (hide H (Zo Z (σ.set i (some (.ref p))) (ρ.set i (.own ds)))) := hide_mono (Same.refl _) fun b hb => .inl (sub b hb)
  have hm1 : Same (hide H1 (Zo Z σ ρ)) (hide H (Zo Z (σ.set i (some (.ref p))) (ρ.set i (.own ds)))) := hide_mono s1 fun b hb => by
    rcases sub b hb with z | rfl
    · exact .inl z
    · exact .inr np
  have I' := I.same s1
  refine ⟨by rw [List.length_set, List.length_set]; exact I.len, fun j k a h1 h2 => ?_, fun a ⟨j, q⟩ => ?_, I'.live, fun j t e => ?_⟩
  · rcases own_set h1 with ⟨e1, e2⟩ | ⟨n1, q1⟩
    · rcases own_set h2 with ⟨e3, e4⟩ | ⟨n2, q2⟩
      · rw [← e1, ← e3]
      · rw [e2] at q2
        exact absurd q2 (no k)
    · rcases own_set h2 with ⟨e3, e4⟩ | ⟨n2, q2⟩
      · rw [e4] at q1
        exact absurd q1 (no j)
      · exact I.one j k a q1 q2
  · rcases own_set q with ⟨_, e⟩ | ⟨_, q⟩
    · rw [e]
      exact fun z => nz (.inl z)
    · exact I.out a ⟨j, q⟩
  · by_cases hj : i = j
    · subst hj
      rw [List.getElem?_set, if_pos rfl] at e
      split at e
      · rename_i hl
        cases e
        rw [List.getElem?_set, if_pos rfl, if_pos (by rw [← I.len]; exact hl)]
        exact ⟨p, xs, rfl, hp, DpAll.same hm h⟩
      · cases e
    · rw [List.getElem?_set_ne hj] at e ⊢
      have q := I.slots j t e
      cases t with
      | un => trivial
      | dat d =>
        obtain ⟨v, e1, h1⟩ := q
        exact ⟨v, e1, Dp.same hm1 h1⟩
      | own es =>
        obtain ⟨a, ys, e1, e2, h1⟩ := q
        exact ⟨a, ys, e1, s1 _ _ e2, DpAll.same hm1 h1⟩
      | err a dd j => exact ⟨q.1, s1 _ _ q.2⟩
theorem SI.setOwn (I : SI K H0 Z H1 σ ρ) (s1 : Same H1 H) {i : Nat} {p : Addr} {xs : List V} {ds : List DL.D} (np : H1 p = none) (hp : H p = some (.lst xs)) (h : DpAll K (hide H (ZP (Zo Z σ ρ) p)) xs ds) : SI K H0 Z H (σ.set i (some (.ref p))) (ρ.set i (.own ds)) := by
  refine ⟨I.di.setOwn s1 np hp h, I.same.trans s1, fun a ⟨j, q⟩ => ?_⟩
  rcases own_set q with ⟨_, e⟩ | ⟨_, q⟩
  · rw [e]
    exact I.same.free np
  · exact I.new a ⟨j, q⟩
/-- slot i's own list is written -/
theorem SI.write (I : SI K H0 Z H σ ρ) {i : Nat} {p : Addr} {xs : List V} {ds es : List DL.D} (hi : σ[i]? = some (some (.ref p))) (hr : ρ[i]? = some (.own es)) (h : DpAll K (hide H (Zo Z σ ρ)) xs ds) : SI K H0 Z (upd H p (.lst xs)) σ (ρ.set i (.own ds)) := by
  have hil : i < ρ.length := (List.getElem?_eq_some_iff.mp hr).1
  have own_iff : ∀ j a, OwnAt σ (ρ.set i (.own ds)) j a ↔ OwnAt σ ρ j a := fun j a => by
    by_cases hj : i = j
    · subst hj
      constructor
      · rintro ⟨h1, _⟩
        exact ⟨h1, es, hr⟩
      · rintro ⟨h1, _⟩
        exact ⟨h1, ds, by rw [List.getElem?_set, if_pos rfl, if_pos hil]⟩
    · constructor
      · rintro ⟨h1, d, h2⟩
        rw [List.getElem?_set_ne hj] at h2
        exact ⟨h1, d, h2⟩
      · rintro ⟨h1, d, h2⟩
        exact ⟨h1, d, by rw [List.getElem?_set_ne hj]; exact h2⟩
  have zo_iff : ∀ b, Zo Z σ (ρ.set i (.own ds)) b ↔ Zo Z σ ρ b := fun b => by
    constructor
    · rintro (z | ⟨j, q⟩)
      · exact .inl z
      · exact .inr ⟨j, (own_iff j b).mp q⟩
    · rintro (z | ⟨j, q⟩)
      · exact .inl z
      · exact .inr ⟨j, (own_iff j b).mpr q⟩
  have hpo : Owned σ ρ p := ⟨i, hi, es, hr⟩
  have hm : Same (hide H (Zo Z σ ρ)) (hide (upd H p (.lst xs)) (Zo Z σ (ρ.set i (.own ds)))) := fun b o e => by
    obtain ⟨n, e1⟩ := hide_of e
    have nb : b ≠ p := fun z => n (.inr (z ▸ hpo))
    exact hide_at (fun z => n ((zo_iff b).mp z)) (by rw [upd_ne nb]; exact e1)
  have live : ∀ a, H a ≠ none → upd H p (.lst xs) a ≠ none := fun a h z => by
    by_cases e : a = p
    · rw [e, upd_same] at z; cases z
    · rw [upd_ne e] at z; exact h z
  refine ⟨⟨by rw [List.length_set]; exact I.di.len, fun j k a h1 h2 => I.di.one j k a ((own_iff j a).mp h1) ((own_iff k a).mp h2), fun a ⟨j, q⟩ => I.di.out a ⟨j, (own_iff j a).mp q⟩, fun a z => live a (I.di.live a z), fun j t e => ?_⟩, fun b o e => ?_, fun a ⟨j, q⟩ => I.new a ⟨j, (own_iff j a).mp q⟩⟩
  · by_cases hj : i = j
    · subst hj
      rw [List.getElem?_set, if_pos rfl, if_pos hil] at e
      cases e
      exact ⟨p, xs, hi, upd_same, DpAll.same hm h⟩
    · rw [List.getElem?_set_ne hj] at e
      have q := I.di.slots j t e
      cases t with
      | un => trivial
      | dat d =>
        obtain ⟨v, e1, h1⟩ := q
        exact ⟨v, e1, Dp.same hm h1⟩
      | own gs =>
        obtain ⟨a, ys, e1, e2, h1⟩ := q
        have na : a ≠ p := fun z => hj (I.di.one i j p ⟨hi, es, hr⟩ ⟨by rw [← z]; exact e1, gs, e⟩)
        exact ⟨a, ys, e1, by rw [upd_ne na]; exact e2, DpAll.same hm h1⟩
      | err a dd j =>
        obtain ⟨p', xs', ep, hp', _⟩ := I.di.slots i _ hr
        rw [hi] at ep
        cases ep
        have nd : dd ≠ p := fun z => by
          have q2 := q.2
          rw [z, hp'] at q2
          cases q2
        exact ⟨q.1, by rw [upd_ne nd]; exact q.2⟩
  · have nb : b ≠ p := fun z => by
      have q := I.new p hpo
      rw [← z, e] at q
      cases q
    rw [upd_ne nb]
    exact I.same b o e
end
end DL
set_option Elab.async false
set_option linter.all false
set_option maxRecDepth 100000
set_option maxHeartbeats 4000000
/-! DL5: rules for statements, by data. -/
namespace DL
open PySem PySem.Spec PyProof.Rows L2
section
variable {X : Cx} {Cl : Nat → Addr} {W : WX} {e e' : Expr} {f f' : FE} {st : Stmt} {sts sts' : List Stmt} {pos : Pos} {K : PySem.W.Frag}

/-- an expression within a statement: its value, or its error -/
@[simp] def sE (f : FE) (k : Val → FS) (ρ : Rho) : Option Out := match f ρ with
  | none => none
  | some (.error e) => some (.exc ρ e.1 e.2)
  | some (.ok v) => k v ρ
theorem ts_step {H0 : Hp} {Z : Addr → Prop} {H : Hp} {σ : St} {ρ : Rho} {D : Ends} {k : Val → FS} {o : Out} {Q1 : VK} (I : SI K H0 Z H σ ρ) (h : sE f k ρ = some o) (q : OOk K Cl W H0 Z D o)
    (go : ∀ v x H1, f ρ = some (.ok v) → k v ρ = some o → Same H H1 → VOk K Z σ ρ H H1 x v → SI K H0 Z H1 σ ρ → Q1 x H1) : teOf K Cl W f σ H Q1 := by
  unfold sE at h
  cases e : f ρ with
  | none => rw [e] at h; cases h
  | some r1 =>
    rw [e] at h
    refine te_step I.di e (fun er z => ?_) fun v x H1 ev s1 hv I1 => ?_
    · subst z
      cases h
      exact OOk.err I q
    · subst ev
      exact go v x H1 e h s1 hv (I.same' s1)

/-! ### blocks -/
@[simp] def fNx (ρ : Rho) : Option Out := some (.nx ρ)
@[simp] def fSeq (f g : FS) (ρ : Rho) : Option Out := match f ρ with
  | some (.nx ρ') => g ρ'
  | r => r
theorem ds_nil : DSs X Cl W [] fNx := PSs.imp pss_nil fun D σ H ⟨H0, Z, ρ, o, I, e, q⟩ => by cases e; exact q σ H I
theorem ds_one {f : FS} (h : DS X Cl W st f) : DSs X Cl W [st] f := pss_one h
theorem ds_cons {f g : FS} (h1 : DS X Cl W st f) (h2 : DSs X Cl W sts g) : DSs X Cl W (st :: sts) (fSeq f g) := PSs.imp (pss_cons h1 h2) fun D σ H ⟨H0, Z, ρ, o, I, e, q⟩ => by
  unfold fSeq at e
  cases e1 : f ρ with
  | none => rw [e1] at e; cases e
  | some o1 =>
    rw [e1] at e
    refine ⟨H0, Z, ρ, o1, I, e1, ?_⟩
    cases o1 with
    | nx ρ' => exact fun σ' H' I' => ⟨H0, Z, ρ', o, I', e, q⟩
    | brk ρ' => cases e; exact q
    | ct ρ' => cases e; exact q
    | ret d => cases e; exact q
    | retF ds => cases e; exact q
    | retX ds k => cases e; exact q
    | exc ρ' c i => cases e; exact q
theorem ds_pass : DS X Cl W (.Pass pos) fNx := PS.imp ps_pass fun D σ H ⟨H0, Z, ρ, o, I, e, q⟩ => by cases e; exact q σ H I
@[simp] def fBrk (ρ : Rho) : Option Out := some (.brk ρ)
@[simp] def fCt (ρ : Rho) : Option Out := some (.ct ρ)
theorem ds_break : DS X Cl W (.Break pos) fBrk := PS.imp ps_break fun D σ H ⟨H0, Z, ρ, o, I, e, q⟩ => by cases e; exact q σ H I
theorem ds_continue : DS X Cl W (.Continue pos) fCt := PS.imp ps_continue fun D σ H ⟨H0, Z, ρ, o, I, e, q⟩ => by cases e; exact q σ H I
/-- a slot's own list is from now on a list like any other -/
@[simp] def fShare (i : Nat) (g : FS) (ρ : Rho) : Option Out := match ρ[i]? with
  | some (.own ds) => g (ρ.set i (.dat (.list ds)))
  | _ => g ρ
theorem SI.share {H0 : Hp} {Z : Addr → Prop} {H : Hp} {σ : St} {ρ : Rho} {i : Nat} {ds : List D} (I : SI K H0 Z H σ ρ) (h : ρ[i]? = some (.own ds)) : SI K H0 Z H σ (ρ.set i (.dat (.list ds))) := by
  obtain ⟨p, xs, e1, e2, h1⟩ := I.di.slots i _ h
  have sub : ∀ {j a}, OwnAt σ (ρ.set i (.dat (.list ds))) j a → i ≠ j ∧ OwnAt σ ρ j a := fun {j a} ⟨h1, es, h2⟩ => by
    by_cases hj : i = j
    · subst hj
      rw [List.getElem?_set, if_pos rfl] at h2
      split at h2 <;> cases h2
    · rw [List.getElem?_set_ne hj] at h2
      exact ⟨hj, h1, es, h2⟩
  have hm : Same (hide H (Zo Z σ ρ)) (hide H (Zo Z σ (ρ.set i (.dat (.list ds))))) := hide_mono (Same.refl _) fun b hb => .inl (hb.elim .inl fun ⟨j, z⟩ => .inr ⟨j, (sub z).2⟩)
  have np : ¬ Zo Z σ (ρ.set i (.dat (.list ds))) p := fun z => z.elim (I.di.out p ⟨i, e1, ds, h⟩) fun ⟨j, z⟩ => (sub z).1 (I.di.one i j p ⟨e1, ds, h⟩ (sub z).2)
  refine ⟨⟨by rw [List.length_set]; exact I.di.len, fun j k a h1 h2 => I.di.one j k a (sub h1).2 (sub h2).2, fun a ⟨j, z⟩ => I.di.out a ⟨j, (sub z).2⟩, I.di.live, fun j t e => ?_⟩, I.same, fun a ⟨j, z⟩ => I.new a ⟨j, (sub z).2⟩⟩
  by_cases hj : i = j
  · subst hj
    rw [List.getElem?_set, if_pos rfl] at e
    split at e
    · cases e
      exact ⟨_, e1, .lst (Rd.of (hide_at np e2)) (DpAll.same hm h1)⟩
    · cases e
  · rw [List.getElem?_set_ne hj] at e
    have q := I.di.slots j t e
    cases t with
    | un => trivial
    | dat d =>
      obtain ⟨v, e1, h1⟩ := q
      exact ⟨v, e1, Dp.same hm h1⟩
    | own gs =>
      obtain ⟨a, ys, e1, e2, h1⟩ := q
      exact ⟨a, ys, e1, e2, DpAll.same hm h1⟩
    | err a dd j => exact q
theorem dss_share {i : Nat} {g : FS} (h : DSs X Cl W sts g) : DSs X Cl W sts (fShare i g) := PSs.imp h fun D σ H ⟨H0, Z, ρ, o, I, e, q⟩ => by
  unfold fShare at e
  split at e
  · rename_i ds hd
    exact ⟨H0, Z, _, o, I.share hd, e, q⟩
  · exact ⟨H0, Z, ρ, o, I, e, q⟩

/-! ### stores -/
def fSet (i : Nat) (f : FE) : FS := sE f fun v ρ => v.st.map fun d => .nx (ρ.set i (.dat d))
def fSetO (i : Nat) (f : FE) : FS := sE f fun v ρ => match v with
  | .f ds => some (.nx (ρ.set i (.own ds)))
  | _ => none
theorem set_read {i : Nat} {D : Ends} {σ : St} {H : Hp} (h : tsOf K Cl W (fSet i f) D σ H) : tAsg (teOf K Cl W f) (gName i) D σ H := by
  obtain ⟨H0, Z, ρ, o, I, e, q⟩ := h
  refine ts_step I e q fun v x H1 _ h1 s1 hv I1 => ?_
  cases e1 : v.st with
  | none => rw [e1] at h1; cases h1
  | some d =>
    rw [e1] at h1
    cases h1
    exact q _ _ (I1.setDat (hv.stab I.di e1))
theorem setO_read {i : Nat} {D : Ends} {σ : St} {H : Hp} (h : tsOf K Cl W (fSetO i f) D σ H) : tAsg (teOf K Cl W f) (gName i) D σ H := by
  obtain ⟨H0, Z, ρ, o, I, e, q⟩ := h
  refine ts_step I e q fun v x H1 _ h1 s1 hv I1 => ?_
  split at h1
  · cases h1
    obtain ⟨p, xs, rfl, n, e2, h2⟩ := hv
    exact q _ _ (I.setOwn s1 n e2 h2)
  · cases h1
theorem ds_set {i : Nat} {x : Str} {pos' : Pos} (hN : X.N.Nodup) (he : DE X Cl W e f) (hi : X.N[i]? = some x := by rfl) (hx : Loc X.env.scope x := by first | exact .inl rfl | exact .inr rfl) (hs : swapsWith e (some (.Name x pos')) pos.line X.env = pure false := by rfl) (hf : X.fn x = true ∨ X.env.scope.names.lookup x = some .local := by first | exact .inl rfl | exact .inr rfl) :
    DS X Cl W (.Assign [.Name x pos'] e pos) (fSet i f) := PS.imp (ps_set hN hi hx he hs hf) fun D σ H h => set_read h
theorem ds_setO {i : Nat} {x : Str} {pos' : Pos} (hN : X.N.Nodup) (he : DE X Cl W e f) (hi : X.N[i]? = some x := by rfl) (hx : Loc X.env.scope x := by first | exact .inl rfl | exact .inr rfl) (hs : swapsWith e (some (.Name x pos')) pos.line X.env = pure false := by rfl) (hf : X.fn x = true ∨ X.env.scope.names.lookup x = some .local := by first | exact .inl rfl | exact .inr rfl) :
    DS X Cl W (.Assign [.Name x pos'] e pos) (fSetO i f) := PS.imp (ps_set hN hi hx he hs hf) fun D σ H h => setO_read h
def fDrop (f : FE) : FS := sE f fun _ ρ => some (.nx ρ)
theorem ds_expr (he : DE X Cl W e f) (hs : swapsWith e none pos.line X.env = pure false := by rfl) : DS X Cl W (.Expr e pos) (fDrop f) := PS.imp (ps_expr he hs) fun D σ H ⟨H0, Z, ρ, o, I, e, q⟩ => by
  refine ts_step I e q fun v x H1 _ h1 s1 hv I1 => ?_
  cases h1
  exact q _ _ I1
def fRet (f : FE) : FS := sE f fun v _ => match v with
  | .s d => some (.ret d)
  | .m d => some (.ret d)
  | .b ds => some (.retF ds)
  | .f ds => some (.retF ds)
theorem ds_ret (he : DE X Cl W e f) : DS X Cl W (.Return (some e) pos) (fRet f) := PS.imp (ps_ret he) fun D σ H ⟨H0, Z, ρ, o, I, e, q⟩ => by
  refine ts_step I e q fun v x H1 _ h1 s1 hv I1 => ?_
  cases v with
  | s d => cases h1; exact q x H1 I1.same (Dp.same (hide_mono (Same.refl _) fun _ h => .inl (.inl h)) hv)
  | m d => cases h1; exact q x H1 I1.same hv
  | b ds =>
    cases h1
    obtain ⟨p, xs, rfl, n, h2, h3⟩ := hv
    refine q p xs H1 I1.same (I.new p n) h2 (DpAll.same (hide_mono (Same.refl _) fun b hb => .inl ?_) h3)
    rcases hb with hb | rfl
    · exact .inl hb
    · exact .inr n
  | f ds =>
    cases h1
    obtain ⟨p, xs, rfl, n, h2, h3⟩ := hv
    refine q p xs H1 I1.same (I.same.free n) h2 (DpAll.same (hide_mono (Same.refl _) fun b hb => .inl ?_) h3)
    rcases hb with hb | rfl
    · exact .inl (.inl hb)
    · exact .inr rfl
@[simp] def fRetN (ρ : Rho) : Option Out := some (.ret .none)
theorem ds_retN : DS X Cl W (.Return none pos) fRetN := PS.imp ps_retN fun D σ H ⟨H0, Z, ρ, o, I, e, q⟩ => by
  cases e
  exact q .non H I.same .non
@[simp] def fIf (t : FT) (f g : FS) (ρ : Rho) : Option Out := match t ρ with
  | none => none
  | some (.error e) => some (.exc ρ e.1 e.2)
  | some (.ok true) => f ρ
  | some (.ok false) => g ρ
theorem ds_if {c : Expr} {a b : List Stmt} {t : FT} {f g : FS} (hc : DT X Cl W c t) (ha : DSs X Cl W a f) (hb : DSs X Cl W b g) : DS X Cl W (.If c a b pos) (fIf t f g) := PS.imp (ps_if hc ha hb) fun D σ H ⟨H0, Z, ρ, o, I, e, q⟩ => by
  unfold fIf at e
  cases e1 : t ρ with
  | none => rw [e1] at e; cases e
  | some r1 =>
    refine tt_step I.di e1 (fun er z => ?_) fun b H1 ev s1 I1 => ?_
    · subst z
      rw [e1] at e
      cases e
      exact OOk.err I q
    · subst ev
      rw [e1] at e
      cases b with
      | true =>
        rw [if_pos rfl]
        exact ⟨H0, Z, ρ, o, I.same' s1, e, q⟩
      | false =>
        rw [if_neg Bool.false_ne_true]
        exact ⟨H0, Z, ρ, o, I.same' s1, e, q⟩
/-- x op= e of ints -/
@[simp] def fAug (i : Nat) (g : Int → Int → Int) (f : FE) (ρ : Rho) : Option Out := match ρ[i]? with
  | some (.dat (.int a)) => sE f (fun v ρ => match v.d with
    | .int b => some (.nx (ρ.set i (.dat (.int (g a b)))))
    | _ => none) ρ
  | _ => none
theorem ds_aug {i : Nat} {x : Str} {op : Operator} {g : Int → Int → Int} {pos' : Pos} (hN : X.N.Nodup) (he : DE X Cl W e f) (ho : PIp X op (ipI g)) (hi : X.N[i]? = some x := by rfl) (hx : Loc X.env.scope x := by first | exact .inl rfl | exact .inr rfl) (hf : X.fn x = true ∨ X.env.scope.names.lookup x = some .local := by first | exact .inl rfl | exact .inr rfl) :
    DS X Cl W (.AugAssign (.Name x pos') op e pos) (fAug i g f) := PS.imp (ps_aug hN hi hx he ho hf) fun D σ H ⟨H0, Z, ρ, o, I, e, q⟩ => by
  unfold fAug at e
  split at e
  · rename_i a ha
    obtain ⟨v, e1, h1⟩ := I.di.slots i _ ha
    have e2 := h1.int_inv
    subst e2
    refine ⟨_, e1, ts_step I e q fun v x H1 _ h1 s1 hv I1 => ?_⟩
    split at h1
    · rename_i b hb
      cases h1
      exact ⟨a, b, rfl, hv.int_inv I.di hb, q _ _ (I1.setDat (.int _))⟩
    · cases h1
  · cases e

/-! ### lists changed in place -/
theorem ownSlot {H0 : Hp} {Z : Addr → Prop} {H : Hp} {σ : St} {ρ : Rho} {i : Nat} {ds : List D} (I : SI K H0 Z H σ ρ) (h : ρ[i]? = some (.own ds)) : ∃ p xs, σ[i]? = some (some (.ref p)) ∧ H p = some (.lst xs) ∧ DpAll K (hide H (Zo Z σ ρ)) xs ds := I.di.slots i _ h
@[simp] def fOwn (i : Nat) (k : List D → FS) (ρ : Rho) : Option Out := match ρ[i]? with
  | some (.own ds) => k ds ρ
  | _ => none
def fApp (i : Nat) (f : FE) : FS := fOwn i fun ds => sE f fun v ρ => match v.st with
  | some d => if lineOk (ds.length + 1) = true then some (.nx (ρ.set i (.own (ds ++ [d])))) else none
  | none => none
theorem ds_app {i : Nat} {c : Expr} (hp : PE X c (tBM X.K "list" rAppend (tVar i) (tCons (teOf X.K Cl W f) tNil))) (hs : swapsWith c none pos.line X.env = pure false := by rfl) : DS X Cl W (.Expr c pos) (fApp i f) := PS.imp (ps_expr hp hs) fun D σ H ⟨H0, Z, ρ, o, I, e, q⟩ => by
  unfold fApp fOwn at e
  split at e
  · rename_i ds hd
    obtain ⟨p, xs, e1, e2, h1⟩ := ownSlot I hd
    refine ⟨_, e1, .inl ⟨rfl, xs, .inl (.inl e2)⟩, ts_step I e q fun v x H1 _ h2 s1 hv I1 => ?_⟩
    split at h2
    · rename_i d hst
      split at h2
      · rename_i hl
        cases h2
        have h3 := DpAll.same (hide_mono s1 fun _ h => .inl h) h1
        refine ⟨p, xs, x, rfl, rfl, s1 _ _ e2, by have := lineOk_ok hl; rw [h1.length]; omega, ?_⟩
        exact q _ _ (I1.write e1 hd (h3.append (.cons (hv.stab I.di hst) .nil)))
      · cases h2
    · cases h2
  · cases e
/-- xs.extend(ys), ys tracked or known -/
def rExtR : V → List V → Hp → VK → Prop := fun x vs H Q => ∃ l b xs zs, x = .ref l ∧ vs = [.ref b] ∧ H l = some (.lst xs) ∧ Rd H b (.lst zs) ∧ xs.length + zs.length ≤ sizeLine ∧ Q .non (upd H l (.lst (xs ++ zs)))
theorem mt_extR : MtM X "list.extend" rExtR := by
  intro pins s σ H x vs v us Q I rx rv h
  obtain ⟨l, b, xs, zs, rfl, rfl, hH, hB, hz, q⟩ := h
  cases rx
  obtain ⟨u, rfl, ru⟩ := rv.one
  cases ru
  obtain ⟨z, its, n, r, hl, e⟩ := I.lstM hH
  obtain ⟨z2, its2, n2, r2, hl2, e2⟩ := Rd.lstM I hB
  have hsz : its.toArray.size + its2.toArray.size ≤ sizeLine := by rw [List.size_toArray, List.size_toArray]; omega
  have hlong : ¬ (!its.toArray.isEmpty && Builtin.List.listTooLong (its.toArray.size + its2.toArray.size)) = true := by
    rw [notLongL hsz, Bool.and_false]
    exact Bool.false_ne_true
  refine call_meets F.slot_list_extend ⟨_, e, rfl⟩ F.entry_list_extend (F.args_list_extend_2 _ _)
    (AutoSeq1.list_extend_list_list_0 l its.toArray n b its2.toArray n2 hlong (by rw [List.size_toArray]; omega) (by omega)) ⟨e, e2, ?_⟩
  refine ⟨.non, _, I.lset (its' := its ++ its2) hH e (by simp) (r.append r2) ?_, rfl, q⟩
  rw [List.length_append]
  omega
def fExt (i : Nat) (f : FE) : FS := fOwn i fun ds => sE f fun v ρ => match v.items with
  | some es => if lineOk (ds.length + es.length) = true then some (.nx (ρ.set i (.own (ds ++ es)))) else none
  | none => none
theorem ds_ext {i : Nat} {c : Expr} (hp : PE X c (tBM X.K "list" rExtR (tVar i) (tCons (teOf X.K Cl W f) tNil))) (hs : swapsWith c none pos.line X.env = pure false := by rfl) : DS X Cl W (.Expr c pos) (fExt i f) := PS.imp (ps_expr hp hs) fun D σ H ⟨H0, Z, ρ, o, I, e, q⟩ => by
  unfold fExt fOwn at e
  split at e
  · rename_i ds hd
    obtain ⟨p, xs, e1, e2, h1⟩ := ownSlot I hd
    refine ⟨_, e1, .inl ⟨rfl, xs, .inl (.inl e2)⟩, ts_step I e q fun v x H1 _ h2 s1 hv I1 => ?_⟩
    split at h2
    · rename_i es hst
      split at h2
      · rename_i hl
        cases h2
        have h3 := DpAll.same (hide_mono s1 fun _ h => .inl h) h1
        obtain ⟨b, zs, rfl, h4, h5⟩ := hv.items I.di hst
        refine ⟨p, b, xs, zs, rfl, rfl, s1 _ _ e2, h4, by rw [h1.length, h5.length]; exact lineOk_ok hl, ?_⟩
        exact q _ _ (I1.write e1 hd (h3.append h5))
      · cases h2
    · cases h2
  · cases e
def fPop (i : Nat) : FS := fOwn i fun ds ρ => if ds.isEmpty = true then none else some (.nx (ρ.set i (.own ds.dropLast)))
theorem ds_pop {i : Nat} {c : Expr} (hp : PE X c (tBM0 X.K "list" rPop (tVar i))) (hs : swapsWith c none pos.line X.env = pure false := by rfl) : DS X Cl W (.Expr c pos) (fPop i) := PS.imp (ps_expr hp hs) fun D σ H ⟨H0, Z, ρ, o, I, e, q⟩ => by
  unfold fPop fOwn at e
  split at e
  · rename_i ds hd
    obtain ⟨p, xs, e1, e2, h1⟩ := ownSlot I hd
    dsimp only at e
    split at e
    · cases e
    · rename_i hne
      cases e
      have hl := h1.length
      have hpos : 0 < xs.length := by
        cases ds with
        | nil => exact absurd rfl hne
        | cons a r => rw [hl]; exact Nat.succ_pos _
      obtain ⟨y, hy⟩ : ∃ y, xs[xs.length - 1]? = some y := ⟨_, List.getElem?_eq_getElem (by omega)⟩
      refine ⟨_, e1, .inl ⟨rfl, xs, .inl (.inl e2)⟩, p, xs, y, rfl, rfl, e2, hy, ?_⟩
      exact q _ _ (I.write e1 hd h1.dropLast)
  · cases e
/-- x[k] = e of a slot's own list -/
def fPut (i : Nat) (fk fe : FE) : FS := sE fe fun v => fOwn i fun ds => sE fk fun k ρ => match k.d, v.st with
  | .int j, some d => (ixN ds.length j).map fun n => .nx (ρ.set i (.own (ds.set n d)))
  | _, _ => none
theorem ds_put {i : Nat} {tg : Expr} {fk : FE} (he : DE X Cl W e f) (hg : PG X tg (L2.gSub (tVar i) (teOf X.K Cl W fk) rSetL)) (hs : swapsWithSole [tg] e pos.line X.env = pure false := by rfl) (hw : swappedStores [tg] e X.env = pure none := by rfl)
    (h1 : (assignEach [tg] X.env).map (·.2) = [assign tg X.env] := by rfl) : DS X Cl W (.Assign [tg] e pos) (fPut i fk f) := PS.imp (ps_asg he hg hs hw h1) fun D σ H ⟨H0, Z, ρ, o, I, e, q⟩ => by
  refine ts_step I e q fun v x H1 _ h2 s1 hv I1 => ?_
  unfold fOwn at h2
  split at h2
  · rename_i ds hd
    obtain ⟨p, xs, e1, e2, h1⟩ := ownSlot I1 hd
    refine ⟨_, e1, ts_step I1 h2 q fun u y H2 _ h3 s2 hu I2 => ?_⟩
    split at h3
    · rename_i j d ej hst
      cases e3 : ixN ds.length j with
      | none => rw [e3] at h3; cases h3
      | some n =>
        rw [e3] at h3
        cases h3
        have h4 := DpAll.same (hide_mono s2 fun _ h => .inl h) h1
        refine ⟨p, xs, j, n, rfl, hu.int_inv I1.di ej, s2 _ _ e2, by rw [h1.length]; exact e3, ?_⟩
        exact q _ _ (I2.write e1 hd (DpAll.set ((hv.same s2).stab I.di hst) n h4))
    · cases h3
  · cases h2

/-! ### targets -/
theorem zo_dat {Z : Addr → Prop} {H : Hp} {σ : St} {ρ : Rho} {i : Nat} {x : Option V} {d : D} : Same (hide H (Zo Z σ ρ)) (hide H (Zo Z (σ.set i x) (ρ.set i (.dat d)))) :=
  hide_mono (Same.refl _) fun b hb => .inl (hb.elim .inl fun ⟨j, z⟩ => .inr ⟨j, own_sub (s := .dat d) (fun _ z => by cases z) z⟩)
abbrev FG := D → Rho → Option Rho
def tgOf (K : PySem.W.Frag) (g : FG) : TG := fun v σ H Q => ∃ H0 Z ρ d ρ', SI K H0 Z H σ ρ ∧ Dp K (hide H (Zo Z σ ρ)) v d ∧ g d ρ = some ρ' ∧ ∀ σ', SI K H0 Z H σ' ρ' → Q σ' H
def DG (X : Cx) (tg : Expr) (g : FG) : Prop := PG X tg (tgOf X.K g)
theorem PG.imp {tg : Expr} {t t' : TG} (h : PG X tg t) (i : ∀ v σ H Q, t' v σ H Q → t v σ H Q) : PG X tg t' := ⟨fun pins s σ H v u Q I r q => h.run pins s σ H v u Q I r (i v σ H Q q)⟩
def gN (i : Nat) : FG := fun d ρ => some (ρ.set i (.dat d))
theorem dg_name {i : Nat} {x : Str} (hN : X.N.Nodup) (hi : X.N[i]? = some x := by rfl) (hx : Loc X.env.scope x := by first | exact .inl rfl | exact .inr rfl) (hf : X.fn x = true ∨ X.env.scope.names.lookup x = some .local := by first | exact .inl rfl | exact .inr rfl) : DG X (.Name x pos) (gN i) :=
  PG.imp (pg_name hN hi hx hf) fun v σ H Q ⟨H0, Z, ρ, d, ρ', I, h, e, q⟩ => by
    cases e
    exact q _ (I.setDat h)
abbrev FGs := List D → Rho → Option Rho
def tgsOf (K : PySem.W.Frag) (g : FGs) : TGs := fun vs σ H Q => ∃ H0 Z ρ ds ρ', SI K H0 Z H σ ρ ∧ DpAll K (hide H (Zo Z σ ρ)) vs ds ∧ g ds ρ = some ρ' ∧ ∀ σ', SI K H0 Z H σ' ρ' → Q σ' H
def DGs (X : Cx) (tgs : List Expr) (g : FGs) : Prop := PGs X tgs (tgsOf X.K g)
theorem PGs.imp {tg : List Expr} {t t' : TGs} (h : PGs X tg t) (i : ∀ v σ H Q, t' v σ H Q → t v σ H Q) : PGs X tg t' := ⟨fun pins s σ H v u Q I r q => h.run pins s σ H v u Q I r (i v σ H Q q)⟩
def gsNil : FGs := fun ds ρ => match ds with
  | [] => some ρ
  | _ => none
def gsCons (i : Nat) (g : FGs) : FGs := fun ds ρ => match ds with
  | d :: r => g r (ρ.set i (.dat d))
  | [] => none
theorem dgs_nil : DGs X [] gsNil := PGs.imp pgs_nil fun vs σ H Q ⟨H0, Z, ρ, ds, ρ', I, h, e, q⟩ => by
  cases ds with
  | nil => cases e; cases h; exact ⟨rfl, q σ I⟩
  | cons _ _ => cases e
theorem dgs_cons {i : Nat} {x : Str} {g : FGs} {es : List Expr} (hN : X.N.Nodup) (hr : DGs X es g) (hi : X.N[i]? = some x := by rfl) (hx : Loc X.env.scope x := by first | exact .inl rfl | exact .inr rfl) (hf : X.fn x = true ∨ X.env.scope.names.lookup x = some .local := by first | exact .inl rfl | exact .inr rfl)
    (hs : (assignEach (.Name x pos :: es) X.env).map (·.2) = assign (.Name x pos) X.env :: (assignEach es X.env).map (·.2) := by rfl) : DGs X (.Name x pos :: es) (gsCons i g) :=
  PGs.imp (pgs_cons (pg_name hN hi hx hf) hr hs) fun vs σ H Q ⟨H0, Z, ρ, ds, ρ', I, h, e, q⟩ => by
    cases ds with
    | nil => cases e
    | cons d r =>
      cases h with
      | @cons v vr _ _ a b =>
        exact ⟨v, vr, rfl, ⟨H0, Z, ρ.set i (.dat d), r, ρ', I.setDat a, DpAll.same zo_dat b, e, q⟩⟩
def gT (n : Nat) (g : FGs) : FG := fun d ρ => match d with
  | .tuple ds => if ds.length = n then g ds ρ else none
  | _ => none
theorem dg_tup {es : List Expr} {k : Nat} {g : FGs} {n : Nat} (hc : X.calm = true) (h : DGs X es g) (hn : (assignEach es X.env).length = n := by rfl) (hst : (assignEach es X.env).findIdx? (·.1) = none := by rfl) : DG X (.Tuple es k pos) (gT n g) :=
  PG.imp (pg_tup hc h hn hst) fun v σ H Q ⟨H0, Z, ρ, d, ρ', I, hd, e, q⟩ => by
    unfold gT at e
    split at e
    · rename_i ds
      split at e
      · rename_i hl
        obtain ⟨a, xs, rfl, h1, h2⟩ := hd.tup_inv
        exact ⟨a, xs, rfl, SqT.same hide_sub h1, by rw [h2.length]; exact hl, ⟨H0, Z, ρ, ds, ρ', I, h2, e, q⟩⟩
      · cases e
    · cases e
end
end DL
set_option Elab.async false
set_option linter.all false
set_option maxRecDepth 100000
set_option maxHeartbeats 4000000
/-! DL6: loops and defs, by data. -/
namespace DL
open PySem PySem.Spec PyProof.Rows L2

/-! ### what a for walks -/
abbrev FI := Rho → Option (Except Er (List D))
def ItOk (K : PySem.W.Frag) (Hs : Hp) (J : It) (ds : List D) : Prop := ∀ (Z' : Addr → Prop) (H' : Hp), Same Hs (hide H' Z') → (∀ b, Z' b → H' b ≠ none) →
  (∀ i, i < ds.length → J.go i H') ∧ (∀ i, ds.length ≤ i → J.stop i H') ∧ ∀ i x H'' d, J.yld i H' x H'' → ds[i]? = some d → Same H' H'' ∧ Dp K (hide H'' Z') x d
def RIk (K : PySem.W.Frag) (Cl : Nat → Addr) (W : WX) (Z : Addr → Prop) (σ : St) (ρ : Rho) (H : Hp) (R : It → Hp → Prop) : Except Er (List D) → Prop
  | .ok ds => ∀ J H1, Same H H1 → ItOk K (hide H1 (Zo Z σ ρ)) J ds → R J H1
  | .error e => ErOk Cl W σ H e
def tiOf (K : PySem.W.Frag) (Cl : Nat → Addr) (W : WX) (f : FI) : TI := fun σ H R => ∃ Z ρ r, DI K Z H σ ρ ∧ f ρ = some r ∧ RIk K Cl W Z σ ρ H R r
def DIt (X : Cx) (Cl : Nat → Addr) (W : WX) (tg e : Expr) (f : FI) : Prop := PI X tg e (tiOf X.K Cl W f)
theorem PI.imp {X : Cx} {tg e : Expr} {t t' : TI} (h : PI X tg e t) (i : ∀ σ H Q, t' σ H Q → t σ H Q) : PI X tg e t' := ⟨fun pins s σ H Q I q => h.run pins s σ H Q I (i σ H Q q)⟩
theorem PI.or {X : Cx} {tg e : Expr} {t t' : TI} (h : PI X tg e t) (h' : PI X tg e t') : PI X tg e (fun σ H R => t σ H R ∨ t' σ H R) := ⟨fun pins s σ H Q I q => q.elim (h.run pins s σ H Q I) (h'.run pins s σ H Q I)⟩
section
variable {X : Cx} {Cl : Nat → Addr} {W : WX} {e tg : Expr} {es : List Expr} {f : FE} {g : FA} {p pos : Pos} {K : PySem.W.Frag}
def signs (x : Str) : List D := x.cps.toList.map fun c => .str ⟨#[c]⟩
@[simp] def iSeq (f : FE) (ρ : Rho) : Option (Except Er (List D)) := match f ρ with
  | none => none
  | some (.error e) => some (.error e)
  | some (.ok v) => match v with
    | .s (.list ds) => some (.ok ds)
    | .s (.tuple ds) => some (.ok ds)
    | .s (.str x) => some (.ok (signs x))
    | .f ds => some (.ok ds)
    | _ => none
theorem it_list {Hs : Hp} {a : Addr} {xs : List V} {ds : List D} (h1 : Rd Hs a (.lst xs)) (h2 : DpAll K Hs xs ds) : ItOk K Hs (Itl K a) ds := fun Z' H' s _ => by
  have q : SqL K H' a xs := .inl (Rd.same (s.trans hide_sub) h1)
  refine ⟨fun i hi => ⟨xs, xs[i]'(by rw [h2.length]; exact hi), q, List.getElem?_eq_getElem _⟩, fun i hi => ⟨xs, q, by rw [h2.length]; exact hi⟩, fun i x H'' d y hd => ?_⟩
  obtain ⟨rfl, y⟩ := y
  obtain ⟨v, e1, e2⟩ := h2.get hd
  have e3 := y xs q
  rw [e1] at e3
  cases e3
  exact ⟨Same.refl _, Dp.same s e2⟩
theorem it_tup {Hs : Hp} {a : Addr} {xs : List V} {ds : List D} (h1 : SqT K Hs a xs) (h2 : DpAll K Hs xs ds) : ItOk K Hs (Itt K a) ds := fun Z' H' s _ => by
  have q : SqT K H' a xs := SqT.same (s.trans hide_sub) h1
  refine ⟨fun i hi => ⟨xs, xs[i]'(by rw [h2.length]; exact hi), q, List.getElem?_eq_getElem _⟩, fun i hi => ⟨xs, q, by rw [h2.length]; exact hi⟩, fun i x H'' d y hd => ?_⟩
  obtain ⟨rfl, y⟩ := y
  obtain ⟨v, e1, e2⟩ := h2.get hd
  have e3 := y xs q
  rw [e1] at e3
  cases e3
  exact ⟨Same.refl _, Dp.same s e2⟩
theorem it_str {Hs : Hp} {x : Str} : ItOk K Hs (Its x) (signs x) := fun Z' H' s _ => by
  have hl : (signs x).length = x.cps.size := by simp [signs]
  refine ⟨fun i hi => ?_, fun i hi => ?_, fun i v H'' d y hd => ?_⟩
  · rw [hl] at hi
    exact hi
  · rw [hl] at hi
    exact hi
  · obtain ⟨rfl, c, hc, rfl⟩ := y
    refine ⟨Same.refl _, ?_⟩
    have e2 : (signs x)[i]? = some (.str ⟨#[c]⟩) := by
      unfold signs
      rw [List.getElem?_map, Array.getElem?_toList, hc]
      rfl
    rw [hd] at e2
    cases e2
    exact .str _
theorem it_range {Hs : Hp} {lo : Int} {n : Nat} : ItOk K Hs (Itr lo n) ((List.range n).map fun (i : Nat) => .int (lo + (i : Int))) := fun Z' H' s _ => by
  refine ⟨fun i hi => (by simpa using hi : i < n), fun i hi => (by simpa using hi : n ≤ i), fun i v H'' d y hd => ?_⟩
  obtain ⟨rfl, rfl⟩ := y
  refine ⟨Same.refl _, ?_⟩
  rw [List.getElem?_map] at hd
  cases e : (List.range n)[i]? with
  | none => rw [e] at hd; cases hd
  | some j =>
    rw [e] at hd
    obtain ⟨hi, e1⟩ := List.getElem?_eq_some_iff.mp e
    rw [List.getElem_range] at e1
    subst e1
    cases hd
    exact .int _
def enumD (ds : List D) : List D := ds.zipIdx.map fun p => .tuple [.int (p.2 : Int), p.1]
theorem it_enum {Hs : Hp} {a : Addr} {xs : List V} {ds : List D} (h1 : Rd Hs a (.lst xs)) (h2 : DpAll K Hs xs ds) : ItOk K Hs (Ite K a) (enumD ds) := fun Z' H' s live => by
  have q : SqL K H' a xs := .inl (Rd.same (s.trans hide_sub) h1)
  have hl : (enumD ds).length = xs.length := by
    unfold enumD
    rw [List.length_map, List.length_zipIdx, h2.length]
  refine ⟨fun i hi => ⟨xs, xs[i]'(by rw [← hl]; exact hi), q, List.getElem?_eq_getElem _⟩, fun i hi => ⟨xs, q, by rw [← hl]; exact hi⟩, fun i x H'' d y hd => ?_⟩
  obtain ⟨T, z, rfl, nT, rfl, y⟩ := y
  have e3 := y xs q
  obtain ⟨d', e1, e2⟩ := h2.get' e3
  unfold enumD at hd
  rw [List.getElem?_map, List.getElem?_zipIdx, e1] at hd
  cases hd
  have nz : ¬ Z' T := fun z => live T z nT
  refine ⟨same_upd nT, .tup (SqT.of (hide_at nz upd_same)) (.cons ?_ (.cons ?_ .nil))⟩
  · rw [Nat.zero_add]
    exact .int _
  · exact Dp.same (s.trans (hide_mono (same_upd nT) fun _ h => .inl h)) e2
theorem di_seq (he : DE X Cl W e f) : DIt X Cl W tg e (iSeq f) := PI.imp (DL.PI.or (pi_list he) (DL.PI.or (pi_tup he) (pi_str he))) fun σ H R ⟨Z, ρ, r, I, e, q⟩ => by
  unfold iSeq at e
  cases e1 : f ρ with
  | none => rw [e1] at e; cases e
  | some r1 =>
    rw [e1] at e
    cases r1 with
    | error er =>
      cases e
      exact .inl ⟨Z, ρ, _, I, e1, q⟩
    | ok v =>
      dsimp only at e
      split at e
      · rename_i ds
        cases e
        refine .inl ⟨Z, ρ, _, I, e1, fun x H1 s hv => ?_⟩
        obtain ⟨a, xs, rfl, h1, h2⟩ := Dp.lst_inv (show Dp X.K (hide H1 (Zo Z σ ρ)) x (.list ds) from hv)
        exact ⟨a, rfl, ⟨xs, .inl (Rd.same hide_sub h1)⟩, q _ H1 s (it_list h1 h2)⟩
      · rename_i ds
        cases e
        refine .inr (.inl ⟨Z, ρ, _, I, e1, fun x H1 s hv => ?_⟩)
        obtain ⟨a, xs, rfl, h1, h2⟩ := Dp.tup_inv (show Dp X.K (hide H1 (Zo Z σ ρ)) x (.tuple ds) from hv)
        exact ⟨a, rfl, ⟨xs, SqT.same hide_sub h1⟩, q _ H1 s (it_tup h1 h2)⟩
      · rename_i y
        cases e
        refine .inr (.inr ⟨Z, ρ, _, I, e1, fun x H1 s hv => ?_⟩)
        exact ⟨y, (show Dp X.K (hide H1 (Zo Z σ ρ)) x (.str y) from hv).str_inv, q _ H1 s it_str⟩
      · rename_i ds
        cases e
        refine .inl ⟨Z, ρ, _, I, e1, fun x H1 s hv => ?_⟩
        obtain ⟨a, xs, rfl, n, h1, h2⟩ := hv
        have np : ¬ Zo Z σ ρ a := fun z => I.liveZ z n
        exact ⟨a, rfl, ⟨xs, SqL.of h1⟩, q _ H1 s (it_list (Rd.of (hide_at np h1)) (DpAll.same (hide_mono (Same.refl _) fun _ h => .inl (.inl h)) h2))⟩
      · cases e
def rangeD (lo : Int) (n : Nat) : List D := (List.range n).map fun (i : Nat) => .int (lo + (i : Int))
def cRng (j : Int) : Bool := decide (-(2 ^ 62) ≤ j) && decide (j < 2 ^ 62)
theorem cRng_ok {j : Int} (h : cRng j = true) : -(2 ^ 62) ≤ j ∧ j < 2 ^ 62 := by
  simp only [cRng, Bool.and_eq_true, decide_eq_true_eq] at h
  exact h
@[simp] def iRange1 (g : FA) (ρ : Rho) : Option (Except Er (List D)) := match g ρ with
  | none => none
  | some (.error e) => some (.error e)
  | some (.ok vs) => match vs with
    | [v] => match v.d with
      | .int j => if cRng j = true then some (.ok (rangeD 0 j.toNat)) else none
      | _ => none
    | _ => none
@[simp] def iRange2 (g : FA) (ρ : Rho) : Option (Except Er (List D)) := match g ρ with
  | none => none
  | some (.error e) => some (.error e)
  | some (.ok vs) => match vs with
    | [v, u] => match v.d, u.d with
      | .int i, .int j => if (cRng i && cRng j) = true then some (.ok (rangeD i (j - i).toNat)) else none
      | _, _ => none
    | _ => none
theorem di_range1 {a : Expr} (hm : X.mg "range" = none) (ha : DA X Cl W [a] g) (hg : Gl X "range" := by rfl) (hs : starEach [a] X.env = [(false, eval a X.env)] := by rfl) : DIt X Cl W tg (.Call (.Name "range" p) [a] [] pos) (iRange1 g) :=
  PI.imp (pi_range1 hg hm ha hs) fun σ H R ⟨Z, ρ, r, I, e, q⟩ => by
    unfold iRange1 at e
    cases e1 : g ρ with
    | none => rw [e1] at e; cases e
    | some r1 =>
      rw [e1] at e
      refine ta_step I e1 (fun er z => ?_) fun vs xs H1 ev s1 hvs I1 => ?_
      · subst z
        cases e
        exact q
      · subst ev
        dsimp only at e
        split at e
        · rename_i v
          obtain ⟨x, rfl, h⟩ := hvs.one
          split at e
          · rename_i j ej
            split at e
            · rename_i hc
              cases e
              obtain ⟨h1, h2⟩ := cRng_ok hc
              exact ⟨j, by rw [h.int_inv I ej], h1, h2, q _ H1 s1 it_range⟩
            · cases e
          · cases e
        · cases e
theorem di_range2 {a b : Expr} (hm : X.mg "range" = none) (ha : DA X Cl W [a, b] g) (hg : Gl X "range" := by rfl) (hs : starEach [a, b] X.env = [(false, eval a X.env), (false, eval b X.env)] := by rfl) (hs2 : starEach [b] X.env = [(false, eval b X.env)] := by rfl) :
    DIt X Cl W tg (.Call (.Name "range" p) [a, b] [] pos) (iRange2 g) :=
  PI.imp (pi_range2 hg hm ha hs hs2) fun σ H R ⟨Z, ρ, r, I, e, q⟩ => by
    unfold iRange2 at e
    cases e1 : g ρ with
    | none => rw [e1] at e; cases e
    | some r1 =>
      rw [e1] at e
      refine ta_step I e1 (fun er z => ?_) fun vs xs H1 ev s1 hvs I1 => ?_
      · subst z
        cases e
        exact q
      · subst ev
        dsimp only at e
        split at e
        · rename_i v u
          obtain ⟨x, y, rfl, h, h'⟩ := hvs.two
          split at e
          · rename_i i j ei ej
            split at e
            · rename_i hc
              cases e
              obtain ⟨c1, c2⟩ := Bool.and_eq_true_iff.mp hc
              obtain ⟨h1, h2⟩ := cRng_ok c1
              obtain ⟨h3, h4⟩ := cRng_ok c2
              exact ⟨i, j, by rw [h.int_inv I ei, h'.int_inv I ej], ⟨h1, h2, h3, h4⟩, q _ H1 s1 it_range⟩
            · cases e
          · cases e
        · cases e
@[simp] def iEnumD (g : FA) (ρ : Rho) : Option (Except Er (List D)) := match g ρ with
  | none => none
  | some (.error e) => some (.error e)
  | some (.ok vs) => match vs with
    | [.s (.list ds)] => some (.ok (enumD ds))
    | [.f ds] => some (.ok (enumD ds))
    | _ => none
theorem di_enum {elts : List Expr} {kk : Nat} {tpos : Pos} (hm : X.mg "enumerate" = none) (ha : DA X Cl W [e] g) (hg : Gl X "enumerate" := by rfl) (hs : starEach [e] X.env = [(false, eval e X.env)] := by rfl) :
    DIt X Cl W (.Tuple elts kk tpos) (.Call (.Name "enumerate" p) [e] [] pos) (iEnumD g) :=
  PI.imp (pi_enum hg hm ha hs) fun σ H R ⟨Z, ρ, r, I, e, q⟩ => by
    unfold iEnumD at e
    cases e1 : g ρ with
    | none => rw [e1] at e; cases e
    | some r1 =>
      rw [e1] at e
      refine ta_step I e1 (fun er z => ?_) fun vs xs H1 ev s1 hvs I1 => ?_
      · subst z
        cases e
        exact q
      · subst ev
        dsimp only at e
        split at e
        · rename_i ds
          cases e
          obtain ⟨x, rfl, h⟩ := hvs.one
          obtain ⟨a, ys, rfl, h1, h2⟩ := Dp.lst_inv (show Dp X.K (hide H1 (Zo Z σ ρ)) x (.list ds) from h)
          exact ⟨a, ys, rfl, .inl (Rd.same hide_sub h1), q _ H1 s1 (it_enum h1 h2)⟩
        · rename_i ds
          cases e
          obtain ⟨x, rfl, h⟩ := hvs.one
          obtain ⟨a, ys, rfl, n, h1, h2⟩ := h
          have np : ¬ Zo Z σ ρ a := fun z => I.liveZ z n
          exact ⟨a, ys, rfl, SqL.of h1, q _ H1 s1 (it_enum (Rd.of (hide_at np h1)) (DpAll.same (hide_mono (Same.refl _) fun _ h => .inl (.inl h)) h2))⟩
        · cases e

/-! ### for -/
def forL (g : FG) (body : FS) : List D → FS
  | [], ρ => some (.nx ρ)
  | d :: ds, ρ => match g d ρ with
    | none => none
    | some ρ1 => match body ρ1 with
      | some (.nx ρ2) => forL g body ds ρ2
      | some (.ct ρ2) => forL g body ds ρ2
      | some (.brk ρ2) => some (.nx ρ2)
      | r => r
@[simp] def fFor (it : FI) (g : FG) (body : FS) (ρ : Rho) : Option Out := match it ρ with
  | none => none
  | some (.error e) => some (.exc ρ e.1 e.2)
  | some (.ok ds) => forL g body ds ρ
open Classical in
/-- the heap without the slots' own lists -/
noncomputable def unown (H : Hp) (σ : St) (ρ : Rho) : Hp := fun b => if Owned σ ρ b then none else H b
theorem unown_of {H : Hp} {σ : St} {ρ : Rho} {b : Addr} {o : HO} (h : unown H σ ρ b = some o) : ¬ Owned σ ρ b ∧ H b = some o := by
  unfold unown at h
  split at h
  · cases h
  · rename_i n
    exact ⟨n, h⟩
theorem unown_at {H : Hp} {σ : St} {ρ : Rho} {b : Addr} {o : HO} (n : ¬ Owned σ ρ b) (h : H b = some o) : unown H σ ρ b = some o := by
  unfold unown
  rw [if_neg n]
  exact h
theorem SI.based {H0 : Hp} {Z : Addr → Prop} {H : Hp} {σ : St} {ρ : Rho} (I : SI K H0 Z H σ ρ) : Same H0 (unown H σ ρ) ∧ SI K (unown H σ ρ) Z H σ ρ := by
  refine ⟨fun b o e => unown_at (fun z => by rw [I.new b z] at e; cases e) (I.same b o e), I.di, fun b o e => (unown_of e).2, fun a h => ?_⟩
  unfold DL.unown
  rw [if_pos h]
/-- what was stable at the loop's start stands at each turn -/
theorem SI.kept {Z : Addr → Prop} {H H' : Hp} {σ σ' : St} {ρ ρ' : Rho} (I : SI K (unown H σ ρ) Z H' σ' ρ') : Same (hide H (Zo Z σ ρ)) (hide H' (Zo Z σ' ρ')) := fun b o e => by
  obtain ⟨n, e1⟩ := hide_of e
  have e2 := unown_at (fun z => n (.inr z)) e1
  refine hide_at (fun z => z.elim (fun z => n (.inl z)) fun z => ?_) (I.same b o e2)
  rw [I.new b z] at e2
  cases e2
theorem ds_for {it : FI} {g : FG} {body : List Stmt} {fb : FS} (hp : PassesOwn (model X.prog X.w) X.A X.env X.xe) (hc : X.calm = true) (hi : DIt X Cl W tg e it) (hg : DG X tg g) (hb : DSs X Cl W body fb)
    (hs : ∀ x, foldedSetIterable e X.env x = pure x := by intro _; rfl) : DS X Cl W (.For tg e body [] pos) (fFor it g fb) := PS.imp (ps_for hp hc hi hg hb hs) fun D σ H ⟨H0, Z, ρ, o, I, e, q⟩ => by
  unfold fFor at e
  cases e1 : it ρ with
  | none => rw [e1] at e; cases e
  | some r1 =>
    rw [e1] at e
    refine ⟨Z, ρ, r1, I.di, e1, ?_⟩
    cases r1 with
    | error er =>
      cases e
      exact OOk.err I q
    | ok ds =>
      dsimp only at e
      intro J H1 s1 hJ
      have I1 := I.same' s1
      obtain ⟨b0, I2⟩ := I1.based
      have q2 := q.rebase b0
      refine ⟨fun i m σ' H' => ∃ ρ', SI X.K (unown H1 σ ρ) Z H' σ' ρ' ∧ forL g fb (ds.drop i) ρ' = some o ∧ m = ds.length - i ∧ i ≤ ds.length, ⟨_, ρ, I2, e, rfl, Nat.zero_le _⟩, fun i m σ' H' => ?_⟩
      rintro ⟨ρ', I', e', rfl, hi⟩
      obtain ⟨go, stop, yld⟩ := hJ (Zo Z σ' ρ') H' I'.kept (fun b z => I'.di.liveZ z)
      by_cases hlt : i < ds.length
      · refine .inr ⟨go i hlt, fun σ3 H3 => ∃ ρ3, SI X.K (unown H1 σ ρ) Z H3 σ3 ρ3 ∧ forL g fb (ds.drop (i + 1)) ρ3 = some o, fun σ3 H3 ⟨ρ3, I3, e3⟩ => ⟨ds.length - (i + 1), by omega, ρ3, I3, e3, rfl, hlt⟩, fun x H'' y => ?_⟩
        have hd : ds[i]? = some ds[i] := List.getElem?_eq_getElem hlt
        obtain ⟨s2, hx⟩ := yld i x H'' _ y hd
        rw [List.drop_eq_getElem_cons hlt] at e'
        unfold forL at e'
        cases eg : g ds[i] ρ' with
        | none => rw [eg] at e'; cases e'
        | some ρ1 =>
          rw [eg] at e'
          dsimp only at e'
          refine ⟨_, Z, ρ', ds[i], ρ1, I'.same' s2, hx, eg, fun σ1 I1' => ?_⟩
          cases eb : fb ρ1 with
          | none => rw [eb] at e'; cases e'
          | some ob =>
            rw [eb] at e'
            refine ⟨_, Z, ρ1, ob, I1', eb, ?_⟩
            cases ob with
            | nx ρ2 => exact fun σ3 H3 I3 => ⟨ρ2, I3, e'⟩
            | ct ρ2 => exact fun σ3 H3 I3 => ⟨ρ2, I3, e'⟩
            | brk ρ2 => cases e'; exact fun σ3 H3 I3 => q2 σ3 H3 I3
            | ret d => cases e'; exact q2
            | retF ds => cases e'; exact q2
            | retX ds k => cases e'; exact q2
            | exc ρ2 c i => cases e'; exact q2
      · have hie : i = ds.length := by omega
        subst hie
        rw [List.drop_length] at e'
        cases e'
        exact .inl ⟨stop _ (Nat.le_refl _), q2 σ' H' I'⟩

/-! ### while -/
def whileL (t : FT) (body : FS) : Nat → FS
  | 0, _ => none
  | n + 1, ρ => match t ρ with
    | none => none
    | some (.error e) => some (.exc ρ e.1 e.2)
    | some (.ok false) => some (.nx ρ)
    | some (.ok true) => match body ρ with
      | some (.nx ρ2) => whileL t body n ρ2
      | some (.ct ρ2) => whileL t body n ρ2
      | some (.brk ρ2) => some (.nx ρ2)
      | r => r
theorem whileL_mono {t : FT} {body : FS} : ∀ {n : Nat} {ρ : Rho} {o : Out} (m : Nat), whileL t body n ρ = some o → n ≤ m → whileL t body m ρ = some o
  | 0, _, _, _, h, _ => by cases h
  | n + 1, ρ, o, m, h, hm => by
    obtain ⟨k, rfl⟩ : ∃ k, m = k + 1 := ⟨m - 1, by omega⟩
    unfold whileL at h ⊢
    cases e : t ρ with
    | none => rw [e] at h; cases h
    | some r =>
      rw [e] at h
      cases r with
      | error er => exact h
      | ok b =>
        cases b with
        | false => exact h
        | true =>
          dsimp only at h ⊢
          cases eb : body ρ with
          | none => rw [eb] at h; cases h
          | some ob =>
            rw [eb] at h
            cases ob with
            | nx ρ2 => exact whileL_mono k h (by omega)
            | ct ρ2 => exact whileL_mono k h (by omega)
            | brk ρ2 => exact h
            | ret d => exact h
            | retF ds => exact h
            | retX ds k => exact h
            | exc ρ2 c i => exact h
/-- more turns than anything here takes -/
def fuel : Nat := 2 ^ 64
def fWhile (t : FT) (body : FS) : FS := whileL t body fuel
theorem ds_while {c : Expr} {t : FT} {body : List Stmt} {fb : FS} (hp : PassesOwn (model X.prog X.w) X.A X.env X.xe) (hc : DT X Cl W c t) (hb : DSs X Cl W body fb) : DS X Cl W (.While c body [] pos) (fWhile t fb) := PS.imp (ps_while hp hc hb) fun D σ H ⟨H0, Z, ρ, o, I, e, q⟩ => by
  refine ⟨fun m σ' H' => ∃ ρ', SI X.K H0 Z H' σ' ρ' ∧ whileL t fb m ρ' = some o, ⟨fuel, ρ, I, e⟩, fun m σ' H' => ?_⟩
  rintro ⟨ρ', I', e'⟩
  cases m with
  | zero => cases e'
  | succ n =>
    unfold whileL at e'
    cases et : t ρ' with
    | none => rw [et] at e'; cases e'
    | some r1 =>
      rw [et] at e'
      refine tt_step I'.di et (fun er z => ?_) fun b H1 ev s1 I1 => ?_
      · subst z
        cases e'
        exact OOk.err I' q
      · subst ev
        cases b with
        | false =>
          rw [if_neg Bool.false_ne_true]
          cases e'
          exact q σ' H1 (I'.same' s1)
        | true =>
          rw [if_pos rfl]
          dsimp only at e'
          refine ⟨fun σ3 H3 => ∃ ρ3, SI X.K H0 Z H3 σ3 ρ3 ∧ whileL t fb n ρ3 = some o, fun σ3 H3 h => ⟨n, Nat.lt_succ_self n, h⟩, ?_⟩
          cases eb : fb ρ' with
          | none => rw [eb] at e'; cases e'
          | some ob =>
            rw [eb] at e'
            refine ⟨H0, Z, ρ', ob, I'.same' s1, eb, ?_⟩
            cases ob with
            | nx ρ2 => exact fun σ3 H3 I3 => ⟨ρ2, I3, e'⟩
            | ct ρ2 => exact fun σ3 H3 I3 => ⟨ρ2, I3, e'⟩
            | brk ρ2 => cases e'; exact fun σ3 H3 I3 => q σ3 H3 I3
            | ret d => cases e'; exact q
            | retF ds => cases e'; exact q
            | retX ds k => cases e'; exact q
            | exc ρ2 c i => cases e'; exact q

/-! ### a def, and its call -/
inductive DOut where
  | ret (d : D) | retF (ds : List D) | retX (ds : List D) (k : Nat) | exc (c : Nat) (i : Int)
abbrev DF := List D → Option DOut
def DOk (K : PySem.W.Frag) (Cl : Nat → Addr) (Z : Addr → Prop) (H : Hp) (Q : VK) (E : XK) : DOut → Prop
  | .ret d => ∀ v H', Same H H' → Dp K (hide H' Z) v d → Q v H'
  | .retF ds => ∀ p xs H', Same H H' → H p = none → H' p = some (.lst xs) → DpAll K (hide H' (ZP Z p)) xs ds → Q (.ref p) H'
  | .retX ds k => ∀ T p xs ys H', Same H H' → SqT K (hide H' Z) T xs → DpAll K (hide H' Z) xs ds → xs[k]? = some (.ref p) → H p = none → H' p = some (.lst ys) → Q (.ref T) H'
  | .exc c i => ∀ dd H', Same H H' → H' dd = some (.xd [(("at" : Str), .int i)]) → E (.ref (Cl c)) (some dd) H'
def spD (K : PySem.W.Frag) (Cl : Nat → Addr) (n : Nat) (F : DF) : Sp := fun vs H Q E => ∃ Z ds o, (∀ b, Z b → H b ≠ none) ∧ DpAll K (hide H Z) vs ds ∧ ds.length = n ∧ F ds = some o ∧ DOk K Cl Z H Q E o
/-- the def with n parameters and k names whose body is f -/
def mkD (n k : Nat) (f : FS) : DF := fun ds => match f (ds.map .dat ++ List.replicate (k - n) .un) with
  | some (.nx _) => some (.ret .none)
  | some (.ret d) => some (.ret d)
  | some (.retF ds) => some (.retF ds)
  | some (.retX ds k) => some (.retX ds k)
  | some (.exc _ c i) => some (.exc c i)
  | _ => none
theorem DI.start {Z : Addr → Prop} {H : Hp} {vs : List V} {ds : List D} {m : Nat} (live : ∀ b, Z b → H b ≠ none) (h : DpAll K (hide H Z) vs ds) : DI K Z H (vs.map some ++ List.replicate m none) (ds.map .dat ++ List.replicate m .un) := by
  have no : ∀ i a, ¬ OwnAt (vs.map some ++ List.replicate m none) (ds.map .dat ++ List.replicate m .un) i a := fun i a ⟨_, es, h2⟩ => by
    rw [List.getElem?_append] at h2
    split at h2
    · rw [List.getElem?_map] at h2
      cases e : ds[i]? with
      | none => rw [e] at h2; cases h2
      | some d => rw [e] at h2; cases h2
    · rw [List.getElem?_replicate] at h2
      split at h2 <;> cases h2
  have hl := h.length
  refine ⟨by simp [hl], fun i j a h1 => absurd h1 (no i a), fun a ⟨i, z⟩ => absurd z (no i a), live, fun i s e => ?_⟩
  have hm : Same (hide H Z) (hide H (Zo Z (vs.map some ++ List.replicate m none) (ds.map .dat ++ List.replicate m .un))) := hide_mono (Same.refl _) fun b hb => .inl (hb.elim id fun ⟨j, z⟩ => absurd z (no j b))
  rw [List.getElem?_append] at e
  split at e
  · rename_i hi
    rw [List.length_map] at hi
    rw [List.getElem?_map] at e
    cases e1 : ds[i]? with
    | none => rw [e1] at e; cases e
    | some d =>
      rw [e1] at e
      cases e
      obtain ⟨v, e2, e3⟩ := h.get e1
      refine ⟨v, ?_, Dp.same hm e3⟩
      rw [List.getElem?_append_left (by rw [List.length_map, hl]; exact hi), List.getElem?_map, e2]
      rfl
  · rw [List.getElem?_replicate] at e
    split at e
    · cases e; trivial
    · cases e
theorem def_ok {P : Program} {w : World} {mg : Str → Option Value} {base : Heap} {x qual : Str} {st : Stmt} {fa : Addr} {fd : FuncData} {N ps : List Str} {k n m : Nat} {fb : FS} (F : Fun K x qual st fa fd) (S : FnScope N ps (defScope st)) (hn : ps.length = n) (hm : N.length = m)
    (h : ∀ (cdv : Value) (A : Around) (outer : List Env) (s : Shared) (H : Hp) (E : XK), Room k (A.deeper (envOfC qual (defScope st) s.heap.objs.size fa cdv)) →
      DSs (cxOf (L2.CX P w) P w K mg base N qual (defScope st) fa cdv A outer s H E) Cl (fun cls d _ H' => E cls d H') (defBody st) fb) : FnOk P w K mg base (L2.CX P w) (k + 1) fa fd ps (spD K Cl n (mkD n m fb)) := by
  refine F.okX S (fun vs H Q E ⟨Z, ds, o, _, h1, h2, _⟩ => by rw [h1.length, h2, hn]) (fun cdv A outer s H vs Q E hr hsp => ⟨_, h cdv A outer s H E hr, ?_⟩)
  obtain ⟨Z, ds, o, live, h1, h2, e, q⟩ := hsp
  unfold mkD at e
  have hst : L2.start N vs = vs.map some ++ List.replicate (m - n) none := by
    unfold L2.start
    rw [hm, h1.length, h2]
  rw [hst]
  cases eb : fb (ds.map .dat ++ List.replicate (m - n) .un) with
  | none => rw [eb] at e; cases e
  | some ob =>
    rw [eb] at e
    have I := DI.start (m := m - n) live h1
    have noO : ∀ a, Owned (vs.map some ++ List.replicate (m - n) none) (ds.map .dat ++ List.replicate (m - n) .un) a → H a = none := fun a ⟨i, _, es, h2⟩ => by
      rw [List.getElem?_append] at h2
      split at h2
      · rw [List.getElem?_map] at h2
        cases e : ds[i]? with
        | none => rw [e] at h2; cases h2
        | some d => rw [e] at h2; cases h2
      · rw [List.getElem?_replicate] at h2
        split at h2 <;> cases h2
    refine ⟨H, Z, _, ob, ⟨I, Same.refl _, noO⟩, eb, ?_⟩
    cases ob with
    | nx ρ => cases e; exact fun σ' H' I' => q .non H' I'.same .non
    | ret d => cases e; exact q
    | retF es => cases e; exact q
    | retX ds k => cases e; exact q
    | exc ρ c i => cases e; exact fun dd σ' H' I' hd => q dd H' I'.same hd
    | brk ρ => cases e
    | ct ρ => cases e
/-- a call -/
@[simp] def eCall (F : DF) (n : Nat) (g : FA) (ρ : Rho) : Option (Except Er Val) := match g ρ with
  | none => none
  | some (.error e) => some (.error e)
  | some (.ok vs) => if vs.length = n then match F (vs.map Val.d) with
    | none => none
    | some (.exc c i) => some (.error (c, i))
    | some (.ret d) => match stAll vs with
      | some _ => some (.ok (.s d))
      | none => some (.ok (.m d))
    | some (.retX ds _) => match stAll vs with
      | some _ => some (.ok (.s (.tuple ds)))
      | none => some (.ok (.m (.tuple ds)))
    | some (.retF ds) => match stAll vs with
      | some _ => some (.ok (.f ds))
      | none => if ds.all scalarD = true then some (.ok (.f ds)) else some (.ok (.m (.list ds))) else none
theorem stAll_d : ∀ {vs : List Val} {ds : List D}, stAll vs = some ds → vs.map Val.d = ds
  | [], _, e => by cases e; rfl
  | v :: vs, ds, e => by
    simp only [stAll] at e
    split at e
    · rename_i d es e1 e2
      cases e
      rw [List.map_cons, stAll_d e2]
      congr 1
      cases v with
      | s d' => cases e1; rfl
      | m d' =>
        simp only [Val.st] at e1
        split at e1
        · cases e1; rfl
        · cases e1
      | b ds => cases e1
      | f ds => cases e1; rfl
    · cases e
theorem de_call {n k : Nat} {F : DF} {fa : Addr} {fd : FuncData} {ps : List Str} {x : Str} (G : FnOk X.prog X.w X.K X.mg X.base (L2.CX X.prog X.w) k fa fd ps (spD X.K Cl n F)) (tk : Takes X W) (hr : Room k X.A) (hm : X.mg x = some (.ref fa)) (hk : PySem.W.keepIn X.K (.ref fa) = true) (hb : Binds X.K fd ps [])
    (ha : DA X Cl W (e :: es) g) (hg : Gl X x := by rfl) (hdb : (x == ("__debug__" : Str)) = false := by decide) (he : starEach (e :: es) X.env = (false, eval e X.env) :: starEach es X.env := by rfl) (hpl : (backTo pos (starEach es X.env)).any (·.1) = false := by rfl) :
    DE X Cl W (.Call (.Name x p) (e :: es) [] pos) (eCall F n g) := PE.imp (pe_callS (E := WE W) G hr hg hm hk hb (fun σ => passAt tk σ) ha hdb he hpl) fun σ H Q ⟨Z, ρ, r, I, e, q⟩ => by
  unfold eCall at e
  cases e1 : g ρ with
  | none => rw [e1] at e; cases e
  | some r1 =>
    rw [e1] at e
    refine ta_step I e1 (fun er z => ?_) fun vs xs H1 ev s1 hvs I1 => ?_
    · subst z
      cases e
      exact q
    · subst ev
      dsimp only at e
      split at e
      · rename_i hn
        cases eF : F (vs.map Val.d) with
        | none => rw [eF] at e; cases e
        | some o =>
          rw [eF] at e
          cases es : stAll vs with
          | some ds =>
            have ed := stAll_d es
            refine ⟨Zo Z σ ρ, ds, o, fun b z => I1.liveZ z, hvs.stab I es, by rw [stAll_len es]; exact hn, by rw [← ed]; exact eF, ?_⟩
            cases o with
            | exc c i => cases e; exact fun dd H' s hd => q dd H' (s1.trans s) hd
            | ret d =>
              rw [es] at e
              cases e
              exact fun v H' s hd => q v H' (s1.trans s) hd
            | retX gs k =>
              rw [es] at e
              cases e
              exact fun T p xs ys H' s h1 h2 _ _ _ => q _ H' (s1.trans s) (.tup h1 h2)
            | retF gs =>
              rw [es] at e
              cases e
              exact fun p xs H' s n h2 h3 => q _ H' (s1.trans s) ⟨p, xs, rfl, s1.free n, h2, h3⟩
          | none =>
            refine ⟨Z, vs.map Val.d, o, fun b z => I1.live b z, hvs.dp I, by rw [List.length_map]; exact hn, eF, ?_⟩
            cases o with
            | exc c i => cases e; exact fun dd H' s hd => q dd H' (s1.trans s) hd
            | ret d =>
              rw [es] at e
              cases e
              exact fun v H' s hd => q v H' (s1.trans s) hd
            | retX gs k =>
              rw [es] at e
              cases e
              exact fun T p xs ys H' s h1 h2 _ _ _ => q _ H' (s1.trans s) (.tup h1 h2)
            | retF gs =>
              rw [es] at e
              dsimp only at e
              split at e
              · rename_i sc
                cases e
                exact fun p xs H' s n h2 h3 => q _ H' (s1.trans s) ⟨p, xs, rfl, s1.free n, h2, DpAll.scalar sc h3⟩
              · cases e
                intro p xs H' s n h2 h3
                have np : ¬ Z p := fun z => I1.live p z n
                exact q _ H' (s1.trans s) (.lst (Rd.of (hide_at np h2)) (DpAll.same (hide_mono (Same.refl _) fun _ h => .inl (.inl h)) h3))
      · cases e
end
end DL
set_option Elab.async false
set_option linter.all false
set_option maxRecDepth 100000
set_option maxHeartbeats 4000000
/-! DL7: comprehensions, by data. -/
namespace DL
open PySem PySem.Spec PyProof.Rows L2
section
variable {X : Cx} {Cl : Nat → Addr} {W : WX} {K : PySem.W.Frag}
abbrev W0 : WX := fun _ _ _ _ => False
@[simp] def noOwn (ρ : Rho) (vs : List Nat) : Bool := vs.all fun v => match ρ[v]? with
  | some (.own _) => false
  | _ => true
@[simp] def wipeR (ρ : Rho) : List Nat → Rho
  | [] => ρ
  | v :: vs => (wipeR ρ vs).set v .un
/-- the items that a comprehension makes; st: the slots at an item -/
def lcL (tt : FT) (fe : FE) (st : D → Option Rho) : List D → Option (List D)
  | [] => some []
  | d :: r => match st d with
    | none => none
    | some ρ => match tt ρ with
      | some (.ok true) => match fe ρ with
        | some (.ok v) => match v.st with
          | some y => (lcL tt fe st r).map (y :: ·)
          | none => none
        | _ => none
      | some (.ok false) => lcL tt fe st r
      | _ => none
@[simp] def eLcG (vs : List Nat) (st : Rho → D → Option Rho) (it : FI) (tt : FT) (fe : FE) (ρ : Rho) : Option (Except Er Val) := if noOwn ρ vs = true then match it ρ with
  | none => none
  | some (.error e) => some (.error e)
  | some (.ok ds) => match lcL tt fe (st (wipeR ρ vs)) ds with
    | some es => if lineOk es.length = true then some (.ok (.f es)) else none
    | none => none else none
theorem own_wipe {σ : St} {ρ : Rho} {i : Nat} {a : Addr} : ∀ {vs : List Nat}, OwnAt (wipe σ vs) (wipeR ρ vs) i a → i ∉ vs ∧ OwnAt σ ρ i a
  | [], h => ⟨by simp, h⟩
  | v :: vs, h => by
    unfold wipe wipeR at h
    have q := own_wipe (own_sub (s := .un) (fun _ z => by cases z) h)
    refine ⟨fun m => ?_, q.2⟩
    rcases List.mem_cons.mp m with e | m
    · subst e
      obtain ⟨_, es, h2⟩ := h
      rw [List.getElem?_set, if_pos rfl] at h2
      split at h2 <;> cases h2
    · exact q.1 m
theorem wipeR_out {ρ : Rho} {i : Nat} : ∀ {vs : List Nat}, i ∉ vs → (wipeR ρ vs)[i]? = ρ[i]?
  | [], _ => rfl
  | v :: vs, h => by
    have h1 : v ≠ i := fun e => h (by rw [e]; exact List.mem_cons_self)
    unfold wipeR
    rw [List.getElem?_set_ne h1]
    exact wipeR_out fun m => h (List.mem_cons_of_mem _ m)
theorem wipeS_out {σ : St} {i : Nat} : ∀ {vs : List Nat}, i ∉ vs → (wipe σ vs)[i]? = σ[i]?
  | [], _ => rfl
  | v :: vs, h => by
    have h1 : v ≠ i := fun e => h (by rw [e]; exact List.mem_cons_self)
    unfold wipe
    rw [List.getElem?_set_ne h1]
    exact wipeS_out fun m => h (List.mem_cons_of_mem _ m)
theorem wipeR_length (ρ : Rho) : ∀ vs : List Nat, (wipeR ρ vs).length = ρ.length
  | [] => rfl
  | v :: vs => by unfold wipeR; rw [List.length_set, wipeR_length ρ vs]
theorem own_unwipe {σ : St} {ρ : Rho} {i : Nat} {a : Addr} {vs : List Nat} (h : noOwn ρ vs = true) (o : OwnAt σ ρ i a) : OwnAt (wipe σ vs) (wipeR ρ vs) i a := by
  have hn : i ∉ vs := fun m => by
    have q := List.all_eq_true.mp h i m
    obtain ⟨_, es, h2⟩ := o
    rw [h2] at q
    cases q
  obtain ⟨h1, es, h2⟩ := o
  exact ⟨by rw [wipeS_out hn]; exact h1, es, by rw [wipeR_out hn]; exact h2⟩
/-- within a comprehension's turn: the new list is hidden -/
theorem DI.blk {Z : Addr → Prop} {H1 H : Hp} {σ : St} {ρ : Rho} {vs : List Nat} {L : Addr} {acc : List V} (I : DI K Z H1 σ ρ) (hn : noOwn ρ vs = true) (s : Same H1 H) (nL : H1 L = none) (hL : H L = some (.lst acc)) : DI K (ZP Z L) H (wipe σ vs) (wipeR ρ vs) := by
  have I' := I.same s
  have hm : Same (hide H1 (Zo Z σ ρ)) (hide H (Zo (ZP Z L) (wipe σ vs) (wipeR ρ vs))) := hide_mono s fun b hb => by
    rcases hb with (hb | rfl) | ⟨j, q⟩
    · exact .inl (.inl hb)
    · exact .inr nL
    · exact .inl (.inr ⟨j, (own_wipe q).2⟩)
  refine ⟨by rw [wipeR_length, wipe_length]; exact I.len, fun i j a h1 h2 => I.one i j a (own_wipe h1).2 (own_wipe h2).2, fun a ⟨j, q⟩ z => ?_, fun a z => ?_, fun i t e => ?_⟩
  · have q2 := (own_wipe q).2
    rcases z with z | rfl
    · exact I.out a ⟨j, q2⟩ z
    · exact I.liveO ⟨j, q2⟩ nL
  · rcases z with z | rfl
    · exact I'.live a z
    · rw [hL]
      intro z; cases z
  · by_cases hi : i ∈ vs
    · have q : ∀ {vs : List Nat}, i ∈ vs → (wipeR ρ vs)[i]? = some t → t = .un := by
        intro vs
        induction vs with
        | nil => intro m; cases m
        | cons v vs ih =>
          intro m e
          unfold wipeR at e
          by_cases hv : v = i
          · subst hv
            rw [List.getElem?_set, if_pos rfl] at e
            split at e
            · exact (Option.some.inj e).symm
            · cases e
          · rw [List.getElem?_set_ne hv] at e
            rcases List.mem_cons.mp m with z | m
            · exact absurd z.symm hv
            · exact ih m e
      rw [q hi e]
      trivial
    · rw [wipeR_out hi] at e
      rw [wipeS_out hi]
      have q := I.slots i t e
      cases t with
      | un => trivial
      | dat d =>
        obtain ⟨v, e1, h1⟩ := q
        exact ⟨v, e1, Dp.same hm h1⟩
      | own ds =>
        obtain ⟨a, xs, e1, e2, h1⟩ := q
        exact ⟨a, xs, e1, s _ _ e2, DpAll.same hm h1⟩
      | err a dd j => exact ⟨q.1, s _ _ q.2⟩
/-- a target of a comprehension: only its own slots change -/
structure LcT (K : PySem.W.Frag) (vs : List Nat) (g : TG) (st : Rho → D → Option Rho) : Prop where
  go : ∀ (Z : Addr → Prop) (σ : St) (ρ ρ' : Rho) (H : Hp) (v : V) (d : D) (Q : St → Hp → Prop), DI K Z H (wipe σ vs) (wipeR ρ vs) → Dp K (hide H (Zo Z (wipe σ vs) (wipeR ρ vs))) v d → st (wipeR ρ vs) d = some ρ' →
    (∀ σ', wipe σ' vs = wipe σ vs → DI K Z H σ' ρ' → Same (hide H (Zo Z (wipe σ vs) (wipeR ρ vs))) (hide H (Zo Z σ' ρ')) → (∀ b, Zo Z (wipe σ vs) (wipeR ρ vs) b → Zo Z σ' ρ' b) → Q σ' H) → g v (wipe σ vs) H Q
theorem lc_read {vs : List Nat} {g : TG} {st : Rho → D → Option Rho} {it : FI} {tt : FT} {fe : FE} {σ : St} {H : Hp} {Q : VK} (T : LcT K vs g st) (h : teOf K Cl W (eLcG vs st it tt fe) σ H Q) : tLc (tiOf K Cl W it) g (ttOf K Cl W0 tt) (teOf K Cl W0 fe) vs σ H Q := by
  obtain ⟨Z, ρ, r, I, e, q⟩ := h
  unfold eLcG at e
  split at e
  · rename_i hno
    cases e1 : it ρ with
    | none => rw [e1] at e; cases e
    | some r1 =>
      rw [e1] at e
      refine ⟨Z, ρ, r1, I, e1, ?_⟩
      cases r1 with
      | error er => cases e; exact q
      | ok ds =>
        dsimp only at e
        intro J H1 s1 hJ L nL
        have I1 := I.same s1
        cases e2 : lcL tt fe (st (wipeR ρ vs)) ds with
        | none => rw [e2] at e; cases e
        | some es =>
          rw [e2] at e
          dsimp only at e
          split at e
          · rename_i hline
            cases e
            have hln := lineOk_ok hline
            refine ⟨fun i m H' => ∃ acc as rest, H' L = some (.lst acc) ∧ Same H1 H' ∧ DpAll K (hide H' (ZP (Zo Z σ ρ) L)) acc as ∧ lcL tt fe (st (wipeR ρ vs)) (ds.drop i) = some rest ∧ as ++ rest = es ∧ m = ds.length - i ∧ i ≤ ds.length,
              ⟨_, [], [], es, upd_same, same_upd nL, .nil, e2, rfl, rfl, Nat.zero_le _⟩, fun i m H' => ?_⟩
            rintro ⟨acc, as, rest, hL, s2, hacc, er, ea, rfl, hi⟩
            have hk : Same (hide H1 (Zo Z σ ρ)) (hide H' (ZP (Zo Z σ ρ) L)) := hide_mono s2 fun b hb => by
              rcases hb with hb | rfl
              · exact .inl hb
              · exact .inr nL
            have hlive : ∀ b, ZP (Zo Z σ ρ) L b → H' b ≠ none := fun b hb => by
              rcases hb with hb | rfl
              · exact (I1.same s2).liveZ hb
              · rw [hL]; intro z; cases z
            obtain ⟨go, stop, yld⟩ := hJ (ZP (Zo Z σ ρ) L) H' hk hlive
            by_cases hlt : i < ds.length
            · refine .inr ⟨go i hlt, fun H3 => ∃ acc as rest, H3 L = some (.lst acc) ∧ Same H1 H3 ∧ DpAll K (hide H3 (ZP (Zo Z σ ρ) L)) acc as ∧ lcL tt fe (st (wipeR ρ vs)) (ds.drop (i + 1)) = some rest ∧ as ++ rest = es,
                fun H3 ⟨acc, as, rest, b1, b2, b3, b4, b5⟩ => ⟨ds.length - (i + 1), by omega, acc, as, rest, b1, b2, b3, b4, b5, rfl, hlt⟩, fun x H'' y => ?_⟩
              have hd : ds[i]? = some ds[i] := List.getElem?_eq_getElem hlt
              obtain ⟨s3, hx⟩ := yld i x H'' _ y hd
              rw [List.drop_eq_getElem_cons hlt] at er
              unfold lcL at er
              cases est : st (wipeR ρ vs) ds[i] with
              | none => rw [est] at er; cases er
              | some ρ' =>
                rw [est] at er
                dsimp only at er
                have B := I1.blk (vs := vs) hno (s2.trans s3) nL (s3 _ _ hL)
                have zeq : ∀ b, Zo (ZP Z L) (wipe σ vs) (wipeR ρ vs) b → ZP (Zo Z σ ρ) L b := fun b hb => by
                  rcases hb with (hb | hb) | ⟨j, z⟩
                  · exact .inl (.inl hb)
                  · exact .inr hb
                  · exact .inl (.inr ⟨j, (own_wipe z).2⟩)
                have zeq2 : ∀ b, ZP (Zo Z σ ρ) L b → Zo (ZP Z L) (wipe σ vs) (wipeR ρ vs) b := fun b hb => by
                  rcases hb with (hb | ⟨j, z⟩) | hb
                  · exact .inl (.inl hb)
                  · exact .inr ⟨j, own_unwipe hno z⟩
                  · exact .inl (.inr hb)
                refine T.go (ZP Z L) σ ρ ρ' H'' x ds[i] _ B (Dp.same (hide_mono (Same.refl _) fun b hb => .inl (zeq b hb)) hx) est fun σ' hw B' hs' hz' => ⟨hw, ?_⟩
                have up4 : ∀ H4, Same H'' H4 → Same H1 H4 := fun H4 s4 => s2.trans (s3.trans s4)
                have acc4 : ∀ H4, Same H'' H4 → DpAll K (hide H4 (ZP (Zo Z σ ρ) L)) acc as := fun H4 s4 => DpAll.same (hide_mono (s3.trans s4) fun _ h => .inl h) hacc
                cases ett : tt ρ' with
                | none => rw [ett] at er; cases er
                | some rt =>
                  rw [ett] at er
                  cases rt with
                  | error _ => cases er
                  | ok b =>
                    refine tt_step B' ett (fun er z => by cases z) fun b1 H3 eb s4 B3 => ?_
                    cases eb
                    cases b with
                    | false =>
                      dsimp only at er
                      rw [if_neg Bool.false_ne_true]
                      exact ⟨acc, as, rest, s4 _ _ (s3 _ _ hL), up4 _ s4, acc4 _ s4, er, ea⟩
                    | true =>
                      dsimp only at er
                      rw [if_pos rfl]
                      cases efe : fe ρ' with
                      | none => rw [efe] at er; cases er
                      | some rf =>
                        rw [efe] at er
                        cases rf with
                        | error _ => cases er
                        | ok v =>
                          dsimp only at er
                          refine te_step B3 efe (fun er z => by cases z) fun v1 y H4 ev s5 hv B4 => ?_
                          cases ev
                          cases est : v.st with
                          | none => rw [est] at er; cases er
                          | some yd =>
                            rw [est] at er
                            dsimp only at er
                            cases el : lcL tt fe (st (wipeR ρ vs)) (ds.drop (i + 1)) with
                            | none => rw [el] at er; cases er
                            | some rest' =>
                              rw [el] at er
                              cases er
                              have s45 := s4.trans s5
                              have hL4 := s45 _ _ (s3 _ _ hL)
                              have hy := hv.stab B3 est
                              have hacc4 := acc4 _ s45
                              refine ⟨acc, hL4, ?_, ?_⟩
                              · have h1 := hacc4.length
                                have h2 := congrArg List.length ea
                                rw [List.length_append, List.length_cons] at h2
                                omega
                              · have hin : ∀ {H5 : Hp} , (∀ b, b ≠ L → H5 b = H4 b) → Same (hide H4 (ZP (Zo Z σ ρ) L)) (hide H5 (ZP (Zo Z σ ρ) L)) := fun {H5} k b o e => by
                                  obtain ⟨n, e1⟩ := hide_of e
                                  exact hide_at n (by rw [k b fun z => n (.inr z)]; exact e1)
                                have k5 : ∀ b, b ≠ L → upd H4 L (.lst (acc ++ [y])) b = H4 b := fun b hb => upd_ne hb
                                have hy2 : Dp K (hide H4 (ZP (Zo Z σ ρ) L)) y yd := Dp.same (hide_mono (Same.refl _) fun b hb => .inl (hz' b (zeq2 b hb))) hy
                                refine ⟨acc ++ [y], as ++ [yd], rest', upd_same, fun b o e => ?_, DpAll.append (DpAll.same (hin k5) hacc4) (.cons (Dp.same (hin k5) hy2) .nil), rfl, by rw [← ea, List.append_assoc]; rfl⟩
                                rw [upd_ne (ne_of_none e nL)]
                                exact up4 _ s45 b o e
            · have hie : i = ds.length := by omega
              subst hie
              rw [List.drop_length] at er
              cases er
              rw [List.append_nil] at ea
              subst ea
              exact .inl ⟨stop _ (Nat.le_refl _), q _ H' (s1.trans s2) ⟨L, acc, rfl, s1.free nL, hL, hacc⟩⟩
          · cases e
  · cases e
/-- one name -/
def st1 (i : Nat) : Rho → D → Option Rho := fun ρ d => some (ρ.set i (.dat d))
theorem zo_dat' {Z : Addr → Prop} {σ : St} {ρ : Rho} {i : Nat} {x : Option V} {d : D} (hn : ∀ ds, ρ[i]? ≠ some (.own ds)) (b : Addr) (h : Zo Z σ ρ b) : Zo Z (σ.set i x) (ρ.set i (.dat d)) b := by
  rcases h with h | ⟨j, h1, ds, h2⟩
  · exact .inl h
  · have hj : i ≠ j := fun e => hn ds (e ▸ h2)
    exact .inr ⟨j, by rw [List.getElem?_set_ne hj]; exact h1, ds, by rw [List.getElem?_set_ne hj]; exact h2⟩
theorem wipeR_no {ρ : Rho} {i : Nat} : ∀ {vs : List Nat}, i ∈ vs → ∀ ds, (wipeR ρ vs)[i]? ≠ some (.own ds)
  | v :: vs, m, ds, e => by
    unfold wipeR at e
    by_cases hv : v = i
    · subst hv
      rw [List.getElem?_set, if_pos rfl] at e
      split at e <;> cases e
    · rw [List.getElem?_set_ne hv] at e
      rcases List.mem_cons.mp m with z | m
      · exact absurd z.symm hv
      · exact wipeR_no m ds e
theorem lct1 {i : Nat} : LcT K [i] (gName i) (st1 i) := ⟨fun Z σ ρ ρ' H v d Q B hd e q => by
  cases e
  refine q _ ?_ (B.setDat hd) zo_dat (zo_dat' (wipeR_no (by simp)))
  show (((σ.set i none).set i (some v)).set i none) = σ.set i none
  rw [List.set_set, List.set_set]⟩
theorem tYes_read {σ : St} {H : Hp} {Q : Bool → Hp → Prop} (h : ttOf K Cl W (fun _ => some (.ok true)) σ H Q) : tYes σ H Q := by
  obtain ⟨Z, ρ, r, I, e, q⟩ := h
  cases e
  exact q H (Same.refl _)
theorem PTs.imp {X : Cx} {ifs : List Expr} {t t' : TT} (h : PTs X ifs t) (i : ∀ σ H Q, t' σ H Q → t σ H Q) : PTs X ifs t' := ⟨fun pins s σ H Q I q => h.run pins s σ H Q I (i σ H Q q)⟩
def DTs (X : Cx) (Cl : Nat → Addr) (W : WX) (ifs : List Expr) (f : FT) : Prop := PTs X ifs (ttOf X.K Cl W f)
theorem dts_nil : DTs X Cl W [] (fun _ => some (.ok true)) := PTs.imp pts_nil fun σ H Q h => tYes_read h
theorem dts_one {c : Expr} {f : FT} (h : DT X Cl W c f) : DTs X Cl W [c] f := pts_one h
variable {elt tg iter : Expr} {ifs : List Expr} {scope : Scope} {own : List (Str × Nat)} {pos : Pos} {it : FI} {g : TG} {tt : FT} {fe : FE} {vs : List Nat} {st : Rho → D → Option Rho}
theorem de_lc (hc : X.calm = true) (hN : X.N.Nodup) (T : LcT X.K vs g st) (hi : DIt X Cl W tg iter it) (ok : BlkOk X.N X.env.scope scope own)
    (hg : ∀ (s : Shared) (H : Hp) (C : Addr) (cl : List (Str × Addr)) (fp : List Addr), PG (X.blk s H scope (compEnvC scope cl C X.env) fp) tg g) (ht : ∀ (s : Shared) (H : Hp) (C : Addr) (cl : List (Str × Addr)) (fp : List Addr), DTs (X.blk s H scope (compEnvC scope cl C X.env) fp) Cl W0 ifs tt)
    (he : ∀ (s : Shared) (H : Hp) (C : Addr) (cl : List (Str × Addr)) (fp : List Addr), DE (X.blk s H scope (compEnvC scope cl C X.env) fp) Cl W0 elt fe) (hv : own.map (·.2) = vs := by rfl) (hs : ∀ x, foldedSetIterable iter X.env x = pure x := by intro _; rfl) :
    DE X Cl W (.ListComp elt [⟨tg, iter, ifs, 0⟩] scope pos) (eLcG vs st it tt fe) := PE.imp (pe_lc (tt := ttOf X.K Cl W0 tt) (te := teOf X.K Cl W0 fe) hc hN hi ok hg ht he hs) fun σ H Q h => by
  rw [hv]
  exact lc_read T h
theorem ds_setLc {i : Nat} {y : Str} {py spos : Pos} (hc : X.calm = true) (hN : X.N.Nodup) (T : LcT X.K vs g st) (hi : DIt X Cl W tg iter it) (ok : BlkOk X.N X.env.scope scope own)
    (hg : ∀ (s : Shared) (H : Hp) (C : Addr) (cl : List (Str × Addr)) (fp : List Addr), PG (X.blk s H scope (compEnvC scope cl C X.env) fp) tg g) (ht : ∀ (s : Shared) (H : Hp) (C : Addr) (cl : List (Str × Addr)) (fp : List Addr), DTs (X.blk s H scope (compEnvC scope cl C X.env) fp) Cl W0 ifs tt)
    (he : ∀ (s : Shared) (H : Hp) (C : Addr) (cl : List (Str × Addr)) (fp : List Addr), DE (X.blk s H scope (compEnvC scope cl C X.env) fp) Cl W0 elt fe) (hsw : swapsWith (.ListComp elt [⟨tg, iter, ifs, 0⟩] scope pos) (some (.Name y py)) spos.line X.env = pure true) (hy : X.N[i]? = some y := by rfl) (hyl : X.env.scope.names.lookup y = some .local := by rfl) (hv : own.map (·.2) = vs := by rfl) (hs : ∀ x, foldedSetIterable iter X.env x = pure x := by intro _; rfl) :
    DS X Cl W (.Assign [.Name y py] (.ListComp elt [⟨tg, iter, ifs, 0⟩] scope pos) spos) (fSet i (eLcG vs st it tt fe)) := PS.imp (ps_setLc (tt := ttOf X.K Cl W0 tt) (te := teOf X.K Cl W0 fe) hc hN hy hyl hsw hi ok hg ht he hs) fun D σ H h => by
  have h1 := set_read h
  rw [hv]
  exact lc_read T h1
theorem ds_setLcO {i : Nat} {y : Str} {py spos : Pos} (hc : X.calm = true) (hN : X.N.Nodup) (T : LcT X.K vs g st) (hi : DIt X Cl W tg iter it) (ok : BlkOk X.N X.env.scope scope own)
    (hg : ∀ (s : Shared) (H : Hp) (C : Addr) (cl : List (Str × Addr)) (fp : List Addr), PG (X.blk s H scope (compEnvC scope cl C X.env) fp) tg g) (ht : ∀ (s : Shared) (H : Hp) (C : Addr) (cl : List (Str × Addr)) (fp : List Addr), DTs (X.blk s H scope (compEnvC scope cl C X.env) fp) Cl W0 ifs tt)
    (he : ∀ (s : Shared) (H : Hp) (C : Addr) (cl : List (Str × Addr)) (fp : List Addr), DE (X.blk s H scope (compEnvC scope cl C X.env) fp) Cl W0 elt fe) (hsw : swapsWith (.ListComp elt [⟨tg, iter, ifs, 0⟩] scope pos) (some (.Name y py)) spos.line X.env = pure true) (hy : X.N[i]? = some y := by rfl) (hyl : X.env.scope.names.lookup y = some .local := by rfl) (hv : own.map (·.2) = vs := by rfl) (hs : ∀ x, foldedSetIterable iter X.env x = pure x := by intro _; rfl) :
    DS X Cl W (.Assign [.Name y py] (.ListComp elt [⟨tg, iter, ifs, 0⟩] scope pos) spos) (fSetO i (eLcG vs st it tt fe)) := PS.imp (ps_setLc (tt := ttOf X.K Cl W0 tt) (te := teOf X.K Cl W0 fe) hc hN hy hyl hsw hi ok hg ht he hs) fun D σ H h => by
  have h1 := setO_read h
  rw [hv]
  exact lc_read T h1
end
end DL
set_option Elab.async false
set_option linter.all false
set_option maxRecDepth 100000
set_option maxHeartbeats 4000000
/-! DL8: comparisons of several kinds, unpacking, tuples of the top. -/
namespace DL
open PySem PySem.Spec PyProof.Rows L2
section
variable {X : Cx} {Cl : Nat → Addr} {W : WX} {K : PySem.W.Frag} {e : Expr} {f : FE} {pos : Pos}
@[simp] def gLtX (a b : Val) : Option Val := (gI (fun i j => .bool (decide (i < j))) a b).or (gS (fun i j => .bool (decide (i.cps.toList < j.cps.toList))) a b)
@[simp] def gLeX (a b : Val) : Option Val := (gI (fun i j => .bool (decide (i ≤ j))) a b).or (gS (fun i j => .bool (!decide (j.cps.toList < i.cps.toList))) a b)
@[simp] def gGtX (a b : Val) : Option Val := (gI (fun i j => .bool (decide (j < i))) a b).or (gS (fun i j => .bool (decide (j.cps.toList < i.cps.toList))) a b)
@[simp] def gGeX (a b : Val) : Option Val := (gI (fun i j => .bool (decide (j ≤ i))) a b).or (gS (fun i j => .bool (!decide (i.cps.toList < j.cps.toList))) a b)
def rX (g : Int → Int → V) (h : Str → Str → V) : R2 := fun x y H Q => rI0 g x y H Q ∨ (∃ i j, x = .str i ∧ y = .str j ∧ Q (h i j) H)
theorem op_ltX : OpR X (compareOp .Lt) (rX (fun i j => .bl (decide (i < j))) fun i j => .bl (decide (i.cps.toList < j.cps.toList))) := op_lt.or op_lt_str
theorem op_leX : OpR X (compareOp .LtE) (rX (fun i j => .bl (decide (i ≤ j))) fun i j => .bl (!decide (j.cps.toList < i.cps.toList))) := op_le.or op_le_str
theorem op_gtX : OpR X (compareOp .Gt) (rX (fun i j => .bl (decide (j < i))) fun i j => .bl (decide (j.cps.toList < i.cps.toList))) := op_gt.or op_gt_str
theorem op_geX : OpR X (compareOp .GtE) (rX (fun i j => .bl (decide (j ≤ i))) fun i j => .bl (!decide (i.cps.toList < j.cps.toList))) := op_ge.or op_ge_str
theorem r2_ltX : R2D K (rX (fun i j => .bl (decide (i < j))) fun i j => .bl (decide (i.cps.toList < j.cps.toList))) gLtX := (r2_I fun i j _ => .bl _).or (r2_S (g := fun i j => .bl (decide (i.cps.toList < j.cps.toList))) fun i j _ => .bl _)
theorem r2_leX : R2D K (rX (fun i j => .bl (decide (i ≤ j))) fun i j => .bl (!decide (j.cps.toList < i.cps.toList))) gLeX := (r2_I fun i j _ => .bl _).or (r2_S (g := fun i j => .bl (!decide (j.cps.toList < i.cps.toList))) fun i j _ => .bl _)
theorem r2_gtX : R2D K (rX (fun i j => .bl (decide (j < i))) fun i j => .bl (decide (j.cps.toList < i.cps.toList))) gGtX := (r2_I fun i j _ => .bl _).or (r2_S (g := fun i j => .bl (decide (j.cps.toList < i.cps.toList))) fun i j _ => .bl _)
theorem r2_geX : R2D K (rX (fun i j => .bl (decide (j ≤ i))) fun i j => .bl (!decide (i.cps.toList < j.cps.toList))) gGeX := (r2_I fun i j _ => .bl _).or (r2_S (g := fun i j => .bl (!decide (i.cps.toList < j.cps.toList))) fun i j _ => .bl _)

/-- a, b = e -/
def fUnp (g : FG) (f : FE) : FS := sE f fun v ρ => match v.st with
  | some d => (g d ρ).map .nx
  | none => none
theorem ds_unp {tg : Expr} {g : FG} (hg : DG X tg g) (he : DE X Cl W e f) (hs : swapsWithSole [tg] e pos.line X.env = pure false := by rfl) (hw : swappedStores [tg] e X.env = pure none := by rfl)
    (h1 : (assignEach [tg] X.env).map (·.2) = [assign tg X.env] := by rfl) : DS X Cl W (.Assign [tg] e pos) (fUnp g f) := PS.imp (ps_asg he hg hs hw h1) fun D σ H ⟨H0, Z, ρ, o, I, e, q⟩ => by
  refine ts_step I e q fun v x H1 _ h2 s1 hv I1 => ?_
  cases e1 : v.st with
  | none => rw [e1] at h2; cases h2
  | some d =>
    rw [e1] at h2
    dsimp only at h2
    cases e2 : g d ρ with
    | none => rw [e2] at h2; cases h2
    | some ρ' =>
      rw [e2] at h2
      cases h2
      exact ⟨_, Z, ρ, d, ρ', I1, hv.stab I.di e1, e2, fun σ' I' => q _ _ I'⟩
/-- a tuple of ints that stands at the top -/
theorem tupC {p : Addr} {dd : Option Addr} {its : Array Value} {n : Nat} {ss : Array (Option Value)} {ns : List Int} (h : K.lookup p = some ⟨.type "tuple", dd, .seq its n, ss⟩) (hv : Vals (ns.map V.int) its.toList) (hl : lineOk its.size = true := by rfl) : ∀ H, DL.Dp K H (.ref p) (.tuple (ns.map .int)) :=
  fun H => .tup (.inr ⟨_, its, n, h, rfl, rfl, lineOk_ok hl, hv⟩) (DpAll.of_ints ns)
/-- xs.index(y), y there -/
def idxD (x : D) (ds : List D) : Option Nat := ds.findIdx? fun d => eqV (toV d) (toV x)
@[simp] def gIndex (a b : Val) : Option Val := match a.d with
  | .list ds => if (scalarD b.d && ds.all scalarD) = true then (idxD b.d ds).map fun j => .s (.int (j : Int)) else none
  | _ => none
/-- a method of a list, with one argument -/
def eLM (g : Val → Val → Option Val) (fa fb : FE) : FE := bE fa fun a ρ => match a.d with
  | .list _ => bE fb (fun b _ => (g a b).map .ok) ρ
  | _ => none
theorem de_index {fa fb : FE} {c : Expr} (hp : PE X c (tBM X.K "list" (rIndex X.K) (teOf X.K Cl W fa) (tCons (teOf X.K Cl W fb) tNil))) : DE X Cl W c (eLM gIndex fa fb) := PE.imp hp fun σ H Q ⟨Z, ρ, r1, I, e, q⟩ => by
  refine te_bind I e q fun v x H1 _ h1 s1 hv I1 q1 => ?_
  split at h1
  · rename_i ds0 ed0
    have hl : ∀ {H2 : Hp}, Same H1 H2 → ∃ a ys, x = .ref a ∧ Rd H2 a (.lst ys) ∧ DpAll X.K H2 ys ds0 := fun {H2} s2 => by
      have h2 := Dp.same hide_sub ((hv.same s2).dp I)
      rw [ed0] at h2
      exact h2.lst_inv
    obtain ⟨a, ys, rfl, h2, h3⟩ := hl (Same.refl _)
    refine ⟨.inl ⟨rfl, ys, .inl h2⟩, te_bind I1 h1 q1 fun u y H2 _ h4 s2 hu I2 q2 => ?_⟩
    obtain ⟨a', ys', ea, h5, h6⟩ := hl s2
    cases ea
    unfold gIndex at h4
    split at h4
    · rename_i ds ed
      rw [ed0] at ed
      cases ed
      split at h4
      · rename_i sc
        obtain ⟨sc1, sc2⟩ := Bool.and_eq_true_iff.mp sc
        cases e2 : idxD u.d ds0 with
        | none => rw [e2] at h4; cases h4
        | some j =>
          rw [e2] at h4
          cases h4
          obtain ⟨e3, e4⟩ := h6.toV sc2
          have hy := Dp.same hide_sub (hu.dp I1)
          have ey := hy.toV sc1
          obtain ⟨hj, ej, ne⟩ := List.findIdx?_eq_some_iff_getElem.mp e2
          subst e3
          refine ⟨a, _, y, j, toV ds0[j], rfl, rfl, .inl h5, hy.flat sc1, e4, by rw [List.getElem?_map, List.getElem?_eq_getElem hj]; rfl, by rw [ey]; exact ej, fun m z hm hz => ?_, q2 _ H2 (Same.refl _) (.int _)⟩
          rw [List.getElem?_map, List.getElem?_eq_getElem (Nat.lt_trans hm hj)] at hz
          cases hz
          rw [ey]
          exact Bool.eq_false_iff.mpr (ne m hm)
      · cases h4
    · cases h4
  · cases h1
/-! ### how the functions of data reckon -/
section
variable {g : Val → Val → Option Val} {h : Val → Option Val} {fa fb fe : FE} {i : Nat} {ρ : Rho} {d : D} {gs : FGs} {tg : FG}
@[simp] theorem e2_ap : e2 g fa fb ρ = bE fa (fun a => bE fb fun b _ => (g a b).map .ok) ρ := rfl
@[simp] theorem e1_ap : e1 h fa ρ = bE fa (fun a _ => (h a).map .ok) ρ := rfl
@[simp] theorem eLM_ap : eLM g fa fb ρ = bE fa (fun a ρ => match a.d with
  | .list _ => bE fb (fun b _ => (g a b).map .ok) ρ
  | _ => none) ρ := rfl
@[simp] theorem eAndV_ap : eAndV fa fb ρ = bE fa (fun v ρ => match v.d with
  | .bool true => fb ρ
  | .bool false => ok (.bool false)
  | _ => none) ρ := rfl
@[simp] theorem eOrV_ap : eOrV fa fb ρ = bE fa (fun v ρ => match v.d with
  | .bool false => fb ρ
  | .bool true => ok (.bool true)
  | _ => none) ρ := rfl
@[simp] theorem fSet_ap : fSet i fa ρ = sE fa (fun v ρ => v.st.map fun d => .nx (ρ.set i (.dat d))) ρ := rfl
@[simp] theorem fSetO_ap : fSetO i fa ρ = sE fa (fun v ρ => match v with
  | .f ds => some (.nx (ρ.set i (.own ds)))
  | _ => none) ρ := rfl
@[simp] theorem fDrop_ap : fDrop fa ρ = sE fa (fun _ ρ => some (.nx ρ)) ρ := rfl
@[simp] theorem fRet_ap : fRet fa ρ = sE fa (fun v _ => match v with
  | .s d => some (.ret d)
  | .m d => some (.ret d)
  | .b ds => some (.retF ds)
  | .f ds => some (.retF ds)) ρ := rfl
@[simp] theorem fApp_ap : fApp i fa ρ = fOwn i (fun ds => sE fa fun v ρ => match v.st with
  | some d => if lineOk (ds.length + 1) = true then some (.nx (ρ.set i (.own (ds ++ [d])))) else none
  | none => none) ρ := rfl
@[simp] theorem fExt_ap : fExt i fa ρ = fOwn i (fun ds => sE fa fun v ρ => match v.items with
  | some es => if lineOk (ds.length + es.length) = true then some (.nx (ρ.set i (.own (ds ++ es)))) else none
  | none => none) ρ := rfl
@[simp] theorem fPop_ap : fPop i ρ = fOwn i (fun ds ρ => if ds.isEmpty = true then none else some (.nx (ρ.set i (.own ds.dropLast)))) ρ := rfl
@[simp] theorem fPut_ap : fPut i fa fe ρ = sE fe (fun v => fOwn i fun ds => sE fa fun k ρ => match k.d, v.st with
  | .int j, some d => (ixN ds.length j).map fun n => .nx (ρ.set i (.own (ds.set n d)))
  | _, _ => none) ρ := rfl
@[simp] theorem gN_ap : gN i d ρ = some (ρ.set i (.dat d)) := rfl
@[simp] theorem gsNil_ap : gsNil [] ρ = some ρ := rfl
@[simp] theorem gsCons_ap {r : List D} : gsCons i gs (d :: r) ρ = gs r (ρ.set i (.dat d)) := rfl
@[simp] theorem gT_ap {n : Nat} {ds : List D} : gT n gs (.tuple ds) ρ = if ds.length = n then gs ds ρ else none := rfl
@[simp] theorem mkD_ap {n k : Nat} {f : FS} {ds : List D} : mkD n k f ds = match f (ds.map .dat ++ List.replicate (k - n) .un) with
  | some (.nx _) => some (.ret .none)
  | some (.ret d) => some (.ret d)
  | some (.retF ds) => some (.retF ds)
  | some (.retX ds k) => some (.retX ds k)
  | some (.exc _ c i) => some (.exc c i)
  | _ => none := rfl
@[simp] theorem st1_ap : st1 i ρ d = some (ρ.set i (.dat d)) := rfl
@[simp] theorem fUnp_ap : fUnp tg fa ρ = sE fa (fun v ρ => match v.st with
  | some d => (tg d ρ).map .nx
  | none => none) ρ := rfl
end
/-- the law's promise -/
def spLaw (K : PySem.W.Frag) : Sp := fun vs H Q _ => ∃ (a : Addr) (ns : List Int), vs = [.ref a] ∧ SqL K H a (ns.map V.int) ∧ ns.length ≤ 63 ∧ ∀ H', Q (.bl true) H'
theorem law_sp {P : Program} {w : World} {mg : Str → Option Value} {base : Heap} {CX : CXT} {k : Nat} {fa : Addr} {fd : FuncData} {ps : List Str} {F : DF} (h : ∀ ns : List Int, ns.length ≤ 63 → F [scr ns] = some (.ret (.bool true))) (G : FnOk P w K mg base CX k fa fd ps (spD K Cl 1 F)) : FnOk P w K mg base CX k fa fd ps (spLaw K) :=
  G.imp fun vs H Q E ⟨a, ns, e, hs, hl, q⟩ => by
    subst e
    refine ⟨fun _ => False, [scr ns], _, fun _ z => z.elim, .cons (.scr (SqL.same' (fun b o e => hide_at id e) hs)) .nil, rfl, h ns hl, fun v H' s hv => ?_⟩
    rw [hv.bl_inv]
    exact q H'
theorem cx_none {P : Program} {w : World} {outer : List Env} {H : Hp} {s s' : Shared} {e : Value} (h : L2.CX P w outer H s (fun _ _ _ => False) e s') : False := by
  obtain ⟨_, _, _, _, _, _, _, _, _, _, _, _, z⟩ := h
  exact z
end
end DL
set_option Elab.async false
set_option linter.all false
set_option maxRecDepth 100000
set_option maxHeartbeats 4000000
/-! DL9: errors of the text's own: raise, try with several clauses. -/
namespace DL
open PySem PySem.Spec PyProof.Rows L2

/-! ### the classes -/
/-- a class of the text whose __init__ is the base's own -/
structure ExT (K : PySem.W.Frag) (mg : Str → Option Value) (x : Str) (C fI : Addr) : Prop where
  g : mg x = some (.ref C)
  oex : OexC K C
  no : PySem.W.findIn K (.ref C) "at" = some none
  iC : PySem.W.findIn K (.ref C) "__init__" = some (some (.ref fI))
  xf : XfC K C
structure InT (K : PySem.W.Frag) (q : Str) (st : Stmt) (fI : Addr) (fd : FuncData) : Prop where
  F : Fun K "__init__" q st fI fd
  tI : PySem.W.typeIn K (.ref fI) = some (.type "function")
  b : Binds K fd ["self", "at"] []
/-- what __init__ does -/
def spIn (K : PySem.W.Frag) : Sp := fun vs H Q _ => ∃ (a C : Addr) (y : V), vs = [.ref a, y] ∧ OexC K C ∧ PySem.W.findIn K (.ref C) "at" = some none ∧ H a = some (exo a C none) ∧
  ∀ dx, H dx = none → dx ≠ a → Q .non (upd (upd H dx (exd dx [("at", y)])) a (exo a C (some dx)))
section
variable {X : Cx} {Cl : Nat → Addr} {W : WX} {K : PySem.W.Frag} {e : Expr} {f : FE} {pos : Pos}
def fRaise (c : Nat) (f : FE) : FS := sE f fun v ρ => match v.d with
  | .int i => some (.exc ρ c i)
  | _ => none
@[simp] theorem fRaise_ap {c : Nat} {ρ : Rho} : fRaise c f ρ = sE f (fun v ρ => match v.d with
  | .int i => some (.exc ρ c i)
  | _ => none) ρ := rfl
theorem ds_raise {c : Nat} {x q : Str} {fI : Addr} {fd : FuncData} {st : Stmt} {p pos' : Pos} (T : ExT X.K X.mg x (Cl c) fI) (N : InT X.K q st fI fd) (F1 : FnOk X.prog X.w X.K X.mg X.base (L2.CX X.prog X.w) 1 fI fd ["self", "at"] (spIn X.K)) (tk : Takes X W) (hr : Room 2 X.A) (he : DE X Cl W e f)
    (hc : X.calm = true := by rfl) (hg : Gl X x := by rfl) (hdb : (x == ("__debug__" : Str)) = false := by decide) (hs : starEach (e :: []) X.env = (false, eval e X.env) :: starEach [] X.env := by rfl) (hpl : (backTo pos (starEach [] X.env)).any (·.1) = false := by rfl) :
    DS X Cl W (.Raise (some (.Call (.Name x p) [e] [] pos)) none pos') (fRaise c f) :=
  PS.imp (ps_raise hc tk (pmk_oex (dvs := []) (ds := []) T.oex T.iC N.tI F1 hr N.b .nil passL hg T.g (pa_cons he pa_nil hs) hdb hs hpl)) fun D σ H ⟨H0, Z, ρ, o, I, e, q⟩ => by
    refine ts_step I e q fun v y H1 _ h1 s1 hv I1 => ?_
    split at h1
    · rename_i i ei
      cases h1
      have ey := hv.int_inv I.di ei
      subst ey
      refine ⟨by show 1 ≤ 1000; decide, fun a na => ⟨a, Cl c, .int i, rfl, T.oex, T.no, upd_same, fun dx nd hne => ⟨rfl, dx, [("at", .int i)], ?_, ?_, ?_, ?_⟩⟩⟩
      · exact upd_same
      · rw [upd_ne hne, upd_same]
      · rw [upd_ne hne] at nd
        exact nd
      · rw [upd_ne hne] at nd
        refine q dx σ _ (I1.same' fun b o e => ?_) upd_same
        have n1 := ne_of_none e nd
        have n2 := ne_of_none e na
        rw [upd_ne n1, del_ne n2, upd_ne n2, upd_ne n1, upd_ne n2]
        exact e
    · cases h1

/-! ### a clause after the other -/
/-- an error has come to a try's clauses -/
structure Caught (X : Cx) (pins : List (Addr × Obj)) (a : Addr) (B : Heap) (sI : Shared) (σ : St) (H : Hp) (cls : Value) (d : Option Addr) (s : Shared) : Prop where
  inv : Inv X pins σ H sI
  ground : ∀ b o, sI.heap.get? b = some o → b ∉ frs X.stack → B.get? b = some o
  slots : sI.heap.UpToSlots s.heap
  fly : HandSPX.FlyingZ B (X.env :: X.outer) a (Zc cls d) s.heap
  free : H a = none
  os : s.os = sI.os
  bare : AllBare s.gens
def Clauses (X : Cx) (hds : List ExceptHandler) (D : Ends) (wish : WX) : Prop := ∀ (pins : List (Addr × Obj)) (a : Addr) (B : Heap) (sI : Shared) (σ : St) (H : Hp) (cls : Value) (d : Option Addr) (s : Shared), Caught X pins a B sI σ H cls d s → wish cls d σ H →
  wpAny (model X.prog X.w) X.A (handleBy (.ref a) X.env hds) (SP X pins D) X.xe s
theorem Caught.now {pins : List (Addr × Obj)} {a : Addr} {B : Heap} {sI : Shared} {σ : St} {H : Hp} {cls : Value} {d : Option Addr} {s : Shared} (c : Caught X pins a B sI σ H cls d s) : Inv X pins σ H s := c.inv.landed c.ground c.fly.1 c.slots c.os c.bare
theorem Caught.out {pins : List (Addr × Obj)} {a : Addr} {B : Heap} {sI : Shared} {σ : St} {H : Hp} {cls : Value} {d : Option Addr} {s : Shared} (c : Caught X pins a B sI σ H cls d s) (hf : X.env.frame = some X.env.locals) : a ≠ X.env.locals ∧ a ∉ X.fs := by
  obtain ⟨ob, fv, hob, _, hdat⟩ := c.fly.there
  have apart : a ∉ frs (X.env :: X.outer) := fun m => by
    obtain ⟨_, o2, e2, nf⟩ := c.fly.2.2.1.mem m
    rw [hob] at e2
    cases e2
    exact nf _ hdat
  refine ⟨fun z => apart (List.mem_filterMap.mpr ⟨X.env, List.mem_cons_self, by rw [hf, z]⟩), fun m => ?_⟩
  obtain ⟨en, men, q⟩ := List.mem_filterMap.mp m
  exact apart (List.mem_filterMap.mpr ⟨en, List.mem_cons_of_mem _ men, q⟩)
theorem clauses_nil {D : Ends} (hs : X.stack = X.env :: X.outer) (hf : X.env.frame = some X.env.locals) (tk : Takes X W) : Clauses X [] D W := fun pins a B sI σ H cls d s c hw => by
  refine wpAny_handleBy_nil ?_
  obtain ⟨_, _, _, ob, fv, T, _, _, hob, _, hdat, h1, _⟩ := id c.fly
  unfold PySem.passOn
  have fin : wpAny (model X.prog X.w) X.A (setFlight (.ref a) X.env.frame) (fun _ s4 => wpAny (model X.prog X.w) X.A (throw (.ref a) : Sem Flow) (SP X pins D) X.xe s4) X.xe s := by
    rw [hf]
    refine HandSPX.setFlight_upZ c.fly fun h4 held more => wpAny_throw (tk _ _ ?_)
    exact ⟨a, B, sI, pins, σ, H, cls, d, rfl, c.inv, c.ground, c.slots.trans more, .inr (.inr (by rw [hs]; exact held)), c.free, c.os, c.bare, hw⟩
  refine wpAny_bind (wpAny_field hob hdat h1 ?_)
  rw [if_neg (show ¬ ((Value.ref T == Value.none) = true) by simp)]
  first
    | exact wpAny_bind (wpAny_pure (wpAny_bind fin))
    | exact wpAny_bind fin
/-- what is wished of an error by one clause, and by those behind it -/
def wTest (test : Value → Bool → Prop) (yes : Addr → Value → Option Addr → TS) (D : Ends) (rest : WX) : WX := fun cls d σ H => ∃ b, test cls b ∧ (b = true → ∀ a, H a = none → yes a cls d D σ H) ∧ (b = false → rest cls d σ H)
theorem Caught.suite {pins : List (Addr × Obj)} {a : Addr} {B : Heap} {sI : Shared} {σ : St} {H : Hp} {cls : Value} {d : Option Addr} {s : Shared} (c : Caught X pins a B sI σ H cls d s) (hf : X.env.frame = some X.env.locals) :
    ∃ oe, s.heap.get? a = some oe ∧ Zc cls d oe ∧ (∃ vs, oe.data = .fields vs) ∧ Inv (X.suite a ((a, oe) :: (X.pn ++ pins))) [] σ H s := by
  obtain ⟨ob, fv, hob, hz, hdat⟩ := c.fly.there
  obtain ⟨n1, n2⟩ := c.out hf
  exact ⟨ob, hob, hz, ⟨fv, hdat⟩, c.now.suite hob hdat c.free n1 n2⟩
theorem Caught.again {pins : List (Addr × Obj)} {a : Addr} {B : Heap} {sI : Shared} {σ : St} {H : Hp} {cls : Value} {d : Option Addr} {s : Shared} {h4 : Heap} (c : Caught X pins a B sI σ H cls d s) (fl : HandSPX.FlyingZ B (X.env :: X.outer) a (Zc cls d) h4) (up : s.heap.UpToSlots h4) : Caught X pins a B sI σ H cls d { s with heap := h4 } :=
  ⟨c.inv, c.ground, c.slots.trans up, fl, c.free, c.os, c.bare⟩
/-- one class -/
theorem clauses_one {D : Ends} {x : Str} {c : Value} {b0 : Stmt} {suite : List Stmt} {np pos' : Pos} {hds : List ExceptHandler} {rest : WX} {ts : Addr → Value → Option Addr → TS} (ok : X.Ok) (hf : X.env.frame = some X.env.locals) (hc : Names X x c)
    (hsu : ∀ (a : Addr) (oe : Obj) (cls : Value) (d : Option Addr) (pn : List (Addr × Obj)), Zc cls d oe → (∃ vs, oe.data = .fields vs) → PSs (X.suite a ((a, oe) :: pn)) (b0 :: suite) (ts a cls d)) (hr : Clauses X hds D rest) :
    Clauses X (.ExceptHandler (some (.Name x np)) none (b0 :: suite) pos' :: hds) D (wTest (fun cls b => PySem.W.exmOne X.K cls c = some b) ts D rest) := fun pins a B sI σ H cls d s ca ⟨b, hb, yes, no⟩ => by
  obtain ⟨ob, hob, hz, hdat, S⟩ := ca.suite hf
  refine wpAny_handleBy_cons (codeAny_handlers_test ?_) (by intro q; cases q)
  have look : PySem.W.Looks (model X.prog X.w) s.heap (typeOf (.ref a)) cls := fun A Q E s' k q => wpAny_typeOf_ref (k _ _ hob) (by rw [hz.1]; exact q)
  have here := PySem.W.exm_one (M := model X.prog X.w) ca.now.kIn look hb
  have named : ∀ {Q : Value → Shared → Prop} {E : Value → Shared → Prop}, Q c s → wpAny (model X.prog X.w) (X.A.mark (some (.ref a))) (eval (.Name x np) X.env) Q E s := fun {Q E} q => by
    obtain ⟨hg, hdbg, hm | ⟨hm, hv, hnn⟩⟩ := hc
    · exact ld_glob (X := X.suite a ((a, ob) :: (X.pn ++ pins))) S hg hm q hdbg
    · exact ld_blt (X := X.suite a ((a, ob) :: (X.pn ++ pins))) S hg hm hv q hnn hdbg
  refine named (here.here ?_)
  cases b with
  | false => exact hr pins a B sI σ H cls d s ca (no rfl)
  | true =>
    refine codeAny_handlers_suite (HandSPX.lands_againZ ca.fly fun h4 fl up => ?_)
    have ca4 := ca.again fl up
    obtain ⟨ob4, _, hz4, hdat4, S4⟩ := ca4.suite hf
    refine wpAny_mono ((hsu a ob4 cls d (X.pn ++ pins) hz4 hdat4).run [] _ _ H _ S4 (yes rfl a ca.free)) (fun fl s6 r => ?_) (fun _ _ z => z.elim)
    cases fl with
    | next => obtain ⟨σ6, H6, S6, q6⟩ := r; exact ⟨σ6, H6, S6.unsuite ok, q6⟩
    | brk => obtain ⟨σ6, H6, S6, q6⟩ := r; exact ⟨σ6, H6, S6.unsuite ok, q6⟩
    | cont => obtain ⟨σ6, H6, S6, q6⟩ := r; exact ⟨σ6, H6, S6.unsuite ok, q6⟩
    | ret u => obtain ⟨v6, σ6, H6, S6, r6, q6⟩ := r; exact ⟨v6, σ6, H6, S6.unsuite ok, r6, q6⟩
/-- the ends of a suite whose name goes behind it -/
def goneE (D : Ends) (i : Nat) : Ends := { nx := fun σ H => D.nx (σ.set i none) H, rt := D.rt, bk := fun σ H => D.bk (σ.set i none) H, ct := fun σ H => D.ct (σ.set i none) H }
/-- one class, as a name -/
theorem clauses_as {D : Ends} {x n : Str} {i : Nat} {c : Value} {b0 : Stmt} {suite : List Stmt} {np pos' : Pos} {hds : List ExceptHandler} {rest : WX} {ts : Addr → Value → Option Addr → TS} (ok : X.Ok) (hf : X.env.frame = some X.env.locals) (hN : X.N.Nodup) (hi : X.N[i]? = some n) (hln : X.env.kindOf n = some .local) (hc : Names X x c)
    (hsu : ∀ (a : Addr) (oe : Obj) (cls : Value) (d : Option Addr) (pn : List (Addr × Obj)), Zc cls d oe → (∃ vs, oe.data = .fields vs) → PSs (X.suite a ((a, oe) :: pn)) (b0 :: suite) (ts a cls d)) (hr : Clauses X hds D rest) :
    Clauses X (.ExceptHandler (some (.Name x np)) (some n) (b0 :: suite) pos' :: hds) D (wTest (fun cls b => PySem.W.exmOne X.K cls c = some b) (fun a cls d D σ H => ts a cls d (goneE D i) (σ.set i (some (.ref a))) H) D rest) := fun pins a B sI σ H cls d s ca ⟨b, hb, yes, no⟩ => by
  obtain ⟨ob, hob, hz, hdat, S⟩ := ca.suite hf
  have hloc : Loc X.env.scope n := .inl hln
  refine wpAny_handleBy_cons (codeAny_handlers_test ?_) (by intro q; cases q)
  have look : PySem.W.Looks (model X.prog X.w) s.heap (typeOf (.ref a)) cls := fun A Q E s' k q => wpAny_typeOf_ref (k _ _ hob) (by rw [hz.1]; exact q)
  have here := PySem.W.exm_one (M := model X.prog X.w) ca.now.kIn look hb
  have named : ∀ {Q : Value → Shared → Prop} {E : Value → Shared → Prop}, Q c s → wpAny (model X.prog X.w) (X.A.mark (some (.ref a))) (eval (.Name x np) X.env) Q E s := fun {Q E} q => by
    obtain ⟨hg, hdbg, hm | ⟨hm, hv, hnn⟩⟩ := hc
    · exact ld_glob (X := X.suite a ((a, ob) :: (X.pn ++ pins))) S hg hm q hdbg
    · exact ld_blt (X := X.suite a ((a, ob) :: (X.pn ++ pins))) S hg hm hv q hnn hdbg
  refine named (here.here ?_)
  cases b with
  | false => exact hr pins a B sI σ H cls d s ca (no rfl)
  | true =>
    refine codeAny_handlers_suite_as (HandSPX.lands_againZ ca.fly fun h4 fl up => ?_)
    have ca4 := ca.again fl up
    obtain ⟨ob4, _, hz4, hdat4, S4⟩ := ca4.suite hf
    refine store_ok (X := X.suite a ((a, ob4) :: (X.pn ++ pins))) (v := .ref a) S4 hN hi hloc rfl (fun s5 S5 => ?_) (.inr hln)
    have back : ∀ {σ6 : St} {H6 : Hp} {s6 : Shared} {Q : Shared → Prop}, Inv (X.suite a ((a, ob4) :: (X.pn ++ pins))) [] σ6 H6 s6 → (∀ s7, Inv X pins (σ6.set i none) H6 s7 → Q s7) →
        wpAny (model X.prog X.w) X.A (do bindName X.env n .none; unbindBehindTheSuite X.env n pos') (fun _ s7 => Q s7) X.xe s6 := fun {σ6 H6 s6 Q} S6 hq => gone_ok (S6.unsuite ok) hN hi hln hq
    refine wpAny_mono ((hsu a ob4 cls d (X.pn ++ pins) hz4 hdat4).run [] s5 _ H _ S5 (yes rfl a ca.free)) (fun fl s6 r => ?_) (fun _ _ z => z.elim)
    cases fl with
    | next => obtain ⟨σ6, H6, S6, q6⟩ := r; exact back S6 fun s7 J7 => ⟨_, _, J7, q6⟩
    | brk => obtain ⟨σ6, H6, S6, q6⟩ := r; exact back S6 fun s7 J7 => ⟨_, _, J7, q6⟩
    | cont => obtain ⟨σ6, H6, S6, q6⟩ := r; exact back S6 fun s7 J7 => ⟨_, _, J7, q6⟩
    | ret u => obtain ⟨v6, σ6, H6, S6, r6, q6⟩ := r; exact back S6 fun s7 J7 => ⟨_, _, _, J7, r6, q6⟩
/-- the whole try: the wish is chosen by the ends -/
theorem ps_try {body : List Stmt} {h0 : ExceptHandler} {hds : List ExceptHandler} {tb : WX → TS} {wish : Ends → WX} (hs : X.stack = X.env :: X.outer) (hf : X.env.frame = some X.env.locals)
    (hb : ∀ (W : WX) (pn : List (Addr × Obj)) (xe : Value → Shared → Prop), Takes (X.tr pn xe) W → PassesOwn (model X.prog X.w) X.A X.env xe → PSs (X.tr pn xe) body (tb W)) (hc : ∀ D, X.Ok → Clauses X (h0 :: hds) D (wish D)) :
    PS X (.Try body (h0 :: hds) [] [] pos) (fun D σ H => tb (wish D) D σ H) := by
  refine ⟨fun pins s σ H D I h => ?_⟩
  have ok := I.ok
  have top : X.A.frames = some (X.env :: X.outer) := by rw [ok.frames, hs]
  refine wpAny_Try_except (wpAny_mono ((hb (wish D) (X.pn ++ pins) (fun e s₁ => wpAny (model X.prog X.w) X.A (noteFrame e X.env) (fun _ s₂ => wpAny (model X.prog X.w) X.A (setFlight e none) (fun _ s₃ =>
    wpAny (model X.prog X.w) X.A (handleBy e X.env (h0 :: hds)) (SP X pins D) X.xe s₃) X.xe s₂) X.xe s₁) (fun u s' xx => ?_) PassesOwn.looking).run [] s σ H D (I.toTry _) h) (fun fl s1 r => ?_) (fun _ _ z => z))
  · obtain ⟨a, B, sI, pins', σ', H', cls, d, rfl, J', nb, up, sky, na, os, ag, w⟩ := xx
    have J : Inv X pins σ' H' sI := J'.ofTry ok
    refine Sky.land Zc.steady top hf (by rw [← hs]; exact sky) fun h3 fl3 up3 => ?_
    exact hc D ok pins a B sI σ' H' cls d { s' with heap := h3 } ⟨J, nb, up.trans up3, fl3, na, os, ag⟩ w
  · cases fl with
    | next => obtain ⟨σ6, H6, J6, q⟩ := r; exact wpAny_execs_nil ⟨σ6, H6, J6.ofTry ok, q⟩
    | brk => obtain ⟨σ6, H6, J6, q⟩ := r; exact ⟨σ6, H6, J6.ofTry ok, q⟩
    | cont => obtain ⟨σ6, H6, J6, q⟩ := r; exact ⟨σ6, H6, J6.ofTry ok, q⟩
    | ret u => obtain ⟨v6, σ6, H6, J6, r6, q⟩ := r; exact ⟨v6, σ6, H6, J6.ofTry ok, r6, q⟩
end
end DL
set_option Elab.async false
set_option linter.all false
set_option maxRecDepth 100000
set_option maxHeartbeats 4000000
/-! DL10: try, by functions of data. -/
namespace DL
open PySem PySem.Spec PyProof.Rows L2
section
variable {X : Cx} {Cl : Nat → Addr} {W : WX} {K : PySem.W.Frag} {pos : Pos}
/-- what a class must say, so that its errors can be asked -/
structure ErF (K : PySem.W.Frag) (C : Addr) : Prop where
  xf : XfC K C
  no : PySem.W.findIn K (.ref C) "at" = some none
  xc : ExcC K C
/-! ### the caught error -/
def eAt (k : Nat) (a dd : Addr) (ρ : Rho) : Option (Except Er Val) := match ρ[k]? with
  | some (.err a' dd' i) => if a' = a ∧ dd' = dd then ok (.int i) else none
  | _ => none
def eIsX (k : Nat) (a dd : Addr) (b : Option Bool) (ρ : Rho) : Option (Except Er Val) := match ρ[k]? with
  | some (.err a' dd' _) => if a' = a ∧ dd' = dd then b.map fun x => .ok (.s (.bool x)) else none
  | _ => none
theorem r_xat {k : Nat} {a dd : Addr} {i : Int} {ρ : Rho} (h : ρ[k]? = some (.err a dd i)) : eAt k a dd ρ = some (.ok (.s (.int i))) := by
  unfold eAt
  rw [h]
  dsimp only
  rw [if_pos ⟨rfl, rfl⟩]
  rfl
theorem r_xis {k : Nat} {a dd : Addr} {i : Int} {b : Bool} {ρ : Rho} (h : ρ[k]? = some (.err a dd i)) : eIsX k a dd (some b) ρ = some (.ok (.s (.bool b))) := by
  unfold eIsX
  rw [h]
  dsimp only
  rw [if_pos ⟨rfl, rfl⟩]
  rfl
theorem de_xat {a dd C : Addr} {oe : Obj} {pn : List (Addr × Obj)} {k : Nat} {n : Str} {pos' : Pos} (F : ErF X.K C) (hz : Zc (.ref C) (some dd) oe) (hf : ∃ vs, oe.data = .fields vs) (hv : PE (X.suite a ((a, oe) :: pn)) (.Name n pos') (tVar k))
    (hb : attributeBase (.Name n pos') "at" X.env (eval (.Name n pos') X.env) = eval (.Name n pos') X.env := by rfl) : DE (X.suite a ((a, oe) :: pn)) Cl W (.Attribute (.Name n pos') "at" pos) (eAt k a dd) :=
  PE.imp (pe_xf F.xf F.no hz hf hv hb) fun σ H Q ⟨Z, ρ, r, I, e, q⟩ => by
    unfold eAt at e
    split at e
    · rename_i a' dd' i hd
      split at e
      · rename_i h
        obtain ⟨rfl, rfl⟩ := h
        cases e
        obtain ⟨h1, h2⟩ := I.slots k _ hd
        exact ⟨_, h1, rfl, rfl, _, _, .int i, rfl, h2, rfl, q _ H (Same.refl _) (.int i)⟩
      · cases e
    · cases e
def rIsX (K : PySem.W.Frag) (D a dd : Addr) : List V → Hp → VK → Prop := fun xs H Q => ∃ (c : V) (cv : Value) (b : Bool) (fs : List (Str × V)), xs = [.ref a, c] ∧ (∀ u, RelV c u → u = cv) ∧ PySem.W.kitOne K (.ref D) cv = some b ∧ H dd = some (.xd fs) ∧ Q (.bl b) H
theorem call_isX {a D dd : Addr} {oe : Obj} {pn : List (Addr × Obj)} (C : ExcC X.K D) (hz : Zc (.ref D) (some dd) oe) (hf : ∃ vs, oe.data = .fields vs) : CallR (X.suite a ((a, oe) :: pn)) (.builtin "isinstance") (rIsX X.K D a dd) := fun pins s σ H xs us Q I r h => by
  obtain ⟨c, cv, b, fs, rfl, hcv, e, hdd, q⟩ := h
  cases r with
  | cons rx rr => cases rr with
    | cons rt rr =>
      cases rr
      cases rx
      have ec := hcv _ rt
      subst ec
      obtain ⟨hget, _⟩ := I.pin (a, oe) (List.mem_append_left _ List.mem_cons_self)
      have hx : ObjOk X.prog X.w H s.heap dd (.xd fs) := I.hok dd _ hdd
      obtain ⟨mA, hns, _⟩ := hx
      obtain ⟨od, ho, _⟩ := lookIn_ns hns
      obtain ⟨vs, hd⟩ := hf
      have inst : PySem.W.InstAt s.heap a oe D (some od) := ⟨hget, hz.1, (by unfold PySem.W.notCls; rw [hd] <;> rfl), (by rw [hz.2]; exact ho)⟩
      have hcl : (PySem.W.clsIn X.K D).isSome = true := by
        have hh := C.hd
        unfold PySem.W.hasDictIn at hh
        cases z : PySem.W.clsIn X.K D with
        | none => rw [z] at hh; cases hh
        | some _ => rfl
      exact PySem.W.kia_one (PySem.W.kitx_exc hcl C.hg C.hk C.hs C.ha C.hn C.ht C.hm) I.kIn inst e (fun z => nomatch z) fun tk =>
        ⟨.bl b, H, I.kept (t' := tk) fun _ _ z => z, rfl, q⟩
theorem de_isx {a dd C : Addr} {oe : Obj} {pn : List (Addr × Obj)} {k : Nat} {n y x : Str} {p p1 p2 : Pos} {b : Option Bool} {v : V} {cv : Value} (hx : x = "isinstance") (F : ErF X.K C) (hz : Zc (.ref C) (some dd) oe) (hf : ∃ vs, oe.data = .fields vs)
    (hm : X.mg x = none) (hv : PE (X.suite a ((a, oe) :: pn)) (.Name n p1) (tVar k)) (hy : PE (X.suite a ((a, oe) :: pn)) (.Name y p2) (tC v)) (hcv : ∀ u, RelV v u → u = cv) (hk : ∀ z, b = some z → PySem.W.kitOne X.K (.ref C) cv = some z) (hg : Gl X x := by rfl)
    (hs : starEach [.Name n p1, .Name y p2] X.env = (false, eval (.Name n p1) X.env) :: starEach [.Name y p2] X.env := by rfl) (hs2 : starEach [.Name y p2] X.env = (false, eval (.Name y p2) X.env) :: starEach [] X.env := by rfl) (hpl : (backTo pos (starEach [.Name y p2] X.env)).any (·.1) = false := by rfl) :
    DE (X.suite a ((a, oe) :: pn)) Cl W (.Call (.Name x p) [.Name n p1, .Name y p2] [] pos) (eIsX k a dd b) := by
  subst hx
  refine PE.imp (pe_callB (X := X.suite a ((a, oe) :: pn)) (call_isX F.xc hz hf) hg hm PyProof.Rows.boot_isinstance (pa_cons hv (pa_cons hy pa_nil hs2) hs) (by decide) (by decide) hs hpl) fun σ H Q ⟨Z, ρ, r, I, e, q⟩ => ?_
  unfold eIsX at e
  split at e
  · rename_i a' dd' i hd
    split at e
    · rename_i h
      obtain ⟨rfl, rfl⟩ := h
      cases b with
      | none => cases e
      | some z =>
        cases e
        obtain ⟨h1, h2⟩ := I.slots k _ hd
        exact ⟨_, h1, v, cv, z, _, rfl, hcv, hk z rfl, h2, q _ H (Same.refl _) (.bl z)⟩
    · cases e
  · cases e
/-! ### the clauses -/
abbrev HF := Nat → Int → Rho → Option Out
def goneO (k : Nat) : Out → Option Out
  | .nx ρ => some (.nx (ρ.set k .un))
  | .brk ρ => some (.brk (ρ.set k .un))
  | .ct ρ => some (.ct (ρ.set k .un))
  | .ret d => some (.ret d)
  | .retF ds => some (.retF ds)
  | .retX ds k => some (.retX ds k)
  | .exc _ _ _ => none
/-- the same wherever the error lies -/
noncomputable def anyAd (F : Addr → Addr → Option Out) : Option Out := open Classical in if h : ∃ o, ∀ a dd, F a dd = some o then some (Classical.choose h) else none
theorem anyAd_of {F : Addr → Addr → Option Out} {o : Out} (a0 : Addr) (h : ∀ a dd, F a dd = some o) : anyAd F = some o := by
  unfold anyAd
  have hh : ∃ o, ∀ a dd, F a dd = some o := ⟨o, h⟩
  rw [dif_pos hh]
  have q := Classical.choose_spec hh a0 a0
  rw [h a0 a0] at q
  exact q.symm
theorem anyAd_spec {F : Addr → Addr → Option Out} {o : Out} (h : anyAd F = some o) : ∀ a dd, F a dd = some o := by
  unfold anyAd at h
  split at h
  · rename_i hh
    cases h
    exact Classical.choose_spec hh
  · cases h
def hNil : HF := fun c i ρ => some (.exc ρ c i)
noncomputable def hAs (m : Nat → Option Bool) (k : Nat) (g : Nat → Addr → Addr → FS) (rest : HF) : HF := fun c i ρ => match m c with
  | some true => anyAd fun a dd => (g c a dd (ρ.set k (.err a dd i))).bind (goneO k)
  | some false => rest c i ρ
  | none => none
def hOne (m : Nat → Option Bool) (g : FS) (rest : HF) : HF := fun c i ρ => match m c with
  | some true => match g ρ with
    | some (.exc _ _ _) => none
    | o => o
  | some false => rest c i ρ
  | none => none
def fTry (fb : FS) (h : HF) : FS := fun ρ => match fb ρ with
  | some (.exc ρ1 c i) => h c i ρ1
  | o => o
def HOk (K : PySem.W.Frag) (Cl : Nat → Addr) (W : WX) (h : HF) (wish : Ends → WX) : Prop := ∀ (D : Ends) (H0 : Hp) (Z : Addr → Prop) (o : Out) (c : Nat) (i : Int) (ρ : Rho) (σ : St) (H : Hp) (dd : Addr), h c i ρ = some o → SI K H0 Z H σ ρ → H dd = some (.xd [(("at" : Str), .int i)]) → OOk K Cl W H0 Z D o → wish D (.ref (Cl c)) (some dd) σ H
def DHs (X : Cx) (Cl : Nat → Addr) (W : WX) (hds : List ExceptHandler) (h : HF) : Prop := ∃ wish : Ends → WX, (∀ D, X.Ok → Clauses X hds D (wish D)) ∧ HOk X.K Cl W h wish
theorem dhs_nil (hs : X.stack = X.env :: X.outer) (hf : X.env.frame = some X.env.locals) (tk : Takes X W) : DHs X Cl W [] hNil :=
  ⟨fun _ => W, fun D _ => clauses_nil hs hf tk, fun D H0 Z o c i ρ σ H dd e I hd q => by cases e; exact q dd σ H I hd⟩
theorem SI.setErr {H0 : Hp} {Z : Addr → Prop} {H : Hp} {σ : St} {ρ : Rho} (I : SI K H0 Z H σ ρ) {k : Nat} {a dd : Addr} {i : Int} (h : H dd = some (.xd [(("at" : Str), .int i)])) : SI K H0 Z H (σ.set k (some (.ref a))) (ρ.set k (.err a dd i)) :=
  ⟨I.di.setS (fun _ z => nomatch z) fun _ _ => ⟨rfl, h⟩, I.same, fun b ⟨j, q⟩ => I.new b ⟨j, own_sub (s := .err a dd i) (fun _ z => by cases z) q⟩⟩
/-- the suite's reading -/
def tsX (K : PySem.W.Frag) (Cl : Nat → Addr) (n : Nat → Prop) (g : Nat → Addr → Addr → FS) (a : Addr) (cls : Value) (d : Option Addr) : TS := fun D σ H => ∃ c dd, n c ∧ cls = .ref (Cl c) ∧ d = some dd ∧ tsOf K Cl W0 (g c a dd) D σ H
theorem dhs_as {x n : Str} {k : Nat} {N : Nat → Prop} {C : Value} {b0 : Stmt} {suite : List Stmt} {np pos' : Pos} {hds : List ExceptHandler} {rest : HF} {m : Nat → Option Bool} {g : Nat → Addr → Addr → FS} (hf : X.env.frame = some X.env.locals) (hN : X.N.Nodup) (hc : Names X x C) (hm : ∀ c b, m c = some b → N c ∧ PySem.W.exmOne X.K (.ref (Cl c)) C = some b)
    (hsu : ∀ (a dd : Addr) (c : Nat) (oe : Obj) (pn : List (Addr × Obj)), N c → Zc (.ref (Cl c)) (some dd) oe → (∃ vs, oe.data = .fields vs) → DSs (X.suite a ((a, oe) :: pn)) Cl W0 (b0 :: suite) (g c a dd)) (hr : DHs X Cl W hds rest)
    (hi : X.N[k]? = some n := by rfl) (hln : X.env.kindOf n = some .local := by rfl) : DHs X Cl W (.ExceptHandler (some (.Name x np)) (some n) (b0 :: suite) pos' :: hds) (hAs m k g rest) := by
  obtain ⟨wr, h1, h2⟩ := hr
  refine ⟨_, fun D ok => clauses_as (ts := tsX X.K Cl N g) ok hf hN hi hln hc (fun a oe cls d pn hz hdat => ⟨fun pins s σ H D I q => ?_⟩) (h1 D ok), fun D H0 Z o c i ρ σ H dd e I hd q => ?_⟩
  · obtain ⟨c, dd, hlt, rfl, rfl, q⟩ := q
    exact (hsu a dd c oe pn hlt hz hdat).run pins s σ H D I q
  · unfold hAs at e
    cases e1 : m c with
    | none => rw [e1] at e; cases e
    | some b =>
      rw [e1] at e
      obtain ⟨hlt, hb⟩ := hm c b e1
      refine ⟨b, hb, fun hb1 a na => ?_, fun hb0 => ?_⟩
      · subst hb1
        have sp := anyAd_spec e a dd
        cases e2 : g c a dd (ρ.set k (.err a dd i)) with
        | none => rw [e2] at sp; cases sp
        | some o2 =>
          rw [e2] at sp
          refine ⟨c, dd, hlt, rfl, rfl, H0, Z, _, o2, I.setErr hd, e2, ?_⟩
          cases o2 with
          | nx ρ2 => cases sp; exact fun σ' H' I' => q _ H' I'.setUn
          | brk ρ2 => cases sp; exact fun σ' H' I' => q _ H' I'.setUn
          | ct ρ2 => cases sp; exact fun σ' H' I' => q _ H' I'.setUn
          | ret d => cases sp; exact q
          | retF ds => cases sp; exact q
          | retX ds k => cases sp; exact q
          | exc _ _ _ => cases sp
      · subst hb0
        exact h2 D H0 Z o c i ρ σ H dd e I hd q
theorem dhs_one {x : Str} {N : Nat → Prop} {C : Value} {b0 : Stmt} {suite : List Stmt} {np pos' : Pos} {hds : List ExceptHandler} {rest : HF} {m : Nat → Option Bool} {g : FS} (hf : X.env.frame = some X.env.locals) (hc : Names X x C) (hm : ∀ c b, m c = some b → N c ∧ PySem.W.exmOne X.K (.ref (Cl c)) C = some b)
    (hsu : ∀ (a : Addr) (oe : Obj) (pn : List (Addr × Obj)), DSs (X.suite a ((a, oe) :: pn)) Cl W0 (b0 :: suite) g) (hr : DHs X Cl W hds rest) :
    DHs X Cl W (.ExceptHandler (some (.Name x np)) none (b0 :: suite) pos' :: hds) (hOne m g rest) := by
  obtain ⟨wr, h1, h2⟩ := hr
  refine ⟨_, fun D ok => clauses_one (ts := fun _ _ _ => tsOf X.K Cl W0 g) ok hf hc (fun a oe cls d pn hz hdat => ⟨fun pins s σ H D I q => (hsu a oe pn).run pins s σ H D I q⟩) (h1 D ok), fun D H0 Z o c i ρ σ H dd e I hd q => ?_⟩
  unfold hOne at e
  cases e1 : m c with
  | none => rw [e1] at e; cases e
  | some b =>
    rw [e1] at e
    obtain ⟨hlt, hb⟩ := hm c b e1
    refine ⟨b, hb, fun hb1 a na => ?_, fun hb0 => ?_⟩
    · subst hb1
      dsimp only at e
      cases e2 : g ρ with
      | none => rw [e2] at e; cases e
      | some o2 =>
        rw [e2] at e
        refine ⟨H0, Z, _, o2, I, e2, ?_⟩
        cases o2 with
        | nx ρ2 => cases e; exact q
        | brk ρ2 => cases e; exact q
        | ct ρ2 => cases e; exact q
        | ret d => cases e; exact q
        | retF ds => cases e; exact q
        | retX ds k => cases e; exact q
        | exc _ _ _ => cases e
    · subst hb0
      exact h2 D H0 Z o c i ρ σ H dd e I hd q
theorem ds_try {body : List Stmt} {h0 : ExceptHandler} {hds : List ExceptHandler} {fb : FS} {h : HF} (hs : X.stack = X.env :: X.outer) (hf : X.env.frame = some X.env.locals)
    (hb : ∀ (W' : WX) (pn : List (Addr × Obj)) (xe : Value → Shared → Prop), Takes (X.tr pn xe) W' → PassesOwn (model X.prog X.w) X.A X.env xe → DSs (X.tr pn xe) Cl W' body fb) (hh : DHs X Cl W (h0 :: hds) h) :
    DS X Cl W (.Try body (h0 :: hds) [] [] pos) (fTry fb h) := by
  obtain ⟨wish, h1, h2⟩ := hh
  refine PS.imp (ps_try (tb := fun W' => tsOf X.K Cl W' fb) hs hf hb h1) fun D σ H ⟨H0, Z, ρ, o, I, e, q⟩ => ?_
  unfold fTry at e
  cases e1 : fb ρ with
  | none => rw [e1] at e; cases e
  | some o1 =>
    rw [e1] at e
    refine ⟨H0, Z, ρ, o1, I, e1, ?_⟩
    cases o1 with
    | exc ρ1 c i => exact fun dd σ' H' I' hd => h2 D H0 Z o c i ρ1 σ' H' dd e I' hd q
    | nx ρ2 => cases e; exact q
    | brk ρ2 => cases e; exact q
    | ct ρ2 => cases e; exact q
    | ret d => cases e; exact q
    | retF ds => cases e; exact q
    | retX ds k => cases e; exact q
end
end DL
set_option Elab.async false
set_option linter.all false
set_option maxRecDepth 100000
set_option maxHeartbeats 4000000
/-! DL11: tables of classes. -/
namespace DL
open PySem PySem.Spec PyProof.Rows L2
/-- what a table tells of a class; none if it is not in it -/
def mxL : List (Nat × Bool) → Nat → Option Bool
  | [], _ => none
  | (k, b) :: r, c => if k = c then some b else mxL r c
inductive AllL (P : Nat → Bool → Prop) : List (Nat × Bool) → Prop
  | nil : AllL P []
  | cons {k : Nat} {b : Bool} {r : List (Nat × Bool)} : P k b → AllL P r → AllL P ((k, b) :: r)
theorem mxL_spec {P : Nat → Bool → Prop} : ∀ {l : List (Nat × Bool)}, AllL P l → ∀ c b, mxL l c = some b → P c b
  | _, .nil, c, b, e => nomatch e
  | _, .cons (k := k) (b := b') h t, c, b, e => by
    unfold mxL at e
    by_cases hk : k = c
    · rw [if_pos hk] at e
      cases e
      exact hk ▸ h
    · rw [if_neg hk] at e
      exact mxL_spec t c b e
end DL
set_option Elab.async false
set_option linter.all false
set_option maxRecDepth 100000
set_option maxHeartbeats 4000000
/-! DL18: errors of the text's own as values: C(n), x.at, isinstance(x, C). -/
namespace DL
open PySem PySem.Spec PyProof.Rows L2
section
variable {X : Cx} {Cl : Nat → Addr} {W : WX} {K : PySem.W.Frag} {e : Expr} {es : List Expr} {f : FE} {pos p : Pos} {ta : TA}
/-- C(e, ..) that stays -/
def tKeepO (C : Addr) (sp : Sp) (ta : TA) : TE := fun σ H Q => ta σ H fun vs H1 => vs.length ≤ 1000 ∧ ∀ a, H1 a = none → sp (.ref a :: vs) (upd H1 a (exo a C none)) (fun v H2 => v = .non ∧ Q (.ref a) H2) (fun _ _ _ => False)
theorem pe_keepO {CX : CXT} {x : Str} {C fI : Addr} {k : Nat} {fd : FuncData} {ps : List Str} {sp : Sp} (T : OexC X.K C) (iC : PySem.W.findIn X.K (.ref C) "__init__" = some (some (.ref fI))) (tI : PySem.W.typeIn X.K (.ref fI) = some (.type "function"))
    (F1 : FnOk X.prog X.w X.K X.mg X.base CX k fI fd ps sp) (hr : Room (k + 1) X.A) (hb : Binds X.K fd ps []) (hx : Passes CX X (fun _ _ _ => False)) (hg : Gl X x) (hm : X.mg x = some (.ref C)) (ha : PA X (e :: es) ta)
    (hdb : (x == ("__debug__" : Str)) = false) (he : starEach (e :: es) X.env = (false, eval e X.env) :: starEach es X.env) (hpl : (backTo pos (starEach es X.env)).any (·.1) = false) :
    PE X (.Call (.Name x p) (e :: es) [] pos) (tKeepO C sp ta) := by
  constructor
  intro pins s σ H Q I h
  have hcls := T.cls
  obtain ⟨nm, qn, N, bs, bm, sn, sub, ab, col, dd, k0, k1, k2, k3, k5, hC, hbm⟩ := hcls
  refine wpAny_Call_Name_kw (ld_glob I hg hm ?_ hdb)
  have args := ha.run pos pins s σ H _ I h
  refine PySem.W.callWith_K (h₀ := X.base) I.ok.mod.kin T.kC (thn args fun us s1 w => ?_) he hpl
  obtain ⟨vs, H1, I1, r1, hz, q1⟩ := w
  refine ⟨I1.kIn, ?_⟩
  show wpAny _ _ (call (.ref C) us) _ _ _
  cases s1 with
  | mk hp g dr tk os =>
    -- where the new error goes
    have le : hp.objs.size ≤ hp.objs.size + 1 := by omega
    have fresh := I1.hok.fresh le
    have want := q1 _ fresh
    have grow : ∀ b o, hp.get? b = some o → ((hp.push (PySem.W.kdv_tup us)).push (PySem.HandSPX.excO C hp.objs.size)).get? b = some o :=
      fun b o z => Heap.get?_push_of_some _ (Heap.get?_push_of_some _ z)
    have there : ((hp.push (PySem.W.kdv_tup us)).push (PySem.HandSPX.excO C hp.objs.size)).get? (hp.objs.size + 1) = some (PySem.HandSPX.excO C hp.objs.size) := by heap_get
    have J := I1.laid (t' := tk) (a := hp.objs.size + 1) (o := exo (hp.objs.size + 1) C none) grow le (exo_ok there)
    have rr : Vals (V.ref (hp.objs.size + 1) :: vs) (Value.ref (hp.objs.size + 1) :: us) := .cons rfl r1
    have many : (Value.ref (hp.objs.size + 1) :: us).length = ps.length := by rw [← rr.length, F1.len _ _ _ _ want]
    have few : us.length ≤ sizeLine := by
      have z := r1.length
      rw [sizeLine_eq]
      omega
    have bind := hb _ (Value.ref (hp.objs.size + 1) :: us) J.kIn (by rw [List.append_nil]; exact many)
    rw [List.append_nil] at bind
    have run := F1.run _ X.stack _ _ ⟨Value.ref (hp.objs.size + 1) :: us, []⟩ _ _ _ (fun _ _ _ => False) (hr.make C us []) (J.env0.make C us []) bind rr want
    refine wpAny_call (PySem.HandSPX.call_own F.excBase_ValueError (fun Y => PySem.HandSPX.refsVE_contains Y bm hbm) (I1.kIn _ _ hC) (PySem.W.looks_findIn I1.kIn iC) (fun self => PySem.W.bind_fn I1.kIn self tI) few (codeAny_mono run fun r s2 w => ?_))
    cases r with
    | error er => exact hx pins σ _ _ er s2 J w
    | ok fl =>
      cases fl with
      | next => exact w.elim
      | brk => exact w.elim
      | cont => exact w.elim
      | ret u =>
        obtain ⟨v, H2, o2, b2, u2, h2, rv, ev, q2⟩ := w
        subst ev
        refine ⟨rv, ?_⟩
        cases s2 with
        | mk hp2 g2 d2 t2 os2 =>
          exact ⟨.ref (hp.objs.size + 1), H2, J.call' (ch := []) o2 u2 h2 b2 (fun b z => nomatch z), rfl, q2⟩
/-- by data -/
def gNew (C : Addr) (v : Val) : Option Val := match v.d with
  | .int i => some (.s (excD C i))
  | _ => none
def eNew (C : Addr) (f : FE) : FE := e1 (gNew C) f
theorem de_new {c : Nat} {x q : Str} {fI : Addr} {fd : FuncData} {st : Stmt} (T : ExT X.K X.mg x (Cl c) fI) (N : InT X.K q st fI fd) (F1 : FnOk X.prog X.w X.K X.mg X.base (L2.CX X.prog X.w) 1 fI fd ["self", "at"] (spIn X.K)) (hr : Room 2 X.A) (he : DE X Cl W e f)
    (hg : Gl X x := by rfl) (hdb : (x == ("__debug__" : Str)) = false := by decide) (hs : starEach (e :: []) X.env = (false, eval e X.env) :: starEach [] X.env := by rfl) (hpl : (backTo pos (starEach [] X.env)).any (·.1) = false := by rfl) :
    DE X Cl W (.Call (.Name x p) [e] [] pos) (eNew (Cl c) f) :=
  PE.imp (pe_keepO T.oex T.iC N.tI F1 hr N.b passL hg T.g (pa_cons he pa_nil hs) hdb hs hpl) fun σ H Q ⟨Z, ρ, r, I, e, q⟩ => by
    unfold eNew at e
    refine te_bind I e q fun v y H1 _ h1 s1 hv I1 q1 => ?_
    unfold gNew at h1
    split at h1
    · rename_i i hd
      cases h1
      have ey := hv.int_inv I hd
      subst ey
      refine ⟨by show 1 ≤ 1000; decide, fun a na => ⟨a, Cl c, .int i, rfl, T.oex, T.no, upd_same, fun dx nd hne => ⟨rfl, ?_⟩⟩⟩
      have nd' : H1 dx = none := by rw [upd_ne hne] at nd; exact nd
      have za : ¬ Zo Z σ ρ a := fun z => I1.liveZ z na
      have zd : ¬ Zo Z σ ρ dx := fun z => I1.liveZ z nd'
      refine q1 _ _ (fun b o z => ?_) ?_
      · have n1 := ne_of_none z nd'
        have n2 := ne_of_none z na
        rw [upd_ne n2, upd_ne n1, upd_ne n2]
        exact z
      · exact .exc (hide_at za upd_same) (hide_at zd (by rw [upd_ne hne, upd_same]))
    · cases h1
/-! ### x.at, isinstance(x, C) -/
/-- the class of a held error, its at -/
def excOf : D → Option (Addr × Int)
  | .dict [(.str _, .int i), (.int (.ofNat C), .none)] => some (C, i)
  | _ => none
@[simp] theorem excOf_exc (C : Addr) (i : Int) : excOf (excD C i) = some (C, i) := rfl
theorem Dp.exc_inv {H : Hp} {x : V} {C : Addr} {i : Int} {d : D} (e : excOf d = some (C, i)) (h : Dp K H x d) : ∃ a dd, x = .ref a ∧ H a = some (exo a C (some dd)) ∧ H dd = some (exd dd [("at", .int i)]) := by
  cases h with
  | exc h1 h2 =>
    cases e
    exact ⟨_, _, rfl, h1, h2⟩
  | @scr a ns h =>
    cases ns with
    | nil => cases e
    | cons n r => cases e
  | _ => cases e
/-- what is known of the classes -/
def gAtD (tb : Addr → Option Bool) (v : Val) : Option Val := (excOf v.d).bind fun p => (tb p.1).map fun _ => .s (.int p.2)
def eAtD (tb : Addr → Option Bool) (f : FE) : FE := e1 (gAtD tb) f
def gIsD (tb : Addr → Option Bool) (v : Val) : Option Val := (excOf v.d).bind fun p => (tb p.1).map fun b => .s (.bool b)
def eIsD (tb : Addr → Option Bool) (f : FE) : FE := e1 (gIsD tb) f
def tAtO (K : PySem.W.Frag) (te : TE) : TE := fun σ H Q => te σ H fun x H1 => ∃ (a C dd : Addr) (v : V), x = .ref a ∧ XfC K C ∧ PySem.W.findIn K (.ref C) "at" = some none ∧ H1 a = some (exo a C (some dd)) ∧ H1 dd = some (exd dd [("at", v)]) ∧ Q v H1
theorem pe_atO {te : TE} (he : PE X e te) (hb : attributeBase e "at" X.env (eval e X.env) = eval e X.env) : PE X (.Attribute e "at" pos) (tAtO X.K te) := by
  constructor
  intro pins s σ H Q I h
  refine attr_of hb (thn (he.run pins s σ H _ I h) fun u s1 hh => ?_)
  obtain ⟨x, H1, I1, rx, a, C, dd, v, ex, T, hno, h1, h2, q⟩ := hh
  subst ex
  have eu : u = Value.ref a := rx
  subst eu
  obtain ⟨t1, ho⟩ := exo_at I1.hok h1
  obtain ⟨mA, hns, hr⟩ := exd_at I1.hok h2
  obtain ⟨od, hod, hl⟩ := lookIn_ns hns
  obtain ⟨w, hw, rw'⟩ := RelO.some_of (v := v) (o := mA "at") (by have z := hr "at"; exact z)
  have J : PySem.W.InstAt s1.heap a _ C (some od) := ⟨ho, rfl, rfl, hod⟩
  exact HandSPX.exc_get I1.kIn J T.ga T.gg T.exC (PySem.W.findObj_own T.hdC hno rfl (by rw [hl, hw])) (handed_of rw') ⟨v, H1, I1.tok _, rw', q⟩
theorem de_atD {tb : Addr → Option Bool} (he : DE X Cl W e f) (ht : ∀ C b, tb C = some b → ErF X.K C) (hb : attributeBase e "at" X.env (eval e X.env) = eval e X.env := by rfl) : DE X Cl W (.Attribute e "at" pos) (eAtD tb f) :=
  PE.imp (pe_atO he hb) fun σ H Q ⟨Z, ρ, r, I, e, q⟩ => by
    unfold eAtD at e
    refine te_bind I e q fun v x H1 _ h1 s1 hv I1 q1 => ?_
    unfold gAtD at h1
    cases ee : excOf v.d with
    | none => rw [ee] at h1; cases h1
    | some p =>
      obtain ⟨C, i⟩ := p
      rw [ee] at h1
      dsimp only [Option.bind] at h1
      cases et : tb C with
      | none => rw [et] at h1; cases h1
      | some b =>
        rw [et] at h1
        cases h1
        have F := ht C b et
        obtain ⟨a, dd, ex, e1, e2⟩ := (hv.dp I).exc_inv ee
        exact ⟨a, C, dd, .int i, ex, F.xf, F.no, hide_sub _ _ e1, hide_sub _ _ e2, q1 _ H1 (Same.refl _) (.int i)⟩
def rIsO (K : PySem.W.Frag) : List V → Hp → VK → Prop := fun xs H Q => ∃ (a C dd : Addr) (v c : V) (cv : Value) (b : Bool), xs = [.ref a, c] ∧ H a = some (exo a C (some dd)) ∧ H dd = some (exd dd [("at", v)]) ∧ ExcC K C ∧ (∀ u, RelV c u → u = cv) ∧ PySem.W.kitOne K (.ref C) cv = some b ∧ Q (.bl b) H
theorem call_isO : CallR X (.builtin "isinstance") (rIsO X.K) := fun pins s σ H xs us Q I r h => by
  obtain ⟨a, C, dd, v, c, cv, b, rfl, h1, h2, T, hcv, e, q⟩ := h
  cases r with
  | cons rx rr => cases rr with
    | cons rt rr =>
      cases rr
      cases rx
      have ec := hcv _ rt
      subst ec
      obtain ⟨t1, ho⟩ := exo_at I.hok h1
      obtain ⟨mA, hns, _⟩ := exd_at I.hok h2
      obtain ⟨od, hod, _⟩ := lookIn_ns hns
      have inst : PySem.W.InstAt s.heap a _ C (some od) := ⟨ho, rfl, rfl, hod⟩
      have known : (PySem.W.clsIn X.K C).isSome = true := by
        have z := T.hd
        unfold PySem.W.hasDictIn at z
        cases y : PySem.W.clsIn X.K C with
        | none => rw [y] at z; cases z
        | some _ => rfl
      refine PySem.W.kia_one (PySem.W.kitx_exc known T.hg T.hk T.hs T.ha T.hn T.ht T.hm) I.kIn inst e (fun z => nomatch z) fun tk => ?_
      exact ⟨.bl b, H, I.kept (t' := tk) fun _ _ z => z, rfl, q⟩
theorem de_isD {tb : Addr → Option Bool} {y x : Str} {p2 : Pos} {v : V} {cv : Value} (hx : x = "isinstance") (hm : X.mg x = none) (ha : DE X Cl W e f) (hy : PE X (.Name y p2) (tC v)) (hcv : ∀ u, RelV v u → u = cv) (ht : ∀ C b, tb C = some b → ErF X.K C ∧ PySem.W.kitOne X.K (.ref C) cv = some b) (hg : Gl X x := by rfl)
    (hs : starEach [e, .Name y p2] X.env = (false, eval e X.env) :: starEach [.Name y p2] X.env := by rfl) (hs2 : starEach [.Name y p2] X.env = (false, eval (.Name y p2) X.env) :: starEach [] X.env := by rfl) (hpl : (backTo pos (starEach [.Name y p2] X.env)).any (·.1) = false := by rfl) :
    DE X Cl W (.Call (.Name x p) [e, .Name y p2] [] pos) (eIsD tb f) := by
  subst hx
  refine PE.imp (pe_callB (X := X) call_isO hg hm PyProof.Rows.boot_isinstance (pa_cons ha (pa_cons hy pa_nil hs2) hs) (by decide) (by decide) hs hpl) fun σ H Q ⟨Z, ρ, r, I, e, q⟩ => ?_
  unfold eIsD at e
  refine te_bind I e q fun w x H1 _ h1 s1 hv I1 q1 => ?_
  unfold gIsD at h1
  cases ee : excOf w.d with
  | none => rw [ee] at h1; cases h1
  | some p =>
    obtain ⟨C, i⟩ := p
    rw [ee] at h1
    dsimp only [Option.bind] at h1
    cases et : tb C with
    | none => rw [et] at h1; cases h1
    | some b =>
      rw [et] at h1
      cases h1
      obtain ⟨F, kt⟩ := ht C b et
      obtain ⟨a, dd, ex, e1, e2⟩ := (hv.dp I).exc_inv ee
      subst ex
      exact ⟨a, C, dd, .int i, v, cv, b, rfl, hide_sub _ _ e1, hide_sub _ _ e2, F.xc, hcv, kt, q1 _ H1 (Same.refl _) (.bl b)⟩
/-- a table of classes, by their places -/
def mxA (Cl : Nat → Addr) : List (Nat × Bool) → Addr → Option Bool
  | [], _ => none
  | (k, b) :: r, C => if Cl k = C then some b else mxA Cl r C
theorem mxA_spec {P : Nat → Bool → Prop} {R : Addr → Bool → Prop} (hR : ∀ k b, P k b → R (Cl k) b) : ∀ {l : List (Nat × Bool)}, AllL P l → ∀ C b, mxA Cl l C = some b → R C b
  | _, .nil, C, b, e => nomatch e
  | _, .cons (k := k) (b := b') h t, C, b, e => by
    unfold mxA at e
    by_cases hk : Cl k = C
    · rw [if_pos hk] at e
      cases e
      subst hk
      exact hR k b' h
    · rw [if_neg hk] at e
      exact mxA_spec hR t C b e
end
end DL
namespace DL
open PySem PySem.Spec PyProof.Rows L2
/-- the classes of the text by their numbers -/
def clL (l : List Addr) (n : Nat) : Addr := l.getD n 0
/-- what a table by numbers tells of the class that stands at C -/
def mxK (Cl : Nat → Addr) (ks : List Nat) (p : Nat → Bool) (C : Addr) : Option Bool := (ks.find? fun k => decide (Cl k = C)).map p
theorem mxK_spec {Cl : Nat → Addr} {ks : List Nat} {p : Nat → Bool} {R : Addr → Bool → Prop} (h : ∀ k ∈ ks, R (Cl k) (p k)) (C : Addr) (b : Bool) (e : mxK Cl ks p C = some b) : R C b := by
  unfold mxK at e
  cases f : ks.find? fun k => decide (Cl k = C) with
  | none => rw [f] at e; cases e
  | some k =>
    rw [f] at e
    cases e
    have h1 := List.mem_of_find?_eq_some f
    have h2 : Cl k = C := by simpa using List.find?_some f
    exact h2 ▸ h k h1
/-- no two of them stand at one place -/
def clD (Cl : Nat → Addr) : Bool := (List.range 42).all fun i => (List.range 42).all fun j => i == j || Cl i != Cl j
theorem clD_ne {Cl : Nat → Addr} (h : clD Cl = true) {i j : Nat} (hi : i < 42) (hj : j < 42) (e : Cl i = Cl j) : i = j := by
  unfold clD at h
  have h1 := List.all_eq_true.mp h i (List.mem_range.mpr hi)
  have h2 := List.all_eq_true.mp h1 j (List.mem_range.mpr hj)
  rcases Bool.or_eq_true_iff.mp h2 with h3 | h3
  · exact beq_iff_eq.mp h3
  · rw [e] at h3
    exact absurd rfl (bne_iff_ne.mp h3)
theorem mxK_at {Cl : Nat → Addr} (h : clD Cl = true) (p : Nat → Bool) {k : Nat} (hk : k < 42) : mxK Cl (List.range 42) p (Cl k) = some (p k) := by
  unfold mxK
  cases f : (List.range 42).find? fun j => decide (Cl j = Cl k) with
  | none =>
    have z := List.find?_eq_none.mp f k (List.mem_range.mpr hk)
    simp at z
  | some j =>
    have h1 := List.mem_of_find?_eq_some f
    have h2 : Cl j = Cl k := by simpa using List.find?_some f
    rw [clD_ne h (List.mem_range.mp h1) hk h2]
    rfl
theorem kd_of {K : PySem.W.Frag} {Cl : Nat → Addr} {cv : Value} {p : Nat → Bool} (h : ((List.range 42).all fun k => PySem.W.kitOne K (.ref (Cl k)) cv == some (p k)) = true) : ∀ k ∈ List.range 42, PySem.W.kitOne K (.ref (Cl k)) cv = some (p k) := fun k hk => beq_iff_eq.mp (List.all_eq_true.mp h k hk)
end DL
set_option Elab.async false
set_option linter.all false
namespace FN
open PySem PySem.Spec PyProof.Rows L2 DL
noncomputable section
def b__law_first (Cl : Nat → Addr) : FS := fSeq (fIf (tV (e2 gEq (eV 0) (eC (.int 0)))) (fRet (eNew (Cl 1) (eV 1))) (fNx)) (fSeq (fIf (tV (e2 gEq (eV 0) (eC (.int 1)))) (fRet (eNew (Cl 2) (eV 1))) (fNx)) (fSeq (fIf (tV (e2 gEq (eV 0) (eC (.int 2)))) (fRet (eNew (Cl 3) (eV 1))) (fNx)) (fSeq (fIf (tV (e2 gEq (eV 0) (eC (.int 3)))) (fRet (eNew (Cl 4) (eV 1))) (fNx)) (fSeq (fIf (tV (e2 gEq (eV 0) (eC (.int 4)))) (fRet (eNew (Cl 5) (eV 1))) (fNx)) (fSeq (fIf (tV (e2 gEq (eV 0) (eC (.int 5)))) (fRet (eNew (Cl 6) (eV 1))) (fNx)) (fSeq (fIf (tV (e2 gEq (eV 0) (eC (.int 6)))) (fRet (eNew (Cl 7) (eV 1))) (fNx)) (fSeq (fIf (tV (e2 gEq (eV 0) (eC (.int 7)))) (fRet (eNew (Cl 8) (eV 1))) (fNx)) (fSeq (fIf (tV (e2 gEq (eV 0) (eC (.int 8)))) (fRet (eNew (Cl 9) (eV 1))) (fNx)) (fSeq (fIf (tV (e2 gEq (eV 0) (eC (.int 9)))) (fRet (eNew (Cl 10) (eV 1))) (fNx)) (fSeq (fIf (tV (e2 gEq (eV 0) (eC (.int 10)))) (fRet (eNew (Cl 11) (eV 1))) (fNx)) (fSeq (fIf (tV (e2 gEq (eV 0) (eC (.int 11)))) (fRet (eNew (Cl 12) (eV 1))) (fNx)) (fSeq (fIf (tV (e2 gEq (eV 0) (eC (.int 12)))) (fRet (eNew (Cl 13) (eV 1))) (fNx)) (fSeq (fIf (tV (e2 gEq (eV 0) (eC (.int 13)))) (fRet (eNew (Cl 14) (eV 1))) (fNx)) (fSeq (fIf (tV (e2 gEq (eV 0) (eC (.int 14)))) (fRet (eNew (Cl 15) (eV 1))) (fNx)) (fSeq (fIf (tV (e2 gEq (eV 0) (eC (.int 15)))) (fRet (eNew (Cl 16) (eV 1))) (fNx)) (fSeq (fIf (tV (e2 gEq (eV 0) (eC (.int 16)))) (fRet (eNew (Cl 17) (eV 1))) (fNx)) (fSeq (fIf (tV (e2 gEq (eV 0) (eC (.int 17)))) (fRet (eNew (Cl 18) (eV 1))) (fNx)) (fSeq (fIf (tV (e2 gEq (eV 0) (eC (.int 18)))) (fRet (eNew (Cl 19) (eV 1))) (fNx)) (fSeq (fIf (tV (e2 gEq (eV 0) (eC (.int 19)))) (fRet (eNew (Cl 20) (eV 1))) (fNx)) (fSeq (fIf (tV (e2 gEq (eV 0) (eC (.int 20)))) (fRet (eNew (Cl 21) (eV 1))) (fNx)) (fRet (eC .none))))))))))))))))))))))
def d__law_first (Cl : Nat → Addr) : DF := mkD 2 2 (b__law_first Cl)
def b__law_second (Cl : Nat → Addr) : FS := fSeq (fIf (tV (e2 gEq (eV 0) (eC (.int 21)))) (fRet (eNew (Cl 22) (eV 1))) (fNx)) (fSeq (fIf (tV (e2 gEq (eV 0) (eC (.int 22)))) (fRet (eNew (Cl 23) (eV 1))) (fNx)) (fSeq (fIf (tV (e2 gEq (eV 0) (eC (.int 23)))) (fRet (eNew (Cl 24) (eV 1))) (fNx)) (fSeq (fIf (tV (e2 gEq (eV 0) (eC (.int 24)))) (fRet (eNew (Cl 25) (eV 1))) (fNx)) (fSeq (fIf (tV (e2 gEq (eV 0) (eC (.int 25)))) (fRet (eNew (Cl 26) (eV 1))) (fNx)) (fSeq (fIf (tV (e2 gEq (eV 0) (eC (.int 26)))) (fRet (eNew (Cl 27) (eV 1))) (fNx)) (fSeq (fIf (tV (e2 gEq (eV 0) (eC (.int 27)))) (fRet (eNew (Cl 28) (eV 1))) (fNx)) (fSeq (fIf (tV (e2 gEq (eV 0) (eC (.int 28)))) (fRet (eNew (Cl 29) (eV 1))) (fNx)) (fSeq (fIf (tV (e2 gEq (eV 0) (eC (.int 29)))) (fRet (eNew (Cl 30) (eV 1))) (fNx)) (fSeq (fIf (tV (e2 gEq (eV 0) (eC (.int 30)))) (fRet (eNew (Cl 31) (eV 1))) (fNx)) (fSeq (fIf (tV (e2 gEq (eV 0) (eC (.int 31)))) (fRet (eNew (Cl 32) (eV 1))) (fNx)) (fSeq (fIf (tV (e2 gEq (eV 0) (eC (.int 32)))) (fRet (eNew (Cl 33) (eV 1))) (fNx)) (fSeq (fIf (tV (e2 gEq (eV 0) (eC (.int 33)))) (fRet (eNew (Cl 34) (eV 1))) (fNx)) (fSeq (fIf (tV (e2 gEq (eV 0) (eC (.int 34)))) (fRet (eNew (Cl 35) (eV 1))) (fNx)) (fSeq (fIf (tV (e2 gEq (eV 0) (eC (.int 35)))) (fRet (eNew (Cl 36) (eV 1))) (fNx)) (fSeq (fIf (tV (e2 gEq (eV 0) (eC (.int 36)))) (fRet (eNew (Cl 37) (eV 1))) (fNx)) (fSeq (fIf (tV (e2 gEq (eV 0) (eC (.int 37)))) (fRet (eNew (Cl 38) (eV 1))) (fNx)) (fSeq (fIf (tV (e2 gEq (eV 0) (eC (.int 38)))) (fRet (eNew (Cl 39) (eV 1))) (fNx)) (fSeq (fIf (tV (e2 gEq (eV 0) (eC (.int 39)))) (fRet (eNew (Cl 40) (eV 1))) (fNx)) (fSeq (fIf (tV (e2 gEq (eV 0) (eC (.int 40)))) (fRet (eNew (Cl 41) (eV 1))) (fNx)) (fRet (eC .none)))))))))))))))))))))
def d__law_second (Cl : Nat → Addr) : DF := mkD 2 2 (b__law_second Cl)
def b__law_kinds (Cl : Nat → Addr) : FS := fRet (eLst (aCons (eIsD (mxK Cl (List.range 42) (fun k => k == 1)) (eV 0)) (aCons (eIsD (mxK Cl (List.range 42) (fun k => k == 2)) (eV 0)) (aCons (eIsD (mxK Cl (List.range 42) (fun k => k == 3)) (eV 0)) (aCons (eIsD (mxK Cl (List.range 42) (fun k => k == 4)) (eV 0)) (aCons (eIsD (mxK Cl (List.range 42) (fun k => k == 5)) (eV 0)) (aCons (eIsD (mxK Cl (List.range 42) (fun k => k == 6)) (eV 0)) (aCons (eIsD (mxK Cl (List.range 42) (fun k => k == 7)) (eV 0)) (aCons (eIsD (mxK Cl (List.range 42) (fun k => k == 8)) (eV 0)) (aCons (eIsD (mxK Cl (List.range 42) (fun k => k == 9)) (eV 0)) (aCons (eIsD (mxK Cl (List.range 42) (fun k => k == 10)) (eV 0)) (aCons (eIsD (mxK Cl (List.range 42) (fun k => k == 11)) (eV 0)) (aCons (eIsD (mxK Cl (List.range 42) (fun k => k == 12)) (eV 0)) (aCons (eIsD (mxK Cl (List.range 42) (fun k => k == 13)) (eV 0)) (aCons (eIsD (mxK Cl (List.range 42) (fun k => k == 14)) (eV 0)) (aCons (eIsD (mxK Cl (List.range 42) (fun k => k == 15)) (eV 0)) (aCons (eIsD (mxK Cl (List.range 42) (fun k => k == 16)) (eV 0)) (aCons (eIsD (mxK Cl (List.range 42) (fun k => k == 17)) (eV 0)) (aCons (eIsD (mxK Cl (List.range 42) (fun k => k == 18)) (eV 0)) (aCons (eIsD (mxK Cl (List.range 42) (fun k => k == 19)) (eV 0)) (aCons (eIsD (mxK Cl (List.range 42) (fun k => k == 20)) (eV 0)) (aCons (eIsD (mxK Cl (List.range 42) (fun k => k == 21)) (eV 0)) (aCons (eIsD (mxK Cl (List.range 42) (fun k => k == 22)) (eV 0)) (aCons (eIsD (mxK Cl (List.range 42) (fun k => k == 23)) (eV 0)) (aCons (eIsD (mxK Cl (List.range 42) (fun k => k == 24)) (eV 0)) (aCons (eIsD (mxK Cl (List.range 42) (fun k => k == 25)) (eV 0)) (aCons (eIsD (mxK Cl (List.range 42) (fun k => k == 26)) (eV 0)) (aCons (eIsD (mxK Cl (List.range 42) (fun k => k == 27)) (eV 0)) (aCons (eIsD (mxK Cl (List.range 42) (fun k => k == 28)) (eV 0)) (aCons (eIsD (mxK Cl (List.range 42) (fun k => k == 29)) (eV 0)) (aCons (eIsD (mxK Cl (List.range 42) (fun k => k == 30)) (eV 0)) (aCons (eIsD (mxK Cl (List.range 42) (fun k => k == 31)) (eV 0)) (aCons (eIsD (mxK Cl (List.range 42) (fun k => k == 32)) (eV 0)) (aCons (eIsD (mxK Cl (List.range 42) (fun k => k == 33)) (eV 0)) (aCons (eIsD (mxK Cl (List.range 42) (fun k => k == 34)) (eV 0)) (aCons (eIsD (mxK Cl (List.range 42) (fun k => k == 35)) (eV 0)) (aCons (eIsD (mxK Cl (List.range 42) (fun k => k == 36)) (eV 0)) (aCons (eIsD (mxK Cl (List.range 42) (fun k => k == 37)) (eV 0)) (aCons (eIsD (mxK Cl (List.range 42) (fun k => k == 38)) (eV 0)) (aCons (eIsD (mxK Cl (List.range 42) (fun k => k == 39)) (eV 0)) (aCons (eIsD (mxK Cl (List.range 42) (fun k => k == 40)) (eV 0)) (aCons (eIsD (mxK Cl (List.range 42) (fun k => k == 41)) (eV 0)) (aNil)))))))))))))))))))))))))))))))))))))))))))
def d__law_kinds (Cl : Nat → Addr) : DF := mkD 1 1 (b__law_kinds Cl)
def b_law_k07 (Cl : Nat → Addr) : FS := fSeq (fSet 1 (eC (.int 0))) (fSeq (fIf (tV (e2 gGtX (eG bLen (aCons (eV 0) (aNil))) (eC (.int 0)))) (fSet 1 (e2 gSub (e2 gMod (eG bInt (aCons (e2 gIx (eV 0) (eC (.int 0))) (aNil))) (e2 gPow (eC (.int 10)) (eC (.int 30)))) (e2 gPow (eC (.int 10)) (eC (.int 15))))) (fNx)) (fSeq (fFor (iRange1 (aCons (eC (.int 41)) (aNil))) (gN 2) (fSeq (fSet 3 (eCall (FN.d__law_first Cl) 2 (aCons (eV 2) (aCons (e2 gAdd (eV 1) (eV 2)) (aNil))))) (fSeq (fIf (tV (e2 gGeX (eV 2) (eC (.int 21)))) (fSet 3 (eCall (FN.d__law_second Cl) 2 (aCons (eV 2) (aCons (e2 gAdd (eV 1) (eV 2)) (aNil))))) (fNx)) (fSeq (fIf (tOrD (tNotD (tV (eIsD (mxK Cl (List.range 42) (fun _ => true)) (eV 3)))) (tNotD (tV (eIsD (mxK Cl (List.range 42) (fun _ => true)) (eV 3))))) (fRet (eC (.bool false))) (fNx)) (fSeq (fIf (tOrD (tNotD (tV (e1 (gIsi "int") (eAtD (mxK Cl (List.range 42) fun _ => true) (eV 3))))) (tOrD (tV (e1 (gIsi "bool") (eAtD (mxK Cl (List.range 42) fun _ => true) (eV 3)))) (tV (e2 gNe (eAtD (mxK Cl (List.range 42) fun _ => true) (eV 3)) (e2 gAdd (eV 1) (eV 2)))))) (fRet (eC (.bool false))) (fNx)) (fIf (tV (e2 gNe (eCall (FN.d__law_kinds Cl) 1 (aCons (eV 3) (aNil))) (eLcG [4] (st1 4) (iRange1 (aCons (eC (.int 41)) (aNil))) (fun _ => some (.ok true)) (e2 gEq (eV 4) (eV 2))))) (fRet (eC (.bool false))) (fNx))))))) (fSeq (fSet 5 (eNew (Cl 0) (eV 1))) (fRet (eAndV (e2 gEq (eAtD (mxK Cl (List.range 42) fun _ => true) (eV 5)) (eV 1)) (e2 gEq (eCall (FN.d__law_kinds Cl) 1 (aCons (eV 5) (aNil))) (eLcG [4] (st1 4) (iRange1 (aCons (eC (.int 41)) (aNil))) (fun _ => some (.ok true)) (eC (.bool false)))))))))
def d_law_k07 (Cl : Nat → Addr) : DF := mkD 1 6 (b_law_k07 Cl)
end
end FN
set_option Elab.async false
set_option linter.all false
set_option maxRecDepth 100000
set_option maxHeartbeats 4000000
namespace K07
open PySem PySem.Spec PyProof.Rows L2 DL

def topS (i : Nat) : Stmt := PySem.Challenge.pw_spoolbox_k07_errors_are_apart.main.body.getD i (.Pass ⟨0, 0, 0, 0⟩)
abbrev s__law_first : Stmt := topS 44
theorem sc__law_first : FnScope ["k", "n"] ["k", "n"] (defScope s__law_first) := ⟨rfl, rfl, rfl, by decide +kernel, rfl, by decide +kernel, by decide +kernel⟩
abbrev s__law_second : Stmt := topS 45
theorem sc__law_second : FnScope ["k", "n"] ["k", "n"] (defScope s__law_second) := ⟨rfl, rfl, rfl, by decide +kernel, rfl, by decide +kernel, by decide +kernel⟩
abbrev s__law_kinds : Stmt := topS 46
theorem sc__law_kinds : FnScope ["e"] ["e"] (defScope s__law_kinds) := ⟨rfl, rfl, rfl, by decide +kernel, rfl, by decide +kernel, by decide +kernel⟩
abbrev s_law : Stmt := topS 47
theorem sc_law : FnScope ["script", "number", "k", "e", "j", "base"] ["script"] (defScope s_law) := ⟨rfl, rfl, rfl, by decide +kernel, rfl, by decide +kernel, by decide +kernel⟩
abbrev s_init : Stmt := inClass (topS 1) 0
theorem sc_init : FnScope ["self", "at"] ["self", "at"] (defScope s_init) := ⟨rfl, rfl, rfl, by decide +kernel, rfl, by decide +kernel, by decide +kernel⟩
structure Txt (K : PySem.W.Frag) (mg : Str → Option Value) (Cl : Nat → Addr) where
  a__law_first : Addr
  fd__law_first : FuncData
  F__law_first : Fun K "_law_first" "_law_first" s__law_first a__law_first fd__law_first
  g__law_first : mg "_law_first" = some (.ref a__law_first)
  b__law_first : Binds K fd__law_first ["k", "n"] []
  a__law_second : Addr
  fd__law_second : FuncData
  F__law_second : Fun K "_law_second" "_law_second" s__law_second a__law_second fd__law_second
  g__law_second : mg "_law_second" = some (.ref a__law_second)
  b__law_second : Binds K fd__law_second ["k", "n"] []
  a__law_kinds : Addr
  fd__law_kinds : FuncData
  F__law_kinds : Fun K "_law_kinds" "_law_kinds" s__law_kinds a__law_kinds fd__law_kinds
  g__law_kinds : mg "_law_kinds" = some (.ref a__law_kinds)
  b__law_kinds : Binds K fd__law_kinds ["e"] []
  a_law : Addr
  fd_law : FuncData
  F_law : Fun K "law" "law" s_law a_law fd_law
  g_law : mg "law" = some (.ref a_law)
  b_law : Binds K fd_law ["script"] []
  z_isinstance : mg "isinstance" = none
  z_len : mg "len" = none
  z_int : mg "int" = none
  z_range : mg "range" = none
  z_ValueError : mg "ValueError" = none
  z_bool : mg "bool" = none
  a_init : Addr
  fd_init : FuncData
  n_init : InT K "SpoolboxError.__init__" s_init a_init fd_init
  x_OutOfRange : ExT K mg "OutOfRange" (Cl 1) a_init
  x_LooseNumber : ExT K mg "LooseNumber" (Cl 2) a_init
  x_Truncated : ExT K mg "Truncated" (Cl 3) a_init
  x_BadStuffing : ExT K mg "BadStuffing" (Cl 4) a_init
  x_BadKind : ExT K mg "BadKind" (Cl 5) a_init
  x_BadStamp : ExT K mg "BadStamp" (Cl 6) a_init
  x_BadNumber : ExT K mg "BadNumber" (Cl 7) a_init
  x_BadTrack : ExT K mg "BadTrack" (Cl 8) a_init
  x_BadOrdinal : ExT K mg "BadOrdinal" (Cl 9) a_init
  x_BadTime : ExT K mg "BadTime" (Cl 10) a_init
  x_BadSpan : ExT K mg "BadSpan" (Cl 11) a_init
  x_BadKey : ExT K mg "BadKey" (Cl 12) a_init
  x_BadSize : ExT K mg "BadSize" (Cl 13) a_init
  x_ShortBody : ExT K mg "ShortBody" (Cl 14) a_init
  x_BadCheck : ExT K mg "BadCheck" (Cl 15) a_init
  x_NotAPresentation : ExT K mg "NotAPresentation" (Cl 16) a_init
  x_BadChange : ExT K mg "BadChange" (Cl 17) a_init
  x_BadBody : ExT K mg "BadBody" (Cl 18) a_init
  x_BadStart : ExT K mg "BadStart" (Cl 19) a_init
  x_CutOff : ExT K mg "CutOff" (Cl 20) a_init
  x_EmptyPiece : ExT K mg "EmptyPiece" (Cl 21) a_init
  x_OtherStamp : ExT K mg "OtherStamp" (Cl 22) a_init
  x_WrongNumber : ExT K mg "WrongNumber" (Cl 23) a_init
  x_WrongOrder : ExT K mg "WrongOrder" (Cl 24) a_init
  x_WrongFields : ExT K mg "WrongFields" (Cl 25) a_init
  x_NoTrack : ExT K mg "NoTrack" (Cl 26) a_init
  x_TooManyUnits : ExT K mg "TooManyUnits" (Cl 27) a_init
  x_WrongOrdinal : ExT K mg "WrongOrdinal" (Cl 28) a_init
  x_WrongTime : ExT K mg "WrongTime" (Cl 29) a_init
  x_WrongKey : ExT K mg "WrongKey" (Cl 30) a_init
  x_WrongEntry : ExT K mg "WrongEntry" (Cl 31) a_init
  x_WrongCount : ExT K mg "WrongCount" (Cl 32) a_init
  x_WrongSum : ExT K mg "WrongSum" (Cl 33) a_init
  x_MissingUnits : ExT K mg "MissingUnits" (Cl 34) a_init
  x_Behind : ExT K mg "Behind" (Cl 35) a_init
  x_NoEnd : ExT K mg "NoEnd" (Cl 36) a_init
  x_NotAlike : ExT K mg "NotAlike" (Cl 37) a_init
  x_HasSkip : ExT K mg "HasSkip" (Cl 38) a_init
  x_TooLong : ExT K mg "TooLong" (Cl 39) a_init
  x_NoHead : ExT K mg "NoHead" (Cl 40) a_init
  x_TooManyTags : ExT K mg "TooManyTags" (Cl 41) a_init
  x_SpoolboxError : ExT K mg "SpoolboxError" (Cl 0) a_init
  gx_TooManyTags : mg "TooManyTags" = some (.ref (Cl 41))
  gx_NoHead : mg "NoHead" = some (.ref (Cl 40))
  gx_TooLong : mg "TooLong" = some (.ref (Cl 39))
  gx_HasSkip : mg "HasSkip" = some (.ref (Cl 38))
  gx_NotAlike : mg "NotAlike" = some (.ref (Cl 37))
  gx_NoEnd : mg "NoEnd" = some (.ref (Cl 36))
  gx_Behind : mg "Behind" = some (.ref (Cl 35))
  gx_MissingUnits : mg "MissingUnits" = some (.ref (Cl 34))
  gx_WrongSum : mg "WrongSum" = some (.ref (Cl 33))
  gx_WrongCount : mg "WrongCount" = some (.ref (Cl 32))
  gx_WrongEntry : mg "WrongEntry" = some (.ref (Cl 31))
  gx_WrongKey : mg "WrongKey" = some (.ref (Cl 30))
  gx_WrongTime : mg "WrongTime" = some (.ref (Cl 29))
  gx_WrongOrdinal : mg "WrongOrdinal" = some (.ref (Cl 28))
  gx_TooManyUnits : mg "TooManyUnits" = some (.ref (Cl 27))
  gx_NoTrack : mg "NoTrack" = some (.ref (Cl 26))
  gx_WrongFields : mg "WrongFields" = some (.ref (Cl 25))
  gx_WrongOrder : mg "WrongOrder" = some (.ref (Cl 24))
  gx_WrongNumber : mg "WrongNumber" = some (.ref (Cl 23))
  gx_OtherStamp : mg "OtherStamp" = some (.ref (Cl 22))
  gx_EmptyPiece : mg "EmptyPiece" = some (.ref (Cl 21))
  gx_CutOff : mg "CutOff" = some (.ref (Cl 20))
  gx_BadStart : mg "BadStart" = some (.ref (Cl 19))
  gx_BadBody : mg "BadBody" = some (.ref (Cl 18))
  gx_BadChange : mg "BadChange" = some (.ref (Cl 17))
  gx_NotAPresentation : mg "NotAPresentation" = some (.ref (Cl 16))
  gx_BadCheck : mg "BadCheck" = some (.ref (Cl 15))
  gx_ShortBody : mg "ShortBody" = some (.ref (Cl 14))
  gx_BadSize : mg "BadSize" = some (.ref (Cl 13))
  gx_BadKey : mg "BadKey" = some (.ref (Cl 12))
  gx_BadSpan : mg "BadSpan" = some (.ref (Cl 11))
  gx_BadTime : mg "BadTime" = some (.ref (Cl 10))
  gx_BadOrdinal : mg "BadOrdinal" = some (.ref (Cl 9))
  gx_BadTrack : mg "BadTrack" = some (.ref (Cl 8))
  gx_BadNumber : mg "BadNumber" = some (.ref (Cl 7))
  gx_BadStamp : mg "BadStamp" = some (.ref (Cl 6))
  gx_BadKind : mg "BadKind" = some (.ref (Cl 5))
  gx_BadStuffing : mg "BadStuffing" = some (.ref (Cl 4))
  gx_Truncated : mg "Truncated" = some (.ref (Cl 3))
  gx_LooseNumber : mg "LooseNumber" = some (.ref (Cl 2))
  gx_OutOfRange : mg "OutOfRange" = some (.ref (Cl 1))
  gx_SpoolboxError : mg "SpoolboxError" = some (.ref (Cl 0))
  er_SpoolboxError : ErF K (Cl 0)
  er_OutOfRange : ErF K (Cl 1)
  er_LooseNumber : ErF K (Cl 2)
  er_Truncated : ErF K (Cl 3)
  er_BadStuffing : ErF K (Cl 4)
  er_BadKind : ErF K (Cl 5)
  er_BadStamp : ErF K (Cl 6)
  er_BadNumber : ErF K (Cl 7)
  er_BadTrack : ErF K (Cl 8)
  er_BadOrdinal : ErF K (Cl 9)
  er_BadTime : ErF K (Cl 10)
  er_BadSpan : ErF K (Cl 11)
  er_BadKey : ErF K (Cl 12)
  er_BadSize : ErF K (Cl 13)
  er_ShortBody : ErF K (Cl 14)
  er_BadCheck : ErF K (Cl 15)
  er_NotAPresentation : ErF K (Cl 16)
  er_BadChange : ErF K (Cl 17)
  er_BadBody : ErF K (Cl 18)
  er_BadStart : ErF K (Cl 19)
  er_CutOff : ErF K (Cl 20)
  er_EmptyPiece : ErF K (Cl 21)
  er_OtherStamp : ErF K (Cl 22)
  er_WrongNumber : ErF K (Cl 23)
  er_WrongOrder : ErF K (Cl 24)
  er_WrongFields : ErF K (Cl 25)
  er_NoTrack : ErF K (Cl 26)
  er_TooManyUnits : ErF K (Cl 27)
  er_WrongOrdinal : ErF K (Cl 28)
  er_WrongTime : ErF K (Cl 29)
  er_WrongKey : ErF K (Cl 30)
  er_WrongEntry : ErF K (Cl 31)
  er_WrongCount : ErF K (Cl 32)
  er_WrongSum : ErF K (Cl 33)
  er_MissingUnits : ErF K (Cl 34)
  er_Behind : ErF K (Cl 35)
  er_NoEnd : ErF K (Cl 36)
  er_NotAlike : ErF K (Cl 37)
  er_HasSkip : ErF K (Cl 38)
  er_TooLong : ErF K (Cl 39)
  er_NoHead : ErF K (Cl 40)
  er_TooManyTags : ErF K (Cl 41)
  kd_TooManyTags : ∀ k ∈ List.range 42, PySem.W.kitOne K (.ref (Cl k)) (.ref (Cl 41)) = some ((fun k => k == 41) k)
  kd_NoHead : ∀ k ∈ List.range 42, PySem.W.kitOne K (.ref (Cl k)) (.ref (Cl 40)) = some ((fun k => k == 40) k)
  kd_TooLong : ∀ k ∈ List.range 42, PySem.W.kitOne K (.ref (Cl k)) (.ref (Cl 39)) = some ((fun k => k == 39) k)
  kd_HasSkip : ∀ k ∈ List.range 42, PySem.W.kitOne K (.ref (Cl k)) (.ref (Cl 38)) = some ((fun k => k == 38) k)
  kd_NotAlike : ∀ k ∈ List.range 42, PySem.W.kitOne K (.ref (Cl k)) (.ref (Cl 37)) = some ((fun k => k == 37) k)
  kd_NoEnd : ∀ k ∈ List.range 42, PySem.W.kitOne K (.ref (Cl k)) (.ref (Cl 36)) = some ((fun k => k == 36) k)
  kd_Behind : ∀ k ∈ List.range 42, PySem.W.kitOne K (.ref (Cl k)) (.ref (Cl 35)) = some ((fun k => k == 35) k)
  kd_MissingUnits : ∀ k ∈ List.range 42, PySem.W.kitOne K (.ref (Cl k)) (.ref (Cl 34)) = some ((fun k => k == 34) k)
  kd_WrongSum : ∀ k ∈ List.range 42, PySem.W.kitOne K (.ref (Cl k)) (.ref (Cl 33)) = some ((fun k => k == 33) k)
  kd_WrongCount : ∀ k ∈ List.range 42, PySem.W.kitOne K (.ref (Cl k)) (.ref (Cl 32)) = some ((fun k => k == 32) k)
  kd_WrongEntry : ∀ k ∈ List.range 42, PySem.W.kitOne K (.ref (Cl k)) (.ref (Cl 31)) = some ((fun k => k == 31) k)
  kd_WrongKey : ∀ k ∈ List.range 42, PySem.W.kitOne K (.ref (Cl k)) (.ref (Cl 30)) = some ((fun k => k == 30) k)
  kd_WrongTime : ∀ k ∈ List.range 42, PySem.W.kitOne K (.ref (Cl k)) (.ref (Cl 29)) = some ((fun k => k == 29) k)
  kd_WrongOrdinal : ∀ k ∈ List.range 42, PySem.W.kitOne K (.ref (Cl k)) (.ref (Cl 28)) = some ((fun k => k == 28) k)
  kd_TooManyUnits : ∀ k ∈ List.range 42, PySem.W.kitOne K (.ref (Cl k)) (.ref (Cl 27)) = some ((fun k => k == 27) k)
  kd_NoTrack : ∀ k ∈ List.range 42, PySem.W.kitOne K (.ref (Cl k)) (.ref (Cl 26)) = some ((fun k => k == 26) k)
  kd_WrongFields : ∀ k ∈ List.range 42, PySem.W.kitOne K (.ref (Cl k)) (.ref (Cl 25)) = some ((fun k => k == 25) k)
  kd_WrongOrder : ∀ k ∈ List.range 42, PySem.W.kitOne K (.ref (Cl k)) (.ref (Cl 24)) = some ((fun k => k == 24) k)
  kd_WrongNumber : ∀ k ∈ List.range 42, PySem.W.kitOne K (.ref (Cl k)) (.ref (Cl 23)) = some ((fun k => k == 23) k)
  kd_OtherStamp : ∀ k ∈ List.range 42, PySem.W.kitOne K (.ref (Cl k)) (.ref (Cl 22)) = some ((fun k => k == 22) k)
  kd_EmptyPiece : ∀ k ∈ List.range 42, PySem.W.kitOne K (.ref (Cl k)) (.ref (Cl 21)) = some ((fun k => k == 21) k)
  kd_CutOff : ∀ k ∈ List.range 42, PySem.W.kitOne K (.ref (Cl k)) (.ref (Cl 20)) = some ((fun k => k == 20) k)
  kd_BadStart : ∀ k ∈ List.range 42, PySem.W.kitOne K (.ref (Cl k)) (.ref (Cl 19)) = some ((fun k => k == 19) k)
  kd_BadBody : ∀ k ∈ List.range 42, PySem.W.kitOne K (.ref (Cl k)) (.ref (Cl 18)) = some ((fun k => k == 18) k)
  kd_BadChange : ∀ k ∈ List.range 42, PySem.W.kitOne K (.ref (Cl k)) (.ref (Cl 17)) = some ((fun k => k == 17) k)
  kd_NotAPresentation : ∀ k ∈ List.range 42, PySem.W.kitOne K (.ref (Cl k)) (.ref (Cl 16)) = some ((fun k => k == 16) k)
  kd_BadCheck : ∀ k ∈ List.range 42, PySem.W.kitOne K (.ref (Cl k)) (.ref (Cl 15)) = some ((fun k => k == 15) k)
  kd_ShortBody : ∀ k ∈ List.range 42, PySem.W.kitOne K (.ref (Cl k)) (.ref (Cl 14)) = some ((fun k => k == 14) k)
  kd_BadSize : ∀ k ∈ List.range 42, PySem.W.kitOne K (.ref (Cl k)) (.ref (Cl 13)) = some ((fun k => k == 13) k)
  kd_BadKey : ∀ k ∈ List.range 42, PySem.W.kitOne K (.ref (Cl k)) (.ref (Cl 12)) = some ((fun k => k == 12) k)
  kd_BadSpan : ∀ k ∈ List.range 42, PySem.W.kitOne K (.ref (Cl k)) (.ref (Cl 11)) = some ((fun k => k == 11) k)
  kd_BadTime : ∀ k ∈ List.range 42, PySem.W.kitOne K (.ref (Cl k)) (.ref (Cl 10)) = some ((fun k => k == 10) k)
  kd_BadOrdinal : ∀ k ∈ List.range 42, PySem.W.kitOne K (.ref (Cl k)) (.ref (Cl 9)) = some ((fun k => k == 9) k)
  kd_BadTrack : ∀ k ∈ List.range 42, PySem.W.kitOne K (.ref (Cl k)) (.ref (Cl 8)) = some ((fun k => k == 8) k)
  kd_BadNumber : ∀ k ∈ List.range 42, PySem.W.kitOne K (.ref (Cl k)) (.ref (Cl 7)) = some ((fun k => k == 7) k)
  kd_BadStamp : ∀ k ∈ List.range 42, PySem.W.kitOne K (.ref (Cl k)) (.ref (Cl 6)) = some ((fun k => k == 6) k)
  kd_BadKind : ∀ k ∈ List.range 42, PySem.W.kitOne K (.ref (Cl k)) (.ref (Cl 5)) = some ((fun k => k == 5) k)
  kd_BadStuffing : ∀ k ∈ List.range 42, PySem.W.kitOne K (.ref (Cl k)) (.ref (Cl 4)) = some ((fun k => k == 4) k)
  kd_Truncated : ∀ k ∈ List.range 42, PySem.W.kitOne K (.ref (Cl k)) (.ref (Cl 3)) = some ((fun k => k == 3) k)
  kd_LooseNumber : ∀ k ∈ List.range 42, PySem.W.kitOne K (.ref (Cl k)) (.ref (Cl 2)) = some ((fun k => k == 2) k)
  kd_OutOfRange : ∀ k ∈ List.range 42, PySem.W.kitOne K (.ref (Cl k)) (.ref (Cl 1)) = some ((fun k => k == 1) k)
  kd_SpoolboxError : ∀ k ∈ List.range 42, PySem.W.kitOne K (.ref (Cl k)) (.ref (Cl 0)) = some ((fun _ => true) k)
  kd_ValueError : ∀ k ∈ List.range 42, PySem.W.kitOne K (.ref (Cl k)) (.type "ValueError") = some ((fun _ => true) k)
theorem er_all {K : PySem.W.Frag} {mg : Str → Option Value} {Cl : Nat → Addr} (T : Txt K mg Cl) : ∀ k ∈ List.range 42, ErF K (Cl k) := fun k hk => match k, List.mem_range.mp hk with
  | 0, _ => T.er_SpoolboxError
  | 1, _ => T.er_OutOfRange
  | 2, _ => T.er_LooseNumber
  | 3, _ => T.er_Truncated
  | 4, _ => T.er_BadStuffing
  | 5, _ => T.er_BadKind
  | 6, _ => T.er_BadStamp
  | 7, _ => T.er_BadNumber
  | 8, _ => T.er_BadTrack
  | 9, _ => T.er_BadOrdinal
  | 10, _ => T.er_BadTime
  | 11, _ => T.er_BadSpan
  | 12, _ => T.er_BadKey
  | 13, _ => T.er_BadSize
  | 14, _ => T.er_ShortBody
  | 15, _ => T.er_BadCheck
  | 16, _ => T.er_NotAPresentation
  | 17, _ => T.er_BadChange
  | 18, _ => T.er_BadBody
  | 19, _ => T.er_BadStart
  | 20, _ => T.er_CutOff
  | 21, _ => T.er_EmptyPiece
  | 22, _ => T.er_OtherStamp
  | 23, _ => T.er_WrongNumber
  | 24, _ => T.er_WrongOrder
  | 25, _ => T.er_WrongFields
  | 26, _ => T.er_NoTrack
  | 27, _ => T.er_TooManyUnits
  | 28, _ => T.er_WrongOrdinal
  | 29, _ => T.er_WrongTime
  | 30, _ => T.er_WrongKey
  | 31, _ => T.er_WrongEntry
  | 32, _ => T.er_WrongCount
  | 33, _ => T.er_WrongSum
  | 34, _ => T.er_MissingUnits
  | 35, _ => T.er_Behind
  | 36, _ => T.er_NoEnd
  | 37, _ => T.er_NotAlike
  | 38, _ => T.er_HasSkip
  | 39, _ => T.er_TooLong
  | 40, _ => T.er_NoHead
  | 41, _ => T.er_TooManyTags
  | k + 42, h => absurd h (by omega)
section
variable {P : Program} {w : World} {K : PySem.W.Frag} {mg : Str → Option Value} {base : Heap} {Cl : Nat → Addr}
theorem ok_init (T : Txt K mg Cl) : FnOk P w K mg base (L2.CX P w) 1 T.a_init T.fd_init ["self", "at"] (spIn K) := by
  refine T.n_init.F.okX sc_init (fun vs H Q E ⟨a, C, y, e, _⟩ => by rw [e]; rfl) fun cdv A outer s H vs Q E hr h => ?_
  obtain ⟨a, C, y, rfl, h1, h2, h3, q⟩ := h
  refine ⟨_, pss_one (ps_ost (pv 0) (pv 1)), ?_⟩
  exact ⟨y, rfl, .ref a, rfl, a, C, rfl, h1, h2, .inl ⟨h3, fun dx n ne => q dx n ne⟩⟩
theorem ok__law_first (T : Txt K mg Cl) : FnOk P w K mg base (L2.CX P w) 3 T.a__law_first T.fd__law_first ["k", "n"] (spD K Cl 2 (FN.d__law_first Cl)) := by
  have G_init := ok_init (P := P) (w := w) (base := base) T
  refine def_ok (k := 2) T.F__law_first sc__law_first rfl rfl fun cdv A outer s H E hr => ?_
  have tk := takes_of (X := cxOf (L2.CX P w) P w K mg base ["k", "n"] "_law_first" (defScope s__law_first) T.a__law_first cdv A outer s H E) rfl rfl rfl rfl
  have hp : PassesOwn (model P w) (cxOf (L2.CX P w) P w K mg base ["k", "n"] "_law_first" (defScope s__law_first) T.a__law_first cdv A outer s H E).A (cxOf (L2.CX P w) P w K mg base ["k", "n"] "_law_first" (defScope s__law_first) T.a__law_first cdv A outer s H E).env (cxOf (L2.CX P w) P w K mg base ["k", "n"] "_law_first" (defScope s__law_first) T.a__law_first cdv A outer s H E).xe := PassesOwn.leaving
  exact ds_cons (ds_if (dt_cmp (op_eqD hr.units) r2_eq (de_var (pv 0)) (de_int) (nomark _)) (ds_one (ds_ret (de_new (c := 1) T.x_OutOfRange T.n_init G_init (hr.mono (by decide)) (de_var (pv 1))))) (ds_nil)) (ds_cons (ds_if (dt_cmp (op_eqD hr.units) r2_eq (de_var (pv 0)) (de_int) (nomark _)) (ds_one (ds_ret (de_new (c := 2) T.x_LooseNumber T.n_init G_init (hr.mono (by decide)) (de_var (pv 1))))) (ds_nil)) (ds_cons (ds_if (dt_cmp (op_eqD hr.units) r2_eq (de_var (pv 0)) (de_int) (nomark _)) (ds_one (ds_ret (de_new (c := 3) T.x_Truncated T.n_init G_init (hr.mono (by decide)) (de_var (pv 1))))) (ds_nil)) (ds_cons (ds_if (dt_cmp (op_eqD hr.units) r2_eq (de_var (pv 0)) (de_int) (nomark _)) (ds_one (ds_ret (de_new (c := 4) T.x_BadStuffing T.n_init G_init (hr.mono (by decide)) (de_var (pv 1))))) (ds_nil)) (ds_cons (ds_if (dt_cmp (op_eqD hr.units) r2_eq (de_var (pv 0)) (de_int) (nomark _)) (ds_one (ds_ret (de_new (c := 5) T.x_BadKind T.n_init G_init (hr.mono (by decide)) (de_var (pv 1))))) (ds_nil)) (ds_cons (ds_if (dt_cmp (op_eqD hr.units) r2_eq (de_var (pv 0)) (de_int) (nomark _)) (ds_one (ds_ret (de_new (c := 6) T.x_BadStamp T.n_init G_init (hr.mono (by decide)) (de_var (pv 1))))) (ds_nil)) (ds_cons (ds_if (dt_cmp (op_eqD hr.units) r2_eq (de_var (pv 0)) (de_int) (nomark _)) (ds_one (ds_ret (de_new (c := 7) T.x_BadNumber T.n_init G_init (hr.mono (by decide)) (de_var (pv 1))))) (ds_nil)) (ds_cons (ds_if (dt_cmp (op_eqD hr.units) r2_eq (de_var (pv 0)) (de_int) (nomark _)) (ds_one (ds_ret (de_new (c := 8) T.x_BadTrack T.n_init G_init (hr.mono (by decide)) (de_var (pv 1))))) (ds_nil)) (ds_cons (ds_if (dt_cmp (op_eqD hr.units) r2_eq (de_var (pv 0)) (de_int) (nomark _)) (ds_one (ds_ret (de_new (c := 9) T.x_BadOrdinal T.n_init G_init (hr.mono (by decide)) (de_var (pv 1))))) (ds_nil)) (ds_cons (ds_if (dt_cmp (op_eqD hr.units) r2_eq (de_var (pv 0)) (de_int) (nomark _)) (ds_one (ds_ret (de_new (c := 10) T.x_BadTime T.n_init G_init (hr.mono (by decide)) (de_var (pv 1))))) (ds_nil)) (ds_cons (ds_if (dt_cmp (op_eqD hr.units) r2_eq (de_var (pv 0)) (de_int) (nomark _)) (ds_one (ds_ret (de_new (c := 11) T.x_BadSpan T.n_init G_init (hr.mono (by decide)) (de_var (pv 1))))) (ds_nil)) (ds_cons (ds_if (dt_cmp (op_eqD hr.units) r2_eq (de_var (pv 0)) (de_int) (nomark _)) (ds_one (ds_ret (de_new (c := 12) T.x_BadKey T.n_init G_init (hr.mono (by decide)) (de_var (pv 1))))) (ds_nil)) (ds_cons (ds_if (dt_cmp (op_eqD hr.units) r2_eq (de_var (pv 0)) (de_int) (nomark _)) (ds_one (ds_ret (de_new (c := 13) T.x_BadSize T.n_init G_init (hr.mono (by decide)) (de_var (pv 1))))) (ds_nil)) (ds_cons (ds_if (dt_cmp (op_eqD hr.units) r2_eq (de_var (pv 0)) (de_int) (nomark _)) (ds_one (ds_ret (de_new (c := 14) T.x_ShortBody T.n_init G_init (hr.mono (by decide)) (de_var (pv 1))))) (ds_nil)) (ds_cons (ds_if (dt_cmp (op_eqD hr.units) r2_eq (de_var (pv 0)) (de_int) (nomark _)) (ds_one (ds_ret (de_new (c := 15) T.x_BadCheck T.n_init G_init (hr.mono (by decide)) (de_var (pv 1))))) (ds_nil)) (ds_cons (ds_if (dt_cmp (op_eqD hr.units) r2_eq (de_var (pv 0)) (de_int) (nomark _)) (ds_one (ds_ret (de_new (c := 16) T.x_NotAPresentation T.n_init G_init (hr.mono (by decide)) (de_var (pv 1))))) (ds_nil)) (ds_cons (ds_if (dt_cmp (op_eqD hr.units) r2_eq (de_var (pv 0)) (de_int) (nomark _)) (ds_one (ds_ret (de_new (c := 17) T.x_BadChange T.n_init G_init (hr.mono (by decide)) (de_var (pv 1))))) (ds_nil)) (ds_cons (ds_if (dt_cmp (op_eqD hr.units) r2_eq (de_var (pv 0)) (de_int) (nomark _)) (ds_one (ds_ret (de_new (c := 18) T.x_BadBody T.n_init G_init (hr.mono (by decide)) (de_var (pv 1))))) (ds_nil)) (ds_cons (ds_if (dt_cmp (op_eqD hr.units) r2_eq (de_var (pv 0)) (de_int) (nomark _)) (ds_one (ds_ret (de_new (c := 19) T.x_BadStart T.n_init G_init (hr.mono (by decide)) (de_var (pv 1))))) (ds_nil)) (ds_cons (ds_if (dt_cmp (op_eqD hr.units) r2_eq (de_var (pv 0)) (de_int) (nomark _)) (ds_one (ds_ret (de_new (c := 20) T.x_CutOff T.n_init G_init (hr.mono (by decide)) (de_var (pv 1))))) (ds_nil)) (ds_cons (ds_if (dt_cmp (op_eqD hr.units) r2_eq (de_var (pv 0)) (de_int) (nomark _)) (ds_one (ds_ret (de_new (c := 21) T.x_EmptyPiece T.n_init G_init (hr.mono (by decide)) (de_var (pv 1))))) (ds_nil)) (ds_one (ds_ret (de_non)))))))))))))))))))))))
theorem ok__law_second (T : Txt K mg Cl) : FnOk P w K mg base (L2.CX P w) 3 T.a__law_second T.fd__law_second ["k", "n"] (spD K Cl 2 (FN.d__law_second Cl)) := by
  have G_init := ok_init (P := P) (w := w) (base := base) T
  refine def_ok (k := 2) T.F__law_second sc__law_second rfl rfl fun cdv A outer s H E hr => ?_
  have tk := takes_of (X := cxOf (L2.CX P w) P w K mg base ["k", "n"] "_law_second" (defScope s__law_second) T.a__law_second cdv A outer s H E) rfl rfl rfl rfl
  have hp : PassesOwn (model P w) (cxOf (L2.CX P w) P w K mg base ["k", "n"] "_law_second" (defScope s__law_second) T.a__law_second cdv A outer s H E).A (cxOf (L2.CX P w) P w K mg base ["k", "n"] "_law_second" (defScope s__law_second) T.a__law_second cdv A outer s H E).env (cxOf (L2.CX P w) P w K mg base ["k", "n"] "_law_second" (defScope s__law_second) T.a__law_second cdv A outer s H E).xe := PassesOwn.leaving
  exact ds_cons (ds_if (dt_cmp (op_eqD hr.units) r2_eq (de_var (pv 0)) (de_int) (nomark _)) (ds_one (ds_ret (de_new (c := 22) T.x_OtherStamp T.n_init G_init (hr.mono (by decide)) (de_var (pv 1))))) (ds_nil)) (ds_cons (ds_if (dt_cmp (op_eqD hr.units) r2_eq (de_var (pv 0)) (de_int) (nomark _)) (ds_one (ds_ret (de_new (c := 23) T.x_WrongNumber T.n_init G_init (hr.mono (by decide)) (de_var (pv 1))))) (ds_nil)) (ds_cons (ds_if (dt_cmp (op_eqD hr.units) r2_eq (de_var (pv 0)) (de_int) (nomark _)) (ds_one (ds_ret (de_new (c := 24) T.x_WrongOrder T.n_init G_init (hr.mono (by decide)) (de_var (pv 1))))) (ds_nil)) (ds_cons (ds_if (dt_cmp (op_eqD hr.units) r2_eq (de_var (pv 0)) (de_int) (nomark _)) (ds_one (ds_ret (de_new (c := 25) T.x_WrongFields T.n_init G_init (hr.mono (by decide)) (de_var (pv 1))))) (ds_nil)) (ds_cons (ds_if (dt_cmp (op_eqD hr.units) r2_eq (de_var (pv 0)) (de_int) (nomark _)) (ds_one (ds_ret (de_new (c := 26) T.x_NoTrack T.n_init G_init (hr.mono (by decide)) (de_var (pv 1))))) (ds_nil)) (ds_cons (ds_if (dt_cmp (op_eqD hr.units) r2_eq (de_var (pv 0)) (de_int) (nomark _)) (ds_one (ds_ret (de_new (c := 27) T.x_TooManyUnits T.n_init G_init (hr.mono (by decide)) (de_var (pv 1))))) (ds_nil)) (ds_cons (ds_if (dt_cmp (op_eqD hr.units) r2_eq (de_var (pv 0)) (de_int) (nomark _)) (ds_one (ds_ret (de_new (c := 28) T.x_WrongOrdinal T.n_init G_init (hr.mono (by decide)) (de_var (pv 1))))) (ds_nil)) (ds_cons (ds_if (dt_cmp (op_eqD hr.units) r2_eq (de_var (pv 0)) (de_int) (nomark _)) (ds_one (ds_ret (de_new (c := 29) T.x_WrongTime T.n_init G_init (hr.mono (by decide)) (de_var (pv 1))))) (ds_nil)) (ds_cons (ds_if (dt_cmp (op_eqD hr.units) r2_eq (de_var (pv 0)) (de_int) (nomark _)) (ds_one (ds_ret (de_new (c := 30) T.x_WrongKey T.n_init G_init (hr.mono (by decide)) (de_var (pv 1))))) (ds_nil)) (ds_cons (ds_if (dt_cmp (op_eqD hr.units) r2_eq (de_var (pv 0)) (de_int) (nomark _)) (ds_one (ds_ret (de_new (c := 31) T.x_WrongEntry T.n_init G_init (hr.mono (by decide)) (de_var (pv 1))))) (ds_nil)) (ds_cons (ds_if (dt_cmp (op_eqD hr.units) r2_eq (de_var (pv 0)) (de_int) (nomark _)) (ds_one (ds_ret (de_new (c := 32) T.x_WrongCount T.n_init G_init (hr.mono (by decide)) (de_var (pv 1))))) (ds_nil)) (ds_cons (ds_if (dt_cmp (op_eqD hr.units) r2_eq (de_var (pv 0)) (de_int) (nomark _)) (ds_one (ds_ret (de_new (c := 33) T.x_WrongSum T.n_init G_init (hr.mono (by decide)) (de_var (pv 1))))) (ds_nil)) (ds_cons (ds_if (dt_cmp (op_eqD hr.units) r2_eq (de_var (pv 0)) (de_int) (nomark _)) (ds_one (ds_ret (de_new (c := 34) T.x_MissingUnits T.n_init G_init (hr.mono (by decide)) (de_var (pv 1))))) (ds_nil)) (ds_cons (ds_if (dt_cmp (op_eqD hr.units) r2_eq (de_var (pv 0)) (de_int) (nomark _)) (ds_one (ds_ret (de_new (c := 35) T.x_Behind T.n_init G_init (hr.mono (by decide)) (de_var (pv 1))))) (ds_nil)) (ds_cons (ds_if (dt_cmp (op_eqD hr.units) r2_eq (de_var (pv 0)) (de_int) (nomark _)) (ds_one (ds_ret (de_new (c := 36) T.x_NoEnd T.n_init G_init (hr.mono (by decide)) (de_var (pv 1))))) (ds_nil)) (ds_cons (ds_if (dt_cmp (op_eqD hr.units) r2_eq (de_var (pv 0)) (de_int) (nomark _)) (ds_one (ds_ret (de_new (c := 37) T.x_NotAlike T.n_init G_init (hr.mono (by decide)) (de_var (pv 1))))) (ds_nil)) (ds_cons (ds_if (dt_cmp (op_eqD hr.units) r2_eq (de_var (pv 0)) (de_int) (nomark _)) (ds_one (ds_ret (de_new (c := 38) T.x_HasSkip T.n_init G_init (hr.mono (by decide)) (de_var (pv 1))))) (ds_nil)) (ds_cons (ds_if (dt_cmp (op_eqD hr.units) r2_eq (de_var (pv 0)) (de_int) (nomark _)) (ds_one (ds_ret (de_new (c := 39) T.x_TooLong T.n_init G_init (hr.mono (by decide)) (de_var (pv 1))))) (ds_nil)) (ds_cons (ds_if (dt_cmp (op_eqD hr.units) r2_eq (de_var (pv 0)) (de_int) (nomark _)) (ds_one (ds_ret (de_new (c := 40) T.x_NoHead T.n_init G_init (hr.mono (by decide)) (de_var (pv 1))))) (ds_nil)) (ds_cons (ds_if (dt_cmp (op_eqD hr.units) r2_eq (de_var (pv 0)) (de_int) (nomark _)) (ds_one (ds_ret (de_new (c := 41) T.x_TooManyTags T.n_init G_init (hr.mono (by decide)) (de_var (pv 1))))) (ds_nil)) (ds_one (ds_ret (de_non))))))))))))))))))))))
theorem ok__law_kinds (T : Txt K mg Cl) : FnOk P w K mg base (L2.CX P w) 1 T.a__law_kinds T.fd__law_kinds ["e"] (spD K Cl 1 (FN.d__law_kinds Cl)) := by
  refine def_ok (k := 0) T.F__law_kinds sc__law_kinds rfl rfl fun cdv A outer s H E hr => ?_
  have tk := takes_of (X := cxOf (L2.CX P w) P w K mg base ["e"] "_law_kinds" (defScope s__law_kinds) T.a__law_kinds cdv A outer s H E) rfl rfl rfl rfl
  have hp : PassesOwn (model P w) (cxOf (L2.CX P w) P w K mg base ["e"] "_law_kinds" (defScope s__law_kinds) T.a__law_kinds cdv A outer s H E).A (cxOf (L2.CX P w) P w K mg base ["e"] "_law_kinds" (defScope s__law_kinds) T.a__law_kinds cdv A outer s H E).env (cxOf (L2.CX P w) P w K mg base ["e"] "_law_kinds" (defScope s__law_kinds) T.a__law_kinds cdv A outer s H E).xe := PassesOwn.leaving
  exact ds_one (ds_ret (de_lst (da_cons (de_isD rfl T.z_isinstance (de_var (pv 0)) (pe_glob (v := .ref (Cl 1)) rfl T.gx_OutOfRange rfl (by decide)) (fun u r => by cases r; rfl) (mxK_spec (R := fun C b => ErF K C ∧ PySem.W.kitOne K (.ref C) (.ref (Cl 1)) = some b) (fun k hk => ⟨er_all T k hk, T.kd_OutOfRange k hk⟩))) (da_cons (de_isD rfl T.z_isinstance (de_var (pv 0)) (pe_glob (v := .ref (Cl 2)) rfl T.gx_LooseNumber rfl (by decide)) (fun u r => by cases r; rfl) (mxK_spec (R := fun C b => ErF K C ∧ PySem.W.kitOne K (.ref C) (.ref (Cl 2)) = some b) (fun k hk => ⟨er_all T k hk, T.kd_LooseNumber k hk⟩))) (da_cons (de_isD rfl T.z_isinstance (de_var (pv 0)) (pe_glob (v := .ref (Cl 3)) rfl T.gx_Truncated rfl (by decide)) (fun u r => by cases r; rfl) (mxK_spec (R := fun C b => ErF K C ∧ PySem.W.kitOne K (.ref C) (.ref (Cl 3)) = some b) (fun k hk => ⟨er_all T k hk, T.kd_Truncated k hk⟩))) (da_cons (de_isD rfl T.z_isinstance (de_var (pv 0)) (pe_glob (v := .ref (Cl 4)) rfl T.gx_BadStuffing rfl (by decide)) (fun u r => by cases r; rfl) (mxK_spec (R := fun C b => ErF K C ∧ PySem.W.kitOne K (.ref C) (.ref (Cl 4)) = some b) (fun k hk => ⟨er_all T k hk, T.kd_BadStuffing k hk⟩))) (da_cons (de_isD rfl T.z_isinstance (de_var (pv 0)) (pe_glob (v := .ref (Cl 5)) rfl T.gx_BadKind rfl (by decide)) (fun u r => by cases r; rfl) (mxK_spec (R := fun C b => ErF K C ∧ PySem.W.kitOne K (.ref C) (.ref (Cl 5)) = some b) (fun k hk => ⟨er_all T k hk, T.kd_BadKind k hk⟩))) (da_cons (de_isD rfl T.z_isinstance (de_var (pv 0)) (pe_glob (v := .ref (Cl 6)) rfl T.gx_BadStamp rfl (by decide)) (fun u r => by cases r; rfl) (mxK_spec (R := fun C b => ErF K C ∧ PySem.W.kitOne K (.ref C) (.ref (Cl 6)) = some b) (fun k hk => ⟨er_all T k hk, T.kd_BadStamp k hk⟩))) (da_cons (de_isD rfl T.z_isinstance (de_var (pv 0)) (pe_glob (v := .ref (Cl 7)) rfl T.gx_BadNumber rfl (by decide)) (fun u r => by cases r; rfl) (mxK_spec (R := fun C b => ErF K C ∧ PySem.W.kitOne K (.ref C) (.ref (Cl 7)) = some b) (fun k hk => ⟨er_all T k hk, T.kd_BadNumber k hk⟩))) (da_cons (de_isD rfl T.z_isinstance (de_var (pv 0)) (pe_glob (v := .ref (Cl 8)) rfl T.gx_BadTrack rfl (by decide)) (fun u r => by cases r; rfl) (mxK_spec (R := fun C b => ErF K C ∧ PySem.W.kitOne K (.ref C) (.ref (Cl 8)) = some b) (fun k hk => ⟨er_all T k hk, T.kd_BadTrack k hk⟩))) (da_cons (de_isD rfl T.z_isinstance (de_var (pv 0)) (pe_glob (v := .ref (Cl 9)) rfl T.gx_BadOrdinal rfl (by decide)) (fun u r => by cases r; rfl) (mxK_spec (R := fun C b => ErF K C ∧ PySem.W.kitOne K (.ref C) (.ref (Cl 9)) = some b) (fun k hk => ⟨er_all T k hk, T.kd_BadOrdinal k hk⟩))) (da_cons (de_isD rfl T.z_isinstance (de_var (pv 0)) (pe_glob (v := .ref (Cl 10)) rfl T.gx_BadTime rfl (by decide)) (fun u r => by cases r; rfl) (mxK_spec (R := fun C b => ErF K C ∧ PySem.W.kitOne K (.ref C) (.ref (Cl 10)) = some b) (fun k hk => ⟨er_all T k hk, T.kd_BadTime k hk⟩))) (da_cons (de_isD rfl T.z_isinstance (de_var (pv 0)) (pe_glob (v := .ref (Cl 11)) rfl T.gx_BadSpan rfl (by decide)) (fun u r => by cases r; rfl) (mxK_spec (R := fun C b => ErF K C ∧ PySem.W.kitOne K (.ref C) (.ref (Cl 11)) = some b) (fun k hk => ⟨er_all T k hk, T.kd_BadSpan k hk⟩))) (da_cons (de_isD rfl T.z_isinstance (de_var (pv 0)) (pe_glob (v := .ref (Cl 12)) rfl T.gx_BadKey rfl (by decide)) (fun u r => by cases r; rfl) (mxK_spec (R := fun C b => ErF K C ∧ PySem.W.kitOne K (.ref C) (.ref (Cl 12)) = some b) (fun k hk => ⟨er_all T k hk, T.kd_BadKey k hk⟩))) (da_cons (de_isD rfl T.z_isinstance (de_var (pv 0)) (pe_glob (v := .ref (Cl 13)) rfl T.gx_BadSize rfl (by decide)) (fun u r => by cases r; rfl) (mxK_spec (R := fun C b => ErF K C ∧ PySem.W.kitOne K (.ref C) (.ref (Cl 13)) = some b) (fun k hk => ⟨er_all T k hk, T.kd_BadSize k hk⟩))) (da_cons (de_isD rfl T.z_isinstance (de_var (pv 0)) (pe_glob (v := .ref (Cl 14)) rfl T.gx_ShortBody rfl (by decide)) (fun u r => by cases r; rfl) (mxK_spec (R := fun C b => ErF K C ∧ PySem.W.kitOne K (.ref C) (.ref (Cl 14)) = some b) (fun k hk => ⟨er_all T k hk, T.kd_ShortBody k hk⟩))) (da_cons (de_isD rfl T.z_isinstance (de_var (pv 0)) (pe_glob (v := .ref (Cl 15)) rfl T.gx_BadCheck rfl (by decide)) (fun u r => by cases r; rfl) (mxK_spec (R := fun C b => ErF K C ∧ PySem.W.kitOne K (.ref C) (.ref (Cl 15)) = some b) (fun k hk => ⟨er_all T k hk, T.kd_BadCheck k hk⟩))) (da_cons (de_isD rfl T.z_isinstance (de_var (pv 0)) (pe_glob (v := .ref (Cl 16)) rfl T.gx_NotAPresentation rfl (by decide)) (fun u r => by cases r; rfl) (mxK_spec (R := fun C b => ErF K C ∧ PySem.W.kitOne K (.ref C) (.ref (Cl 16)) = some b) (fun k hk => ⟨er_all T k hk, T.kd_NotAPresentation k hk⟩))) (da_cons (de_isD rfl T.z_isinstance (de_var (pv 0)) (pe_glob (v := .ref (Cl 17)) rfl T.gx_BadChange rfl (by decide)) (fun u r => by cases r; rfl) (mxK_spec (R := fun C b => ErF K C ∧ PySem.W.kitOne K (.ref C) (.ref (Cl 17)) = some b) (fun k hk => ⟨er_all T k hk, T.kd_BadChange k hk⟩))) (da_cons (de_isD rfl T.z_isinstance (de_var (pv 0)) (pe_glob (v := .ref (Cl 18)) rfl T.gx_BadBody rfl (by decide)) (fun u r => by cases r; rfl) (mxK_spec (R := fun C b => ErF K C ∧ PySem.W.kitOne K (.ref C) (.ref (Cl 18)) = some b) (fun k hk => ⟨er_all T k hk, T.kd_BadBody k hk⟩))) (da_cons (de_isD rfl T.z_isinstance (de_var (pv 0)) (pe_glob (v := .ref (Cl 19)) rfl T.gx_BadStart rfl (by decide)) (fun u r => by cases r; rfl) (mxK_spec (R := fun C b => ErF K C ∧ PySem.W.kitOne K (.ref C) (.ref (Cl 19)) = some b) (fun k hk => ⟨er_all T k hk, T.kd_BadStart k hk⟩))) (da_cons (de_isD rfl T.z_isinstance (de_var (pv 0)) (pe_glob (v := .ref (Cl 20)) rfl T.gx_CutOff rfl (by decide)) (fun u r => by cases r; rfl) (mxK_spec (R := fun C b => ErF K C ∧ PySem.W.kitOne K (.ref C) (.ref (Cl 20)) = some b) (fun k hk => ⟨er_all T k hk, T.kd_CutOff k hk⟩))) (da_cons (de_isD rfl T.z_isinstance (de_var (pv 0)) (pe_glob (v := .ref (Cl 21)) rfl T.gx_EmptyPiece rfl (by decide)) (fun u r => by cases r; rfl) (mxK_spec (R := fun C b => ErF K C ∧ PySem.W.kitOne K (.ref C) (.ref (Cl 21)) = some b) (fun k hk => ⟨er_all T k hk, T.kd_EmptyPiece k hk⟩))) (da_cons (de_isD rfl T.z_isinstance (de_var (pv 0)) (pe_glob (v := .ref (Cl 22)) rfl T.gx_OtherStamp rfl (by decide)) (fun u r => by cases r; rfl) (mxK_spec (R := fun C b => ErF K C ∧ PySem.W.kitOne K (.ref C) (.ref (Cl 22)) = some b) (fun k hk => ⟨er_all T k hk, T.kd_OtherStamp k hk⟩))) (da_cons (de_isD rfl T.z_isinstance (de_var (pv 0)) (pe_glob (v := .ref (Cl 23)) rfl T.gx_WrongNumber rfl (by decide)) (fun u r => by cases r; rfl) (mxK_spec (R := fun C b => ErF K C ∧ PySem.W.kitOne K (.ref C) (.ref (Cl 23)) = some b) (fun k hk => ⟨er_all T k hk, T.kd_WrongNumber k hk⟩))) (da_cons (de_isD rfl T.z_isinstance (de_var (pv 0)) (pe_glob (v := .ref (Cl 24)) rfl T.gx_WrongOrder rfl (by decide)) (fun u r => by cases r; rfl) (mxK_spec (R := fun C b => ErF K C ∧ PySem.W.kitOne K (.ref C) (.ref (Cl 24)) = some b) (fun k hk => ⟨er_all T k hk, T.kd_WrongOrder k hk⟩))) (da_cons (de_isD rfl T.z_isinstance (de_var (pv 0)) (pe_glob (v := .ref (Cl 25)) rfl T.gx_WrongFields rfl (by decide)) (fun u r => by cases r; rfl) (mxK_spec (R := fun C b => ErF K C ∧ PySem.W.kitOne K (.ref C) (.ref (Cl 25)) = some b) (fun k hk => ⟨er_all T k hk, T.kd_WrongFields k hk⟩))) (da_cons (de_isD rfl T.z_isinstance (de_var (pv 0)) (pe_glob (v := .ref (Cl 26)) rfl T.gx_NoTrack rfl (by decide)) (fun u r => by cases r; rfl) (mxK_spec (R := fun C b => ErF K C ∧ PySem.W.kitOne K (.ref C) (.ref (Cl 26)) = some b) (fun k hk => ⟨er_all T k hk, T.kd_NoTrack k hk⟩))) (da_cons (de_isD rfl T.z_isinstance (de_var (pv 0)) (pe_glob (v := .ref (Cl 27)) rfl T.gx_TooManyUnits rfl (by decide)) (fun u r => by cases r; rfl) (mxK_spec (R := fun C b => ErF K C ∧ PySem.W.kitOne K (.ref C) (.ref (Cl 27)) = some b) (fun k hk => ⟨er_all T k hk, T.kd_TooManyUnits k hk⟩))) (da_cons (de_isD rfl T.z_isinstance (de_var (pv 0)) (pe_glob (v := .ref (Cl 28)) rfl T.gx_WrongOrdinal rfl (by decide)) (fun u r => by cases r; rfl) (mxK_spec (R := fun C b => ErF K C ∧ PySem.W.kitOne K (.ref C) (.ref (Cl 28)) = some b) (fun k hk => ⟨er_all T k hk, T.kd_WrongOrdinal k hk⟩))) (da_cons (de_isD rfl T.z_isinstance (de_var (pv 0)) (pe_glob (v := .ref (Cl 29)) rfl T.gx_WrongTime rfl (by decide)) (fun u r => by cases r; rfl) (mxK_spec (R := fun C b => ErF K C ∧ PySem.W.kitOne K (.ref C) (.ref (Cl 29)) = some b) (fun k hk => ⟨er_all T k hk, T.kd_WrongTime k hk⟩))) (da_cons (de_isD rfl T.z_isinstance (de_var (pv 0)) (pe_glob (v := .ref (Cl 30)) rfl T.gx_WrongKey rfl (by decide)) (fun u r => by cases r; rfl) (mxK_spec (R := fun C b => ErF K C ∧ PySem.W.kitOne K (.ref C) (.ref (Cl 30)) = some b) (fun k hk => ⟨er_all T k hk, T.kd_WrongKey k hk⟩))) (da_cons (de_isD rfl T.z_isinstance (de_var (pv 0)) (pe_glob (v := .ref (Cl 31)) rfl T.gx_WrongEntry rfl (by decide)) (fun u r => by cases r; rfl) (mxK_spec (R := fun C b => ErF K C ∧ PySem.W.kitOne K (.ref C) (.ref (Cl 31)) = some b) (fun k hk => ⟨er_all T k hk, T.kd_WrongEntry k hk⟩))) (da_cons (de_isD rfl T.z_isinstance (de_var (pv 0)) (pe_glob (v := .ref (Cl 32)) rfl T.gx_WrongCount rfl (by decide)) (fun u r => by cases r; rfl) (mxK_spec (R := fun C b => ErF K C ∧ PySem.W.kitOne K (.ref C) (.ref (Cl 32)) = some b) (fun k hk => ⟨er_all T k hk, T.kd_WrongCount k hk⟩))) (da_cons (de_isD rfl T.z_isinstance (de_var (pv 0)) (pe_glob (v := .ref (Cl 33)) rfl T.gx_WrongSum rfl (by decide)) (fun u r => by cases r; rfl) (mxK_spec (R := fun C b => ErF K C ∧ PySem.W.kitOne K (.ref C) (.ref (Cl 33)) = some b) (fun k hk => ⟨er_all T k hk, T.kd_WrongSum k hk⟩))) (da_cons (de_isD rfl T.z_isinstance (de_var (pv 0)) (pe_glob (v := .ref (Cl 34)) rfl T.gx_MissingUnits rfl (by decide)) (fun u r => by cases r; rfl) (mxK_spec (R := fun C b => ErF K C ∧ PySem.W.kitOne K (.ref C) (.ref (Cl 34)) = some b) (fun k hk => ⟨er_all T k hk, T.kd_MissingUnits k hk⟩))) (da_cons (de_isD rfl T.z_isinstance (de_var (pv 0)) (pe_glob (v := .ref (Cl 35)) rfl T.gx_Behind rfl (by decide)) (fun u r => by cases r; rfl) (mxK_spec (R := fun C b => ErF K C ∧ PySem.W.kitOne K (.ref C) (.ref (Cl 35)) = some b) (fun k hk => ⟨er_all T k hk, T.kd_Behind k hk⟩))) (da_cons (de_isD rfl T.z_isinstance (de_var (pv 0)) (pe_glob (v := .ref (Cl 36)) rfl T.gx_NoEnd rfl (by decide)) (fun u r => by cases r; rfl) (mxK_spec (R := fun C b => ErF K C ∧ PySem.W.kitOne K (.ref C) (.ref (Cl 36)) = some b) (fun k hk => ⟨er_all T k hk, T.kd_NoEnd k hk⟩))) (da_cons (de_isD rfl T.z_isinstance (de_var (pv 0)) (pe_glob (v := .ref (Cl 37)) rfl T.gx_NotAlike rfl (by decide)) (fun u r => by cases r; rfl) (mxK_spec (R := fun C b => ErF K C ∧ PySem.W.kitOne K (.ref C) (.ref (Cl 37)) = some b) (fun k hk => ⟨er_all T k hk, T.kd_NotAlike k hk⟩))) (da_cons (de_isD rfl T.z_isinstance (de_var (pv 0)) (pe_glob (v := .ref (Cl 38)) rfl T.gx_HasSkip rfl (by decide)) (fun u r => by cases r; rfl) (mxK_spec (R := fun C b => ErF K C ∧ PySem.W.kitOne K (.ref C) (.ref (Cl 38)) = some b) (fun k hk => ⟨er_all T k hk, T.kd_HasSkip k hk⟩))) (da_cons (de_isD rfl T.z_isinstance (de_var (pv 0)) (pe_glob (v := .ref (Cl 39)) rfl T.gx_TooLong rfl (by decide)) (fun u r => by cases r; rfl) (mxK_spec (R := fun C b => ErF K C ∧ PySem.W.kitOne K (.ref C) (.ref (Cl 39)) = some b) (fun k hk => ⟨er_all T k hk, T.kd_TooLong k hk⟩))) (da_cons (de_isD rfl T.z_isinstance (de_var (pv 0)) (pe_glob (v := .ref (Cl 40)) rfl T.gx_NoHead rfl (by decide)) (fun u r => by cases r; rfl) (mxK_spec (R := fun C b => ErF K C ∧ PySem.W.kitOne K (.ref C) (.ref (Cl 40)) = some b) (fun k hk => ⟨er_all T k hk, T.kd_NoHead k hk⟩))) (da_cons (de_isD rfl T.z_isinstance (de_var (pv 0)) (pe_glob (v := .ref (Cl 41)) rfl T.gx_TooManyTags rfl (by decide)) (fun u r => by cases r; rfl) (mxK_spec (R := fun C b => ErF K C ∧ PySem.W.kitOne K (.ref C) (.ref (Cl 41)) = some b) (fun k hk => ⟨er_all T k hk, T.kd_TooManyTags k hk⟩))) (da_nil))))))))))))))))))))))))))))))))))))))))))))
theorem ok_law (T : Txt K mg Cl) : FnOk P w K mg base (L2.CX P w) 4 T.a_law T.fd_law ["script"] (spD K Cl 1 (FN.d_law_k07 Cl)) := by
  have G_init := ok_init (P := P) (w := w) (base := base) T
  have G__law_first := ok__law_first (P := P) (w := w) (base := base) T
  have G__law_second := ok__law_second (P := P) (w := w) (base := base) T
  have G__law_kinds := ok__law_kinds (P := P) (w := w) (base := base) T
  refine def_ok (k := 3) T.F_law sc_law rfl rfl fun cdv A outer s H E hr => ?_
  have tk := takes_of (X := cxOf (L2.CX P w) P w K mg base ["script", "number", "k", "e", "j", "base"] "law" (defScope s_law) T.a_law cdv A outer s H E) rfl rfl rfl rfl
  have hp : PassesOwn (model P w) (cxOf (L2.CX P w) P w K mg base ["script", "number", "k", "e", "j", "base"] "law" (defScope s_law) T.a_law cdv A outer s H E).A (cxOf (L2.CX P w) P w K mg base ["script", "number", "k", "e", "j", "base"] "law" (defScope s_law) T.a_law cdv A outer s H E).env (cxOf (L2.CX P w) P w K mg base ["script", "number", "k", "e", "j", "base"] "law" (defScope s_law) T.a_law cdv A outer s H E).xe := PassesOwn.leaving
  exact ds_cons (ds_set (i := 1) sc_law.nd (de_int)) (ds_cons (ds_if (dt_cmp op_gtX r2_gtX (de_callB call_len cr_len T.z_len PySem.boot_len (da_cons (de_var (pv 0)) (da_nil))) (de_int) (nomark _)) (ds_one (ds_set (i := 1) sc_law.nd (de_sub (de_mod (de_callTy call_int1 cr_int T.z_int (by decide +kernel) (da_cons (de_ix (de_var (pv 0)) (de_int)) (da_nil))) (de_pow (de_int) (de_int))) (de_pow (de_int) (de_int))))) (ds_nil)) (ds_cons (ds_for hp rfl (di_range1 T.z_range (da_cons (de_int) (da_nil))) (dg_name (i := 2) sc_law.nd) (ds_cons (ds_set (i := 3) sc_law.nd (de_call G__law_first tk (hr.mono (by decide)) T.g__law_first T.F__law_first.kp T.b__law_first (da_cons (de_var (pv 2)) (da_cons (de_add (de_var (pv 1)) (de_var (pv 2))) (da_nil))))) (ds_cons (ds_if (dt_cmp op_geX r2_geX (de_var (pv 2)) (de_int) (nomark _)) (ds_one (ds_set (i := 3) sc_law.nd (de_call G__law_second tk (hr.mono (by decide)) T.g__law_second T.F__law_second.kp T.b__law_second (da_cons (de_var (pv 2)) (da_cons (de_add (de_var (pv 1)) (de_var (pv 2))) (da_nil)))))) (ds_nil)) (ds_cons (ds_if (dt_w (dw_or (dt_not (dt_val (de_isD rfl T.z_isinstance (de_var (pv 3)) (pe_glob (v := .ref (Cl 0)) rfl T.gx_SpoolboxError rfl (by decide)) (fun u r => by cases r; rfl) (mxK_spec (R := fun C b => ErF K C ∧ PySem.W.kitOne K (.ref C) (.ref (Cl 0)) = some b) (fun k hk => ⟨er_all T k hk, T.kd_SpoolboxError k hk⟩))))) (dw_or1 (dt_not (dt_val (de_isD rfl T.z_isinstance (de_var (pv 3)) (pe_bltn (v := .ty "ValueError") rfl T.z_ValueError (by decide +kernel) rfl (by decide) (by decide)) (fun u r => by cases r; rfl) (mxK_spec (R := fun C b => ErF K C ∧ PySem.W.kitOne K (.ref C) (.type "ValueError") = some b) (fun k hk => ⟨er_all T k hk, T.kd_ValueError k hk⟩)))))))) (ds_one (ds_ret (de_bl))) (ds_nil)) (ds_cons (ds_if (dt_w (dw_or (dt_not (dt_val (de_isi rfl T.z_isinstance T.z_int (by decide +kernel) (by decide) (de_atD (de_var (pv 3)) (mxK_spec (R := fun C _ => ErF K C) (fun k hk => er_all T k hk)))))) (dw_or (dt_val (de_isi rfl T.z_isinstance T.z_bool (by decide +kernel) (by decide) (de_atD (de_var (pv 3)) (mxK_spec (R := fun C _ => ErF K C) (fun k hk => er_all T k hk))))) (dw_or1 (dt_cmp (op_neD hr.units) r2_ne (de_atD (de_var (pv 3)) (mxK_spec (R := fun C _ => ErF K C) (fun k hk => er_all T k hk))) (de_add (de_var (pv 1)) (de_var (pv 2))) (nomark _)))))) (ds_one (ds_ret (de_bl))) (ds_nil)) (ds_one (ds_if (dt_cmp (op_neD hr.units) r2_ne (de_call G__law_kinds tk (hr.mono (by decide)) T.g__law_kinds T.F__law_kinds.kp T.b__law_kinds (da_cons (de_var (pv 3)) (da_nil))) (de_lc (own := [("j", 4)]) (tg := .Name _ _) rfl sc_law.nd lct1 (di_range1 T.z_range (da_cons (de_int) (da_nil))) (blkOk_by (own := [("j", 4)]) (N := ["script", "number", "k", "e", "j", "base"]) (sc := defScope s_law) (by decide +kernel)) (fun _ _ _ _ _ => pg_name (i := 4) sc_law.nd rfl (by first | exact Or.inl rfl | exact Or.inr rfl)) (fun _ _ _ _ _ => dts_nil) (fun _ _ _ _ _ => de_cmp (op_eqD hr.units) r2_eq (de_var (pv 4)) (de_var (pv 2)) (nomark _))) (nomark _)) (ds_one (ds_ret (de_bl))) (ds_nil)))))))) (ds_cons (ds_set (i := 5) sc_law.nd (de_new (c := 0) T.x_SpoolboxError T.n_init G_init (hr.mono (by decide)) (de_var (pv 1)))) (ds_one (ds_ret (de_andV (de_cmp (op_eqD hr.units) r2_eq (de_atD (de_var (pv 5)) (mxK_spec (R := fun C _ => ErF K C) (fun k hk => er_all T k hk))) (de_var (pv 1)) (nomark _)) (de_one (de_cmp (op_eqD hr.units) r2_eq (de_call G__law_kinds tk (hr.mono (by decide)) T.g__law_kinds T.F__law_kinds.kp T.b__law_kinds (da_cons (de_var (pv 5)) (da_nil))) (de_lc (own := [("j", 4)]) (tg := .Name _ _) rfl sc_law.nd lct1 (di_range1 T.z_range (da_cons (de_int) (da_nil))) (blkOk_by (own := [("j", 4)]) (N := ["script", "number", "k", "e", "j", "base"]) (sc := defScope s_law) (by decide +kernel)) (fun _ _ _ _ _ => pg_name (i := 4) sc_law.nd rfl (by first | exact Or.inl rfl | exact Or.inr rfl)) (fun _ _ _ _ _ => dts_nil) (fun _ _ _ _ _ => de_bl)) (nomark _)))))))))
end
theorem all_mk {P : Program} {w : World} {K : PySem.W.Frag} {h : Heap} {mg : Str → Option Value} {fa : Addr} (X : K.In h) (G : h.Ns mainGlobals mg) (hfa : mg "law" = some (.ref fa)) (hl : ∀ Cl : Nat → Addr, clD Cl = true → ∀ ns : List Int, ns.length ≤ 63 → (FN.d_law_k07 Cl) [scr ns] = some (.ret (.bool true)))
    {f0 : Addr} {od0 an0 : Option Addr} {sl0 : Array (Option Value)} {oc0 kV0 dc0 pm0 cd0 ct0 : Value}
    (a0 : PySem.W.nsIn K mainGlobals "_law_first" = some (some (.ref f0))) (l0 : K.lookup f0 = some ⟨oc0, od0, .func (PySem.W.fnOf "_law_first" "_law_first" (defArgs s__law_first) (defBody s__law_first) (defScope s__law_first) .none kV0 dc0 pm0 an0 cd0 ct0), sl0⟩) (c0 : PySem.W.codeIn K cd0 "_law_first" = true) (k0 : PySem.W.keepIn K (.ref f0) = true)
    {f1 : Addr} {od1 an1 : Option Addr} {sl1 : Array (Option Value)} {oc1 kV1 dc1 pm1 cd1 ct1 : Value}
    (a1 : PySem.W.nsIn K mainGlobals "_law_second" = some (some (.ref f1))) (l1 : K.lookup f1 = some ⟨oc1, od1, .func (PySem.W.fnOf "_law_second" "_law_second" (defArgs s__law_second) (defBody s__law_second) (defScope s__law_second) .none kV1 dc1 pm1 an1 cd1 ct1), sl1⟩) (c1 : PySem.W.codeIn K cd1 "_law_second" = true) (k1 : PySem.W.keepIn K (.ref f1) = true)
    {f2 : Addr} {od2 an2 : Option Addr} {sl2 : Array (Option Value)} {oc2 kV2 dc2 pm2 cd2 ct2 : Value}
    (a2 : PySem.W.nsIn K mainGlobals "_law_kinds" = some (some (.ref f2))) (l2 : K.lookup f2 = some ⟨oc2, od2, .func (PySem.W.fnOf "_law_kinds" "_law_kinds" (defArgs s__law_kinds) (defBody s__law_kinds) (defScope s__law_kinds) .none kV2 dc2 pm2 an2 cd2 ct2), sl2⟩) (c2 : PySem.W.codeIn K cd2 "_law_kinds" = true) (k2 : PySem.W.keepIn K (.ref f2) = true)
    {f3 : Addr} {od3 an3 : Option Addr} {sl3 : Array (Option Value)} {oc3 kV3 dc3 pm3 cd3 ct3 : Value}
    (a3 : PySem.W.nsIn K mainGlobals "law" = some (some (.ref f3))) (l3 : K.lookup f3 = some ⟨oc3, od3, .func (PySem.W.fnOf "law" "law" (defArgs s_law) (defBody s_law) (defScope s_law) .none kV3 dc3 pm3 an3 cd3 ct3), sl3⟩) (c3 : PySem.W.codeIn K cd3 "law" = true) (k3 : PySem.W.keepIn K (.ref f3) = true)
    (z_isinstance : PySem.W.nsIn K mainGlobals "isinstance" = some none)
    (z_len : PySem.W.nsIn K mainGlobals "len" = some none)
    (z_int : PySem.W.nsIn K mainGlobals "int" = some none)
    (z_range : PySem.W.nsIn K mainGlobals "range" = some none)
    (z_ValueError : PySem.W.nsIn K mainGlobals "ValueError" = some none)
    (z_bool : PySem.W.nsIn K mainGlobals "bool" = some none)
    {fI : Addr} {odI anI : Option Addr} {slI : Array (Option Value)} {ocI kVI dcI pmI cdI ctI : Value} (lI : K.lookup fI = some ⟨ocI, odI, .func (PySem.W.fnOf "__init__" "SpoolboxError.__init__" (defArgs s_init) (defBody s_init) (defScope s_init) .none kVI dcI pmI anI cdI ctI), slI⟩) (cI : PySem.W.codeIn K cdI "SpoolboxError.__init__" = true) (kI : PySem.W.keepIn K (.ref fI) = true) (tI : PySem.W.typeIn K (.ref fI) = some (.type "function"))
    {C_OutOfRange : Addr} {nm_OutOfRange q_OutOfRange : Str} {N_OutOfRange : Addr} {bs_OutOfRange bm_OutOfRange : List Value} {sn_OutOfRange : List Str} {sub_OutOfRange : List Value} {ab_OutOfRange : Bool} {col_OutOfRange : Option Bool} {dd_OutOfRange : Option Addr} {m0_OutOfRange m1_OutOfRange m2_OutOfRange m3_OutOfRange m5_OutOfRange : Option Value}
    (xa_OutOfRange : PySem.W.nsIn K mainGlobals "OutOfRange" = some (some (.ref C_OutOfRange))) (xl_OutOfRange : K.lookup C_OutOfRange = some (excClassObj nm_OutOfRange q_OutOfRange C_OutOfRange N_OutOfRange bs_OutOfRange bm_OutOfRange true sn_OutOfRange sub_OutOfRange ab_OutOfRange col_OutOfRange dd_OutOfRange m0_OutOfRange m1_OutOfRange m2_OutOfRange m3_OutOfRange m5_OutOfRange "ValueError.__new__")) (xr_OutOfRange : PySem.HandSPX.refsVE bm_OutOfRange = true)
    (xs_OutOfRange : PySem.W.findIn K (.ref C_OutOfRange) "__setattr__" = some (some (.builtin "object.__setattr__"))) (xe_OutOfRange : PySem.W.subIn K (.ref C_OutOfRange) (.type "BaseException") = some true) (xt_OutOfRange : PySem.W.typeIn K (.ref C_OutOfRange) = some (.type "type")) (xk_OutOfRange : PySem.W.keepIn K (.ref C_OutOfRange) = true)
    (xn_OutOfRange : PySem.W.findIn K (.ref C_OutOfRange) "at" = some none) (xi_OutOfRange : PySem.W.findIn K (.ref C_OutOfRange) "__init__" = some (some (.ref fI))) (xg_OutOfRange : PySem.W.findIn K (.ref C_OutOfRange) "__getattribute__" = some (some (.builtin "BaseException.__getattribute__"))) (xh_OutOfRange : PySem.W.findIn K (.ref C_OutOfRange) "__getattr__" = some none) (xd_OutOfRange : PySem.W.hasDictIn K C_OutOfRange = true)
    {C_LooseNumber : Addr} {nm_LooseNumber q_LooseNumber : Str} {N_LooseNumber : Addr} {bs_LooseNumber bm_LooseNumber : List Value} {sn_LooseNumber : List Str} {sub_LooseNumber : List Value} {ab_LooseNumber : Bool} {col_LooseNumber : Option Bool} {dd_LooseNumber : Option Addr} {m0_LooseNumber m1_LooseNumber m2_LooseNumber m3_LooseNumber m5_LooseNumber : Option Value}
    (xa_LooseNumber : PySem.W.nsIn K mainGlobals "LooseNumber" = some (some (.ref C_LooseNumber))) (xl_LooseNumber : K.lookup C_LooseNumber = some (excClassObj nm_LooseNumber q_LooseNumber C_LooseNumber N_LooseNumber bs_LooseNumber bm_LooseNumber true sn_LooseNumber sub_LooseNumber ab_LooseNumber col_LooseNumber dd_LooseNumber m0_LooseNumber m1_LooseNumber m2_LooseNumber m3_LooseNumber m5_LooseNumber "ValueError.__new__")) (xr_LooseNumber : PySem.HandSPX.refsVE bm_LooseNumber = true)
    (xs_LooseNumber : PySem.W.findIn K (.ref C_LooseNumber) "__setattr__" = some (some (.builtin "object.__setattr__"))) (xe_LooseNumber : PySem.W.subIn K (.ref C_LooseNumber) (.type "BaseException") = some true) (xt_LooseNumber : PySem.W.typeIn K (.ref C_LooseNumber) = some (.type "type")) (xk_LooseNumber : PySem.W.keepIn K (.ref C_LooseNumber) = true)
    (xn_LooseNumber : PySem.W.findIn K (.ref C_LooseNumber) "at" = some none) (xi_LooseNumber : PySem.W.findIn K (.ref C_LooseNumber) "__init__" = some (some (.ref fI))) (xg_LooseNumber : PySem.W.findIn K (.ref C_LooseNumber) "__getattribute__" = some (some (.builtin "BaseException.__getattribute__"))) (xh_LooseNumber : PySem.W.findIn K (.ref C_LooseNumber) "__getattr__" = some none) (xd_LooseNumber : PySem.W.hasDictIn K C_LooseNumber = true)
    {C_Truncated : Addr} {nm_Truncated q_Truncated : Str} {N_Truncated : Addr} {bs_Truncated bm_Truncated : List Value} {sn_Truncated : List Str} {sub_Truncated : List Value} {ab_Truncated : Bool} {col_Truncated : Option Bool} {dd_Truncated : Option Addr} {m0_Truncated m1_Truncated m2_Truncated m3_Truncated m5_Truncated : Option Value}
    (xa_Truncated : PySem.W.nsIn K mainGlobals "Truncated" = some (some (.ref C_Truncated))) (xl_Truncated : K.lookup C_Truncated = some (excClassObj nm_Truncated q_Truncated C_Truncated N_Truncated bs_Truncated bm_Truncated true sn_Truncated sub_Truncated ab_Truncated col_Truncated dd_Truncated m0_Truncated m1_Truncated m2_Truncated m3_Truncated m5_Truncated "ValueError.__new__")) (xr_Truncated : PySem.HandSPX.refsVE bm_Truncated = true)
    (xs_Truncated : PySem.W.findIn K (.ref C_Truncated) "__setattr__" = some (some (.builtin "object.__setattr__"))) (xe_Truncated : PySem.W.subIn K (.ref C_Truncated) (.type "BaseException") = some true) (xt_Truncated : PySem.W.typeIn K (.ref C_Truncated) = some (.type "type")) (xk_Truncated : PySem.W.keepIn K (.ref C_Truncated) = true)
    (xn_Truncated : PySem.W.findIn K (.ref C_Truncated) "at" = some none) (xi_Truncated : PySem.W.findIn K (.ref C_Truncated) "__init__" = some (some (.ref fI))) (xg_Truncated : PySem.W.findIn K (.ref C_Truncated) "__getattribute__" = some (some (.builtin "BaseException.__getattribute__"))) (xh_Truncated : PySem.W.findIn K (.ref C_Truncated) "__getattr__" = some none) (xd_Truncated : PySem.W.hasDictIn K C_Truncated = true)
    {C_BadStuffing : Addr} {nm_BadStuffing q_BadStuffing : Str} {N_BadStuffing : Addr} {bs_BadStuffing bm_BadStuffing : List Value} {sn_BadStuffing : List Str} {sub_BadStuffing : List Value} {ab_BadStuffing : Bool} {col_BadStuffing : Option Bool} {dd_BadStuffing : Option Addr} {m0_BadStuffing m1_BadStuffing m2_BadStuffing m3_BadStuffing m5_BadStuffing : Option Value}
    (xa_BadStuffing : PySem.W.nsIn K mainGlobals "BadStuffing" = some (some (.ref C_BadStuffing))) (xl_BadStuffing : K.lookup C_BadStuffing = some (excClassObj nm_BadStuffing q_BadStuffing C_BadStuffing N_BadStuffing bs_BadStuffing bm_BadStuffing true sn_BadStuffing sub_BadStuffing ab_BadStuffing col_BadStuffing dd_BadStuffing m0_BadStuffing m1_BadStuffing m2_BadStuffing m3_BadStuffing m5_BadStuffing "ValueError.__new__")) (xr_BadStuffing : PySem.HandSPX.refsVE bm_BadStuffing = true)
    (xs_BadStuffing : PySem.W.findIn K (.ref C_BadStuffing) "__setattr__" = some (some (.builtin "object.__setattr__"))) (xe_BadStuffing : PySem.W.subIn K (.ref C_BadStuffing) (.type "BaseException") = some true) (xt_BadStuffing : PySem.W.typeIn K (.ref C_BadStuffing) = some (.type "type")) (xk_BadStuffing : PySem.W.keepIn K (.ref C_BadStuffing) = true)
    (xn_BadStuffing : PySem.W.findIn K (.ref C_BadStuffing) "at" = some none) (xi_BadStuffing : PySem.W.findIn K (.ref C_BadStuffing) "__init__" = some (some (.ref fI))) (xg_BadStuffing : PySem.W.findIn K (.ref C_BadStuffing) "__getattribute__" = some (some (.builtin "BaseException.__getattribute__"))) (xh_BadStuffing : PySem.W.findIn K (.ref C_BadStuffing) "__getattr__" = some none) (xd_BadStuffing : PySem.W.hasDictIn K C_BadStuffing = true)
    {C_BadKind : Addr} {nm_BadKind q_BadKind : Str} {N_BadKind : Addr} {bs_BadKind bm_BadKind : List Value} {sn_BadKind : List Str} {sub_BadKind : List Value} {ab_BadKind : Bool} {col_BadKind : Option Bool} {dd_BadKind : Option Addr} {m0_BadKind m1_BadKind m2_BadKind m3_BadKind m5_BadKind : Option Value}
    (xa_BadKind : PySem.W.nsIn K mainGlobals "BadKind" = some (some (.ref C_BadKind))) (xl_BadKind : K.lookup C_BadKind = some (excClassObj nm_BadKind q_BadKind C_BadKind N_BadKind bs_BadKind bm_BadKind true sn_BadKind sub_BadKind ab_BadKind col_BadKind dd_BadKind m0_BadKind m1_BadKind m2_BadKind m3_BadKind m5_BadKind "ValueError.__new__")) (xr_BadKind : PySem.HandSPX.refsVE bm_BadKind = true)
    (xs_BadKind : PySem.W.findIn K (.ref C_BadKind) "__setattr__" = some (some (.builtin "object.__setattr__"))) (xe_BadKind : PySem.W.subIn K (.ref C_BadKind) (.type "BaseException") = some true) (xt_BadKind : PySem.W.typeIn K (.ref C_BadKind) = some (.type "type")) (xk_BadKind : PySem.W.keepIn K (.ref C_BadKind) = true)
    (xn_BadKind : PySem.W.findIn K (.ref C_BadKind) "at" = some none) (xi_BadKind : PySem.W.findIn K (.ref C_BadKind) "__init__" = some (some (.ref fI))) (xg_BadKind : PySem.W.findIn K (.ref C_BadKind) "__getattribute__" = some (some (.builtin "BaseException.__getattribute__"))) (xh_BadKind : PySem.W.findIn K (.ref C_BadKind) "__getattr__" = some none) (xd_BadKind : PySem.W.hasDictIn K C_BadKind = true)
    {C_BadStamp : Addr} {nm_BadStamp q_BadStamp : Str} {N_BadStamp : Addr} {bs_BadStamp bm_BadStamp : List Value} {sn_BadStamp : List Str} {sub_BadStamp : List Value} {ab_BadStamp : Bool} {col_BadStamp : Option Bool} {dd_BadStamp : Option Addr} {m0_BadStamp m1_BadStamp m2_BadStamp m3_BadStamp m5_BadStamp : Option Value}
    (xa_BadStamp : PySem.W.nsIn K mainGlobals "BadStamp" = some (some (.ref C_BadStamp))) (xl_BadStamp : K.lookup C_BadStamp = some (excClassObj nm_BadStamp q_BadStamp C_BadStamp N_BadStamp bs_BadStamp bm_BadStamp true sn_BadStamp sub_BadStamp ab_BadStamp col_BadStamp dd_BadStamp m0_BadStamp m1_BadStamp m2_BadStamp m3_BadStamp m5_BadStamp "ValueError.__new__")) (xr_BadStamp : PySem.HandSPX.refsVE bm_BadStamp = true)
    (xs_BadStamp : PySem.W.findIn K (.ref C_BadStamp) "__setattr__" = some (some (.builtin "object.__setattr__"))) (xe_BadStamp : PySem.W.subIn K (.ref C_BadStamp) (.type "BaseException") = some true) (xt_BadStamp : PySem.W.typeIn K (.ref C_BadStamp) = some (.type "type")) (xk_BadStamp : PySem.W.keepIn K (.ref C_BadStamp) = true)
    (xn_BadStamp : PySem.W.findIn K (.ref C_BadStamp) "at" = some none) (xi_BadStamp : PySem.W.findIn K (.ref C_BadStamp) "__init__" = some (some (.ref fI))) (xg_BadStamp : PySem.W.findIn K (.ref C_BadStamp) "__getattribute__" = some (some (.builtin "BaseException.__getattribute__"))) (xh_BadStamp : PySem.W.findIn K (.ref C_BadStamp) "__getattr__" = some none) (xd_BadStamp : PySem.W.hasDictIn K C_BadStamp = true)
    {C_BadNumber : Addr} {nm_BadNumber q_BadNumber : Str} {N_BadNumber : Addr} {bs_BadNumber bm_BadNumber : List Value} {sn_BadNumber : List Str} {sub_BadNumber : List Value} {ab_BadNumber : Bool} {col_BadNumber : Option Bool} {dd_BadNumber : Option Addr} {m0_BadNumber m1_BadNumber m2_BadNumber m3_BadNumber m5_BadNumber : Option Value}
    (xa_BadNumber : PySem.W.nsIn K mainGlobals "BadNumber" = some (some (.ref C_BadNumber))) (xl_BadNumber : K.lookup C_BadNumber = some (excClassObj nm_BadNumber q_BadNumber C_BadNumber N_BadNumber bs_BadNumber bm_BadNumber true sn_BadNumber sub_BadNumber ab_BadNumber col_BadNumber dd_BadNumber m0_BadNumber m1_BadNumber m2_BadNumber m3_BadNumber m5_BadNumber "ValueError.__new__")) (xr_BadNumber : PySem.HandSPX.refsVE bm_BadNumber = true)
    (xs_BadNumber : PySem.W.findIn K (.ref C_BadNumber) "__setattr__" = some (some (.builtin "object.__setattr__"))) (xe_BadNumber : PySem.W.subIn K (.ref C_BadNumber) (.type "BaseException") = some true) (xt_BadNumber : PySem.W.typeIn K (.ref C_BadNumber) = some (.type "type")) (xk_BadNumber : PySem.W.keepIn K (.ref C_BadNumber) = true)
    (xn_BadNumber : PySem.W.findIn K (.ref C_BadNumber) "at" = some none) (xi_BadNumber : PySem.W.findIn K (.ref C_BadNumber) "__init__" = some (some (.ref fI))) (xg_BadNumber : PySem.W.findIn K (.ref C_BadNumber) "__getattribute__" = some (some (.builtin "BaseException.__getattribute__"))) (xh_BadNumber : PySem.W.findIn K (.ref C_BadNumber) "__getattr__" = some none) (xd_BadNumber : PySem.W.hasDictIn K C_BadNumber = true)
    {C_BadTrack : Addr} {nm_BadTrack q_BadTrack : Str} {N_BadTrack : Addr} {bs_BadTrack bm_BadTrack : List Value} {sn_BadTrack : List Str} {sub_BadTrack : List Value} {ab_BadTrack : Bool} {col_BadTrack : Option Bool} {dd_BadTrack : Option Addr} {m0_BadTrack m1_BadTrack m2_BadTrack m3_BadTrack m5_BadTrack : Option Value}
    (xa_BadTrack : PySem.W.nsIn K mainGlobals "BadTrack" = some (some (.ref C_BadTrack))) (xl_BadTrack : K.lookup C_BadTrack = some (excClassObj nm_BadTrack q_BadTrack C_BadTrack N_BadTrack bs_BadTrack bm_BadTrack true sn_BadTrack sub_BadTrack ab_BadTrack col_BadTrack dd_BadTrack m0_BadTrack m1_BadTrack m2_BadTrack m3_BadTrack m5_BadTrack "ValueError.__new__")) (xr_BadTrack : PySem.HandSPX.refsVE bm_BadTrack = true)
    (xs_BadTrack : PySem.W.findIn K (.ref C_BadTrack) "__setattr__" = some (some (.builtin "object.__setattr__"))) (xe_BadTrack : PySem.W.subIn K (.ref C_BadTrack) (.type "BaseException") = some true) (xt_BadTrack : PySem.W.typeIn K (.ref C_BadTrack) = some (.type "type")) (xk_BadTrack : PySem.W.keepIn K (.ref C_BadTrack) = true)
    (xn_BadTrack : PySem.W.findIn K (.ref C_BadTrack) "at" = some none) (xi_BadTrack : PySem.W.findIn K (.ref C_BadTrack) "__init__" = some (some (.ref fI))) (xg_BadTrack : PySem.W.findIn K (.ref C_BadTrack) "__getattribute__" = some (some (.builtin "BaseException.__getattribute__"))) (xh_BadTrack : PySem.W.findIn K (.ref C_BadTrack) "__getattr__" = some none) (xd_BadTrack : PySem.W.hasDictIn K C_BadTrack = true)
    {C_BadOrdinal : Addr} {nm_BadOrdinal q_BadOrdinal : Str} {N_BadOrdinal : Addr} {bs_BadOrdinal bm_BadOrdinal : List Value} {sn_BadOrdinal : List Str} {sub_BadOrdinal : List Value} {ab_BadOrdinal : Bool} {col_BadOrdinal : Option Bool} {dd_BadOrdinal : Option Addr} {m0_BadOrdinal m1_BadOrdinal m2_BadOrdinal m3_BadOrdinal m5_BadOrdinal : Option Value}
    (xa_BadOrdinal : PySem.W.nsIn K mainGlobals "BadOrdinal" = some (some (.ref C_BadOrdinal))) (xl_BadOrdinal : K.lookup C_BadOrdinal = some (excClassObj nm_BadOrdinal q_BadOrdinal C_BadOrdinal N_BadOrdinal bs_BadOrdinal bm_BadOrdinal true sn_BadOrdinal sub_BadOrdinal ab_BadOrdinal col_BadOrdinal dd_BadOrdinal m0_BadOrdinal m1_BadOrdinal m2_BadOrdinal m3_BadOrdinal m5_BadOrdinal "ValueError.__new__")) (xr_BadOrdinal : PySem.HandSPX.refsVE bm_BadOrdinal = true)
    (xs_BadOrdinal : PySem.W.findIn K (.ref C_BadOrdinal) "__setattr__" = some (some (.builtin "object.__setattr__"))) (xe_BadOrdinal : PySem.W.subIn K (.ref C_BadOrdinal) (.type "BaseException") = some true) (xt_BadOrdinal : PySem.W.typeIn K (.ref C_BadOrdinal) = some (.type "type")) (xk_BadOrdinal : PySem.W.keepIn K (.ref C_BadOrdinal) = true)
    (xn_BadOrdinal : PySem.W.findIn K (.ref C_BadOrdinal) "at" = some none) (xi_BadOrdinal : PySem.W.findIn K (.ref C_BadOrdinal) "__init__" = some (some (.ref fI))) (xg_BadOrdinal : PySem.W.findIn K (.ref C_BadOrdinal) "__getattribute__" = some (some (.builtin "BaseException.__getattribute__"))) (xh_BadOrdinal : PySem.W.findIn K (.ref C_BadOrdinal) "__getattr__" = some none) (xd_BadOrdinal : PySem.W.hasDictIn K C_BadOrdinal = true)
    {C_BadTime : Addr} {nm_BadTime q_BadTime : Str} {N_BadTime : Addr} {bs_BadTime bm_BadTime : List Value} {sn_BadTime : List Str} {sub_BadTime : List Value} {ab_BadTime : Bool} {col_BadTime : Option Bool} {dd_BadTime : Option Addr} {m0_BadTime m1_BadTime m2_BadTime m3_BadTime m5_BadTime : Option Value}
    (xa_BadTime : PySem.W.nsIn K mainGlobals "BadTime" = some (some (.ref C_BadTime))) (xl_BadTime : K.lookup C_BadTime = some (excClassObj nm_BadTime q_BadTime C_BadTime N_BadTime bs_BadTime bm_BadTime true sn_BadTime sub_BadTime ab_BadTime col_BadTime dd_BadTime m0_BadTime m1_BadTime m2_BadTime m3_BadTime m5_BadTime "ValueError.__new__")) (xr_BadTime : PySem.HandSPX.refsVE bm_BadTime = true)
    (xs_BadTime : PySem.W.findIn K (.ref C_BadTime) "__setattr__" = some (some (.builtin "object.__setattr__"))) (xe_BadTime : PySem.W.subIn K (.ref C_BadTime) (.type "BaseException") = some true) (xt_BadTime : PySem.W.typeIn K (.ref C_BadTime) = some (.type "type")) (xk_BadTime : PySem.W.keepIn K (.ref C_BadTime) = true)
    (xn_BadTime : PySem.W.findIn K (.ref C_BadTime) "at" = some none) (xi_BadTime : PySem.W.findIn K (.ref C_BadTime) "__init__" = some (some (.ref fI))) (xg_BadTime : PySem.W.findIn K (.ref C_BadTime) "__getattribute__" = some (some (.builtin "BaseException.__getattribute__"))) (xh_BadTime : PySem.W.findIn K (.ref C_BadTime) "__getattr__" = some none) (xd_BadTime : PySem.W.hasDictIn K C_BadTime = true)
    {C_BadSpan : Addr} {nm_BadSpan q_BadSpan : Str} {N_BadSpan : Addr} {bs_BadSpan bm_BadSpan : List Value} {sn_BadSpan : List Str} {sub_BadSpan : List Value} {ab_BadSpan : Bool} {col_BadSpan : Option Bool} {dd_BadSpan : Option Addr} {m0_BadSpan m1_BadSpan m2_BadSpan m3_BadSpan m5_BadSpan : Option Value}
    (xa_BadSpan : PySem.W.nsIn K mainGlobals "BadSpan" = some (some (.ref C_BadSpan))) (xl_BadSpan : K.lookup C_BadSpan = some (excClassObj nm_BadSpan q_BadSpan C_BadSpan N_BadSpan bs_BadSpan bm_BadSpan true sn_BadSpan sub_BadSpan ab_BadSpan col_BadSpan dd_BadSpan m0_BadSpan m1_BadSpan m2_BadSpan m3_BadSpan m5_BadSpan "ValueError.__new__")) (xr_BadSpan : PySem.HandSPX.refsVE bm_BadSpan = true)
    (xs_BadSpan : PySem.W.findIn K (.ref C_BadSpan) "__setattr__" = some (some (.builtin "object.__setattr__"))) (xe_BadSpan : PySem.W.subIn K (.ref C_BadSpan) (.type "BaseException") = some true) (xt_BadSpan : PySem.W.typeIn K (.ref C_BadSpan) = some (.type "type")) (xk_BadSpan : PySem.W.keepIn K (.ref C_BadSpan) = true)
    (xn_BadSpan : PySem.W.findIn K (.ref C_BadSpan) "at" = some none) (xi_BadSpan : PySem.W.findIn K (.ref C_BadSpan) "__init__" = some (some (.ref fI))) (xg_BadSpan : PySem.W.findIn K (.ref C_BadSpan) "__getattribute__" = some (some (.builtin "BaseException.__getattribute__"))) (xh_BadSpan : PySem.W.findIn K (.ref C_BadSpan) "__getattr__" = some none) (xd_BadSpan : PySem.W.hasDictIn K C_BadSpan = true)
    {C_BadKey : Addr} {nm_BadKey q_BadKey : Str} {N_BadKey : Addr} {bs_BadKey bm_BadKey : List Value} {sn_BadKey : List Str} {sub_BadKey : List Value} {ab_BadKey : Bool} {col_BadKey : Option Bool} {dd_BadKey : Option Addr} {m0_BadKey m1_BadKey m2_BadKey m3_BadKey m5_BadKey : Option Value}
    (xa_BadKey : PySem.W.nsIn K mainGlobals "BadKey" = some (some (.ref C_BadKey))) (xl_BadKey : K.lookup C_BadKey = some (excClassObj nm_BadKey q_BadKey C_BadKey N_BadKey bs_BadKey bm_BadKey true sn_BadKey sub_BadKey ab_BadKey col_BadKey dd_BadKey m0_BadKey m1_BadKey m2_BadKey m3_BadKey m5_BadKey "ValueError.__new__")) (xr_BadKey : PySem.HandSPX.refsVE bm_BadKey = true)
    (xs_BadKey : PySem.W.findIn K (.ref C_BadKey) "__setattr__" = some (some (.builtin "object.__setattr__"))) (xe_BadKey : PySem.W.subIn K (.ref C_BadKey) (.type "BaseException") = some true) (xt_BadKey : PySem.W.typeIn K (.ref C_BadKey) = some (.type "type")) (xk_BadKey : PySem.W.keepIn K (.ref C_BadKey) = true)
    (xn_BadKey : PySem.W.findIn K (.ref C_BadKey) "at" = some none) (xi_BadKey : PySem.W.findIn K (.ref C_BadKey) "__init__" = some (some (.ref fI))) (xg_BadKey : PySem.W.findIn K (.ref C_BadKey) "__getattribute__" = some (some (.builtin "BaseException.__getattribute__"))) (xh_BadKey : PySem.W.findIn K (.ref C_BadKey) "__getattr__" = some none) (xd_BadKey : PySem.W.hasDictIn K C_BadKey = true)
    {C_BadSize : Addr} {nm_BadSize q_BadSize : Str} {N_BadSize : Addr} {bs_BadSize bm_BadSize : List Value} {sn_BadSize : List Str} {sub_BadSize : List Value} {ab_BadSize : Bool} {col_BadSize : Option Bool} {dd_BadSize : Option Addr} {m0_BadSize m1_BadSize m2_BadSize m3_BadSize m5_BadSize : Option Value}
    (xa_BadSize : PySem.W.nsIn K mainGlobals "BadSize" = some (some (.ref C_BadSize))) (xl_BadSize : K.lookup C_BadSize = some (excClassObj nm_BadSize q_BadSize C_BadSize N_BadSize bs_BadSize bm_BadSize true sn_BadSize sub_BadSize ab_BadSize col_BadSize dd_BadSize m0_BadSize m1_BadSize m2_BadSize m3_BadSize m5_BadSize "ValueError.__new__")) (xr_BadSize : PySem.HandSPX.refsVE bm_BadSize = true)
    (xs_BadSize : PySem.W.findIn K (.ref C_BadSize) "__setattr__" = some (some (.builtin "object.__setattr__"))) (xe_BadSize : PySem.W.subIn K (.ref C_BadSize) (.type "BaseException") = some true) (xt_BadSize : PySem.W.typeIn K (.ref C_BadSize) = some (.type "type")) (xk_BadSize : PySem.W.keepIn K (.ref C_BadSize) = true)
    (xn_BadSize : PySem.W.findIn K (.ref C_BadSize) "at" = some none) (xi_BadSize : PySem.W.findIn K (.ref C_BadSize) "__init__" = some (some (.ref fI))) (xg_BadSize : PySem.W.findIn K (.ref C_BadSize) "__getattribute__" = some (some (.builtin "BaseException.__getattribute__"))) (xh_BadSize : PySem.W.findIn K (.ref C_BadSize) "__getattr__" = some none) (xd_BadSize : PySem.W.hasDictIn K C_BadSize = true)
    {C_ShortBody : Addr} {nm_ShortBody q_ShortBody : Str} {N_ShortBody : Addr} {bs_ShortBody bm_ShortBody : List Value} {sn_ShortBody : List Str} {sub_ShortBody : List Value} {ab_ShortBody : Bool} {col_ShortBody : Option Bool} {dd_ShortBody : Option Addr} {m0_ShortBody m1_ShortBody m2_ShortBody m3_ShortBody m5_ShortBody : Option Value}
    (xa_ShortBody : PySem.W.nsIn K mainGlobals "ShortBody" = some (some (.ref C_ShortBody))) (xl_ShortBody : K.lookup C_ShortBody = some (excClassObj nm_ShortBody q_ShortBody C_ShortBody N_ShortBody bs_ShortBody bm_ShortBody true sn_ShortBody sub_ShortBody ab_ShortBody col_ShortBody dd_ShortBody m0_ShortBody m1_ShortBody m2_ShortBody m3_ShortBody m5_ShortBody "ValueError.__new__")) (xr_ShortBody : PySem.HandSPX.refsVE bm_ShortBody = true)
    (xs_ShortBody : PySem.W.findIn K (.ref C_ShortBody) "__setattr__" = some (some (.builtin "object.__setattr__"))) (xe_ShortBody : PySem.W.subIn K (.ref C_ShortBody) (.type "BaseException") = some true) (xt_ShortBody : PySem.W.typeIn K (.ref C_ShortBody) = some (.type "type")) (xk_ShortBody : PySem.W.keepIn K (.ref C_ShortBody) = true)
    (xn_ShortBody : PySem.W.findIn K (.ref C_ShortBody) "at" = some none) (xi_ShortBody : PySem.W.findIn K (.ref C_ShortBody) "__init__" = some (some (.ref fI))) (xg_ShortBody : PySem.W.findIn K (.ref C_ShortBody) "__getattribute__" = some (some (.builtin "BaseException.__getattribute__"))) (xh_ShortBody : PySem.W.findIn K (.ref C_ShortBody) "__getattr__" = some none) (xd_ShortBody : PySem.W.hasDictIn K C_ShortBody = true)
    {C_BadCheck : Addr} {nm_BadCheck q_BadCheck : Str} {N_BadCheck : Addr} {bs_BadCheck bm_BadCheck : List Value} {sn_BadCheck : List Str} {sub_BadCheck : List Value} {ab_BadCheck : Bool} {col_BadCheck : Option Bool} {dd_BadCheck : Option Addr} {m0_BadCheck m1_BadCheck m2_BadCheck m3_BadCheck m5_BadCheck : Option Value}
    (xa_BadCheck : PySem.W.nsIn K mainGlobals "BadCheck" = some (some (.ref C_BadCheck))) (xl_BadCheck : K.lookup C_BadCheck = some (excClassObj nm_BadCheck q_BadCheck C_BadCheck N_BadCheck bs_BadCheck bm_BadCheck true sn_BadCheck sub_BadCheck ab_BadCheck col_BadCheck dd_BadCheck m0_BadCheck m1_BadCheck m2_BadCheck m3_BadCheck m5_BadCheck "ValueError.__new__")) (xr_BadCheck : PySem.HandSPX.refsVE bm_BadCheck = true)
    (xs_BadCheck : PySem.W.findIn K (.ref C_BadCheck) "__setattr__" = some (some (.builtin "object.__setattr__"))) (xe_BadCheck : PySem.W.subIn K (.ref C_BadCheck) (.type "BaseException") = some true) (xt_BadCheck : PySem.W.typeIn K (.ref C_BadCheck) = some (.type "type")) (xk_BadCheck : PySem.W.keepIn K (.ref C_BadCheck) = true)
    (xn_BadCheck : PySem.W.findIn K (.ref C_BadCheck) "at" = some none) (xi_BadCheck : PySem.W.findIn K (.ref C_BadCheck) "__init__" = some (some (.ref fI))) (xg_BadCheck : PySem.W.findIn K (.ref C_BadCheck) "__getattribute__" = some (some (.builtin "BaseException.__getattribute__"))) (xh_BadCheck : PySem.W.findIn K (.ref C_BadCheck) "__getattr__" = some none) (xd_BadCheck : PySem.W.hasDictIn K C_BadCheck = true)
    {C_NotAPresentation : Addr} {nm_NotAPresentation q_NotAPresentation : Str} {N_NotAPresentation : Addr} {bs_NotAPresentation bm_NotAPresentation : List Value} {sn_NotAPresentation : List Str} {sub_NotAPresentation : List Value} {ab_NotAPresentation : Bool} {col_NotAPresentation : Option Bool} {dd_NotAPresentation : Option Addr} {m0_NotAPresentation m1_NotAPresentation m2_NotAPresentation m3_NotAPresentation m5_NotAPresentation : Option Value}
    (xa_NotAPresentation : PySem.W.nsIn K mainGlobals "NotAPresentation" = some (some (.ref C_NotAPresentation))) (xl_NotAPresentation : K.lookup C_NotAPresentation = some (excClassObj nm_NotAPresentation q_NotAPresentation C_NotAPresentation N_NotAPresentation bs_NotAPresentation bm_NotAPresentation true sn_NotAPresentation sub_NotAPresentation ab_NotAPresentation col_NotAPresentation dd_NotAPresentation m0_NotAPresentation m1_NotAPresentation m2_NotAPresentation m3_NotAPresentation m5_NotAPresentation "ValueError.__new__")) (xr_NotAPresentation : PySem.HandSPX.refsVE bm_NotAPresentation = true)
    (xs_NotAPresentation : PySem.W.findIn K (.ref C_NotAPresentation) "__setattr__" = some (some (.builtin "object.__setattr__"))) (xe_NotAPresentation : PySem.W.subIn K (.ref C_NotAPresentation) (.type "BaseException") = some true) (xt_NotAPresentation : PySem.W.typeIn K (.ref C_NotAPresentation) = some (.type "type")) (xk_NotAPresentation : PySem.W.keepIn K (.ref C_NotAPresentation) = true)
    (xn_NotAPresentation : PySem.W.findIn K (.ref C_NotAPresentation) "at" = some none) (xi_NotAPresentation : PySem.W.findIn K (.ref C_NotAPresentation) "__init__" = some (some (.ref fI))) (xg_NotAPresentation : PySem.W.findIn K (.ref C_NotAPresentation) "__getattribute__" = some (some (.builtin "BaseException.__getattribute__"))) (xh_NotAPresentation : PySem.W.findIn K (.ref C_NotAPresentation) "__getattr__" = some none) (xd_NotAPresentation : PySem.W.hasDictIn K C_NotAPresentation = true)
    {C_BadChange : Addr} {nm_BadChange q_BadChange : Str} {N_BadChange : Addr} {bs_BadChange bm_BadChange : List Value} {sn_BadChange : List Str} {sub_BadChange : List Value} {ab_BadChange : Bool} {col_BadChange : Option Bool} {dd_BadChange : Option Addr} {m0_BadChange m1_BadChange m2_BadChange m3_BadChange m5_BadChange : Option Value}
    (xa_BadChange : PySem.W.nsIn K mainGlobals "BadChange" = some (some (.ref C_BadChange))) (xl_BadChange : K.lookup C_BadChange = some (excClassObj nm_BadChange q_BadChange C_BadChange N_BadChange bs_BadChange bm_BadChange true sn_BadChange sub_BadChange ab_BadChange col_BadChange dd_BadChange m0_BadChange m1_BadChange m2_BadChange m3_BadChange m5_BadChange "ValueError.__new__")) (xr_BadChange : PySem.HandSPX.refsVE bm_BadChange = true)
    (xs_BadChange : PySem.W.findIn K (.ref C_BadChange) "__setattr__" = some (some (.builtin "object.__setattr__"))) (xe_BadChange : PySem.W.subIn K (.ref C_BadChange) (.type "BaseException") = some true) (xt_BadChange : PySem.W.typeIn K (.ref C_BadChange) = some (.type "type")) (xk_BadChange : PySem.W.keepIn K (.ref C_BadChange) = true)
    (xn_BadChange : PySem.W.findIn K (.ref C_BadChange) "at" = some none) (xi_BadChange : PySem.W.findIn K (.ref C_BadChange) "__init__" = some (some (.ref fI))) (xg_BadChange : PySem.W.findIn K (.ref C_BadChange) "__getattribute__" = some (some (.builtin "BaseException.__getattribute__"))) (xh_BadChange : PySem.W.findIn K (.ref C_BadChange) "__getattr__" = some none) (xd_BadChange : PySem.W.hasDictIn K C_BadChange = true)
    {C_BadBody : Addr} {nm_BadBody q_BadBody : Str} {N_BadBody : Addr} {bs_BadBody bm_BadBody : List Value} {sn_BadBody : List Str} {sub_BadBody : List Value} {ab_BadBody : Bool} {col_BadBody : Option Bool} {dd_BadBody : Option Addr} {m0_BadBody m1_BadBody m2_BadBody m3_BadBody m5_BadBody : Option Value}
    (xa_BadBody : PySem.W.nsIn K mainGlobals "BadBody" = some (some (.ref C_BadBody))) (xl_BadBody : K.lookup C_BadBody = some (excClassObj nm_BadBody q_BadBody C_BadBody N_BadBody bs_BadBody bm_BadBody true sn_BadBody sub_BadBody ab_BadBody col_BadBody dd_BadBody m0_BadBody m1_BadBody m2_BadBody m3_BadBody m5_BadBody "ValueError.__new__")) (xr_BadBody : PySem.HandSPX.refsVE bm_BadBody = true)
    (xs_BadBody : PySem.W.findIn K (.ref C_BadBody) "__setattr__" = some (some (.builtin "object.__setattr__"))) (xe_BadBody : PySem.W.subIn K (.ref C_BadBody) (.type "BaseException") = some true) (xt_BadBody : PySem.W.typeIn K (.ref C_BadBody) = some (.type "type")) (xk_BadBody : PySem.W.keepIn K (.ref C_BadBody) = true)
    (xn_BadBody : PySem.W.findIn K (.ref C_BadBody) "at" = some none) (xi_BadBody : PySem.W.findIn K (.ref C_BadBody) "__init__" = some (some (.ref fI))) (xg_BadBody : PySem.W.findIn K (.ref C_BadBody) "__getattribute__" = some (some (.builtin "BaseException.__getattribute__"))) (xh_BadBody : PySem.W.findIn K (.ref C_BadBody) "__getattr__" = some none) (xd_BadBody : PySem.W.hasDictIn K C_BadBody = true)
    {C_BadStart : Addr} {nm_BadStart q_BadStart : Str} {N_BadStart : Addr} {bs_BadStart bm_BadStart : List Value} {sn_BadStart : List Str} {sub_BadStart : List Value} {ab_BadStart : Bool} {col_BadStart : Option Bool} {dd_BadStart : Option Addr} {m0_BadStart m1_BadStart m2_BadStart m3_BadStart m5_BadStart : Option Value}
    (xa_BadStart : PySem.W.nsIn K mainGlobals "BadStart" = some (some (.ref C_BadStart))) (xl_BadStart : K.lookup C_BadStart = some (excClassObj nm_BadStart q_BadStart C_BadStart N_BadStart bs_BadStart bm_BadStart true sn_BadStart sub_BadStart ab_BadStart col_BadStart dd_BadStart m0_BadStart m1_BadStart m2_BadStart m3_BadStart m5_BadStart "ValueError.__new__")) (xr_BadStart : PySem.HandSPX.refsVE bm_BadStart = true)
    (xs_BadStart : PySem.W.findIn K (.ref C_BadStart) "__setattr__" = some (some (.builtin "object.__setattr__"))) (xe_BadStart : PySem.W.subIn K (.ref C_BadStart) (.type "BaseException") = some true) (xt_BadStart : PySem.W.typeIn K (.ref C_BadStart) = some (.type "type")) (xk_BadStart : PySem.W.keepIn K (.ref C_BadStart) = true)
    (xn_BadStart : PySem.W.findIn K (.ref C_BadStart) "at" = some none) (xi_BadStart : PySem.W.findIn K (.ref C_BadStart) "__init__" = some (some (.ref fI))) (xg_BadStart : PySem.W.findIn K (.ref C_BadStart) "__getattribute__" = some (some (.builtin "BaseException.__getattribute__"))) (xh_BadStart : PySem.W.findIn K (.ref C_BadStart) "__getattr__" = some none) (xd_BadStart : PySem.W.hasDictIn K C_BadStart = true)
    {C_CutOff : Addr} {nm_CutOff q_CutOff : Str} {N_CutOff : Addr} {bs_CutOff bm_CutOff : List Value} {sn_CutOff : List Str} {sub_CutOff : List Value} {ab_CutOff : Bool} {col_CutOff : Option Bool} {dd_CutOff : Option Addr} {m0_CutOff m1_CutOff m2_CutOff m3_CutOff m5_CutOff : Option Value}
    (xa_CutOff : PySem.W.nsIn K mainGlobals "CutOff" = some (some (.ref C_CutOff))) (xl_CutOff : K.lookup C_CutOff = some (excClassObj nm_CutOff q_CutOff C_CutOff N_CutOff bs_CutOff bm_CutOff true sn_CutOff sub_CutOff ab_CutOff col_CutOff dd_CutOff m0_CutOff m1_CutOff m2_CutOff m3_CutOff m5_CutOff "ValueError.__new__")) (xr_CutOff : PySem.HandSPX.refsVE bm_CutOff = true)
    (xs_CutOff : PySem.W.findIn K (.ref C_CutOff) "__setattr__" = some (some (.builtin "object.__setattr__"))) (xe_CutOff : PySem.W.subIn K (.ref C_CutOff) (.type "BaseException") = some true) (xt_CutOff : PySem.W.typeIn K (.ref C_CutOff) = some (.type "type")) (xk_CutOff : PySem.W.keepIn K (.ref C_CutOff) = true)
    (xn_CutOff : PySem.W.findIn K (.ref C_CutOff) "at" = some none) (xi_CutOff : PySem.W.findIn K (.ref C_CutOff) "__init__" = some (some (.ref fI))) (xg_CutOff : PySem.W.findIn K (.ref C_CutOff) "__getattribute__" = some (some (.builtin "BaseException.__getattribute__"))) (xh_CutOff : PySem.W.findIn K (.ref C_CutOff) "__getattr__" = some none) (xd_CutOff : PySem.W.hasDictIn K C_CutOff = true)
    {C_EmptyPiece : Addr} {nm_EmptyPiece q_EmptyPiece : Str} {N_EmptyPiece : Addr} {bs_EmptyPiece bm_EmptyPiece : List Value} {sn_EmptyPiece : List Str} {sub_EmptyPiece : List Value} {ab_EmptyPiece : Bool} {col_EmptyPiece : Option Bool} {dd_EmptyPiece : Option Addr} {m0_EmptyPiece m1_EmptyPiece m2_EmptyPiece m3_EmptyPiece m5_EmptyPiece : Option Value}
    (xa_EmptyPiece : PySem.W.nsIn K mainGlobals "EmptyPiece" = some (some (.ref C_EmptyPiece))) (xl_EmptyPiece : K.lookup C_EmptyPiece = some (excClassObj nm_EmptyPiece q_EmptyPiece C_EmptyPiece N_EmptyPiece bs_EmptyPiece bm_EmptyPiece true sn_EmptyPiece sub_EmptyPiece ab_EmptyPiece col_EmptyPiece dd_EmptyPiece m0_EmptyPiece m1_EmptyPiece m2_EmptyPiece m3_EmptyPiece m5_EmptyPiece "ValueError.__new__")) (xr_EmptyPiece : PySem.HandSPX.refsVE bm_EmptyPiece = true)
    (xs_EmptyPiece : PySem.W.findIn K (.ref C_EmptyPiece) "__setattr__" = some (some (.builtin "object.__setattr__"))) (xe_EmptyPiece : PySem.W.subIn K (.ref C_EmptyPiece) (.type "BaseException") = some true) (xt_EmptyPiece : PySem.W.typeIn K (.ref C_EmptyPiece) = some (.type "type")) (xk_EmptyPiece : PySem.W.keepIn K (.ref C_EmptyPiece) = true)
    (xn_EmptyPiece : PySem.W.findIn K (.ref C_EmptyPiece) "at" = some none) (xi_EmptyPiece : PySem.W.findIn K (.ref C_EmptyPiece) "__init__" = some (some (.ref fI))) (xg_EmptyPiece : PySem.W.findIn K (.ref C_EmptyPiece) "__getattribute__" = some (some (.builtin "BaseException.__getattribute__"))) (xh_EmptyPiece : PySem.W.findIn K (.ref C_EmptyPiece) "__getattr__" = some none) (xd_EmptyPiece : PySem.W.hasDictIn K C_EmptyPiece = true)
    {C_OtherStamp : Addr} {nm_OtherStamp q_OtherStamp : Str} {N_OtherStamp : Addr} {bs_OtherStamp bm_OtherStamp : List Value} {sn_OtherStamp : List Str} {sub_OtherStamp : List Value} {ab_OtherStamp : Bool} {col_OtherStamp : Option Bool} {dd_OtherStamp : Option Addr} {m0_OtherStamp m1_OtherStamp m2_OtherStamp m3_OtherStamp m5_OtherStamp : Option Value}
    (xa_OtherStamp : PySem.W.nsIn K mainGlobals "OtherStamp" = some (some (.ref C_OtherStamp))) (xl_OtherStamp : K.lookup C_OtherStamp = some (excClassObj nm_OtherStamp q_OtherStamp C_OtherStamp N_OtherStamp bs_OtherStamp bm_OtherStamp true sn_OtherStamp sub_OtherStamp ab_OtherStamp col_OtherStamp dd_OtherStamp m0_OtherStamp m1_OtherStamp m2_OtherStamp m3_OtherStamp m5_OtherStamp "ValueError.__new__")) (xr_OtherStamp : PySem.HandSPX.refsVE bm_OtherStamp = true)
    (xs_OtherStamp : PySem.W.findIn K (.ref C_OtherStamp) "__setattr__" = some (some (.builtin "object.__setattr__"))) (xe_OtherStamp : PySem.W.subIn K (.ref C_OtherStamp) (.type "BaseException") = some true) (xt_OtherStamp : PySem.W.typeIn K (.ref C_OtherStamp) = some (.type "type")) (xk_OtherStamp : PySem.W.keepIn K (.ref C_OtherStamp) = true)
    (xn_OtherStamp : PySem.W.findIn K (.ref C_OtherStamp) "at" = some none) (xi_OtherStamp : PySem.W.findIn K (.ref C_OtherStamp) "__init__" = some (some (.ref fI))) (xg_OtherStamp : PySem.W.findIn K (.ref C_OtherStamp) "__getattribute__" = some (some (.builtin "BaseException.__getattribute__"))) (xh_OtherStamp : PySem.W.findIn K (.ref C_OtherStamp) "__getattr__" = some none) (xd_OtherStamp : PySem.W.hasDictIn K C_OtherStamp = true)
    {C_WrongNumber : Addr} {nm_WrongNumber q_WrongNumber : Str} {N_WrongNumber : Addr} {bs_WrongNumber bm_WrongNumber : List Value} {sn_WrongNumber : List Str} {sub_WrongNumber : List Value} {ab_WrongNumber : Bool} {col_WrongNumber : Option Bool} {dd_WrongNumber : Option Addr} {m0_WrongNumber m1_WrongNumber m2_WrongNumber m3_WrongNumber m5_WrongNumber : Option Value}
    (xa_WrongNumber : PySem.W.nsIn K mainGlobals "WrongNumber" = some (some (.ref C_WrongNumber))) (xl_WrongNumber : K.lookup C_WrongNumber = some (excClassObj nm_WrongNumber q_WrongNumber C_WrongNumber N_WrongNumber bs_WrongNumber bm_WrongNumber true sn_WrongNumber sub_WrongNumber ab_WrongNumber col_WrongNumber dd_WrongNumber m0_WrongNumber m1_WrongNumber m2_WrongNumber m3_WrongNumber m5_WrongNumber "ValueError.__new__")) (xr_WrongNumber : PySem.HandSPX.refsVE bm_WrongNumber = true)
    (xs_WrongNumber : PySem.W.findIn K (.ref C_WrongNumber) "__setattr__" = some (some (.builtin "object.__setattr__"))) (xe_WrongNumber : PySem.W.subIn K (.ref C_WrongNumber) (.type "BaseException") = some true) (xt_WrongNumber : PySem.W.typeIn K (.ref C_WrongNumber) = some (.type "type")) (xk_WrongNumber : PySem.W.keepIn K (.ref C_WrongNumber) = true)
    (xn_WrongNumber : PySem.W.findIn K (.ref C_WrongNumber) "at" = some none) (xi_WrongNumber : PySem.W.findIn K (.ref C_WrongNumber) "__init__" = some (some (.ref fI))) (xg_WrongNumber : PySem.W.findIn K (.ref C_WrongNumber) "__getattribute__" = some (some (.builtin "BaseException.__getattribute__"))) (xh_WrongNumber : PySem.W.findIn K (.ref C_WrongNumber) "__getattr__" = some none) (xd_WrongNumber : PySem.W.hasDictIn K C_WrongNumber = true)
    {C_WrongOrder : Addr} {nm_WrongOrder q_WrongOrder : Str} {N_WrongOrder : Addr} {bs_WrongOrder bm_WrongOrder : List Value} {sn_WrongOrder : List Str} {sub_WrongOrder : List Value} {ab_WrongOrder : Bool} {col_WrongOrder : Option Bool} {dd_WrongOrder : Option Addr} {m0_WrongOrder m1_WrongOrder m2_WrongOrder m3_WrongOrder m5_WrongOrder : Option Value}
    (xa_WrongOrder : PySem.W.nsIn K mainGlobals "WrongOrder" = some (some (.ref C_WrongOrder))) (xl_WrongOrder : K.lookup C_WrongOrder = some (excClassObj nm_WrongOrder q_WrongOrder C_WrongOrder N_WrongOrder bs_WrongOrder bm_WrongOrder true sn_WrongOrder sub_WrongOrder ab_WrongOrder col_WrongOrder dd_WrongOrder m0_WrongOrder m1_WrongOrder m2_WrongOrder m3_WrongOrder m5_WrongOrder "ValueError.__new__")) (xr_WrongOrder : PySem.HandSPX.refsVE bm_WrongOrder = true)
    (xs_WrongOrder : PySem.W.findIn K (.ref C_WrongOrder) "__setattr__" = some (some (.builtin "object.__setattr__"))) (xe_WrongOrder : PySem.W.subIn K (.ref C_WrongOrder) (.type "BaseException") = some true) (xt_WrongOrder : PySem.W.typeIn K (.ref C_WrongOrder) = some (.type "type")) (xk_WrongOrder : PySem.W.keepIn K (.ref C_WrongOrder) = true)
    (xn_WrongOrder : PySem.W.findIn K (.ref C_WrongOrder) "at" = some none) (xi_WrongOrder : PySem.W.findIn K (.ref C_WrongOrder) "__init__" = some (some (.ref fI))) (xg_WrongOrder : PySem.W.findIn K (.ref C_WrongOrder) "__getattribute__" = some (some (.builtin "BaseException.__getattribute__"))) (xh_WrongOrder : PySem.W.findIn K (.ref C_WrongOrder) "__getattr__" = some none) (xd_WrongOrder : PySem.W.hasDictIn K C_WrongOrder = true)
    {C_WrongFields : Addr} {nm_WrongFields q_WrongFields : Str} {N_WrongFields : Addr} {bs_WrongFields bm_WrongFields : List Value} {sn_WrongFields : List Str} {sub_WrongFields : List Value} {ab_WrongFields : Bool} {col_WrongFields : Option Bool} {dd_WrongFields : Option Addr} {m0_WrongFields m1_WrongFields m2_WrongFields m3_WrongFields m5_WrongFields : Option Value}
    (xa_WrongFields : PySem.W.nsIn K mainGlobals "WrongFields" = some (some (.ref C_WrongFields))) (xl_WrongFields : K.lookup C_WrongFields = some (excClassObj nm_WrongFields q_WrongFields C_WrongFields N_WrongFields bs_WrongFields bm_WrongFields true sn_WrongFields sub_WrongFields ab_WrongFields col_WrongFields dd_WrongFields m0_WrongFields m1_WrongFields m2_WrongFields m3_WrongFields m5_WrongFields "ValueError.__new__")) (xr_WrongFields : PySem.HandSPX.refsVE bm_WrongFields = true)
    (xs_WrongFields : PySem.W.findIn K (.ref C_WrongFields) "__setattr__" = some (some (.builtin "object.__setattr__"))) (xe_WrongFields : PySem.W.subIn K (.ref C_WrongFields) (.type "BaseException") = some true) (xt_WrongFields : PySem.W.typeIn K (.ref C_WrongFields) = some (.type "type")) (xk_WrongFields : PySem.W.keepIn K (.ref C_WrongFields) = true)
    (xn_WrongFields : PySem.W.findIn K (.ref C_WrongFields) "at" = some none) (xi_WrongFields : PySem.W.findIn K (.ref C_WrongFields) "__init__" = some (some (.ref fI))) (xg_WrongFields : PySem.W.findIn K (.ref C_WrongFields) "__getattribute__" = some (some (.builtin "BaseException.__getattribute__"))) (xh_WrongFields : PySem.W.findIn K (.ref C_WrongFields) "__getattr__" = some none) (xd_WrongFields : PySem.W.hasDictIn K C_WrongFields = true)
    {C_NoTrack : Addr} {nm_NoTrack q_NoTrack : Str} {N_NoTrack : Addr} {bs_NoTrack bm_NoTrack : List Value} {sn_NoTrack : List Str} {sub_NoTrack : List Value} {ab_NoTrack : Bool} {col_NoTrack : Option Bool} {dd_NoTrack : Option Addr} {m0_NoTrack m1_NoTrack m2_NoTrack m3_NoTrack m5_NoTrack : Option Value}
    (xa_NoTrack : PySem.W.nsIn K mainGlobals "NoTrack" = some (some (.ref C_NoTrack))) (xl_NoTrack : K.lookup C_NoTrack = some (excClassObj nm_NoTrack q_NoTrack C_NoTrack N_NoTrack bs_NoTrack bm_NoTrack true sn_NoTrack sub_NoTrack ab_NoTrack col_NoTrack dd_NoTrack m0_NoTrack m1_NoTrack m2_NoTrack m3_NoTrack m5_NoTrack "ValueError.__new__")) (xr_NoTrack : PySem.HandSPX.refsVE bm_NoTrack = true)
    (xs_NoTrack : PySem.W.findIn K (.ref C_NoTrack) "__setattr__" = some (some (.builtin "object.__setattr__"))) (xe_NoTrack : PySem.W.subIn K (.ref C_NoTrack) (.type "BaseException") = some true) (xt_NoTrack : PySem.W.typeIn K (.ref C_NoTrack) = some (.type "type")) (xk_NoTrack : PySem.W.keepIn K (.ref C_NoTrack) = true)
    (xn_NoTrack : PySem.W.findIn K (.ref C_NoTrack) "at" = some none) (xi_NoTrack : PySem.W.findIn K (.ref C_NoTrack) "__init__" = some (some (.ref fI))) (xg_NoTrack : PySem.W.findIn K (.ref C_NoTrack) "__getattribute__" = some (some (.builtin "BaseException.__getattribute__"))) (xh_NoTrack : PySem.W.findIn K (.ref C_NoTrack) "__getattr__" = some none) (xd_NoTrack : PySem.W.hasDictIn K C_NoTrack = true)
    {C_TooManyUnits : Addr} {nm_TooManyUnits q_TooManyUnits : Str} {N_TooManyUnits : Addr} {bs_TooManyUnits bm_TooManyUnits : List Value} {sn_TooManyUnits : List Str} {sub_TooManyUnits : List Value} {ab_TooManyUnits : Bool} {col_TooManyUnits : Option Bool} {dd_TooManyUnits : Option Addr} {m0_TooManyUnits m1_TooManyUnits m2_TooManyUnits m3_TooManyUnits m5_TooManyUnits : Option Value}
    (xa_TooManyUnits : PySem.W.nsIn K mainGlobals "TooManyUnits" = some (some (.ref C_TooManyUnits))) (xl_TooManyUnits : K.lookup C_TooManyUnits = some (excClassObj nm_TooManyUnits q_TooManyUnits C_TooManyUnits N_TooManyUnits bs_TooManyUnits bm_TooManyUnits true sn_TooManyUnits sub_TooManyUnits ab_TooManyUnits col_TooManyUnits dd_TooManyUnits m0_TooManyUnits m1_TooManyUnits m2_TooManyUnits m3_TooManyUnits m5_TooManyUnits "ValueError.__new__")) (xr_TooManyUnits : PySem.HandSPX.refsVE bm_TooManyUnits = true)
    (xs_TooManyUnits : PySem.W.findIn K (.ref C_TooManyUnits) "__setattr__" = some (some (.builtin "object.__setattr__"))) (xe_TooManyUnits : PySem.W.subIn K (.ref C_TooManyUnits) (.type "BaseException") = some true) (xt_TooManyUnits : PySem.W.typeIn K (.ref C_TooManyUnits) = some (.type "type")) (xk_TooManyUnits : PySem.W.keepIn K (.ref C_TooManyUnits) = true)
    (xn_TooManyUnits : PySem.W.findIn K (.ref C_TooManyUnits) "at" = some none) (xi_TooManyUnits : PySem.W.findIn K (.ref C_TooManyUnits) "__init__" = some (some (.ref fI))) (xg_TooManyUnits : PySem.W.findIn K (.ref C_TooManyUnits) "__getattribute__" = some (some (.builtin "BaseException.__getattribute__"))) (xh_TooManyUnits : PySem.W.findIn K (.ref C_TooManyUnits) "__getattr__" = some none) (xd_TooManyUnits : PySem.W.hasDictIn K C_TooManyUnits = true)
    {C_WrongOrdinal : Addr} {nm_WrongOrdinal q_WrongOrdinal : Str} {N_WrongOrdinal : Addr} {bs_WrongOrdinal bm_WrongOrdinal : List Value} {sn_WrongOrdinal : List Str} {sub_WrongOrdinal : List Value} {ab_WrongOrdinal : Bool} {col_WrongOrdinal : Option Bool} {dd_WrongOrdinal : Option Addr} {m0_WrongOrdinal m1_WrongOrdinal m2_WrongOrdinal m3_WrongOrdinal m5_WrongOrdinal : Option Value}
    (xa_WrongOrdinal : PySem.W.nsIn K mainGlobals "WrongOrdinal" = some (some (.ref C_WrongOrdinal))) (xl_WrongOrdinal : K.lookup C_WrongOrdinal = some (excClassObj nm_WrongOrdinal q_WrongOrdinal C_WrongOrdinal N_WrongOrdinal bs_WrongOrdinal bm_WrongOrdinal true sn_WrongOrdinal sub_WrongOrdinal ab_WrongOrdinal col_WrongOrdinal dd_WrongOrdinal m0_WrongOrdinal m1_WrongOrdinal m2_WrongOrdinal m3_WrongOrdinal m5_WrongOrdinal "ValueError.__new__")) (xr_WrongOrdinal : PySem.HandSPX.refsVE bm_WrongOrdinal = true)
    (xs_WrongOrdinal : PySem.W.findIn K (.ref C_WrongOrdinal) "__setattr__" = some (some (.builtin "object.__setattr__"))) (xe_WrongOrdinal : PySem.W.subIn K (.ref C_WrongOrdinal) (.type "BaseException") = some true) (xt_WrongOrdinal : PySem.W.typeIn K (.ref C_WrongOrdinal) = some (.type "type")) (xk_WrongOrdinal : PySem.W.keepIn K (.ref C_WrongOrdinal) = true)
    (xn_WrongOrdinal : PySem.W.findIn K (.ref C_WrongOrdinal) "at" = some none) (xi_WrongOrdinal : PySem.W.findIn K (.ref C_WrongOrdinal) "__init__" = some (some (.ref fI))) (xg_WrongOrdinal : PySem.W.findIn K (.ref C_WrongOrdinal) "__getattribute__" = some (some (.builtin "BaseException.__getattribute__"))) (xh_WrongOrdinal : PySem.W.findIn K (.ref C_WrongOrdinal) "__getattr__" = some none) (xd_WrongOrdinal : PySem.W.hasDictIn K C_WrongOrdinal = true)
    {C_WrongTime : Addr} {nm_WrongTime q_WrongTime : Str} {N_WrongTime : Addr} {bs_WrongTime bm_WrongTime : List Value} {sn_WrongTime : List Str} {sub_WrongTime : List Value} {ab_WrongTime : Bool} {col_WrongTime : Option Bool} {dd_WrongTime : Option Addr} {m0_WrongTime m1_WrongTime m2_WrongTime m3_WrongTime m5_WrongTime : Option Value}
    (xa_WrongTime : PySem.W.nsIn K mainGlobals "WrongTime" = some (some (.ref C_WrongTime))) (xl_WrongTime : K.lookup C_WrongTime = some (excClassObj nm_WrongTime q_WrongTime C_WrongTime N_WrongTime bs_WrongTime bm_WrongTime true sn_WrongTime sub_WrongTime ab_WrongTime col_WrongTime dd_WrongTime m0_WrongTime m1_WrongTime m2_WrongTime m3_WrongTime m5_WrongTime "ValueError.__new__")) (xr_WrongTime : PySem.HandSPX.refsVE bm_WrongTime = true)
    (xs_WrongTime : PySem.W.findIn K (.ref C_WrongTime) "__setattr__" = some (some (.builtin "object.__setattr__"))) (xe_WrongTime : PySem.W.subIn K (.ref C_WrongTime) (.type "BaseException") = some true) (xt_WrongTime : PySem.W.typeIn K (.ref C_WrongTime) = some (.type "type")) (xk_WrongTime : PySem.W.keepIn K (.ref C_WrongTime) = true)
    (xn_WrongTime : PySem.W.findIn K (.ref C_WrongTime) "at" = some none) (xi_WrongTime : PySem.W.findIn K (.ref C_WrongTime) "__init__" = some (some (.ref fI))) (xg_WrongTime : PySem.W.findIn K (.ref C_WrongTime) "__getattribute__" = some (some (.builtin "BaseException.__getattribute__"))) (xh_WrongTime : PySem.W.findIn K (.ref C_WrongTime) "__getattr__" = some none) (xd_WrongTime : PySem.W.hasDictIn K C_WrongTime = true)
    {C_WrongKey : Addr} {nm_WrongKey q_WrongKey : Str} {N_WrongKey : Addr} {bs_WrongKey bm_WrongKey : List Value} {sn_WrongKey : List Str} {sub_WrongKey : List Value} {ab_WrongKey : Bool} {col_WrongKey : Option Bool} {dd_WrongKey : Option Addr} {m0_WrongKey m1_WrongKey m2_WrongKey m3_WrongKey m5_WrongKey : Option Value}
    (xa_WrongKey : PySem.W.nsIn K mainGlobals "WrongKey" = some (some (.ref C_WrongKey))) (xl_WrongKey : K.lookup C_WrongKey = some (excClassObj nm_WrongKey q_WrongKey C_WrongKey N_WrongKey bs_WrongKey bm_WrongKey true sn_WrongKey sub_WrongKey ab_WrongKey col_WrongKey dd_WrongKey m0_WrongKey m1_WrongKey m2_WrongKey m3_WrongKey m5_WrongKey "ValueError.__new__")) (xr_WrongKey : PySem.HandSPX.refsVE bm_WrongKey = true)
    (xs_WrongKey : PySem.W.findIn K (.ref C_WrongKey) "__setattr__" = some (some (.builtin "object.__setattr__"))) (xe_WrongKey : PySem.W.subIn K (.ref C_WrongKey) (.type "BaseException") = some true) (xt_WrongKey : PySem.W.typeIn K (.ref C_WrongKey) = some (.type "type")) (xk_WrongKey : PySem.W.keepIn K (.ref C_WrongKey) = true)
    (xn_WrongKey : PySem.W.findIn K (.ref C_WrongKey) "at" = some none) (xi_WrongKey : PySem.W.findIn K (.ref C_WrongKey) "__init__" = some (some (.ref fI))) (xg_WrongKey : PySem.W.findIn K (.ref C_WrongKey) "__getattribute__" = some (some (.builtin "BaseException.__getattribute__"))) (xh_WrongKey : PySem.W.findIn K (.ref C_WrongKey) "__getattr__" = some none) (xd_WrongKey : PySem.W.hasDictIn K C_WrongKey = true)
    {C_WrongEntry : Addr} {nm_WrongEntry q_WrongEntry : Str} {N_WrongEntry : Addr} {bs_WrongEntry bm_WrongEntry : List Value} {sn_WrongEntry : List Str} {sub_WrongEntry : List Value} {ab_WrongEntry : Bool} {col_WrongEntry : Option Bool} {dd_WrongEntry : Option Addr} {m0_WrongEntry m1_WrongEntry m2_WrongEntry m3_WrongEntry m5_WrongEntry : Option Value}
    (xa_WrongEntry : PySem.W.nsIn K mainGlobals "WrongEntry" = some (some (.ref C_WrongEntry))) (xl_WrongEntry : K.lookup C_WrongEntry = some (excClassObj nm_WrongEntry q_WrongEntry C_WrongEntry N_WrongEntry bs_WrongEntry bm_WrongEntry true sn_WrongEntry sub_WrongEntry ab_WrongEntry col_WrongEntry dd_WrongEntry m0_WrongEntry m1_WrongEntry m2_WrongEntry m3_WrongEntry m5_WrongEntry "ValueError.__new__")) (xr_WrongEntry : PySem.HandSPX.refsVE bm_WrongEntry = true)
    (xs_WrongEntry : PySem.W.findIn K (.ref C_WrongEntry) "__setattr__" = some (some (.builtin "object.__setattr__"))) (xe_WrongEntry : PySem.W.subIn K (.ref C_WrongEntry) (.type "BaseException") = some true) (xt_WrongEntry : PySem.W.typeIn K (.ref C_WrongEntry) = some (.type "type")) (xk_WrongEntry : PySem.W.keepIn K (.ref C_WrongEntry) = true)
    (xn_WrongEntry : PySem.W.findIn K (.ref C_WrongEntry) "at" = some none) (xi_WrongEntry : PySem.W.findIn K (.ref C_WrongEntry) "__init__" = some (some (.ref fI))) (xg_WrongEntry : PySem.W.findIn K (.ref C_WrongEntry) "__getattribute__" = some (some (.builtin "BaseException.__getattribute__"))) (xh_WrongEntry : PySem.W.findIn K (.ref C_WrongEntry) "__getattr__" = some none) (xd_WrongEntry : PySem.W.hasDictIn K C_WrongEntry = true)
    {C_WrongCount : Addr} {nm_WrongCount q_WrongCount : Str} {N_WrongCount : Addr} {bs_WrongCount bm_WrongCount : List Value} {sn_WrongCount : List Str} {sub_WrongCount : List Value} {ab_WrongCount : Bool} {col_WrongCount : Option Bool} {dd_WrongCount : Option Addr} {m0_WrongCount m1_WrongCount m2_WrongCount m3_WrongCount m5_WrongCount : Option Value}
    (xa_WrongCount : PySem.W.nsIn K mainGlobals "WrongCount" = some (some (.ref C_WrongCount))) (xl_WrongCount : K.lookup C_WrongCount = some (excClassObj nm_WrongCount q_WrongCount C_WrongCount N_WrongCount bs_WrongCount bm_WrongCount true sn_WrongCount sub_WrongCount ab_WrongCount col_WrongCount dd_WrongCount m0_WrongCount m1_WrongCount m2_WrongCount m3_WrongCount m5_WrongCount "ValueError.__new__")) (xr_WrongCount : PySem.HandSPX.refsVE bm_WrongCount = true)
    (xs_WrongCount : PySem.W.findIn K (.ref C_WrongCount) "__setattr__" = some (some (.builtin "object.__setattr__"))) (xe_WrongCount : PySem.W.subIn K (.ref C_WrongCount) (.type "BaseException") = some true) (xt_WrongCount : PySem.W.typeIn K (.ref C_WrongCount) = some (.type "type")) (xk_WrongCount : PySem.W.keepIn K (.ref C_WrongCount) = true)
    (xn_WrongCount : PySem.W.findIn K (.ref C_WrongCount) "at" = some none) (xi_WrongCount : PySem.W.findIn K (.ref C_WrongCount) "__init__" = some (some (.ref fI))) (xg_WrongCount : PySem.W.findIn K (.ref C_WrongCount) "__getattribute__" = some (some (.builtin "BaseException.__getattribute__"))) (xh_WrongCount : PySem.W.findIn K (.ref C_WrongCount) "__getattr__" = some none) (xd_WrongCount : PySem.W.hasDictIn K C_WrongCount = true)
    {C_WrongSum : Addr} {nm_WrongSum q_WrongSum : Str} {N_WrongSum : Addr} {bs_WrongSum bm_WrongSum : List Value} {sn_WrongSum : List Str} {sub_WrongSum : List Value} {ab_WrongSum : Bool} {col_WrongSum : Option Bool} {dd_WrongSum : Option Addr} {m0_WrongSum m1_WrongSum m2_WrongSum m3_WrongSum m5_WrongSum : Option Value}
    (xa_WrongSum : PySem.W.nsIn K mainGlobals "WrongSum" = some (some (.ref C_WrongSum))) (xl_WrongSum : K.lookup C_WrongSum = some (excClassObj nm_WrongSum q_WrongSum C_WrongSum N_WrongSum bs_WrongSum bm_WrongSum true sn_WrongSum sub_WrongSum ab_WrongSum col_WrongSum dd_WrongSum m0_WrongSum m1_WrongSum m2_WrongSum m3_WrongSum m5_WrongSum "ValueError.__new__")) (xr_WrongSum : PySem.HandSPX.refsVE bm_WrongSum = true)
    (xs_WrongSum : PySem.W.findIn K (.ref C_WrongSum) "__setattr__" = some (some (.builtin "object.__setattr__"))) (xe_WrongSum : PySem.W.subIn K (.ref C_WrongSum) (.type "BaseException") = some true) (xt_WrongSum : PySem.W.typeIn K (.ref C_WrongSum) = some (.type "type")) (xk_WrongSum : PySem.W.keepIn K (.ref C_WrongSum) = true)
    (xn_WrongSum : PySem.W.findIn K (.ref C_WrongSum) "at" = some none) (xi_WrongSum : PySem.W.findIn K (.ref C_WrongSum) "__init__" = some (some (.ref fI))) (xg_WrongSum : PySem.W.findIn K (.ref C_WrongSum) "__getattribute__" = some (some (.builtin "BaseException.__getattribute__"))) (xh_WrongSum : PySem.W.findIn K (.ref C_WrongSum) "__getattr__" = some none) (xd_WrongSum : PySem.W.hasDictIn K C_WrongSum = true)
    {C_MissingUnits : Addr} {nm_MissingUnits q_MissingUnits : Str} {N_MissingUnits : Addr} {bs_MissingUnits bm_MissingUnits : List Value} {sn_MissingUnits : List Str} {sub_MissingUnits : List Value} {ab_MissingUnits : Bool} {col_MissingUnits : Option Bool} {dd_MissingUnits : Option Addr} {m0_MissingUnits m1_MissingUnits m2_MissingUnits m3_MissingUnits m5_MissingUnits : Option Value}
    (xa_MissingUnits : PySem.W.nsIn K mainGlobals "MissingUnits" = some (some (.ref C_MissingUnits))) (xl_MissingUnits : K.lookup C_MissingUnits = some (excClassObj nm_MissingUnits q_MissingUnits C_MissingUnits N_MissingUnits bs_MissingUnits bm_MissingUnits true sn_MissingUnits sub_MissingUnits ab_MissingUnits col_MissingUnits dd_MissingUnits m0_MissingUnits m1_MissingUnits m2_MissingUnits m3_MissingUnits m5_MissingUnits "ValueError.__new__")) (xr_MissingUnits : PySem.HandSPX.refsVE bm_MissingUnits = true)
    (xs_MissingUnits : PySem.W.findIn K (.ref C_MissingUnits) "__setattr__" = some (some (.builtin "object.__setattr__"))) (xe_MissingUnits : PySem.W.subIn K (.ref C_MissingUnits) (.type "BaseException") = some true) (xt_MissingUnits : PySem.W.typeIn K (.ref C_MissingUnits) = some (.type "type")) (xk_MissingUnits : PySem.W.keepIn K (.ref C_MissingUnits) = true)
    (xn_MissingUnits : PySem.W.findIn K (.ref C_MissingUnits) "at" = some none) (xi_MissingUnits : PySem.W.findIn K (.ref C_MissingUnits) "__init__" = some (some (.ref fI))) (xg_MissingUnits : PySem.W.findIn K (.ref C_MissingUnits) "__getattribute__" = some (some (.builtin "BaseException.__getattribute__"))) (xh_MissingUnits : PySem.W.findIn K (.ref C_MissingUnits) "__getattr__" = some none) (xd_MissingUnits : PySem.W.hasDictIn K C_MissingUnits = true)
    {C_Behind : Addr} {nm_Behind q_Behind : Str} {N_Behind : Addr} {bs_Behind bm_Behind : List Value} {sn_Behind : List Str} {sub_Behind : List Value} {ab_Behind : Bool} {col_Behind : Option Bool} {dd_Behind : Option Addr} {m0_Behind m1_Behind m2_Behind m3_Behind m5_Behind : Option Value}
    (xa_Behind : PySem.W.nsIn K mainGlobals "Behind" = some (some (.ref C_Behind))) (xl_Behind : K.lookup C_Behind = some (excClassObj nm_Behind q_Behind C_Behind N_Behind bs_Behind bm_Behind true sn_Behind sub_Behind ab_Behind col_Behind dd_Behind m0_Behind m1_Behind m2_Behind m3_Behind m5_Behind "ValueError.__new__")) (xr_Behind : PySem.HandSPX.refsVE bm_Behind = true)
    (xs_Behind : PySem.W.findIn K (.ref C_Behind) "__setattr__" = some (some (.builtin "object.__setattr__"))) (xe_Behind : PySem.W.subIn K (.ref C_Behind) (.type "BaseException") = some true) (xt_Behind : PySem.W.typeIn K (.ref C_Behind) = some (.type "type")) (xk_Behind : PySem.W.keepIn K (.ref C_Behind) = true)
    (xn_Behind : PySem.W.findIn K (.ref C_Behind) "at" = some none) (xi_Behind : PySem.W.findIn K (.ref C_Behind) "__init__" = some (some (.ref fI))) (xg_Behind : PySem.W.findIn K (.ref C_Behind) "__getattribute__" = some (some (.builtin "BaseException.__getattribute__"))) (xh_Behind : PySem.W.findIn K (.ref C_Behind) "__getattr__" = some none) (xd_Behind : PySem.W.hasDictIn K C_Behind = true)
    {C_NoEnd : Addr} {nm_NoEnd q_NoEnd : Str} {N_NoEnd : Addr} {bs_NoEnd bm_NoEnd : List Value} {sn_NoEnd : List Str} {sub_NoEnd : List Value} {ab_NoEnd : Bool} {col_NoEnd : Option Bool} {dd_NoEnd : Option Addr} {m0_NoEnd m1_NoEnd m2_NoEnd m3_NoEnd m5_NoEnd : Option Value}
    (xa_NoEnd : PySem.W.nsIn K mainGlobals "NoEnd" = some (some (.ref C_NoEnd))) (xl_NoEnd : K.lookup C_NoEnd = some (excClassObj nm_NoEnd q_NoEnd C_NoEnd N_NoEnd bs_NoEnd bm_NoEnd true sn_NoEnd sub_NoEnd ab_NoEnd col_NoEnd dd_NoEnd m0_NoEnd m1_NoEnd m2_NoEnd m3_NoEnd m5_NoEnd "ValueError.__new__")) (xr_NoEnd : PySem.HandSPX.refsVE bm_NoEnd = true)
    (xs_NoEnd : PySem.W.findIn K (.ref C_NoEnd) "__setattr__" = some (some (.builtin "object.__setattr__"))) (xe_NoEnd : PySem.W.subIn K (.ref C_NoEnd) (.type "BaseException") = some true) (xt_NoEnd : PySem.W.typeIn K (.ref C_NoEnd) = some (.type "type")) (xk_NoEnd : PySem.W.keepIn K (.ref C_NoEnd) = true)
    (xn_NoEnd : PySem.W.findIn K (.ref C_NoEnd) "at" = some none) (xi_NoEnd : PySem.W.findIn K (.ref C_NoEnd) "__init__" = some (some (.ref fI))) (xg_NoEnd : PySem.W.findIn K (.ref C_NoEnd) "__getattribute__" = some (some (.builtin "BaseException.__getattribute__"))) (xh_NoEnd : PySem.W.findIn K (.ref C_NoEnd) "__getattr__" = some none) (xd_NoEnd : PySem.W.hasDictIn K C_NoEnd = true)
    {C_NotAlike : Addr} {nm_NotAlike q_NotAlike : Str} {N_NotAlike : Addr} {bs_NotAlike bm_NotAlike : List Value} {sn_NotAlike : List Str} {sub_NotAlike : List Value} {ab_NotAlike : Bool} {col_NotAlike : Option Bool} {dd_NotAlike : Option Addr} {m0_NotAlike m1_NotAlike m2_NotAlike m3_NotAlike m5_NotAlike : Option Value}
    (xa_NotAlike : PySem.W.nsIn K mainGlobals "NotAlike" = some (some (.ref C_NotAlike))) (xl_NotAlike : K.lookup C_NotAlike = some (excClassObj nm_NotAlike q_NotAlike C_NotAlike N_NotAlike bs_NotAlike bm_NotAlike true sn_NotAlike sub_NotAlike ab_NotAlike col_NotAlike dd_NotAlike m0_NotAlike m1_NotAlike m2_NotAlike m3_NotAlike m5_NotAlike "ValueError.__new__")) (xr_NotAlike : PySem.HandSPX.refsVE bm_NotAlike = true)
    (xs_NotAlike : PySem.W.findIn K (.ref C_NotAlike) "__setattr__" = some (some (.builtin "object.__setattr__"))) (xe_NotAlike : PySem.W.subIn K (.ref C_NotAlike) (.type "BaseException") = some true) (xt_NotAlike : PySem.W.typeIn K (.ref C_NotAlike) = some (.type "type")) (xk_NotAlike : PySem.W.keepIn K (.ref C_NotAlike) = true)
    (xn_NotAlike : PySem.W.findIn K (.ref C_NotAlike) "at" = some none) (xi_NotAlike : PySem.W.findIn K (.ref C_NotAlike) "__init__" = some (some (.ref fI))) (xg_NotAlike : PySem.W.findIn K (.ref C_NotAlike) "__getattribute__" = some (some (.builtin "BaseException.__getattribute__"))) (xh_NotAlike : PySem.W.findIn K (.ref C_NotAlike) "__getattr__" = some none) (xd_NotAlike : PySem.W.hasDictIn K C_NotAlike = true)
    {C_HasSkip : Addr} {nm_HasSkip q_HasSkip : Str} {N_HasSkip : Addr} {bs_HasSkip bm_HasSkip : List Value} {sn_HasSkip : List Str} {sub_HasSkip : List Value} {ab_HasSkip : Bool} {col_HasSkip : Option Bool} {dd_HasSkip : Option Addr} {m0_HasSkip m1_HasSkip m2_HasSkip m3_HasSkip m5_HasSkip : Option Value}
    (xa_HasSkip : PySem.W.nsIn K mainGlobals "HasSkip" = some (some (.ref C_HasSkip))) (xl_HasSkip : K.lookup C_HasSkip = some (excClassObj nm_HasSkip q_HasSkip C_HasSkip N_HasSkip bs_HasSkip bm_HasSkip true sn_HasSkip sub_HasSkip ab_HasSkip col_HasSkip dd_HasSkip m0_HasSkip m1_HasSkip m2_HasSkip m3_HasSkip m5_HasSkip "ValueError.__new__")) (xr_HasSkip : PySem.HandSPX.refsVE bm_HasSkip = true)
    (xs_HasSkip : PySem.W.findIn K (.ref C_HasSkip) "__setattr__" = some (some (.builtin "object.__setattr__"))) (xe_HasSkip : PySem.W.subIn K (.ref C_HasSkip) (.type "BaseException") = some true) (xt_HasSkip : PySem.W.typeIn K (.ref C_HasSkip) = some (.type "type")) (xk_HasSkip : PySem.W.keepIn K (.ref C_HasSkip) = true)
    (xn_HasSkip : PySem.W.findIn K (.ref C_HasSkip) "at" = some none) (xi_HasSkip : PySem.W.findIn K (.ref C_HasSkip) "__init__" = some (some (.ref fI))) (xg_HasSkip : PySem.W.findIn K (.ref C_HasSkip) "__getattribute__" = some (some (.builtin "BaseException.__getattribute__"))) (xh_HasSkip : PySem.W.findIn K (.ref C_HasSkip) "__getattr__" = some none) (xd_HasSkip : PySem.W.hasDictIn K C_HasSkip = true)
    {C_TooLong : Addr} {nm_TooLong q_TooLong : Str} {N_TooLong : Addr} {bs_TooLong bm_TooLong : List Value} {sn_TooLong : List Str} {sub_TooLong : List Value} {ab_TooLong : Bool} {col_TooLong : Option Bool} {dd_TooLong : Option Addr} {m0_TooLong m1_TooLong m2_TooLong m3_TooLong m5_TooLong : Option Value}
    (xa_TooLong : PySem.W.nsIn K mainGlobals "TooLong" = some (some (.ref C_TooLong))) (xl_TooLong : K.lookup C_TooLong = some (excClassObj nm_TooLong q_TooLong C_TooLong N_TooLong bs_TooLong bm_TooLong true sn_TooLong sub_TooLong ab_TooLong col_TooLong dd_TooLong m0_TooLong m1_TooLong m2_TooLong m3_TooLong m5_TooLong "ValueError.__new__")) (xr_TooLong : PySem.HandSPX.refsVE bm_TooLong = true)
    (xs_TooLong : PySem.W.findIn K (.ref C_TooLong) "__setattr__" = some (some (.builtin "object.__setattr__"))) (xe_TooLong : PySem.W.subIn K (.ref C_TooLong) (.type "BaseException") = some true) (xt_TooLong : PySem.W.typeIn K (.ref C_TooLong) = some (.type "type")) (xk_TooLong : PySem.W.keepIn K (.ref C_TooLong) = true)
    (xn_TooLong : PySem.W.findIn K (.ref C_TooLong) "at" = some none) (xi_TooLong : PySem.W.findIn K (.ref C_TooLong) "__init__" = some (some (.ref fI))) (xg_TooLong : PySem.W.findIn K (.ref C_TooLong) "__getattribute__" = some (some (.builtin "BaseException.__getattribute__"))) (xh_TooLong : PySem.W.findIn K (.ref C_TooLong) "__getattr__" = some none) (xd_TooLong : PySem.W.hasDictIn K C_TooLong = true)
    {C_NoHead : Addr} {nm_NoHead q_NoHead : Str} {N_NoHead : Addr} {bs_NoHead bm_NoHead : List Value} {sn_NoHead : List Str} {sub_NoHead : List Value} {ab_NoHead : Bool} {col_NoHead : Option Bool} {dd_NoHead : Option Addr} {m0_NoHead m1_NoHead m2_NoHead m3_NoHead m5_NoHead : Option Value}
    (xa_NoHead : PySem.W.nsIn K mainGlobals "NoHead" = some (some (.ref C_NoHead))) (xl_NoHead : K.lookup C_NoHead = some (excClassObj nm_NoHead q_NoHead C_NoHead N_NoHead bs_NoHead bm_NoHead true sn_NoHead sub_NoHead ab_NoHead col_NoHead dd_NoHead m0_NoHead m1_NoHead m2_NoHead m3_NoHead m5_NoHead "ValueError.__new__")) (xr_NoHead : PySem.HandSPX.refsVE bm_NoHead = true)
    (xs_NoHead : PySem.W.findIn K (.ref C_NoHead) "__setattr__" = some (some (.builtin "object.__setattr__"))) (xe_NoHead : PySem.W.subIn K (.ref C_NoHead) (.type "BaseException") = some true) (xt_NoHead : PySem.W.typeIn K (.ref C_NoHead) = some (.type "type")) (xk_NoHead : PySem.W.keepIn K (.ref C_NoHead) = true)
    (xn_NoHead : PySem.W.findIn K (.ref C_NoHead) "at" = some none) (xi_NoHead : PySem.W.findIn K (.ref C_NoHead) "__init__" = some (some (.ref fI))) (xg_NoHead : PySem.W.findIn K (.ref C_NoHead) "__getattribute__" = some (some (.builtin "BaseException.__getattribute__"))) (xh_NoHead : PySem.W.findIn K (.ref C_NoHead) "__getattr__" = some none) (xd_NoHead : PySem.W.hasDictIn K C_NoHead = true)
    {C_TooManyTags : Addr} {nm_TooManyTags q_TooManyTags : Str} {N_TooManyTags : Addr} {bs_TooManyTags bm_TooManyTags : List Value} {sn_TooManyTags : List Str} {sub_TooManyTags : List Value} {ab_TooManyTags : Bool} {col_TooManyTags : Option Bool} {dd_TooManyTags : Option Addr} {m0_TooManyTags m1_TooManyTags m2_TooManyTags m3_TooManyTags m5_TooManyTags : Option Value}
    (xa_TooManyTags : PySem.W.nsIn K mainGlobals "TooManyTags" = some (some (.ref C_TooManyTags))) (xl_TooManyTags : K.lookup C_TooManyTags = some (excClassObj nm_TooManyTags q_TooManyTags C_TooManyTags N_TooManyTags bs_TooManyTags bm_TooManyTags true sn_TooManyTags sub_TooManyTags ab_TooManyTags col_TooManyTags dd_TooManyTags m0_TooManyTags m1_TooManyTags m2_TooManyTags m3_TooManyTags m5_TooManyTags "ValueError.__new__")) (xr_TooManyTags : PySem.HandSPX.refsVE bm_TooManyTags = true)
    (xs_TooManyTags : PySem.W.findIn K (.ref C_TooManyTags) "__setattr__" = some (some (.builtin "object.__setattr__"))) (xe_TooManyTags : PySem.W.subIn K (.ref C_TooManyTags) (.type "BaseException") = some true) (xt_TooManyTags : PySem.W.typeIn K (.ref C_TooManyTags) = some (.type "type")) (xk_TooManyTags : PySem.W.keepIn K (.ref C_TooManyTags) = true)
    (xn_TooManyTags : PySem.W.findIn K (.ref C_TooManyTags) "at" = some none) (xi_TooManyTags : PySem.W.findIn K (.ref C_TooManyTags) "__init__" = some (some (.ref fI))) (xg_TooManyTags : PySem.W.findIn K (.ref C_TooManyTags) "__getattribute__" = some (some (.builtin "BaseException.__getattribute__"))) (xh_TooManyTags : PySem.W.findIn K (.ref C_TooManyTags) "__getattr__" = some none) (xd_TooManyTags : PySem.W.hasDictIn K C_TooManyTags = true)
    {C_SpoolboxError : Addr} {nm_SpoolboxError q_SpoolboxError : Str} {N_SpoolboxError : Addr} {bs_SpoolboxError bm_SpoolboxError : List Value} {sn_SpoolboxError : List Str} {sub_SpoolboxError : List Value} {ab_SpoolboxError : Bool} {col_SpoolboxError : Option Bool} {dd_SpoolboxError : Option Addr} {m0_SpoolboxError m1_SpoolboxError m2_SpoolboxError m3_SpoolboxError m5_SpoolboxError : Option Value}
    (xa_SpoolboxError : PySem.W.nsIn K mainGlobals "SpoolboxError" = some (some (.ref C_SpoolboxError))) (xl_SpoolboxError : K.lookup C_SpoolboxError = some (excClassObj nm_SpoolboxError q_SpoolboxError C_SpoolboxError N_SpoolboxError bs_SpoolboxError bm_SpoolboxError true sn_SpoolboxError sub_SpoolboxError ab_SpoolboxError col_SpoolboxError dd_SpoolboxError m0_SpoolboxError m1_SpoolboxError m2_SpoolboxError m3_SpoolboxError m5_SpoolboxError "ValueError.__new__")) (xr_SpoolboxError : PySem.HandSPX.refsVE bm_SpoolboxError = true)
    (xs_SpoolboxError : PySem.W.findIn K (.ref C_SpoolboxError) "__setattr__" = some (some (.builtin "object.__setattr__"))) (xe_SpoolboxError : PySem.W.subIn K (.ref C_SpoolboxError) (.type "BaseException") = some true) (xt_SpoolboxError : PySem.W.typeIn K (.ref C_SpoolboxError) = some (.type "type")) (xk_SpoolboxError : PySem.W.keepIn K (.ref C_SpoolboxError) = true)
    (xn_SpoolboxError : PySem.W.findIn K (.ref C_SpoolboxError) "at" = some none) (xi_SpoolboxError : PySem.W.findIn K (.ref C_SpoolboxError) "__init__" = some (some (.ref fI))) (xg_SpoolboxError : PySem.W.findIn K (.ref C_SpoolboxError) "__getattribute__" = some (some (.builtin "BaseException.__getattribute__"))) (xh_SpoolboxError : PySem.W.findIn K (.ref C_SpoolboxError) "__getattr__" = some none) (xd_SpoolboxError : PySem.W.hasDictIn K C_SpoolboxError = true)
    (yn : PySem.W.specialIn K (.builtin "object.__class__") "__get__" = some (some (.builtin "getset_descriptor.__get__"))) (yt : PySem.W.takesIn K (.builtin "object.__class__") = some true)
    (xc_SpoolboxError : PySem.W.findIn K (.ref C_SpoolboxError) "__class__" = some (some (.builtin "object.__class__"))) (xm_SpoolboxError : PySem.W.mroIn K C_SpoolboxError (.type "object") = some true)
    (xc_OutOfRange : PySem.W.findIn K (.ref C_OutOfRange) "__class__" = some (some (.builtin "object.__class__"))) (xm_OutOfRange : PySem.W.mroIn K C_OutOfRange (.type "object") = some true)
    (xc_LooseNumber : PySem.W.findIn K (.ref C_LooseNumber) "__class__" = some (some (.builtin "object.__class__"))) (xm_LooseNumber : PySem.W.mroIn K C_LooseNumber (.type "object") = some true)
    (xc_Truncated : PySem.W.findIn K (.ref C_Truncated) "__class__" = some (some (.builtin "object.__class__"))) (xm_Truncated : PySem.W.mroIn K C_Truncated (.type "object") = some true)
    (xc_BadStuffing : PySem.W.findIn K (.ref C_BadStuffing) "__class__" = some (some (.builtin "object.__class__"))) (xm_BadStuffing : PySem.W.mroIn K C_BadStuffing (.type "object") = some true)
    (xc_BadKind : PySem.W.findIn K (.ref C_BadKind) "__class__" = some (some (.builtin "object.__class__"))) (xm_BadKind : PySem.W.mroIn K C_BadKind (.type "object") = some true)
    (xc_BadStamp : PySem.W.findIn K (.ref C_BadStamp) "__class__" = some (some (.builtin "object.__class__"))) (xm_BadStamp : PySem.W.mroIn K C_BadStamp (.type "object") = some true)
    (xc_BadNumber : PySem.W.findIn K (.ref C_BadNumber) "__class__" = some (some (.builtin "object.__class__"))) (xm_BadNumber : PySem.W.mroIn K C_BadNumber (.type "object") = some true)
    (xc_BadTrack : PySem.W.findIn K (.ref C_BadTrack) "__class__" = some (some (.builtin "object.__class__"))) (xm_BadTrack : PySem.W.mroIn K C_BadTrack (.type "object") = some true)
    (xc_BadOrdinal : PySem.W.findIn K (.ref C_BadOrdinal) "__class__" = some (some (.builtin "object.__class__"))) (xm_BadOrdinal : PySem.W.mroIn K C_BadOrdinal (.type "object") = some true)
    (xc_BadTime : PySem.W.findIn K (.ref C_BadTime) "__class__" = some (some (.builtin "object.__class__"))) (xm_BadTime : PySem.W.mroIn K C_BadTime (.type "object") = some true)
    (xc_BadSpan : PySem.W.findIn K (.ref C_BadSpan) "__class__" = some (some (.builtin "object.__class__"))) (xm_BadSpan : PySem.W.mroIn K C_BadSpan (.type "object") = some true)
    (xc_BadKey : PySem.W.findIn K (.ref C_BadKey) "__class__" = some (some (.builtin "object.__class__"))) (xm_BadKey : PySem.W.mroIn K C_BadKey (.type "object") = some true)
    (xc_BadSize : PySem.W.findIn K (.ref C_BadSize) "__class__" = some (some (.builtin "object.__class__"))) (xm_BadSize : PySem.W.mroIn K C_BadSize (.type "object") = some true)
    (xc_ShortBody : PySem.W.findIn K (.ref C_ShortBody) "__class__" = some (some (.builtin "object.__class__"))) (xm_ShortBody : PySem.W.mroIn K C_ShortBody (.type "object") = some true)
    (xc_BadCheck : PySem.W.findIn K (.ref C_BadCheck) "__class__" = some (some (.builtin "object.__class__"))) (xm_BadCheck : PySem.W.mroIn K C_BadCheck (.type "object") = some true)
    (xc_NotAPresentation : PySem.W.findIn K (.ref C_NotAPresentation) "__class__" = some (some (.builtin "object.__class__"))) (xm_NotAPresentation : PySem.W.mroIn K C_NotAPresentation (.type "object") = some true)
    (xc_BadChange : PySem.W.findIn K (.ref C_BadChange) "__class__" = some (some (.builtin "object.__class__"))) (xm_BadChange : PySem.W.mroIn K C_BadChange (.type "object") = some true)
    (xc_BadBody : PySem.W.findIn K (.ref C_BadBody) "__class__" = some (some (.builtin "object.__class__"))) (xm_BadBody : PySem.W.mroIn K C_BadBody (.type "object") = some true)
    (xc_BadStart : PySem.W.findIn K (.ref C_BadStart) "__class__" = some (some (.builtin "object.__class__"))) (xm_BadStart : PySem.W.mroIn K C_BadStart (.type "object") = some true)
    (xc_CutOff : PySem.W.findIn K (.ref C_CutOff) "__class__" = some (some (.builtin "object.__class__"))) (xm_CutOff : PySem.W.mroIn K C_CutOff (.type "object") = some true)
    (xc_EmptyPiece : PySem.W.findIn K (.ref C_EmptyPiece) "__class__" = some (some (.builtin "object.__class__"))) (xm_EmptyPiece : PySem.W.mroIn K C_EmptyPiece (.type "object") = some true)
    (xc_OtherStamp : PySem.W.findIn K (.ref C_OtherStamp) "__class__" = some (some (.builtin "object.__class__"))) (xm_OtherStamp : PySem.W.mroIn K C_OtherStamp (.type "object") = some true)
    (xc_WrongNumber : PySem.W.findIn K (.ref C_WrongNumber) "__class__" = some (some (.builtin "object.__class__"))) (xm_WrongNumber : PySem.W.mroIn K C_WrongNumber (.type "object") = some true)
    (xc_WrongOrder : PySem.W.findIn K (.ref C_WrongOrder) "__class__" = some (some (.builtin "object.__class__"))) (xm_WrongOrder : PySem.W.mroIn K C_WrongOrder (.type "object") = some true)
    (xc_WrongFields : PySem.W.findIn K (.ref C_WrongFields) "__class__" = some (some (.builtin "object.__class__"))) (xm_WrongFields : PySem.W.mroIn K C_WrongFields (.type "object") = some true)
    (xc_NoTrack : PySem.W.findIn K (.ref C_NoTrack) "__class__" = some (some (.builtin "object.__class__"))) (xm_NoTrack : PySem.W.mroIn K C_NoTrack (.type "object") = some true)
    (xc_TooManyUnits : PySem.W.findIn K (.ref C_TooManyUnits) "__class__" = some (some (.builtin "object.__class__"))) (xm_TooManyUnits : PySem.W.mroIn K C_TooManyUnits (.type "object") = some true)
    (xc_WrongOrdinal : PySem.W.findIn K (.ref C_WrongOrdinal) "__class__" = some (some (.builtin "object.__class__"))) (xm_WrongOrdinal : PySem.W.mroIn K C_WrongOrdinal (.type "object") = some true)
    (xc_WrongTime : PySem.W.findIn K (.ref C_WrongTime) "__class__" = some (some (.builtin "object.__class__"))) (xm_WrongTime : PySem.W.mroIn K C_WrongTime (.type "object") = some true)
    (xc_WrongKey : PySem.W.findIn K (.ref C_WrongKey) "__class__" = some (some (.builtin "object.__class__"))) (xm_WrongKey : PySem.W.mroIn K C_WrongKey (.type "object") = some true)
    (xc_WrongEntry : PySem.W.findIn K (.ref C_WrongEntry) "__class__" = some (some (.builtin "object.__class__"))) (xm_WrongEntry : PySem.W.mroIn K C_WrongEntry (.type "object") = some true)
    (xc_WrongCount : PySem.W.findIn K (.ref C_WrongCount) "__class__" = some (some (.builtin "object.__class__"))) (xm_WrongCount : PySem.W.mroIn K C_WrongCount (.type "object") = some true)
    (xc_WrongSum : PySem.W.findIn K (.ref C_WrongSum) "__class__" = some (some (.builtin "object.__class__"))) (xm_WrongSum : PySem.W.mroIn K C_WrongSum (.type "object") = some true)
    (xc_MissingUnits : PySem.W.findIn K (.ref C_MissingUnits) "__class__" = some (some (.builtin "object.__class__"))) (xm_MissingUnits : PySem.W.mroIn K C_MissingUnits (.type "object") = some true)
    (xc_Behind : PySem.W.findIn K (.ref C_Behind) "__class__" = some (some (.builtin "object.__class__"))) (xm_Behind : PySem.W.mroIn K C_Behind (.type "object") = some true)
    (xc_NoEnd : PySem.W.findIn K (.ref C_NoEnd) "__class__" = some (some (.builtin "object.__class__"))) (xm_NoEnd : PySem.W.mroIn K C_NoEnd (.type "object") = some true)
    (xc_NotAlike : PySem.W.findIn K (.ref C_NotAlike) "__class__" = some (some (.builtin "object.__class__"))) (xm_NotAlike : PySem.W.mroIn K C_NotAlike (.type "object") = some true)
    (xc_HasSkip : PySem.W.findIn K (.ref C_HasSkip) "__class__" = some (some (.builtin "object.__class__"))) (xm_HasSkip : PySem.W.mroIn K C_HasSkip (.type "object") = some true)
    (xc_TooLong : PySem.W.findIn K (.ref C_TooLong) "__class__" = some (some (.builtin "object.__class__"))) (xm_TooLong : PySem.W.mroIn K C_TooLong (.type "object") = some true)
    (xc_NoHead : PySem.W.findIn K (.ref C_NoHead) "__class__" = some (some (.builtin "object.__class__"))) (xm_NoHead : PySem.W.mroIn K C_NoHead (.type "object") = some true)
    (xc_TooManyTags : PySem.W.findIn K (.ref C_TooManyTags) "__class__" = some (some (.builtin "object.__class__"))) (xm_TooManyTags : PySem.W.mroIn K C_TooManyTags (.type "object") = some true)
    (cd : clD (clL [C_SpoolboxError, C_OutOfRange, C_LooseNumber, C_Truncated, C_BadStuffing, C_BadKind, C_BadStamp, C_BadNumber, C_BadTrack, C_BadOrdinal, C_BadTime, C_BadSpan, C_BadKey, C_BadSize, C_ShortBody, C_BadCheck, C_NotAPresentation, C_BadChange, C_BadBody, C_BadStart, C_CutOff, C_EmptyPiece, C_OtherStamp, C_WrongNumber, C_WrongOrder, C_WrongFields, C_NoTrack, C_TooManyUnits, C_WrongOrdinal, C_WrongTime, C_WrongKey, C_WrongEntry, C_WrongCount, C_WrongSum, C_MissingUnits, C_Behind, C_NoEnd, C_NotAlike, C_HasSkip, C_TooLong, C_NoHead, C_TooManyTags]) = true)
    (yd_TooManyTags : ((List.range 42).all fun k => PySem.W.kitOne K (.ref ((clL [C_SpoolboxError, C_OutOfRange, C_LooseNumber, C_Truncated, C_BadStuffing, C_BadKind, C_BadStamp, C_BadNumber, C_BadTrack, C_BadOrdinal, C_BadTime, C_BadSpan, C_BadKey, C_BadSize, C_ShortBody, C_BadCheck, C_NotAPresentation, C_BadChange, C_BadBody, C_BadStart, C_CutOff, C_EmptyPiece, C_OtherStamp, C_WrongNumber, C_WrongOrder, C_WrongFields, C_NoTrack, C_TooManyUnits, C_WrongOrdinal, C_WrongTime, C_WrongKey, C_WrongEntry, C_WrongCount, C_WrongSum, C_MissingUnits, C_Behind, C_NoEnd, C_NotAlike, C_HasSkip, C_TooLong, C_NoHead, C_TooManyTags]) k)) (.ref C_TooManyTags) == some ((fun k => k == 41) k)) = true)
    (yd_NoHead : ((List.range 42).all fun k => PySem.W.kitOne K (.ref ((clL [C_SpoolboxError, C_OutOfRange, C_LooseNumber, C_Truncated, C_BadStuffing, C_BadKind, C_BadStamp, C_BadNumber, C_BadTrack, C_BadOrdinal, C_BadTime, C_BadSpan, C_BadKey, C_BadSize, C_ShortBody, C_BadCheck, C_NotAPresentation, C_BadChange, C_BadBody, C_BadStart, C_CutOff, C_EmptyPiece, C_OtherStamp, C_WrongNumber, C_WrongOrder, C_WrongFields, C_NoTrack, C_TooManyUnits, C_WrongOrdinal, C_WrongTime, C_WrongKey, C_WrongEntry, C_WrongCount, C_WrongSum, C_MissingUnits, C_Behind, C_NoEnd, C_NotAlike, C_HasSkip, C_TooLong, C_NoHead, C_TooManyTags]) k)) (.ref C_NoHead) == some ((fun k => k == 40) k)) = true)
    (yd_TooLong : ((List.range 42).all fun k => PySem.W.kitOne K (.ref ((clL [C_SpoolboxError, C_OutOfRange, C_LooseNumber, C_Truncated, C_BadStuffing, C_BadKind, C_BadStamp, C_BadNumber, C_BadTrack, C_BadOrdinal, C_BadTime, C_BadSpan, C_BadKey, C_BadSize, C_ShortBody, C_BadCheck, C_NotAPresentation, C_BadChange, C_BadBody, C_BadStart, C_CutOff, C_EmptyPiece, C_OtherStamp, C_WrongNumber, C_WrongOrder, C_WrongFields, C_NoTrack, C_TooManyUnits, C_WrongOrdinal, C_WrongTime, C_WrongKey, C_WrongEntry, C_WrongCount, C_WrongSum, C_MissingUnits, C_Behind, C_NoEnd, C_NotAlike, C_HasSkip, C_TooLong, C_NoHead, C_TooManyTags]) k)) (.ref C_TooLong) == some ((fun k => k == 39) k)) = true)
    (yd_HasSkip : ((List.range 42).all fun k => PySem.W.kitOne K (.ref ((clL [C_SpoolboxError, C_OutOfRange, C_LooseNumber, C_Truncated, C_BadStuffing, C_BadKind, C_BadStamp, C_BadNumber, C_BadTrack, C_BadOrdinal, C_BadTime, C_BadSpan, C_BadKey, C_BadSize, C_ShortBody, C_BadCheck, C_NotAPresentation, C_BadChange, C_BadBody, C_BadStart, C_CutOff, C_EmptyPiece, C_OtherStamp, C_WrongNumber, C_WrongOrder, C_WrongFields, C_NoTrack, C_TooManyUnits, C_WrongOrdinal, C_WrongTime, C_WrongKey, C_WrongEntry, C_WrongCount, C_WrongSum, C_MissingUnits, C_Behind, C_NoEnd, C_NotAlike, C_HasSkip, C_TooLong, C_NoHead, C_TooManyTags]) k)) (.ref C_HasSkip) == some ((fun k => k == 38) k)) = true)
    (yd_NotAlike : ((List.range 42).all fun k => PySem.W.kitOne K (.ref ((clL [C_SpoolboxError, C_OutOfRange, C_LooseNumber, C_Truncated, C_BadStuffing, C_BadKind, C_BadStamp, C_BadNumber, C_BadTrack, C_BadOrdinal, C_BadTime, C_BadSpan, C_BadKey, C_BadSize, C_ShortBody, C_BadCheck, C_NotAPresentation, C_BadChange, C_BadBody, C_BadStart, C_CutOff, C_EmptyPiece, C_OtherStamp, C_WrongNumber, C_WrongOrder, C_WrongFields, C_NoTrack, C_TooManyUnits, C_WrongOrdinal, C_WrongTime, C_WrongKey, C_WrongEntry, C_WrongCount, C_WrongSum, C_MissingUnits, C_Behind, C_NoEnd, C_NotAlike, C_HasSkip, C_TooLong, C_NoHead, C_TooManyTags]) k)) (.ref C_NotAlike) == some ((fun k => k == 37) k)) = true)
    (yd_NoEnd : ((List.range 42).all fun k => PySem.W.kitOne K (.ref ((clL [C_SpoolboxError, C_OutOfRange, C_LooseNumber, C_Truncated, C_BadStuffing, C_BadKind, C_BadStamp, C_BadNumber, C_BadTrack, C_BadOrdinal, C_BadTime, C_BadSpan, C_BadKey, C_BadSize, C_ShortBody, C_BadCheck, C_NotAPresentation, C_BadChange, C_BadBody, C_BadStart, C_CutOff, C_EmptyPiece, C_OtherStamp, C_WrongNumber, C_WrongOrder, C_WrongFields, C_NoTrack, C_TooManyUnits, C_WrongOrdinal, C_WrongTime, C_WrongKey, C_WrongEntry, C_WrongCount, C_WrongSum, C_MissingUnits, C_Behind, C_NoEnd, C_NotAlike, C_HasSkip, C_TooLong, C_NoHead, C_TooManyTags]) k)) (.ref C_NoEnd) == some ((fun k => k == 36) k)) = true)
    (yd_Behind : ((List.range 42).all fun k => PySem.W.kitOne K (.ref ((clL [C_SpoolboxError, C_OutOfRange, C_LooseNumber, C_Truncated, C_BadStuffing, C_BadKind, C_BadStamp, C_BadNumber, C_BadTrack, C_BadOrdinal, C_BadTime, C_BadSpan, C_BadKey, C_BadSize, C_ShortBody, C_BadCheck, C_NotAPresentation, C_BadChange, C_BadBody, C_BadStart, C_CutOff, C_EmptyPiece, C_OtherStamp, C_WrongNumber, C_WrongOrder, C_WrongFields, C_NoTrack, C_TooManyUnits, C_WrongOrdinal, C_WrongTime, C_WrongKey, C_WrongEntry, C_WrongCount, C_WrongSum, C_MissingUnits, C_Behind, C_NoEnd, C_NotAlike, C_HasSkip, C_TooLong, C_NoHead, C_TooManyTags]) k)) (.ref C_Behind) == some ((fun k => k == 35) k)) = true)
    (yd_MissingUnits : ((List.range 42).all fun k => PySem.W.kitOne K (.ref ((clL [C_SpoolboxError, C_OutOfRange, C_LooseNumber, C_Truncated, C_BadStuffing, C_BadKind, C_BadStamp, C_BadNumber, C_BadTrack, C_BadOrdinal, C_BadTime, C_BadSpan, C_BadKey, C_BadSize, C_ShortBody, C_BadCheck, C_NotAPresentation, C_BadChange, C_BadBody, C_BadStart, C_CutOff, C_EmptyPiece, C_OtherStamp, C_WrongNumber, C_WrongOrder, C_WrongFields, C_NoTrack, C_TooManyUnits, C_WrongOrdinal, C_WrongTime, C_WrongKey, C_WrongEntry, C_WrongCount, C_WrongSum, C_MissingUnits, C_Behind, C_NoEnd, C_NotAlike, C_HasSkip, C_TooLong, C_NoHead, C_TooManyTags]) k)) (.ref C_MissingUnits) == some ((fun k => k == 34) k)) = true)
    (yd_WrongSum : ((List.range 42).all fun k => PySem.W.kitOne K (.ref ((clL [C_SpoolboxError, C_OutOfRange, C_LooseNumber, C_Truncated, C_BadStuffing, C_BadKind, C_BadStamp, C_BadNumber, C_BadTrack, C_BadOrdinal, C_BadTime, C_BadSpan, C_BadKey, C_BadSize, C_ShortBody, C_BadCheck, C_NotAPresentation, C_BadChange, C_BadBody, C_BadStart, C_CutOff, C_EmptyPiece, C_OtherStamp, C_WrongNumber, C_WrongOrder, C_WrongFields, C_NoTrack, C_TooManyUnits, C_WrongOrdinal, C_WrongTime, C_WrongKey, C_WrongEntry, C_WrongCount, C_WrongSum, C_MissingUnits, C_Behind, C_NoEnd, C_NotAlike, C_HasSkip, C_TooLong, C_NoHead, C_TooManyTags]) k)) (.ref C_WrongSum) == some ((fun k => k == 33) k)) = true)
    (yd_WrongCount : ((List.range 42).all fun k => PySem.W.kitOne K (.ref ((clL [C_SpoolboxError, C_OutOfRange, C_LooseNumber, C_Truncated, C_BadStuffing, C_BadKind, C_BadStamp, C_BadNumber, C_BadTrack, C_BadOrdinal, C_BadTime, C_BadSpan, C_BadKey, C_BadSize, C_ShortBody, C_BadCheck, C_NotAPresentation, C_BadChange, C_BadBody, C_BadStart, C_CutOff, C_EmptyPiece, C_OtherStamp, C_WrongNumber, C_WrongOrder, C_WrongFields, C_NoTrack, C_TooManyUnits, C_WrongOrdinal, C_WrongTime, C_WrongKey, C_WrongEntry, C_WrongCount, C_WrongSum, C_MissingUnits, C_Behind, C_NoEnd, C_NotAlike, C_HasSkip, C_TooLong, C_NoHead, C_TooManyTags]) k)) (.ref C_WrongCount) == some ((fun k => k == 32) k)) = true)
    (yd_WrongEntry : ((List.range 42).all fun k => PySem.W.kitOne K (.ref ((clL [C_SpoolboxError, C_OutOfRange, C_LooseNumber, C_Truncated, C_BadStuffing, C_BadKind, C_BadStamp, C_BadNumber, C_BadTrack, C_BadOrdinal, C_BadTime, C_BadSpan, C_BadKey, C_BadSize, C_ShortBody, C_BadCheck, C_NotAPresentation, C_BadChange, C_BadBody, C_BadStart, C_CutOff, C_EmptyPiece, C_OtherStamp, C_WrongNumber, C_WrongOrder, C_WrongFields, C_NoTrack, C_TooManyUnits, C_WrongOrdinal, C_WrongTime, C_WrongKey, C_WrongEntry, C_WrongCount, C_WrongSum, C_MissingUnits, C_Behind, C_NoEnd, C_NotAlike, C_HasSkip, C_TooLong, C_NoHead, C_TooManyTags]) k)) (.ref C_WrongEntry) == some ((fun k => k == 31) k)) = true)
    (yd_WrongKey : ((List.range 42).all fun k => PySem.W.kitOne K (.ref ((clL [C_SpoolboxError, C_OutOfRange, C_LooseNumber, C_Truncated, C_BadStuffing, C_BadKind, C_BadStamp, C_BadNumber, C_BadTrack, C_BadOrdinal, C_BadTime, C_BadSpan, C_BadKey, C_BadSize, C_ShortBody, C_BadCheck, C_NotAPresentation, C_BadChange, C_BadBody, C_BadStart, C_CutOff, C_EmptyPiece, C_OtherStamp, C_WrongNumber, C_WrongOrder, C_WrongFields, C_NoTrack, C_TooManyUnits, C_WrongOrdinal, C_WrongTime, C_WrongKey, C_WrongEntry, C_WrongCount, C_WrongSum, C_MissingUnits, C_Behind, C_NoEnd, C_NotAlike, C_HasSkip, C_TooLong, C_NoHead, C_TooManyTags]) k)) (.ref C_WrongKey) == some ((fun k => k == 30) k)) = true)
    (yd_WrongTime : ((List.range 42).all fun k => PySem.W.kitOne K (.ref ((clL [C_SpoolboxError, C_OutOfRange, C_LooseNumber, C_Truncated, C_BadStuffing, C_BadKind, C_BadStamp, C_BadNumber, C_BadTrack, C_BadOrdinal, C_BadTime, C_BadSpan, C_BadKey, C_BadSize, C_ShortBody, C_BadCheck, C_NotAPresentation, C_BadChange, C_BadBody, C_BadStart, C_CutOff, C_EmptyPiece, C_OtherStamp, C_WrongNumber, C_WrongOrder, C_WrongFields, C_NoTrack, C_TooManyUnits, C_WrongOrdinal, C_WrongTime, C_WrongKey, C_WrongEntry, C_WrongCount, C_WrongSum, C_MissingUnits, C_Behind, C_NoEnd, C_NotAlike, C_HasSkip, C_TooLong, C_NoHead, C_TooManyTags]) k)) (.ref C_WrongTime) == some ((fun k => k == 29) k)) = true)
    (yd_WrongOrdinal : ((List.range 42).all fun k => PySem.W.kitOne K (.ref ((clL [C_SpoolboxError, C_OutOfRange, C_LooseNumber, C_Truncated, C_BadStuffing, C_BadKind, C_BadStamp, C_BadNumber, C_BadTrack, C_BadOrdinal, C_BadTime, C_BadSpan, C_BadKey, C_BadSize, C_ShortBody, C_BadCheck, C_NotAPresentation, C_BadChange, C_BadBody, C_BadStart, C_CutOff, C_EmptyPiece, C_OtherStamp, C_WrongNumber, C_WrongOrder, C_WrongFields, C_NoTrack, C_TooManyUnits, C_WrongOrdinal, C_WrongTime, C_WrongKey, C_WrongEntry, C_WrongCount, C_WrongSum, C_MissingUnits, C_Behind, C_NoEnd, C_NotAlike, C_HasSkip, C_TooLong, C_NoHead, C_TooManyTags]) k)) (.ref C_WrongOrdinal) == some ((fun k => k == 28) k)) = true)
    (yd_TooManyUnits : ((List.range 42).all fun k => PySem.W.kitOne K (.ref ((clL [C_SpoolboxError, C_OutOfRange, C_LooseNumber, C_Truncated, C_BadStuffing, C_BadKind, C_BadStamp, C_BadNumber, C_BadTrack, C_BadOrdinal, C_BadTime, C_BadSpan, C_BadKey, C_BadSize, C_ShortBody, C_BadCheck, C_NotAPresentation, C_BadChange, C_BadBody, C_BadStart, C_CutOff, C_EmptyPiece, C_OtherStamp, C_WrongNumber, C_WrongOrder, C_WrongFields, C_NoTrack, C_TooManyUnits, C_WrongOrdinal, C_WrongTime, C_WrongKey, C_WrongEntry, C_WrongCount, C_WrongSum, C_MissingUnits, C_Behind, C_NoEnd, C_NotAlike, C_HasSkip, C_TooLong, C_NoHead, C_TooManyTags]) k)) (.ref C_TooManyUnits) == some ((fun k => k == 27) k)) = true)
    (yd_NoTrack : ((List.range 42).all fun k => PySem.W.kitOne K (.ref ((clL [C_SpoolboxError, C_OutOfRange, C_LooseNumber, C_Truncated, C_BadStuffing, C_BadKind, C_BadStamp, C_BadNumber, C_BadTrack, C_BadOrdinal, C_BadTime, C_BadSpan, C_BadKey, C_BadSize, C_ShortBody, C_BadCheck, C_NotAPresentation, C_BadChange, C_BadBody, C_BadStart, C_CutOff, C_EmptyPiece, C_OtherStamp, C_WrongNumber, C_WrongOrder, C_WrongFields, C_NoTrack, C_TooManyUnits, C_WrongOrdinal, C_WrongTime, C_WrongKey, C_WrongEntry, C_WrongCount, C_WrongSum, C_MissingUnits, C_Behind, C_NoEnd, C_NotAlike, C_HasSkip, C_TooLong, C_NoHead, C_TooManyTags]) k)) (.ref C_NoTrack) == some ((fun k => k == 26) k)) = true)
    (yd_WrongFields : ((List.range 42).all fun k => PySem.W.kitOne K (.ref ((clL [C_SpoolboxError, C_OutOfRange, C_LooseNumber, C_Truncated, C_BadStuffing, C_BadKind, C_BadStamp, C_BadNumber, C_BadTrack, C_BadOrdinal, C_BadTime, C_BadSpan, C_BadKey, C_BadSize, C_ShortBody, C_BadCheck, C_NotAPresentation, C_BadChange, C_BadBody, C_BadStart, C_CutOff, C_EmptyPiece, C_OtherStamp, C_WrongNumber, C_WrongOrder, C_WrongFields, C_NoTrack, C_TooManyUnits, C_WrongOrdinal, C_WrongTime, C_WrongKey, C_WrongEntry, C_WrongCount, C_WrongSum, C_MissingUnits, C_Behind, C_NoEnd, C_NotAlike, C_HasSkip, C_TooLong, C_NoHead, C_TooManyTags]) k)) (.ref C_WrongFields) == some ((fun k => k == 25) k)) = true)
    (yd_WrongOrder : ((List.range 42).all fun k => PySem.W.kitOne K (.ref ((clL [C_SpoolboxError, C_OutOfRange, C_LooseNumber, C_Truncated, C_BadStuffing, C_BadKind, C_BadStamp, C_BadNumber, C_BadTrack, C_BadOrdinal, C_BadTime, C_BadSpan, C_BadKey, C_BadSize, C_ShortBody, C_BadCheck, C_NotAPresentation, C_BadChange, C_BadBody, C_BadStart, C_CutOff, C_EmptyPiece, C_OtherStamp, C_WrongNumber, C_WrongOrder, C_WrongFields, C_NoTrack, C_TooManyUnits, C_WrongOrdinal, C_WrongTime, C_WrongKey, C_WrongEntry, C_WrongCount, C_WrongSum, C_MissingUnits, C_Behind, C_NoEnd, C_NotAlike, C_HasSkip, C_TooLong, C_NoHead, C_TooManyTags]) k)) (.ref C_WrongOrder) == some ((fun k => k == 24) k)) = true)
    (yd_WrongNumber : ((List.range 42).all fun k => PySem.W.kitOne K (.ref ((clL [C_SpoolboxError, C_OutOfRange, C_LooseNumber, C_Truncated, C_BadStuffing, C_BadKind, C_BadStamp, C_BadNumber, C_BadTrack, C_BadOrdinal, C_BadTime, C_BadSpan, C_BadKey, C_BadSize, C_ShortBody, C_BadCheck, C_NotAPresentation, C_BadChange, C_BadBody, C_BadStart, C_CutOff, C_EmptyPiece, C_OtherStamp, C_WrongNumber, C_WrongOrder, C_WrongFields, C_NoTrack, C_TooManyUnits, C_WrongOrdinal, C_WrongTime, C_WrongKey, C_WrongEntry, C_WrongCount, C_WrongSum, C_MissingUnits, C_Behind, C_NoEnd, C_NotAlike, C_HasSkip, C_TooLong, C_NoHead, C_TooManyTags]) k)) (.ref C_WrongNumber) == some ((fun k => k == 23) k)) = true)
    (yd_OtherStamp : ((List.range 42).all fun k => PySem.W.kitOne K (.ref ((clL [C_SpoolboxError, C_OutOfRange, C_LooseNumber, C_Truncated, C_BadStuffing, C_BadKind, C_BadStamp, C_BadNumber, C_BadTrack, C_BadOrdinal, C_BadTime, C_BadSpan, C_BadKey, C_BadSize, C_ShortBody, C_BadCheck, C_NotAPresentation, C_BadChange, C_BadBody, C_BadStart, C_CutOff, C_EmptyPiece, C_OtherStamp, C_WrongNumber, C_WrongOrder, C_WrongFields, C_NoTrack, C_TooManyUnits, C_WrongOrdinal, C_WrongTime, C_WrongKey, C_WrongEntry, C_WrongCount, C_WrongSum, C_MissingUnits, C_Behind, C_NoEnd, C_NotAlike, C_HasSkip, C_TooLong, C_NoHead, C_TooManyTags]) k)) (.ref C_OtherStamp) == some ((fun k => k == 22) k)) = true)
    (yd_EmptyPiece : ((List.range 42).all fun k => PySem.W.kitOne K (.ref ((clL [C_SpoolboxError, C_OutOfRange, C_LooseNumber, C_Truncated, C_BadStuffing, C_BadKind, C_BadStamp, C_BadNumber, C_BadTrack, C_BadOrdinal, C_BadTime, C_BadSpan, C_BadKey, C_BadSize, C_ShortBody, C_BadCheck, C_NotAPresentation, C_BadChange, C_BadBody, C_BadStart, C_CutOff, C_EmptyPiece, C_OtherStamp, C_WrongNumber, C_WrongOrder, C_WrongFields, C_NoTrack, C_TooManyUnits, C_WrongOrdinal, C_WrongTime, C_WrongKey, C_WrongEntry, C_WrongCount, C_WrongSum, C_MissingUnits, C_Behind, C_NoEnd, C_NotAlike, C_HasSkip, C_TooLong, C_NoHead, C_TooManyTags]) k)) (.ref C_EmptyPiece) == some ((fun k => k == 21) k)) = true)
    (yd_CutOff : ((List.range 42).all fun k => PySem.W.kitOne K (.ref ((clL [C_SpoolboxError, C_OutOfRange, C_LooseNumber, C_Truncated, C_BadStuffing, C_BadKind, C_BadStamp, C_BadNumber, C_BadTrack, C_BadOrdinal, C_BadTime, C_BadSpan, C_BadKey, C_BadSize, C_ShortBody, C_BadCheck, C_NotAPresentation, C_BadChange, C_BadBody, C_BadStart, C_CutOff, C_EmptyPiece, C_OtherStamp, C_WrongNumber, C_WrongOrder, C_WrongFields, C_NoTrack, C_TooManyUnits, C_WrongOrdinal, C_WrongTime, C_WrongKey, C_WrongEntry, C_WrongCount, C_WrongSum, C_MissingUnits, C_Behind, C_NoEnd, C_NotAlike, C_HasSkip, C_TooLong, C_NoHead, C_TooManyTags]) k)) (.ref C_CutOff) == some ((fun k => k == 20) k)) = true)
    (yd_BadStart : ((List.range 42).all fun k => PySem.W.kitOne K (.ref ((clL [C_SpoolboxError, C_OutOfRange, C_LooseNumber, C_Truncated, C_BadStuffing, C_BadKind, C_BadStamp, C_BadNumber, C_BadTrack, C_BadOrdinal, C_BadTime, C_BadSpan, C_BadKey, C_BadSize, C_ShortBody, C_BadCheck, C_NotAPresentation, C_BadChange, C_BadBody, C_BadStart, C_CutOff, C_EmptyPiece, C_OtherStamp, C_WrongNumber, C_WrongOrder, C_WrongFields, C_NoTrack, C_TooManyUnits, C_WrongOrdinal, C_WrongTime, C_WrongKey, C_WrongEntry, C_WrongCount, C_WrongSum, C_MissingUnits, C_Behind, C_NoEnd, C_NotAlike, C_HasSkip, C_TooLong, C_NoHead, C_TooManyTags]) k)) (.ref C_BadStart) == some ((fun k => k == 19) k)) = true)
    (yd_BadBody : ((List.range 42).all fun k => PySem.W.kitOne K (.ref ((clL [C_SpoolboxError, C_OutOfRange, C_LooseNumber, C_Truncated, C_BadStuffing, C_BadKind, C_BadStamp, C_BadNumber, C_BadTrack, C_BadOrdinal, C_BadTime, C_BadSpan, C_BadKey, C_BadSize, C_ShortBody, C_BadCheck, C_NotAPresentation, C_BadChange, C_BadBody, C_BadStart, C_CutOff, C_EmptyPiece, C_OtherStamp, C_WrongNumber, C_WrongOrder, C_WrongFields, C_NoTrack, C_TooManyUnits, C_WrongOrdinal, C_WrongTime, C_WrongKey, C_WrongEntry, C_WrongCount, C_WrongSum, C_MissingUnits, C_Behind, C_NoEnd, C_NotAlike, C_HasSkip, C_TooLong, C_NoHead, C_TooManyTags]) k)) (.ref C_BadBody) == some ((fun k => k == 18) k)) = true)
    (yd_BadChange : ((List.range 42).all fun k => PySem.W.kitOne K (.ref ((clL [C_SpoolboxError, C_OutOfRange, C_LooseNumber, C_Truncated, C_BadStuffing, C_BadKind, C_BadStamp, C_BadNumber, C_BadTrack, C_BadOrdinal, C_BadTime, C_BadSpan, C_BadKey, C_BadSize, C_ShortBody, C_BadCheck, C_NotAPresentation, C_BadChange, C_BadBody, C_BadStart, C_CutOff, C_EmptyPiece, C_OtherStamp, C_WrongNumber, C_WrongOrder, C_WrongFields, C_NoTrack, C_TooManyUnits, C_WrongOrdinal, C_WrongTime, C_WrongKey, C_WrongEntry, C_WrongCount, C_WrongSum, C_MissingUnits, C_Behind, C_NoEnd, C_NotAlike, C_HasSkip, C_TooLong, C_NoHead, C_TooManyTags]) k)) (.ref C_BadChange) == some ((fun k => k == 17) k)) = true)
    (yd_NotAPresentation : ((List.range 42).all fun k => PySem.W.kitOne K (.ref ((clL [C_SpoolboxError, C_OutOfRange, C_LooseNumber, C_Truncated, C_BadStuffing, C_BadKind, C_BadStamp, C_BadNumber, C_BadTrack, C_BadOrdinal, C_BadTime, C_BadSpan, C_BadKey, C_BadSize, C_ShortBody, C_BadCheck, C_NotAPresentation, C_BadChange, C_BadBody, C_BadStart, C_CutOff, C_EmptyPiece, C_OtherStamp, C_WrongNumber, C_WrongOrder, C_WrongFields, C_NoTrack, C_TooManyUnits, C_WrongOrdinal, C_WrongTime, C_WrongKey, C_WrongEntry, C_WrongCount, C_WrongSum, C_MissingUnits, C_Behind, C_NoEnd, C_NotAlike, C_HasSkip, C_TooLong, C_NoHead, C_TooManyTags]) k)) (.ref C_NotAPresentation) == some ((fun k => k == 16) k)) = true)
    (yd_BadCheck : ((List.range 42).all fun k => PySem.W.kitOne K (.ref ((clL [C_SpoolboxError, C_OutOfRange, C_LooseNumber, C_Truncated, C_BadStuffing, C_BadKind, C_BadStamp, C_BadNumber, C_BadTrack, C_BadOrdinal, C_BadTime, C_BadSpan, C_BadKey, C_BadSize, C_ShortBody, C_BadCheck, C_NotAPresentation, C_BadChange, C_BadBody, C_BadStart, C_CutOff, C_EmptyPiece, C_OtherStamp, C_WrongNumber, C_WrongOrder, C_WrongFields, C_NoTrack, C_TooManyUnits, C_WrongOrdinal, C_WrongTime, C_WrongKey, C_WrongEntry, C_WrongCount, C_WrongSum, C_MissingUnits, C_Behind, C_NoEnd, C_NotAlike, C_HasSkip, C_TooLong, C_NoHead, C_TooManyTags]) k)) (.ref C_BadCheck) == some ((fun k => k == 15) k)) = true)
    (yd_ShortBody : ((List.range 42).all fun k => PySem.W.kitOne K (.ref ((clL [C_SpoolboxError, C_OutOfRange, C_LooseNumber, C_Truncated, C_BadStuffing, C_BadKind, C_BadStamp, C_BadNumber, C_BadTrack, C_BadOrdinal, C_BadTime, C_BadSpan, C_BadKey, C_BadSize, C_ShortBody, C_BadCheck, C_NotAPresentation, C_BadChange, C_BadBody, C_BadStart, C_CutOff, C_EmptyPiece, C_OtherStamp, C_WrongNumber, C_WrongOrder, C_WrongFields, C_NoTrack, C_TooManyUnits, C_WrongOrdinal, C_WrongTime, C_WrongKey, C_WrongEntry, C_WrongCount, C_WrongSum, C_MissingUnits, C_Behind, C_NoEnd, C_NotAlike, C_HasSkip, C_TooLong, C_NoHead, C_TooManyTags]) k)) (.ref C_ShortBody) == some ((fun k => k == 14) k)) = true)
    (yd_BadSize : ((List.range 42).all fun k => PySem.W.kitOne K (.ref ((clL [C_SpoolboxError, C_OutOfRange, C_LooseNumber, C_Truncated, C_BadStuffing, C_BadKind, C_BadStamp, C_BadNumber, C_BadTrack, C_BadOrdinal, C_BadTime, C_BadSpan, C_BadKey, C_BadSize, C_ShortBody, C_BadCheck, C_NotAPresentation, C_BadChange, C_BadBody, C_BadStart, C_CutOff, C_EmptyPiece, C_OtherStamp, C_WrongNumber, C_WrongOrder, C_WrongFields, C_NoTrack, C_TooManyUnits, C_WrongOrdinal, C_WrongTime, C_WrongKey, C_WrongEntry, C_WrongCount, C_WrongSum, C_MissingUnits, C_Behind, C_NoEnd, C_NotAlike, C_HasSkip, C_TooLong, C_NoHead, C_TooManyTags]) k)) (.ref C_BadSize) == some ((fun k => k == 13) k)) = true)
    (yd_BadKey : ((List.range 42).all fun k => PySem.W.kitOne K (.ref ((clL [C_SpoolboxError, C_OutOfRange, C_LooseNumber, C_Truncated, C_BadStuffing, C_BadKind, C_BadStamp, C_BadNumber, C_BadTrack, C_BadOrdinal, C_BadTime, C_BadSpan, C_BadKey, C_BadSize, C_ShortBody, C_BadCheck, C_NotAPresentation, C_BadChange, C_BadBody, C_BadStart, C_CutOff, C_EmptyPiece, C_OtherStamp, C_WrongNumber, C_WrongOrder, C_WrongFields, C_NoTrack, C_TooManyUnits, C_WrongOrdinal, C_WrongTime, C_WrongKey, C_WrongEntry, C_WrongCount, C_WrongSum, C_MissingUnits, C_Behind, C_NoEnd, C_NotAlike, C_HasSkip, C_TooLong, C_NoHead, C_TooManyTags]) k)) (.ref C_BadKey) == some ((fun k => k == 12) k)) = true)
    (yd_BadSpan : ((List.range 42).all fun k => PySem.W.kitOne K (.ref ((clL [C_SpoolboxError, C_OutOfRange, C_LooseNumber, C_Truncated, C_BadStuffing, C_BadKind, C_BadStamp, C_BadNumber, C_BadTrack, C_BadOrdinal, C_BadTime, C_BadSpan, C_BadKey, C_BadSize, C_ShortBody, C_BadCheck, C_NotAPresentation, C_BadChange, C_BadBody, C_BadStart, C_CutOff, C_EmptyPiece, C_OtherStamp, C_WrongNumber, C_WrongOrder, C_WrongFields, C_NoTrack, C_TooManyUnits, C_WrongOrdinal, C_WrongTime, C_WrongKey, C_WrongEntry, C_WrongCount, C_WrongSum, C_MissingUnits, C_Behind, C_NoEnd, C_NotAlike, C_HasSkip, C_TooLong, C_NoHead, C_TooManyTags]) k)) (.ref C_BadSpan) == some ((fun k => k == 11) k)) = true)
    (yd_BadTime : ((List.range 42).all fun k => PySem.W.kitOne K (.ref ((clL [C_SpoolboxError, C_OutOfRange, C_LooseNumber, C_Truncated, C_BadStuffing, C_BadKind, C_BadStamp, C_BadNumber, C_BadTrack, C_BadOrdinal, C_BadTime, C_BadSpan, C_BadKey, C_BadSize, C_ShortBody, C_BadCheck, C_NotAPresentation, C_BadChange, C_BadBody, C_BadStart, C_CutOff, C_EmptyPiece, C_OtherStamp, C_WrongNumber, C_WrongOrder, C_WrongFields, C_NoTrack, C_TooManyUnits, C_WrongOrdinal, C_WrongTime, C_WrongKey, C_WrongEntry, C_WrongCount, C_WrongSum, C_MissingUnits, C_Behind, C_NoEnd, C_NotAlike, C_HasSkip, C_TooLong, C_NoHead, C_TooManyTags]) k)) (.ref C_BadTime) == some ((fun k => k == 10) k)) = true)
    (yd_BadOrdinal : ((List.range 42).all fun k => PySem.W.kitOne K (.ref ((clL [C_SpoolboxError, C_OutOfRange, C_LooseNumber, C_Truncated, C_BadStuffing, C_BadKind, C_BadStamp, C_BadNumber, C_BadTrack, C_BadOrdinal, C_BadTime, C_BadSpan, C_BadKey, C_BadSize, C_ShortBody, C_BadCheck, C_NotAPresentation, C_BadChange, C_BadBody, C_BadStart, C_CutOff, C_EmptyPiece, C_OtherStamp, C_WrongNumber, C_WrongOrder, C_WrongFields, C_NoTrack, C_TooManyUnits, C_WrongOrdinal, C_WrongTime, C_WrongKey, C_WrongEntry, C_WrongCount, C_WrongSum, C_MissingUnits, C_Behind, C_NoEnd, C_NotAlike, C_HasSkip, C_TooLong, C_NoHead, C_TooManyTags]) k)) (.ref C_BadOrdinal) == some ((fun k => k == 9) k)) = true)
    (yd_BadTrack : ((List.range 42).all fun k => PySem.W.kitOne K (.ref ((clL [C_SpoolboxError, C_OutOfRange, C_LooseNumber, C_Truncated, C_BadStuffing, C_BadKind, C_BadStamp, C_BadNumber, C_BadTrack, C_BadOrdinal, C_BadTime, C_BadSpan, C_BadKey, C_BadSize, C_ShortBody, C_BadCheck, C_NotAPresentation, C_BadChange, C_BadBody, C_BadStart, C_CutOff, C_EmptyPiece, C_OtherStamp, C_WrongNumber, C_WrongOrder, C_WrongFields, C_NoTrack, C_TooManyUnits, C_WrongOrdinal, C_WrongTime, C_WrongKey, C_WrongEntry, C_WrongCount, C_WrongSum, C_MissingUnits, C_Behind, C_NoEnd, C_NotAlike, C_HasSkip, C_TooLong, C_NoHead, C_TooManyTags]) k)) (.ref C_BadTrack) == some ((fun k => k == 8) k)) = true)
    (yd_BadNumber : ((List.range 42).all fun k => PySem.W.kitOne K (.ref ((clL [C_SpoolboxError, C_OutOfRange, C_LooseNumber, C_Truncated, C_BadStuffing, C_BadKind, C_BadStamp, C_BadNumber, C_BadTrack, C_BadOrdinal, C_BadTime, C_BadSpan, C_BadKey, C_BadSize, C_ShortBody, C_BadCheck, C_NotAPresentation, C_BadChange, C_BadBody, C_BadStart, C_CutOff, C_EmptyPiece, C_OtherStamp, C_WrongNumber, C_WrongOrder, C_WrongFields, C_NoTrack, C_TooManyUnits, C_WrongOrdinal, C_WrongTime, C_WrongKey, C_WrongEntry, C_WrongCount, C_WrongSum, C_MissingUnits, C_Behind, C_NoEnd, C_NotAlike, C_HasSkip, C_TooLong, C_NoHead, C_TooManyTags]) k)) (.ref C_BadNumber) == some ((fun k => k == 7) k)) = true)
    (yd_BadStamp : ((List.range 42).all fun k => PySem.W.kitOne K (.ref ((clL [C_SpoolboxError, C_OutOfRange, C_LooseNumber, C_Truncated, C_BadStuffing, C_BadKind, C_BadStamp, C_BadNumber, C_BadTrack, C_BadOrdinal, C_BadTime, C_BadSpan, C_BadKey, C_BadSize, C_ShortBody, C_BadCheck, C_NotAPresentation, C_BadChange, C_BadBody, C_BadStart, C_CutOff, C_EmptyPiece, C_OtherStamp, C_WrongNumber, C_WrongOrder, C_WrongFields, C_NoTrack, C_TooManyUnits, C_WrongOrdinal, C_WrongTime, C_WrongKey, C_WrongEntry, C_WrongCount, C_WrongSum, C_MissingUnits, C_Behind, C_NoEnd, C_NotAlike, C_HasSkip, C_TooLong, C_NoHead, C_TooManyTags]) k)) (.ref C_BadStamp) == some ((fun k => k == 6) k)) = true)
    (yd_BadKind : ((List.range 42).all fun k => PySem.W.kitOne K (.ref ((clL [C_SpoolboxError, C_OutOfRange, C_LooseNumber, C_Truncated, C_BadStuffing, C_BadKind, C_BadStamp, C_BadNumber, C_BadTrack, C_BadOrdinal, C_BadTime, C_BadSpan, C_BadKey, C_BadSize, C_ShortBody, C_BadCheck, C_NotAPresentation, C_BadChange, C_BadBody, C_BadStart, C_CutOff, C_EmptyPiece, C_OtherStamp, C_WrongNumber, C_WrongOrder, C_WrongFields, C_NoTrack, C_TooManyUnits, C_WrongOrdinal, C_WrongTime, C_WrongKey, C_WrongEntry, C_WrongCount, C_WrongSum, C_MissingUnits, C_Behind, C_NoEnd, C_NotAlike, C_HasSkip, C_TooLong, C_NoHead, C_TooManyTags]) k)) (.ref C_BadKind) == some ((fun k => k == 5) k)) = true)
    (yd_BadStuffing : ((List.range 42).all fun k => PySem.W.kitOne K (.ref ((clL [C_SpoolboxError, C_OutOfRange, C_LooseNumber, C_Truncated, C_BadStuffing, C_BadKind, C_BadStamp, C_BadNumber, C_BadTrack, C_BadOrdinal, C_BadTime, C_BadSpan, C_BadKey, C_BadSize, C_ShortBody, C_BadCheck, C_NotAPresentation, C_BadChange, C_BadBody, C_BadStart, C_CutOff, C_EmptyPiece, C_OtherStamp, C_WrongNumber, C_WrongOrder, C_WrongFields, C_NoTrack, C_TooManyUnits, C_WrongOrdinal, C_WrongTime, C_WrongKey, C_WrongEntry, C_WrongCount, C_WrongSum, C_MissingUnits, C_Behind, C_NoEnd, C_NotAlike, C_HasSkip, C_TooLong, C_NoHead, C_TooManyTags]) k)) (.ref C_BadStuffing) == some ((fun k => k == 4) k)) = true)
    (yd_Truncated : ((List.range 42).all fun k => PySem.W.kitOne K (.ref ((clL [C_SpoolboxError, C_OutOfRange, C_LooseNumber, C_Truncated, C_BadStuffing, C_BadKind, C_BadStamp, C_BadNumber, C_BadTrack, C_BadOrdinal, C_BadTime, C_BadSpan, C_BadKey, C_BadSize, C_ShortBody, C_BadCheck, C_NotAPresentation, C_BadChange, C_BadBody, C_BadStart, C_CutOff, C_EmptyPiece, C_OtherStamp, C_WrongNumber, C_WrongOrder, C_WrongFields, C_NoTrack, C_TooManyUnits, C_WrongOrdinal, C_WrongTime, C_WrongKey, C_WrongEntry, C_WrongCount, C_WrongSum, C_MissingUnits, C_Behind, C_NoEnd, C_NotAlike, C_HasSkip, C_TooLong, C_NoHead, C_TooManyTags]) k)) (.ref C_Truncated) == some ((fun k => k == 3) k)) = true)
    (yd_LooseNumber : ((List.range 42).all fun k => PySem.W.kitOne K (.ref ((clL [C_SpoolboxError, C_OutOfRange, C_LooseNumber, C_Truncated, C_BadStuffing, C_BadKind, C_BadStamp, C_BadNumber, C_BadTrack, C_BadOrdinal, C_BadTime, C_BadSpan, C_BadKey, C_BadSize, C_ShortBody, C_BadCheck, C_NotAPresentation, C_BadChange, C_BadBody, C_BadStart, C_CutOff, C_EmptyPiece, C_OtherStamp, C_WrongNumber, C_WrongOrder, C_WrongFields, C_NoTrack, C_TooManyUnits, C_WrongOrdinal, C_WrongTime, C_WrongKey, C_WrongEntry, C_WrongCount, C_WrongSum, C_MissingUnits, C_Behind, C_NoEnd, C_NotAlike, C_HasSkip, C_TooLong, C_NoHead, C_TooManyTags]) k)) (.ref C_LooseNumber) == some ((fun k => k == 2) k)) = true)
    (yd_OutOfRange : ((List.range 42).all fun k => PySem.W.kitOne K (.ref ((clL [C_SpoolboxError, C_OutOfRange, C_LooseNumber, C_Truncated, C_BadStuffing, C_BadKind, C_BadStamp, C_BadNumber, C_BadTrack, C_BadOrdinal, C_BadTime, C_BadSpan, C_BadKey, C_BadSize, C_ShortBody, C_BadCheck, C_NotAPresentation, C_BadChange, C_BadBody, C_BadStart, C_CutOff, C_EmptyPiece, C_OtherStamp, C_WrongNumber, C_WrongOrder, C_WrongFields, C_NoTrack, C_TooManyUnits, C_WrongOrdinal, C_WrongTime, C_WrongKey, C_WrongEntry, C_WrongCount, C_WrongSum, C_MissingUnits, C_Behind, C_NoEnd, C_NotAlike, C_HasSkip, C_TooLong, C_NoHead, C_TooManyTags]) k)) (.ref C_OutOfRange) == some ((fun k => k == 1) k)) = true)
    (yd_SpoolboxError : ((List.range 42).all fun k => PySem.W.kitOne K (.ref ((clL [C_SpoolboxError, C_OutOfRange, C_LooseNumber, C_Truncated, C_BadStuffing, C_BadKind, C_BadStamp, C_BadNumber, C_BadTrack, C_BadOrdinal, C_BadTime, C_BadSpan, C_BadKey, C_BadSize, C_ShortBody, C_BadCheck, C_NotAPresentation, C_BadChange, C_BadBody, C_BadStart, C_CutOff, C_EmptyPiece, C_OtherStamp, C_WrongNumber, C_WrongOrder, C_WrongFields, C_NoTrack, C_TooManyUnits, C_WrongOrdinal, C_WrongTime, C_WrongKey, C_WrongEntry, C_WrongCount, C_WrongSum, C_MissingUnits, C_Behind, C_NoEnd, C_NotAlike, C_HasSkip, C_TooLong, C_NoHead, C_TooManyTags]) k)) (.ref C_SpoolboxError) == some ((fun _ => true) k)) = true)
    (yd_ValueError : ((List.range 42).all fun k => PySem.W.kitOne K (.ref ((clL [C_SpoolboxError, C_OutOfRange, C_LooseNumber, C_Truncated, C_BadStuffing, C_BadKind, C_BadStamp, C_BadNumber, C_BadTrack, C_BadOrdinal, C_BadTime, C_BadSpan, C_BadKey, C_BadSize, C_ShortBody, C_BadCheck, C_NotAPresentation, C_BadChange, C_BadBody, C_BadStart, C_CutOff, C_EmptyPiece, C_OtherStamp, C_WrongNumber, C_WrongOrder, C_WrongFields, C_NoTrack, C_TooManyUnits, C_WrongOrdinal, C_WrongTime, C_WrongKey, C_WrongEntry, C_WrongCount, C_WrongSum, C_MissingUnits, C_Behind, C_NoEnd, C_NotAlike, C_HasSkip, C_TooLong, C_NoHead, C_TooManyTags]) k)) (.type "ValueError") == some ((fun _ => true) k)) = true)
    : ∃ fd : FuncData, (∀ (s : Shared) (v : Value), BindsTo s fd ⟨[v], []⟩ [("script", v)]) ∧ ∀ base : Heap, K.In base → base.Ns mainGlobals mg → FnOk P w K mg base (L2.CX P w) 4 fa fd ["script"] (DL.spLaw K) := by
  have e := hfa.symm.trans (PySem.W.mg_of X G a3)
  cases e
  let T : Txt K mg (clL [C_SpoolboxError, C_OutOfRange, C_LooseNumber, C_Truncated, C_BadStuffing, C_BadKind, C_BadStamp, C_BadNumber, C_BadTrack, C_BadOrdinal, C_BadTime, C_BadSpan, C_BadKey, C_BadSize, C_ShortBody, C_BadCheck, C_NotAPresentation, C_BadChange, C_BadBody, C_BadStart, C_CutOff, C_EmptyPiece, C_OtherStamp, C_WrongNumber, C_WrongOrder, C_WrongFields, C_NoTrack, C_TooManyUnits, C_WrongOrdinal, C_WrongTime, C_WrongKey, C_WrongEntry, C_WrongCount, C_WrongSum, C_MissingUnits, C_Behind, C_NoEnd, C_NotAlike, C_HasSkip, C_TooLong, C_NoHead, C_TooManyTags]) := ⟨f0, _, fun_mk l0 c0 k0, PySem.W.mg_of X G a0, (fun_mk (st := s__law_first) l0 c0 k0).binds (ps := ["k", "n"]) fun _ _ _ _ _ _ us hl => match us, hl with | [_, _], _ => rfl, f1, _, fun_mk l1 c1 k1, PySem.W.mg_of X G a1, (fun_mk (st := s__law_second) l1 c1 k1).binds (ps := ["k", "n"]) fun _ _ _ _ _ _ us hl => match us, hl with | [_, _], _ => rfl, f2, _, fun_mk l2 c2 k2, PySem.W.mg_of X G a2, (fun_mk (st := s__law_kinds) l2 c2 k2).binds (ps := ["e"]) fun _ _ _ _ _ _ us hl => match us, hl with | [_], _ => rfl, fa, _, fun_mk l3 c3 k3, PySem.W.mg_of X G a3, (fun_mk (st := s_law) l3 c3 k3).binds (ps := ["script"]) fun _ _ _ _ _ _ us hl => match us, hl with | [_], _ => rfl, PySem.W.mg_none_of X G z_isinstance, PySem.W.mg_none_of X G z_len, PySem.W.mg_none_of X G z_int, PySem.W.mg_none_of X G z_range, PySem.W.mg_none_of X G z_ValueError, PySem.W.mg_none_of X G z_bool, fI, _, ⟨fun_mk lI cI kI, tI, (fun_mk (st := s_init) lI cI kI).binds (ps := ["self", "at"]) fun _ _ _ _ _ _ us hl => match us, hl with | [_, _], _ => rfl⟩, ⟨PySem.W.mg_of X G xa_OutOfRange, ⟨⟨_, _, _, _, _, _, _, _, _, _, _, _, _, _, _, xl_OutOfRange, xr_OutOfRange⟩, xs_OutOfRange, xe_OutOfRange, xt_OutOfRange, xk_OutOfRange⟩, xn_OutOfRange, xi_OutOfRange, ⟨xg_OutOfRange, xh_OutOfRange, xe_OutOfRange, xd_OutOfRange⟩⟩, ⟨PySem.W.mg_of X G xa_LooseNumber, ⟨⟨_, _, _, _, _, _, _, _, _, _, _, _, _, _, _, xl_LooseNumber, xr_LooseNumber⟩, xs_LooseNumber, xe_LooseNumber, xt_LooseNumber, xk_LooseNumber⟩, xn_LooseNumber, xi_LooseNumber, ⟨xg_LooseNumber, xh_LooseNumber, xe_LooseNumber, xd_LooseNumber⟩⟩, ⟨PySem.W.mg_of X G xa_Truncated, ⟨⟨_, _, _, _, _, _, _, _, _, _, _, _, _, _, _, xl_Truncated, xr_Truncated⟩, xs_Truncated, xe_Truncated, xt_Truncated, xk_Truncated⟩, xn_Truncated, xi_Truncated, ⟨xg_Truncated, xh_Truncated, xe_Truncated, xd_Truncated⟩⟩, ⟨PySem.W.mg_of X G xa_BadStuffing, ⟨⟨_, _, _, _, _, _, _, _, _, _, _, _, _, _, _, xl_BadStuffing, xr_BadStuffing⟩, xs_BadStuffing, xe_BadStuffing, xt_BadStuffing, xk_BadStuffing⟩, xn_BadStuffing, xi_BadStuffing, ⟨xg_BadStuffing, xh_BadStuffing, xe_BadStuffing, xd_BadStuffing⟩⟩, ⟨PySem.W.mg_of X G xa_BadKind, ⟨⟨_, _, _, _, _, _, _, _, _, _, _, _, _, _, _, xl_BadKind, xr_BadKind⟩, xs_BadKind, xe_BadKind, xt_BadKind, xk_BadKind⟩, xn_BadKind, xi_BadKind, ⟨xg_BadKind, xh_BadKind, xe_BadKind, xd_BadKind⟩⟩, ⟨PySem.W.mg_of X G xa_BadStamp, ⟨⟨_, _, _, _, _, _, _, _, _, _, _, _, _, _, _, xl_BadStamp, xr_BadStamp⟩, xs_BadStamp, xe_BadStamp, xt_BadStamp, xk_BadStamp⟩, xn_BadStamp, xi_BadStamp, ⟨xg_BadStamp, xh_BadStamp, xe_BadStamp, xd_BadStamp⟩⟩, ⟨PySem.W.mg_of X G xa_BadNumber, ⟨⟨_, _, _, _, _, _, _, _, _, _, _, _, _, _, _, xl_BadNumber, xr_BadNumber⟩, xs_BadNumber, xe_BadNumber, xt_BadNumber, xk_BadNumber⟩, xn_BadNumber, xi_BadNumber, ⟨xg_BadNumber, xh_BadNumber, xe_BadNumber, xd_BadNumber⟩⟩, ⟨PySem.W.mg_of X G xa_BadTrack, ⟨⟨_, _, _, _, _, _, _, _, _, _, _, _, _, _, _, xl_BadTrack, xr_BadTrack⟩, xs_BadTrack, xe_BadTrack, xt_BadTrack, xk_BadTrack⟩, xn_BadTrack, xi_BadTrack, ⟨xg_BadTrack, xh_BadTrack, xe_BadTrack, xd_BadTrack⟩⟩, ⟨PySem.W.mg_of X G xa_BadOrdinal, ⟨⟨_, _, _, _, _, _, _, _, _, _, _, _, _, _, _, xl_BadOrdinal, xr_BadOrdinal⟩, xs_BadOrdinal, xe_BadOrdinal, xt_BadOrdinal, xk_BadOrdinal⟩, xn_BadOrdinal, xi_BadOrdinal, ⟨xg_BadOrdinal, xh_BadOrdinal, xe_BadOrdinal, xd_BadOrdinal⟩⟩, ⟨PySem.W.mg_of X G xa_BadTime, ⟨⟨_, _, _, _, _, _, _, _, _, _, _, _, _, _, _, xl_BadTime, xr_BadTime⟩, xs_BadTime, xe_BadTime, xt_BadTime, xk_BadTime⟩, xn_BadTime, xi_BadTime, ⟨xg_BadTime, xh_BadTime, xe_BadTime, xd_BadTime⟩⟩, ⟨PySem.W.mg_of X G xa_BadSpan, ⟨⟨_, _, _, _, _, _, _, _, _, _, _, _, _, _, _, xl_BadSpan, xr_BadSpan⟩, xs_BadSpan, xe_BadSpan, xt_BadSpan, xk_BadSpan⟩, xn_BadSpan, xi_BadSpan, ⟨xg_BadSpan, xh_BadSpan, xe_BadSpan, xd_BadSpan⟩⟩, ⟨PySem.W.mg_of X G xa_BadKey, ⟨⟨_, _, _, _, _, _, _, _, _, _, _, _, _, _, _, xl_BadKey, xr_BadKey⟩, xs_BadKey, xe_BadKey, xt_BadKey, xk_BadKey⟩, xn_BadKey, xi_BadKey, ⟨xg_BadKey, xh_BadKey, xe_BadKey, xd_BadKey⟩⟩, ⟨PySem.W.mg_of X G xa_BadSize, ⟨⟨_, _, _, _, _, _, _, _, _, _, _, _, _, _, _, xl_BadSize, xr_BadSize⟩, xs_BadSize, xe_BadSize, xt_BadSize, xk_BadSize⟩, xn_BadSize, xi_BadSize, ⟨xg_BadSize, xh_BadSize, xe_BadSize, xd_BadSize⟩⟩, ⟨PySem.W.mg_of X G xa_ShortBody, ⟨⟨_, _, _, _, _, _, _, _, _, _, _, _, _, _, _, xl_ShortBody, xr_ShortBody⟩, xs_ShortBody, xe_ShortBody, xt_ShortBody, xk_ShortBody⟩, xn_ShortBody, xi_ShortBody, ⟨xg_ShortBody, xh_ShortBody, xe_ShortBody, xd_ShortBody⟩⟩, ⟨PySem.W.mg_of X G xa_BadCheck, ⟨⟨_, _, _, _, _, _, _, _, _, _, _, _, _, _, _, xl_BadCheck, xr_BadCheck⟩, xs_BadCheck, xe_BadCheck, xt_BadCheck, xk_BadCheck⟩, xn_BadCheck, xi_BadCheck, ⟨xg_BadCheck, xh_BadCheck, xe_BadCheck, xd_BadCheck⟩⟩, ⟨PySem.W.mg_of X G xa_NotAPresentation, ⟨⟨_, _, _, _, _, _, _, _, _, _, _, _, _, _, _, xl_NotAPresentation, xr_NotAPresentation⟩, xs_NotAPresentation, xe_NotAPresentation, xt_NotAPresentation, xk_NotAPresentation⟩, xn_NotAPresentation, xi_NotAPresentation, ⟨xg_NotAPresentation, xh_NotAPresentation, xe_NotAPresentation, xd_NotAPresentation⟩⟩, ⟨PySem.W.mg_of X G xa_BadChange, ⟨⟨_, _, _, _, _, _, _, _, _, _, _, _, _, _, _, xl_BadChange, xr_BadChange⟩, xs_BadChange, xe_BadChange, xt_BadChange, xk_BadChange⟩, xn_BadChange, xi_BadChange, ⟨xg_BadChange, xh_BadChange, xe_BadChange, xd_BadChange⟩⟩, ⟨PySem.W.mg_of X G xa_BadBody, ⟨⟨_, _, _, _, _, _, _, _, _, _, _, _, _, _, _, xl_BadBody, xr_BadBody⟩, xs_BadBody, xe_BadBody, xt_BadBody, xk_BadBody⟩, xn_BadBody, xi_BadBody, ⟨xg_BadBody, xh_BadBody, xe_BadBody, xd_BadBody⟩⟩, ⟨PySem.W.mg_of X G xa_BadStart, ⟨⟨_, _, _, _, _, _, _, _, _, _, _, _, _, _, _, xl_BadStart, xr_BadStart⟩, xs_BadStart, xe_BadStart, xt_BadStart, xk_BadStart⟩, xn_BadStart, xi_BadStart, ⟨xg_BadStart, xh_BadStart, xe_BadStart, xd_BadStart⟩⟩, ⟨PySem.W.mg_of X G xa_CutOff, ⟨⟨_, _, _, _, _, _, _, _, _, _, _, _, _, _, _, xl_CutOff, xr_CutOff⟩, xs_CutOff, xe_CutOff, xt_CutOff, xk_CutOff⟩, xn_CutOff, xi_CutOff, ⟨xg_CutOff, xh_CutOff, xe_CutOff, xd_CutOff⟩⟩, ⟨PySem.W.mg_of X G xa_EmptyPiece, ⟨⟨_, _, _, _, _, _, _, _, _, _, _, _, _, _, _, xl_EmptyPiece, xr_EmptyPiece⟩, xs_EmptyPiece, xe_EmptyPiece, xt_EmptyPiece, xk_EmptyPiece⟩, xn_EmptyPiece, xi_EmptyPiece, ⟨xg_EmptyPiece, xh_EmptyPiece, xe_EmptyPiece, xd_EmptyPiece⟩⟩, ⟨PySem.W.mg_of X G xa_OtherStamp, ⟨⟨_, _, _, _, _, _, _, _, _, _, _, _, _, _, _, xl_OtherStamp, xr_OtherStamp⟩, xs_OtherStamp, xe_OtherStamp, xt_OtherStamp, xk_OtherStamp⟩, xn_OtherStamp, xi_OtherStamp, ⟨xg_OtherStamp, xh_OtherStamp, xe_OtherStamp, xd_OtherStamp⟩⟩, ⟨PySem.W.mg_of X G xa_WrongNumber, ⟨⟨_, _, _, _, _, _, _, _, _, _, _, _, _, _, _, xl_WrongNumber, xr_WrongNumber⟩, xs_WrongNumber, xe_WrongNumber, xt_WrongNumber, xk_WrongNumber⟩, xn_WrongNumber, xi_WrongNumber, ⟨xg_WrongNumber, xh_WrongNumber, xe_WrongNumber, xd_WrongNumber⟩⟩, ⟨PySem.W.mg_of X G xa_WrongOrder, ⟨⟨_, _, _, _, _, _, _, _, _, _, _, _, _, _, _, xl_WrongOrder, xr_WrongOrder⟩, xs_WrongOrder, xe_WrongOrder, xt_WrongOrder, xk_WrongOrder⟩, xn_WrongOrder, xi_WrongOrder, ⟨xg_WrongOrder, xh_WrongOrder, xe_WrongOrder, xd_WrongOrder⟩⟩, ⟨PySem.W.mg_of X G xa_WrongFields, ⟨⟨_, _, _, _, _, _, _, _, _, _, _, _, _, _, _, xl_WrongFields, xr_WrongFields⟩, xs_WrongFields, xe_WrongFields, xt_WrongFields, xk_WrongFields⟩, xn_WrongFields, xi_WrongFields, ⟨xg_WrongFields, xh_WrongFields, xe_WrongFields, xd_WrongFields⟩⟩, ⟨PySem.W.mg_of X G xa_NoTrack, ⟨⟨_, _, _, _, _, _, _, _, _, _, _, _, _, _, _, xl_NoTrack, xr_NoTrack⟩, xs_NoTrack, xe_NoTrack, xt_NoTrack, xk_NoTrack⟩, xn_NoTrack, xi_NoTrack, ⟨xg_NoTrack, xh_NoTrack, xe_NoTrack, xd_NoTrack⟩⟩, ⟨PySem.W.mg_of X G xa_TooManyUnits, ⟨⟨_, _, _, _, _, _, _, _, _, _, _, _, _, _, _, xl_TooManyUnits, xr_TooManyUnits⟩, xs_TooManyUnits, xe_TooManyUnits, xt_TooManyUnits, xk_TooManyUnits⟩, xn_TooManyUnits, xi_TooManyUnits, ⟨xg_TooManyUnits, xh_TooManyUnits, xe_TooManyUnits, xd_TooManyUnits⟩⟩, ⟨PySem.W.mg_of X G xa_WrongOrdinal, ⟨⟨_, _, _, _, _, _, _, _, _, _, _, _, _, _, _, xl_WrongOrdinal, xr_WrongOrdinal⟩, xs_WrongOrdinal, xe_WrongOrdinal, xt_WrongOrdinal, xk_WrongOrdinal⟩, xn_WrongOrdinal, xi_WrongOrdinal, ⟨xg_WrongOrdinal, xh_WrongOrdinal, xe_WrongOrdinal, xd_WrongOrdinal⟩⟩, ⟨PySem.W.mg_of X G xa_WrongTime, ⟨⟨_, _, _, _, _, _, _, _, _, _, _, _, _, _, _, xl_WrongTime, xr_WrongTime⟩, xs_WrongTime, xe_WrongTime, xt_WrongTime, xk_WrongTime⟩, xn_WrongTime, xi_WrongTime, ⟨xg_WrongTime, xh_WrongTime, xe_WrongTime, xd_WrongTime⟩⟩, ⟨PySem.W.mg_of X G xa_WrongKey, ⟨⟨_, _, _, _, _, _, _, _, _, _, _, _, _, _, _, xl_WrongKey, xr_WrongKey⟩, xs_WrongKey, xe_WrongKey, xt_WrongKey, xk_WrongKey⟩, xn_WrongKey, xi_WrongKey, ⟨xg_WrongKey, xh_WrongKey, xe_WrongKey, xd_WrongKey⟩⟩, ⟨PySem.W.mg_of X G xa_WrongEntry, ⟨⟨_, _, _, _, _, _, _, _, _, _, _, _, _, _, _, xl_WrongEntry, xr_WrongEntry⟩, xs_WrongEntry, xe_WrongEntry, xt_WrongEntry, xk_WrongEntry⟩, xn_WrongEntry, xi_WrongEntry, ⟨xg_WrongEntry, xh_WrongEntry, xe_WrongEntry, xd_WrongEntry⟩⟩, ⟨PySem.W.mg_of X G xa_WrongCount, ⟨⟨_, _, _, _, _, _, _, _, _, _, _, _, _, _, _, xl_WrongCount, xr_WrongCount⟩, xs_WrongCount, xe_WrongCount, xt_WrongCount, xk_WrongCount⟩, xn_WrongCount, xi_WrongCount, ⟨xg_WrongCount, xh_WrongCount, xe_WrongCount, xd_WrongCount⟩⟩, ⟨PySem.W.mg_of X G xa_WrongSum, ⟨⟨_, _, _, _, _, _, _, _, _, _, _, _, _, _, _, xl_WrongSum, xr_WrongSum⟩, xs_WrongSum, xe_WrongSum, xt_WrongSum, xk_WrongSum⟩, xn_WrongSum, xi_WrongSum, ⟨xg_WrongSum, xh_WrongSum, xe_WrongSum, xd_WrongSum⟩⟩, ⟨PySem.W.mg_of X G xa_MissingUnits, ⟨⟨_, _, _, _, _, _, _, _, _, _, _, _, _, _, _, xl_MissingUnits, xr_MissingUnits⟩, xs_MissingUnits, xe_MissingUnits, xt_MissingUnits, xk_MissingUnits⟩, xn_MissingUnits, xi_MissingUnits, ⟨xg_MissingUnits, xh_MissingUnits, xe_MissingUnits, xd_MissingUnits⟩⟩, ⟨PySem.W.mg_of X G xa_Behind, ⟨⟨_, _, _, _, _, _, _, _, _, _, _, _, _, _, _, xl_Behind, xr_Behind⟩, xs_Behind, xe_Behind, xt_Behind, xk_Behind⟩, xn_Behind, xi_Behind, ⟨xg_Behind, xh_Behind, xe_Behind, xd_Behind⟩⟩, ⟨PySem.W.mg_of X G xa_NoEnd, ⟨⟨_, _, _, _, _, _, _, _, _, _, _, _, _, _, _, xl_NoEnd, xr_NoEnd⟩, xs_NoEnd, xe_NoEnd, xt_NoEnd, xk_NoEnd⟩, xn_NoEnd, xi_NoEnd, ⟨xg_NoEnd, xh_NoEnd, xe_NoEnd, xd_NoEnd⟩⟩, ⟨PySem.W.mg_of X G xa_NotAlike, ⟨⟨_, _, _, _, _, _, _, _, _, _, _, _, _, _, _, xl_NotAlike, xr_NotAlike⟩, xs_NotAlike, xe_NotAlike, xt_NotAlike, xk_NotAlike⟩, xn_NotAlike, xi_NotAlike, ⟨xg_NotAlike, xh_NotAlike, xe_NotAlike, xd_NotAlike⟩⟩, ⟨PySem.W.mg_of X G xa_HasSkip, ⟨⟨_, _, _, _, _, _, _, _, _, _, _, _, _, _, _, xl_HasSkip, xr_HasSkip⟩, xs_HasSkip, xe_HasSkip, xt_HasSkip, xk_HasSkip⟩, xn_HasSkip, xi_HasSkip, ⟨xg_HasSkip, xh_HasSkip, xe_HasSkip, xd_HasSkip⟩⟩, ⟨PySem.W.mg_of X G xa_TooLong, ⟨⟨_, _, _, _, _, _, _, _, _, _, _, _, _, _, _, xl_TooLong, xr_TooLong⟩, xs_TooLong, xe_TooLong, xt_TooLong, xk_TooLong⟩, xn_TooLong, xi_TooLong, ⟨xg_TooLong, xh_TooLong, xe_TooLong, xd_TooLong⟩⟩, ⟨PySem.W.mg_of X G xa_NoHead, ⟨⟨_, _, _, _, _, _, _, _, _, _, _, _, _, _, _, xl_NoHead, xr_NoHead⟩, xs_NoHead, xe_NoHead, xt_NoHead, xk_NoHead⟩, xn_NoHead, xi_NoHead, ⟨xg_NoHead, xh_NoHead, xe_NoHead, xd_NoHead⟩⟩, ⟨PySem.W.mg_of X G xa_TooManyTags, ⟨⟨_, _, _, _, _, _, _, _, _, _, _, _, _, _, _, xl_TooManyTags, xr_TooManyTags⟩, xs_TooManyTags, xe_TooManyTags, xt_TooManyTags, xk_TooManyTags⟩, xn_TooManyTags, xi_TooManyTags, ⟨xg_TooManyTags, xh_TooManyTags, xe_TooManyTags, xd_TooManyTags⟩⟩, ⟨PySem.W.mg_of X G xa_SpoolboxError, ⟨⟨_, _, _, _, _, _, _, _, _, _, _, _, _, _, _, xl_SpoolboxError, xr_SpoolboxError⟩, xs_SpoolboxError, xe_SpoolboxError, xt_SpoolboxError, xk_SpoolboxError⟩, xn_SpoolboxError, xi_SpoolboxError, ⟨xg_SpoolboxError, xh_SpoolboxError, xe_SpoolboxError, xd_SpoolboxError⟩⟩, PySem.W.mg_of X G xa_TooManyTags, PySem.W.mg_of X G xa_NoHead, PySem.W.mg_of X G xa_TooLong, PySem.W.mg_of X G xa_HasSkip, PySem.W.mg_of X G xa_NotAlike, PySem.W.mg_of X G xa_NoEnd, PySem.W.mg_of X G xa_Behind, PySem.W.mg_of X G xa_MissingUnits, PySem.W.mg_of X G xa_WrongSum, PySem.W.mg_of X G xa_WrongCount, PySem.W.mg_of X G xa_WrongEntry, PySem.W.mg_of X G xa_WrongKey, PySem.W.mg_of X G xa_WrongTime, PySem.W.mg_of X G xa_WrongOrdinal, PySem.W.mg_of X G xa_TooManyUnits, PySem.W.mg_of X G xa_NoTrack, PySem.W.mg_of X G xa_WrongFields, PySem.W.mg_of X G xa_WrongOrder, PySem.W.mg_of X G xa_WrongNumber, PySem.W.mg_of X G xa_OtherStamp, PySem.W.mg_of X G xa_EmptyPiece, PySem.W.mg_of X G xa_CutOff, PySem.W.mg_of X G xa_BadStart, PySem.W.mg_of X G xa_BadBody, PySem.W.mg_of X G xa_BadChange, PySem.W.mg_of X G xa_NotAPresentation, PySem.W.mg_of X G xa_BadCheck, PySem.W.mg_of X G xa_ShortBody, PySem.W.mg_of X G xa_BadSize, PySem.W.mg_of X G xa_BadKey, PySem.W.mg_of X G xa_BadSpan, PySem.W.mg_of X G xa_BadTime, PySem.W.mg_of X G xa_BadOrdinal, PySem.W.mg_of X G xa_BadTrack, PySem.W.mg_of X G xa_BadNumber, PySem.W.mg_of X G xa_BadStamp, PySem.W.mg_of X G xa_BadKind, PySem.W.mg_of X G xa_BadStuffing, PySem.W.mg_of X G xa_Truncated, PySem.W.mg_of X G xa_LooseNumber, PySem.W.mg_of X G xa_OutOfRange, PySem.W.mg_of X G xa_SpoolboxError, ⟨⟨xg_SpoolboxError, xh_SpoolboxError, xe_SpoolboxError, xd_SpoolboxError⟩, xn_SpoolboxError, ⟨xg_SpoolboxError, xh_SpoolboxError, xe_SpoolboxError, xd_SpoolboxError, xc_SpoolboxError, yn, yt, xm_SpoolboxError⟩⟩, ⟨⟨xg_OutOfRange, xh_OutOfRange, xe_OutOfRange, xd_OutOfRange⟩, xn_OutOfRange, ⟨xg_OutOfRange, xh_OutOfRange, xe_OutOfRange, xd_OutOfRange, xc_OutOfRange, yn, yt, xm_OutOfRange⟩⟩, ⟨⟨xg_LooseNumber, xh_LooseNumber, xe_LooseNumber, xd_LooseNumber⟩, xn_LooseNumber, ⟨xg_LooseNumber, xh_LooseNumber, xe_LooseNumber, xd_LooseNumber, xc_LooseNumber, yn, yt, xm_LooseNumber⟩⟩, ⟨⟨xg_Truncated, xh_Truncated, xe_Truncated, xd_Truncated⟩, xn_Truncated, ⟨xg_Truncated, xh_Truncated, xe_Truncated, xd_Truncated, xc_Truncated, yn, yt, xm_Truncated⟩⟩, ⟨⟨xg_BadStuffing, xh_BadStuffing, xe_BadStuffing, xd_BadStuffing⟩, xn_BadStuffing, ⟨xg_BadStuffing, xh_BadStuffing, xe_BadStuffing, xd_BadStuffing, xc_BadStuffing, yn, yt, xm_BadStuffing⟩⟩, ⟨⟨xg_BadKind, xh_BadKind, xe_BadKind, xd_BadKind⟩, xn_BadKind, ⟨xg_BadKind, xh_BadKind, xe_BadKind, xd_BadKind, xc_BadKind, yn, yt, xm_BadKind⟩⟩, ⟨⟨xg_BadStamp, xh_BadStamp, xe_BadStamp, xd_BadStamp⟩, xn_BadStamp, ⟨xg_BadStamp, xh_BadStamp, xe_BadStamp, xd_BadStamp, xc_BadStamp, yn, yt, xm_BadStamp⟩⟩, ⟨⟨xg_BadNumber, xh_BadNumber, xe_BadNumber, xd_BadNumber⟩, xn_BadNumber, ⟨xg_BadNumber, xh_BadNumber, xe_BadNumber, xd_BadNumber, xc_BadNumber, yn, yt, xm_BadNumber⟩⟩, ⟨⟨xg_BadTrack, xh_BadTrack, xe_BadTrack, xd_BadTrack⟩, xn_BadTrack, ⟨xg_BadTrack, xh_BadTrack, xe_BadTrack, xd_BadTrack, xc_BadTrack, yn, yt, xm_BadTrack⟩⟩, ⟨⟨xg_BadOrdinal, xh_BadOrdinal, xe_BadOrdinal, xd_BadOrdinal⟩, xn_BadOrdinal, ⟨xg_BadOrdinal, xh_BadOrdinal, xe_BadOrdinal, xd_BadOrdinal, xc_BadOrdinal, yn, yt, xm_BadOrdinal⟩⟩, ⟨⟨xg_BadTime, xh_BadTime, xe_BadTime, xd_BadTime⟩, xn_BadTime, ⟨xg_BadTime, xh_BadTime, xe_BadTime, xd_BadTime, xc_BadTime, yn, yt, xm_BadTime⟩⟩, ⟨⟨xg_BadSpan, xh_BadSpan, xe_BadSpan, xd_BadSpan⟩, xn_BadSpan, ⟨xg_BadSpan, xh_BadSpan, xe_BadSpan, xd_BadSpan, xc_BadSpan, yn, yt, xm_BadSpan⟩⟩, ⟨⟨xg_BadKey, xh_BadKey, xe_BadKey, xd_BadKey⟩, xn_BadKey, ⟨xg_BadKey, xh_BadKey, xe_BadKey, xd_BadKey, xc_BadKey, yn, yt, xm_BadKey⟩⟩, ⟨⟨xg_BadSize, xh_BadSize, xe_BadSize, xd_BadSize⟩, xn_BadSize, ⟨xg_BadSize, xh_BadSize, xe_BadSize, xd_BadSize, xc_BadSize, yn, yt, xm_BadSize⟩⟩, ⟨⟨xg_ShortBody, xh_ShortBody, xe_ShortBody, xd_ShortBody⟩, xn_ShortBody, ⟨xg_ShortBody, xh_ShortBody, xe_ShortBody, xd_ShortBody, xc_ShortBody, yn, yt, xm_ShortBody⟩⟩, ⟨⟨xg_BadCheck, xh_BadCheck, xe_BadCheck, xd_BadCheck⟩, xn_BadCheck, ⟨xg_BadCheck, xh_BadCheck, xe_BadCheck, xd_BadCheck, xc_BadCheck, yn, yt, xm_BadCheck⟩⟩, ⟨⟨xg_NotAPresentation, xh_NotAPresentation, xe_NotAPresentation, xd_NotAPresentation⟩, xn_NotAPresentation, ⟨xg_NotAPresentation, xh_NotAPresentation, xe_NotAPresentation, xd_NotAPresentation, xc_NotAPresentation, yn, yt, xm_NotAPresentation⟩⟩, ⟨⟨xg_BadChange, xh_BadChange, xe_BadChange, xd_BadChange⟩, xn_BadChange, ⟨xg_BadChange, xh_BadChange, xe_BadChange, xd_BadChange, xc_BadChange, yn, yt, xm_BadChange⟩⟩, ⟨⟨xg_BadBody, xh_BadBody, xe_BadBody, xd_BadBody⟩, xn_BadBody, ⟨xg_BadBody, xh_BadBody, xe_BadBody, xd_BadBody, xc_BadBody, yn, yt, xm_BadBody⟩⟩, ⟨⟨xg_BadStart, xh_BadStart, xe_BadStart, xd_BadStart⟩, xn_BadStart, ⟨xg_BadStart, xh_BadStart, xe_BadStart, xd_BadStart, xc_BadStart, yn, yt, xm_BadStart⟩⟩, ⟨⟨xg_CutOff, xh_CutOff, xe_CutOff, xd_CutOff⟩, xn_CutOff, ⟨xg_CutOff, xh_CutOff, xe_CutOff, xd_CutOff, xc_CutOff, yn, yt, xm_CutOff⟩⟩, ⟨⟨xg_EmptyPiece, xh_EmptyPiece, xe_EmptyPiece, xd_EmptyPiece⟩, xn_EmptyPiece, ⟨xg_EmptyPiece, xh_EmptyPiece, xe_EmptyPiece, xd_EmptyPiece, xc_EmptyPiece, yn, yt, xm_EmptyPiece⟩⟩, ⟨⟨xg_OtherStamp, xh_OtherStamp, xe_OtherStamp, xd_OtherStamp⟩, xn_OtherStamp, ⟨xg_OtherStamp, xh_OtherStamp, xe_OtherStamp, xd_OtherStamp, xc_OtherStamp, yn, yt, xm_OtherStamp⟩⟩, ⟨⟨xg_WrongNumber, xh_WrongNumber, xe_WrongNumber, xd_WrongNumber⟩, xn_WrongNumber, ⟨xg_WrongNumber, xh_WrongNumber, xe_WrongNumber, xd_WrongNumber, xc_WrongNumber, yn, yt, xm_WrongNumber⟩⟩, ⟨⟨xg_WrongOrder, xh_WrongOrder, xe_WrongOrder, xd_WrongOrder⟩, xn_WrongOrder, ⟨xg_WrongOrder, xh_WrongOrder, xe_WrongOrder, xd_WrongOrder, xc_WrongOrder, yn, yt, xm_WrongOrder⟩⟩, ⟨⟨xg_WrongFields, xh_WrongFields, xe_WrongFields, xd_WrongFields⟩, xn_WrongFields, ⟨xg_WrongFields, xh_WrongFields, xe_WrongFields, xd_WrongFields, xc_WrongFields, yn, yt, xm_WrongFields⟩⟩, ⟨⟨xg_NoTrack, xh_NoTrack, xe_NoTrack, xd_NoTrack⟩, xn_NoTrack, ⟨xg_NoTrack, xh_NoTrack, xe_NoTrack, xd_NoTrack, xc_NoTrack, yn, yt, xm_NoTrack⟩⟩, ⟨⟨xg_TooManyUnits, xh_TooManyUnits, xe_TooManyUnits, xd_TooManyUnits⟩, xn_TooManyUnits, ⟨xg_TooManyUnits, xh_TooManyUnits, xe_TooManyUnits, xd_TooManyUnits, xc_TooManyUnits, yn, yt, xm_TooManyUnits⟩⟩, ⟨⟨xg_WrongOrdinal, xh_WrongOrdinal, xe_WrongOrdinal, xd_WrongOrdinal⟩, xn_WrongOrdinal, ⟨xg_WrongOrdinal, xh_WrongOrdinal, xe_WrongOrdinal, xd_WrongOrdinal, xc_WrongOrdinal, yn, yt, xm_WrongOrdinal⟩⟩, ⟨⟨xg_WrongTime, xh_WrongTime, xe_WrongTime, xd_WrongTime⟩, xn_WrongTime, ⟨xg_WrongTime, xh_WrongTime, xe_WrongTime, xd_WrongTime, xc_WrongTime, yn, yt, xm_WrongTime⟩⟩, ⟨⟨xg_WrongKey, xh_WrongKey, xe_WrongKey, xd_WrongKey⟩, xn_WrongKey, ⟨xg_WrongKey, xh_WrongKey, xe_WrongKey, xd_WrongKey, xc_WrongKey, yn, yt, xm_WrongKey⟩⟩, ⟨⟨xg_WrongEntry, xh_WrongEntry, xe_WrongEntry, xd_WrongEntry⟩, xn_WrongEntry, ⟨xg_WrongEntry, xh_WrongEntry, xe_WrongEntry, xd_WrongEntry, xc_WrongEntry, yn, yt, xm_WrongEntry⟩⟩, ⟨⟨xg_WrongCount, xh_WrongCount, xe_WrongCount, xd_WrongCount⟩, xn_WrongCount, ⟨xg_WrongCount, xh_WrongCount, xe_WrongCount, xd_WrongCount, xc_WrongCount, yn, yt, xm_WrongCount⟩⟩, ⟨⟨xg_WrongSum, xh_WrongSum, xe_WrongSum, xd_WrongSum⟩, xn_WrongSum, ⟨xg_WrongSum, xh_WrongSum, xe_WrongSum, xd_WrongSum, xc_WrongSum, yn, yt, xm_WrongSum⟩⟩, ⟨⟨xg_MissingUnits, xh_MissingUnits, xe_MissingUnits, xd_MissingUnits⟩, xn_MissingUnits, ⟨xg_MissingUnits, xh_MissingUnits, xe_MissingUnits, xd_MissingUnits, xc_MissingUnits, yn, yt, xm_MissingUnits⟩⟩, ⟨⟨xg_Behind, xh_Behind, xe_Behind, xd_Behind⟩, xn_Behind, ⟨xg_Behind, xh_Behind, xe_Behind, xd_Behind, xc_Behind, yn, yt, xm_Behind⟩⟩, ⟨⟨xg_NoEnd, xh_NoEnd, xe_NoEnd, xd_NoEnd⟩, xn_NoEnd, ⟨xg_NoEnd, xh_NoEnd, xe_NoEnd, xd_NoEnd, xc_NoEnd, yn, yt, xm_NoEnd⟩⟩, ⟨⟨xg_NotAlike, xh_NotAlike, xe_NotAlike, xd_NotAlike⟩, xn_NotAlike, ⟨xg_NotAlike, xh_NotAlike, xe_NotAlike, xd_NotAlike, xc_NotAlike, yn, yt, xm_NotAlike⟩⟩, ⟨⟨xg_HasSkip, xh_HasSkip, xe_HasSkip, xd_HasSkip⟩, xn_HasSkip, ⟨xg_HasSkip, xh_HasSkip, xe_HasSkip, xd_HasSkip, xc_HasSkip, yn, yt, xm_HasSkip⟩⟩, ⟨⟨xg_TooLong, xh_TooLong, xe_TooLong, xd_TooLong⟩, xn_TooLong, ⟨xg_TooLong, xh_TooLong, xe_TooLong, xd_TooLong, xc_TooLong, yn, yt, xm_TooLong⟩⟩, ⟨⟨xg_NoHead, xh_NoHead, xe_NoHead, xd_NoHead⟩, xn_NoHead, ⟨xg_NoHead, xh_NoHead, xe_NoHead, xd_NoHead, xc_NoHead, yn, yt, xm_NoHead⟩⟩, ⟨⟨xg_TooManyTags, xh_TooManyTags, xe_TooManyTags, xd_TooManyTags⟩, xn_TooManyTags, ⟨xg_TooManyTags, xh_TooManyTags, xe_TooManyTags, xd_TooManyTags, xc_TooManyTags, yn, yt, xm_TooManyTags⟩⟩, kd_of yd_TooManyTags, kd_of yd_NoHead, kd_of yd_TooLong, kd_of yd_HasSkip, kd_of yd_NotAlike, kd_of yd_NoEnd, kd_of yd_Behind, kd_of yd_MissingUnits, kd_of yd_WrongSum, kd_of yd_WrongCount, kd_of yd_WrongEntry, kd_of yd_WrongKey, kd_of yd_WrongTime, kd_of yd_WrongOrdinal, kd_of yd_TooManyUnits, kd_of yd_NoTrack, kd_of yd_WrongFields, kd_of yd_WrongOrder, kd_of yd_WrongNumber, kd_of yd_OtherStamp, kd_of yd_EmptyPiece, kd_of yd_CutOff, kd_of yd_BadStart, kd_of yd_BadBody, kd_of yd_BadChange, kd_of yd_NotAPresentation, kd_of yd_BadCheck, kd_of yd_ShortBody, kd_of yd_BadSize, kd_of yd_BadKey, kd_of yd_BadSpan, kd_of yd_BadTime, kd_of yd_BadOrdinal, kd_of yd_BadTrack, kd_of yd_BadNumber, kd_of yd_BadStamp, kd_of yd_BadKind, kd_of yd_BadStuffing, kd_of yd_Truncated, kd_of yd_LooseNumber, kd_of yd_OutOfRange, kd_of yd_SpoolboxError, kd_of yd_ValueError⟩
  exact ⟨T.fd_law, fun s v => .of_eq rfl, fun base _ _ => law_sp (hl _ cd) (ok_law T)⟩
end K07
set_option Elab.async false
set_option linter.all false
set_option maxRecDepth 100000
set_option maxHeartbeats 1000000
/-! DM1: reckoning with the functions of data: places, ranges, loops. -/
namespace DL
open PySem PySem.Spec PyProof.Rows L2
/-! ### places -/
theorem atI_of {α : Type} {xs : List α} {i : Int} (h0 : 0 ≤ i) (h1 : i < xs.length) : atI xs i = some (xs[i.toNat]'(by omega)) := by
  unfold atI ixN
  rw [if_pos h0, if_pos h1]
  exact List.getElem?_eq_getElem _
theorem atI_map {α β : Type} (f : α → β) (xs : List α) (i : Int) : atI (xs.map f) i = (atI xs i).map f := by
  unfold atI
  rw [List.length_map]
  cases ixN xs.length i with
  | none => rfl
  | some j => simp
theorem cMod_ok {i j : Int} (h : 0 < j) : cMod i j = true := decide_eq_true h
theorem cDiv_is {i j : Int} (h : 0 < j) (h2 : j < 1073741824) : cDiv i j = true := by
  unfold cDiv
  rw [decide_eq_true h, decide_eq_true h2]
  rfl
theorem cMul_l {i j : Int} (h : -1000000000 < i) (h2 : i < 1000000000) : cMul i j = true := by
  unfold cMul
  rw [decide_eq_true (show -(2 ^ 64) < i by omega), decide_eq_true (show i < 2 ^ 64 by omega)]
  rfl
theorem cMul_r {i j : Int} (h : -1000000000 < j) (h2 : j < 1000000000) : cMul i j = true := by
  unfold cMul
  rw [decide_eq_true (show -(2 ^ 64) < j by omega), decide_eq_true (show j < 2 ^ 64 by omega)]
  exact Bool.or_true _
theorem cPow_is {i j : Int} (h0 : 0 ≤ j) (h1 : j ≤ 1000000) (h2 : -1000000000 < i) (h3 : i < 1000000000) : cPow i j = true := by
  unfold cPow
  rw [decide_eq_true h0, decide_eq_true h1, decide_eq_true (show i.natAbs < 2 ^ 64 by omega)]
  rfl
theorem cShr_ok {i j : Int} (h : 0 ≤ j) : cShr i j = true := decide_eq_true h
theorem cRng_is {j : Int} (h : -1000000000 < j) (h2 : j < 1000000000) : cRng j = true := by
  unfold cRng
  rw [decide_eq_true (show -(2 ^ 62) ≤ j by omega), decide_eq_true (show j < 2 ^ 62 by omega)]
  rfl
theorem lineOk_small {n : Nat} (h : n ≤ 16777216) : lineOk n = true := decide_eq_true h
/-! ### equality of data -/
theorem eqvAll_ints : ∀ (ns ms : List Int), PyData.eqvAll (ns.map PyData.int) (ms.map PyData.int) = decide (ns = ms)
  | [], [] => rfl
  | [], _ :: _ => rfl
  | _ :: _, [] => rfl
  | n :: ns, m :: ms => by
    show (PyData.eqv (.int n) (.int m) && PyData.eqvAll (ns.map PyData.int) (ms.map PyData.int)) = _
    rw [eqvAll_ints ns ms]
    show ((n == m) && decide (ns = ms)) = _
    by_cases h1 : n = m
    · by_cases h2 : ns = ms
      · simp [h1, h2]
      · simp [h1, h2]
    · simp [h1]
theorem canLay_ints : ∀ ns : List Int, PyData.canLayAll0 (ns.map PyData.int) = true
  | [] => rfl
  | n :: ns => canLay_ints ns
theorem depth_ints : ∀ ns : List Int, PyData.depthAll (ns.map PyData.int) = 0
  | [] => rfl
  | n :: ns => by
    show max 0 (PyData.depthAll (ns.map PyData.int)) = 0
    rw [depth_ints ns]
    rfl
@[simp] theorem shaped_int (i : Int) : SeqAt.shaped (.int i) = true := rfl
@[simp] theorem shaped_bool (i : Bool) : SeqAt.shaped (.bool i) = true := rfl
@[simp] theorem shaped_none : SeqAt.shaped .none = true := rfl
@[simp] theorem shaped_ints (ns : List Int) : SeqAt.shaped (.list (ns.map PyData.int)) = true := by
  unfold SeqAt.shaped
  have h1 : PyData.canLay0 (.list (ns.map PyData.int)) = true := canLay_ints ns
  have h2 : PyData.depth (.list (ns.map PyData.int)) = 1 := by
    show PyData.depthAll (ns.map PyData.int) + 1 = 1
    rw [depth_ints ns]
  rw [h1, h2]
  rfl
theorem eqD_refl {d : D} (h : SeqAt.shaped d = true) : eqD d d = some true := by
  unfold eqD
  rw [h]
  show some (PyData.eqv d d) = some true
  rw [SeqAt.eqv_refl d (SeqAt.canLay_of_shaped h)]
@[simp] theorem eqD_int (i j : Int) : eqD (.int i) (.int j) = some (i == j) := rfl
@[simp] theorem eqD_ints (ns ms : List Int) : eqD (.list (ns.map PyData.int)) (.list (ms.map PyData.int)) = some (decide (ns = ms)) := by
  unfold eqD
  rw [shaped_ints, shaped_ints]
  show some (PyData.eqvAll (ns.map PyData.int) (ms.map PyData.int)) = _
  rw [eqvAll_ints]
/-! ### loops -/
/-- a loop that is a fold: the slots are an encoding of a state -/
theorem forL_fold {S α : Type} {g : FG} {body : FS} (enc : S → Rho) (dat : α → D) (step : S → α → S) (Inv : Nat → S → Prop) {xs : List α}
    (h : ∀ i x s, xs[i]? = some x → Inv i s → ∃ ρ1, g (dat x) (enc s) = some ρ1 ∧ body ρ1 = some (.nx (enc (step s x))) ∧ Inv (i + 1) (step s x)) :
    ∀ (n : Nat) (s : S), Inv n s → n ≤ xs.length → forL g body ((xs.drop n).map dat) (enc s) = some (.nx (enc ((xs.drop n).foldl step s))) ∧ Inv xs.length ((xs.drop n).foldl step s) := by
  intro n
  induction hk : xs.length - n generalizing n with
  | zero =>
    intro s hI hn
    have e : n = xs.length := by omega
    subst e
    rw [List.drop_length]
    exact ⟨rfl, hI⟩
  | succ k ih =>
    intro s hI hn
    have hlt : n < xs.length := by omega
    obtain ⟨ρ1, h1, h2, h3⟩ := h n xs[n] s (List.getElem?_eq_getElem hlt) hI
    obtain ⟨h4, h5⟩ := ih (n + 1) (by omega) _ h3 hlt
    rw [List.drop_eq_getElem_cons hlt, List.map_cons, List.foldl_cons]
    refine ⟨?_, h5⟩
    unfold forL
    rw [h1]
    dsimp only
    rw [h2]
    exact h4
/-- .. from the start -/
theorem forL_fold0 {S α : Type} {g : FG} {body : FS} (enc : S → Rho) (dat : α → D) (step : S → α → S) (Inv : Nat → S → Prop) {xs : List α} {s : S} (h0 : Inv 0 s)
    (h : ∀ i x s, xs[i]? = some x → Inv i s → ∃ ρ1, g (dat x) (enc s) = some ρ1 ∧ body ρ1 = some (.nx (enc (step s x))) ∧ Inv (i + 1) (step s x)) :
    forL g body (xs.map dat) (enc s) = some (.nx (enc (xs.foldl step s))) ∧ Inv xs.length (xs.foldl step s) := by
  have q := forL_fold enc dat step Inv h 0 s h0 (Nat.zero_le _)
  rw [List.drop_zero] at q
  exact q
/-- a loop by its invariant alone -/
theorem forL_inv {g : FG} {body : FS} (Inv : Nat → Rho → Prop) {ds : List D} {ρ : Rho} (h0 : Inv 0 ρ)
    (h : ∀ i d ρ, ds[i]? = some d → Inv i ρ → ∃ ρ1 ρ2, g d ρ = some ρ1 ∧ body ρ1 = some (.nx ρ2) ∧ Inv (i + 1) ρ2) : ∃ ρ', forL g body ds ρ = some (.nx ρ') ∧ Inv ds.length ρ' := by
  have go : ∀ (k n : Nat) (ρ : Rho), ds.length - n = k → n ≤ ds.length → Inv n ρ → ∃ ρ', forL g body (ds.drop n) ρ = some (.nx ρ') ∧ Inv ds.length ρ' := by
    intro k
    induction k with
    | zero =>
      intro n ρ hk hn hI
      have e : n = ds.length := by omega
      subst e
      rw [List.drop_length]
      exact ⟨ρ, rfl, hI⟩
    | succ k ih =>
      intro n ρ hk hn hI
      have hlt : n < ds.length := by omega
      obtain ⟨ρ1, ρ2, h1, h2, h3⟩ := h n ds[n] ρ (List.getElem?_eq_getElem hlt) hI
      obtain ⟨ρ', h4, h5⟩ := ih (n + 1) ρ2 (by omega) hlt h3
      refine ⟨ρ', ?_, h5⟩
      rw [List.drop_eq_getElem_cons hlt]
      unfold forL
      rw [h1]
      dsimp only
      rw [h2]
      exact h4
  have q := go _ 0 ρ rfl (Nat.zero_le _) h0
  rw [List.drop_zero] at q
  exact q
/-- a comprehension that keeps every item -/
theorem lcL_map {α : Type} {tt : FT} {fe : FE} {st : D → Option Rho} (dat : α → D) (F : α → D) : ∀ {xs : List α}, (∀ x ∈ xs, ∃ ρ v, st (dat x) = some ρ ∧ tt ρ = some (.ok true) ∧ fe ρ = some (.ok v) ∧ v.st = some (F x)) → lcL tt fe st (xs.map dat) = some (xs.map F)
  | [], _ => rfl
  | x :: xs, h => by
    obtain ⟨ρ, v, h1, h2, h3, h4⟩ := h x List.mem_cons_self
    have ih := lcL_map (tt := tt) (fe := fe) (st := st) dat F (xs := xs) fun y hy => h y (List.mem_cons_of_mem _ hy)
    rw [List.map_cons, List.map_cons]
    unfold lcL
    rw [h1]
    dsimp only
    rw [h2]
    dsimp only
    rw [h3]
    dsimp only
    rw [h4, ih]
    rfl
theorem rangeD_eq (lo : Int) (n : Nat) : rangeD lo n = (List.range n).map fun (i : Nat) => PyData.int (lo + (i : Int)) := rfl
end DL
set_option Elab.async false
set_option linter.all false
set_option maxRecDepth 100000
set_option maxHeartbeats 1000000
/-! DM2: the functions of data, rule by rule. -/
namespace DL
open PySem PySem.Spec PyProof.Rows L2
section
variable {f g : FS} {ρ ρ1 : Rho} {o : Option Out} {n k : Nat} {ds : List D} {d : D} {E F fa fb fc : FE} {t u : FT} {i : Nat} {v a b : Val}
theorem seqN (h1 : f ρ = some (.nx ρ1)) (h2 : g ρ1 = o) : fSeq f g ρ = o := by
  unfold fSeq
  rw [h1]
  exact h2
theorem seqR (h1 : f ρ = some (.ret d)) : fSeq f g ρ = some (.ret d) := by
  unfold fSeq
  rw [h1]
theorem mk_ret (h : f (ds.map .dat ++ List.replicate (k - n) .un) = some (.ret d)) : mkD n k f ds = some (.ret d) := by
  rw [mkD_ap, h]
theorem mk_retF {es : List D} (h : f (ds.map .dat ++ List.replicate (k - n) .un) = some (.retF es)) : mkD n k f ds = some (.retF es) := by
  rw [mkD_ap, h]
theorem mk_exc {c : Nat} {j : Int} {ρ' : Rho} (h : f (ds.map .dat ++ List.replicate (k - n) .un) = some (.exc ρ' c j)) : mkD n k f ds = some (.exc c j) := by
  rw [mkD_ap, h]
theorem mk_nx (h : f (ds.map .dat ++ List.replicate (k - n) .un) = some (.nx ρ1)) : mkD n k f ds = some (.ret .none) := by
  rw [mkD_ap, h]
theorem r_e2 {h : Val → Val → Option Val} (ha : fa ρ = some (.ok a)) (hb : fb ρ = some (.ok b)) (e : h a b = some v) : e2 h fa fb ρ = some (.ok v) := by
  rw [e2_ap]
  unfold bE
  rw [ha]
  dsimp only
  rw [hb]
  dsimp only
  rw [e]
  rfl
theorem r_e1 {h : Val → Option Val} (ha : fa ρ = some (.ok a)) (e : h a = some v) : e1 h fa ρ = some (.ok v) := by
  rw [e1_ap]
  unfold bE
  rw [ha]
  dsimp only
  rw [e]
  rfl
theorem r_set {d : D} (q : E ρ = some (.ok v)) (h : v.st = some d) (e : ρ.set i (.dat d) = ρ1) : fSet i E ρ = some (.nx ρ1) := by
  rw [fSet_ap]
  unfold sE
  rw [q]
  dsimp only
  rw [h, ← e]
  rfl
theorem r_setO (q : E ρ = some (.ok (.f ds))) (e : ρ.set i (.own ds) = ρ1) : fSetO i E ρ = some (.nx ρ1) := by
  rw [fSetO_ap]
  unfold sE
  rw [q, ← e]
theorem r_ift (h : t ρ = some (.ok true)) (e : f ρ = o) : fIf t f g ρ = o := by
  unfold fIf
  rw [h]
  exact e
theorem r_iff (h : t ρ = some (.ok false)) (e : g ρ = o) : fIf t f g ρ = o := by
  unfold fIf
  rw [h]
  exact e
theorem r_ret (q : E ρ = some (.ok (.s d))) : fRet E ρ = some (.ret d) := by
  rw [fRet_ap]
  unfold sE
  rw [q]
theorem r_retF (q : E ρ = some (.ok (.f ds))) : fRet E ρ = some (.retF ds) := by
  rw [fRet_ap]
  unfold sE
  rw [q]
theorem r_retB (q : E ρ = some (.ok (.b ds))) : fRet E ρ = some (.retF ds) := by
  rw [fRet_ap]
  unfold sE
  rw [q]
theorem r_retM (q : E ρ = some (.ok (.m d))) : fRet E ρ = some (.ret d) := by
  rw [fRet_ap]
  unfold sE
  rw [q]
theorem r_tV {x : Bool} (q : E ρ = some (.ok v)) (h : v.d = .bool x) : tV E ρ = some (.ok x) := by
  unfold tV
  rw [q]
  dsimp only
  rw [h]
theorem r_not {x : Bool} (q : t ρ = some (.ok x)) : tNotD t ρ = some (.ok (!x)) := by
  unfold tNotD
  rw [q]
theorem r_notT (q : t ρ = some (.ok true)) : tNotD t ρ = some (.ok false) := r_not q
theorem r_notF (q : t ρ = some (.ok false)) : tNotD t ρ = some (.ok true) := r_not q
theorem r_isi {T : String} (q : fa ρ = some (.ok v)) (n : excV v.d = false := by rfl) : e1 (gIsi T) fa ρ = some (.ok (.s (.bool (isTy T v.d)))) := r_e1 q (by unfold gIsi; rw [n]; rfl)
theorem r_or_t (q : t ρ = some (.ok true)) : tOrD t u ρ = some (.ok true) := by
  unfold tOrD
  rw [q]
theorem r_or_f {x : Bool} (q : t ρ = some (.ok false)) (q2 : u ρ = some (.ok x)) : tOrD t u ρ = some (.ok x) := by
  unfold tOrD
  rw [q]
  exact q2
theorem r_and_t {x : Bool} (q : t ρ = some (.ok true)) (q2 : u ρ = some (.ok x)) : tAndD t u ρ = some (.ok x) := by
  unfold tAndD
  rw [q]
  exact q2
theorem r_and_f (q : t ρ = some (.ok false)) : tAndD t u ρ = some (.ok false) := by
  unfold tAndD
  rw [q]
theorem r_args0 : aNil ρ = some (.ok []) := rfl
theorem r_args {A : FA} {vs : List Val} (q : E ρ = some (.ok v)) (q2 : A ρ = some (.ok vs)) : aCons E A ρ = some (.ok (v :: vs)) := by
  unfold aCons
  rw [q]
  dsimp only
  rw [q2]
theorem r_eG {h : List Val → Option Val} {A : FA} {vs : List Val} (q : A ρ = some (.ok vs)) (e : h vs = some v) : eG h A ρ = some (.ok v) := by
  unfold eG
  rw [q]
  dsimp only
  rw [e]
  rfl
theorem r_call {G : DF} {A : FA} {vs : List Val} {es : List D} {d : D} (q : A ρ = some (.ok vs)) (hs : stAll vs = some es) (hn : vs.length = n) (e : G es = some (.ret d)) : eCall G n A ρ = some (.ok (.s d)) := by
  unfold eCall
  rw [q]
  dsimp only
  rw [if_pos hn, stAll_d hs, e]
  dsimp only
  rw [hs]
theorem r_callF {G : DF} {A : FA} {vs : List Val} {es : List D} {ds : List D} (q : A ρ = some (.ok vs)) (hs : stAll vs = some es) (hn : vs.length = n) (e : G es = some (.retF ds)) : eCall G n A ρ = some (.ok (.f ds)) := by
  unfold eCall
  rw [q]
  dsimp only
  rw [if_pos hn, stAll_d hs, e]
  dsimp only
  rw [hs]
theorem r_callFs {G : DF} {A : FA} {vs : List Val} {es : List D} {ds : List D} (q : A ρ = some (.ok vs)) (hs : vs.map Val.d = es) (hn : vs.length = n) (e : G es = some (.retF ds)) (hd : ds.all scalarD = true) : eCall G n A ρ = some (.ok (.f ds)) := by
  unfold eCall
  rw [q]
  dsimp only
  rw [if_pos hn, hs, e]
  dsimp only
  cases stAll vs with
  | some _ => rfl
  | none =>
    dsimp only
    rw [if_pos hd]
/-- .. whose answer is for the moment only, if an argument is -/
theorem r_callD {G : DF} {A : FA} {vs : List Val} {es : List D} {d : D} (q : A ρ = some (.ok vs)) (hs : vs.map Val.d = es) (hn : vs.length = n) (e : G es = some (.ret d)) : ∃ v, eCall G n A ρ = some (.ok v) ∧ v.d = d := by
  unfold eCall
  rw [q]
  dsimp only
  rw [if_pos hn, hs, e]
  dsimp only
  cases stAll vs with
  | some _ => exact ⟨_, rfl, rfl⟩
  | none => exact ⟨_, rfl, rfl⟩
theorem scalar_ints : ∀ ns : List Int, (ns.map PyData.int).all scalarD = true
  | [] => rfl
  | n :: ns => scalar_ints ns
theorem r_callX {G : DF} {A : FA} {vs : List Val} {es : List D} {c : Nat} {j : Int} (q : A ρ = some (.ok vs)) (hs : stAll vs = some es) (hn : vs.length = n) (e : G es = some (.exc c j)) : eCall G n A ρ = some (.error (c, j)) := by
  unfold eCall
  rw [q]
  dsimp only
  rw [if_pos hn, stAll_d hs, e]
theorem r_v {d : D} (h : ρ[i]? = some (.dat d)) : eV i ρ = some (.ok (.s d)) := by
  unfold eV
  rw [h]
  rfl
theorem r_eq {x : Bool} (ha : fa ρ = some (.ok a)) (hb : fb ρ = some (.ok b)) (e : eqD a.d b.d = some x) : e2 gEq fa fb ρ = some (.ok (.s (.bool x))) := r_e2 ha hb (by unfold gEq; rw [e]; rfl)
theorem r_ne {x : Bool} (ha : fa ρ = some (.ok a)) (hb : fb ρ = some (.ok b)) (e : eqD a.d b.d = some x) : e2 gNe fa fb ρ = some (.ok (.s (.bool (!x)))) := r_e2 ha hb (by unfold gNe; rw [e]; rfl)
theorem r_eqI {i j : Int} (ha : fa ρ = some (.ok (.s (.int i)))) (hb : fb ρ = some (.ok (.s (.int j)))) : e2 gEq fa fb ρ = some (.ok (.s (.bool (i == j)))) := r_eq ha hb rfl
theorem r_neI {i j : Int} (ha : fa ρ = some (.ok (.s (.int i)))) (hb : fb ρ = some (.ok (.s (.int j)))) : e2 gNe fa fb ρ = some (.ok (.s (.bool (!(i == j))))) := r_ne ha hb rfl
theorem r_eqI_t {i j : Int} (ha : fa ρ = some (.ok (.s (.int i)))) (hb : fb ρ = some (.ok (.s (.int j)))) (h : i = j) : tV (e2 gEq fa fb) ρ = some (.ok true) := r_tV (r_eqI ha hb) (by rw [beq_iff_eq.mpr h]; rfl)
theorem r_eqI_f {i j : Int} (ha : fa ρ = some (.ok (.s (.int i)))) (hb : fb ρ = some (.ok (.s (.int j)))) (h : i ≠ j) : tV (e2 gEq fa fb) ρ = some (.ok false) := r_tV (r_eqI ha hb) (by rw [beq_eq_false_iff_ne.mpr h]; rfl)
theorem r_neI_f {i j : Int} (ha : fa ρ = some (.ok (.s (.int i)))) (hb : fb ρ = some (.ok (.s (.int j)))) (h : i = j) : tV (e2 gNe fa fb) ρ = some (.ok false) := r_tV (r_neI ha hb) (by rw [beq_iff_eq.mpr h]; rfl)
theorem r_neI_t {i j : Int} (ha : fa ρ = some (.ok (.s (.int i)))) (hb : fb ρ = some (.ok (.s (.int j)))) (h : i ≠ j) : tV (e2 gNe fa fb) ρ = some (.ok true) := r_tV (r_neI ha hb) (by rw [beq_eq_false_iff_ne.mpr h]; rfl)
theorem r_put {es : List D} {j : Int} {n : Nat} {d : D} (q : E ρ = some (.ok a)) (ho : ρ[i]? = some (.own es)) (q2 : F ρ = some (.ok b)) (hj : a.d = .int j) (hd : b.st = some d) (hn : ixN es.length j = some n) (e : ρ.set i (.own (es.set n d)) = ρ1) : fPut i E F ρ = some (.nx ρ1) := by
  rw [fPut_ap]
  unfold sE
  rw [q2]
  dsimp only
  unfold fOwn
  rw [ho]
  dsimp only
  rw [q]
  dsimp only
  rw [hj, hd]
  dsimp only
  rw [hn, ← e]
  rfl
theorem r_app {es : List D} {d : D} (ho : ρ[i]? = some (.own es)) (q : E ρ = some (.ok v)) (h : v.st = some d) (hl : es.length + 1 ≤ 16777216) (e : ρ.set i (.own (es ++ [d])) = ρ1) : fApp i E ρ = some (.nx ρ1) := by
  rw [fApp_ap]
  unfold fOwn
  rw [ho]
  dsimp only
  unfold sE
  rw [q]
  dsimp only
  rw [h]
  dsimp only
  rw [if_pos (lineOk_small hl), ← e]
theorem r_ext {es us : List D} (ho : ρ[i]? = some (.own es)) (q : E ρ = some (.ok v)) (h : v.items = some us) (hl : es.length + us.length ≤ 16777216) (e : ρ.set i (.own (es ++ us)) = ρ1) : fExt i E ρ = some (.nx ρ1) := by
  rw [fExt_ap]
  unfold fOwn
  rw [ho]
  dsimp only
  unfold sE
  rw [q]
  dsimp only
  rw [h]
  dsimp only
  rw [if_pos (lineOk_small hl), ← e]
end
/-- a comprehension over range(n) that keeps every item -/
theorem eLc_range {vs : List Nat} {st : Rho → D → Option Rho} {a : FA} {tt : FT} {fe : FE} {ρ : Rho} {n : Nat} {F : Nat → D} (h0 : noOwn ρ vs = true) (ha : iRange1 a ρ = some (.ok (rangeD 0 n))) (hl : n ≤ 16777216)
    (h : ∀ k, k < n → ∃ ρ1 v, st (wipeR ρ vs) (.int (k : Int)) = some ρ1 ∧ tt ρ1 = some (.ok true) ∧ fe ρ1 = some (.ok v) ∧ v.st = some (F k)) : eLcG vs st (iRange1 a) tt fe ρ = some (.ok (.f ((List.range n).map F))) := by
  have e : lcL tt fe (st (wipeR ρ vs)) (rangeD 0 n) = some ((List.range n).map F) := by
    rw [rangeD_eq]
    refine lcL_map (fun (i : Nat) => PyData.int (0 + (i : Int))) F fun k hk => ?_
    rw [Int.zero_add]
    exact h k (List.mem_range.mp hk)
  unfold eLcG
  rw [if_pos h0, ha]
  dsimp only
  rw [e]
  dsimp only
  rw [if_pos (lineOk_small (by rw [List.length_map, List.length_range]; exact hl))]
theorem atI_nat {α : Type} {xs : List α} {i : Nat} (h : i < xs.length) : atI xs (i : Int) = some xs[i] := by
  rw [atI_of (Int.natCast_nonneg i) (by omega)]
  simp
end DL
set_option Elab.async false
set_option linter.all false
set_option maxRecDepth 100000
set_option maxHeartbeats 1000000
/-! DM3: rows of numbers as data. -/
namespace DL
open PySem PySem.Spec PyProof.Rows L2
/-- a row of numbers from 0 on, as data -/
def jd (row : List Nat) : List D := row.map fun (n : Nat) => .int (n : Int)
@[simp] theorem jd_nil : jd [] = [] := rfl
theorem jd_cons (n : Nat) (r : List Nat) : jd (n :: r) = .int (n : Int) :: jd r := rfl
theorem jd_app (a b : List Nat) : jd (a ++ b) = jd a ++ jd b := List.map_append
theorem jd_len (r : List Nat) : (jd r).length = r.length := List.length_map ..
theorem jd_ints (r : List Nat) : jd r = (r.map fun (n : Nat) => (n : Int)).map PyData.int := by
  unfold jd
  rw [List.map_map]
  rfl
theorem jd_scalar (r : List Nat) : (jd r).all scalarD = true := by
  rw [jd_ints]
  exact scalar_ints _
theorem jd_inj {a b : List Nat} (h : jd a = jd b) : a = b := by
  induction a generalizing b with
  | nil => cases b with
    | nil => rfl
    | cons _ _ => cases h
  | cons n a ih => cases b with
    | nil => cases h
    | cons m b =>
      rw [jd_cons, jd_cons] at h
      injection h with h1 h2
      injection h1 with h1
      rw [ih h2, Int.ofNat.inj h1]
theorem eqD_jd (a b : List Nat) : eqD (.list (jd a)) (.list (jd b)) = some (decide (a = b)) := by
  rw [jd_ints, jd_ints, eqD_ints]
  congr 1
  apply decide_eq_decide.mpr
  constructor
  · intro h
    apply jd_inj
    rw [jd_ints, jd_ints, h]
  · intro h
    rw [h]
theorem eqD_jd_self (a : List Nat) : eqD (.list (jd a)) (.list (jd a)) = some true := by
  rw [eqD_jd]
  simp
theorem atI_jd {r : List Nat} {i : Nat} (h : i < r.length) : atI (jd r) (i : Int) = some (.int (r[i] : Nat)) := by
  have h' : i < (jd r).length := by rw [jd_len]; exact h
  rw [atI_nat h']
  simp [jd]
theorem jd_at {r : List Nat} {i : Nat} {d : D} (h : (jd r)[i]? = some d) : ∃ hi : i < r.length, d = .int (r[i] : Nat) := by
  obtain ⟨hi, e⟩ := List.getElem?_eq_some_iff.mp h
  have hi' : i < r.length := by rw [jd_len] at hi; exact hi
  refine ⟨hi', ?_⟩
  rw [← e]
  simp [jd]
theorem inD_jd (n : Nat) (r : List Nat) : inD (.int (n : Int)) (jd r) = r.contains n := by
  unfold inD inV
  induction r with
  | nil => rfl
  | cons m r ih =>
    rw [jd_cons, List.map_cons, List.any_cons, ih, List.contains_cons]
    congr 1
    show ((m : Int) == (n : Int)) = _
    by_cases h : n = m
    · rw [beq_iff_eq.mpr h, beq_iff_eq.mpr (by omega)]
    · rw [beq_eq_false_iff_ne.mpr h, beq_eq_false_iff_ne.mpr (by omega)]
theorem stAll_s : ∀ ds : List D, stAll (ds.map Val.s) = some ds
  | [] => rfl
  | d :: ds => by
    rw [List.map_cons]
    unfold stAll
    rw [stAll_s ds]
    rfl
theorem cutL_nat {α : Type} (xs : List α) (i j : Nat) (hj : j ≤ xs.length) (hi : i ≤ j) : cutL xs (some (i : Int)) (some (j : Int)) = (xs.drop i).take (j - i) := by
  unfold cutL
  rw [HT.sIx_nat, HT.sIx_nat, Nat.min_eq_left hj, Nat.min_eq_left (Nat.le_trans hi hj)]
theorem ixN_nat {n i : Nat} (h : i < n) : ixN n (i : Int) = some i := by
  unfold ixN
  rw [if_pos (Int.natCast_nonneg _), if_pos (by omega), Int.toNat_natCast]
section
variable {ρ ρ1 : Rho} {ds us : List D} {d : D} {E fa fb : FE} {A : FA} {vs : List Val} {i : Nat} {v : Val}
theorem r_for {it : FI} {g : FG} {body : FS} {xs : List D} {o : Out} (q : it ρ = some (.ok xs)) (h : forL g body xs ρ = some o) : fFor it g body ρ = some o := by
  unfold fFor
  rw [q]
  exact h
theorem r_seqF {xs : List D} (q : E ρ = some (.ok (.f xs))) : iSeq E ρ = some (.ok xs) := by
  unfold iSeq
  rw [q]
theorem r_seqL {xs : List D} (q : E ρ = some (.ok (.s (.list xs)))) : iSeq E ρ = some (.ok xs) := by
  unfold iSeq
  rw [q]
theorem r_oS {j : Int} (q : E ρ = some (.ok (.s (.int j)))) : oSome E ρ = some (.ok (some j)) := by
  unfold oSome
  rw [q]
  rfl
theorem r_sl {L R : FO} {lo hi : Option Int} {xs : List D} (q : E ρ = some (.ok v)) (hv : v = .s (.list xs) ∨ v = .b xs ∨ v = .f xs) (q1 : L ρ = some (.ok lo)) (q2 : R ρ = some (.ok hi)) : eSl E L R ρ = some (.ok (.f (cutL xs lo hi))) := by
  unfold eSl
  rw [q]
  dsimp only
  rw [q1]
  dsimp only
  rw [q2]
  rcases hv with rfl | rfl | rfl <;> rfl
theorem r_aug {g : Int → Int → Int} {a j : Int} (h : ρ[i]? = some (.dat (.int a))) (q : E ρ = some (.ok (.s (.int j)))) (e : ρ.set i (.dat (.int (g a j))) = ρ1) : fAug i g E ρ = some (.nx ρ1) := by
  unfold fAug
  rw [h]
  dsimp only
  unfold sE
  rw [q, ← e]
  rfl
theorem r_pop {es : List D} (ho : ρ[i]? = some (.own es)) (hn : es ≠ []) (e : ρ.set i (.own es.dropLast) = ρ1) : fPop i ρ = some (.nx ρ1) := by
  rw [fPop_ap]
  unfold fOwn
  rw [ho]
  dsimp only
  rw [if_neg (by simpa using hn), ← e]
theorem r_while {t : FT} {body : FS} {n : Nat} {o : Out} (h : whileL t body n ρ = some o) (hn : n ≤ 1000000000) : fWhile t body ρ = some o := whileL_mono fuel h (by
  have e : fuel = 18446744073709551616 := rfl
  omega)
theorem w_stop {t : FT} {body : FS} {n : Nat} (q : t ρ = some (.ok false)) : whileL t body (n + 1) ρ = some (.nx ρ) := by
  unfold whileL
  rw [q]
theorem w_go {t : FT} {body : FS} {n : Nat} {o : Option Out} (q : t ρ = some (.ok true)) (q2 : body ρ = some (.nx ρ1)) (h : whileL t body n ρ1 = o) : whileL t body (n + 1) ρ = o := by
  unfold whileL
  rw [q]
  dsimp only
  rw [q2]
  exact h
theorem r_range {j : Int} (q : E ρ = some (.ok (.s (.int j)))) (h1 : -1000000000 < j) (h2 : j < 1000000000) : iRange1 (aCons E (aNil)) ρ = some (.ok (rangeD 0 j.toNat)) := by
  unfold iRange1
  rw [r_args q r_args0]
  show (if cRng j = true then some (Except.ok (rangeD 0 j.toNat)) else none) = _
  rw [if_pos (cRng_is h1 h2)]
theorem r_andV_t (q1 : fa ρ = some (.ok (.s (.bool true)))) (q2 : fb ρ = some (.ok v)) : eAndV fa fb ρ = some (.ok v) := by
  rw [eAndV_ap]
  unfold bE
  rw [q1]
  exact q2
theorem r_andV_f (q1 : fa ρ = some (.ok (.s (.bool false)))) : eAndV fa fb ρ = some (.ok (.s (.bool false))) := by
  rw [eAndV_ap]
  unfold bE
  rw [q1]
  rfl
theorem r_b (h : ρ[i]? = some (.own ds)) : eV i ρ = some (.ok (.b ds)) := by
  unfold eV
  rw [h]
theorem r_star {us : List Val} (q : E ρ = some (.ok v)) (h : v.parts = some us) (q2 : A ρ = some (.ok vs)) : aStar E A ρ = some (.ok (us ++ vs)) := by
  unfold aStar
  rw [q]
  dsimp only
  rw [h]
  dsimp only
  rw [q2]
theorem r_lst (q : A ρ = some (.ok vs)) (h : stAll vs = some ds) (hl : vs.length ≤ 16777216) : eLst A ρ = some (.ok (.f ds)) := by
  unfold eLst
  rw [q]
  dsimp only
  rw [if_pos (lineOk_small hl), h]
theorem r_len {es : List D} (q : E ρ = some (.ok v)) (h : v.d = .list es) : eG bLen (aCons E (aNil)) ρ = some (.ok (.s (.int (es.length : Int)))) := by
  refine r_eG (r_args q r_args0) ?_
  unfold bLen
  dsimp only
  rw [h]
  rfl
theorem r_addI {i j : Int} (ha : fa ρ = some (.ok (.s (.int i)))) (hb : fb ρ = some (.ok (.s (.int j)))) : e2 gAdd fa fb ρ = some (.ok (.s (.int (i + j)))) := r_e2 ha hb rfl
theorem r_subI {i j : Int} (ha : fa ρ = some (.ok (.s (.int i)))) (hb : fb ρ = some (.ok (.s (.int j)))) : e2 gSub fa fb ρ = some (.ok (.s (.int (i - j)))) := r_e2 ha hb rfl
theorem r_mulI {i j : Int} (ha : fa ρ = some (.ok (.s (.int i)))) (hb : fb ρ = some (.ok (.s (.int j)))) (h : cMul i j = true) : e2 gMul fa fb ρ = some (.ok (.s (.int (i * j)))) := r_e2 ha hb (by
  show (if cMul i j = true then some (Val.s (.int (i * j))) else none) = _
  rw [if_pos h])
theorem r_modI {i j : Int} (ha : fa ρ = some (.ok (.s (.int i)))) (hb : fb ρ = some (.ok (.s (.int j)))) (h : 0 < j) : e2 gMod fa fb ρ = some (.ok (.s (.int (i % j)))) := r_e2 ha hb (by
  show (if cMod i j = true then some (Val.s (.int (i % j))) else none) = _
  rw [if_pos (cMod_ok h)])
theorem r_divI {i j : Int} (ha : fa ρ = some (.ok (.s (.int i)))) (hb : fb ρ = some (.ok (.s (.int j)))) (h : 0 < j) (h2 : j < 1000000000) : e2 gDiv fa fb ρ = some (.ok (.s (.int (i / j)))) := r_e2 ha hb (by
  show (if cDiv i j = true then some (Val.s (.int (i / j))) else none) = _
  rw [if_pos (cDiv_is h (by omega))])
theorem r_int {i : Int} (ha : fa ρ = some (.ok (.s (.int i)))) : eG bInt (aCons fa (aNil)) ρ = some (.ok (.s (.int i))) := r_eG (r_args ha r_args0) rfl
theorem r_gtI {i j : Int} (ha : fa ρ = some (.ok (.s (.int i)))) (hb : fb ρ = some (.ok (.s (.int j)))) : tV (e2 gGtX fa fb) ρ = some (.ok (decide (j < i))) := r_tV (r_e2 ha hb rfl) rfl
theorem r_ltI {i j : Int} (ha : fa ρ = some (.ok (.s (.int i)))) (hb : fb ρ = some (.ok (.s (.int j)))) : tV (e2 gLtX fa fb) ρ = some (.ok (decide (i < j))) := r_tV (r_e2 ha hb rfl) rfl
theorem r_gtI_t {i j : Int} (ha : fa ρ = some (.ok (.s (.int i)))) (hb : fb ρ = some (.ok (.s (.int j)))) (h : j < i) : tV (e2 gGtX fa fb) ρ = some (.ok true) := by rw [r_gtI ha hb, decide_eq_true h]
theorem r_gtI_f {i j : Int} (ha : fa ρ = some (.ok (.s (.int i)))) (hb : fb ρ = some (.ok (.s (.int j)))) (h : i ≤ j) : tV (e2 gGtX fa fb) ρ = some (.ok false) := by rw [r_gtI ha hb, decide_eq_false (by omega)]
theorem r_ltI_t {i j : Int} (ha : fa ρ = some (.ok (.s (.int i)))) (hb : fb ρ = some (.ok (.s (.int j)))) (h : i < j) : tV (e2 gLtX fa fb) ρ = some (.ok true) := by rw [r_ltI ha hb, decide_eq_true h]
theorem r_ltI_f {i j : Int} (ha : fa ρ = some (.ok (.s (.int i)))) (hb : fb ρ = some (.ok (.s (.int j)))) (h : j ≤ i) : tV (e2 gLtX fa fb) ρ = some (.ok false) := by rw [r_ltI ha hb, decide_eq_false (by omega)]
theorem r_ix {es : List D} {j : Int} (ha : fa ρ = some (.ok (.s (.list es)))) (hb : fb ρ = some (.ok (.s (.int j)))) (h : atI es j = some d) : e2 gIx fa fb ρ = some (.ok (.s d)) := r_e2 ha hb (by
  show (atI es j).map Val.s = _
  rw [h]
  rfl)
theorem r_cat {xs ys : List D} {a b : Val} (ha : fa ρ = some (.ok a)) (hb : fb ρ = some (.ok b)) (h1 : a.items = some xs) (h2 : b.items = some ys) (hn : gAddI a b = none) (hl : xs.length + ys.length ≤ 16777216) : e2 gAdd fa fb ρ = some (.ok (.f (xs ++ ys))) := r_e2 ha hb (by
  unfold gAdd
  rw [hn]
  show gCat a b = _
  unfold gCat
  rw [h1, h2]
  dsimp only
  rw [if_pos (lineOk_small hl)])
theorem r_in0 {n : Nat} {r : List Nat} (ha : fa ρ = some (.ok (.s (.int (n : Int))))) (hb : fb ρ = some (.ok v)) (hv : v.d = .list (jd r)) : tV (e2 gIn fa fb) ρ = some (.ok (r.contains n)) := by
  refine r_tV (v := .s (.bool (r.contains n))) (r_e2 ha hb ?_) rfl
  unfold gIn gInX
  rw [hv]
  show (if (scalarD (.int (n : Int)) && (jd r).all scalarD) = true then some (Val.s (.bool (if false then !inD (.int (n : Int)) (jd r) else inD (.int (n : Int)) (jd r)))) else none) = _
  rw [if_pos (by rw [jd_scalar]; rfl), inD_jd]
  rfl
end
end DL
set_option Elab.async false
set_option linter.all false
set_option maxRecDepth 100000
set_option maxHeartbeats 1000000
/-! DM4: rules for errors, early returns, displays. -/
namespace DL
open PySem PySem.Spec PyProof.Rows L2
section
variable {f g : FS} {ρ ρ1 : Rho} {o : Option Out} {n k : Nat} {ds : List D} {d : D} {E F fa fb fc : FE} {t u : FT} {i : Nat} {v a b : Val} {c : Nat} {j : Int}
theorem seqX (h1 : f ρ = some (.exc ρ1 c j)) : fSeq f g ρ = some (.exc ρ1 c j) := by
  unfold fSeq
  rw [h1]
theorem seqRF (h1 : f ρ = some (.retF ds)) : fSeq f g ρ = some (.retF ds) := by
  unfold fSeq
  rw [h1]
theorem r_raise (q : E ρ = some (.ok (.s (.int j)))) : fRaise c E ρ = some (.exc ρ c j) := by
  rw [fRaise_ap]
  unfold sE
  rw [q]
  rfl
theorem w_exc {t : FT} {body : FS} {n : Nat} (q : t ρ = some (.ok true)) (q2 : body ρ = some (.exc ρ1 c j)) : whileL t body (n + 1) ρ = some (.exc ρ1 c j) := by
  unfold whileL
  rw [q]
  dsimp only
  rw [q2]
theorem r_tryN {h : HF} (q : f ρ = some (.nx ρ1)) : fTry f h ρ = some (.nx ρ1) := by
  unfold fTry
  rw [q]
theorem r_tryR {h : HF} (q : f ρ = some (.ret d)) : fTry f h ρ = some (.ret d) := by
  unfold fTry
  rw [q]
theorem r_tryX {h : HF} (q : f ρ = some (.exc ρ1 c j)) (q2 : h c j ρ1 = o) : fTry f h ρ = o := by
  unfold fTry
  rw [q]
  exact q2
theorem r_has {m : Nat → Option Bool} {k : Nat} {gg : Nat → Addr → Addr → FS} {rest : HF} {o1 o2 : Out} (hm : m c = some true) (h : ∀ a dd, gg c a dd (ρ.set k (.err a dd j)) = some o1) (h2 : goneO k o1 = some o2) : hAs m k gg rest c j ρ = some o2 := by
  unfold hAs
  rw [hm]
  dsimp only
  exact anyAd_of 0 fun a dd => by rw [h a dd]; exact h2
theorem r_hno {m : Nat → Option Bool} {k : Nat} {gg : Nat → Addr → Addr → FS} {rest : HF} (hm : m c = some false) (h : rest c j ρ = o) : hAs m k gg rest c j ρ = o := by
  unfold hAs
  rw [hm]
  exact h
theorem r_tup {A : FA} {vs : List Val} (q : A ρ = some (.ok vs)) (h : stAll vs = some ds) (hl : vs.length ≤ 16777216) : eTup A ρ = some (.ok (.s (.tuple ds))) := by
  unfold eTup
  rw [q]
  dsimp only
  rw [if_pos (lineOk_small hl), h]
theorem r_retE (q : E ρ = some (.error (c, j))) : fRet E ρ = some (.exc ρ c j) := by
  rw [fRet_ap]
  unfold sE
  rw [q]
theorem r_setE (q : E ρ = some (.error (c, j))) : fSet i E ρ = some (.exc ρ c j) := by
  rw [fSet_ap]
  unfold sE
  rw [q]
theorem r_argsE {A : FA} {e : Er} (q : E ρ = some (.error e)) : aCons E A ρ = some (.error e) := by
  unfold aCons
  rw [q]
theorem r_argsE2 {A : FA} {e : Er} (q : E ρ = some (.ok v)) (q2 : A ρ = some (.error e)) : aCons E A ρ = some (.error e) := by
  unfold aCons
  rw [q]
  dsimp only
  rw [q2]
theorem r_tupE {A : FA} {e : Er} (q : A ρ = some (.error e)) : eTup A ρ = some (.error e) := by
  unfold eTup
  rw [q]
end
/-- a loop that returns at a turn -/
theorem forL_ret {g : FG} {body : FS} {o : Out} (Inv : Nat → Rho → Prop) {ds : List D} {ρ : Rho} {m : Nat} (hm : m < ds.length) (h0 : Inv 0 ρ)
    (h : ∀ i d ρ, i < m → ds[i]? = some d → Inv i ρ → ∃ ρ1 ρ2, g d ρ = some ρ1 ∧ body ρ1 = some (.nx ρ2) ∧ Inv (i + 1) ρ2)
    (hr : ∀ d ρ, ds[m]? = some d → Inv m ρ → ∃ ρ1, g d ρ = some ρ1 ∧ body ρ1 = some o) (ho : (∃ d, o = .ret d) ∨ (∃ x, o = .retF x)) : forL g body ds ρ = some o := by
  have go : ∀ (k n : Nat) (ρ : Rho), m - n = k → n ≤ m → Inv n ρ → forL g body (ds.drop n) ρ = some o := by
    intro k
    induction k with
    | zero =>
      intro n ρ hk hn hI
      have e : n = m := by omega
      subst e
      obtain ⟨ρ1, h1, h2⟩ := hr ds[n] ρ (List.getElem?_eq_getElem hm) hI
      rw [List.drop_eq_getElem_cons hm]
      unfold forL
      rw [h1]
      dsimp only
      rw [h2]
      rcases ho with ⟨d, rfl⟩ | ⟨x, rfl⟩ <;> rfl
    | succ k ih =>
      intro n ρ hk hn hI
      have hlt : n < ds.length := by omega
      obtain ⟨ρ1, ρ2, h1, h2, h3⟩ := h n ds[n] ρ (by omega) (List.getElem?_eq_getElem hlt) hI
      rw [List.drop_eq_getElem_cons hlt]
      unfold forL
      rw [h1]
      dsimp only
      rw [h2]
      exact ih (n + 1) ρ2 (by omega) (by omega) h3
  have q := go _ 0 ρ rfl (Nat.zero_le _) h0
  rw [List.drop_zero] at q
  exact q
theorem canLay_jd (r : List Nat) : PyData.canLayAll0 (jd r) = true := by
  rw [jd_ints]
  exact canLay_ints _
theorem depth_jd (r : List Nat) : PyData.depthAll (jd r) = 0 := by
  rw [jd_ints]
  exact depth_ints _
theorem shaped_strList (x : Str) (r : List Nat) (hx : PyData.canLay0 (.str x) = true) : SeqAt.shaped (.tuple [.str x, .list (jd r)]) = true := by
  unfold SeqAt.shaped
  have h1 : PyData.canLay0 (.tuple [.str x, .list (jd r)]) = true := by
    show (PyData.canLay0 (.str x) && (PyData.canLayAll0 (jd r) && true)) = true
    rw [canLay_jd, hx]
    rfl
  have h2 : PyData.depth (.tuple [.str x, .list (jd r)]) = 2 := by
    show max (PyData.depth (.str x)) (max (PyData.depthAll (jd r) + 1) 0) + 1 = 2
    rw [depth_jd]
    rfl
  rw [h1, h2]
  rfl
theorem shaped_strInt (x : Str) (n : Int) (hx : PyData.canLay0 (.str x) = true) : SeqAt.shaped (.tuple [.str x, .int n]) = true := by
  unfold SeqAt.shaped
  have h1 : PyData.canLay0 (.tuple [.str x, .int n]) = true := by
    show (PyData.canLay0 (.str x) && (true && true)) = true
    rw [hx]
    rfl
  have h2 : PyData.depth (.tuple [.str x, .int n]) = 1 := rfl
  rw [h1, h2]
  rfl
end DL
set_option Elab.async false
set_option linter.all false
set_option maxRecDepth 100000
set_option maxHeartbeats 4000000
/-! DL12: a clause of several classes. -/
namespace DL
open PySem PySem.Spec PyProof.Rows L2
section
variable {X : Cx} {W : WX} {Cl : Nat → Addr}
/-- a new object is no news to an error that was caught -/
theorem Caught.grow {pins : List (Addr × Obj)} {a : Addr} {B : Heap} {sI : Shared} {σ : St} {H : Hp} {cls : Value} {d : Option Addr} {s : Shared} {h2 : Heap} (c : Caught X pins a B sI σ H cls d s) (kp : ∀ b o, s.heap.get? b = some o → h2.get? b = some o) : Caught X pins a B sI σ H cls d { s with heap := h2 } := by
  obtain ⟨f1, f2, f3, oe, ws, T, oT, ts, he, hz, hd, h1, hn, hne, hT, hdT, h3⟩ := c.fly
  exact ⟨c.inv, c.ground, c.slots.trans (Heap.UpToSlots.of_keeps kp), ⟨fun b o q => kp b o (f1 b o q), f2, f3.of_keeps fun b o q _ => ⟨o, kp b o q, rfl⟩, oe, ws, T, oT, ts, kp _ _ he, hz, hd, h1, hn, hne, kp _ _ hT, hdT, h3⟩, c.free, c.os, c.bare⟩
/-- what a clause's expression tests -/
def Tests (X : Cx) (t : Expr) (test : Value → Bool → Prop) : Prop := ∀ (pins : List (Addr × Obj)) (a : Addr) (B : Heap) (sI : Shared) (σ : St) (H : Hp) (cls : Value) (d : Option Addr) (s : Shared) (b : Bool) (Q : Bool → Shared → Prop) (E : Value → Shared → Prop),
  X.env.frame = some X.env.locals → Caught X pins a B sI σ H cls d s → test cls b → (∀ h2, (∀ q o, s.heap.get? q = some o → h2.get? q = some o) → Q b { s with heap := h2 }) →
  wpAny (model X.prog X.w) (X.A.mark (some (.ref a))) (eval t X.env) (fun c s1 => wpAny (model X.prog X.w) (X.A.mark (some (.ref a))) (excMatches (.ref a) c) Q E s1) E s
theorem name_ok {pins pn : List (Addr × Obj)} {a : Addr} {σ : St} {H : Hp} {s : Shared} {x : Str} {c : Value} {p : Pos} {Q : Value → Shared → Prop} {E : Value → Shared → Prop} (S : Inv (X.suite a pn) pins σ H s) (hc : Names X x c) (q : Q c s) : wpAny (model X.prog X.w) (X.A.mark (some (.ref a))) (eval (.Name x p) X.env) Q E s := by
  obtain ⟨hg, hdbg, hm | ⟨hm, hv, hnn⟩⟩ := hc
  · exact ld_glob (X := X.suite a pn) S hg hm q hdbg
  · exact ld_blt (X := X.suite a pn) S hg hm hv q hnn hdbg
theorem tests_tup3 {x1 x2 x3 : Str} {c1 c2 c3 : Value} {p1 p2 p3 tpos : Pos} {kk : Nat} (n1 : Names X x1 c1) (n2 : Names X x2 c2) (n3 : Names X x3 c3) :
    Tests X (.Tuple [.Name x1 p1, .Name x2 p2, .Name x3 p3] kk tpos) (fun cls b => PySem.W.exmAny X.K cls [c1, c2, c3] = some b) := fun pins a B sI σ H cls d s b Q E hf ca hb q => by
  obtain ⟨ob, hob, hz, hdat, S⟩ := ca.suite hf
  have look : PySem.W.Looks (model X.prog X.w) s.heap (typeOf (.ref a)) cls := fun A Q E s' k q => wpAny_typeOf_ref (k _ _ hob) (by rw [hz.1]; exact q)
  refine wpAny_Tuple ?_
  refine wpAny_items_cons (name_ok S n1 ?_)
  refine wpAny_items_cons (name_ok S n2 ?_)
  refine wpAny_items_cons (name_ok S n3 ?_)
  refine wpAny_items_nil ⟨by size_fits, ?_⟩
  have kp : ∀ q o, s.heap.get? q = some o → (s.heap.push { cls := .type "tuple", data := .seq [c1, c2, c3].toArray }).get? q = some o := fun _ _ z => Heap.get?_push_of_some _ z
  exact (PySem.W.exm_tup3 (M := model X.prog X.w) ((ca.now.kIn).keeps kp) (look.keeps kp) (Heap.get?_push_size s.heap rfl) hb).here (q _ kp)
/-- a clause without a name -/
theorem clauses_gen {D : Ends} {t : Expr} {test : Value → Bool → Prop} {b0 : Stmt} {suite : List Stmt} {pos' : Pos} {hds : List ExceptHandler} {rest : WX} {ts : Addr → Value → Option Addr → TS} (ok : X.Ok) (hf : X.env.frame = some X.env.locals) (ht : Tests X t test)
    (hsu : ∀ (a : Addr) (oe : Obj) (cls : Value) (d : Option Addr) (pn : List (Addr × Obj)), Zc cls d oe → (∃ vs, oe.data = .fields vs) → PSs (X.suite a ((a, oe) :: pn)) (b0 :: suite) (ts a cls d)) (hr : Clauses X hds D rest) :
    Clauses X (.ExceptHandler (some t) none (b0 :: suite) pos' :: hds) D (wTest test ts D rest) := fun pins a B sI σ H cls d s ca ⟨b, hb, yes, no⟩ => by
  refine wpAny_handleBy_cons (codeAny_handlers_test (ht pins a B sI σ H cls d s b _ _ hf ca hb fun h2 kp => ?_)) (by intro q; cases q)
  have ca2 := ca.grow kp
  cases b with
  | false => exact hr pins a B sI σ H cls d _ ca2 (no rfl)
  | true =>
    refine codeAny_handlers_suite (HandSPX.lands_againZ ca2.fly fun h4 fl up => ?_)
    have ca4 := ca2.again fl up
    obtain ⟨ob4, _, hz4, hdat4, S4⟩ := ca4.suite hf
    refine wpAny_mono ((hsu a ob4 cls d (X.pn ++ pins) hz4 hdat4).run [] _ _ H _ S4 (yes rfl a ca.free)) (fun fl s6 r => ?_) (fun _ _ z => z.elim)
    cases fl with
    | next => obtain ⟨σ6, H6, S6, q6⟩ := r; exact ⟨σ6, H6, S6.unsuite ok, q6⟩
    | brk => obtain ⟨σ6, H6, S6, q6⟩ := r; exact ⟨σ6, H6, S6.unsuite ok, q6⟩
    | cont => obtain ⟨σ6, H6, S6, q6⟩ := r; exact ⟨σ6, H6, S6.unsuite ok, q6⟩
    | ret u => obtain ⟨v6, σ6, H6, S6, r6, q6⟩ := r; exact ⟨v6, σ6, H6, S6.unsuite ok, r6, q6⟩
theorem exm_any3 {K : PySem.W.Frag} {cls c1 c2 c3 : Value} {b1 b2 b3 : Bool} (h1 : PySem.W.exmOne K cls c1 = some b1) (h2 : PySem.W.exmOne K cls c2 = some b2) (h3 : PySem.W.exmOne K cls c3 = some b3) : PySem.W.exmAny K cls [c1, c2, c3] = some (b1 || (b2 || b3)) := by
  simp [PySem.W.exmAny, h1, h2, h3]
theorem dhs_tup3 {x1 x2 x3 : Str} {p1 p2 p3 tpos : Pos} {kk : Nat} {N : Nat → Prop} {C1 C2 C3 : Value} {b0 : Stmt} {suite : List Stmt} {pos' : Pos} {hds : List ExceptHandler} {rest : HF} {m : Nat → Option Bool} {g : FS} (hf : X.env.frame = some X.env.locals) (n1 : Names X x1 C1) (n2 : Names X x2 C2) (n3 : Names X x3 C3)
    (hm : ∀ c b, m c = some b → N c ∧ PySem.W.exmAny X.K (.ref (Cl c)) [C1, C2, C3] = some b)
    (hsu : ∀ (a : Addr) (oe : Obj) (pn : List (Addr × Obj)), DSs (X.suite a ((a, oe) :: pn)) Cl W0 (b0 :: suite) g) (hr : DHs X Cl W hds rest) :
    DHs X Cl W (.ExceptHandler (some (.Tuple [.Name x1 p1, .Name x2 p2, .Name x3 p3] kk tpos)) none (b0 :: suite) pos' :: hds) (hOne m g rest) := by
  obtain ⟨wr, h1, h2⟩ := hr
  refine ⟨_, fun D ok => clauses_gen (ts := fun _ _ _ => tsOf X.K Cl W0 g) ok hf (tests_tup3 n1 n2 n3) (fun a oe cls d pn hz hdat => ⟨fun pins s σ H D I q => (hsu a oe pn).run pins s σ H D I q⟩) (h1 D ok), fun D H0 Z o c i ρ σ H dd e I hd q => ?_⟩
  unfold hOne at e
  cases e1 : m c with
  | none => rw [e1] at e; cases e
  | some b =>
    rw [e1] at e
    obtain ⟨hlt, hb⟩ := hm c b e1
    refine ⟨b, hb, fun hb1 a na => ?_, fun hb0 => ?_⟩
    · subst hb1
      dsimp only at e
      cases e2 : g ρ with
      | none => rw [e2] at e; cases e
      | some o2 =>
        rw [e2] at e
        refine ⟨H0, Z, _, o2, I, e2, ?_⟩
        cases o2 with
        | nx ρ2 => cases e; exact q
        | brk ρ2 => cases e; exact q
        | ct ρ2 => cases e; exact q
        | ret d => cases e; exact q
        | retF ds => cases e; exact q
        | retX ds k => cases e; exact q
        | exc _ _ _ => cases e
    · subst hb0
      exact h2 D H0 Z o c i ρ σ H dd e I hd q
end
end DL
set_option Elab.async false
set_option linter.all false
set_option maxRecDepth 100000
set_option maxHeartbeats 4000000
/-! DL13: enumerate over a tuple. -/
namespace DL
open PySem PySem.Spec PyProof.Rows L2
/-- the making, told by what the iterator is -/
theorem meets_enum1 {v : Value} {o : Obj} {H : Heap → Prop} (B : Begins v o H) :
    Meets (Builtin.«enumerate.__new__» ⟨[.type "enumerate", v], []⟩) (fun _ R s => H s.heap ∧
      R (.ok (.ret (.ref (s.heap.push o).objs.size))) { s with heap := (s.heap.push o).push { cls := .type "enumerate", data := .fields #[.none, .bool false, .ref s.heap.objs.size, rawInt 0, .none, .none] } }) :=
  .of_wp fun prog w A R s h => by
    obtain ⟨hp, g, d, tk, os⟩ := s; obtain ⟨h1, h⟩ := h
    have hsub := sub_enumerate
    have q1 : ∀ {A' : Around} {E : Value → Shared → Prop} {Q : Value → Shared → Prop}, Q (.ref hp.objs.size) ⟨hp.push o, g, d, tk, os⟩ → wpAny (model prog w) A' (pyIter v) Q E ⟨hp, g, d, tk, os⟩ :=
      fun q => B.iter prog w _ _ ⟨hp, g, d, tk, os⟩ _ h1 q
    wp_walk using q1
    refine wpAny_stack_any fun st => wpAny_pure ?_
    split
    · rename_i c _ _ _ _ _
      cases (c == Value.type "enumerate")
      · wp_walk using q1
        exact ⟨_, rfl, h⟩
      · wp_walk using q1
        exact ⟨_, rfl, h⟩
    · wp_walk using q1
      exact ⟨_, rfl, h⟩
theorem enum_begins1 {prog : Program} {w : World} {A : Around} {E : Value → Shared → Prop} {s : Shared} {v : Value} {o : Obj} {H : Heap → Prop} {Q : Value → Shared → Prop} (B : Begins v o H) (h1 : H s.heap)
    (h : ∀ h', IsEnum h' (s.heap.objs.size + 1) s.heap.objs.size 0 .none → h'.get? s.heap.objs.size = some o → h'.objs.size = s.heap.objs.size + 2 →
      (∀ b o, s.heap.get? b = some o → h'.get? b = some o) → Q (.ref (s.heap.objs.size + 1)) { s with heap := h' }) :
    wpAny (model prog w) A (call (.type "enumerate") [v]) Q E s := by
  refine callType_new F.called_enumerate (by decide) (F.typeCall_enumerate_1 _) (F.newCall_enumerate_1 _) (fun obj => F.args_object_init_2 obj _) F.entry_enumerate_new
    (meets_enum1 B) ⟨h1, ?_⟩
  have hz : (s.heap.push o).objs.size = s.heap.objs.size + 1 := Heap.size_push ..
  show _ ∧ _
  rw [hz]
  have he : IsEnum ((s.heap.push o).push { cls := .type "enumerate", data := .fields #[.none, .bool false, .ref s.heap.objs.size, rawInt 0, .none, .none] }) (s.heap.objs.size + 1) s.heap.objs.size 0 .none := by
    have q := Heap.get?_push_size (s.heap.push o) (o := { cls := .type "enumerate", data := .fields #[.none, .bool false, .ref s.heap.objs.size, rawInt 0, .none, .none] }) rfl
    rw [hz] at q; exact q
  refine ⟨⟨_, he, rfl⟩, h _ he (Heap.get?_push_of_some _ (Heap.get?_push_size _ B.free)) (by rw [Heap.size_push, hz]) fun b o x => Heap.get?_push_of_some _ (Heap.get?_push_of_some _ x)⟩
/-- the tuple at a, each item in a new pair -/
def Itet (K : PySem.W.Frag) (a : Addr) : It :=
  ⟨fun i H => ∃ (xs : List V) (x : V), SqT K H a xs ∧ xs[i]? = some x, fun i H v H' => ∃ T x, v = .ref T ∧ H T = none ∧ H' = upd H T (.tup [.int (i : Nat), x]) ∧ ∀ xs, SqT K H a xs → xs[i]? = some x, fun i H => ∃ xs : List V, SqT K H a xs ∧ xs.length ≤ i⟩
theorem turn_enumT {P : Program} {w : World} {K : PySem.W.Frag} {elts : List Expr} {kk : Nat} {tpos : Pos} (a e it : Addr) :
    Turn P w K (.Tuple elts kk tpos) (Itet K a) [e, it] e (fun i h => (∃ old, IsEnum h e it ((i : Nat) : Int) old) ∧ h.IsTupleIter it a i ∧ e ≠ it) where
  mem := by simp
  obj := fun i h st b hb => by
    obtain ⟨⟨old, he⟩, ⟨o, ho, hc, hd⟩, _⟩ := st
    have e' : b = e ∨ b = it := by simpa using hb
    rcases e' with z | z
    · rw [z]; exact ⟨_, he, fun v q => nomatch q⟩
    · rw [z]; exact ⟨o, ho, fun v q => by rw [hd] at q; cases q⟩
  keep := fun i h h' st k => let ⟨⟨old, he⟩, hi, hne⟩ := st; ⟨⟨old, k e (by simp) _ he⟩, hi.at fun o q => k it (by simp) o q, hne⟩
  item := by
    intro X hP hw hK hc i pins s σ H E I hf st hg
    subst hP hw hK
    obtain ⟨⟨old, he⟩, hit, hne⟩ := st
    obtain ⟨xs, x, hq, hx⟩ := hg
    obtain ⟨its, rv, p, hz⟩ := I.tuple hq
    obtain ⟨u, hu, ru⟩ := rv.get hx
    have hel : e < s.heap.objs.size := Heap.lt_size he
    have hil : it < s.heap.objs.size := by obtain ⟨_, q, _⟩ := hit; exact Heap.lt_size q
    have hai : a ≠ it := fun z => by
      obtain ⟨o1, q1, c1, _⟩ := p
      obtain ⟨o2, q2, c2, _⟩ := hit
      rw [z, q2] at q1
      cases q1
      rw [c1] at c2
      exact absurd c2 (by decide)
    have hae : e ≠ a := fun z => by
      obtain ⟨o1, q1, c1, _⟩ := p
      have q2 := he
      rw [z] at q2
      rw [show s.heap.get? a = _ from q2] at q1
      cases q1
      injection c1 with c1
      exact absurd c1 (by decide)
    have ilt : i < its.toArray.size := by
      have := (List.getElem?_eq_some_iff.mp hu).1
      simpa using this
    refine wpAny_pyNext_enum_itemD (Draws.tuple (A := X.A.in1) (I.ok.hd hc) it a hai its.toArray) he ⟨hit, p⟩ ilt hne (by simp [hne, hae]) fun x' h' tk hP ho hst' hT hsz hk => ?_
    obtain rfl : x' = u := by
      have q : its[i]? = some x' := by simpa using hP
      rw [hu] at q
      cases q
      rfl
    refine ⟨_, rfl, wpAny_letOwnedTupleGo_enum (s := { s with heap := h', toks := tk + 1 }) ho fun h'' he' sb => ?_⟩
    have hT2 : h''.get? s.heap.objs.size = some { cls := .type "tuple", data := .seq #[.int i tk, x'] } := (sb.2 _ (Nat.ne_of_gt hel)).trans hT
    have new : ObjOk X.prog X.w (upd H s.heap.objs.size (.tup [.int (i : Nat), x])) h'' s.heap.objs.size (.tup [.int (i : Nat), x]) :=
      ⟨by show 2 ≤ sizeLine; decide, [.int i tk, x'], .cons ⟨_, rfl⟩ (.cons ru .nil), ⟨_, hT2, rfl, _, rfl⟩⟩
    have I1 : Inv X pins σ (upd H s.heap.objs.size (.tup [.int (i : Nat), x])) { s with heap := h'', toks := tk + 1 } :=
      I.turnedNew (ch := [e, it]) (fun b ob hb q => (sb.2 b (fun z => hb (by simp [z]))).trans (hk b ob (fun z => hb (by simp [z])) (fun z => hb (by simp [z])) q)) hf (Nat.le_refl _) new
    refine ⟨.ref s.heap.objs.size, _, I1, rfl, ⟨_, x, rfl, I.hok.fresh (Nat.le_refl _), rfl, fun ys hy => by rw [I.tuple_inj hy hq]; exact hx⟩, ⟨⟨x', ?_⟩, hst'.1.at fun o q => (sb.2 it (Ne.symm hne)).trans q, hne⟩, fun b hb => ?_⟩
    · have e1 : ((i + 1 : Nat) : Int) = (i : Int) + 1 := by omega
      rw [e1]; exact he'
    · have hb' : b < s.heap.objs.size := by
        have e' : b = e ∨ b = it := by simpa using hb
        rcases e' with z | z
        · rw [z]; exact hel
        · rw [z]; exact hil
      rw [upd_ne (Nat.ne_of_lt hb')]
      exact (hf b hb).1
  done := by
    intro X hP hw hK hc i pins s σ H E I hf st hg
    subst hP hw hK
    obtain ⟨⟨old, he⟩, hit, hne⟩ := st
    obtain ⟨xs, hq, hx⟩ := hg
    obtain ⟨its, rv, p, hz⟩ := I.tuple hq
    obtain ⟨f0, f1, f2, f3, f4, f5⟩ := hf it (by simp)
    have hl := rv.length
    have hT : s.TypeIs (.ref e) "enumerate" := ⟨_, he, rfl⟩
    unfold pyNext
    refine wpAny_bind (wpAny_attempt (wpAny_callSpecial?_slot (name := Str.ofString "__next__") hT F.slot_enumerate_next
      (wpAny_call_entry F.slot_enumerate_next hT F.entry_enumerate_next ?_ (F.args_enumerate_next_1 _))))
    show wpAny _ _ (field (.ref e) 2 >>= _) _ _ _
    refine wpAny_bind (wpAny_field he rfl (x := .ref it) rfl ?_)
    refine wpAny_bind (wpAny_nextOf_tuple_end (A := X.A.in1) (I.ok.hd hc) hit p (by simp; omega) fun h' x he' hx' => ?_)
    obtain ⟨o, ho, hc⟩ := hx'
    refine wpAny_bind (wpAny_isInstance (T := "StopIteration") (b := true) ⟨o, ho, hc⟩ isSubtype_stop ?_)
    exact wpAny_pure ⟨rfl, I.turned (t' := s.toks) (fun b o hb q => he' b o hb q) f0 f1 f3 f4 f5⟩
  self := fun A i s Q E st h => let ⟨⟨_, he⟩, _⟩ := st; wpAny_pyIter_enum he h
def iEnumT (K : PySem.W.Frag) (ta : TA) : TI := fun σ H R => ta σ H fun vs H1 => ∃ a xs, vs = [.ref a] ∧ SqT K H1 a xs ∧ R (Itet K a) H1
theorem pi_enumT {X : Cx} {e : Expr} {ta : TA} {p pos tpos : Pos} {elts : List Expr} {kk : Nat} (hg : Gl X "enumerate") (hm : X.mg "enumerate" = none) (ha : PA X [e] ta) (hs : starEach [e] X.env = [(false, eval e X.env)] := by rfl) :
    PI X (.Tuple elts kk tpos) (.Call (.Name "enumerate" p) [e] [] pos) (iEnumT X.K ta) := by
  refine ⟨fun pins s σ H R I h => ?_⟩
  refine Call_ (ld_blt I hg hm boot_enumerate (PyProof.Rows.callWith_type1 (thn (ha.run pos pins s σ H _ I h) fun us s1 ⟨vs, H1, I1, r1, q1⟩ => ?_) hs rfl))
  obtain ⟨a, xs, ex, hq, q⟩ := q1
  subst ex
  cases r1 with
  | cons r rr =>
    cases rr
    cases r
    obtain ⟨its, rv, p', hz⟩ := I1.tuple hq
    refine enum_begins1 (begins_tuple a its.toArray) p' fun h' he hit hsz hk => wpAny_pyIter_enum he ?_
    have I2 : Inv X pins σ H1 { s1 with heap := h' } := I1.kept (t' := s1.toks) hk
    refine ⟨s1.heap.objs.size + 1, [s1.heap.objs.size + 1, s1.heap.objs.size], _, _, H1, rfl, I2, turn_enumT a (s1.heap.objs.size + 1) s1.heap.objs.size, ⟨⟨.none, he⟩, ⟨_, hit, rfl, rfl⟩, Nat.succ_ne_self _⟩, fun b hb => ?_, q⟩
    have e' : b = s1.heap.objs.size + 1 ∨ b = s1.heap.objs.size := by simpa using hb
    have hle : s1.heap.objs.size ≤ b := by
      rcases e' with z | z
      · rw [z]; exact Nat.le_add_right _ _
      · rw [z]; exact Nat.le_refl _
    exact I1.fpOk hle (I1.hok.fresh hle)
theorem it_enumT {K : PySem.W.Frag} {Hs : Hp} {a : Addr} {xs : List V} {ds : List D} (h1 : SqT K Hs a xs) (h2 : DpAll K Hs xs ds) : ItOk K Hs (Itet K a) (enumD ds) := fun Z' H' s live => by
  have q : SqT K H' a xs := SqT.same (s.trans hide_sub) h1
  have hl : (enumD ds).length = xs.length := by
    unfold enumD
    rw [List.length_map, List.length_zipIdx, h2.length]
  refine ⟨fun i hi => ⟨xs, xs[i]'(by rw [← hl]; exact hi), q, List.getElem?_eq_getElem _⟩, fun i hi => ⟨xs, q, by rw [← hl]; exact hi⟩, fun i x H'' d y hd => ?_⟩
  obtain ⟨T, z, rfl, nT, rfl, y⟩ := y
  have e3 := y xs q
  obtain ⟨d', e1, e2⟩ := h2.get' e3
  unfold enumD at hd
  rw [List.getElem?_map, List.getElem?_zipIdx, e1] at hd
  cases hd
  have nz : ¬ Z' T := fun z => live T z nT
  refine ⟨same_upd nT, .tup (SqT.of (hide_at nz upd_same)) (.cons ?_ (.cons ?_ .nil))⟩
  · rw [Nat.zero_add]
    exact .int _
  · exact Dp.same (s.trans (hide_mono (same_upd nT) fun _ h => .inl h)) e2
section
variable {X : Cx} {Cl : Nat → Addr} {W : WX} {e : Expr} {p pos : Pos} {g : FA}
@[simp] def iEnumX (g : FA) (ρ : Rho) : Option (Except Er (List D)) := match g ρ with
  | none => none
  | some (.error e) => some (.error e)
  | some (.ok vs) => match vs with
    | [.s (.list ds)] => some (.ok (enumD ds))
    | [.f ds] => some (.ok (enumD ds))
    | [.s (.tuple ds)] => some (.ok (enumD ds))
    | _ => none
theorem di_enumX {elts : List Expr} {kk : Nat} {tpos : Pos} (hm : X.mg "enumerate" = none) (ha : DA X Cl W [e] g) (hg : Gl X "enumerate" := by rfl) (hs : starEach [e] X.env = [(false, eval e X.env)] := by rfl) :
    DIt X Cl W (.Tuple elts kk tpos) (.Call (.Name "enumerate" p) [e] [] pos) (iEnumX g) :=
  PI.imp (DL.PI.or (pi_enum hg hm ha hs) (pi_enumT hg hm ha hs)) fun σ H R ⟨Z, ρ, r, I, e, q⟩ => by
    unfold iEnumX at e
    cases e1 : g ρ with
    | none => rw [e1] at e; cases e
    | some r1 =>
      rw [e1] at e
      cases r1 with
      | error er =>
        cases e
        exact .inl (ta_step I e1 (fun er z => by cases z; exact q) fun vs xs H1 ev s1 hvs I1 => by cases ev)
      | ok vs0 =>
        dsimp only at e
        split at e
        · rename_i ds
          cases e
          refine .inl (ta_step I e1 (fun er z => by cases z) fun vs xs H1 ev s1 hvs I1 => ?_)
          cases ev
          obtain ⟨x, rfl, h⟩ := hvs.one
          obtain ⟨a, ys, rfl, h1, h2⟩ := Dp.lst_inv (show Dp X.K (hide H1 (Zo Z σ ρ)) x (.list ds) from h)
          exact ⟨a, ys, rfl, .inl (Rd.same hide_sub h1), q _ H1 s1 (it_enum h1 h2)⟩
        · rename_i ds
          cases e
          refine .inl (ta_step I e1 (fun er z => by cases z) fun vs xs H1 ev s1 hvs I1 => ?_)
          cases ev
          obtain ⟨x, rfl, h⟩ := hvs.one
          obtain ⟨a, ys, rfl, n, h1, h2⟩ := h
          have np : ¬ Zo Z σ ρ a := fun z => I.liveZ z n
          exact ⟨a, ys, rfl, SqL.of h1, q _ H1 s1 (it_enum (Rd.of (hide_at np h1)) (DpAll.same (hide_mono (Same.refl _) fun _ h => .inl (.inl h)) h2))⟩
        · rename_i ds
          cases e
          refine .inr (ta_step I e1 (fun er z => by cases z) fun vs xs H1 ev s1 hvs I1 => ?_)
          cases ev
          obtain ⟨x, rfl, h⟩ := hvs.one
          obtain ⟨a, ys, rfl, h1, h2⟩ := Dp.tup_inv (show Dp X.K (hide H1 (Zo Z σ ρ)) x (.tuple ds) from h)
          exact ⟨a, ys, rfl, SqT.same hide_sub h1, q _ H1 s1 (it_enumT h1 h2)⟩
        · cases e
end
end DL
set_option Elab.async false
set_option linter.all false
set_option maxRecDepth 100000
set_option maxHeartbeats 1000000
/-! DM5: slices, or, early ends of loops. -/
namespace DL
open PySem PySem.Spec PyProof.Rows L2
section
variable {f g : FS} {ρ ρ1 : Rho} {o : Option Out} {n k : Nat} {ds : List D} {d : D} {E F fa fb fc : FE} {t u : FT} {i : Nat} {v a b : Val} {c : Nat} {j : Int}
theorem r_orV_t (q1 : fa ρ = some (.ok (.s (.bool true)))) : eOrV fa fb ρ = some (.ok (.s (.bool true))) := by
  rw [eOrV_ap]
  unfold bE
  rw [q1]
  rfl
theorem r_orV_f (q1 : fa ρ = some (.ok (.s (.bool false)))) (q2 : fb ρ = some (.ok v)) : eOrV fa fb ρ = some (.ok v) := by
  rw [eOrV_ap]
  unfold bE
  rw [q1]
  exact q2
theorem r_eqI_is {i j : Int} (ha : fa ρ = some (.ok (.s (.int i)))) (hb : fb ρ = some (.ok (.s (.int j)))) : tV (e2 gEq fa fb) ρ = some (.ok (decide (i = j))) := by
  by_cases h : i = j
  · rw [r_eqI_t ha hb h, decide_eq_true h]
  · rw [r_eqI_f ha hb h, decide_eq_false h]
theorem r_addN {i j : Nat} (ha : fa ρ = some (.ok (.s (.int (i : Int))))) (hb : fb ρ = some (.ok (.s (.int (j : Int))))) : e2 gAdd fa fb ρ = some (.ok (.s (.int ((i + j : Nat) : Int)))) := by
  rw [Int.natCast_add]
  exact r_addI ha hb
theorem r_andI {i j : Int} (ha : fa ρ = some (.ok (.s (.int i)))) (hb : fb ρ = some (.ok (.s (.int j)))) : e2 gAnd fa fb ρ = some (.ok (.s (.int (Builtin.bitAnd i j)))) := r_e2 ha hb rfl
theorem r_ixF {es : List D} {j : Int} (ha : fa ρ = some (.ok (.f es))) (hb : fb ρ = some (.ok (.s (.int j)))) (h : atI es j = some d) (hs : scalarD d = true) : e2 gIx fa fb ρ = some (.ok (.s d)) := r_e2 ha hb (by
  show (atI es j).map Val.s = _
  rw [h]
  rfl)
theorem r_ixT {es : List D} {j : Int} (ha : fa ρ = some (.ok (.s (.tuple es)))) (hb : fb ρ = some (.ok (.s (.int j)))) (h : atI es j = some d) : e2 gIx fa fb ρ = some (.ok (.s d)) := r_e2 ha hb (by
  show (atI es j).map Val.s = _
  rw [h]
  rfl)
theorem r_listOf {es : List D} (q : E ρ = some (.ok v)) (h : v.seq = some es) : eG bList (aCons E (aNil)) ρ = some (.ok (.f es)) := r_eG (r_args q r_args0) (by
  show v.seq.map Val.f = _
  rw [h]
  rfl)
/-- the place of the first 0 -/
theorem r_idx {r : List Nat} {m : Nat} (hj : idxD (.int 0) (jd r) = some m) (ha : fa ρ = some (.ok (.s (.list (jd r))))) (hb : fb ρ = some (.ok (.s (.int 0)))) : eLM gIndex fa fb ρ = some (.ok (.s (.int (m : Int)))) := by
  rw [eLM_ap]
  unfold bE
  rw [ha]
  show bE fb (fun b _ => (gIndex (.s (.list (jd r))) b).map .ok) ρ = _
  unfold bE
  rw [hb]
  show (gIndex (.s (.list (jd r))) (.s (.int 0))).map Except.ok = _
  unfold gIndex
  show ((if (scalarD (.int 0) && (jd r).all scalarD) = true then (idxD (.int 0) (jd r)).map fun j => Val.s (.int (j : Int)) else none)).map Except.ok = _
  rw [if_pos (by rw [jd_scalar]; rfl), hj]
  rfl
end
theorem cutL_to {α : Type} (xs : List α) (i : Nat) : cutL xs none (some (i : Int)) = xs.take i := by
  unfold cutL
  rw [HT.sIx_none, HT.sIx_nat, List.drop_zero, Nat.sub_zero]
  by_cases h : i ≤ xs.length
  · rw [Nat.min_eq_left h]
  · rw [Nat.min_eq_right (by omega), List.take_length, List.take_of_length_le (by omega)]
theorem cutL_from {α : Type} (xs : List α) (i : Nat) : cutL xs (some (i : Int)) none = xs.drop i := by
  unfold cutL
  rw [HT.sIx_none, HT.sIx_nat]
  by_cases h : i ≤ xs.length
  · rw [Nat.min_eq_left h, List.take_of_length_le (by rw [List.length_drop]; omega)]
  · rw [Nat.min_eq_right (by omega), List.drop_length, List.drop_of_length_le (by omega), List.take_nil]
theorem cutL_last {α : Type} (xs : List α) : cutL xs none (some (-1)) = xs.dropLast := by
  unfold cutL
  rw [HT.sIx_none, List.drop_zero, Nat.sub_zero, List.dropLast_eq_take]
  congr 1
  show (if (-1 : Int) < 0 then ((-1 : Int) + (xs.length : Int)).toNat else min (-1 : Int).toNat xs.length) = _
  rw [if_pos (by decide)]
  omega
theorem cutL_tail {α : Type} (xs : List α) : cutL xs (some (-1)) none = xs.drop (xs.length - 1) := by
  unfold cutL
  rw [HT.sIx_none]
  have e : HT.sIx xs.length 0 (some (-1)) = xs.length - 1 := by
    show (if (-1 : Int) < 0 then ((-1 : Int) + (xs.length : Int)).toNat else min (-1 : Int).toNat xs.length) = _
    rw [if_pos (by decide)]
    omega
  rw [e, List.take_of_length_le (by rw [List.length_drop]; omega)]
theorem jd_take (r : List Nat) (n : Nat) : (jd r).take n = jd (r.take n) := by
  unfold jd
  rw [List.map_take]
theorem jd_drop (r : List Nat) (n : Nat) : (jd r).drop n = jd (r.drop n) := by
  unfold jd
  rw [List.map_drop]
theorem jd_dropLast (r : List Nat) : (jd r).dropLast = jd r.dropLast := by
  unfold jd
  rw [List.map_dropLast]
theorem jd_one (n : Nat) : [PyData.int (n : Int)] = jd [n] := rfl
section
variable {ρ ρ1 : Rho} {E F : FE} {v : Val} {r : List Nat} {i j : Nat}
/-- slices of bytes -/
theorem r_slTo (q : E ρ = some (.ok v)) (hv : v = .s (.list (jd r)) ∨ v = .b (jd r) ∨ v = .f (jd r)) (q2 : F ρ = some (.ok (.s (.int (i : Int))))) : eSl E oNone (oSome F) ρ = some (.ok (.f (jd (r.take i)))) := by
  rw [r_sl q hv rfl (r_oS q2), cutL_to, jd_take]
theorem r_slFrom (q : E ρ = some (.ok v)) (hv : v = .s (.list (jd r)) ∨ v = .b (jd r) ∨ v = .f (jd r)) (q2 : F ρ = some (.ok (.s (.int (i : Int))))) : eSl E (oSome F) oNone ρ = some (.ok (.f (jd (r.drop i)))) := by
  rw [r_sl q hv (r_oS q2) rfl, cutL_from, jd_drop]
theorem r_slMid {G : FE} (q : E ρ = some (.ok v)) (hv : v = .s (.list (jd r)) ∨ v = .b (jd r) ∨ v = .f (jd r)) (q1 : F ρ = some (.ok (.s (.int (i : Int))))) (q2 : G ρ = some (.ok (.s (.int (j : Int))))) (hij : i ≤ j) (hj : j ≤ r.length) : eSl E (oSome F) (oSome G) ρ = some (.ok (.f (jd ((r.drop i).take (j - i))))) := by
  rw [r_sl q hv (r_oS q1) (r_oS q2), cutL_nat _ _ _ (by rw [jd_len]; exact hj) hij, jd_drop, jd_take]
theorem r_catJ {fa fb : FE} {a b : Val} {x y : List Nat} (ha : fa ρ = some (.ok a)) (hb : fb ρ = some (.ok b)) (h1 : a.items = some (jd x)) (h2 : b.items = some (jd y)) (hn : gAddI a b = none) (hl : x.length + y.length ≤ 10000000) : e2 gAdd fa fb ρ = some (.ok (.f (jd (x ++ y)))) := by
  rw [r_cat ha hb h1 h2 hn (by rw [jd_len, jd_len]; omega), jd_app]
end
theorem idxD_jd0 (r : List Nat) (h : r.contains 0 = true) : ∃ j : Nat, idxD (.int 0) (jd r) = some j ∧ j < r.length := by
  have e : (idxD (.int 0) (jd r)).isSome = true := by
    unfold idxD
    rw [List.findIdx?_isSome, List.any_eq_true]
    rw [List.contains_iff_mem] at h
    refine ⟨.int 0, ?_, rfl⟩
    exact List.mem_map.mpr ⟨0, h, rfl⟩
  obtain ⟨j, hj⟩ := Option.isSome_iff_exists.mp e
  refine ⟨j, hj, ?_⟩
  have q := (List.findIdx?_eq_some_iff_getElem.mp hj).1
  rw [jd_len] at q
  exact q
end DL
set_option Elab.async false
set_option linter.all false
set_option maxRecDepth 100000
set_option maxHeartbeats 1000000
/-! DM6: natural numbers, loops that stop at a turn. -/
namespace DL
open PySem PySem.Spec PyProof.Rows L2
/-- a loop that ends at turn m: by a return, or by an error -/
theorem forL_stop {g : FG} {body : FS} {o : Out} (Inv : Nat → Rho → Prop) {ds : List D} {ρ : Rho} {m : Nat} (hm : m < ds.length) (h0 : Inv 0 ρ)
    (h : ∀ i d ρ, i < m → ds[i]? = some d → Inv i ρ → ∃ ρ1 ρ2, g d ρ = some ρ1 ∧ body ρ1 = some (.nx ρ2) ∧ Inv (i + 1) ρ2)
    (hr : ∀ d ρ, ds[m]? = some d → Inv m ρ → ∃ ρ1, g d ρ = some ρ1 ∧ body ρ1 = some o) (ho : (∃ d, o = .ret d) ∨ (∃ x, o = .retF x) ∨ ∃ ρ' c j, o = .exc ρ' c j) : forL g body ds ρ = some o := by
  have go : ∀ (k n : Nat) (ρ : Rho), m - n = k → n ≤ m → Inv n ρ → forL g body (ds.drop n) ρ = some o := by
    intro k
    induction k with
    | zero =>
      intro n ρ hk hn hI
      have e : n = m := by omega
      subst e
      obtain ⟨ρ1, h1, h2⟩ := hr ds[n] ρ (List.getElem?_eq_getElem hm) hI
      rw [List.drop_eq_getElem_cons hm]
      unfold forL
      rw [h1]
      dsimp only
      rw [h2]
      rcases ho with ⟨d, rfl⟩ | ⟨x, rfl⟩ | ⟨ρ', c, j, rfl⟩ <;> rfl
    | succ k ih =>
      intro n ρ hk hn hI
      have hlt : n < ds.length := by omega
      obtain ⟨ρ1, ρ2, h1, h2, h3⟩ := h n ds[n] ρ (by omega) (List.getElem?_eq_getElem hlt) hI
      rw [List.drop_eq_getElem_cons hlt]
      unfold forL
      rw [h1]
      dsimp only
      rw [h2]
      exact ih (n + 1) ρ2 (by omega) (by omega) h3
  have q := go _ 0 ρ rfl (Nat.zero_le _) h0
  rw [List.drop_zero] at q
  exact q
theorem rangeD_length (lo : Int) (n : Nat) : (rangeD lo n).length = n := by simp [rangeD]
theorem rangeD_at {lo n : Nat} {i : Nat} {d : D} (h : (rangeD (lo : Int) n)[i]? = some d) : i < n ∧ d = .int ((lo + i : Nat) : Int) := by
  have hi : i < n := by
    have := (List.getElem?_eq_some_iff.mp h).1
    rw [rangeD_length] at this
    exact this
  refine ⟨hi, ?_⟩
  rw [rangeD_eq, List.getElem?_map, List.getElem?_range hi] at h
  cases h
  rfl
theorem rangeD0_at {n : Nat} {i : Nat} {d : D} (h : (rangeD 0 n)[i]? = some d) : i < n ∧ d = .int (i : Int) := by
  have q := rangeD_at (lo := 0) h
  rw [Nat.zero_add] at q
  exact q
theorem atI_jdD {r : List Nat} {i : Nat} (h : i < r.length) : atI (jd r) (i : Int) = some (.int (r.getD i 0 : Nat)) := by
  rw [atI_jd h]
  congr 3
  rw [List.getD_eq_getElem?_getD, List.getElem?_eq_getElem h]
  rfl
section
variable {f g : FS} {ρ ρ1 : Rho} {o : Option Out} {n k : Nat} {ds : List D} {d : D} {E F fa fb fc : FE} {t u : FT} {i j : Nat} {v a b : Val} {c : Nat}
theorem r_subN (ha : fa ρ = some (.ok (.s (.int (i : Int))))) (hb : fb ρ = some (.ok (.s (.int (j : Int))))) (h : j ≤ i) : e2 gSub fa fb ρ = some (.ok (.s (.int ((i - j : Nat) : Int)))) := by
  rw [Int.natCast_sub h]
  exact r_subI ha hb
theorem r_mulN (ha : fa ρ = some (.ok (.s (.int (i : Int))))) (hb : fb ρ = some (.ok (.s (.int (j : Int))))) (h : i < 1000000000 ∨ j < 1000000000) : e2 gMul fa fb ρ = some (.ok (.s (.int ((i * j : Nat) : Int)))) := by
  rw [Int.natCast_mul]
  refine r_mulI ha hb ?_
  rcases h with h | h
  · exact cMul_l (by omega) (by omega)
  · exact cMul_r (by omega) (by omega)
theorem r_modN (ha : fa ρ = some (.ok (.s (.int (i : Int))))) (hb : fb ρ = some (.ok (.s (.int (j : Int))))) (h : 0 < j) : e2 gMod fa fb ρ = some (.ok (.s (.int ((i % j : Nat) : Int)))) := by
  rw [Int.natCast_emod]
  exact r_modI ha hb (by omega)
theorem r_divN (ha : fa ρ = some (.ok (.s (.int (i : Int))))) (hb : fb ρ = some (.ok (.s (.int (j : Int))))) (h : 0 < j) (h2 : j < 1000000000) : e2 gDiv fa fb ρ = some (.ok (.s (.int ((i / j : Nat) : Int)))) := by
  rw [Int.natCast_ediv]
  exact r_divI ha hb (by omega) (by omega)
theorem r_and7 (ha : fa ρ = some (.ok (.s (.int (i : Int))))) (hb : fb ρ = some (.ok (.s (.int 127)))) : e2 gAnd fa fb ρ = some (.ok (.s (.int ((i % 128 : Nat) : Int)))) := by
  have e : ((i % 128 : Nat) : Int) = Builtin.bitAnd (i : Int) 127 := by
    rw [bitAnd_m7]
    omega
  rw [e]
  exact r_andI ha hb
theorem r_and8 (ha : fa ρ = some (.ok (.s (.int (i : Int))))) (hb : fb ρ = some (.ok (.s (.int 255)))) : e2 gAnd fa fb ρ = some (.ok (.s (.int ((i % 256 : Nat) : Int)))) := by
  have e : ((i % 256 : Nat) : Int) = Builtin.bitAnd (i : Int) 255 := by
    rw [bitAnd_m8]
    omega
  rw [e]
  exact r_andI ha hb
theorem natPow (k : Nat) : ((2 : Int) ^ (k : Int).toNat) = ((2 ^ k : Nat) : Int) := by
  rw [Int.toNat_natCast, Int.natCast_pow]
  rfl
theorem r_shrN (ha : fa ρ = some (.ok (.s (.int (i : Int))))) (hb : fb ρ = some (.ok (.s (.int (j : Int))))) : e2 gShr fa fb ρ = some (.ok (.s (.int ((i / 2 ^ j : Nat) : Int)))) := r_e2 ha hb (by
  show (if cShr (i : Int) (j : Int) = true then some (Val.s (.int ((i : Int) / 2 ^ (j : Int).toNat))) else none) = _
  rw [if_pos (cShr_ok (Int.natCast_nonneg _)), natPow, Int.natCast_ediv])
theorem r_shlN (ha : fa ρ = some (.ok (.s (.int (i : Int))))) (hb : fb ρ = some (.ok (.s (.int (j : Int))))) (h : i < 1000000000) (h2 : j ≤ 1000000) : e2 gShl fa fb ρ = some (.ok (.s (.int ((i * 2 ^ j : Nat) : Int)))) := r_e2 ha hb (by
  show (if cPow (i : Int) (j : Int) = true then some (Val.s (.int ((i : Int) * 2 ^ (j : Int).toNat))) else none) = _
  rw [if_pos (cPow_is (by omega) (by omega) (by omega) (by omega)), natPow, Int.natCast_mul])
theorem r_geI {x y : Int} (ha : fa ρ = some (.ok (.s (.int x)))) (hb : fb ρ = some (.ok (.s (.int y)))) : tV (e2 gGeX fa fb) ρ = some (.ok (decide (y ≤ x))) := r_tV (r_e2 ha hb rfl) rfl
theorem r_leI {x y : Int} (ha : fa ρ = some (.ok (.s (.int x)))) (hb : fb ρ = some (.ok (.s (.int y)))) : tV (e2 gLeX fa fb) ρ = some (.ok (decide (x ≤ y))) := r_tV (r_e2 ha hb rfl) rfl
theorem r_geI_t {x y : Int} (ha : fa ρ = some (.ok (.s (.int x)))) (hb : fb ρ = some (.ok (.s (.int y)))) (h : y ≤ x) : tV (e2 gGeX fa fb) ρ = some (.ok true) := by rw [r_geI ha hb, decide_eq_true h]
theorem r_geI_f {x y : Int} (ha : fa ρ = some (.ok (.s (.int x)))) (hb : fb ρ = some (.ok (.s (.int y)))) (h : x < y) : tV (e2 gGeX fa fb) ρ = some (.ok false) := by rw [r_geI ha hb, decide_eq_false (by omega)]
theorem r_leI_t {x y : Int} (ha : fa ρ = some (.ok (.s (.int x)))) (hb : fb ρ = some (.ok (.s (.int y)))) (h : x ≤ y) : tV (e2 gLeX fa fb) ρ = some (.ok true) := by rw [r_leI ha hb, decide_eq_true h]
theorem r_leI_f {x y : Int} (ha : fa ρ = some (.ok (.s (.int x)))) (hb : fb ρ = some (.ok (.s (.int y)))) (h : y < x) : tV (e2 gLeX fa fb) ρ = some (.ok false) := by rw [r_leI ha hb, decide_eq_false (by omega)]
theorem r_range2 {x y : Int} (ha : fa ρ = some (.ok (.s (.int x)))) (hb : fb ρ = some (.ok (.s (.int y)))) (h1 : -1000000000 < x) (h2 : x < 1000000000) (h3 : -1000000000 < y) (h4 : y < 1000000000) : iRange2 (aCons fa (aCons fb (aNil))) ρ = some (.ok (rangeD x (y - x).toNat)) := by
  unfold iRange2
  rw [r_args ha (r_args hb r_args0)]
  show (if (cRng x && cRng y) = true then some (Except.ok (rangeD x (y - x).toNat)) else none) = _
  rw [if_pos (by rw [cRng_is h1 h2, cRng_is h3 h4]; rfl)]
theorem r_neg {x : Int} (ha : fa ρ = some (.ok (.s (.int x)))) : e1 gNeg fa ρ = some (.ok (.s (.int (-x)))) := r_e1 ha rfl
theorem r_lenJ {r : List Nat} (q : E ρ = some (.ok v)) (h : v.d = .list (jd r)) : eG bLen (aCons E (aNil)) ρ = some (.ok (.s (.int (r.length : Int)))) := by
  rw [r_len q h, jd_len]
theorem r_lenT {es : List D} (q : E ρ = some (.ok v)) (h : v.d = .tuple es) : eG bLen (aCons E (aNil)) ρ = some (.ok (.s (.int (es.length : Int)))) := by
  refine r_eG (r_args q r_args0) ?_
  unfold bLen
  dsimp only
  rw [h]
  rfl
theorem r_ixJ {r : List Nat} (ha : fa ρ = some (.ok (.s (.list (jd r))))) (hb : fb ρ = some (.ok (.s (.int (i : Int))))) (h : i < r.length) : e2 gIx fa fb ρ = some (.ok (.s (.int (r.getD i 0 : Nat)))) := r_ix ha hb (atI_jdD h)
theorem r_appJ {es : List Nat} (ho : ρ[i]? = some (.own (jd es))) (q : E ρ = some (.ok (.s (.int (j : Int))))) (hl : es.length ≤ 10000000) (e : ρ.set i (.own (jd (es ++ [j]))) = ρ1) : fApp i E ρ = some (.nx ρ1) :=
  r_app ho q rfl (by rw [jd_len]; omega) (by rw [← e, jd_app]; rfl)
theorem r_drop (q : E ρ = some (.ok v)) : fDrop E ρ = some (.nx ρ) := by
  rw [fDrop_ap]
  unfold sE
  rw [q]
theorem r_dropE {e : Er} (q : E ρ = some (.error e)) : fDrop E ρ = some (.exc ρ e.1 e.2) := by
  rw [fDrop_ap]
  unfold sE
  rw [q]
end
/-- a comprehension over a list, each item kept -/
theorem eLc_seq {α : Type} {vs : List Nat} {st : Rho → D → Option Rho} {it : FI} {tt : FT} {fe : FE} {ρ : Rho} (dat F : α → D) {xs : List α} (h0 : noOwn ρ vs = true) (ha : it ρ = some (.ok (xs.map dat))) (hl : xs.length ≤ 16777216)
    (h : ∀ x ∈ xs, ∃ ρ1 v, st (wipeR ρ vs) (dat x) = some ρ1 ∧ tt ρ1 = some (.ok true) ∧ fe ρ1 = some (.ok v) ∧ v.st = some (F x)) : eLcG vs st it tt fe ρ = some (.ok (.f (xs.map F))) := by
  have e : lcL tt fe (st (wipeR ρ vs)) (xs.map dat) = some (xs.map F) := lcL_map dat F h
  unfold eLcG
  rw [if_pos h0, ha]
  dsimp only
  rw [e]
  dsimp only
  rw [if_pos (lineOk_small (by rw [List.length_map]; exact hl))]
theorem shaped_ints2 (x y : Int) : SeqAt.shaped (.tuple [.int x, .int y]) = true := rfl
end DL
set_option Elab.async false
set_option linter.all false
set_option maxRecDepth 100000
set_option maxHeartbeats 4000000
namespace K07
open PySem PySem.Spec PyProof.Rows L2 DL FN
variable {Cl : Nat → Addr} {ρ : Rho} {fa : FE} {v : Val} {m : Int} {c : Nat} {p : Nat → Bool}
theorem r_isD (hD : clD Cl = true) (hc : c < 42) (h : fa ρ = some (.ok v)) (hv : v.d = excD (Cl c) m) : eIsD (mxK Cl (List.range 42) p) fa ρ = some (.ok (.s (.bool (p c)))) := by
  unfold eIsD
  refine r_e1 h ?_
  unfold gIsD
  rw [hv, excOf_exc]
  show (mxK Cl (List.range 42) p (Cl c)).map _ = _
  rw [mxK_at hD p hc]
  rfl
theorem r_atD (hD : clD Cl = true) (hc : c < 42) (h : fa ρ = some (.ok v)) (hv : v.d = excD (Cl c) m) : eAtD (mxK Cl (List.range 42) p) fa ρ = some (.ok (.s (.int m))) := by
  unfold eAtD
  refine r_e1 h ?_
  unfold gAtD
  rw [hv, excOf_exc]
  show (mxK Cl (List.range 42) p (Cl c)).map _ = _
  rw [mxK_at hD p hc]
  rfl
theorem mkD_ret {n k : Nat} {f : FS} {ds : List D} {d : D} (h : f (ds.map .dat ++ List.replicate (k - n) .un) = some (.ret d)) : mkD n k f ds = some (.ret d) := by
  unfold mkD
  rw [h]
theorem mkD_retF {n k : Nat} {f : FS} {ds es : List D} (h : f (ds.map .dat ++ List.replicate (k - n) .un) = some (.retF es)) : mkD n k f ds = some (.retF es) := by
  unfold mkD
  rw [h]
theorem first_low : ∀ k : Nat, k < 21 → d__law_first Cl [.int (k : Nat), .int m] = some (.ret (excD (Cl (k + 1)) m))
  | 0, _ => rfl
  | 1, _ => rfl
  | 2, _ => rfl
  | 3, _ => rfl
  | 4, _ => rfl
  | 5, _ => rfl
  | 6, _ => rfl
  | 7, _ => rfl
  | 8, _ => rfl
  | 9, _ => rfl
  | 10, _ => rfl
  | 11, _ => rfl
  | 12, _ => rfl
  | 13, _ => rfl
  | 14, _ => rfl
  | 15, _ => rfl
  | 16, _ => rfl
  | 17, _ => rfl
  | 18, _ => rfl
  | 19, _ => rfl
  | 20, _ => rfl
  | k + 21, h => absurd h (by omega)
theorem first_high : ∀ k : Nat, 21 ≤ k → k < 41 → d__law_first Cl [.int (k : Nat), .int m] = some (.ret .none)
  | 21, _, _ => rfl
  | 22, _, _ => rfl
  | 23, _, _ => rfl
  | 24, _, _ => rfl
  | 25, _, _ => rfl
  | 26, _, _ => rfl
  | 27, _, _ => rfl
  | 28, _, _ => rfl
  | 29, _, _ => rfl
  | 30, _, _ => rfl
  | 31, _, _ => rfl
  | 32, _, _ => rfl
  | 33, _, _ => rfl
  | 34, _, _ => rfl
  | 35, _, _ => rfl
  | 36, _, _ => rfl
  | 37, _, _ => rfl
  | 38, _, _ => rfl
  | 39, _, _ => rfl
  | 40, _, _ => rfl
  | 0, h, _ => absurd h (by omega)
  | 1, h, _ => absurd h (by omega)
  | 2, h, _ => absurd h (by omega)
  | 3, h, _ => absurd h (by omega)
  | 4, h, _ => absurd h (by omega)
  | 5, h, _ => absurd h (by omega)
  | 6, h, _ => absurd h (by omega)
  | 7, h, _ => absurd h (by omega)
  | 8, h, _ => absurd h (by omega)
  | 9, h, _ => absurd h (by omega)
  | 10, h, _ => absurd h (by omega)
  | 11, h, _ => absurd h (by omega)
  | 12, h, _ => absurd h (by omega)
  | 13, h, _ => absurd h (by omega)
  | 14, h, _ => absurd h (by omega)
  | 15, h, _ => absurd h (by omega)
  | 16, h, _ => absurd h (by omega)
  | 17, h, _ => absurd h (by omega)
  | 18, h, _ => absurd h (by omega)
  | 19, h, _ => absurd h (by omega)
  | 20, h, _ => absurd h (by omega)
  | k + 41, _, h => absurd h (by omega)
theorem second_ok : ∀ k : Nat, 21 ≤ k → k < 41 → d__law_second Cl [.int (k : Nat), .int m] = some (.ret (excD (Cl (k + 1)) m))
  | 21, _, _ => rfl
  | 22, _, _ => rfl
  | 23, _, _ => rfl
  | 24, _, _ => rfl
  | 25, _, _ => rfl
  | 26, _, _ => rfl
  | 27, _, _ => rfl
  | 28, _, _ => rfl
  | 29, _, _ => rfl
  | 30, _, _ => rfl
  | 31, _, _ => rfl
  | 32, _, _ => rfl
  | 33, _, _ => rfl
  | 34, _, _ => rfl
  | 35, _, _ => rfl
  | 36, _, _ => rfl
  | 37, _, _ => rfl
  | 38, _, _ => rfl
  | 39, _, _ => rfl
  | 40, _, _ => rfl
  | 0, h, _ => absurd h (by omega)
  | 1, h, _ => absurd h (by omega)
  | 2, h, _ => absurd h (by omega)
  | 3, h, _ => absurd h (by omega)
  | 4, h, _ => absurd h (by omega)
  | 5, h, _ => absurd h (by omega)
  | 6, h, _ => absurd h (by omega)
  | 7, h, _ => absurd h (by omega)
  | 8, h, _ => absurd h (by omega)
  | 9, h, _ => absurd h (by omega)
  | 10, h, _ => absurd h (by omega)
  | 11, h, _ => absurd h (by omega)
  | 12, h, _ => absurd h (by omega)
  | 13, h, _ => absurd h (by omega)
  | 14, h, _ => absurd h (by omega)
  | 15, h, _ => absurd h (by omega)
  | 16, h, _ => absurd h (by omega)
  | 17, h, _ => absurd h (by omega)
  | 18, h, _ => absurd h (by omega)
  | 19, h, _ => absurd h (by omega)
  | 20, h, _ => absurd h (by omega)
  | k + 41, _, h => absurd h (by omega)
theorem kinds_ok (hD : clD Cl = true) (hc : c < 42) : d__law_kinds Cl [excD (Cl c) m] = some (.retF ((List.range 41).map fun j => PyData.bool (c == j + 1))) := by
  have R := fun p : Nat → Bool => r_isD (p := p) (m := m) (fa := eV 0) (v := .s (excD (Cl c) m)) (ρ := [.dat (excD (Cl c) m)]) hD hc rfl rfl
  have A := r_args (R fun k => k == 1) (r_args (R fun k => k == 2) (r_args (R fun k => k == 3) (r_args (R fun k => k == 4) (r_args (R fun k => k == 5) (r_args (R fun k => k == 6) (r_args (R fun k => k == 7) (r_args (R fun k => k == 8) (r_args (R fun k => k == 9) (r_args (R fun k => k == 10) (r_args (R fun k => k == 11) (r_args (R fun k => k == 12) (r_args (R fun k => k == 13) (r_args (R fun k => k == 14) (r_args (R fun k => k == 15) (r_args (R fun k => k == 16) (r_args (R fun k => k == 17) (r_args (R fun k => k == 18) (r_args (R fun k => k == 19) (r_args (R fun k => k == 20) (r_args (R fun k => k == 21) (r_args (R fun k => k == 22) (r_args (R fun k => k == 23) (r_args (R fun k => k == 24) (r_args (R fun k => k == 25) (r_args (R fun k => k == 26) (r_args (R fun k => k == 27) (r_args (R fun k => k == 28) (r_args (R fun k => k == 29) (r_args (R fun k => k == 30) (r_args (R fun k => k == 31) (r_args (R fun k => k == 32) (r_args (R fun k => k == 33) (r_args (R fun k => k == 34) (r_args (R fun k => k == 35) (r_args (R fun k => k == 36) (r_args (R fun k => k == 37) (r_args (R fun k => k == 38) (r_args (R fun k => k == 39) (r_args (R fun k => k == 40) (r_args (R fun k => k == 41) (r_args0)))))))))))))))))))))))))))))))))))))))))
  have q := r_retF (r_lst (ds := (List.range 41).map fun j => PyData.bool (c == j + 1)) A rfl (by show 41 ≤ 16777216; decide))
  exact mkD_retF q
noncomputable def turn (Cl : Nat → Addr) : FS := fSeq (fSet 3 (eCall (FN.d__law_first Cl) 2 (aCons (eV 2) (aCons (e2 gAdd (eV 1) (eV 2)) (aNil))))) (fSeq (fIf (tV (e2 gGeX (eV 2) (eC (.int 21)))) (fSet 3 (eCall (FN.d__law_second Cl) 2 (aCons (eV 2) (aCons (e2 gAdd (eV 1) (eV 2)) (aNil))))) (fNx)) (fSeq (fIf (tOrD (tNotD (tV (eIsD (mxK Cl (List.range 42) (fun _ => true)) (eV 3)))) (tNotD (tV (eIsD (mxK Cl (List.range 42) (fun _ => true)) (eV 3))))) (fRet (eC (.bool false))) (fNx)) (fSeq (fIf (tOrD (tNotD (tV (e1 (gIsi "int") (eAtD (mxK Cl (List.range 42) fun _ => true) (eV 3))))) (tOrD (tV (e1 (gIsi "bool") (eAtD (mxK Cl (List.range 42) fun _ => true) (eV 3)))) (tV (e2 gNe (eAtD (mxK Cl (List.range 42) fun _ => true) (eV 3)) (e2 gAdd (eV 1) (eV 2)))))) (fRet (eC (.bool false))) (fNx)) (fIf (tV (e2 gNe (eCall (FN.d__law_kinds Cl) 1 (aCons (eV 3) (aNil))) (eLcG [4] (st1 4) (iRange1 (aCons (eC (.int 41)) (aNil))) (fun _ => some (.ok true)) (e2 gEq (eV 4) (eV 2))))) (fRet (eC (.bool false))) (fNx)))))
theorem comp_ok {s0 s1 s2 s3 s4 s5 : DL.Slot} {fe : FE} {F : Nat → D} (ho : noOwn [s0, s1, s2, s3, s4, s5] [4] = true) (h : ∀ k : Nat, k < 41 → ∃ v, fe [s0, s1, s2, s3, .dat (.int (k : Int)), s5] = some (.ok v) ∧ v.st = some (F k)) :
    eLcG [4] (st1 4) (iRange1 (aCons (eC (.int 41)) (aNil))) (fun _ => some (.ok true)) fe [s0, s1, s2, s3, s4, s5] = some (.ok (.f ((List.range 41).map F))) := by
  refine eLc_range (n := 41) ho rfl (by decide) fun k hk => ?_
  obtain ⟨v, h1, h2⟩ := h k hk
  exact ⟨_, v, rfl, rfl, h1, h2⟩
theorem same41 (F : Nat → Bool) : eqD (.list ((List.range 41).map fun j => PyData.bool (F j))) (.list ((List.range 41).map fun j => PyData.bool (F j))) = some true := eqD_refl rfl
theorem kinds_call {i : Nat} (hD : clD Cl = true) (hc : c < 42) (h : ρ[i]? = some (.dat (excD (Cl c) m))) : eCall (FN.d__law_kinds Cl) 1 (aCons (eV i) (aNil)) ρ = some (.ok (.f ((List.range 41).map fun j => PyData.bool (c == j + 1)))) :=
  r_callF (r_args (r_v h) r_args0) rfl rfl (kinds_ok hD hc)
theorem turn_ok (hD : clD Cl = true) (d0 : D) (n : Int) (k : Nat) (hk : k < 41) (s3 s4 : DL.Slot) (h4 : noOwn [DL.Slot.dat d0, .dat (.int n), .dat (.int (k : Int)), .dat (excD (Cl (k + 1)) (n + k)), s4, .un] [4] = true) :
    turn Cl [.dat d0, .dat (.int n), .dat (.int (k : Int)), s3, s4, .un] = some (.nx [.dat d0, .dat (.int n), .dat (.int (k : Int)), .dat (excD (Cl (k + 1)) (n + k)), s4, .un]) := by
  have args : ∀ s : DL.Slot, aCons (eV 2) (aCons (e2 gAdd (eV 1) (eV 2)) (aNil)) [.dat d0, .dat (.int n), .dat (.int (k : Int)), s, s4, .un] = some (.ok [.s (.int (k : Int)), .s (.int (n + k))]) := fun s =>
    r_args (r_v rfl) (r_args (r_addI (r_v rfl) (r_v rfl)) r_args0)
  have tail : fSeq (fIf (tOrD (tNotD (tV (eIsD (mxK Cl (List.range 42) (fun _ => true)) (eV 3)))) (tNotD (tV (eIsD (mxK Cl (List.range 42) (fun _ => true)) (eV 3))))) (fRet (eC (.bool false))) (fNx)) (fSeq (fIf (tOrD (tNotD (tV (e1 (gIsi "int") (eAtD (mxK Cl (List.range 42) fun _ => true) (eV 3))))) (tOrD (tV (e1 (gIsi "bool") (eAtD (mxK Cl (List.range 42) fun _ => true) (eV 3)))) (tV (e2 gNe (eAtD (mxK Cl (List.range 42) fun _ => true) (eV 3)) (e2 gAdd (eV 1) (eV 2)))))) (fRet (eC (.bool false))) (fNx)) (fIf (tV (e2 gNe (eCall (FN.d__law_kinds Cl) 1 (aCons (eV 3) (aNil))) (eLcG [4] (st1 4) (iRange1 (aCons (eC (.int 41)) (aNil))) (fun _ => some (.ok true)) (e2 gEq (eV 4) (eV 2))))) (fRet (eC (.bool false))) (fNx)))
      [.dat d0, .dat (.int n), .dat (.int (k : Int)), .dat (excD (Cl (k + 1)) (n + k)), s4, .un] = some (.nx [.dat d0, .dat (.int n), .dat (.int (k : Int)), .dat (excD (Cl (k + 1)) (n + k)), s4, .un]) := by
    have isd := r_isD (p := fun _ => true) (fa := eV 3) (ρ := [.dat d0, .dat (.int n), .dat (.int (k : Int)), .dat (excD (Cl (k + 1)) (n + k)), s4, .un]) hD (by omega) (r_v rfl) rfl
    have at_ := r_atD (p := fun _ => true) (fa := eV 3) (ρ := [.dat d0, .dat (.int n), .dat (.int (k : Int)), .dat (excD (Cl (k + 1)) (n + k)), s4, .un]) hD (by omega) (r_v rfl) rfl
    refine seqN (r_iff (r_or_f (r_notT (r_tV isd rfl)) (r_notT (r_tV isd rfl))) rfl) ?_
    refine seqN (r_iff (r_or_f (r_notT (r_tV (r_isi at_) rfl)) (r_or_f (r_tV (r_isi at_) rfl) (r_neI_f at_ (r_addI (r_v rfl) (r_v rfl)) rfl))) rfl) ?_
    refine r_iff (r_tV (r_ne (kinds_call hD (by omega) rfl) (comp_ok (F := fun j => PyData.bool (k + 1 == j + 1)) h4 fun j hj => ⟨_, r_eqI (r_v rfl) (r_v rfl), ?_⟩) (same41 _)) rfl) rfl
    show some (PyData.bool ((j : Int) == (k : Int))) = _
    congr 2
    rw [Bool.eq_iff_iff, beq_iff_eq, beq_iff_eq]
    omega
  unfold turn
  by_cases h : k < 21
  · refine seqN (r_set (r_call (args s3) rfl rfl (first_low k h)) rfl rfl) ?_
    refine seqN (r_iff (r_geI_f (r_v rfl) rfl (by omega)) rfl) tail
  · refine seqN (r_set (r_call (args s3) rfl rfl (first_high k (by omega) hk)) rfl rfl) ?_
    exact seqN (r_ift (r_geI_t (r_v rfl) rfl (by omega)) (r_set (r_call (args _) rfl rfl (second_ok k (by omega) hk)) rfl rfl)) tail
theorem law_true (Cl : Nat → Addr) (hD : clD Cl = true) (ns : List Int) (hl : ns.length ≤ 63) : d_law_k07 Cl [scr ns] = some (.ret (.bool true)) := by
  -- the number
  have num : ∃ n : Int, fIf (tV (e2 gGtX (eG bLen (aCons (eV 0) (aNil))) (eC (.int 0)))) (fSet 1 (e2 gSub (e2 gMod (eG bInt (aCons (e2 gIx (eV 0) (eC (.int 0))) (aNil))) (e2 gPow (eC (.int 10)) (eC (.int 30)))) (e2 gPow (eC (.int 10)) (eC (.int 15))))) (fNx) [.dat (scr ns), .dat (.int 0), .un, .un, .un, .un] = some (.nx [.dat (scr ns), .dat (.int n), .un, .un, .un, .un]) := by
    cases ns with
    | nil => exact ⟨0, rfl⟩
    | cons x r =>
      refine ⟨x % 10 ^ 30 - 10 ^ 15, r_ift (r_gtI_t (i := ((x :: r).length : Int)) ?_ rfl (by simp)) (r_set (v := .s (.int (x % 10 ^ 30 - 10 ^ 15))) (r_subI (r_modI (r_int (r_e2 (v := .s (.int x)) (r_v rfl) rfl ?_)) rfl (by decide)) rfl) rfl rfl)⟩
      · refine r_eG (r_args (r_v rfl) r_args0) ?_
        simp [bLen, lenD, excL]
      · simp [gIx, excL, atI, ixN]
  obtain ⟨n, hn⟩ := num
  have key := forL_inv (g := gN 2) (ds := rangeD 0 41) (ρ := [.dat (scr ns), .dat (.int n), .un, .un, .un, .un]) (body := turn Cl)
    (fun i ρ => ∃ s2 s3 : DL.Slot, ρ = [.dat (scr ns), .dat (.int n), s2, s3, .un, .un]) ⟨_, _, rfl⟩ (by
      rintro i d ρ hd ⟨s2, s3, rfl⟩
      have hi : i < 41 := by simpa [rangeD] using (List.getElem?_eq_some_iff.mp hd).1
      have ed : d = .int i := by
        rw [rangeD_eq, List.getElem?_map, List.getElem?_range hi] at hd
        cases hd
        simp
      subst ed
      exact ⟨_, _, rfl, turn_ok hD _ n i hi s3 .un rfl, _, _, rfl⟩)
  obtain ⟨ρ', h1, s2, s3, rfl⟩ := key
  have fin : b_law_k07 Cl [.dat (scr ns), .un, .un, .un, .un, .un] = some (.ret (.bool true)) := by
    unfold b_law_k07
    refine seqN (r_set rfl rfl rfl) (seqN hn (seqN (r_for rfl h1) ?_))
    have new : eNew (Cl 0) (eV 1) [.dat (scr ns), .dat (.int n), s2, s3, .un, .un] = some (.ok (.s (excD (Cl 0) n))) := by
      unfold eNew
      exact r_e1 (r_v rfl) rfl
    refine seqN (r_set new rfl rfl) (r_ret (r_andV_t (r_eq (x := true) (r_atD hD (by decide) (r_v rfl) rfl) (r_v rfl) (by show some ((n : Int) == n) = _; simp)) ?_))
    exact r_eq (kinds_call hD (by decide) rfl) (comp_ok (F := fun j => PyData.bool (0 == j + 1)) rfl fun j hj => ⟨_, rfl, by show some (PyData.bool false) = some (PyData.bool (0 == j + 1)); simp⟩) (same41 _)
  exact mkD_ret fin
end K07
set_option Elab.async false
open PySem PySem.W PyProof.Rows
set_option maxRecDepth 100000 in
set_option maxHeartbeats 0 in
theorem PySem.Challenge.cw_spoolbox_k07_errors_are_apart_holds : PySem.Challenge.rw_spoolbox_k07_errors_are_apart.Holds := by
  w_on; o_law; k_head; (case hw => w_witness2)
  k_fill
  refine L2.walk_of (l := PySem.Challenge.rw_spoolbox_k07_errors_are_apart) (n := 63) (k := 4) (x := "script") (CX := fun w => L2.CX PySem.Challenge.rw_spoolbox_k07_errors_are_apart.prog w) (sp := fun w => DL.spLaw _) rfl (by decide) rfl ⟨rfl, by decide, by decide⟩ (fun w h Y => PySem.W.kIn_of Y) ?F (fun _ _ a ns hl _ hS => ⟨a, ns, rfl, hS, hl, fun _ => rfl⟩) (fun _ _ _ _ _ h => DL.cx_none h)
  case F =>
    intro w mg fa h KX G hmg
    refine' K07.all_mk KX G hmg K07.law_true ?a0 ?l0 ?c0 ?k0 ?a1 ?l1 ?c1 ?k1 ?a2 ?l2 ?c2 ?k2 ?a3 ?l3 ?c3 ?k3 ?z_isinstance ?z_len ?z_int ?z_range ?z_ValueError ?z_bool ?lI ?cI ?kI ?tI ?xa_OutOfRange ?xl_OutOfRange ?xr_OutOfRange ?xs_OutOfRange ?xe_OutOfRange ?xt_OutOfRange ?xk_OutOfRange ?xn_OutOfRange ?xi_OutOfRange ?xg_OutOfRange ?xh_OutOfRange ?xd_OutOfRange ?xa_LooseNumber ?xl_LooseNumber ?xr_LooseNumber ?xs_LooseNumber ?xe_LooseNumber ?xt_LooseNumber ?xk_LooseNumber ?xn_LooseNumber ?xi_LooseNumber ?xg_LooseNumber ?xh_LooseNumber ?xd_LooseNumber ?xa_Truncated ?xl_Truncated ?xr_Truncated ?xs_Truncated ?xe_Truncated ?xt_Truncated ?xk_Truncated ?xn_Truncated ?xi_Truncated ?xg_Truncated ?xh_Truncated ?xd_Truncated ?xa_BadStuffing ?xl_BadStuffing ?xr_BadStuffing ?xs_BadStuffing ?xe_BadStuffing ?xt_BadStuffing ?xk_BadStuffing ?xn_BadStuffing ?xi_BadStuffing ?xg_BadStuffing ?xh_BadStuffing ?xd_BadStuffing ?xa_BadKind ?xl_BadKind ?xr_BadKind ?xs_BadKind ?xe_BadKind ?xt_BadKind ?xk_BadKind ?xn_BadKind ?xi_BadKind ?xg_BadKind ?xh_BadKind ?xd_BadKind ?xa_BadStamp ?xl_BadStamp ?xr_BadStamp ?xs_BadStamp ?xe_BadStamp ?xt_BadStamp ?xk_BadStamp ?xn_BadStamp ?xi_BadStamp ?xg_BadStamp ?xh_BadStamp ?xd_BadStamp ?xa_BadNumber ?xl_BadNumber ?xr_BadNumber ?xs_BadNumber ?xe_BadNumber ?xt_BadNumber ?xk_BadNumber ?xn_BadNumber ?xi_BadNumber ?xg_BadNumber ?xh_BadNumber ?xd_BadNumber ?xa_BadTrack ?xl_BadTrack ?xr_BadTrack ?xs_BadTrack ?xe_BadTrack ?xt_BadTrack ?xk_BadTrack ?xn_BadTrack ?xi_BadTrack ?xg_BadTrack ?xh_BadTrack ?xd_BadTrack ?xa_BadOrdinal ?xl_BadOrdinal ?xr_BadOrdinal ?xs_BadOrdinal ?xe_BadOrdinal ?xt_BadOrdinal ?xk_BadOrdinal ?xn_BadOrdinal ?xi_BadOrdinal ?xg_BadOrdinal ?xh_BadOrdinal ?xd_BadOrdinal ?xa_BadTime ?xl_BadTime ?xr_BadTime ?xs_BadTime ?xe_BadTime ?xt_BadTime ?xk_BadTime ?xn_BadTime ?xi_BadTime ?xg_BadTime ?xh_BadTime ?xd_BadTime ?xa_BadSpan ?xl_BadSpan ?xr_BadSpan ?xs_BadSpan ?xe_BadSpan ?xt_BadSpan ?xk_BadSpan ?xn_BadSpan ?xi_BadSpan ?xg_BadSpan ?xh_BadSpan ?xd_BadSpan ?xa_BadKey ?xl_BadKey ?xr_BadKey ?xs_BadKey ?xe_BadKey ?xt_BadKey ?xk_BadKey ?xn_BadKey ?xi_BadKey ?xg_BadKey ?xh_BadKey ?xd_BadKey ?xa_BadSize ?xl_BadSize ?xr_BadSize ?xs_BadSize ?xe_BadSize ?xt_BadSize ?xk_BadSize ?xn_BadSize ?xi_BadSize ?xg_BadSize ?xh_BadSize ?xd_BadSize ?xa_ShortBody ?xl_ShortBody ?xr_ShortBody ?xs_ShortBody ?xe_ShortBody ?xt_ShortBody ?xk_ShortBody ?xn_ShortBody ?xi_ShortBody ?xg_ShortBody ?xh_ShortBody ?xd_ShortBody ?xa_BadCheck ?xl_BadCheck ?xr_BadCheck ?xs_BadCheck ?xe_BadCheck ?xt_BadCheck ?xk_BadCheck ?xn_BadCheck ?xi_BadCheck ?xg_BadCheck ?xh_BadCheck ?xd_BadCheck ?xa_NotAPresentation ?xl_NotAPresentation ?xr_NotAPresentation ?xs_NotAPresentation ?xe_NotAPresentation ?xt_NotAPresentation ?xk_NotAPresentation ?xn_NotAPresentation ?xi_NotAPresentation ?xg_NotAPresentation ?xh_NotAPresentation ?xd_NotAPresentation ?xa_BadChange ?xl_BadChange ?xr_BadChange ?xs_BadChange ?xe_BadChange ?xt_BadChange ?xk_BadChange ?xn_BadChange ?xi_BadChange ?xg_BadChange ?xh_BadChange ?xd_BadChange ?xa_BadBody ?xl_BadBody ?xr_BadBody ?xs_BadBody ?xe_BadBody ?xt_BadBody ?xk_BadBody ?xn_BadBody ?xi_BadBody ?xg_BadBody ?xh_BadBody ?xd_BadBody ?xa_BadStart ?xl_BadStart ?xr_BadStart ?xs_BadStart ?xe_BadStart ?xt_BadStart ?xk_BadStart ?xn_BadStart ?xi_BadStart ?xg_BadStart ?xh_BadStart ?xd_BadStart ?xa_CutOff ?xl_CutOff ?xr_CutOff ?xs_CutOff ?xe_CutOff ?xt_CutOff ?xk_CutOff ?xn_CutOff ?xi_CutOff ?xg_CutOff ?xh_CutOff ?xd_CutOff ?xa_EmptyPiece ?xl_EmptyPiece ?xr_EmptyPiece ?xs_EmptyPiece ?xe_EmptyPiece ?xt_EmptyPiece ?xk_EmptyPiece ?xn_EmptyPiece ?xi_EmptyPiece ?xg_EmptyPiece ?xh_EmptyPiece ?xd_EmptyPiece ?xa_OtherStamp ?xl_OtherStamp ?xr_OtherStamp ?xs_OtherStamp ?xe_OtherStamp ?xt_OtherStamp ?xk_OtherStamp ?xn_OtherStamp ?xi_OtherStamp ?xg_OtherStamp ?xh_OtherStamp ?xd_OtherStamp ?xa_WrongNumber ?xl_WrongNumber ?xr_WrongNumber ?xs_WrongNumber ?xe_WrongNumber ?xt_WrongNumber ?xk_WrongNumber ?xn_WrongNumber ?xi_WrongNumber ?xg_WrongNumber ?xh_WrongNumber ?xd_WrongNumber ?xa_WrongOrder ?xl_WrongOrder ?xr_WrongOrder ?xs_WrongOrder ?xe_WrongOrder ?xt_WrongOrder ?xk_WrongOrder ?xn_WrongOrder ?xi_WrongOrder ?xg_WrongOrder ?xh_WrongOrder ?xd_WrongOrder ?xa_WrongFields ?xl_WrongFields ?xr_WrongFields ?xs_WrongFields ?xe_WrongFields ?xt_WrongFields ?xk_WrongFields ?xn_WrongFields ?xi_WrongFields ?xg_WrongFields ?xh_WrongFields ?xd_WrongFields ?xa_NoTrack ?xl_NoTrack ?xr_NoTrack ?xs_NoTrack ?xe_NoTrack ?xt_NoTrack ?xk_NoTrack ?xn_NoTrack ?xi_NoTrack ?xg_NoTrack ?xh_NoTrack ?xd_NoTrack ?xa_TooManyUnits ?xl_TooManyUnits ?xr_TooManyUnits ?xs_TooManyUnits ?xe_TooManyUnits ?xt_TooManyUnits ?xk_TooManyUnits ?xn_TooManyUnits ?xi_TooManyUnits ?xg_TooManyUnits ?xh_TooManyUnits ?xd_TooManyUnits ?xa_WrongOrdinal ?xl_WrongOrdinal ?xr_WrongOrdinal ?xs_WrongOrdinal ?xe_WrongOrdinal ?xt_WrongOrdinal ?xk_WrongOrdinal ?xn_WrongOrdinal ?xi_WrongOrdinal ?xg_WrongOrdinal ?xh_WrongOrdinal ?xd_WrongOrdinal ?xa_WrongTime ?xl_WrongTime ?xr_WrongTime ?xs_WrongTime ?xe_WrongTime ?xt_WrongTime ?xk_WrongTime ?xn_WrongTime ?xi_WrongTime ?xg_WrongTime ?xh_WrongTime ?xd_WrongTime ?xa_WrongKey ?xl_WrongKey ?xr_WrongKey ?xs_WrongKey ?xe_WrongKey ?xt_WrongKey ?xk_WrongKey ?xn_WrongKey ?xi_WrongKey ?xg_WrongKey ?xh_WrongKey ?xd_WrongKey ?xa_WrongEntry ?xl_WrongEntry ?xr_WrongEntry ?xs_WrongEntry ?xe_WrongEntry ?xt_WrongEntry ?xk_WrongEntry ?xn_WrongEntry ?xi_WrongEntry ?xg_WrongEntry ?xh_WrongEntry ?xd_WrongEntry ?xa_WrongCount ?xl_WrongCount ?xr_WrongCount ?xs_WrongCount ?xe_WrongCount ?xt_WrongCount ?xk_WrongCount ?xn_WrongCount ?xi_WrongCount ?xg_WrongCount ?xh_WrongCount ?xd_WrongCount ?xa_WrongSum ?xl_WrongSum ?xr_WrongSum ?xs_WrongSum ?xe_WrongSum ?xt_WrongSum ?xk_WrongSum ?xn_WrongSum ?xi_WrongSum ?xg_WrongSum ?xh_WrongSum ?xd_WrongSum ?xa_MissingUnits ?xl_MissingUnits ?xr_MissingUnits ?xs_MissingUnits ?xe_MissingUnits ?xt_MissingUnits ?xk_MissingUnits ?xn_MissingUnits ?xi_MissingUnits ?xg_MissingUnits ?xh_MissingUnits ?xd_MissingUnits ?xa_Behind ?xl_Behind ?xr_Behind ?xs_Behind ?xe_Behind ?xt_Behind ?xk_Behind ?xn_Behind ?xi_Behind ?xg_Behind ?xh_Behind ?xd_Behind ?xa_NoEnd ?xl_NoEnd ?xr_NoEnd ?xs_NoEnd ?xe_NoEnd ?xt_NoEnd ?xk_NoEnd ?xn_NoEnd ?xi_NoEnd ?xg_NoEnd ?xh_NoEnd ?xd_NoEnd ?xa_NotAlike ?xl_NotAlike ?xr_NotAlike ?xs_NotAlike ?xe_NotAlike ?xt_NotAlike ?xk_NotAlike ?xn_NotAlike ?xi_NotAlike ?xg_NotAlike ?xh_NotAlike ?xd_NotAlike ?xa_HasSkip ?xl_HasSkip ?xr_HasSkip ?xs_HasSkip ?xe_HasSkip ?xt_HasSkip ?xk_HasSkip ?xn_HasSkip ?xi_HasSkip ?xg_HasSkip ?xh_HasSkip ?xd_HasSkip ?xa_TooLong ?xl_TooLong ?xr_TooLong ?xs_TooLong ?xe_TooLong ?xt_TooLong ?xk_TooLong ?xn_TooLong ?xi_TooLong ?xg_TooLong ?xh_TooLong ?xd_TooLong ?xa_NoHead ?xl_NoHead ?xr_NoHead ?xs_NoHead ?xe_NoHead ?xt_NoHead ?xk_NoHead ?xn_NoHead ?xi_NoHead ?xg_NoHead ?xh_NoHead ?xd_NoHead ?xa_TooManyTags ?xl_TooManyTags ?xr_TooManyTags ?xs_TooManyTags ?xe_TooManyTags ?xt_TooManyTags ?xk_TooManyTags ?xn_TooManyTags ?xi_TooManyTags ?xg_TooManyTags ?xh_TooManyTags ?xd_TooManyTags ?xa_SpoolboxError ?xl_SpoolboxError ?xr_SpoolboxError ?xs_SpoolboxError ?xe_SpoolboxError ?xt_SpoolboxError ?xk_SpoolboxError ?xn_SpoolboxError ?xi_SpoolboxError ?xg_SpoolboxError ?xh_SpoolboxError ?xd_SpoolboxError ?yn ?yt ?xc_SpoolboxError ?xm_SpoolboxError ?xc_OutOfRange ?xm_OutOfRange ?xc_LooseNumber ?xm_LooseNumber ?xc_Truncated ?xm_Truncated ?xc_BadStuffing ?xm_BadStuffing ?xc_BadKind ?xm_BadKind ?xc_BadStamp ?xm_BadStamp ?xc_BadNumber ?xm_BadNumber ?xc_BadTrack ?xm_BadTrack ?xc_BadOrdinal ?xm_BadOrdinal ?xc_BadTime ?xm_BadTime ?xc_BadSpan ?xm_BadSpan ?xc_BadKey ?xm_BadKey ?xc_BadSize ?xm_BadSize ?xc_ShortBody ?xm_ShortBody ?xc_BadCheck ?xm_BadCheck ?xc_NotAPresentation ?xm_NotAPresentation ?xc_BadChange ?xm_BadChange ?xc_BadBody ?xm_BadBody ?xc_BadStart ?xm_BadStart ?xc_CutOff ?xm_CutOff ?xc_EmptyPiece ?xm_EmptyPiece ?xc_OtherStamp ?xm_OtherStamp ?xc_WrongNumber ?xm_WrongNumber ?xc_WrongOrder ?xm_WrongOrder ?xc_WrongFields ?xm_WrongFields ?xc_NoTrack ?xm_NoTrack ?xc_TooManyUnits ?xm_TooManyUnits ?xc_WrongOrdinal ?xm_WrongOrdinal ?xc_WrongTime ?xm_WrongTime ?xc_WrongKey ?xm_WrongKey ?xc_WrongEntry ?xm_WrongEntry ?xc_WrongCount ?xm_WrongCount ?xc_WrongSum ?xm_WrongSum ?xc_MissingUnits ?xm_MissingUnits ?xc_Behind ?xm_Behind ?xc_NoEnd ?xm_NoEnd ?xc_NotAlike ?xm_NotAlike ?xc_HasSkip ?xm_HasSkip ?xc_TooLong ?xm_TooLong ?xc_NoHead ?xm_NoHead ?xc_TooManyTags ?xm_TooManyTags ?cd ?yd_TooManyTags ?yd_NoHead ?yd_TooLong ?yd_HasSkip ?yd_NotAlike ?yd_NoEnd ?yd_Behind ?yd_MissingUnits ?yd_WrongSum ?yd_WrongCount ?yd_WrongEntry ?yd_WrongKey ?yd_WrongTime ?yd_WrongOrdinal ?yd_TooManyUnits ?yd_NoTrack ?yd_WrongFields ?yd_WrongOrder ?yd_WrongNumber ?yd_OtherStamp ?yd_EmptyPiece ?yd_CutOff ?yd_BadStart ?yd_BadBody ?yd_BadChange ?yd_NotAPresentation ?yd_BadCheck ?yd_ShortBody ?yd_BadSize ?yd_BadKey ?yd_BadSpan ?yd_BadTime ?yd_BadOrdinal ?yd_BadTrack ?yd_BadNumber ?yd_BadStamp ?yd_BadKind ?yd_BadStuffing ?yd_Truncated ?yd_LooseNumber ?yd_OutOfRange ?yd_SpoolboxError ?yd_ValueError
    (case xa_OutOfRange => k_is)
    (case xa_LooseNumber => k_is)
    (case xa_Truncated => k_is)
    (case xa_BadStuffing => k_is)
    (case xa_BadKind => k_is)
    (case xa_BadStamp => k_is)
    (case xa_BadNumber => k_is)
    (case xa_BadTrack => k_is)
    (case xa_BadOrdinal => k_is)
    (case xa_BadTime => k_is)
    (case xa_BadSpan => k_is)
    (case xa_BadKey => k_is)
    (case xa_BadSize => k_is)
    (case xa_ShortBody => k_is)
    (case xa_BadCheck => k_is)
    (case xa_NotAPresentation => k_is)
    (case xa_BadChange => k_is)
    (case xa_BadBody => k_is)
    (case xa_BadStart => k_is)
    (case xa_CutOff => k_is)
    (case xa_EmptyPiece => k_is)
    (case xa_OtherStamp => k_is)
    (case xa_WrongNumber => k_is)
    (case xa_WrongOrder => k_is)
    (case xa_WrongFields => k_is)
    (case xa_NoTrack => k_is)
    (case xa_TooManyUnits => k_is)
    (case xa_WrongOrdinal => k_is)
    (case xa_WrongTime => k_is)
    (case xa_WrongKey => k_is)
    (case xa_WrongEntry => k_is)
    (case xa_WrongCount => k_is)
    (case xa_WrongSum => k_is)
    (case xa_MissingUnits => k_is)
    (case xa_Behind => k_is)
    (case xa_NoEnd => k_is)
    (case xa_NotAlike => k_is)
    (case xa_HasSkip => k_is)
    (case xa_TooLong => k_is)
    (case xa_NoHead => k_is)
    (case xa_TooManyTags => k_is)
    (case xa_SpoolboxError => k_is)
    (case xi_OutOfRange => k_is)
    (case xi_LooseNumber => k_is)
    (case xi_Truncated => k_is)
    (case xi_BadStuffing => k_is)
    (case xi_BadKind => k_is)
    (case xi_BadStamp => k_is)
    (case xi_BadNumber => k_is)
    (case xi_BadTrack => k_is)
    (case xi_BadOrdinal => k_is)
    (case xi_BadTime => k_is)
    (case xi_BadSpan => k_is)
    (case xi_BadKey => k_is)
    (case xi_BadSize => k_is)
    (case xi_ShortBody => k_is)
    (case xi_BadCheck => k_is)
    (case xi_NotAPresentation => k_is)
    (case xi_BadChange => k_is)
    (case xi_BadBody => k_is)
    (case xi_BadStart => k_is)
    (case xi_CutOff => k_is)
    (case xi_EmptyPiece => k_is)
    (case xi_OtherStamp => k_is)
    (case xi_WrongNumber => k_is)
    (case xi_WrongOrder => k_is)
    (case xi_WrongFields => k_is)
    (case xi_NoTrack => k_is)
    (case xi_TooManyUnits => k_is)
    (case xi_WrongOrdinal => k_is)
    (case xi_WrongTime => k_is)
    (case xi_WrongKey => k_is)
    (case xi_WrongEntry => k_is)
    (case xi_WrongCount => k_is)
    (case xi_WrongSum => k_is)
    (case xi_MissingUnits => k_is)
    (case xi_Behind => k_is)
    (case xi_NoEnd => k_is)
    (case xi_NotAlike => k_is)
    (case xi_HasSkip => k_is)
    (case xi_TooLong => k_is)
    (case xi_NoHead => k_is)
    (case xi_TooManyTags => k_is)
    (case xi_SpoolboxError => k_is)
    (case xl_OutOfRange => k_is)
    (case xl_LooseNumber => k_is)
    (case xl_Truncated => k_is)
    (case xl_BadStuffing => k_is)
    (case xl_BadKind => k_is)
    (case xl_BadStamp => k_is)
    (case xl_BadNumber => k_is)
    (case xl_BadTrack => k_is)
    (case xl_BadOrdinal => k_is)
    (case xl_BadTime => k_is)
    (case xl_BadSpan => k_is)
    (case xl_BadKey => k_is)
    (case xl_BadSize => k_is)
    (case xl_ShortBody => k_is)
    (case xl_BadCheck => k_is)
    (case xl_NotAPresentation => k_is)
    (case xl_BadChange => k_is)
    (case xl_BadBody => k_is)
    (case xl_BadStart => k_is)
    (case xl_CutOff => k_is)
    (case xl_EmptyPiece => k_is)
    (case xl_OtherStamp => k_is)
    (case xl_WrongNumber => k_is)
    (case xl_WrongOrder => k_is)
    (case xl_WrongFields => k_is)
    (case xl_NoTrack => k_is)
    (case xl_TooManyUnits => k_is)
    (case xl_WrongOrdinal => k_is)
    (case xl_WrongTime => k_is)
    (case xl_WrongKey => k_is)
    (case xl_WrongEntry => k_is)
    (case xl_WrongCount => k_is)
    (case xl_WrongSum => k_is)
    (case xl_MissingUnits => k_is)
    (case xl_Behind => k_is)
    (case xl_NoEnd => k_is)
    (case xl_NotAlike => k_is)
    (case xl_HasSkip => k_is)
    (case xl_TooLong => k_is)
    (case xl_NoHead => k_is)
    (case xl_TooManyTags => k_is)
    (case xl_SpoolboxError => k_is)
    (case xr_OutOfRange => decide +kernel)
    (case xr_LooseNumber => decide +kernel)
    (case xr_Truncated => decide +kernel)
    (case xr_BadStuffing => decide +kernel)
    (case xr_BadKind => decide +kernel)
    (case xr_BadStamp => decide +kernel)
    (case xr_BadNumber => decide +kernel)
    (case xr_BadTrack => decide +kernel)
    (case xr_BadOrdinal => decide +kernel)
    (case xr_BadTime => decide +kernel)
    (case xr_BadSpan => decide +kernel)
    (case xr_BadKey => decide +kernel)
    (case xr_BadSize => decide +kernel)
    (case xr_ShortBody => decide +kernel)
    (case xr_BadCheck => decide +kernel)
    (case xr_NotAPresentation => decide +kernel)
    (case xr_BadChange => decide +kernel)
    (case xr_BadBody => decide +kernel)
    (case xr_BadStart => decide +kernel)
    (case xr_CutOff => decide +kernel)
    (case xr_EmptyPiece => decide +kernel)
    (case xr_OtherStamp => decide +kernel)
    (case xr_WrongNumber => decide +kernel)
    (case xr_WrongOrder => decide +kernel)
    (case xr_WrongFields => decide +kernel)
    (case xr_NoTrack => decide +kernel)
    (case xr_TooManyUnits => decide +kernel)
    (case xr_WrongOrdinal => decide +kernel)
    (case xr_WrongTime => decide +kernel)
    (case xr_WrongKey => decide +kernel)
    (case xr_WrongEntry => decide +kernel)
    (case xr_WrongCount => decide +kernel)
    (case xr_WrongSum => decide +kernel)
    (case xr_MissingUnits => decide +kernel)
    (case xr_Behind => decide +kernel)
    (case xr_NoEnd => decide +kernel)
    (case xr_NotAlike => decide +kernel)
    (case xr_HasSkip => decide +kernel)
    (case xr_TooLong => decide +kernel)
    (case xr_NoHead => decide +kernel)
    (case xr_TooManyTags => decide +kernel)
    (case xr_SpoolboxError => decide +kernel)
    (case a0 => k_is)
    (case l0 => k_is)
    (case c0 => k_is)
    (case k0 => k_is)
    (case a1 => k_is)
    (case l1 => k_is)
    (case c1 => k_is)
    (case k1 => k_is)
    (case a2 => k_is)
    (case l2 => k_is)
    (case c2 => k_is)
    (case k2 => k_is)
    (case a3 => k_is)
    (case l3 => k_is)
    (case c3 => k_is)
    (case k3 => k_is)
    (case z_isinstance => k_is)
    (case z_len => k_is)
    (case z_int => k_is)
    (case z_range => k_is)
    (case z_ValueError => k_is)
    (case z_bool => k_is)
    (case lI => k_is)
    (case cI => k_is)
    (case kI => k_is)
    (case tI => k_is)
    (case xs_OutOfRange => k_is)
    (case xe_OutOfRange => k_is)
    (case xt_OutOfRange => k_is)
    (case xk_OutOfRange => k_is)
    (case xn_OutOfRange => k_is)
    (case xg_OutOfRange => k_is)
    (case xh_OutOfRange => k_is)
    (case xd_OutOfRange => k_is)
    (case xs_LooseNumber => k_is)
    (case xe_LooseNumber => k_is)
    (case xt_LooseNumber => k_is)
    (case xk_LooseNumber => k_is)
    (case xn_LooseNumber => k_is)
    (case xg_LooseNumber => k_is)
    (case xh_LooseNumber => k_is)
    (case xd_LooseNumber => k_is)
    (case xs_Truncated => k_is)
    (case xe_Truncated => k_is)
    (case xt_Truncated => k_is)
    (case xk_Truncated => k_is)
    (case xn_Truncated => k_is)
    (case xg_Truncated => k_is)
    (case xh_Truncated => k_is)
    (case xd_Truncated => k_is)
    (case xs_BadStuffing => k_is)
    (case xe_BadStuffing => k_is)
    (case xt_BadStuffing => k_is)
    (case xk_BadStuffing => k_is)
    (case xn_BadStuffing => k_is)
    (case xg_BadStuffing => k_is)
    (case xh_BadStuffing => k_is)
    (case xd_BadStuffing => k_is)
    (case xs_BadKind => k_is)
    (case xe_BadKind => k_is)
    (case xt_BadKind => k_is)
    (case xk_BadKind => k_is)
    (case xn_BadKind => k_is)
    (case xg_BadKind => k_is)
    (case xh_BadKind => k_is)
    (case xd_BadKind => k_is)
    (case xs_BadStamp => k_is)
    (case xe_BadStamp => k_is)
    (case xt_BadStamp => k_is)
    (case xk_BadStamp => k_is)
    (case xn_BadStamp => k_is)
    (case xg_BadStamp => k_is)
    (case xh_BadStamp => k_is)
    (case xd_BadStamp => k_is)
    (case xs_BadNumber => k_is)
    (case xe_BadNumber => k_is)
    (case xt_BadNumber => k_is)
    (case xk_BadNumber => k_is)
    (case xn_BadNumber => k_is)
    (case xg_BadNumber => k_is)
    (case xh_BadNumber => k_is)
    (case xd_BadNumber => k_is)
    (case xs_BadTrack => k_is)
    (case xe_BadTrack => k_is)
    (case xt_BadTrack => k_is)
    (case xk_BadTrack => k_is)
    (case xn_BadTrack => k_is)
    (case xg_BadTrack => k_is)
    (case xh_BadTrack => k_is)
    (case xd_BadTrack => k_is)
    (case xs_BadOrdinal => k_is)
    (case xe_BadOrdinal => k_is)
    (case xt_BadOrdinal => k_is)
    (case xk_BadOrdinal => k_is)
    (case xn_BadOrdinal => k_is)
    (case xg_BadOrdinal => k_is)
    (case xh_BadOrdinal => k_is)
    (case xd_BadOrdinal => k_is)
    (case xs_BadTime => k_is)
    (case xe_BadTime => k_is)
    (case xt_BadTime => k_is)
    (case xk_BadTime => k_is)
    (case xn_BadTime => k_is)
    (case xg_BadTime => k_is)
    (case xh_BadTime => k_is)
    (case xd_BadTime => k_is)
    (case xs_BadSpan => k_is)
    (case xe_BadSpan => k_is)
    (case xt_BadSpan => k_is)
    (case xk_BadSpan => k_is)
    (case xn_BadSpan => k_is)
    (case xg_BadSpan => k_is)
    (case xh_BadSpan => k_is)
    (case xd_BadSpan => k_is)
    (case xs_BadKey => k_is)
    (case xe_BadKey => k_is)
    (case xt_BadKey => k_is)
    (case xk_BadKey => k_is)
    (case xn_BadKey => k_is)
    (case xg_BadKey => k_is)
    (case xh_BadKey => k_is)
    (case xd_BadKey => k_is)
    (case xs_BadSize => k_is)
    (case xe_BadSize => k_is)
    (case xt_BadSize => k_is)
    (case xk_BadSize => k_is)
    (case xn_BadSize => k_is)
    (case xg_BadSize => k_is)
    (case xh_BadSize => k_is)
    (case xd_BadSize => k_is)
    (case xs_ShortBody => k_is)
    (case xe_ShortBody => k_is)
    (case xt_ShortBody => k_is)
    (case xk_ShortBody => k_is)
    (case xn_ShortBody => k_is)
    (case xg_ShortBody => k_is)
    (case xh_ShortBody => k_is)
    (case xd_ShortBody => k_is)
    (case xs_BadCheck => k_is)
    (case xe_BadCheck => k_is)
    (case xt_BadCheck => k_is)
    (case xk_BadCheck => k_is)
    (case xn_BadCheck => k_is)
    (case xg_BadCheck => k_is)
    (case xh_BadCheck => k_is)
    (case xd_BadCheck => k_is)
    (case xs_NotAPresentation => k_is)
    (case xe_NotAPresentation => k_is)
    (case xt_NotAPresentation => k_is)
    (case xk_NotAPresentation => k_is)
    (case xn_NotAPresentation => k_is)
    (case xg_NotAPresentation => k_is)
    (case xh_NotAPresentation => k_is)
    (case xd_NotAPresentation => k_is)
    (case xs_BadChange => k_is)
    (case xe_BadChange => k_is)
    (case xt_BadChange => k_is)
    (case xk_BadChange => k_is)
    (case xn_BadChange => k_is)
    (case xg_BadChange => k_is)
    (case xh_BadChange => k_is)
    (case xd_BadChange => k_is)
    (case xs_BadBody => k_is)
    (case xe_BadBody => k_is)
    (case xt_BadBody => k_is)
    (case xk_BadBody => k_is)
    (case xn_BadBody => k_is)
    (case xg_BadBody => k_is)
    (case xh_BadBody => k_is)
    (case xd_BadBody => k_is)
    (case xs_BadStart => k_is)
    (case xe_BadStart => k_is)
    (case xt_BadStart => k_is)
    (case xk_BadStart => k_is)
    (case xn_BadStart => k_is)
    (case xg_BadStart => k_is)
    (case xh_BadStart => k_is)
    (case xd_BadStart => k_is)
    (case xs_CutOff => k_is)
    (case xe_CutOff => k_is)
    (case xt_CutOff => k_is)
    (case xk_CutOff => k_is)
    (case xn_CutOff => k_is)
    (case xg_CutOff => k_is)
    (case xh_CutOff => k_is)
    (case xd_CutOff => k_is)
    (case xs_EmptyPiece => k_is)
    (case xe_EmptyPiece => k_is)
    (case xt_EmptyPiece => k_is)
    (case xk_EmptyPiece => k_is)
    (case xn_EmptyPiece => k_is)
    (case xg_EmptyPiece => k_is)
    (case xh_EmptyPiece => k_is)
    (case xd_EmptyPiece => k_is)
    (case xs_OtherStamp => k_is)
    (case xe_OtherStamp => k_is)
    (case xt_OtherStamp => k_is)
    (case xk_OtherStamp => k_is)
    (case xn_OtherStamp => k_is)
    (case xg_OtherStamp => k_is)
    (case xh_OtherStamp => k_is)
    (case xd_OtherStamp => k_is)
    (case xs_WrongNumber => k_is)
    (case xe_WrongNumber => k_is)
    (case xt_WrongNumber => k_is)
    (case xk_WrongNumber => k_is)
    (case xn_WrongNumber => k_is)
    (case xg_WrongNumber => k_is)
    (case xh_WrongNumber => k_is)
    (case xd_WrongNumber => k_is)
    (case xs_WrongOrder => k_is)
    (case xe_WrongOrder => k_is)
    (case xt_WrongOrder => k_is)
    (case xk_WrongOrder => k_is)
    (case xn_WrongOrder => k_is)
    (case xg_WrongOrder => k_is)
    (case xh_WrongOrder => k_is)
    (case xd_WrongOrder => k_is)
    (case xs_WrongFields => k_is)
    (case xe_WrongFields => k_is)
    (case xt_WrongFields => k_is)
    (case xk_WrongFields => k_is)
    (case xn_WrongFields => k_is)
    (case xg_WrongFields => k_is)
    (case xh_WrongFields => k_is)
    (case xd_WrongFields => k_is)
    (case xs_NoTrack => k_is)
    (case xe_NoTrack => k_is)
    (case xt_NoTrack => k_is)
    (case xk_NoTrack => k_is)
    (case xn_NoTrack => k_is)
    (case xg_NoTrack => k_is)
    (case xh_NoTrack => k_is)
    (case xd_NoTrack => k_is)
    (case xs_TooManyUnits => k_is)
    (case xe_TooManyUnits => k_is)
    (case xt_TooManyUnits => k_is)
    (case xk_TooManyUnits => k_is)
    (case xn_TooManyUnits => k_is)
    (case xg_TooManyUnits => k_is)
    (case xh_TooManyUnits => k_is)
    (case xd_TooManyUnits => k_is)
    (case xs_WrongOrdinal => k_is)
    (case xe_WrongOrdinal => k_is)
    (case xt_WrongOrdinal => k_is)
    (case xk_WrongOrdinal => k_is)
    (case xn_WrongOrdinal => k_is)
    (case xg_WrongOrdinal => k_is)
    (case xh_WrongOrdinal => k_is)
    (case xd_WrongOrdinal => k_is)
    (case xs_WrongTime => k_is)
    (case xe_WrongTime => k_is)
    (case xt_WrongTime => k_is)
    (case xk_WrongTime => k_is)
    (case xn_WrongTime => k_is)
    (case xg_WrongTime => k_is)
    (case xh_WrongTime => k_is)
    (case xd_WrongTime => k_is)
    (case xs_WrongKey => k_is)
    (case xe_WrongKey => k_is)
    (case xt_WrongKey => k_is)
    (case xk_WrongKey => k_is)
    (case xn_WrongKey => k_is)
    (case xg_WrongKey => k_is)
    (case xh_WrongKey => k_is)
    (case xd_WrongKey => k_is)
    (case xs_WrongEntry => k_is)
    (case xe_WrongEntry => k_is)
    (case xt_WrongEntry => k_is)
    (case xk_WrongEntry => k_is)
    (case xn_WrongEntry => k_is)
    (case xg_WrongEntry => k_is)
    (case xh_WrongEntry => k_is)
    (case xd_WrongEntry => k_is)
    (case xs_WrongCount => k_is)
    (case xe_WrongCount => k_is)
    (case xt_WrongCount => k_is)
    (case xk_WrongCount => k_is)
    (case xn_WrongCount => k_is)
    (case xg_WrongCount => k_is)
    (case xh_WrongCount => k_is)
    (case xd_WrongCount => k_is)
    (case xs_WrongSum => k_is)
    (case xe_WrongSum => k_is)
    (case xt_WrongSum => k_is)
    (case xk_WrongSum => k_is)
    (case xn_WrongSum => k_is)
    (case xg_WrongSum => k_is)
    (case xh_WrongSum => k_is)
    (case xd_WrongSum => k_is)
    (case xs_MissingUnits => k_is)
    (case xe_MissingUnits => k_is)
    (case xt_MissingUnits => k_is)
    (case xk_MissingUnits => k_is)
    (case xn_MissingUnits => k_is)
    (case xg_MissingUnits => k_is)
    (case xh_MissingUnits => k_is)
    (case xd_MissingUnits => k_is)
    (case xs_Behind => k_is)
    (case xe_Behind => k_is)
    (case xt_Behind => k_is)
    (case xk_Behind => k_is)
    (case xn_Behind => k_is)
    (case xg_Behind => k_is)
    (case xh_Behind => k_is)
    (case xd_Behind => k_is)
    (case xs_NoEnd => k_is)
    (case xe_NoEnd => k_is)
    (case xt_NoEnd => k_is)
    (case xk_NoEnd => k_is)
    (case xn_NoEnd => k_is)
    (case xg_NoEnd => k_is)
    (case xh_NoEnd => k_is)
    (case xd_NoEnd => k_is)
    (case xs_NotAlike => k_is)
    (case xe_NotAlike => k_is)
    (case xt_NotAlike => k_is)
    (case xk_NotAlike => k_is)
    (case xn_NotAlike => k_is)
    (case xg_NotAlike => k_is)
    (case xh_NotAlike => k_is)
    (case xd_NotAlike => k_is)
    (case xs_HasSkip => k_is)
    (case xe_HasSkip => k_is)
    (case xt_HasSkip => k_is)
    (case xk_HasSkip => k_is)
    (case xn_HasSkip => k_is)
    (case xg_HasSkip => k_is)
    (case xh_HasSkip => k_is)
    (case xd_HasSkip => k_is)
    (case xs_TooLong => k_is)
    (case xe_TooLong => k_is)
    (case xt_TooLong => k_is)
    (case xk_TooLong => k_is)
    (case xn_TooLong => k_is)
    (case xg_TooLong => k_is)
    (case xh_TooLong => k_is)
    (case xd_TooLong => k_is)
    (case xs_NoHead => k_is)
    (case xe_NoHead => k_is)
    (case xt_NoHead => k_is)
    (case xk_NoHead => k_is)
    (case xn_NoHead => k_is)
    (case xg_NoHead => k_is)
    (case xh_NoHead => k_is)
    (case xd_NoHead => k_is)
    (case xs_TooManyTags => k_is)
    (case xe_TooManyTags => k_is)
    (case xt_TooManyTags => k_is)
    (case xk_TooManyTags => k_is)
    (case xn_TooManyTags => k_is)
    (case xg_TooManyTags => k_is)
    (case xh_TooManyTags => k_is)
    (case xd_TooManyTags => k_is)
    (case xs_SpoolboxError => k_is)
    (case xe_SpoolboxError => k_is)
    (case xt_SpoolboxError => k_is)
    (case xk_SpoolboxError => k_is)
    (case xn_SpoolboxError => k_is)
    (case xg_SpoolboxError => k_is)
    (case xh_SpoolboxError => k_is)
    (case xd_SpoolboxError => k_is)
    (case yn => k_is)
    (case yt => k_is)
    (case xc_SpoolboxError => k_is)
    (case xm_SpoolboxError => k_is)
    (case xc_OutOfRange => k_is)
    (case xm_OutOfRange => k_is)
    (case xc_LooseNumber => k_is)
    (case xm_LooseNumber => k_is)
    (case xc_Truncated => k_is)
    (case xm_Truncated => k_is)
    (case xc_BadStuffing => k_is)
    (case xm_BadStuffing => k_is)
    (case xc_BadKind => k_is)
    (case xm_BadKind => k_is)
    (case xc_BadStamp => k_is)
    (case xm_BadStamp => k_is)
    (case xc_BadNumber => k_is)
    (case xm_BadNumber => k_is)
    (case xc_BadTrack => k_is)
    (case xm_BadTrack => k_is)
    (case xc_BadOrdinal => k_is)
    (case xm_BadOrdinal => k_is)
    (case xc_BadTime => k_is)
    (case xm_BadTime => k_is)
    (case xc_BadSpan => k_is)
    (case xm_BadSpan => k_is)
    (case xc_BadKey => k_is)
    (case xm_BadKey => k_is)
    (case xc_BadSize => k_is)
    (case xm_BadSize => k_is)
    (case xc_ShortBody => k_is)
    (case xm_ShortBody => k_is)
    (case xc_BadCheck => k_is)
    (case xm_BadCheck => k_is)
    (case xc_NotAPresentation => k_is)
    (case xm_NotAPresentation => k_is)
    (case xc_BadChange => k_is)
    (case xm_BadChange => k_is)
    (case xc_BadBody => k_is)
    (case xm_BadBody => k_is)
    (case xc_BadStart => k_is)
    (case xm_BadStart => k_is)
    (case xc_CutOff => k_is)
    (case xm_CutOff => k_is)
    (case xc_EmptyPiece => k_is)
    (case xm_EmptyPiece => k_is)
    (case xc_OtherStamp => k_is)
    (case xm_OtherStamp => k_is)
    (case xc_WrongNumber => k_is)
    (case xm_WrongNumber => k_is)
    (case xc_WrongOrder => k_is)
    (case xm_WrongOrder => k_is)
    (case xc_WrongFields => k_is)
    (case xm_WrongFields => k_is)
    (case xc_NoTrack => k_is)
    (case xm_NoTrack => k_is)
    (case xc_TooManyUnits => k_is)
    (case xm_TooManyUnits => k_is)
    (case xc_WrongOrdinal => k_is)
    (case xm_WrongOrdinal => k_is)
    (case xc_WrongTime => k_is)
    (case xm_WrongTime => k_is)
    (case xc_WrongKey => k_is)
    (case xm_WrongKey => k_is)
    (case xc_WrongEntry => k_is)
    (case xm_WrongEntry => k_is)
    (case xc_WrongCount => k_is)
    (case xm_WrongCount => k_is)
    (case xc_WrongSum => k_is)
    (case xm_WrongSum => k_is)
    (case xc_MissingUnits => k_is)
    (case xm_MissingUnits => k_is)
    (case xc_Behind => k_is)
    (case xm_Behind => k_is)
    (case xc_NoEnd => k_is)
    (case xm_NoEnd => k_is)
    (case xc_NotAlike => k_is)
    (case xm_NotAlike => k_is)
    (case xc_HasSkip => k_is)
    (case xm_HasSkip => k_is)
    (case xc_TooLong => k_is)
    (case xm_TooLong => k_is)
    (case xc_NoHead => k_is)
    (case xm_NoHead => k_is)
    (case xc_TooManyTags => k_is)
    (case xm_TooManyTags => k_is)
    (case cd => decide +kernel)
    (case yd_TooManyTags => kernel_rfl)
    (case yd_NoHead => kernel_rfl)
    (case yd_TooLong => kernel_rfl)
    (case yd_HasSkip => kernel_rfl)
    (case yd_NotAlike => kernel_rfl)
    (case yd_NoEnd => kernel_rfl)
    (case yd_Behind => kernel_rfl)
    (case yd_MissingUnits => kernel_rfl)
    (case yd_WrongSum => kernel_rfl)
    (case yd_WrongCount => kernel_rfl)
    (case yd_WrongEntry => kernel_rfl)
    (case yd_WrongKey => kernel_rfl)
    (case yd_WrongTime => kernel_rfl)
    (case yd_WrongOrdinal => kernel_rfl)
    (case yd_TooManyUnits => kernel_rfl)
    (case yd_NoTrack => kernel_rfl)
    (case yd_WrongFields => kernel_rfl)
    (case yd_WrongOrder => kernel_rfl)
    (case yd_WrongNumber => kernel_rfl)
    (case yd_OtherStamp => kernel_rfl)
    (case yd_EmptyPiece => kernel_rfl)
    (case yd_CutOff => kernel_rfl)
    (case yd_BadStart => kernel_rfl)
    (case yd_BadBody => kernel_rfl)
    (case yd_BadChange => kernel_rfl)
    (case yd_NotAPresentation => kernel_rfl)
    (case yd_BadCheck => kernel_rfl)
    (case yd_ShortBody => kernel_rfl)
    (case yd_BadSize => kernel_rfl)
    (case yd_BadKey => kernel_rfl)
    (case yd_BadSpan => kernel_rfl)
    (case yd_BadTime => kernel_rfl)
    (case yd_BadOrdinal => kernel_rfl)
    (case yd_BadTrack => kernel_rfl)
    (case yd_BadNumber => kernel_rfl)
    (case yd_BadStamp => kernel_rfl)
    (case yd_BadKind => kernel_rfl)
    (case yd_BadStuffing => kernel_rfl)
    (case yd_Truncated => kernel_rfl)
    (case yd_LooseNumber => kernel_rfl)
    (case yd_OutOfRange => kernel_rfl)
    (case yd_SpoolboxError => kernel_rfl)
    (case yd_ValueError => kernel_rfl)
