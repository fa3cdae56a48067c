import PyProof.Rows.All
import Wide.All
import OpenK.AllK
import Wide.FinOn
import PyProof.EqAt
import PyProof.EqKinds
import PyProof.TupleCall
import HandS.ForMost
import HandS.ForExc
import HandS.ExcInit
import HandS.TryMany
import HandS.Flow
import HandS.Star
import HandS.Conv
import HandS.IsInst
import HandS.ExcField
import HandS.ExcIs
import KE.KExcIs
import KE.KTryMore
import KE.GoesEnum
import KE.GoesMore
import HandS.Iter
import HandS.WideBits
import PySem.Challenge.RW_spoolbox_k00_step_numbers
set_option Elab.async false
set_option linter.all false
set_option maxRecDepth 100000
set_option maxHeartbeats 4000000
/-! DL1: values as data. A def's body as a plain Lean function of data, over the hand layer. -/
namespace DL
open PySem PySem.Spec PyProof.Rows L2

abbrev D := PyData
abbrev St := L2.St

/-! ### heaps with a part hidden -/
open Classical in
noncomputable def hide (H : Hp) (Z : Addr → Prop) : Hp := fun b => if Z b then none else H b
theorem hide_of {H : Hp} {Z : Addr → Prop} {b : Addr} {o : HO} (h : hide H Z b = some o) : ¬ Z b ∧ H b = some o := by
  unfold hide at h
  split at h
  · cases h
  · rename_i n
    exact ⟨n, h⟩
theorem hide_at {H : Hp} {Z : Addr → Prop} {b : Addr} {o : HO} (n : ¬ Z b) (h : H b = some o) : hide H Z b = some o := by
  unfold hide
  rw [if_neg n]
  exact h
theorem hide_mono {H H' : Hp} {Z Z' : Addr → Prop} (s : Same H H') (z : ∀ b, Z' b → Z b ∨ H b = none) : Same (hide H Z) (hide H' Z') := fun b o h => by
  obtain ⟨n, e⟩ := hide_of h
  refine hide_at (fun q => ?_) (s b o e)
  rcases z b q with z1 | z1
  · exact n z1
  · rw [e] at z1; cases z1
theorem hide_sub {H : Hp} {Z : Addr → Prop} : Same (hide H Z) H := fun b o h => (hide_of h).2

theorem Rd.same {H H' : Hp} {a : Addr} {u : HO} (s : Same H H') (h : Rd H a u) : Rd H' a u := by
  rcases h with h | ⟨o, h⟩
  · exact .inl (s _ _ h)
  · exact .inr ⟨o, s _ _ h⟩
theorem SqT.same {K : PySem.W.Frag} {H H' : Hp} {a : Addr} {xs : List V} (s : Same H H') (h : SqT K H a xs) : SqT K H' a xs := by
  rcases h with (h | ⟨o, h⟩) | h
  · exact .inl (.inl (s _ _ h))
  · exact .inl (.inr ⟨o, s _ _ h⟩)
  · exact .inr h
/-! the value v stands for the data d: lists are tracked (or known), tuples may stand in the written part too; the script (a list of ints that is read alone) is told by scr -/
abbrev scr (ns : List Int) : D := .dict (ns.map fun n => (.int n, .none))
/-- an error that is held as a value: the place of its class, its at -/
abbrev excD (C : Addr) (i : Int) : D := .dict [(.str "at", .int i), (.int (C : Nat), .none)]
def excL : List (D × D) → Bool
  | (.str _, _) :: _ => true
  | _ => false
@[simp] def excV : D → Bool
  | .dict ks => excL ks
  | _ => false
@[simp] theorem excL_scr (ns : List Int) : excL (ns.map fun n => ((.int n, .none) : D × D)) = false := by cases ns <;> rfl
mutual
inductive Dp (K : PySem.W.Frag) (H : Hp) : V → D → Prop
  | non : Dp K H .non .none
  | bl (b : Bool) : Dp K H (.bl b) (.bool b)
  | int (i : Int) : Dp K H (.int i) (.int i)
  | str (x : Str) : Dp K H (.str x) (.str x)
  | lst {a : Addr} {xs : List V} {ds : List D} : Rd H a (.lst xs) → DpAll K H xs ds → Dp K H (.ref a) (.list ds)
  | tup {a : Addr} {xs : List V} {ds : List D} : SqT K H a xs → DpAll K H xs ds → Dp K H (.ref a) (.tuple ds)
  | scr {a : Addr} {ns : List Int} : SqL K H a (ns.map V.int) → Dp K H (.ref a) (.dict (ns.map fun n => (.int n, .none)))
  | exc {a dd C : Addr} {i : Int} : H a = some (exo a C (some dd)) → H dd = some (exd dd [("at", .int i)]) → Dp K H (.ref a) (.dict [(.str "at", .int i), (.int (C : Nat), .none)])
inductive DpAll (K : PySem.W.Frag) (H : Hp) : List V → List D → Prop
  | nil : DpAll K H [] []
  | cons {v : V} {vs : List V} {d : D} {ds : List D} : Dp K H v d → DpAll K H vs ds → DpAll K H (v :: vs) (d :: ds)
end
mutual
theorem Dp.up {K : PySem.W.Frag} {H : Hp} : ∀ {v : V} {d : D}, d.canLay0 = true → Dp K H v d → L2.Dp K H v d
  | _, _, _, .non => .non
  | _, _, _, .bl b => .bl b
  | _, _, _, .int i => .int i
  | _, _, _, .str x => .str x
  | _, _, c, .lst h t => .lst (.inl h) (DpAll.up c t)
  | _, _, c, .tup h t => .tup h (DpAll.up c t)
  | _, _, c, .scr h => nomatch c
  | _, _, c, .exc _ _ => nomatch c
theorem DpAll.up {K : PySem.W.Frag} {H : Hp} : ∀ {vs : List V} {ds : List D}, PyData.canLayAll0 ds = true → DpAll K H vs ds → L2.DpAll K H vs ds
  | _, _, _, .nil => .nil
  | _, _, c, .cons h t => by
    have c' := Bool.and_eq_true_iff.mp c
    exact .cons (Dp.up c'.1 h) (DpAll.up c'.2 t)
end
mutual
theorem Dp.same {K : PySem.W.Frag} {H H' : Hp} (s : Same H H') : ∀ {v : V} {d : D}, Dp K H v d → Dp K H' v d
  | _, _, .non => .non
  | _, _, .bl b => .bl b
  | _, _, .int i => .int i
  | _, _, .str x => .str x
  | _, _, .lst h t => .lst (Rd.same s h) (DpAll.same s t)
  | _, _, .tup h t => .tup (SqT.same s h) (DpAll.same s t)
  | _, _, .scr h => .scr (s.seq h)
  | _, _, .exc h1 h2 => .exc (s _ _ h1) (s _ _ h2)
theorem DpAll.same {K : PySem.W.Frag} {H H' : Hp} (s : Same H H') : ∀ {vs : List V} {ds : List D}, DpAll K H vs ds → DpAll K H' vs ds
  | _, _, .nil => .nil
  | _, _, .cons h t => .cons (Dp.same s h) (DpAll.same s t)
end
section
variable {K : PySem.W.Frag} {H : Hp}
theorem DpAll.length : ∀ {vs : List V} {ds : List D}, DpAll K H vs ds → vs.length = ds.length
  | _, _, .nil => rfl
  | _, _, .cons _ t => by rw [List.length_cons, List.length_cons, DpAll.length t]
theorem DpAll.get : ∀ {vs : List V} {ds : List D} {i : Nat} {d : D}, DpAll K H vs ds → ds[i]? = some d → ∃ v, vs[i]? = some v ∧ Dp K H v d
  | _, _, _, _, .nil, e => by simp at e
  | _, _, 0, _, .cons h _, e => by simp at e; subst e; exact ⟨_, rfl, h⟩
  | _, _, i + 1, d, .cons _ t, e => by
    obtain ⟨u, h1, h2⟩ := DpAll.get (i := i) (d := d) t (by simpa using e)
    exact ⟨u, by simpa using h1, h2⟩
theorem DpAll.get' : ∀ {vs : List V} {ds : List D} {i : Nat} {v : V}, DpAll K H vs ds → vs[i]? = some v → ∃ d, ds[i]? = some d ∧ Dp K H v d
  | _, _, _, _, .nil, e => by simp at e
  | _, _, 0, _, .cons h _, e => by simp at e; subst e; exact ⟨_, rfl, h⟩
  | _, _, i + 1, v, .cons _ t, e => by
    obtain ⟨u, h1, h2⟩ := DpAll.get' (i := i) (v := v) t (by simpa using e)
    exact ⟨u, by simpa using h1, h2⟩
theorem DpAll.append : ∀ {xs ys : List V} {ds es : List D}, DpAll K H xs ds → DpAll K H ys es → DpAll K H (xs ++ ys) (ds ++ es)
  | _, _, _, _, .nil, s => s
  | _, _, _, _, .cons r t, s => .cons r (DpAll.append t s)
theorem DpAll.take : ∀ {xs : List V} {ds : List D} (n : Nat), DpAll K H xs ds → DpAll K H (xs.take n) (ds.take n)
  | _, _, 0, _ => .nil
  | _, _, _ + 1, .nil => .nil
  | _, _, n + 1, .cons r t => .cons r (DpAll.take n t)
theorem DpAll.drop : ∀ {xs : List V} {ds : List D} (n : Nat), DpAll K H xs ds → DpAll K H (xs.drop n) (ds.drop n)
  | _, _, 0, r => r
  | _, _, _ + 1, .nil => .nil
  | _, _, n + 1, .cons _ t => DpAll.drop n t
theorem DpAll.set {x : V} {d : D} (r : Dp K H x d) : ∀ {xs : List V} {ds : List D} (i : Nat), DpAll K H xs ds → DpAll K H (xs.set i x) (ds.set i d)
  | _, _, _, .nil => .nil
  | _, _, 0, .cons _ t => .cons r t
  | _, _, i + 1, .cons q t => .cons q (DpAll.set r i t)
theorem DpAll.dropLast {xs : List V} {ds : List D} (h : DpAll K H xs ds) : DpAll K H xs.dropLast ds.dropLast := by
  rw [List.dropLast_eq_take, List.dropLast_eq_take, DpAll.length h]
  exact DpAll.take _ h
theorem Dp.int_inv {v : V} {i : Int} (h : Dp K H v (.int i)) : v = .int i := by cases h; rfl
theorem Dp.str_inv {v : V} {x : Str} (h : Dp K H v (.str x)) : v = .str x := by cases h; rfl
theorem Dp.bl_inv {v : V} {b : Bool} (h : Dp K H v (.bool b)) : v = .bl b := by cases h; rfl
theorem Dp.non_inv {v : V} (h : Dp K H v .none) : v = .non := by cases h; rfl
theorem Dp.lst_inv {v : V} {ds : List D} (h : Dp K H v (.list ds)) : ∃ a xs, v = .ref a ∧ Rd H a (.lst xs) ∧ DpAll K H xs ds := by
  cases h with
  | lst h t => exact ⟨_, _, rfl, h, t⟩
theorem Dp.tup_inv {v : V} {ds : List D} (h : Dp K H v (.tuple ds)) : ∃ a xs, v = .ref a ∧ SqT K H a xs ∧ DpAll K H xs ds := by
  cases h with
  | tup h t => exact ⟨_, _, rfl, h, t⟩
theorem DpAll.ints : ∀ {vs : List V} {ns : List Int}, DpAll K H vs (ns.map PyData.int) → vs = ns.map V.int
  | _, [], h => by cases h; rfl
  | _, n :: ns, h => by
    cases h with
    | cons a b =>
      rw [Dp.int_inv a, DpAll.ints b]
      rfl
theorem DpAll.of_ints : ∀ (ns : List Int), DpAll K H (ns.map V.int) (ns.map PyData.int)
  | [] => .nil
  | n :: ns => .cons (.int n) (DpAll.of_ints ns)
theorem DpAll.strs : ∀ {vs : List V} {ns : List Str}, DpAll K H vs (ns.map PyData.str) → vs = ns.map V.str
  | _, [], h => by cases h; rfl
  | _, n :: ns, h => by
    cases h with
    | cons a b =>
      rw [Dp.str_inv a, DpAll.strs b]
      rfl
end
/-- scalars: nothing of the heap is in them -/
@[simp] def scalarD : D → Bool
  | .none => true | .bool _ => true | .int _ => true | .str _ => true
  | _ => false
theorem Dp.scalar {K : PySem.W.Frag} {H H' : Hp} {v : V} {d : D} (s : scalarD d = true) (h : Dp K H v d) : Dp K H' v d := by
  cases h with
  | non => exact .non
  | bl b => exact .bl b
  | int i => exact .int i
  | str x => exact .str x
  | lst _ _ => cases s
  | tup _ _ => cases s
  | scr _ => cases s
  | exc _ _ => cases s
theorem DpAll.scalar {K : PySem.W.Frag} {H H' : Hp} : ∀ {vs : List V} {ds : List D}, ds.all scalarD = true → DpAll K H vs ds → DpAll K H' vs ds
  | _, _, _, .nil => .nil
  | _, _, s, .cons h t => by
    rw [List.all_cons, Bool.and_eq_true] at s
    exact .cons (Dp.scalar s.1 h) (DpAll.scalar s.2 t)

/-! ### slots -/
inductive Slot where
  | un | dat (d : D) | own (ds : List D) | err (a dd : Addr) (i : Int)
abbrev Rho := List Slot
/-- the list at a is slot i's own -/
def OwnAt (σ : St) (ρ : Rho) (i : Nat) (a : Addr) : Prop := σ[i]? = some (some (.ref a)) ∧ ∃ ds, ρ[i]? = some (.own ds)
def Owned (σ : St) (ρ : Rho) (a : Addr) : Prop := ∃ i, OwnAt σ ρ i a
def Zo (Z : Addr → Prop) (σ : St) (ρ : Rho) : Addr → Prop := fun b => Z b ∨ Owned σ ρ b
def SlotOk (K : PySem.W.Frag) (H Hs : Hp) (o : Option (Option V)) : Slot → Prop
  | .un => True
  | .dat d => ∃ v, o = some (some v) ∧ Dp K Hs v d
  | .own ds => ∃ a xs, o = some (some (.ref a)) ∧ H a = some (.lst xs) ∧ DpAll K Hs xs ds
  | .err a dd i => o = some (some (.ref a)) ∧ H dd = some (.xd [(("at" : Str), .int i)])
structure DI (K : PySem.W.Frag) (Z : Addr → Prop) (H : Hp) (σ : St) (ρ : Rho) : Prop where
  len : ρ.length = σ.length
  one : ∀ i j a, OwnAt σ ρ i a → OwnAt σ ρ j a → i = j
  out : ∀ a, Owned σ ρ a → ¬ Z a
  live : ∀ a, Z a → H a ≠ none
  slots : ∀ (i : Nat) s, ρ[i]? = some s → SlotOk K H (hide H (Zo Z σ ρ)) (σ[i]?) s
section
variable {K : PySem.W.Frag} {Z : Addr → Prop} {H H' : Hp} {σ : St} {ρ : Rho}
theorem DI.liveO (I : DI K Z H σ ρ) {a : Addr} (h : Owned σ ρ a) : H a ≠ none := by
  obtain ⟨i, h1, ds, h2⟩ := h
  obtain ⟨b, xs, e, hb, _⟩ := I.slots i _ h2
  rw [h1] at e
  cases e
  rw [hb]
  intro z; cases z
theorem DI.liveZ (I : DI K Z H σ ρ) {a : Addr} (h : Zo Z σ ρ a) : H a ≠ none := by
  rcases h with h | h
  · exact I.live a h
  · exact I.liveO h
theorem DI.same (I : DI K Z H σ ρ) (s : Same H H') : DI K Z H' σ ρ := by
  refine ⟨I.len, I.one, I.out, fun a h => ?_, fun i sl e => ?_⟩
  · have q := I.live a h
    cases e : H a with
    | none => exact absurd e q
    | some o => rw [s a o e]; intro z; cases z
  · have q := I.slots i sl e
    have m : Same (hide H (Zo Z σ ρ)) (hide H' (Zo Z σ ρ)) := hide_mono s fun b h => .inl h
    cases sl with
    | un => trivial
    | dat d =>
      obtain ⟨v, e1, h⟩ := q
      exact ⟨v, e1, Dp.same m h⟩
    | own ds =>
      obtain ⟨a, xs, e1, e2, h⟩ := q
      exact ⟨a, xs, e1, s _ _ e2, DpAll.same m h⟩
    | err a dd j => exact ⟨q.1, s _ _ q.2⟩
/-- a live address is not a new one -/
theorem ne_live {a p : Addr} (h : H a ≠ none) (n : H p = none) : a ≠ p := fun e => h (e ▸ n)
end

/-! ### what an expression gives -/
/-- s: stable; m: for the moment (a slot's own list may be in it); b: a slot's own list, for the moment; f: a new list that nothing else holds -/
inductive Val where
  | s (d : D) | m (d : D) | b (ds : List D) | f (ds : List D)
@[simp] def Val.d : Val → D
  | .s d => d
  | .m d => d
  | .b ds => .list ds
  | .f ds => .list ds
abbrev Er := Nat × Int
abbrev FE := Rho → Option (Except Er Val)
def ZP (Z : Addr → Prop) (p : Addr) : Addr → Prop := fun b => Z b ∨ b = p
def VOk (K : PySem.W.Frag) (Z : Addr → Prop) (σ : St) (ρ : Rho) (H H1 : Hp) (x : V) : Val → Prop
  | .s d => Dp K (hide H1 (Zo Z σ ρ)) x d
  | .m d => Dp K (hide H1 Z) x d
  | .b ds => ∃ p xs, x = .ref p ∧ Owned σ ρ p ∧ H1 p = some (.lst xs) ∧ DpAll K (hide H1 (Zo Z σ ρ)) xs ds
  | .f ds => ∃ p xs, x = .ref p ∧ H p = none ∧ H1 p = some (.lst xs) ∧ DpAll K (hide H1 (ZP (Zo Z σ ρ) p)) xs ds
def ErOk (Cl : Nat → Addr) (W : WX) (σ : St) (H : Hp) (e : Er) : Prop :=
  ∀ dd H', Same H H' → H' dd = some (.xd [(("at" : Str), .int e.2)]) → W (.ref (Cl e.1)) (some dd) σ H'
def ROk (K : PySem.W.Frag) (Cl : Nat → Addr) (W : WX) (Z : Addr → Prop) (σ : St) (ρ : Rho) (H : Hp) (Q : VK) : Except Er Val → Prop
  | .ok v => ∀ x H', Same H H' → VOk K Z σ ρ H H' x v → Q x H'
  | .error e => ErOk Cl W σ H e
def teOf (K : PySem.W.Frag) (Cl : Nat → Addr) (W : WX) (f : FE) : TE := fun σ H Q => ∃ Z ρ r, DI K Z H σ ρ ∧ f ρ = some r ∧ ROk K Cl W Z σ ρ H Q r
def DE (X : Cx) (Cl : Nat → Addr) (W : WX) (e : Expr) (f : FE) : Prop := PE X e (teOf X.K Cl W f)
/-- a reading may be made stronger -/
theorem PE.imp {X : Cx} {e : Expr} {t t' : TE} (h : PE X e t) (i : ∀ σ H Q, t' σ H Q → t σ H Q) : PE X e t' := ⟨fun pins s σ H Q I q => h.run pins s σ H Q I (i σ H Q q)⟩
theorem PT.imp {X : Cx} {e : Expr} {t t' : TT} (h : PT X e t) (i : ∀ σ H Q, t' σ H Q → t σ H Q) : PT X e t' := ⟨fun pins s σ H Q I q => h.run pins s σ H Q I (i σ H Q q)⟩
theorem PW.imp {X : Cx} {e : Expr} {t t' : TT} (h : PW X e t) (i : ∀ σ H Q, t' σ H Q → t σ H Q) : PW X e t' := ⟨fun wh pins s σ H Q I q => h.run wh pins s σ H Q I (i σ H Q q)⟩
theorem PA.imp {X : Cx} {e : List Expr} {t t' : TA} (h : PA X e t) (i : ∀ σ H Q, t' σ H Q → t σ H Q) : PA X e t' := ⟨fun pos pins s σ H Q I q => h.run pos pins s σ H Q I (i σ H Q q)⟩
theorem PS.imp {X : Cx} {e : Stmt} {t t' : TS} (h : PS X e t) (i : ∀ D σ H, t' D σ H → t D σ H) : PS X e t' := ⟨fun pins s σ H D I q => h.run pins s σ H D I (i D σ H q)⟩
theorem PSs.imp {X : Cx} {e : List Stmt} {t t' : TS} (h : PSs X e t) (i : ∀ D σ H, t' D σ H → t D σ H) : PSs X e t' := ⟨fun pins s σ H D I q => h.run pins s σ H D I (i D σ H q)⟩

section
variable {K : PySem.W.Frag} {Cl : Nat → Addr} {W : WX} {Z : Addr → Prop} {H H' H1 H2 : Hp} {σ : St} {ρ : Rho} {Q : VK}
theorem VOk.same {x : V} {v : Val} (s : Same H1 H2) (h : VOk K Z σ ρ H H1 x v) : VOk K Z σ ρ H H2 x v := by
  cases v with
  | s d => exact Dp.same (hide_mono s fun _ h => .inl h) h
  | m d => exact Dp.same (hide_mono s fun _ h => .inl h) h
  | b ds =>
    obtain ⟨p, xs, e, n, h1, h2⟩ := h
    exact ⟨p, xs, e, n, s _ _ h1, DpAll.same (hide_mono s fun _ h => .inl h) h2⟩
  | f ds =>
    obtain ⟨p, xs, e, n, h1, h2⟩ := h
    exact ⟨p, xs, e, n, s _ _ h1, DpAll.same (hide_mono s fun _ h => .inl h) h2⟩
theorem VOk.back {x : V} {v : Val} (s : Same H H1) (h : VOk K Z σ ρ H1 H2 x v) : VOk K Z σ ρ H H2 x v := by
  cases v with
  | s d => exact h
  | m d => exact h
  | b ds => exact h
  | f ds =>
    obtain ⟨p, xs, e, n, h1, h2⟩ := h
    exact ⟨p, xs, e, s.free n, h1, h2⟩
/-- as it is to be read now -/
theorem VOk.dp {x : V} {v : Val} (I : DI K Z H σ ρ) (h : VOk K Z σ ρ H H1 x v) : Dp K (hide H1 Z) x v.d := by
  cases v with
  | s d => exact Dp.same (hide_mono (Same.refl _) fun _ h => .inl (.inl h)) h
  | m d => exact h
  | b ds =>
    obtain ⟨p, xs, rfl, n, h1, h2⟩ := h
    exact .lst (Rd.of (hide_at (I.out p n) h1)) (DpAll.same (hide_mono (Same.refl _) fun _ h => .inl (.inl h)) h2)
  | f ds =>
    obtain ⟨p, xs, rfl, n, h1, h2⟩ := h
    have np : ¬ Z p := fun z => I.live p z n
    exact .lst (Rd.of (hide_at np h1)) (DpAll.same (hide_mono (Same.refl _) fun _ h => .inl (.inl (.inl h))) h2)
/-- as it is to be kept: not for the moment only -/
@[simp] def Val.st : Val → Option D
  | .s d => some d
  | .m d => if scalarD d = true then some d else none
  | .b _ => none
  | .f ds => some (.list ds)
theorem VOk.stab {x : V} {v : Val} {d : D} (I : DI K Z H σ ρ) (e : v.st = some d) (h : VOk K Z σ ρ H H1 x v) : Dp K (hide H1 (Zo Z σ ρ)) x d := by
  cases v with
  | s d' => cases e; exact h
  | m d' =>
    simp only [Val.st] at e
    split at e
    · rename_i sc
      cases e
      exact Dp.scalar sc h
    · cases e
  | b ds => cases e
  | f ds =>
    cases e
    obtain ⟨p, xs, rfl, n, h1, h2⟩ := h
    have np : ¬ Zo Z σ ρ p := fun z => I.liveZ z n
    exact .lst (Rd.of (hide_at np h1)) (DpAll.same (hide_mono (Same.refl _) fun _ h => .inl (.inl h)) h2)
theorem ErOk.same {e : Er} (s : Same H H1) (h : ErOk Cl W σ H e) : ErOk Cl W σ H1 e := fun dd H' s' => h dd H' (s.trans s')
theorem ROk.from {r : Except Er Val} (s : Same H H1) (h : ROk K Cl W Z σ ρ H Q r) : ROk K Cl W Z σ ρ H1 Q r := by
  cases r with
  | error e => exact ErOk.same s h
  | ok v => exact fun x H' s' hv => h x H' (s.trans s') (hv.back s)
end

/-! ### functions of data, one after another -/
@[simp] def bE (f : FE) (k : Val → FE) (ρ : Rho) : Option (Except Er Val) := match f ρ with
  | none => none
  | some (.error e) => some (.error e)
  | some (.ok v) => k v ρ
@[simp] def ok (d : D) : Option (Except Er Val) := some (.ok (.s d))
theorem te_bind {K : PySem.W.Frag} {Cl : Nat → Addr} {W : WX} {Z : Addr → Prop} {H : Hp} {σ : St} {ρ : Rho} {Q Q1 : VK} {f : FE} {k : Val → FE} {r : Except Er Val} (I : DI K Z H σ ρ) (h : bE f k ρ = some r) (q : ROk K Cl W Z σ ρ H Q r)
    (go : ∀ v x H1, f ρ = some (.ok v) → k v ρ = some r → Same H H1 → VOk K Z σ ρ H H1 x v → DI K Z H1 σ ρ → ROk K Cl W Z σ ρ H1 Q r → Q1 x H1) : teOf K Cl W f σ H Q1 := by
  unfold bE at h
  cases e : f ρ with
  | none => rw [e] at h; cases h
  | some r1 =>
    rw [e] at h
    cases r1 with
    | error er =>
      cases h
      exact ⟨Z, ρ, .error er, I, e, q⟩
    | ok v => exact ⟨Z, ρ, .ok v, I, e, fun x H1 s hv => go v x H1 e h s hv (I.same s) (q.from s)⟩
/-- the end: a value that leans on nothing -/
theorem ROk.scalar {K : PySem.W.Frag} {Cl : Nat → Addr} {W : WX} {Z : Addr → Prop} {H : Hp} {σ : St} {ρ : Rho} {Q : VK} {d : D} {v : V} (q : ROk K Cl W Z σ ρ H Q (.ok (.s d))) (h : ∀ H', Dp K H' v d) : Q v H := q v H (Same.refl _) (h _)
end DL
set_option Elab.async false
set_option linter.all false
set_option maxRecDepth 100000
set_option maxHeartbeats 4000000
/-! DL2: expressions by data. -/
namespace DL
open PySem PySem.Spec PyProof.Rows L2

section
variable {X : Cx} {Cl : Nat → Addr} {W : WX} {a b c e : Expr} {es : List Expr} {fa fb fc f : FE} {pos : Pos}

/-! ### constants and names -/
@[simp] def eC (d : D) (ρ : Rho) : Option (Except Er Val) := ok d
theorem de_const {v : V} {d : D} (h : PE X e (tC v)) (hv : ∀ H, Dp X.K H v d) : DE X Cl W e (eC d) :=
  PE.imp h fun σ H Q ⟨Z, ρ, r, I, e, q⟩ => by cases e; exact q.scalar hv
theorem de_int {i : Int} {j pos} : DE X Cl W (.Constant (.int i) j pos) (eC (.int i)) := de_const pe_int fun _ => .int i
theorem de_bl {i : Bool} {j pos} : DE X Cl W (.Constant (.bool i) j pos) (eC (.bool i)) := de_const pe_bl fun _ => .bl i
theorem de_non {j pos} : DE X Cl W (.Constant .none j pos) (eC .none) := de_const pe_non fun _ => .non
theorem de_str {i : Str} {j pos} : DE X Cl W (.Constant (.str i) j pos) (eC (.str i)) := de_const pe_str fun _ => .str i
theorem de_globI {x : Str} {i : Int} {t : Tok} (hm : X.mg x = some (.int i t)) (hg : Gl X x := by rfl) (hd : (x == ("__debug__" : Str)) = false := by decide) : DE X Cl W (.Name x pos) (eC (.int i)) := de_const (pe_glob (v := .int i) hg hm ⟨t, rfl⟩ hd) fun _ => .int i
theorem de_globT {x : Str} {p : Addr} {d : D} (hm : X.mg x = some (.ref p)) (ht : ∀ H, Dp X.K H (.ref p) d) (hg : Gl X x := by rfl) (hd : (x == ("__debug__" : Str)) = false := by decide) : DE X Cl W (.Name x pos) (eC d) := de_const (pe_glob (v := .ref p) hg hm rfl hd) ht
@[simp] def eV (i : Nat) (ρ : Rho) : Option (Except Er Val) := match ρ[i]? with
  | some (.dat d) => ok d
  | some (.own ds) => some (.ok (.b ds))
  | _ => none
theorem de_var {i : Nat} {x : Str} (h : PE X (.Name x pos) (tVar i)) : DE X Cl W (.Name x pos) (eV i) := PE.imp h fun σ H Q ⟨Z, ρ, r, I, e, q⟩ => by
  unfold eV at e
  split at e
  · rename_i d hd
    cases e
    obtain ⟨v, hv, hp⟩ := I.slots i _ hd
    exact ⟨v, hv, q v H (Same.refl _) hp⟩
  · rename_i ds hd
    cases e
    obtain ⟨p, xs, hv, hp, hds⟩ := I.slots i _ hd
    exact ⟨_, hv, q _ H (Same.refl _) ⟨p, xs, rfl, ⟨i, hv, ds, hd⟩, hp, hds⟩⟩
  · cases e

/-! ### operators -/
/-- what an operation on values does, by data -/
def R2D (K : PySem.W.Frag) (r : R2) (g : Val → Val → Option Val) : Prop := ∀ (Z : Addr → Prop) (σ : St) (ρ : Rho) (H0 H : Hp) (x y : V) (a b v : Val) (Q : VK), DI K Z H0 σ ρ → Same H0 H → VOk K Z σ ρ H0 H x a → VOk K Z σ ρ H0 H y b → g a b = some v →
  (∀ z H', Same H H' → VOk K Z σ ρ H0 H' z v → Q z H') → r x y H Q
def e2 (g : Val → Val → Option Val) (fa fb : FE) : FE := bE fa fun a => bE fb fun b _ => (g a b).map .ok
theorem de_tOp {r : R2} {g : Val → Val → Option Val} (h : PE X e (tOp r (teOf X.K Cl W fa) (teOf X.K Cl W fb))) (hr : R2D X.K r g) : DE X Cl W e (e2 g fa fb) := PE.imp h fun σ H Q ⟨Z, ρ, r1, I, e, q⟩ => by
  refine te_bind I e q fun v x H1 _ h1 s1 hv I1 q1 => te_bind I1 h1 q1 fun u y H2 _ h2 s2 hu I2 q2 => ?_
  cases hg : g v u with
  | none => rw [hg] at h2; cases h2
  | some w =>
    rw [hg] at h2
    cases h2
    exact hr Z σ ρ H H2 x y v u w Q I (s1.trans s2) (hv.same s2) (hu.back s1) hg fun z H' s' hz => q z H' (s1.trans (s2.trans s')) hz
theorem de_op {op : Operator} {r : R2} {g : Val → Val → Option Val} (ho : OpR X (binaryOp op) r) (hr : R2D X.K r g) (ha : DE X Cl W a fa) (hb : DE X Cl W b fb) : DE X Cl W (.BinOp a op b pos) (e2 g fa fb) := de_tOp (pe_op ho ha hb) hr
theorem de_cmp {op : CmpOp} {r : R2} {g : Val → Val → Option Val} (ho : OpR X (compareOp op) r) (hr : R2D X.K r g) (ha : DE X Cl W a fa) (hb : DE X Cl W b fb) (hm : behindInMarks op b = false) : DE X Cl W (.Compare a [op] [b] pos) (e2 g fa fb) := de_tOp (pe_cmpR ho ha hb hm) hr
theorem R2D.or {K : PySem.W.Frag} {r r' : R2} {g g' : Val → Val → Option Val} (h : R2D K r g) (h' : R2D K r' g') : R2D K (fun x y H Q => r x y H Q ∨ r' x y H Q) (fun a b => (g a b).or (g' a b)) := fun Z σ ρ H0 H x y a b v Q I s ha hb e q => by
  have e : (g a b).or (g' a b) = some v := e
  cases hg : g a b with
  | some w =>
    rw [hg] at e
    cases e
    exact .inl (h Z σ ρ H0 H x y a b _ Q I s ha hb hg q)
  | none =>
    rw [hg] at e
    exact .inr (h' Z σ ρ H0 H x y a b _ Q I s ha hb e q)

@[simp] def gI (F : Int → Int → D) (a b : Val) : Option Val := match a.d, b.d with
  | .int i, .int j => some (.s (F i j))
  | _, _ => none
@[simp] def gIc (C : Int → Int → Bool) (F : Int → Int → D) (a b : Val) : Option Val := match a.d, b.d with
  | .int i, .int j => if C i j = true then some (.s (F i j)) else none
  | _, _ => none
variable {K : PySem.W.Frag}
theorem VOk.int_inv {Z : Addr → Prop} {σ : St} {ρ : Rho} {H0 H : Hp} {x : V} {a : Val} {i : Int} (I : DI K Z H0 σ ρ) (h : VOk K Z σ ρ H0 H x a) (e : a.d = .int i) : x = .int i := by
  have q := h.dp I
  rw [e] at q
  exact q.int_inv
theorem VOk.str_inv {Z : Addr → Prop} {σ : St} {ρ : Rho} {H0 H : Hp} {x : V} {a : Val} {i : Str} (I : DI K Z H0 σ ρ) (h : VOk K Z σ ρ H0 H x a) (e : a.d = .str i) : x = .str i := by
  have q := h.dp I
  rw [e] at q
  exact q.str_inv
theorem VOk.bl_inv {Z : Addr → Prop} {σ : St} {ρ : Rho} {H0 H : Hp} {x : V} {a : Val} {i : Bool} (I : DI K Z H0 σ ρ) (h : VOk K Z σ ρ H0 H x a) (e : a.d = .bool i) : x = .bl i := by
  have q := h.dp I
  rw [e] at q
  exact q.bl_inv
theorem r2_I {g : Int → Int → V} {F : Int → Int → D} (h : ∀ i j H, Dp K H (g i j) (F i j)) : R2D K (rI0 g) (gI F) := fun Z σ ρ H0 H x y a b v Q I s ha hb e q => by
  unfold gI at e
  split at e
  · rename_i i j e1 e2
    cases e
    exact ⟨i, j, ha.int_inv I e1, hb.int_inv I e2, q _ H (Same.refl _) (h i j _)⟩
  · cases e
theorem r2_Ic {C : Int → Int → Prop} {c : Int → Int → Bool} {g : Int → Int → V} {F : Int → Int → D} (hc : ∀ i j, c i j = true → C i j) (h : ∀ i j H, Dp K H (g i j) (F i j)) : R2D K (rI C g) (gIc c F) := fun Z σ ρ H0 H x y a b v Q I s ha hb e q => by
  unfold gIc at e
  split at e
  · rename_i i j e1 e2
    split at e
    · rename_i hcc
      cases e
      exact ⟨i, j, ha.int_inv I e1, hb.int_inv I e2, hc i j hcc, q _ H (Same.refl _) (h i j _)⟩
    · cases e
  · cases e
def cDiv (i j : Int) : Bool := decide (0 < j) && decide (j < 1073741824)
def cMod (i j : Int) : Bool := decide (0 < j)
def cMul (i j : Int) : Bool := (decide (-(2 ^ 64) < i) && decide (i < 2 ^ 64)) || (decide (-(2 ^ 64) < j) && decide (j < 2 ^ 64))
def cPow (i j : Int) : Bool := decide (0 ≤ j) && (decide (j ≤ 1000000) && decide (i.natAbs < 2 ^ 64))
def cShr (i j : Int) : Bool := decide (0 ≤ j)
@[simp] def gMul (a b : Val) : Option Val := (gIc cMul fun i j => .int (i * j)) a b
@[simp] def gDiv (a b : Val) : Option Val := (gIc cDiv fun i j => .int (i / j)) a b
@[simp] def gMod (a b : Val) : Option Val := (gIc cMod fun i j => .int (i % j)) a b
@[simp] def gPow (a b : Val) : Option Val := (gIc cPow fun i j => .int (i ^ j.toNat)) a b
@[simp] def gShl (a b : Val) : Option Val := (gIc cPow fun i j => .int (i * 2 ^ j.toNat)) a b
@[simp] def gShr (a b : Val) : Option Val := (gIc cShr fun i j => .int (i / 2 ^ j.toNat)) a b
@[simp] def gSub (a b : Val) : Option Val := (gI fun i j => .int (i - j)) a b
@[simp] def gAddI (a b : Val) : Option Val := (gI fun i j => .int (i + j)) a b
@[simp] def gAnd (a b : Val) : Option Val := (gI fun i j => .int (Builtin.bitAnd i j)) a b
@[simp] def gOr (a b : Val) : Option Val := (gI fun i j => .int (Builtin.bitOr i j)) a b
@[simp] def gXor (a b : Val) : Option Val := (gI fun i j => .int (Builtin.bitXor i j)) a b
@[simp] def gLt (a b : Val) : Option Val := (gI fun i j => .bool (decide (i < j))) a b
@[simp] def gLe (a b : Val) : Option Val := (gI fun i j => .bool (decide (i ≤ j))) a b
@[simp] def gGt (a b : Val) : Option Val := (gI fun i j => .bool (decide (j < i))) a b
@[simp] def gGe (a b : Val) : Option Val := (gI fun i j => .bool (decide (j ≤ i))) a b
theorem cPow_ok (i j : Int) (h : cPow i j = true) : CPow i j := by
  simp only [cPow, Bool.and_eq_true, decide_eq_true_eq] at h
  exact ⟨h.1, h.2.1, h.2.2⟩
theorem cMul_ok (i j : Int) (h : cMul i j = true) : CMul i j := by
  simp only [cMul, Bool.and_eq_true, Bool.or_eq_true, decide_eq_true_eq] at h
  exact h
theorem cDiv_ok (i j : Int) (h : cDiv i j = true) : CDiv i j := by
  simp only [cDiv, Bool.and_eq_true, decide_eq_true_eq] at h
  exact h
theorem de_sub (ha : DE X Cl W a fa) (hb : DE X Cl W b fb) : DE X Cl W (.BinOp a .Sub b pos) (e2 gSub fa fb) := de_op op_sub (r2_I fun i j _ => .int _) ha hb
theorem de_addI (ha : DE X Cl W a fa) (hb : DE X Cl W b fb) : DE X Cl W (.BinOp a .Add b pos) (e2 gAddI fa fb) := de_op op_add (r2_I fun i j _ => .int _) ha hb
theorem de_mul (ha : DE X Cl W a fa) (hb : DE X Cl W b fb) : DE X Cl W (.BinOp a .Mult b pos) (e2 gMul fa fb) := de_op op_mul (r2_Ic cMul_ok fun i j _ => .int _) ha hb
theorem de_div (ha : DE X Cl W a fa) (hb : DE X Cl W b fb) : DE X Cl W (.BinOp a .FloorDiv b pos) (e2 gDiv fa fb) := de_op op_fdiv (r2_Ic cDiv_ok fun i j _ => .int _) ha hb
theorem de_mod (ha : DE X Cl W a fa) (hb : DE X Cl W b fb) : DE X Cl W (.BinOp a .Mod b pos) (e2 gMod fa fb) := de_op op_mod (r2_Ic (fun _ _ h => of_decide_eq_true h) fun i j _ => .int _) ha hb
theorem de_pow (ha : DE X Cl W a fa) (hb : DE X Cl W b fb) : DE X Cl W (.BinOp a .Pow b pos) (e2 gPow fa fb) := de_op op_pow (r2_Ic cPow_ok fun i j _ => .int _) ha hb
theorem de_shl (ha : DE X Cl W a fa) (hb : DE X Cl W b fb) : DE X Cl W (.BinOp a .LShift b pos) (e2 gShl fa fb) := de_op op_shl (r2_Ic cPow_ok fun i j _ => .int _) ha hb
theorem de_shr (ha : DE X Cl W a fa) (hb : DE X Cl W b fb) : DE X Cl W (.BinOp a .RShift b pos) (e2 gShr fa fb) := de_op op_shr (r2_Ic (fun _ _ h => of_decide_eq_true h) fun i j _ => .int _) ha hb
theorem de_and (ha : DE X Cl W a fa) (hb : DE X Cl W b fb) : DE X Cl W (.BinOp a .BitAnd b pos) (e2 gAnd fa fb) := de_op op_and (r2_I fun i j _ => .int _) ha hb
theorem de_or (ha : DE X Cl W a fa) (hb : DE X Cl W b fb) : DE X Cl W (.BinOp a .BitOr b pos) (e2 gOr fa fb) := de_op op_or (r2_I fun i j _ => .int _) ha hb
theorem de_xor (ha : DE X Cl W a fa) (hb : DE X Cl W b fb) : DE X Cl W (.BinOp a .BitXor b pos) (e2 gXor fa fb) := de_op op_xor (r2_I fun i j _ => .int _) ha hb
@[simp] def gNeg (a : Val) : Option Val := match a.d with
  | .int i => some (.s (.int (-i)))
  | _ => none
def e1 (g : Val → Option Val) (fa : FE) : FE := bE fa fun a _ => (g a).map .ok
theorem de_neg (ha : DE X Cl W a fa) : DE X Cl W (.UnaryOp .USub a pos) (e1 gNeg fa) := PE.imp (pe_un un_neg ha) fun σ H Q ⟨Z, ρ, r1, I, e, q⟩ => by
  refine te_bind I e q fun v x H1 _ h1 s1 hv I1 q1 => ?_
  unfold gNeg at h1
  split at h1
  · rename_i i e1
    cases h1
    exact ⟨i, hv.int_inv I e1, q _ H1 s1 (.int _)⟩
  · cases h1

/-! ### lists put together -/
/-- the items of a list that is not for the moment only -/
@[simp] def Val.items : Val → Option (List D)
  | .s (.list ds) => some ds
  | .m (.list ds) => if ds.all scalarD = true then some ds else none
  | .b ds => some ds
  | .f ds => some ds
  | _ => none
theorem VOk.items {Z : Addr → Prop} {σ : St} {ρ : Rho} {H0 H : Hp} {x : V} {a : Val} {ds : List D} (I : DI K Z H0 σ ρ) (e : a.items = some ds) (h : VOk K Z σ ρ H0 H x a) : ∃ p xs, x = .ref p ∧ Rd H p (.lst xs) ∧ DpAll K (hide H (Zo Z σ ρ)) xs ds := by
  cases a with
  | s d =>
    cases d with
    | list ys =>
      cases e
      obtain ⟨p, xs, rfl, h1, h2⟩ := Dp.lst_inv (show Dp K (hide H (Zo Z σ ρ)) x (.list ds) from h)
      exact ⟨p, xs, rfl, Rd.same hide_sub h1, h2⟩
    | _ => cases e
  | m d =>
    cases d with
    | list ys =>
      simp only [Val.items] at e
      split at e
      · rename_i sc
        cases e
        obtain ⟨p, xs, rfl, h1, h2⟩ := Dp.lst_inv (show Dp K (hide H Z) x (.list ds) from h)
        exact ⟨p, xs, rfl, Rd.same hide_sub h1, DpAll.scalar sc h2⟩
      · cases e
    | _ => cases e
  | b ys =>
    cases e
    obtain ⟨p, xs, rfl, n, h1, h2⟩ := h
    exact ⟨p, xs, rfl, Rd.of h1, h2⟩
  | f ys =>
    cases e
    obtain ⟨p, xs, rfl, n, h1, h2⟩ := h
    exact ⟨p, xs, rfl, Rd.of h1, DpAll.same (hide_mono (Same.refl _) fun _ h => .inl (.inl h)) h2⟩
theorem Rd.lstM {pins : List (Addr × Obj)} {σ : St} {H : Hp} {s : Shared} {l : Addr} {xs : List V} (I : Inv X pins σ H s) (hH : Rd H l (.lst xs)) : xs.length ≤ sizeLine ∧ ∃ (its : List Value) (n : Nat), Vals xs its ∧ xs.length = its.length ∧ s.heap.get? l = some { cls := .type "list", data := .seq its.toArray n } := by
  obtain ⟨z, its, n, r, e⟩ := (show ObjOk X.prog X.w H s.heap l (.lst xs) from hH.ok I.hok)
  exact ⟨z, its, n, r, r.length, e⟩
/-- list + list, tracked or known -/
def rCatR : R2 := fun x y H Q => ∃ l b xs zs, x = .ref l ∧ y = .ref b ∧ Rd H l (.lst xs) ∧ Rd H b (.lst zs) ∧ xs.length + zs.length ≤ sizeLine ∧ ∀ p, H p = none → Q (.ref p) (upd H p (.lst (xs ++ zs)))
theorem op_catR : OpR X (binaryOp .Add) rCatR := by
  intro pins s σ H x y v u Q I rx ry h
  obtain ⟨l, b, xs, zs, rfl, rfl, hH, hB, hz, q⟩ := h
  cases rx
  cases ry
  obtain ⟨z, its, n, r, hl, e⟩ := Rd.lstM I hH
  obtain ⟨z2, its2, n2, r2, hl2, e2⟩ := Rd.lstM I hB
  refine PySem.P.add_list e e2 ?_ (by rw [List.size_toArray, List.size_toArray]; omega)
  have ea : its.toArray ++ its2.toArray = (its ++ its2).toArray := by simp
  rw [ea]
  exact ⟨.ref _, _, I.lnew (t' := s.toks) (r.append r2) (by rw [List.length_append]; omega), rfl, q _ I.fresh⟩
theorem same_upd {H : Hp} {p : Addr} {o : HO} (h : H p = none) : Same H (upd H p o) := fun b x e => by
  rw [upd_ne (ne_of_none e h)]
  exact e
/-- a new list of stable items, just laid -/
theorem VOk.new {Z : Addr → Prop} {σ : St} {ρ : Rho} {H0 H : Hp} {p : Addr} {xs : List V} {ds : List D} (s : Same H0 H) (n : H p = none) (h : DpAll K (hide H (Zo Z σ ρ)) xs ds) : VOk K Z σ ρ H0 (upd H p (.lst xs)) (.ref p) (.f ds) :=
  ⟨p, xs, rfl, s.free n, upd_same, DpAll.same (hide_mono (same_upd n) fun b hb => by
    rcases hb with hb | rfl
    · exact .inl hb
    · exact .inr n) h⟩
def lineOk (n : Nat) : Bool := decide (n ≤ 16777216)
theorem lineOk_ok {n : Nat} (h : lineOk n = true) : n ≤ sizeLine := by
  rw [sizeLine_eq]
  exact of_decide_eq_true h
@[simp] def gCat (a b : Val) : Option Val := match a.items, b.items with
  | some xs, some ys => if lineOk (xs.length + ys.length) = true then some (.f (xs ++ ys)) else none
  | _, _ => none
theorem r2_cat : R2D K rCatR gCat := fun Z σ ρ H0 H x y a b v Q I s ha hb e q => by
  unfold gCat at e
  split at e
  · rename_i ds es e1 e2
    split at e
    · rename_i hl
      cases e
      obtain ⟨l, xs, rfl, h1, h2⟩ := ha.items I e1
      obtain ⟨m, ys, rfl, h3, h4⟩ := hb.items I e2
      refine ⟨l, m, xs, ys, rfl, rfl, h1, h3, by rw [h2.length, h4.length]; exact lineOk_ok hl, fun p np => ?_⟩
      exact q _ _ (same_upd np) (VOk.new s np (h2.append h4))
    · cases e
  · cases e
/-- text + text -/
@[simp] def gCatS (a b : Val) : Option Val := match a.d, b.d with
  | .str x, .str y => if lineOk (x.length + y.length) = true then some (.s (.str (x ++ y))) else none
  | _, _ => none
theorem r2_catS : R2D K (fun x y H Q => ∃ i j, x = .str i ∧ y = .str j ∧ i.length + j.length ≤ sizeLine ∧ Q (.str (i ++ j)) H) gCatS := fun Z σ ρ H0 H x y a b v Q I s ha hb e q => by
  unfold gCatS at e
  split at e
  · rename_i i j e1 e2
    split at e
    · rename_i hl
      cases e
      exact ⟨i, j, ha.str_inv I e1, hb.str_inv I e2, lineOk_ok hl, q _ H (Same.refl _) (.str _)⟩
    · cases e
  · cases e
@[simp] def gAdd (a b : Val) : Option Val := (gAddI a b).or (gCat a b)
theorem de_add (ha : DE X Cl W a fa) (hb : DE X Cl W b fb) : DE X Cl W (.BinOp a .Add b pos) (e2 gAdd fa fb) := de_op (op_add.or op_catR) ((r2_I fun i j _ => .int _).or r2_cat) ha hb

/-! ### comparisons -/
def eqD (a b : D) : Option Bool := if (SeqAt.shaped a && SeqAt.shaped b) = true then some (PyData.eqv a b) else none
@[simp] def gEq (a b : Val) : Option Val := (eqD a.d b.d).map fun k => .s (.bool k)
@[simp] def gNe (a b : Val) : Option Val := (eqD a.d b.d).map fun k => .s (.bool (!k))
theorem r2_eq : R2D K (rEqD K) gEq := fun Z σ ρ H0 H x y a b v Q I s ha hb e q => by
  unfold gEq eqD at e
  split at e
  · rename_i sh
    cases e
    obtain ⟨s1, s2⟩ := Bool.and_eq_true_iff.mp sh
    exact ⟨a.d, b.d, (Dp.same hide_sub (ha.dp I)).up (SeqAt.canLay_of_shaped s1), (Dp.same hide_sub (hb.dp I)).up (SeqAt.canLay_of_shaped s2), s1, s2, q _ H (Same.refl _) (.bl _)⟩
  · cases e
theorem r2_ne : R2D K (rNeD K) gNe := fun Z σ ρ H0 H x y a b v Q I s ha hb e q => by
  unfold gNe eqD at e
  split at e
  · rename_i sh
    cases e
    obtain ⟨s1, s2⟩ := Bool.and_eq_true_iff.mp sh
    exact ⟨a.d, b.d, (Dp.same hide_sub (ha.dp I)).up (SeqAt.canLay_of_shaped s1), (Dp.same hide_sub (hb.dp I)).up (SeqAt.canLay_of_shaped s2), s1, s2, q _ H (Same.refl _) (.bl _)⟩
  · cases e
@[simp] def isNone : D → Bool
  | .none => true
  | _ => false
theorem Dp.isNone {H : Hp} {x : V} {d : D} (h : Dp K H x d) : decide (x = .non) = isNone d := by
  cases h <;> rfl
@[simp] def gIsN (a b : Val) : Option Val := if isNone b.d = true then some (.s (.bool (isNone a.d))) else none
@[simp] def gNotN (a b : Val) : Option Val := if isNone b.d = true then some (.s (.bool (!isNone a.d))) else none
theorem isNone_eq {d : D} (h : isNone d = true) : d = .none := by cases d <;> first | rfl | cases h
theorem r2_isN : R2D K (fun x y H Q => y = .non ∧ Q (.bl (decide (x = .non))) H) gIsN := fun Z σ ρ H0 H x y a b v Q I s ha hb e q => by
  unfold gIsN at e
  split at e
  · rename_i h
    cases e
    have q1 := hb.dp I
    rw [isNone_eq h] at q1
    refine ⟨q1.non_inv, ?_⟩
    rw [(ha.dp I).isNone]
    exact q _ H (Same.refl _) (.bl _)
  · cases e
theorem r2_notN : R2D K (fun x y H Q => y = .non ∧ Q (.bl (!decide (x = .non))) H) gNotN := fun Z σ ρ H0 H x y a b v Q I s ha hb e q => by
  unfold gNotN at e
  split at e
  · rename_i h
    cases e
    have q1 := hb.dp I
    rw [isNone_eq h] at q1
    refine ⟨q1.non_inv, ?_⟩
    rw [(ha.dp I).isNone]
    exact q _ H (Same.refl _) (.bl _)
  · cases e
/-- flat things, as == of the layer's in takes them -/
theorem Dp.flat {H : Hp} {x : V} {d : D} (h : Dp K H x d) (s : scalarD d = true) : flatV x = true := by
  cases h <;> first | rfl | cases s
def toV : D → V
  | .bool b => .bl b
  | .int i => .int i
  | .str x => .str x
  | _ => .non
theorem Dp.toV {H : Hp} {x : V} {d : D} (h : Dp K H x d) (s : scalarD d = true) : x = toV d := by
  cases h <;> first | rfl | cases s
theorem DpAll.toV {H : Hp} : ∀ {xs : List V} {ds : List D}, DpAll K H xs ds → ds.all scalarD = true → xs = ds.map toV ∧ xs.all flatV = true
  | _, _, .nil, _ => ⟨rfl, rfl⟩
  | _, _, .cons h t, s => by
    rw [List.all_cons, Bool.and_eq_true] at s
    obtain ⟨e1, e2⟩ := DpAll.toV t s.2
    have e3 := Dp.toV h s.1
    have e4 := Dp.flat h s.1
    subst e3
    refine ⟨by rw [List.map_cons, ← e1], ?_⟩
    rw [List.all_cons, e4, e2]
    rfl
def inD (x : D) (ds : List D) : Bool := inV (toV x) (ds.map toV)
@[simp] def seqItems : D → Option (List D)
  | .list ds => some ds
  | .tuple ds => some ds
  | _ => none
@[simp] def gInX (neg : Bool) (a b : Val) : Option Val := match seqItems b.d with
  | some ds => if (scalarD a.d && ds.all scalarD) = true then some (.s (.bool (if neg then !inD a.d ds else inD a.d ds))) else none
  | none => none
theorem Dp.seq_inv {H : Hp} {x : V} {d : D} {ds : List D} (h : Dp K H x d) (e : seqItems d = some ds) : ∃ p xs, x = .ref p ∧ (SqL K H p xs ∨ SqT K H p xs) ∧ DpAll K H xs ds := by
  cases h with
  | lst h t => cases e; exact ⟨_, _, rfl, .inl (.inl h), t⟩
  | tup h t => cases e; exact ⟨_, _, rfl, .inr h, t⟩
  | _ => cases e
theorem r2_in {neg : Bool} : R2D K (rIn K neg) (gInX neg) := fun Z σ ρ H0 H x y a b v Q I s ha hb e q => by
  unfold gInX at e
  split at e
  · rename_i ds hd
    split at e
    · rename_i sc
      cases e
      obtain ⟨s1, s2⟩ := Bool.and_eq_true_iff.mp sc
      obtain ⟨p, xs, rfl, h1, h2⟩ := (Dp.same hide_sub (hb.dp I)).seq_inv hd
      have h3 := (Dp.same hide_sub (ha.dp I))
      obtain ⟨e1, e2⟩ := h2.toV s2
      refine ⟨p, xs, rfl, h1, h3.flat s1, e2, ?_⟩
      have ex := h3.toV s1
      have ei : inV x xs = inD a.d ds := by rw [ex, e1]; rfl
      rw [ei]
      exact q _ H (Same.refl _) (.bl _)
    · cases e
  · cases e
@[simp] def gIn (a b : Val) : Option Val := gInX false a b
@[simp] def gNotIn (a b : Val) : Option Val := gInX true a b
/-- texts by their signs -/
@[simp] def gS (F : Str → Str → D) (a b : Val) : Option Val := match a.d, b.d with
  | .str i, .str j => some (.s (F i j))
  | _, _ => none
theorem r2_S {g : Str → Str → V} {F : Str → Str → D} (h : ∀ i j H, Dp K H (g i j) (F i j)) : R2D K (fun x y H Q => ∃ i j, x = .str i ∧ y = .str j ∧ Q (g i j) H) (gS F) := fun Z σ ρ H0 H x y a b v Q I s ha hb e q => by
  unfold gS at e
  split at e
  · rename_i i j e1 e2
    cases e
    exact ⟨i, j, ha.str_inv I e1, hb.str_inv I e2, q _ H (Same.refl _) (h i j _)⟩
  · cases e
def gLtS := gS fun i j => .bool (decide (i.cps.toList < j.cps.toList))
end
end DL
set_option Elab.async false
set_option linter.all false
set_option maxRecDepth 100000
set_option maxHeartbeats 4000000
/-! DL3: arguments, calls, displays, places, slices, tests, by data. -/
namespace DL
open PySem PySem.Spec PyProof.Rows L2

/-! ### arguments -/
abbrev FA := Rho → Option (Except Er (List Val))
def VAll (K : PySem.W.Frag) (Z : Addr → Prop) (σ : St) (ρ : Rho) (H H1 : Hp) (xs : List V) (vs : List Val) : Prop := Paired (VOk K Z σ ρ H H1) xs vs
def RAk (K : PySem.W.Frag) (Cl : Nat → Addr) (W : WX) (Z : Addr → Prop) (σ : St) (ρ : Rho) (H : Hp) (Q : List V → Hp → Prop) : Except Er (List Val) → Prop
  | .ok vs => ∀ xs H', Same H H' → VAll K Z σ ρ H H' xs vs → Q xs H'
  | .error e => ErOk Cl W σ H e
def taOf (K : PySem.W.Frag) (Cl : Nat → Addr) (W : WX) (f : FA) : TA := fun σ H Q => ∃ Z ρ r, DI K Z H σ ρ ∧ f ρ = some r ∧ RAk K Cl W Z σ ρ H Q r
def DA (X : Cx) (Cl : Nat → Addr) (W : WX) (es : List Expr) (f : FA) : Prop := PA X es (taOf X.K Cl W f)
theorem te_step {K : PySem.W.Frag} {Cl : Nat → Addr} {W : WX} {Z : Addr → Prop} {H : Hp} {σ : St} {ρ : Rho} {Q1 : VK} {f : FE} {r : Except Er Val} (I : DI K Z H σ ρ) (h : f ρ = some r) (he : ∀ e, r = .error e → ErOk Cl W σ H e)
    (go : ∀ v x H1, r = .ok v → Same H H1 → VOk K Z σ ρ H H1 x v → DI K Z H1 σ ρ → Q1 x H1) : teOf K Cl W f σ H Q1 := by
  refine ⟨Z, ρ, r, I, h, ?_⟩
  cases r with
  | error e => exact he e rfl
  | ok v => exact fun x H1 s hv => go v x H1 rfl s hv (I.same s)
theorem ta_step {K : PySem.W.Frag} {Cl : Nat → Addr} {W : WX} {Z : Addr → Prop} {H : Hp} {σ : St} {ρ : Rho} {Q1 : List V → Hp → Prop} {f : FA} {r : Except Er (List Val)} (I : DI K Z H σ ρ) (h : f ρ = some r) (he : ∀ e, r = .error e → ErOk Cl W σ H e)
    (go : ∀ vs xs H1, r = .ok vs → Same H H1 → VAll K Z σ ρ H H1 xs vs → DI K Z H1 σ ρ → Q1 xs H1) : taOf K Cl W f σ H Q1 := by
  refine ⟨Z, ρ, r, I, h, ?_⟩
  cases r with
  | error e => exact he e rfl
  | ok vs => exact fun x H1 s hv => go vs x H1 rfl s hv (I.same s)
section
variable {K : PySem.W.Frag} {Z : Addr → Prop} {σ : St} {ρ : Rho} {H0 H H1 H2 : Hp}
theorem VAll.same : ∀ {xs : List V} {vs : List Val}, Same H1 H2 → VAll K Z σ ρ H0 H1 xs vs → VAll K Z σ ρ H0 H2 xs vs
  | _, _, _, .nil => .nil
  | _, _, s, .cons h t => .cons (h.same s) (VAll.same s t)
theorem VAll.back : ∀ {xs : List V} {vs : List Val}, Same H0 H → VAll K Z σ ρ H H1 xs vs → VAll K Z σ ρ H0 H1 xs vs
  | _, _, _, .nil => .nil
  | _, _, s, .cons h t => .cons (h.back s) (VAll.back s t)
theorem VAll.dp (I : DI K Z H0 σ ρ) : ∀ {xs : List V} {vs : List Val}, VAll K Z σ ρ H0 H1 xs vs → DpAll K (hide H1 Z) xs (vs.map Val.d)
  | _, _, .nil => .nil
  | _, _, .cons h t => .cons (h.dp I) (VAll.dp I t)
/-- all of them are to be kept -/
@[simp] def stAll : List Val → Option (List D)
  | [] => some []
  | v :: vs => match v.st, stAll vs with
    | some d, some ds => some (d :: ds)
    | _, _ => none
theorem VAll.stab (I : DI K Z H0 σ ρ) : ∀ {xs : List V} {vs : List Val} {ds : List D}, stAll vs = some ds → VAll K Z σ ρ H0 H1 xs vs → DpAll K (hide H1 (Zo Z σ ρ)) xs ds
  | _, _, _, e, .nil => by cases e; exact .nil
  | _, _, ds, e, .cons h t => by
    simp only [stAll] at e
    split at e
    · rename_i d es e1 e2
      cases e
      exact .cons (h.stab I e1) (VAll.stab I e2 t)
    · cases e
theorem stAll_len : ∀ {vs : List Val} {ds : List D}, stAll vs = some ds → ds.length = vs.length
  | [], _, e => by cases e; rfl
  | v :: vs, ds, e => by
    simp only [stAll] at e
    split at e
    · rename_i d es e1 e2
      cases e
      rw [List.length_cons, List.length_cons, stAll_len e2]
    · cases e
end
@[simp] def aNil (ρ : Rho) : Option (Except Er (List Val)) := some (.ok [])
@[simp] def aCons (f : FE) (g : FA) (ρ : Rho) : Option (Except Er (List Val)) := match f ρ with
  | none => none
  | some (.error e) => some (.error e)
  | some (.ok v) => match g ρ with
    | none => none
    | some (.error e) => some (.error e)
    | some (.ok vs) => some (.ok (v :: vs))
section
variable {X : Cx} {Cl : Nat → Addr} {W : WX} {a b c e : Expr} {es : List Expr} {fa fb fc f : FE} {g : FA} {p pos : Pos}
theorem da_nil : DA X Cl W [] aNil := PA.imp pa_nil fun σ H Q ⟨Z, ρ, r, I, e, q⟩ => by
  cases e
  exact q [] H (Same.refl _) .nil
theorem da_cons (ha : DE X Cl W e f) (hr : DA X Cl W es g) (hs : starEach (e :: es) X.env = (false, eval e X.env) :: starEach es X.env := by rfl) : DA X Cl W (e :: es) (aCons f g) := PA.imp (pa_cons ha hr hs) fun σ H Q ⟨Z, ρ, r, I, e, q⟩ => by
  unfold aCons at e
  cases e1 : f ρ with
  | none => rw [e1] at e; cases e
  | some r1 =>
    refine te_step I e1 (fun er z => ?_) fun v x H1 ev s1 hv I1 => ?_
    · rw [e1, z] at e
      cases e
      exact q
    · subst ev
      rw [e1] at e
      cases e2 : g ρ with
      | none => rw [e2] at e; cases e
      | some r2 =>
        refine ta_step I1 e2 (fun er z => ?_) fun vs xs H2 ev s2 hvs I2 => ?_
        · rw [e2, z] at e
          cases e
          exact ErOk.same s1 q
        · subst ev
          rw [e2] at e
          cases e
          exact q (x :: xs) H2 (s1.trans s2) (.cons (hv.same s2) (hvs.back s1))
/-- a starred list or tuple: its items -/
@[simp] def Val.parts : Val → Option (List Val)
  | .s (.list ds) => some (ds.map .s)
  | .s (.tuple ds) => some (ds.map .s)
  | .m (.list ds) => some (ds.map .m)
  | .m (.tuple ds) => some (ds.map .m)
  | .b ds => some (ds.map .s)
  | .f ds => some (ds.map .s)
  | _ => none
theorem vall_s {K : PySem.W.Frag} {Z : Addr → Prop} {σ : St} {ρ : Rho} {H0 H1 : Hp} : ∀ {xs : List V} {ds : List D}, DpAll K (hide H1 (Zo Z σ ρ)) xs ds → VAll K Z σ ρ H0 H1 xs (ds.map .s)
  | _, _, .nil => .nil
  | _, _, .cons h t => .cons h (vall_s t)
theorem vall_m {K : PySem.W.Frag} {Z : Addr → Prop} {σ : St} {ρ : Rho} {H0 H1 : Hp} : ∀ {xs : List V} {ds : List D}, DpAll K (hide H1 Z) xs ds → VAll K Z σ ρ H0 H1 xs (ds.map .m)
  | _, _, .nil => .nil
  | _, _, .cons h t => .cons h (vall_m t)
theorem VOk.parts {K : PySem.W.Frag} {Z : Addr → Prop} {σ : St} {ρ : Rho} {H0 H : Hp} {x : V} {v : Val} {vs : List Val} (I : DI K Z H0 σ ρ) (h : VOk K Z σ ρ H0 H x v) (e : v.parts = some vs) :
    ∃ p xs, x = .ref p ∧ (SqT K H p xs ∨ SqL K H p xs) ∧ VAll K Z σ ρ H0 H xs vs := by
  cases v with
  | s d =>
    cases d with
    | list ds =>
      cases e
      obtain ⟨p, xs, rfl, h1, h2⟩ := Dp.lst_inv (show Dp K (hide H (Zo Z σ ρ)) x (.list ds) from h)
      exact ⟨p, xs, rfl, .inr (.inl (Rd.same hide_sub h1)), vall_s h2⟩
    | tuple ds =>
      cases e
      obtain ⟨p, xs, rfl, h1, h2⟩ := Dp.tup_inv (show Dp K (hide H (Zo Z σ ρ)) x (.tuple ds) from h)
      exact ⟨p, xs, rfl, .inl (SqT.same hide_sub h1), vall_s h2⟩
    | _ => cases e
  | m d =>
    cases d with
    | list ds =>
      cases e
      obtain ⟨p, xs, rfl, h1, h2⟩ := Dp.lst_inv (show Dp K (hide H Z) x (.list ds) from h)
      exact ⟨p, xs, rfl, .inr (.inl (Rd.same hide_sub h1)), vall_m h2⟩
    | tuple ds =>
      cases e
      obtain ⟨p, xs, rfl, h1, h2⟩ := Dp.tup_inv (show Dp K (hide H Z) x (.tuple ds) from h)
      exact ⟨p, xs, rfl, .inl (SqT.same hide_sub h1), vall_m h2⟩
    | _ => cases e
  | b ds =>
    cases e
    obtain ⟨p, xs, rfl, n, h1, h2⟩ := h
    exact ⟨p, xs, rfl, .inr (SqL.of h1), vall_s h2⟩
  | f ds =>
    cases e
    obtain ⟨p, xs, rfl, n, h1, h2⟩ := h
    exact ⟨p, xs, rfl, .inr (SqL.of h1), vall_s (DpAll.same (hide_mono (Same.refl _) fun _ h => .inl (.inl h)) h2)⟩
theorem VAll.append {K : PySem.W.Frag} {Z : Addr → Prop} {σ : St} {ρ : Rho} {H0 H1 : Hp} : ∀ {xs ys : List V} {vs ws : List Val}, VAll K Z σ ρ H0 H1 xs vs → VAll K Z σ ρ H0 H1 ys ws → VAll K Z σ ρ H0 H1 (xs ++ ys) (vs ++ ws)
  | _, _, _, _, .nil, s => s
  | _, _, _, _, .cons r t, s => .cons r (VAll.append t s)
@[simp] def aStar (f : FE) (g : FA) (ρ : Rho) : Option (Except Er (List Val)) := match f ρ with
  | none => none
  | some (.error e) => some (.error e)
  | some (.ok v) => match v.parts with
    | none => none
    | some us => match g ρ with
      | none => none
      | some (.error e) => some (.error e)
      | some (.ok vs) => some (.ok (us ++ vs))
theorem da_star (ha : DE X Cl W e f) (hr : DA X Cl W es g) (hs : starEach (.Starred e p :: es) X.env = (true, eval e X.env) :: starEach es X.env := by rfl) : DA X Cl W (.Starred e p :: es) (aStar f g) := PA.imp (StX.pa_star ha hr hs) fun σ H Q ⟨Z, ρ, r, I, e, q⟩ => by
  unfold aStar at e
  cases e1 : f ρ with
  | none => rw [e1] at e; cases e
  | some r1 =>
    refine te_step I e1 (fun er z => ?_) fun v x H1 ev s1 hv I1 => ?_
    · rw [e1, z] at e
      cases e
      exact q
    · subst ev
      rw [e1] at e
      dsimp only at e
      cases e3 : v.parts with
      | none => rw [e3] at e; cases e
      | some us =>
        rw [e3] at e
        dsimp only at e
        obtain ⟨p, xs, rfl, hp, hus⟩ := hv.parts I e3
        refine ⟨p, xs, rfl, hp, ?_⟩
        cases e2 : g ρ with
        | none => rw [e2] at e; cases e
        | some r2 =>
          refine ta_step I1 e2 (fun er z => ?_) fun vs ys H2 ev s2 hvs I2 => ?_
          · rw [e2, z] at e
            cases e
            exact ErOk.same s1 q
          · subst ev
            rw [e2] at e
            cases e
            exact q (xs ++ ys) H2 (s1.trans s2) ((hus.same s2).append (hvs.back s1))

/-! ### calls of built-ins -/
def CRD (K : PySem.W.Frag) (r : List V → Hp → VK → Prop) (g : List Val → Option Val) : Prop := ∀ (Z : Addr → Prop) (σ : St) (ρ : Rho) (H0 H : Hp) (xs : List V) (vs : List Val) (v : Val) (Q : VK), DI K Z H0 σ ρ → Same H0 H → VAll K Z σ ρ H0 H xs vs → g vs = some v →
  (∀ z H', Same H H' → VOk K Z σ ρ H0 H' z v → Q z H') → r xs H Q
@[simp] def eG (h : List Val → Option Val) (g : FA) (ρ : Rho) : Option (Except Er Val) := match g ρ with
  | none => none
  | some (.error e) => some (.error e)
  | some (.ok vs) => (h vs).map .ok
theorem de_tCB {r : List V → Hp → VK → Prop} {h : List Val → Option Val} (hp : PE X e (tCB r (taOf X.K Cl W g))) (hr : CRD X.K r h) : DE X Cl W e (eG h g) := PE.imp hp fun σ H Q ⟨Z, ρ, r1, I, e, q⟩ => by
  unfold eG at e
  cases e1 : g ρ with
  | none => rw [e1] at e; cases e
  | some r2 =>
    refine ta_step I e1 (fun er z => ?_) fun vs xs H1 ev s1 hvs I1 => ?_
    · rw [e1, z] at e
      cases e
      exact q
    · subst ev
      rw [e1] at e
      dsimp only at e
      cases e2 : h vs with
      | none => rw [e2] at e; cases e
      | some v =>
        rw [e2] at e
        cases e
        exact hr Z σ ρ H H1 xs vs v Q I s1 hvs e2 fun z H' s' hz => q z H' (s1.trans s') hz
theorem de_callB {id : String} {x : Str} {r : List V → Hp → VK → Prop} {h : List Val → Option Val} (hc : CallR X (.builtin id) r) (hr : CRD X.K r h) (hm : X.mg x = none) (hv : bootBuiltins x = some (.builtin id)) (ha : DA X Cl W (e :: es) g) (hg : Gl X x := by rfl) (hn : x ≠ "__name__" := by decide) (hdb : (x == ("__debug__" : Str)) = false := by decide)
    (he : starEach (e :: es) X.env = (false, eval e X.env) :: starEach es X.env := by rfl) (hpl : (backTo pos (starEach es X.env)).any (·.1) = false := by rfl) : DE X Cl W (.Call (.Name x p) (e :: es) [] pos) (eG h g) :=
  de_tCB (pe_callB hc hg hm hv ha hn hdb he hpl) hr
theorem de_callTy {id : String} {x : Str} {r : List V → Hp → VK → Prop} {h : List Val → Option Val} (hc : CallR X (.type id) r) (hr : CRD X.K r h) (hm : X.mg x = none) (hv : bootBuiltins x = some (.type id)) (ha : DA X Cl W (e :: es) g) (hg : Gl X x := by rfl) (hn : x ≠ "__name__" := by decide) (hdb : (x == ("__debug__" : Str)) = false := by decide)
    (he : starEach (e :: es) X.env = (false, eval e X.env) :: starEach es X.env := by rfl) (hpl : (backTo pos (starEach es X.env)).any (·.1) = false := by rfl) : DE X Cl W (.Call (.Name x p) (e :: es) [] pos) (eG h g) :=
  de_tCB (pe_callTy hc hg hm hv ha hn hdb he hpl) hr
theorem VAll.one {K : PySem.W.Frag} {Z : Addr → Prop} {σ : St} {ρ : Rho} {H0 H1 : Hp} {xs : List V} {v : Val} (h : VAll K Z σ ρ H0 H1 xs [v]) : ∃ x, xs = [x] ∧ VOk K Z σ ρ H0 H1 x v := by
  cases h with
  | cons h t => cases t; exact ⟨_, rfl, h⟩
theorem VAll.two {K : PySem.W.Frag} {Z : Addr → Prop} {σ : St} {ρ : Rho} {H0 H1 : Hp} {xs : List V} {v u : Val} (h : VAll K Z σ ρ H0 H1 xs [v, u]) : ∃ x y, xs = [x, y] ∧ VOk K Z σ ρ H0 H1 x v ∧ VOk K Z σ ρ H0 H1 y u := by
  cases h with
  | cons h t =>
    cases t with
    | cons h2 t2 => cases t2; exact ⟨_, _, rfl, h, h2⟩
variable {K : PySem.W.Frag}
@[simp] def lenD : D → Option Nat
  | .str x => if lineOk x.length = true then some x.length else none
  | .list ds => some ds.length
  | .tuple ds => some ds.length
  | .dict ks => if excL ks = true then none else some ks.length
  | _ => none
@[simp] def bLen : List Val → Option Val
  | [v] => (lenD v.d).map fun n => .s (.int n)
  | _ => none
theorem Dp.lenV {H : Hp} {x : V} {d : D} {n : Nat} (h : Dp K H x d) (e : lenD d = some n) : LenV K x H n := by
  cases h with
  | str x =>
    simp only [lenD] at e
    split at e
    · rename_i hl
      cases e
      exact ⟨lineOk_ok hl, rfl⟩
    · cases e
  | lst h t => cases e; exact .inl ⟨_, .inl h, t.length.symm⟩
  | tup h t => cases e; exact .inr ⟨_, h, t.length.symm⟩
  | @scr a ns h =>
    simp only [lenD] at e
    rw [excL_scr, if_neg Bool.false_ne_true] at e
    cases e
    exact .inl ⟨_, h, by rw [List.length_map, List.length_map]⟩
  | exc _ _ => cases e
  | _ => cases e
theorem cr_len : CRD K (fun xs H Q => ∃ x n, xs = [x] ∧ LenV K x H n ∧ Q (.int n) H) bLen := fun Z σ ρ H0 H xs vs v Q I s hv e q => by
  unfold bLen at e
  split at e
  · rename_i u
    obtain ⟨x, rfl, h⟩ := hv.one
    cases e1 : lenD u.d with
    | none => rw [e1] at e; cases e
    | some n =>
      rw [e1] at e
      cases e
      exact ⟨x, n, rfl, (Dp.same hide_sub (h.dp I)).lenV e1, q _ H (Same.refl _) (.int _)⟩
  · cases e
@[simp] def bInt : List Val → Option Val
  | [v] => match v.d with
    | .int i => some (.s (.int i))
    | .bool b => some (.s (.int (if b then 1 else 0)))
    | _ => none
  | _ => none
theorem cr_int : CRD K (fun xs H Q => (∃ i, xs = [.int i] ∧ Q (.int i) H) ∨ ∃ k, xs = [.bl k] ∧ Q (.int (if k then 1 else 0)) H) bInt := fun Z σ ρ H0 H xs vs v Q I s hv e q => by
  unfold bInt at e
  split at e
  · rename_i u
    obtain ⟨x, rfl, h⟩ := hv.one
    split at e
    · rename_i i e1
      cases e
      exact .inl ⟨i, by rw [h.int_inv I e1], q _ H (Same.refl _) (.int _)⟩
    · rename_i i e1
      cases e
      exact .inr ⟨i, by rw [h.bl_inv I e1], q _ H (Same.refl _) (.int _)⟩
    · cases e
  · cases e
@[simp] def bAbs : List Val → Option Val
  | [v] => match v.d with
    | .int i => some (.s (.int (if i < 0 then -i else i)))
    | _ => none
  | _ => none
theorem cr_abs : CRD K (fun xs H Q => ∃ i, xs = [.int i] ∧ Q (.int (if i < 0 then -i else i)) H) bAbs := fun Z σ ρ H0 H xs vs v Q I s hv e q => by
  unfold bAbs at e
  split at e
  · rename_i u
    obtain ⟨x, rfl, h⟩ := hv.one
    split at e
    · rename_i i e1
      cases e
      exact ⟨i, by rw [h.int_inv I e1], q _ H (Same.refl _) (.int _)⟩
    · cases e
  · cases e
@[simp] def bMin : List Val → Option Val
  | [v, u] => match v.d, u.d with
    | .int i, .int j => some (.s (.int (if j < i then j else i)))
    | _, _ => none
  | _ => none
theorem cr_min2 : CRD K (fun xs H Q => ∃ i j, xs = [.int i, .int j] ∧ Q (.int (if j < i then j else i)) H) bMin := fun Z σ ρ H0 H xs vs v Q I s hv e q => by
  unfold bMin at e
  split at e
  · rename_i u w
    obtain ⟨x, y, rfl, h, h2⟩ := hv.two
    split at e
    · rename_i i j e1 e2
      cases e
      exact ⟨i, j, by rw [h.int_inv I e1, h2.int_inv I e2], q _ H (Same.refl _) (.int _)⟩
    · cases e
  · cases e
@[simp] def bMax : List Val → Option Val
  | [v, u] => match v.d, u.d with
    | .int i, .int j => some (.s (.int (if j > i then j else i)))
    | _, _ => none
  | _ => none
theorem cr_max2 : CRD K (fun xs H Q => ∃ i j, xs = [.int i, .int j] ∧ Q (.int (if j > i then j else i)) H) bMax := fun Z σ ρ H0 H xs vs v Q I s hv e q => by
  unfold bMax at e
  split at e
  · rename_i u w
    obtain ⟨x, y, rfl, h, h2⟩ := hv.two
    split at e
    · rename_i i j e1 e2
      cases e
      exact ⟨i, j, by rw [h.int_inv I e1, h2.int_inv I e2], q _ H (Same.refl _) (.int _)⟩
    · cases e
  · cases e
/-- list(xs) of a list or a tuple: a new list -/
@[simp] def Val.seq : Val → Option (List D)
  | .s (.tuple ds) => some ds
  | .m (.tuple ds) => if ds.all scalarD = true then some ds else none
  | v => v.items
theorem VOk.seq {Z : Addr → Prop} {σ : St} {ρ : Rho} {H0 H : Hp} {x : V} {a : Val} {ds : List D} (I : DI K Z H0 σ ρ) (e : a.seq = some ds) (h : VOk K Z σ ρ H0 H x a) : ∃ p xs, x = .ref p ∧ (SqL K H p xs ∨ SqT K H p xs) ∧ DpAll K (hide H (Zo Z σ ρ)) xs ds := by
  have go : a.items = some ds → ∃ p xs, x = .ref p ∧ (SqL K H p xs ∨ SqT K H p xs) ∧ DpAll K (hide H (Zo Z σ ρ)) xs ds := fun e => by
    obtain ⟨p, xs, e1, e2, e3⟩ := h.items I e
    exact ⟨p, xs, e1, .inl (.inl e2), e3⟩
  unfold Val.seq at e
  split at e
  · rename_i ys
    cases e
    obtain ⟨p, xs, rfl, h1, h2⟩ := Dp.tup_inv (show Dp K (hide H (Zo Z σ ρ)) x (.tuple ds) from h)
    exact ⟨p, xs, rfl, .inr (SqT.same hide_sub h1), h2⟩
  · rename_i ys
    split at e
    · rename_i sc
      cases e
      obtain ⟨p, xs, rfl, h1, h2⟩ := Dp.tup_inv (show Dp K (hide H Z) x (.tuple ds) from h)
      exact ⟨p, xs, rfl, .inr (SqT.same hide_sub h1), DpAll.scalar sc h2⟩
    · cases e
  · exact go e
@[simp] def bList : List Val → Option Val
  | [v] => v.seq.map .f
  | _ => none
theorem cr_list : CRD K (fun xs H Q => ∃ p ys, xs = [.ref p] ∧ (SqL K H p ys ∨ SqT K H p ys) ∧ ∀ l, H l = none → Q (.ref l) (upd H l (.lst ys))) bList := fun Z σ ρ H0 H xs vs v Q I s hv e q => by
  unfold bList at e
  split at e
  · rename_i u
    obtain ⟨x, rfl, h⟩ := hv.one
    cases e1 : u.seq with
    | none => rw [e1] at e; cases e
    | some ds =>
      rw [e1] at e
      cases e
      obtain ⟨p, ys, rfl, h1, h2⟩ := h.seq I e1
      exact ⟨p, ys, rfl, h1, fun l nl => q _ _ (same_upd nl) (VOk.new s nl h2)⟩
  · cases e
def intsD : List D → Option (List Int)
  | [] => some []
  | .int i :: r => (intsD r).map (i :: ·)
  | _ => none
theorem intsD_map : ∀ (ns : List Int), intsD (ns.map PyData.int) = some ns
  | [] => rfl
  | n :: ns => by
    show (intsD (ns.map PyData.int)).map (n :: ·) = some (n :: ns)
    rw [intsD_map ns]
    rfl
theorem intsD_eq : ∀ {ds : List D} {ns : List Int}, intsD ds = some ns → ds = ns.map PyData.int
  | [], _, e => by cases e; rfl
  | .int i :: r, ns, e => by
    have e' : (intsD r).map (i :: ·) = some ns := e
    cases h : intsD r with
    | none => rw [h] at e'; cases e'
    | some ms =>
      rw [h] at e'
      cases e'
      rw [intsD_eq h]
      rfl
@[simp] def bSum : List Val → Option Val
  | [v] => match v.d with
    | .list ds => (intsD ds).map fun ns => .s (.int ns.sum)
    | _ => none
  | _ => none
theorem cr_sumD : CRD K (rSum K) bSum := fun Z σ ρ H0 H xs vs v Q I s hv e q => by
  unfold bSum at e
  split at e
  · rename_i u
    obtain ⟨x, rfl, h⟩ := hv.one
    split at e
    · rename_i ds e1
      cases e2 : intsD ds with
      | none => rw [e2] at e; cases e
      | some ns =>
        rw [e2] at e
        cases e
        have h1 := Dp.same hide_sub (h.dp I)
        rw [e1] at h1
        obtain ⟨p, ys, rfl, h2, h3⟩ := h1.lst_inv
        rw [intsD_eq e2] at h3
        have e3 := h3.ints
        subst e3
        exact ⟨p, ns, rfl, .inl h2, q _ H (Same.refl _) (.int _)⟩
    · cases e
  · cases e

/-! ### isinstance against a built-in type -/
@[simp] def tyN : D → String
  | .none => "NoneType" | .bool _ => "bool" | .int _ => "int" | .str _ => "str" | .list _ => "list" | .tuple _ => "tuple" | .dict _ => "list"
@[simp] def isTy (T : String) (d : D) : Bool := T == tyN d || (T == "int" && tyN d == "bool")
def tyK (T : String) : Bool := T == "bool" || (T == "int" || (T == "str" || (T == "list" || T == "tuple")))
@[simp] def gIsi (T : String) (v : Val) : Option Val := if excV v.d = true then none else some (.s (.bool (isTy T v.d)))
theorem kit_all {T : String} {d : D} (h : T = "bool" ∨ T = "int" ∨ T = "str" ∨ T = "list" ∨ T = "tuple") : PySem.W.kitOne K (.type (tyN d)) (.type T) = some (isTy T d) := by
  refine kit_ty ?_
  rcases h with rfl | rfl | rfl | rfl | rfl <;> cases d <;> first | decide +kernel | rfl
theorem Dp.tyx {H : Hp} {x : V} {d : D} (n : ¬ excV d = true) (h : Dp K H x d) : TyX K H x (.type (tyN d)) := by
  cases h with
  | non => exact .base .non
  | bl b => exact .base (.bl b)
  | int i => exact .base (.int i)
  | str x => exact .base (.str x)
  | lst h t =>
    rcases h with h | ⟨o, h⟩
    · exact .base (.lst h)
    · exact .base (.frz h)
  | tup h t =>
    rcases h with (h | ⟨o, h⟩) | ⟨o, its, n, h, c, _⟩
    · exact .base (.tup h)
    · exact .fTuple h
    · exact .kTuple h c
  | scr h =>
    rcases h with (h | ⟨o, h⟩) | ⟨o, its, n, h, c, _⟩
    · exact .base (.lst h)
    · exact .base (.frz h)
    · exact .kList h c
  | exc _ _ => exact absurd rfl n
theorem de_isi {T : String} {y : Str} {q : Pos} {x : Str} (hx : x = "isinstance") (hm : X.mg x = none) (hy : X.mg y = none) (hT : bootBuiltins y = some (.type T)) (hk : T = "bool" ∨ T = "int" ∨ T = "str" ∨ T = "list" ∨ T = "tuple") (ha : DE X Cl W e f) (hg : Gl X x := by rfl) (hgy : Gl X y := by rfl) (hn : y ≠ "__name__" := by decide) (hdb : (y == ("__debug__" : Str)) = false := by decide)
    (hs : starEach [e, .Name y q] X.env = (false, eval e X.env) :: starEach [.Name y q] X.env := by rfl) (hs2 : starEach [.Name y q] X.env = (false, eval (.Name y q) X.env) :: starEach [] X.env := by rfl) (hpl : (backTo pos (starEach [.Name y q] X.env)).any (·.1) = false := by rfl) :
    DE X Cl W (.Call (.Name x p) [e, .Name y q] [] pos) (e1 (gIsi T) f) := by
  subst hx
  refine PE.imp (pe_callB call_isi hg hm PyProof.Rows.boot_isinstance (pa_cons ha (pa_cons (pe_bltn (v := .ty T) hgy hy hT rfl hn hdb) pa_nil hs2) hs) (by decide) (by decide) hs hpl) fun σ H Q ⟨Z, ρ, r1, I, e, q⟩ => ?_
  refine te_bind I e q fun v x H1 _ h1 s1 hv I1 q1 => ?_
  unfold gIsi at h1
  split at h1
  · cases h1
  rename_i n
  cases h1
  exact ⟨x, .ty T, _, _, _, rfl, .ty T, (Dp.same hide_sub (hv.dp I)).tyx n, kit_all hk, q _ H1 s1 (.bl _)⟩

/-! ### displays -/
@[simp] def eLst (g : FA) (ρ : Rho) : Option (Except Er Val) := match g ρ with
  | none => none
  | some (.error e) => some (.error e)
  | some (.ok vs) => if lineOk vs.length = true then match stAll vs with
    | some ds => some (.ok (.f ds))
    | none => some (.ok (.m (.list (vs.map Val.d)))) else none
@[simp] def eTup (g : FA) (ρ : Rho) : Option (Except Er Val) := match g ρ with
  | none => none
  | some (.error e) => some (.error e)
  | some (.ok vs) => if lineOk vs.length = true then match stAll vs with
    | some ds => some (.ok (.s (.tuple ds)))
    | none => some (.ok (.m (.tuple (vs.map Val.d)))) else none
theorem Paired.len {α β : Type} {F : α → β → Prop} {l₁ : List α} {l₂ : List β} (h : Paired F l₁ l₂) : l₁.length = l₂.length := Paired.length h
theorem de_lst (h : DA X Cl W es g) : DE X Cl W (.List es pos) (eLst g) := PE.imp (pe_lst h) fun σ H Q ⟨Z, ρ, r1, I, e, q⟩ => by
  unfold eLst at e
  cases e1 : g ρ with
  | none => rw [e1] at e; cases e
  | some r2 =>
    refine ta_step I e1 (fun er z => ?_) fun vs xs H1 ev s1 hvs I1 => ?_
    · rw [e1, z] at e
      cases e
      exact q
    · subst ev
      rw [e1] at e
      dsimp only at e
      split at e
      · rename_i hl
        refine ⟨by rw [Paired.len hvs]; exact lineOk_ok hl, fun p np => ?_⟩
        cases e2 : stAll vs with
        | some ds =>
          rw [e2] at e
          cases e
          exact q _ _ (s1.trans (same_upd np)) (VOk.new s1 np (hvs.stab I e2))
        | none =>
          rw [e2] at e
          cases e
          have nz : ¬ Z p := fun z => I1.live p z np
          refine q _ _ (s1.trans (same_upd np)) ?_
          exact .lst (Rd.of (hide_at nz upd_same)) (DpAll.same (hide_mono (same_upd np) fun _ h => .inl h) (hvs.dp I))
      · cases e
theorem de_tup {x1} (h : DA X Cl W es g) : DE X Cl W (.Tuple es x1 pos) (eTup g) := PE.imp (pe_tup h) fun σ H Q ⟨Z, ρ, r1, I, e, q⟩ => by
  unfold eTup at e
  cases e1 : g ρ with
  | none => rw [e1] at e; cases e
  | some r2 =>
    refine ta_step I e1 (fun er z => ?_) fun vs xs H1 ev s1 hvs I1 => ?_
    · rw [e1, z] at e
      cases e
      exact q
    · subst ev
      rw [e1] at e
      dsimp only at e
      split at e
      · rename_i hl
        refine ⟨by rw [Paired.len hvs]; exact lineOk_ok hl, fun p np => ?_⟩
        cases e2 : stAll vs with
        | some ds =>
          rw [e2] at e
          cases e
          have nz : ¬ Zo Z σ ρ p := fun z => I1.liveZ z np
          refine q _ _ (s1.trans (same_upd np)) ?_
          exact .tup (SqT.of (hide_at nz upd_same)) (DpAll.same (hide_mono (same_upd np) fun _ h => .inl h) (hvs.stab I e2))
        | none =>
          rw [e2] at e
          cases e
          have nz : ¬ Z p := fun z => I1.live p z np
          refine q _ _ (s1.trans (same_upd np)) ?_
          exact .tup (SqT.of (hide_at nz upd_same)) (DpAll.same (hide_mono (same_upd np) fun _ h => .inl h) (hvs.dp I))
      · cases e

/-! ### places and slices -/
theorem Dp.scr_inv {H : Hp} {x : V} {ks : List (D × D)} (n : ¬ excL ks = true) (h : Dp K H x (.dict ks)) : ∃ (a : Addr) (ns : List Int), x = .ref a ∧ ks = (ns.map fun n => (.int n, .none)) ∧ SqL K H a (ns.map V.int) := by
  cases h with
  | scr h => exact ⟨_, _, rfl, rfl, h⟩
  | exc _ _ => exact absurd rfl n
theorem SqL.same' {H H' : Hp} {a : Addr} {xs : List V} (s : Same H H') (h : SqL K H a xs) : SqL K H' a xs := s.seq h
def strAt (x : Str) (i : Int) : Option D := (atI x.cps.toList i).map fun c => .str ⟨#[c]⟩
@[simp] def gIx (a b : Val) : Option Val := match b.d with
  | .int i => match a with
    | .s (.list ds) => (atI ds i).map .s
    | .s (.tuple ds) => (atI ds i).map .s
    | .s (.str x) => if lineOk x.length = true then (strAt x i).map .s else none
    | .s (.dict ks) => if excL ks = true then none else (atI ks i).map fun p => .s p.1
    | .m (.list ds) => (atI ds i).map .m
    | .m (.tuple ds) => (atI ds i).map .m
    | .b ds => (atI ds i).map .s
    | .f ds => (atI ds i).map .s
    | _ => none
  | _ => none
theorem atI_pair {H : Hp} {xs : List V} {ds : List D} {i : Int} {d : D} (h : DpAll K H xs ds) (e : atI ds i = some d) : ∃ v, atI xs i = some v ∧ Dp K H v d := by
  unfold atI at e ⊢
  rw [h.length]
  cases e1 : ixN ds.length i with
  | none => rw [e1] at e; cases e
  | some j =>
    rw [e1] at e
    obtain ⟨v, h1, h2⟩ := h.get (show ds[j]? = some d from e)
    exact ⟨v, h1, h2⟩
theorem r2_ix : R2D K (rIx K) gIx := fun Z σ ρ H0 H x y a b v Q I s ha hb e q => by
  unfold gIx at e
  split at e
  · rename_i i e1
    have ey := hb.int_inv I e1
    subst ey
    have L : ∀ {Hh : Hp} {ds : List D} {d : D}, Same Hh H → Dp K Hh x (.list ds) → atI ds i = some d → (∀ z, Dp K Hh z d → Q z H) → rIx K x (.int i) H Q := fun {Hh ds d} sh h e q => by
      obtain ⟨p, xs, rfl, h1, h2⟩ := h.lst_inv
      obtain ⟨z, e2, hz⟩ := atI_pair h2 e
      exact .inl ⟨p, xs, i, z, rfl, rfl, .inl (Rd.same sh h1), e2, q z hz⟩
    have T : ∀ {Hh : Hp} {ds : List D} {d : D}, Same Hh H → Dp K Hh x (.tuple ds) → atI ds i = some d → (∀ z, Dp K Hh z d → Q z H) → rIx K x (.int i) H Q := fun {Hh ds d} sh h e q => by
      obtain ⟨p, xs, rfl, h1, h2⟩ := h.tup_inv
      obtain ⟨z, e2, hz⟩ := atI_pair h2 e
      exact .inr (.inl ⟨p, xs, i, z, rfl, rfl, SqT.same sh h1, e2, q z hz⟩)
    split at e
    · rename_i ds
      cases e2 : atI ds i with
      | none => rw [e2] at e; cases e
      | some d => rw [e2] at e; cases e; exact L hide_sub (show Dp K (hide H (Zo Z σ ρ)) x (.list ds) from ha) e2 fun z hz => q z H (Same.refl _) hz
    · rename_i ds
      cases e2 : atI ds i with
      | none => rw [e2] at e; cases e
      | some d => rw [e2] at e; cases e; exact T hide_sub (show Dp K (hide H (Zo Z σ ρ)) x (.tuple ds) from ha) e2 fun z hz => q z H (Same.refl _) hz
    · rename_i t
      split at e
      · rename_i hl
        unfold strAt at e
        cases e2 : atI t.cps.toList i with
        | none => rw [e2] at e; cases e
        | some c =>
          rw [e2] at e
          cases e
          exact .inr (.inr ⟨t, i, c, (show Dp K (hide H (Zo Z σ ρ)) x (.str t) from ha).str_inv, rfl, lineOk_ok hl, e2, q _ H (Same.refl _) (.str _)⟩)
      · cases e
    · rename_i ks
      split at e
      · cases e
      rename_i nx
      cases e2 : atI ks i with
      | none => rw [e2] at e; cases e
      | some p =>
        rw [e2] at e
        cases e
        obtain ⟨a, ns, rfl, rfl, h1⟩ := (show Dp K (hide H (Zo Z σ ρ)) x (.dict ks) from ha).scr_inv nx
        have e3 : atI (ns.map V.int) i = some (toV p.1) ∧ ∃ n, p.1 = .int n := by
          unfold atI at e2 ⊢
          rw [List.length_map] at e2 ⊢
          cases e4 : ixN ns.length i with
          | none => rw [e4] at e2; cases e2
          | some j =>
            rw [e4] at e2
            have e5 : (ns.map fun n => ((PyData.int n, PyData.none) : D × D))[j]? = some p := e2
            show (ns.map V.int)[j]? = _ ∧ _
            rw [List.getElem?_map] at e5 ⊢
            cases e6 : ns[j]? with
            | none => rw [e6] at e5; cases e5
            | some n =>
              rw [e6] at e5
              cases e5
              exact ⟨rfl, n, rfl⟩
        obtain ⟨e4, n, en⟩ := e3
        refine .inl ⟨a, _, i, _, rfl, rfl, SqL.same' hide_sub h1, e4, q _ H (Same.refl _) ?_⟩
        show Dp K _ (toV p.1) p.1
        rw [en]
        exact .int n
    · rename_i ds
      cases e2 : atI ds i with
      | none => rw [e2] at e; cases e
      | some d => rw [e2] at e; cases e; exact L hide_sub (show Dp K (hide H Z) x (.list ds) from ha) e2 fun z hz => q z H (Same.refl _) hz
    · rename_i ds
      cases e2 : atI ds i with
      | none => rw [e2] at e; cases e
      | some d => rw [e2] at e; cases e; exact T hide_sub (show Dp K (hide H Z) x (.tuple ds) from ha) e2 fun z hz => q z H (Same.refl _) hz
    · rename_i ds
      cases e2 : atI ds i with
      | none => rw [e2] at e; cases e
      | some d =>
        rw [e2] at e
        cases e
        obtain ⟨p, xs, rfl, n, h1, h2⟩ := ha
        obtain ⟨z, e3, hz⟩ := atI_pair h2 e2
        exact .inl ⟨p, xs, i, z, rfl, rfl, SqL.of h1, e3, q z H (Same.refl _) hz⟩
    · rename_i ds
      cases e2 : atI ds i with
      | none => rw [e2] at e; cases e
      | some d =>
        rw [e2] at e
        cases e
        obtain ⟨p, xs, rfl, n, h1, h2⟩ := ha
        obtain ⟨z, e3, hz⟩ := atI_pair h2 e2
        exact .inl ⟨p, xs, i, z, rfl, rfl, SqL.of h1, e3, q z H (Same.refl _) (Dp.same (hide_mono (Same.refl _) fun _ h => .inl (.inl h)) hz)⟩
    · cases e
  · cases e
theorem de_ix (ha : DE X Cl W a fa) (hb : DE X Cl W b fb) (hs : PlainIx b := by exact fun _ _ => rfl) : DE X Cl W (.Subscript a b pos) (e2 gIx fa fb) := de_tOp (pe_ix ix_seq ha hb hs) r2_ix
/-- an end of a slice -/
abbrev FO := Rho → Option (Except Er (Option Int))
def toOf (K : PySem.W.Frag) (Cl : Nat → Addr) (W : WX) (f : FO) : TO := fun σ H Q => ∃ Z ρ r, DI K Z H σ ρ ∧ f ρ = some r ∧ match r with
  | .ok o => ∀ H', Same H H' → Q o H'
  | .error e => ErOk Cl W σ H e
@[simp] def oNone (ρ : Rho) : Option (Except Er (Option Int)) := some (.ok none)
@[simp] def oSome (f : FE) (ρ : Rho) : Option (Except Er (Option Int)) := match f ρ with
  | none => none
  | some (.error e) => some (.error e)
  | some (.ok v) => match v.d with
    | .int i => some (.ok (some i))
    | _ => none
def DO (X : Cx) (Cl : Nat → Addr) (W : WX) (e : Option Expr) (f : FO) : Prop := PO X e (toOf X.K Cl W f)
theorem PO.imp {e : Option Expr} {t t' : TO} (h : PO X e t) (i : ∀ σ H Q, t' σ H Q → t σ H Q) : PO X e t' := ⟨fun pins s σ H Q I q => h.run pins s σ H Q I (i σ H Q q)⟩
theorem do_none : DO X Cl W none oNone := PO.imp po_none fun σ H Q ⟨Z, ρ, r, I, e, q⟩ => by cases e; exact q H (Same.refl _)
theorem do_some (h : DE X Cl W e f) : DO X Cl W (some e) (oSome f) := PO.imp (po_some h) fun σ H Q ⟨Z, ρ, r, I, e, q⟩ => by
  unfold oSome at e
  cases e1 : f ρ with
  | none => rw [e1] at e; cases e
  | some r1 =>
    refine te_step I e1 (fun er z => ?_) fun v x H1 ev s1 hv I1 => ?_
    · rw [e1, z] at e
      cases e
      exact q
    · subst ev
      rw [e1] at e
      dsimp only at e
      split at e
      · rename_i i e2
        cases e
        exact ⟨i, hv.int_inv I e2, q H1 s1⟩
      · cases e
/-- the items of xs[lo:hi], of any things -/
def cutL {α : Type} (xs : List α) (lo hi : Option Int) : List α := (xs.drop (HT.sIx xs.length 0 lo)).take (HT.sIx xs.length xs.length hi - HT.sIx xs.length 0 lo)
theorem cutL_V (xs : List V) (lo hi : Option Int) : cutL xs lo hi = cutV xs lo hi := rfl
theorem cutL_dp {H : Hp} {xs : List V} {ds : List D} {lo hi : Option Int} (h : DpAll K H xs ds) : DpAll K H (cutV xs lo hi) (cutL ds lo hi) := by
  unfold cutV cutL
  rw [h.length]
  exact (h.drop _).take _
def whole (n : Nat) (lo hi : Option Int) : Bool := decide (HT.sIx n 0 lo = 0 ∧ HT.sIx n n hi = n)
@[simp] def gSl (v : Val) (lo hi : Option Int) : Option Val := match v with
  | .s (.tuple ds) => if whole ds.length lo hi = true then none else some (.s (.tuple (cutL ds lo hi)))
  | .m (.tuple ds) => if whole ds.length lo hi = true then none else some (.m (.tuple (cutL ds lo hi)))
  | v => match v.items with
    | some ds => some (.f (cutL ds lo hi))
    | none => none
@[simp] def eSl (f : FE) (l h : FO) (ρ : Rho) : Option (Except Er Val) := match f ρ with
  | none => none
  | some (.error e) => some (.error e)
  | some (.ok v) => match l ρ with
    | none => none
    | some (.error e) => some (.error e)
    | some (.ok lo) => match h ρ with
      | none => none
      | some (.error e) => some (.error e)
      | some (.ok hi) => (gSl v lo hi).map .ok
theorem de_sl {lo hi : Option Expr} {l h : FO} {p2 : Pos} (he : DE X Cl W e f) (hl : DO X Cl W lo l) (hh : DO X Cl W hi h) : DE X Cl W (.Subscript e (.Slice lo hi none p2) pos) (eSl f l h) := PE.imp (pe_slice (sl_list.or sl_tup) he hl hh) fun σ H Q ⟨Z, ρ, r, I, e, q⟩ => by
  unfold eSl at e
  cases e1 : f ρ with
  | none => rw [e1] at e; cases e
  | some r1 =>
    refine te_step I e1 (fun er z => ?_) fun v x H1 ev s1 hv I1 => ?_
    · rw [e1, z] at e
      cases e
      exact q
    · subst ev
      rw [e1] at e
      dsimp only at e
      cases e2 : l ρ with
      | none => rw [e2] at e; cases e
      | some r2 =>
        refine ⟨Z, ρ, r2, I1, e2, ?_⟩
        cases r2 with
        | error er =>
          rw [e2] at e
          cases e
          exact ErOk.same s1 q
        | ok o1 =>
          rw [e2] at e
          dsimp only at e
          intro H2 s2
          have I2 := I1.same s2
          cases e3 : h ρ with
          | none => rw [e3] at e; cases e
          | some r3 =>
            refine ⟨Z, ρ, r3, I2, e3, ?_⟩
            cases r3 with
            | error er =>
              rw [e3] at e
              cases e
              exact ErOk.same (s1.trans s2) q
            | ok o2 =>
              rw [e3] at e
              dsimp only at e
              intro H3 s3
              have hv3 := hv.same (s2.trans s3)
              have I3 := I2.same s3
              have s13 := s1.trans (s2.trans s3)
              cases e4 : gSl v o1 o2 with
              | none => rw [e4] at e; cases e
              | some w =>
                rw [e4] at e
                cases e
                unfold gSl at e4
                split at e4
                · rename_i ds
                  split at e4
                  · cases e4
                  · rename_i hw
                    cases e4
                    obtain ⟨p, xs, rfl, h1, h2⟩ := Dp.tup_inv (show Dp X.K (hide H3 (Zo Z σ ρ)) x (.tuple ds) from hv3)
                    refine .inr ⟨p, xs, rfl, SqT.same hide_sub h1, fun z => hw (decide_eq_true (by rw [h2.length] at z; exact z)), fun a na => ?_⟩
                    have nz : ¬ Zo Z σ ρ a := fun z => I3.liveZ z na
                    refine q _ _ (s13.trans (same_upd na)) ?_
                    exact .tup (SqT.of (hide_at nz upd_same)) (DpAll.same (hide_mono (same_upd na) fun _ h => .inl h) (cutL_dp h2))
                · rename_i ds
                  split at e4
                  · cases e4
                  · rename_i hw
                    cases e4
                    obtain ⟨p, xs, rfl, h1, h2⟩ := Dp.tup_inv (show Dp X.K (hide H3 Z) x (.tuple ds) from hv3)
                    refine .inr ⟨p, xs, rfl, SqT.same hide_sub h1, fun z => hw (decide_eq_true (by rw [h2.length] at z; exact z)), fun a na => ?_⟩
                    have nz : ¬ Z a := fun z => I3.live a z na
                    refine q _ _ (s13.trans (same_upd na)) ?_
                    exact .tup (SqT.of (hide_at nz upd_same)) (DpAll.same (hide_mono (same_upd na) fun _ h => .inl h) (cutL_dp h2))
                · split at e4
                  · rename_i ds e5
                    cases e4
                    obtain ⟨p, xs, rfl, h1, h2⟩ := hv3.items I e5
                    refine .inl ⟨p, xs, rfl, .inl h1, fun a na => ?_⟩
                    exact q _ _ (s13.trans (same_upd na)) (VOk.new s13 na (cutL_dp h2))
                  · cases e4

/-! ### tests -/
abbrev FT := Rho → Option (Except Er Bool)
def RTk (Cl : Nat → Addr) (W : WX) (σ : St) (H : Hp) (Q : Bool → Hp → Prop) : Except Er Bool → Prop
  | .ok b => ∀ H', Same H H' → Q b H'
  | .error e => ErOk Cl W σ H e
def ttOf (K : PySem.W.Frag) (Cl : Nat → Addr) (W : WX) (f : FT) : TT := fun σ H Q => ∃ Z ρ r, DI K Z H σ ρ ∧ f ρ = some r ∧ RTk Cl W σ H Q r
def DT (X : Cx) (Cl : Nat → Addr) (W : WX) (e : Expr) (f : FT) : Prop := PT X e (ttOf X.K Cl W f)
def DW (X : Cx) (Cl : Nat → Addr) (W : WX) (e : Expr) (f : FT) : Prop := PW X e (ttOf X.K Cl W f)
/-- the value is True or False -/
@[simp] def tV (f : FE) (ρ : Rho) : Option (Except Er Bool) := match f ρ with
  | none => none
  | some (.error e) => some (.error e)
  | some (.ok v) => match v.d with
    | .bool b => some (.ok b)
    | _ => none
theorem te_tV {Z : Addr → Prop} {H : Hp} {σ : St} {ρ : Rho} {Q : Bool → Hp → Prop} {r : Except Er Bool} (I : DI K Z H σ ρ) (e : tV f ρ = some r) (q : RTk Cl W σ H Q r) :
    teOf K Cl W f σ H fun x H1 => ∃ k, x = .bl k ∧ Q k H1 := by
  unfold tV at e
  cases e1 : f ρ with
  | none => rw [e1] at e; cases e
  | some r1 =>
    refine te_step I e1 (fun er z => ?_) fun v x H1 ev s1 hv I1 => ?_
    · rw [e1, z] at e
      cases e
      exact q
    · subst ev
      rw [e1] at e
      dsimp only at e
      split at e
      · rename_i i e2
        cases e
        exact ⟨i, hv.bl_inv I e2, q H1 s1⟩
      · cases e
theorem dt_val (h : DE X Cl W e f) (he : ∀ whole, isTrue e X.env whole = (do let v ← whole; standAt e.pos; holding [v] (truthy v)) := by intro _; rfl) : DT X Cl W e (tV f) := PT.imp (pt_val h he) fun σ H Q ⟨Z, ρ, r, I, e, q⟩ => te_tV I e q
theorem dt_cmp {op : CmpOp} {r : R2} {g : Val → Val → Option Val} (ho : OpR X (compareOp op) r) (hr : R2D X.K r g) (ha : DE X Cl W a fa) (hb : DE X Cl W b fb) (hm : behindInMarks op b = false) : DT X Cl W (.Compare a [op] [b] pos) (tV (e2 g fa fb)) := PT.imp (pt_cmpR ho ha hb hm) fun σ H Q ⟨Z, ρ, r1, I, e, q⟩ => by
  have h := te_tV (W := W) (Cl := Cl) I e q
  obtain ⟨Z', ρ', r', I', e', q'⟩ := h
  refine te_bind I' e' q' fun v x H1 _ h1 s1 hv I1 q1 => te_bind I1 h1 q1 fun u y H2 _ h2 s2 hu I2 q2 => ?_
  cases hg : g v u with
  | none => rw [hg] at h2; cases h2
  | some w =>
    rw [hg] at h2
    cases h2
    exact hr Z' σ ρ' H H2 x y v u w _ I' (s1.trans s2) (hv.same s2) (hu.back s1) hg fun z H' s' hz => q' z H' (s1.trans (s2.trans s')) hz
@[simp] def tAndD (f g : FT) (ρ : Rho) : Option (Except Er Bool) := match f ρ with
  | some (.ok true) => g ρ
  | r => r
@[simp] def tOrD (f g : FT) (ρ : Rho) : Option (Except Er Bool) := match f ρ with
  | some (.ok false) => g ρ
  | r => r
@[simp] def tNotD (f : FT) (ρ : Rho) : Option (Except Er Bool) := match f ρ with
  | some (.ok b) => some (.ok (!b))
  | r => r
theorem tt_step {Z : Addr → Prop} {H : Hp} {σ : St} {ρ : Rho} {Q1 : Bool → Hp → Prop} {f : FT} {r : Except Er Bool} (I : DI K Z H σ ρ) (h : f ρ = some r) (he : ∀ e, r = .error e → ErOk Cl W σ H e)
    (go : ∀ b H1, r = .ok b → Same H H1 → DI K Z H1 σ ρ → Q1 b H1) : ttOf K Cl W f σ H Q1 := by
  refine ⟨Z, ρ, r, I, h, ?_⟩
  cases r with
  | error e => exact he e rfl
  | ok b => exact fun H1 s => go b H1 rfl s (I.same s)
variable {ta tb : FT} {rest : List Expr}
theorem dw_and1 (ha : DT X Cl W a ta) : DW X Cl W (.BoolOp .And [a] pos) ta := pw_and1 ha
theorem dw_or1 (ha : DT X Cl W a ta) : DW X Cl W (.BoolOp .Or [a] pos) ta := pw_or1 ha
theorem dw_and (ha : DT X Cl W a ta) (hb : DW X Cl W (.BoolOp .And (b :: rest) pos) tb) : DW X Cl W (.BoolOp .And (a :: b :: rest) pos) (tAndD ta tb) := PW.imp (pw_and ha hb) fun σ H Q ⟨Z, ρ, r, I, e, q⟩ => by
  unfold tAndD at e
  cases e1 : ta ρ with
  | none => rw [e1] at e; cases e
  | some r1 =>
    refine tt_step I e1 (fun er z => ?_) fun b H1 ev s1 I1 => ?_
    · rw [e1, z] at e
      cases e
      exact q
    · subst ev
      rw [e1] at e
      cases b with
      | true =>
        rw [if_pos rfl]
        refine ⟨Z, ρ, r, I1, e, ?_⟩
        cases r with
        | error er => exact ErOk.same s1 q
        | ok b => exact fun H2 s2 => q H2 (s1.trans s2)
      | false =>
        cases e
        exact q H1 s1
theorem dw_or (ha : DT X Cl W a ta) (hb : DW X Cl W (.BoolOp .Or (b :: rest) pos) tb) : DW X Cl W (.BoolOp .Or (a :: b :: rest) pos) (tOrD ta tb) := PW.imp (pw_or ha hb) fun σ H Q ⟨Z, ρ, r, I, e, q⟩ => by
  unfold tOrD at e
  cases e1 : ta ρ with
  | none => rw [e1] at e; cases e
  | some r1 =>
    refine tt_step I e1 (fun er z => ?_) fun b H1 ev s1 I1 => ?_
    · rw [e1, z] at e
      cases e
      exact q
    · subst ev
      rw [e1] at e
      cases b with
      | false =>
        rw [if_neg Bool.false_ne_true]
        refine ⟨Z, ρ, r, I1, e, ?_⟩
        cases r with
        | error er => exact ErOk.same s1 q
        | ok b => exact fun H2 s2 => q H2 (s1.trans s2)
      | true =>
        cases e
        exact q H1 s1
theorem dt_w (h : DW X Cl W e ta) : DT X Cl W e ta := PW.pt h
theorem dt_not (ha : DT X Cl W a ta) : DT X Cl W (.UnaryOp .Not a pos) (tNotD ta) := PT.imp (pt_not ha) fun σ H Q ⟨Z, ρ, r, I, e, q⟩ => by
  unfold tNotD at e
  cases e1 : ta ρ with
  | none => rw [e1] at e; cases e
  | some r1 =>
    refine tt_step I e1 (fun er z => ?_) fun b H1 ev s1 I1 => ?_
    · rw [e1, z] at e
      cases e
      exact q
    · subst ev
      rw [e1] at e
      cases e
      exact q H1 s1
/-- a if t else b -/
@[simp] def eIf (t : FT) (f g : FE) (ρ : Rho) : Option (Except Er Val) := match t ρ with
  | none => none
  | some (.error e) => some (.error e)
  | some (.ok true) => f ρ
  | some (.ok false) => g ρ
theorem de_if (hc : DT X Cl W c ta) (ha : DE X Cl W a fa) (hb : DE X Cl W b fb) : DE X Cl W (.IfExp c a b pos) (eIf ta fa fb) := PE.imp (pe_ifExp hc ha hb) fun σ H Q ⟨Z, ρ, r, I, e, q⟩ => by
  unfold eIf at e
  cases e1 : ta ρ with
  | none => rw [e1] at e; cases e
  | some r1 =>
    refine tt_step I e1 (fun er z => ?_) fun b H1 ev s1 I1 => ?_
    · rw [e1, z] at e
      cases e
      exact q
    · subst ev
      rw [e1] at e
      cases b with
      | true =>
        rw [if_pos rfl]
        exact ⟨Z, ρ, r, I1, e, q.from s1⟩
      | false =>
        rw [if_neg Bool.false_ne_true]
        exact ⟨Z, ρ, r, I1, e, q.from s1⟩
/-- and, or, not as values: True or False -/
@[simp] def eT (t : FT) (ρ : Rho) : Option (Except Er Val) := match t ρ with
  | none => none
  | some (.error e) => some (.error e)
  | some (.ok b) => ok (.bool b)
def eAndV (f g : FE) : FE := bE f fun v ρ => match v.d with
  | .bool true => g ρ
  | .bool false => ok (.bool false)
  | _ => none
def eOrV (f g : FE) : FE := bE f fun v ρ => match v.d with
  | .bool false => g ρ
  | .bool true => ok (.bool true)
  | _ => none
@[simp] def gNotV (v : Val) : Option Val := match v.d with
  | .bool b => some (.s (.bool (!b)))
  | _ => none
theorem de_one {op} (h : DE X Cl W a fa) : DE X Cl W (.BoolOp op [a] pos) fa := pe_one h
theorem de_andV (ha : DE X Cl W a fa) (hb : DE X Cl W (.BoolOp .And (b :: rest) pos) fb) : DE X Cl W (.BoolOp .And (a :: b :: rest) pos) (eAndV fa fb) := PE.imp (pe_and ha hb) fun σ H Q ⟨Z, ρ, r, I, e, q⟩ => by
  refine te_bind I e q fun v x H1 _ h1 s1 hv I1 q1 => ?_
  split at h1
  · rename_i e1
    exact ⟨true, hv.bl_inv I e1, ⟨Z, ρ, r, I1, h1, q1⟩⟩
  · rename_i e1
    cases h1
    exact ⟨false, hv.bl_inv I e1, q1 _ H1 (Same.refl _) (.bl _)⟩
  · cases h1
theorem de_orV (ha : DE X Cl W a fa) (hb : DE X Cl W (.BoolOp .Or (b :: rest) pos) fb) : DE X Cl W (.BoolOp .Or (a :: b :: rest) pos) (eOrV fa fb) := PE.imp (pe_or ha hb) fun σ H Q ⟨Z, ρ, r, I, e, q⟩ => by
  refine te_bind I e q fun v x H1 _ h1 s1 hv I1 q1 => ?_
  split at h1
  · rename_i e1
    exact ⟨false, hv.bl_inv I e1, ⟨Z, ρ, r, I1, h1, q1⟩⟩
  · rename_i e1
    cases h1
    exact ⟨true, hv.bl_inv I e1, q1 _ H1 (Same.refl _) (.bl _)⟩
  · cases h1
theorem de_notV (ha : DE X Cl W a fa) : DE X Cl W (.UnaryOp .Not a pos) (e1 gNotV fa) := PE.imp (pe_not ha) fun σ H Q ⟨Z, ρ, r, I, e, q⟩ => by
  refine te_bind I e q fun v x H1 _ h1 s1 hv I1 q1 => ?_
  unfold gNotV at h1
  split at h1
  · rename_i b e1
    cases h1
    exact ⟨b, hv.bl_inv I e1, q1 _ H1 (Same.refl _) (.bl _)⟩
  · cases h1
end
end DL
set_option Elab.async false
set_option linter.all false
set_option maxRecDepth 100000
set_option maxHeartbeats 4000000
/-! DL4: statements, loops, defs, by data. -/
namespace DL
open PySem PySem.Spec PyProof.Rows L2

/-! ### the state of a def's body -/
inductive Out where
  | nx (ρ : Rho) | ret (d : D) | retF (ds : List D) | retX (ds : List D) (k : Nat) | brk (ρ : Rho) | ct (ρ : Rho) | exc (ρ : Rho) (c : Nat) (i : Int)
abbrev FS := Rho → Option Out
structure SI (K : PySem.W.Frag) (H0 : Hp) (Z : Addr → Prop) (H : Hp) (σ : St) (ρ : Rho) : Prop where
  di : DI K Z H σ ρ
  same : Same H0 H
  new : ∀ a, Owned σ ρ a → H0 a = none
def OOk (K : PySem.W.Frag) (Cl : Nat → Addr) (W : WX) (H0 : Hp) (Z : Addr → Prop) (D : Ends) : Out → Prop
  | .nx ρ => ∀ σ H, SI K H0 Z H σ ρ → D.nx σ H
  | .brk ρ => ∀ σ H, SI K H0 Z H σ ρ → D.bk σ H
  | .ct ρ => ∀ σ H, SI K H0 Z H σ ρ → D.ct σ H
  | .ret d => ∀ v H, Same H0 H → Dp K (hide H Z) v d → D.rt v H
  | .retF ds => ∀ p xs H, Same H0 H → H0 p = none → H p = some (.lst xs) → DpAll K (hide H (ZP Z p)) xs ds → D.rt (.ref p) H
  | .retX ds k => ∀ T p xs ys H, Same H0 H → SqT K (hide H Z) T xs → DpAll K (hide H Z) xs ds → xs[k]? = some (.ref p) → H0 p = none → H p = some (.lst ys) → D.rt (.ref T) H
  | .exc ρ c i => ∀ dd σ H, SI K H0 Z H σ ρ → H dd = some (.xd [(("at" : Str), .int i)]) → W (.ref (Cl c)) (some dd) σ H
def tsOf (K : PySem.W.Frag) (Cl : Nat → Addr) (W : WX) (f : FS) : TS := fun D σ H => ∃ H0 Z ρ o, SI K H0 Z H σ ρ ∧ f ρ = some o ∧ OOk K Cl W H0 Z D o
def DS (X : Cx) (Cl : Nat → Addr) (W : WX) (st : Stmt) (f : FS) : Prop := PS X st (tsOf X.K Cl W f)
def DSs (X : Cx) (Cl : Nat → Addr) (W : WX) (st : List Stmt) (f : FS) : Prop := PSs X st (tsOf X.K Cl W f)
section
variable {K : PySem.W.Frag} {Cl : Nat → Addr} {W : WX} {H0 H1 : Hp} {Z : Addr → Prop} {H H' : Hp} {σ : St} {ρ : Rho} {D : Ends}
theorem SI.same' (I : SI K H0 Z H σ ρ) (s : Same H H') : SI K H0 Z H' σ ρ := ⟨I.di.same s, I.same.trans s, I.new⟩
/-- a later entry heap, for a part of the body -/
theorem SI.rebase (I : SI K H1 Z H σ ρ) (s : Same H0 H1) : SI K H0 Z H σ ρ := ⟨I.di, s.trans I.same, fun a h => s.free (I.new a h)⟩
theorem OOk.rebase {o : Out} (s : Same H0 H1) (h : OOk K Cl W H0 Z D o) : OOk K Cl W H1 Z D o := by
  cases o with
  | nx ρ => exact fun σ H I => h σ H (I.rebase s)
  | brk ρ => exact fun σ H I => h σ H (I.rebase s)
  | ct ρ => exact fun σ H I => h σ H (I.rebase s)
  | ret d => exact fun v H q e => h v H (s.trans q) e
  | retF ds => exact fun p xs H q n e1 e2 => h p xs H (s.trans q) (s.free n) e1 e2
  | retX ds k => exact fun T p xs ys H q e1 e2 e3 n e4 => h T p xs ys H (s.trans q) e1 e2 e3 (s.free n) e4
  | exc ρ c i => exact fun dd σ H I e => h dd σ H (I.rebase s) e
theorem OOk.err {e : Er} (I : SI K H0 Z H σ ρ) (h : OOk K Cl W H0 Z D (.exc ρ e.1 e.2)) : ErOk Cl W σ H e := fun dd H' s hd => h dd σ H' (I.same' s) hd

/-! ### slots change -/
theorem own_sub {i : Nat} {x : Option V} {s : Slot} (hs : ∀ ds, s ≠ .own ds) {j : Nat} {a : Addr} (h : OwnAt (σ.set i x) (ρ.set i s) j a) : OwnAt σ ρ j a := by
  obtain ⟨h1, ds, h2⟩ := h
  by_cases hj : i = j
  · subst hj
    rw [List.getElem?_set] at h2
    rw [if_pos rfl] at h2
    split at h2
    · exact absurd (Option.some.inj h2) (hs ds)
    · cases h2
  · rw [List.getElem?_set_ne hj] at h1 h2
    exact ⟨h1, ds, h2⟩
theorem DI.setS (I : DI K Z H σ ρ) {i : Nat} {x : Option V} {s : Slot} (hs : ∀ ds, s ≠ .own ds) (h : ∀ Hs, Same (hide H (Zo Z σ ρ)) Hs → SlotOk K H Hs (some x) s) : DI K Z H (σ.set i x) (ρ.set i s) := by
  have sub : ∀ a, Owned (σ.set i x) (ρ.set i s) a → Owned σ ρ a := fun a ⟨j, q⟩ => ⟨j, own_sub hs q⟩
  have hm : Same (hide H (Zo Z σ ρ)) (hide H (Zo Z (σ.set i x) (ρ.set i s))) := hide_mono (Same.refl _) fun b hb => .inl (hb.elim .inl fun z => .inr (sub b z))
  refine ⟨by rw [List.length_set, List.length_set]; exact I.len, fun j k a h1 h2 => I.one j k a (own_sub hs h1) (own_sub hs h2), fun a q => I.out a (sub a q), I.live, fun j t e => ?_⟩
  by_cases hj : i = j
  · subst hj
    rw [List.getElem?_set, if_pos rfl] at e
    split at e
    · rename_i hl
      cases e
      rw [List.getElem?_set, if_pos rfl, if_pos (by rw [← I.len]; exact hl)]
      exact h _ hm
    · cases e
  · rw [List.getElem?_set_ne hj] at e ⊢
    have q := I.slots j t e
    cases t with
    | un => trivial
    | dat d =>
      obtain ⟨v, e1, h1⟩ := q
      exact ⟨v, e1, Dp.same hm h1⟩
    | own ds =>
      obtain ⟨a, xs, e1, e2, h1⟩ := q
      exact ⟨a, xs, e1, e2, DpAll.same hm h1⟩
    | err a dd j => exact q
theorem DI.setDat (I : DI K Z H σ ρ) {i : Nat} {v : V} {d : DL.D} (h : Dp K (hide H (Zo Z σ ρ)) v d) : DI K Z H (σ.set i (some v)) (ρ.set i (.dat d)) :=
  I.setS (fun _ z => nomatch z) fun Hs s => ⟨v, rfl, Dp.same s h⟩
theorem DI.setUn (I : DI K Z H σ ρ) {i : Nat} {x : Option V} : DI K Z H (σ.set i x) (ρ.set i .un) := I.setS (fun _ z => nomatch z) fun _ _ => trivial
theorem SI.setDat (I : SI K H0 Z H σ ρ) {i : Nat} {v : V} {d : DL.D} (h : Dp K (hide H (Zo Z σ ρ)) v d) : SI K H0 Z H (σ.set i (some v)) (ρ.set i (.dat d)) :=
  ⟨I.di.setDat h, I.same, fun a ⟨j, q⟩ => I.new a ⟨j, own_sub (s := .dat d) (fun _ z => by cases z) q⟩⟩
theorem SI.setUn (I : SI K H0 Z H σ ρ) {i : Nat} {x : Option V} : SI K H0 Z H (σ.set i x) (ρ.set i .un) :=
  ⟨I.di.setUn, I.same, fun a ⟨j, q⟩ => I.new a ⟨j, own_sub (s := .un) (fun _ z => by cases z) q⟩⟩
theorem own_set {i : Nat} {p : Addr} {es : List DL.D} {j : Nat} {a : Addr} (h : OwnAt (σ.set i (some (.ref p))) (ρ.set i (.own es)) j a) : (i = j ∧ a = p) ∨ (i ≠ j ∧ OwnAt σ ρ j a) := by
  obtain ⟨h1, ds, h2⟩ := h
  by_cases hj : i = j
  · subst hj
    rw [List.getElem?_set, if_pos rfl] at h1
    split at h1
    · cases h1
      exact .inl ⟨rfl, rfl⟩
    · cases h1
  · rw [List.getElem?_set_ne hj] at h1 h2
    exact .inr ⟨hj, h1, ds, h2⟩
theorem DI.setOwn (I : DI K Z H1 σ ρ) (s1 : Same H1 H) {i : Nat} {p : Addr} {xs : List V} {ds : List DL.D} (np : H1 p = none) (hp : H p = some (.lst xs)) (h : DpAll K (hide H (ZP (Zo Z σ ρ) p)) xs ds) : DI K Z H (σ.set i (some (.ref p))) (ρ.set i (.own ds)) := by
  have nz : ¬ Zo Z σ ρ p := fun z => I.liveZ z np
  have no : ∀ j, ¬ OwnAt σ ρ j p := fun j q => nz (.inr ⟨j, q⟩)
  have sub : ∀ b, Zo Z (σ.set i (some (.ref p))) (ρ.set i (.own ds)) b → ZP (Zo Z σ ρ) p b := fun b hb => by
    rcases hb with hb | ⟨j, q⟩
    · exact .inl (.inl hb)
    · rcases own_set q with ⟨_, e⟩ | ⟨_, q⟩
      · exact .inr e
      · exact .inl (.inr ⟨j, q⟩)
  have hm : Same (hide H (ZP (Zo Z σ ρ) p)) (hide H (Zo Z (σ.set i (some (.ref p))) (ρ.set i (.own ds)))) := hide_mono (Same.refl _) fun b hb => .inl (sub b hb)
  have hm1 : Same (hide H1 (Zo Z σ ρ)) (hide H (Zo Z (σ.set i (some (.ref p))) (ρ.set i (.own ds)))) := hide_mono s1 fun b hb => by
    rcases sub b hb with z | rfl
    · exact .inl z
    · exact .inr np
  have I' := I.same s1
  refine ⟨by rw [List.length_set, List.length_set]; exact I.len, fun j k a h1 h2 => ?_, fun a ⟨j, q⟩ => ?_, I'.live, fun j t e => ?_⟩
  · rcases own_set h1 with ⟨e1, e2⟩ | ⟨n1, q1⟩
    · rcases own_set h2 with ⟨e3, e4⟩ | ⟨n2, q2⟩
      · rw [← e1, ← e3]
      · rw [e2] at q2
        exact absurd q2 (no k)
    · rcases own_set h2 with ⟨e3, e4⟩ | ⟨n2, q2⟩
      · rw [e4] at q1
        exact absurd q1 (no j)
      · exact I.one j k a q1 q2
  · rcases own_set q with ⟨_, e⟩ | ⟨_, q⟩
    · rw [e]
      exact fun z => nz (.inl z)
    · exact I.out a ⟨j, q⟩
  · by_cases hj : i = j
    · subst hj
      rw [List.getElem?_set, if_pos rfl] at e
      split at e
      · rename_i hl
        cases e
        rw [List.getElem?_set, if_pos rfl, if_pos (by rw [← I.len]; exact hl)]
        exact ⟨p, xs, rfl, hp, DpAll.same hm h⟩
      · cases e
    · rw [List.getElem?_set_ne hj] at e ⊢
      have q := I.slots j t e
      cases t with
      | un => trivial
      | dat d =>
        obtain ⟨v, e1, h1⟩ := q
        exact ⟨v, e1, Dp.same hm1 h1⟩
      | own es =>
        obtain ⟨a, ys, e1, e2, h1⟩ := q
        exact ⟨a, ys, e1, s1 _ _ e2, DpAll.same hm1 h1⟩
      | err a dd j => exact ⟨q.1, s1 _ _ q.2⟩
theorem SI.setOwn (I : SI K H0 Z H1 σ ρ) (s1 : Same H1 H) {i : Nat} {p : Addr} {xs : List V} {ds : List DL.D} (np : H1 p = none) (hp : H p = some (.lst xs)) (h : DpAll K (hide H (ZP (Zo Z σ ρ) p)) xs ds) : SI K H0 Z H (σ.set i (some (.ref p))) (ρ.set i (.own ds)) := by
  refine ⟨I.di.setOwn s1 np hp h, I.same.trans s1, fun a ⟨j, q⟩ => ?_⟩
  rcases own_set q with ⟨_, e⟩ | ⟨_, q⟩
  · rw [e]
    exact I.same.free np
  · exact I.new a ⟨j, q⟩
/-- slot i's own list is written -/
theorem SI.write (I : SI K H0 Z H σ ρ) {i : Nat} {p : Addr} {xs : List V} {ds es : List DL.D} (hi : σ[i]? = some (some (.ref p))) (hr : ρ[i]? = some (.own es)) (h : DpAll K (hide H (Zo Z σ ρ)) xs ds) : SI K H0 Z (upd H p (.lst xs)) σ (ρ.set i (.own ds)) := by
  have hil : i < ρ.length := (List.getElem?_eq_some_iff.mp hr).1
  have own_iff : ∀ j a, OwnAt σ (ρ.set i (.own ds)) j a ↔ OwnAt σ ρ j a := fun j a => by
    by_cases hj : i = j
    · subst hj
      constructor
      · rintro ⟨h1, _⟩
        exact ⟨h1, es, hr⟩
      · rintro ⟨h1, _⟩
        exact ⟨h1, ds, by rw [List.getElem?_set, if_pos rfl, if_pos hil]⟩
    · constructor
      · rintro ⟨h1, d, h2⟩
        rw [List.getElem?_set_ne hj] at h2
        exact ⟨h1, d, h2⟩
      · rintro ⟨h1, d, h2⟩
        exact ⟨h1, d, by rw [List.getElem?_set_ne hj]; exact h2⟩
  have zo_iff : ∀ b, Zo Z σ (ρ.set i (.own ds)) b ↔ Zo Z σ ρ b := fun b => by
    constructor
    · rintro (z | ⟨j, q⟩)
      · exact .inl z
      · exact .inr ⟨j, (own_iff j b).mp q⟩
    · rintro (z | ⟨j, q⟩)
      · exact .inl z
      · exact .inr ⟨j, (own_iff j b).mpr q⟩
  have hpo : Owned σ ρ p := ⟨i, hi, es, hr⟩
  have hm : Same (hide H (Zo Z σ ρ)) (hide (upd H p (.lst xs)) (Zo Z σ (ρ.set i (.own ds)))) := fun b o e => by
    obtain ⟨n, e1⟩ := hide_of e
    have nb : b ≠ p := fun z => n (.inr (z ▸ hpo))
    exact hide_at (fun z => n ((zo_iff b).mp z)) (by rw [upd_ne nb]; exact e1)
  have live : ∀ a, H a ≠ none → upd H p (.lst xs) a ≠ none := fun a h z => by
    by_cases e : a = p
    · rw [e, upd_same] at z; cases z
    · rw [upd_ne e] at z; exact h z
  refine ⟨⟨by rw [List.length_set]; exact I.di.len, fun j k a h1 h2 => I.di.one j k a ((own_iff j a).mp h1) ((own_iff k a).mp h2), fun a ⟨j, q⟩ => I.di.out a ⟨j, (own_iff j a).mp q⟩, fun a z => live a (I.di.live a z), fun j t e => ?_⟩, fun b o e => ?_, fun a ⟨j, q⟩ => I.new a ⟨j, (own_iff j a).mp q⟩⟩
  · by_cases hj : i = j
    · subst hj
      rw [List.getElem?_set, if_pos rfl, if_pos hil] at e
      cases e
      exact ⟨p, xs, hi, upd_same, DpAll.same hm h⟩
    · rw [List.getElem?_set_ne hj] at e
      have q := I.di.slots j t e
      cases t with
      | un => trivial
      | dat d =>
        obtain ⟨v, e1, h1⟩ := q
        exact ⟨v, e1, Dp.same hm h1⟩
      | own gs =>
        obtain ⟨a, ys, e1, e2, h1⟩ := q
        have na : a ≠ p := fun z => hj (I.di.one i j p ⟨hi, es, hr⟩ ⟨by rw [← z]; exact e1, gs, e⟩)
        exact ⟨a, ys, e1, by rw [upd_ne na]; exact e2, DpAll.same hm h1⟩
      | err a dd j =>
        obtain ⟨p', xs', ep, hp', _⟩ := I.di.slots i _ hr
        rw [hi] at ep
        cases ep
        have nd : dd ≠ p := fun z => by
          have q2 := q.2
          rw [z, hp'] at q2
          cases q2
        exact ⟨q.1, by rw [upd_ne nd]; exact q.2⟩
  · have nb : b ≠ p := fun z => by
      have q := I.new p hpo
      rw [← z, e] at q
      cases q
    rw [upd_ne nb]
    exact I.same b o e
end
end DL
set_option Elab.async false
set_option linter.all false
set_option maxRecDepth 100000
set_option maxHeartbeats 4000000
/-! DL5: rules for statements, by data. -/
namespace DL
open PySem PySem.Spec PyProof.Rows L2
section
variable {X : Cx} {Cl : Nat → Addr} {W : WX} {e e' : Expr} {f f' : FE} {st : Stmt} {sts sts' : List Stmt} {pos : Pos} {K : PySem.W.Frag}

/-- an expression within a statement: its value, or its error -/
@[simp] def sE (f : FE) (k : Val → FS) (ρ : Rho) : Option Out := match f ρ with
  | none => none
  | some (.error e) => some (.exc ρ e.1 e.2)
  | some (.ok v) => k v ρ
theorem ts_step {H0 : Hp} {Z : Addr → Prop} {H : Hp} {σ : St} {ρ : Rho} {D : Ends} {k : Val → FS} {o : Out} {Q1 : VK} (I : SI K H0 Z H σ ρ) (h : sE f k ρ = some o) (q : OOk K Cl W H0 Z D o)
    (go : ∀ v x H1, f ρ = some (.ok v) → k v ρ = some o → Same H H1 → VOk K Z σ ρ H H1 x v → SI K H0 Z H1 σ ρ → Q1 x H1) : teOf K Cl W f σ H Q1 := by
  unfold sE at h
  cases e : f ρ with
  | none => rw [e] at h; cases h
  | some r1 =>
    rw [e] at h
    refine te_step I.di e (fun er z => ?_) fun v x H1 ev s1 hv I1 => ?_
    · subst z
      cases h
      exact OOk.err I q
    · subst ev
      exact go v x H1 e h s1 hv (I.same' s1)

/-! ### blocks -/
@[simp] def fNx (ρ : Rho) : Option Out := some (.nx ρ)
@[simp] def fSeq (f g : FS) (ρ : Rho) : Option Out := match f ρ with
  | some (.nx ρ') => g ρ'
  | r => r
theorem ds_nil : DSs X Cl W [] fNx := PSs.imp pss_nil fun D σ H ⟨H0, Z, ρ, o, I, e, q⟩ => by cases e; exact q σ H I
theorem ds_one {f : FS} (h : DS X Cl W st f) : DSs X Cl W [st] f := pss_one h
theorem ds_cons {f g : FS} (h1 : DS X Cl W st f) (h2 : DSs X Cl W sts g) : DSs X Cl W (st :: sts) (fSeq f g) := PSs.imp (pss_cons h1 h2) fun D σ H ⟨H0, Z, ρ, o, I, e, q⟩ => by
  unfold fSeq at e
  cases e1 : f ρ with
  | none => rw [e1] at e; cases e
  | some o1 =>
    rw [e1] at e
    refine ⟨H0, Z, ρ, o1, I, e1, ?_⟩
    cases o1 with
    | nx ρ' => exact fun σ' H' I' => ⟨H0, Z, ρ', o, I', e, q⟩
    | brk ρ' => cases e; exact q
    | ct ρ' => cases e; exact q
    | ret d => cases e; exact q
    | retF ds => cases e; exact q
    | retX ds k => cases e; exact q
    | exc ρ' c i => cases e; exact q
theorem ds_pass : DS X Cl W (.Pass pos) fNx := PS.imp ps_pass fun D σ H ⟨H0, Z, ρ, o, I, e, q⟩ => by cases e; exact q σ H I
@[simp] def fBrk (ρ : Rho) : Option Out := some (.brk ρ)
@[simp] def fCt (ρ : Rho) : Option Out := some (.ct ρ)
theorem ds_break : DS X Cl W (.Break pos) fBrk := PS.imp ps_break fun D σ H ⟨H0, Z, ρ, o, I, e, q⟩ => by cases e; exact q σ H I
theorem ds_continue : DS X Cl W (.Continue pos) fCt := PS.imp ps_continue fun D σ H ⟨H0, Z, ρ, o, I, e, q⟩ => by cases e; exact q σ H I
/-- a slot's own list is from now on a list like any other -/
@[simp] def fShare (i : Nat) (g : FS) (ρ : Rho) : Option Out := match ρ[i]? with
  | some (.own ds) => g (ρ.set i (.dat (.list ds)))
  | _ => g ρ
theorem SI.share {H0 : Hp} {Z : Addr → Prop} {H : Hp} {σ : St} {ρ : Rho} {i : Nat} {ds : List D} (I : SI K H0 Z H σ ρ) (h : ρ[i]? = some (.own ds)) : SI K H0 Z H σ (ρ.set i (.dat (.list ds))) := by
  obtain ⟨p, xs, e1, e2, h1⟩ := I.di.slots i _ h
  have sub : ∀ {j a}, OwnAt σ (ρ.set i (.dat (.list ds))) j a → i ≠ j ∧ OwnAt σ ρ j a := fun {j a} ⟨h1, es, h2⟩ => by
    by_cases hj : i = j
    · subst hj
      rw [List.getElem?_set, if_pos rfl] at h2
      split at h2 <;> cases h2
    · rw [List.getElem?_set_ne hj] at h2
      exact ⟨hj, h1, es, h2⟩
  have hm : Same (hide H (Zo Z σ ρ)) (hide H (Zo Z σ (ρ.set i (.dat (.list ds))))) := hide_mono (Same.refl _) fun b hb => .inl (hb.elim .inl fun ⟨j, z⟩ => .inr ⟨j, (sub z).2⟩)
  have np : ¬ Zo Z σ (ρ.set i (.dat (.list ds))) p := fun z => z.elim (I.di.out p ⟨i, e1, ds, h⟩) fun ⟨j, z⟩ => (sub z).1 (I.di.one i j p ⟨e1, ds, h⟩ (sub z).2)
  refine ⟨⟨by rw [List.length_set]; exact I.di.len, fun j k a h1 h2 => I.di.one j k a (sub h1).2 (sub h2).2, fun a ⟨j, z⟩ => I.di.out a ⟨j, (sub z).2⟩, I.di.live, fun j t e => ?_⟩, I.same, fun a ⟨j, z⟩ => I.new a ⟨j, (sub z).2⟩⟩
  by_cases hj : i = j
  · subst hj
    rw [List.getElem?_set, if_pos rfl] at e
    split at e
    · cases e
      exact ⟨_, e1, .lst (Rd.of (hide_at np e2)) (DpAll.same hm h1)⟩
    · cases e
  · rw [List.getElem?_set_ne hj] at e
    have q := I.di.slots j t e
    cases t with
    | un => trivial
    | dat d =>
      obtain ⟨v, e1, h1⟩ := q
      exact ⟨v, e1, Dp.same hm h1⟩
    | own gs =>
      obtain ⟨a, ys, e1, e2, h1⟩ := q
      exact ⟨a, ys, e1, e2, DpAll.same hm h1⟩
    | err a dd j => exact q
theorem dss_share {i : Nat} {g : FS} (h : DSs X Cl W sts g) : DSs X Cl W sts (fShare i g) := PSs.imp h fun D σ H ⟨H0, Z, ρ, o, I, e, q⟩ => by
  unfold fShare at e
  split at e
  · rename_i ds hd
    exact ⟨H0, Z, _, o, I.share hd, e, q⟩
  · exact ⟨H0, Z, ρ, o, I, e, q⟩

/-! ### stores -/
def fSet (i : Nat) (f : FE) : FS := sE f fun v ρ => v.st.map fun d => .nx (ρ.set i (.dat d))
def fSetO (i : Nat) (f : FE) : FS := sE f fun v ρ => match v with
  | .f ds => some (.nx (ρ.set i (.own ds)))
  | _ => none
theorem set_read {i : Nat} {D : Ends} {σ : St} {H : Hp} (h : tsOf K Cl W (fSet i f) D σ H) : tAsg (teOf K Cl W f) (gName i) D σ H := by
  obtain ⟨H0, Z, ρ, o, I, e, q⟩ := h
  refine ts_step I e q fun v x H1 _ h1 s1 hv I1 => ?_
  cases e1 : v.st with
  | none => rw [e1] at h1; cases h1
  | some d =>
    rw [e1] at h1
    cases h1
    exact q _ _ (I1.setDat (hv.stab I.di e1))
theorem setO_read {i : Nat} {D : Ends} {σ : St} {H : Hp} (h : tsOf K Cl W (fSetO i f) D σ H) : tAsg (teOf K Cl W f) (gName i) D σ H := by
  obtain ⟨H0, Z, ρ, o, I, e, q⟩ := h
  refine ts_step I e q fun v x H1 _ h1 s1 hv I1 => ?_
  split at h1
  · cases h1
    obtain ⟨p, xs, rfl, n, e2, h2⟩ := hv
    exact q _ _ (I.setOwn s1 n e2 h2)
  · cases h1
theorem ds_set {i : Nat} {x : Str} {pos' : Pos} (hN : X.N.Nodup) (he : DE X Cl W e f) (hi : X.N[i]? = some x := by rfl) (hx : Loc X.env.scope x := by first | exact .inl rfl | exact .inr rfl) (hs : swapsWith e (some (.Name x pos')) pos.line X.env = pure false := by rfl) (hf : X.fn x = true ∨ X.env.scope.names.lookup x = some .local := by first | exact .inl rfl | exact .inr rfl) :
    DS X Cl W (.Assign [.Name x pos'] e pos) (fSet i f) := PS.imp (ps_set hN hi hx he hs hf) fun D σ H h => set_read h
theorem ds_setO {i : Nat} {x : Str} {pos' : Pos} (hN : X.N.Nodup) (he : DE X Cl W e f) (hi : X.N[i]? = some x := by rfl) (hx : Loc X.env.scope x := by first | exact .inl rfl | exact .inr rfl) (hs : swapsWith e (some (.Name x pos')) pos.line X.env = pure false := by rfl) (hf : X.fn x = true ∨ X.env.scope.names.lookup x = some .local := by first | exact .inl rfl | exact .inr rfl) :
    DS X Cl W (.Assign [.Name x pos'] e pos) (fSetO i f) := PS.imp (ps_set hN hi hx he hs hf) fun D σ H h => setO_read h
def fDrop (f : FE) : FS := sE f fun _ ρ => some (.nx ρ)
theorem ds_expr (he : DE X Cl W e f) (hs : swapsWith e none pos.line X.env = pure false := by rfl) : DS X Cl W (.Expr e pos) (fDrop f) := PS.imp (ps_expr he hs) fun D σ H ⟨H0, Z, ρ, o, I, e, q⟩ => by
  refine ts_step I e q fun v x H1 _ h1 s1 hv I1 => ?_
  cases h1
  exact q _ _ I1
def fRet (f : FE) : FS := sE f fun v _ => match v with
  | .s d => some (.ret d)
  | .m d => some (.ret d)
  | .b ds => some (.retF ds)
  | .f ds => some (.retF ds)
theorem ds_ret (he : DE X Cl W e f) : DS X Cl W (.Return (some e) pos) (fRet f) := PS.imp (ps_ret he) fun D σ H ⟨H0, Z, ρ, o, I, e, q⟩ => by
  refine ts_step I e q fun v x H1 _ h1 s1 hv I1 => ?_
  cases v with
  | s d => cases h1; exact q x H1 I1.same (Dp.same (hide_mono (Same.refl _) fun _ h => .inl (.inl h)) hv)
  | m d => cases h1; exact q x H1 I1.same hv
  | b ds =>
    cases h1
    obtain ⟨p, xs, rfl, n, h2, h3⟩ := hv
    refine q p xs H1 I1.same (I.new p n) h2 (DpAll.same (hide_mono (Same.refl _) fun b hb => .inl ?_) h3)
    rcases hb with hb | rfl
    · exact .inl hb
    · exact .inr n
  | f ds =>
    cases h1
    obtain ⟨p, xs, rfl, n, h2, h3⟩ := hv
    refine q p xs H1 I1.same (I.same.free n) h2 (DpAll.same (hide_mono (Same.refl _) fun b hb => .inl ?_) h3)
    rcases hb with hb | rfl
    · exact .inl (.inl hb)
    · exact .inr rfl
@[simp] def fRetN (ρ : Rho) : Option Out := some (.ret .none)
theorem ds_retN : DS X Cl W (.Return none pos) fRetN := PS.imp ps_retN fun D σ H ⟨H0, Z, ρ, o, I, e, q⟩ => by
  cases e
  exact q .non H I.same .non
@[simp] def fIf (t : FT) (f g : FS) (ρ : Rho) : Option Out := match t ρ with
  | none => none
  | some (.error e) => some (.exc ρ e.1 e.2)
  | some (.ok true) => f ρ
  | some (.ok false) => g ρ
theorem ds_if {c : Expr} {a b : List Stmt} {t : FT} {f g : FS} (hc : DT X Cl W c t) (ha : DSs X Cl W a f) (hb : DSs X Cl W b g) : DS X Cl W (.If c a b pos) (fIf t f g) := PS.imp (ps_if hc ha hb) fun D σ H ⟨H0, Z, ρ, o, I, e, q⟩ => by
  unfold fIf at e
  cases e1 : t ρ with
  | none => rw [e1] at e; cases e
  | some r1 =>
    refine tt_step I.di e1 (fun er z => ?_) fun b H1 ev s1 I1 => ?_
    · subst z
      rw [e1] at e
      cases e
      exact OOk.err I q
    · subst ev
      rw [e1] at e
      cases b with
      | true =>
        rw [if_pos rfl]
        exact ⟨H0, Z, ρ, o, I.same' s1, e, q⟩
      | false =>
        rw [if_neg Bool.false_ne_true]
        exact ⟨H0, Z, ρ, o, I.same' s1, e, q⟩
/-- x op= e of ints -/
@[simp] def fAug (i : Nat) (g : Int → Int → Int) (f : FE) (ρ : Rho) : Option Out := match ρ[i]? with
  | some (.dat (.int a)) => sE f (fun v ρ => match v.d with
    | .int b => some (.nx (ρ.set i (.dat (.int (g a b)))))
    | _ => none) ρ
  | _ => none
theorem ds_aug {i : Nat} {x : Str} {op : Operator} {g : Int → Int → Int} {pos' : Pos} (hN : X.N.Nodup) (he : DE X Cl W e f) (ho : PIp X op (ipI g)) (hi : X.N[i]? = some x := by rfl) (hx : Loc X.env.scope x := by first | exact .inl rfl | exact .inr rfl) (hf : X.fn x = true ∨ X.env.scope.names.lookup x = some .local := by first | exact .inl rfl | exact .inr rfl) :
    DS X Cl W (.AugAssign (.Name x pos') op e pos) (fAug i g f) := PS.imp (ps_aug hN hi hx he ho hf) fun D σ H ⟨H0, Z, ρ, o, I, e, q⟩ => by
  unfold fAug at e
  split at e
  · rename_i a ha
    obtain ⟨v, e1, h1⟩ := I.di.slots i _ ha
    have e2 := h1.int_inv
    subst e2
    refine ⟨_, e1, ts_step I e q fun v x H1 _ h1 s1 hv I1 => ?_⟩
    split at h1
    · rename_i b hb
      cases h1
      exact ⟨a, b, rfl, hv.int_inv I.di hb, q _ _ (I1.setDat (.int _))⟩
    · cases h1
  · cases e

/-! ### lists changed in place -/
theorem ownSlot {H0 : Hp} {Z : Addr → Prop} {H : Hp} {σ : St} {ρ : Rho} {i : Nat} {ds : List D} (I : SI K H0 Z H σ ρ) (h : ρ[i]? = some (.own ds)) : ∃ p xs, σ[i]? = some (some (.ref p)) ∧ H p = some (.lst xs) ∧ DpAll K (hide H (Zo Z σ ρ)) xs ds := I.di.slots i _ h
@[simp] def fOwn (i : Nat) (k : List D → FS) (ρ : Rho) : Option Out := match ρ[i]? with
  | some (.own ds) => k ds ρ
  | _ => none
def fApp (i : Nat) (f : FE) : FS := fOwn i fun ds => sE f fun v ρ => match v.st with
  | some d => if lineOk (ds.length + 1) = true then some (.nx (ρ.set i (.own (ds ++ [d])))) else none
  | none => none
theorem ds_app {i : Nat} {c : Expr} (hp : PE X c (tBM X.K "list" rAppend (tVar i) (tCons (teOf X.K Cl W f) tNil))) (hs : swapsWith c none pos.line X.env = pure false := by rfl) : DS X Cl W (.Expr c pos) (fApp i f) := PS.imp (ps_expr hp hs) fun D σ H ⟨H0, Z, ρ, o, I, e, q⟩ => by
  unfold fApp fOwn at e
  split at e
  · rename_i ds hd
    obtain ⟨p, xs, e1, e2, h1⟩ := ownSlot I hd
    refine ⟨_, e1, .inl ⟨rfl, xs, .inl (.inl e2)⟩, ts_step I e q fun v x H1 _ h2 s1 hv I1 => ?_⟩
    split at h2
    · rename_i d hst
      split at h2
      · rename_i hl
        cases h2
        have h3 := DpAll.same (hide_mono s1 fun _ h => .inl h) h1
        refine ⟨p, xs, x, rfl, rfl, s1 _ _ e2, by have := lineOk_ok hl; rw [h1.length]; omega, ?_⟩
        exact q _ _ (I1.write e1 hd (h3.append (.cons (hv.stab I.di hst) .nil)))
      · cases h2
    · cases h2
  · cases e
/-- xs.extend(ys), ys tracked or known -/
def rExtR : V → List V → Hp → VK → Prop := fun x vs H Q => ∃ l b xs zs, x = .ref l ∧ vs = [.ref b] ∧ H l = some (.lst xs) ∧ Rd H b (.lst zs) ∧ xs.length + zs.length ≤ sizeLine ∧ Q .non (upd H l (.lst (xs ++ zs)))
theorem mt_extR : MtM X "list.extend" rExtR := by
  intro pins s σ H x vs v us Q I rx rv h
  obtain ⟨l, b, xs, zs, rfl, rfl, hH, hB, hz, q⟩ := h
  cases rx
  obtain ⟨u, rfl, ru⟩ := rv.one
  cases ru
  obtain ⟨z, its, n, r, hl, e⟩ := I.lstM hH
  obtain ⟨z2, its2, n2, r2, hl2, e2⟩ := Rd.lstM I hB
  have hsz : its.toArray.size + its2.toArray.size ≤ sizeLine := by rw [List.size_toArray, List.size_toArray]; omega
  have hlong : ¬ (!its.toArray.isEmpty && Builtin.List.listTooLong (its.toArray.size + its2.toArray.size)) = true := by
    rw [notLongL hsz, Bool.and_false]
    exact Bool.false_ne_true
  refine call_meets F.slot_list_extend ⟨_, e, rfl⟩ F.entry_list_extend (F.args_list_extend_2 _ _)
    (AutoSeq1.list_extend_list_list_0 l its.toArray n b its2.toArray n2 hlong (by rw [List.size_toArray]; omega) (by omega)) ⟨e, e2, ?_⟩
  refine ⟨.non, _, I.lset (its' := its ++ its2) hH e (by simp) (r.append r2) ?_, rfl, q⟩
  rw [List.length_append]
  omega
def fExt (i : Nat) (f : FE) : FS := fOwn i fun ds => sE f fun v ρ => match v.items with
  | some es => if lineOk (ds.length + es.length) = true then some (.nx (ρ.set i (.own (ds ++ es)))) else none
  | none => none
theorem ds_ext {i : Nat} {c : Expr} (hp : PE X c (tBM X.K "list" rExtR (tVar i) (tCons (teOf X.K Cl W f) tNil))) (hs : swapsWith c none pos.line X.env = pure false := by rfl) : DS X Cl W (.Expr c pos) (fExt i f) := PS.imp (ps_expr hp hs) fun D σ H ⟨H0, Z, ρ, o, I, e, q⟩ => by
  unfold fExt fOwn at e
  split at e
  · rename_i ds hd
    obtain ⟨p, xs, e1, e2, h1⟩ := ownSlot I hd
    refine ⟨_, e1, .inl ⟨rfl, xs, .inl (.inl e2)⟩, ts_step I e q fun v x H1 _ h2 s1 hv I1 => ?_⟩
    split at h2
    · rename_i es hst
      split at h2
      · rename_i hl
        cases h2
        have h3 := DpAll.same (hide_mono s1 fun _ h => .inl h) h1
        obtain ⟨b, zs, rfl, h4, h5⟩ := hv.items I.di hst
        refine ⟨p, b, xs, zs, rfl, rfl, s1 _ _ e2, h4, by rw [h1.length, h5.length]; exact lineOk_ok hl, ?_⟩
        exact q _ _ (I1.write e1 hd (h3.append h5))
      · cases h2
    · cases h2
  · cases e
def fPop (i : Nat) : FS := fOwn i fun ds ρ => if ds.isEmpty = true then none else some (.nx (ρ.set i (.own ds.dropLast)))
theorem ds_pop {i : Nat} {c : Expr} (hp : PE X c (tBM0 X.K "list" rPop (tVar i))) (hs : swapsWith c none pos.line X.env = pure false := by rfl) : DS X Cl W (.Expr c pos) (fPop i) := PS.imp (ps_expr hp hs) fun D σ H ⟨H0, Z, ρ, o, I, e, q⟩ => by
  unfold fPop fOwn at e
  split at e
  · rename_i ds hd
    obtain ⟨p, xs, e1, e2, h1⟩ := ownSlot I hd
    dsimp only at e
    split at e
    · cases e
    · rename_i hne
      cases e
      have hl := h1.length
      have hpos : 0 < xs.length := by
        cases ds with
        | nil => exact absurd rfl hne
        | cons a r => rw [hl]; exact Nat.succ_pos _
      obtain ⟨y, hy⟩ : ∃ y, xs[xs.length - 1]? = some y := ⟨_, List.getElem?_eq_getElem (by omega)⟩
      refine ⟨_, e1, .inl ⟨rfl, xs, .inl (.inl e2)⟩, p, xs, y, rfl, rfl, e2, hy, ?_⟩
      exact q _ _ (I.write e1 hd h1.dropLast)
  · cases e
/-- x[k] = e of a slot's own list -/
def fPut (i : Nat) (fk fe : FE) : FS := sE fe fun v => fOwn i fun ds => sE fk fun k ρ => match k.d, v.st with
  | .int j, some d => (ixN ds.length j).map fun n => .nx (ρ.set i (.own (ds.set n d)))
  | _, _ => none
theorem ds_put {i : Nat} {tg : Expr} {fk : FE} (he : DE X Cl W e f) (hg : PG X tg (L2.gSub (tVar i) (teOf X.K Cl W fk) rSetL)) (hs : swapsWithSole [tg] e pos.line X.env = pure false := by rfl) (hw : swappedStores [tg] e X.env = pure none := by rfl)
    (h1 : (assignEach [tg] X.env).map (·.2) = [assign tg X.env] := by rfl) : DS X Cl W (.Assign [tg] e pos) (fPut i fk f) := PS.imp (ps_asg he hg hs hw h1) fun D σ H ⟨H0, Z, ρ, o, I, e, q⟩ => by
  refine ts_step I e q fun v x H1 _ h2 s1 hv I1 => ?_
  unfold fOwn at h2
  split at h2
  · rename_i ds hd
    obtain ⟨p, xs, e1, e2, h1⟩ := ownSlot I1 hd
    refine ⟨_, e1, ts_step I1 h2 q fun u y H2 _ h3 s2 hu I2 => ?_⟩
    split at h3
    · rename_i j d ej hst
      cases e3 : ixN ds.length j with
      | none => rw [e3] at h3; cases h3
      | some n =>
        rw [e3] at h3
        cases h3
        have h4 := DpAll.same (hide_mono s2 fun _ h => .inl h) h1
        refine ⟨p, xs, j, n, rfl, hu.int_inv I1.di ej, s2 _ _ e2, by rw [h1.length]; exact e3, ?_⟩
        exact q _ _ (I2.write e1 hd (DpAll.set ((hv.same s2).stab I.di hst) n h4))
    · cases h3
  · cases h2

/-! ### targets -/
theorem zo_dat {Z : Addr → Prop} {H : Hp} {σ : St} {ρ : Rho} {i : Nat} {x : Option V} {d : D} : Same (hide H (Zo Z σ ρ)) (hide H (Zo Z (σ.set i x) (ρ.set i (.dat d)))) :=
  hide_mono (Same.refl _) fun b hb => .inl (hb.elim .inl fun ⟨j, z⟩ => .inr ⟨j, own_sub (s := .dat d) (fun _ z => by cases z) z⟩)
abbrev FG := D → Rho → Option Rho
def tgOf (K : PySem.W.Frag) (g : FG) : TG := fun v σ H Q => ∃ H0 Z ρ d ρ', SI K H0 Z H σ ρ ∧ Dp K (hide H (Zo Z σ ρ)) v d ∧ g d ρ = some ρ' ∧ ∀ σ', SI K H0 Z H σ' ρ' → Q σ' H
def DG (X : Cx) (tg : Expr) (g : FG) : Prop := PG X tg (tgOf X.K g)
theorem PG.imp {tg : Expr} {t t' : TG} (h : PG X tg t) (i : ∀ v σ H Q, t' v σ H Q → t v σ H Q) : PG X tg t' := ⟨fun pins s σ H v u Q I r q => h.run pins s σ H v u Q I r (i v σ H Q q)⟩
def gN (i : Nat) : FG := fun d ρ => some (ρ.set i (.dat d))
theorem dg_name {i : Nat} {x : Str} (hN : X.N.Nodup) (hi : X.N[i]? = some x := by rfl) (hx : Loc X.env.scope x := by first | exact .inl rfl | exact .inr rfl) (hf : X.fn x = true ∨ X.env.scope.names.lookup x = some .local := by first | exact .inl rfl | exact .inr rfl) : DG X (.Name x pos) (gN i) :=
  PG.imp (pg_name hN hi hx hf) fun v σ H Q ⟨H0, Z, ρ, d, ρ', I, h, e, q⟩ => by
    cases e
    exact q _ (I.setDat h)
abbrev FGs := List D → Rho → Option Rho
def tgsOf (K : PySem.W.Frag) (g : FGs) : TGs := fun vs σ H Q => ∃ H0 Z ρ ds ρ', SI K H0 Z H σ ρ ∧ DpAll K (hide H (Zo Z σ ρ)) vs ds ∧ g ds ρ = some ρ' ∧ ∀ σ', SI K H0 Z H σ' ρ' → Q σ' H
def DGs (X : Cx) (tgs : List Expr) (g : FGs) : Prop := PGs X tgs (tgsOf X.K g)
theorem PGs.imp {tg : List Expr} {t t' : TGs} (h : PGs X tg t) (i : ∀ v σ H Q, t' v σ H Q → t v σ H Q) : PGs X tg t' := ⟨fun pins s σ H v u Q I r q => h.run pins s σ H v u Q I r (i v σ H Q q)⟩
def gsNil : FGs := fun ds ρ => match ds with
  | [] => some ρ
  | _ => none
def gsCons (i : Nat) (g : FGs) : FGs := fun ds ρ => match ds with
  | d :: r => g r (ρ.set i (.dat d))
  | [] => none
theorem dgs_nil : DGs X [] gsNil := PGs.imp pgs_nil fun vs σ H Q ⟨H0, Z, ρ, ds, ρ', I, h, e, q⟩ => by
  cases ds with
  | nil => cases e; cases h; exact ⟨rfl, q σ I⟩
  | cons _ _ => cases e
theorem dgs_cons {i : Nat} {x : Str} {g : FGs} {es : List Expr} (hN : X.N.Nodup) (hr : DGs X es g) (hi : X.N[i]? = some x := by rfl) (hx : Loc X.env.scope x := by first | exact .inl rfl | exact .inr rfl) (hf : X.fn x = true ∨ X.env.scope.names.lookup x = some .local := by first | exact .inl rfl | exact .inr rfl)
    (hs : (assignEach (.Name x pos :: es) X.env).map (·.2) = assign (.Name x pos) X.env :: (assignEach es X.env).map (·.2) := by rfl) : DGs X (.Name x pos :: es) (gsCons i g) :=
  PGs.imp (pgs_cons (pg_name hN hi hx hf) hr hs) fun vs σ H Q ⟨H0, Z, ρ, ds, ρ', I, h, e, q⟩ => by
    cases ds with
    | nil => cases e
    | cons d r =>
      cases h with
      | @cons v vr _ _ a b =>
        exact ⟨v, vr, rfl, ⟨H0, Z, ρ.set i (.dat d), r, ρ', I.setDat a, DpAll.same zo_dat b, e, q⟩⟩
def gT (n : Nat) (g : FGs) : FG := fun d ρ => match d with
  | .tuple ds => if ds.length = n then g ds ρ else none
  | _ => none
theorem dg_tup {es : List Expr} {k : Nat} {g : FGs} {n : Nat} (hc : X.calm = true) (h : DGs X es g) (hn : (assignEach es X.env).length = n := by rfl) (hst : (assignEach es X.env).findIdx? (·.1) = none := by rfl) : DG X (.Tuple es k pos) (gT n g) :=
  PG.imp (pg_tup hc h hn hst) fun v σ H Q ⟨H0, Z, ρ, d, ρ', I, hd, e, q⟩ => by
    unfold gT at e
    split at e
    · rename_i ds
      split at e
      · rename_i hl
        obtain ⟨a, xs, rfl, h1, h2⟩ := hd.tup_inv
        exact ⟨a, xs, rfl, SqT.same hide_sub h1, by rw [h2.length]; exact hl, ⟨H0, Z, ρ, ds, ρ', I, h2, e, q⟩⟩
      · cases e
    · cases e
end
end DL
set_option Elab.async false
set_option linter.all false
set_option maxRecDepth 100000
set_option maxHeartbeats 4000000
/-! DL6: loops and defs, by data. -/
namespace DL
open PySem PySem.Spec PyProof.Rows L2

/-! ### what a for walks -/
abbrev FI := Rho → Option (Except Er (List D))
def ItOk (K : PySem.W.Frag) (Hs : Hp) (J : It) (ds : List D) : Prop := ∀ (Z' : Addr → Prop) (H' : Hp), Same Hs (hide H' Z') → (∀ b, Z' b → H' b ≠ none) →
  (∀ i, i < ds.length → J.go i H') ∧ (∀ i, ds.length ≤ i → J.stop i H') ∧ ∀ i x H'' d, J.yld i H' x H'' → ds[i]? = some d → Same H' H'' ∧ Dp K (hide H'' Z') x d
def RIk (K : PySem.W.Frag) (Cl : Nat → Addr) (W : WX) (Z : Addr → Prop) (σ : St) (ρ : Rho) (H : Hp) (R : It → Hp → Prop) : Except Er (List D) → Prop
  | .ok ds => ∀ J H1, Same H H1 → ItOk K (hide H1 (Zo Z σ ρ)) J ds → R J H1
  | .error e => ErOk Cl W σ H e
def tiOf (K : PySem.W.Frag) (Cl : Nat → Addr) (W : WX) (f : FI) : TI := fun σ H R => ∃ Z ρ r, DI K Z H σ ρ ∧ f ρ = some r ∧ RIk K Cl W Z σ ρ H R r
def DIt (X : Cx) (Cl : Nat → Addr) (W : WX) (tg e : Expr) (f : FI) : Prop := PI X tg e (tiOf X.K Cl W f)
theorem PI.imp {X : Cx} {tg e : Expr} {t t' : TI} (h : PI X tg e t) (i : ∀ σ H Q, t' σ H Q → t σ H Q) : PI X tg e t' := ⟨fun pins s σ H Q I q => h.run pins s σ H Q I (i σ H Q q)⟩
theorem PI.or {X : Cx} {tg e : Expr} {t t' : TI} (h : PI X tg e t) (h' : PI X tg e t') : PI X tg e (fun σ H R => t σ H R ∨ t' σ H R) := ⟨fun pins s σ H Q I q => q.elim (h.run pins s σ H Q I) (h'.run pins s σ H Q I)⟩
section
variable {X : Cx} {Cl : Nat → Addr} {W : WX} {e tg : Expr} {es : List Expr} {f : FE} {g : FA} {p pos : Pos} {K : PySem.W.Frag}
def signs (x : Str) : List D := x.cps.toList.map fun c => .str ⟨#[c]⟩
@[simp] def iSeq (f : FE) (ρ : Rho) : Option (Except Er (List D)) := match f ρ with
  | none => none
  | some (.error e) => some (.error e)
  | some (.ok v) => match v with
    | .s (.list ds) => some (.ok ds)
    | .s (.tuple ds) => some (.ok ds)
    | .s (.str x) => some (.ok (signs x))
    | .f ds => some (.ok ds)
    | _ => none
theorem it_list {Hs : Hp} {a : Addr} {xs : List V} {ds : List D} (h1 : Rd Hs a (.lst xs)) (h2 : DpAll K Hs xs ds) : ItOk K Hs (Itl K a) ds := fun Z' H' s _ => by
  have q : SqL K H' a xs := .inl (Rd.same (s.trans hide_sub) h1)
  refine ⟨fun i hi => ⟨xs, xs[i]'(by rw [h2.length]; exact hi), q, List.getElem?_eq_getElem _⟩, fun i hi => ⟨xs, q, by rw [h2.length]; exact hi⟩, fun i x H'' d y hd => ?_⟩
  obtain ⟨rfl, y⟩ := y
  obtain ⟨v, e1, e2⟩ := h2.get hd
  have e3 := y xs q
  rw [e1] at e3
  cases e3
  exact ⟨Same.refl _, Dp.same s e2⟩
theorem it_tup {Hs : Hp} {a : Addr} {xs : List V} {ds : List D} (h1 : SqT K Hs a xs) (h2 : DpAll K Hs xs ds) : ItOk K Hs (Itt K a) ds := fun Z' H' s _ => by
  have q : SqT K H' a xs := SqT.same (s.trans hide_sub) h1
  refine ⟨fun i hi => ⟨xs, xs[i]'(by rw [h2.length]; exact hi), q, List.getElem?_eq_getElem _⟩, fun i hi => ⟨xs, q, by rw [h2.length]; exact hi⟩, fun i x H'' d y hd => ?_⟩
  obtain ⟨rfl, y⟩ := y
  obtain ⟨v, e1, e2⟩ := h2.get hd
  have e3 := y xs q
  rw [e1] at e3
  cases e3
  exact ⟨Same.refl _, Dp.same s e2⟩
theorem it_str {Hs : Hp} {x : Str} : ItOk K Hs (Its x) (signs x) := fun Z' H' s _ => by
  have hl : (signs x).length = x.cps.size := by simp [signs]
  refine ⟨fun i hi => ?_, fun i hi => ?_, fun i v H'' d y hd => ?_⟩
  · rw [hl] at hi
    exact hi
  · rw [hl] at hi
    exact hi
  · obtain ⟨rfl, c, hc, rfl⟩ := y
    refine ⟨Same.refl _, ?_⟩
    have e2 : (signs x)[i]? = some (.str ⟨#[c]⟩) := by
      unfold signs
      rw [List.getElem?_map, Array.getElem?_toList, hc]
      rfl
    rw [hd] at e2
    cases e2
    exact .str _
theorem it_range {Hs : Hp} {lo : Int} {n : Nat} : ItOk K Hs (Itr lo n) ((List.range n).map fun (i : Nat) => .int (lo + (i : Int))) := fun Z' H' s _ => by
  refine ⟨fun i hi => (by simpa using hi : i < n), fun i hi => (by simpa using hi : n ≤ i), fun i v H'' d y hd => ?_⟩
  obtain ⟨rfl, rfl⟩ := y
  refine ⟨Same.refl _, ?_⟩
  rw [List.getElem?_map] at hd
  cases e : (List.range n)[i]? with
  | none => rw [e] at hd; cases hd
  | some j =>
    rw [e] at hd
    obtain ⟨hi, e1⟩ := List.getElem?_eq_some_iff.mp e
    rw [List.getElem_range] at e1
    subst e1
    cases hd
    exact .int _
def enumD (ds : List D) : List D := ds.zipIdx.map fun p => .tuple [.int (p.2 : Int), p.1]
theorem it_enum {Hs : Hp} {a : Addr} {xs : List V} {ds : List D} (h1 : Rd Hs a (.lst xs)) (h2 : DpAll K Hs xs ds) : ItOk K Hs (Ite K a) (enumD ds) := fun Z' H' s live => by
  have q : SqL K H' a xs := .inl (Rd.same (s.trans hide_sub) h1)
  have hl : (enumD ds).length = xs.length := by
    unfold enumD
    rw [List.length_map, List.length_zipIdx, h2.length]
  refine ⟨fun i hi => ⟨xs, xs[i]'(by rw [← hl]; exact hi), q, List.getElem?_eq_getElem _⟩, fun i hi => ⟨xs, q, by rw [← hl]; exact hi⟩, fun i x H'' d y hd => ?_⟩
  obtain ⟨T, z, rfl, nT, rfl, y⟩ := y
  have e3 := y xs q
  obtain ⟨d', e1, e2⟩ := h2.get' e3
  unfold enumD at hd
  rw [List.getElem?_map, List.getElem?_zipIdx, e1] at hd
  cases hd
  have nz : ¬ Z' T := fun z => live T z nT
  refine ⟨same_upd nT, .tup (SqT.of (hide_at nz upd_same)) (.cons ?_ (.cons ?_ .nil))⟩
  · rw [Nat.zero_add]
    exact .int _
  · exact Dp.same (s.trans (hide_mono (same_upd nT) fun _ h => .inl h)) e2
theorem di_seq (he : DE X Cl W e f) : DIt X Cl W tg e (iSeq f) := PI.imp (DL.PI.or (pi_list he) (DL.PI.or (pi_tup he) (pi_str he))) fun σ H R ⟨Z, ρ, r, I, e, q⟩ => by
  unfold iSeq at e
  cases e1 : f ρ with
  | none => rw [e1] at e; cases e
  | some r1 =>
    rw [e1] at e
    cases r1 with
    | error er =>
      cases e
      exact .inl ⟨Z, ρ, _, I, e1, q⟩
    | ok v =>
      dsimp only at e
      split at e
      · rename_i ds
        cases e
        refine .inl ⟨Z, ρ, _, I, e1, fun x H1 s hv => ?_⟩
        obtain ⟨a, xs, rfl, h1, h2⟩ := Dp.lst_inv (show Dp X.K (hide H1 (Zo Z σ ρ)) x (.list ds) from hv)
        exact ⟨a, rfl, ⟨xs, .inl (Rd.same hide_sub h1)⟩, q _ H1 s (it_list h1 h2)⟩
      · rename_i ds
        cases e
        refine .inr (.inl ⟨Z, ρ, _, I, e1, fun x H1 s hv => ?_⟩)
        obtain ⟨a, xs, rfl, h1, h2⟩ := Dp.tup_inv (show Dp X.K (hide H1 (Zo Z σ ρ)) x (.tuple ds) from hv)
        exact ⟨a, rfl, ⟨xs, SqT.same hide_sub h1⟩, q _ H1 s (it_tup h1 h2)⟩
      · rename_i y
        cases e
        refine .inr (.inr ⟨Z, ρ, _, I, e1, fun x H1 s hv => ?_⟩)
        exact ⟨y, (show Dp X.K (hide H1 (Zo Z σ ρ)) x (.str y) from hv).str_inv, q _ H1 s it_str⟩
      · rename_i ds
        cases e
        refine .inl ⟨Z, ρ, _, I, e1, fun x H1 s hv => ?_⟩
        obtain ⟨a, xs, rfl, n, h1, h2⟩ := hv
        have np : ¬ Zo Z σ ρ a := fun z => I.liveZ z n
        exact ⟨a, rfl, ⟨xs, SqL.of h1⟩, q _ H1 s (it_list (Rd.of (hide_at np h1)) (DpAll.same (hide_mono (Same.refl _) fun _ h => .inl (.inl h)) h2))⟩
      · cases e
def rangeD (lo : Int) (n : Nat) : List D := (List.range n).map fun (i : Nat) => .int (lo + (i : Int))
def cRng (j : Int) : Bool := decide (-(2 ^ 62) ≤ j) && decide (j < 2 ^ 62)
theorem cRng_ok {j : Int} (h : cRng j = true) : -(2 ^ 62) ≤ j ∧ j < 2 ^ 62 := by
  simp only [cRng, Bool.and_eq_true, decide_eq_true_eq] at h
  exact h
@[simp] def iRange1 (g : FA) (ρ : Rho) : Option (Except Er (List D)) := match g ρ with
  | none => none
  | some (.error e) => some (.error e)
  | some (.ok vs) => match vs with
    | [v] => match v.d with
      | .int j => if cRng j = true then some (.ok (rangeD 0 j.toNat)) else none
      | _ => none
    | _ => none
@[simp] def iRange2 (g : FA) (ρ : Rho) : Option (Except Er (List D)) := match g ρ with
  | none => none
  | some (.error e) => some (.error e)
  | some (.ok vs) => match vs with
    | [v, u] => match v.d, u.d with
      | .int i, .int j => if (cRng i && cRng j) = true then some (.ok (rangeD i (j - i).toNat)) else none
      | _, _ => none
    | _ => none
theorem di_range1 {a : Expr} (hm : X.mg "range" = none) (ha : DA X Cl W [a] g) (hg : Gl X "range" := by rfl) (hs : starEach [a] X.env = [(false, eval a X.env)] := by rfl) : DIt X Cl W tg (.Call (.Name "range" p) [a] [] pos) (iRange1 g) :=
  PI.imp (pi_range1 hg hm ha hs) fun σ H R ⟨Z, ρ, r, I, e, q⟩ => by
    unfold iRange1 at e
    cases e1 : g ρ with
    | none => rw [e1] at e; cases e
    | some r1 =>
      rw [e1] at e
      refine ta_step I e1 (fun er z => ?_) fun vs xs H1 ev s1 hvs I1 => ?_
      · subst z
        cases e
        exact q
      · subst ev
        dsimp only at e
        split at e
        · rename_i v
          obtain ⟨x, rfl, h⟩ := hvs.one
          split at e
          · rename_i j ej
            split at e
            · rename_i hc
              cases e
              obtain ⟨h1, h2⟩ := cRng_ok hc
              exact ⟨j, by rw [h.int_inv I ej], h1, h2, q _ H1 s1 it_range⟩
            · cases e
          · cases e
        · cases e
theorem di_range2 {a b : Expr} (hm : X.mg "range" = none) (ha : DA X Cl W [a, b] g) (hg : Gl X "range" := by rfl) (hs : starEach [a, b] X.env = [(false, eval a X.env), (false, eval b X.env)] := by rfl) (hs2 : starEach [b] X.env = [(false, eval b X.env)] := by rfl) :
    DIt X Cl W tg (.Call (.Name "range" p) [a, b] [] pos) (iRange2 g) :=
  PI.imp (pi_range2 hg hm ha hs hs2) fun σ H R ⟨Z, ρ, r, I, e, q⟩ => by
    unfold iRange2 at e
    cases e1 : g ρ with
    | none => rw [e1] at e; cases e
    | some r1 =>
      rw [e1] at e
      refine ta_step I e1 (fun er z => ?_) fun vs xs H1 ev s1 hvs I1 => ?_
      · subst z
        cases e
        exact q
      · subst ev
        dsimp only at e
        split at e
        · rename_i v u
          obtain ⟨x, y, rfl, h, h'⟩ := hvs.two
          split at e
          · rename_i i j ei ej
            split at e
            · rename_i hc
              cases e
              obtain ⟨c1, c2⟩ := Bool.and_eq_true_iff.mp hc
              obtain ⟨h1, h2⟩ := cRng_ok c1
              obtain ⟨h3, h4⟩ := cRng_ok c2
              exact ⟨i, j, by rw [h.int_inv I ei, h'.int_inv I ej], ⟨h1, h2, h3, h4⟩, q _ H1 s1 it_range⟩
            · cases e
          · cases e
        · cases e
@[simp] def iEnumD (g : FA) (ρ : Rho) : Option (Except Er (List D)) := match g ρ with
  | none => none
  | some (.error e) => some (.error e)
  | some (.ok vs) => match vs with
    | [.s (.list ds)] => some (.ok (enumD ds))
    | [.f ds] => some (.ok (enumD ds))
    | _ => none
theorem di_enum {elts : List Expr} {kk : Nat} {tpos : Pos} (hm : X.mg "enumerate" = none) (ha : DA X Cl W [e] g) (hg : Gl X "enumerate" := by rfl) (hs : starEach [e] X.env = [(false, eval e X.env)] := by rfl) :
    DIt X Cl W (.Tuple elts kk tpos) (.Call (.Name "enumerate" p) [e] [] pos) (iEnumD g) :=
  PI.imp (pi_enum hg hm ha hs) fun σ H R ⟨Z, ρ, r, I, e, q⟩ => by
    unfold iEnumD at e
    cases e1 : g ρ with
    | none => rw [e1] at e; cases e
    | some r1 =>
      rw [e1] at e
      refine ta_step I e1 (fun er z => ?_) fun vs xs H1 ev s1 hvs I1 => ?_
      · subst z
        cases e
        exact q
      · subst ev
        dsimp only at e
        split at e
        · rename_i ds
          cases e
          obtain ⟨x, rfl, h⟩ := hvs.one
          obtain ⟨a, ys, rfl, h1, h2⟩ := Dp.lst_inv (show Dp X.K (hide H1 (Zo Z σ ρ)) x (.list ds) from h)
          exact ⟨a, ys, rfl, .inl (Rd.same hide_sub h1), q _ H1 s1 (it_enum h1 h2)⟩
        · rename_i ds
          cases e
          obtain ⟨x, rfl, h⟩ := hvs.one
          obtain ⟨a, ys, rfl, n, h1, h2⟩ := h
          have np : ¬ Zo Z σ ρ a := fun z => I.liveZ z n
          exact ⟨a, ys, rfl, SqL.of h1, q _ H1 s1 (it_enum (Rd.of (hide_at np h1)) (DpAll.same (hide_mono (Same.refl _) fun _ h => .inl (.inl h)) h2))⟩
        · cases e

/-! ### for -/
def forL (g : FG) (body : FS) : List D → FS
  | [], ρ => some (.nx ρ)
  | d :: ds, ρ => match g d ρ with
    | none => none
    | some ρ1 => match body ρ1 with
      | some (.nx ρ2) => forL g body ds ρ2
      | some (.ct ρ2) => forL g body ds ρ2
      | some (.brk ρ2) => some (.nx ρ2)
      | r => r
@[simp] def fFor (it : FI) (g : FG) (body : FS) (ρ : Rho) : Option Out := match it ρ with
  | none => none
  | some (.error e) => some (.exc ρ e.1 e.2)
  | some (.ok ds) => forL g body ds ρ
open Classical in
/-- the heap without the slots' own lists -/
noncomputable def unown (H : Hp) (σ : St) (ρ : Rho) : Hp := fun b => if Owned σ ρ b then none else H b
theorem unown_of {H : Hp} {σ : St} {ρ : Rho} {b : Addr} {o : HO} (h : unown H σ ρ b = some o) : ¬ Owned σ ρ b ∧ H b = some o := by
  unfold unown at h
  split at h
  · cases h
  · rename_i n
    exact ⟨n, h⟩
theorem unown_at {H : Hp} {σ : St} {ρ : Rho} {b : Addr} {o : HO} (n : ¬ Owned σ ρ b) (h : H b = some o) : unown H σ ρ b = some o := by
  unfold unown
  rw [if_neg n]
  exact h
theorem SI.based {H0 : Hp} {Z : Addr → Prop} {H : Hp} {σ : St} {ρ : Rho} (I : SI K H0 Z H σ ρ) : Same H0 (unown H σ ρ) ∧ SI K (unown H σ ρ) Z H σ ρ := by
  refine ⟨fun b o e => unown_at (fun z => by rw [I.new b z] at e; cases e) (I.same b o e), I.di, fun b o e => (unown_of e).2, fun a h => ?_⟩
  unfold DL.unown
  rw [if_pos h]
/-- what was stable at the loop's start stands at each turn -/
theorem SI.kept {Z : Addr → Prop} {H H' : Hp} {σ σ' : St} {ρ ρ' : Rho} (I : SI K (unown H σ ρ) Z H' σ' ρ') : Same (hide H (Zo Z σ ρ)) (hide H' (Zo Z σ' ρ')) := fun b o e => by
  obtain ⟨n, e1⟩ := hide_of e
  have e2 := unown_at (fun z => n (.inr z)) e1
  refine hide_at (fun z => z.elim (fun z => n (.inl z)) fun z => ?_) (I.same b o e2)
  rw [I.new b z] at e2
  cases e2
theorem ds_for {it : FI} {g : FG} {body : List Stmt} {fb : FS} (hp : PassesOwn (model X.prog X.w) X.A X.env X.xe) (hc : X.calm = true) (hi : DIt X Cl W tg e it) (hg : DG X tg g) (hb : DSs X Cl W body fb)
    (hs : ∀ x, foldedSetIterable e X.env x = pure x := by intro _; rfl) : DS X Cl W (.For tg e body [] pos) (fFor it g fb) := PS.imp (ps_for hp hc hi hg hb hs) fun D σ H ⟨H0, Z, ρ, o, I, e, q⟩ => by
  unfold fFor at e
  cases e1 : it ρ with
  | none => rw [e1] at e; cases e
  | some r1 =>
    rw [e1] at e
    refine ⟨Z, ρ, r1, I.di, e1, ?_⟩
    cases r1 with
    | error er =>
      cases e
      exact OOk.err I q
    | ok ds =>
      dsimp only at e
      intro J H1 s1 hJ
      have I1 := I.same' s1
      obtain ⟨b0, I2⟩ := I1.based
      have q2 := q.rebase b0
      refine ⟨fun i m σ' H' => ∃ ρ', SI X.K (unown H1 σ ρ) Z H' σ' ρ' ∧ forL g fb (ds.drop i) ρ' = some o ∧ m = ds.length - i ∧ i ≤ ds.length, ⟨_, ρ, I2, e, rfl, Nat.zero_le _⟩, fun i m σ' H' => ?_⟩
      rintro ⟨ρ', I', e', rfl, hi⟩
      obtain ⟨go, stop, yld⟩ := hJ (Zo Z σ' ρ') H' I'.kept (fun b z => I'.di.liveZ z)
      by_cases hlt : i < ds.length
      · refine .inr ⟨go i hlt, fun σ3 H3 => ∃ ρ3, SI X.K (unown H1 σ ρ) Z H3 σ3 ρ3 ∧ forL g fb (ds.drop (i + 1)) ρ3 = some o, fun σ3 H3 ⟨ρ3, I3, e3⟩ => ⟨ds.length - (i + 1), by omega, ρ3, I3, e3, rfl, hlt⟩, fun x H'' y => ?_⟩
        have hd : ds[i]? = some ds[i] := List.getElem?_eq_getElem hlt
        obtain ⟨s2, hx⟩ := yld i x H'' _ y hd
        rw [List.drop_eq_getElem_cons hlt] at e'
        unfold forL at e'
        cases eg : g ds[i] ρ' with
        | none => rw [eg] at e'; cases e'
        | some ρ1 =>
          rw [eg] at e'
          dsimp only at e'
          refine ⟨_, Z, ρ', ds[i], ρ1, I'.same' s2, hx, eg, fun σ1 I1' => ?_⟩
          cases eb : fb ρ1 with
          | none => rw [eb] at e'; cases e'
          | some ob =>
            rw [eb] at e'
            refine ⟨_, Z, ρ1, ob, I1', eb, ?_⟩
            cases ob with
            | nx ρ2 => exact fun σ3 H3 I3 => ⟨ρ2, I3, e'⟩
            | ct ρ2 => exact fun σ3 H3 I3 => ⟨ρ2, I3, e'⟩
            | brk ρ2 => cases e'; exact fun σ3 H3 I3 => q2 σ3 H3 I3
            | ret d => cases e'; exact q2
            | retF ds => cases e'; exact q2
            | retX ds k => cases e'; exact q2
            | exc ρ2 c i => cases e'; exact q2
      · have hie : i = ds.length := by omega
        subst hie
        rw [List.drop_length] at e'
        cases e'
        exact .inl ⟨stop _ (Nat.le_refl _), q2 σ' H' I'⟩

/-! ### while -/
def whileL (t : FT) (body : FS) : Nat → FS
  | 0, _ => none
  | n + 1, ρ => match t ρ with
    | none => none
    | some (.error e) => some (.exc ρ e.1 e.2)
    | some (.ok false) => some (.nx ρ)
    | some (.ok true) => match body ρ with
      | some (.nx ρ2) => whileL t body n ρ2
      | some (.ct ρ2) => whileL t body n ρ2
      | some (.brk ρ2) => some (.nx ρ2)
      | r => r
theorem whileL_mono {t : FT} {body : FS} : ∀ {n : Nat} {ρ : Rho} {o : Out} (m : Nat), whileL t body n ρ = some o → n ≤ m → whileL t body m ρ = some o
  | 0, _, _, _, h, _ => by cases h
  | n + 1, ρ, o, m, h, hm => by
    obtain ⟨k, rfl⟩ : ∃ k, m = k + 1 := ⟨m - 1, by omega⟩
    unfold whileL at h ⊢
    cases e : t ρ with
    | none => rw [e] at h; cases h
    | some r =>
      rw [e] at h
      cases r with
      | error er => exact h
      | ok b =>
        cases b with
        | false => exact h
        | true =>
          dsimp only at h ⊢
          cases eb : body ρ with
          | none => rw [eb] at h; cases h
          | some ob =>
            rw [eb] at h
            cases ob with
            | nx ρ2 => exact whileL_mono k h (by omega)
            | ct ρ2 => exact whileL_mono k h (by omega)
            | brk ρ2 => exact h
            | ret d => exact h
            | retF ds => exact h
            | retX ds k => exact h
            | exc ρ2 c i => exact h
/-- more turns than anything here takes -/
def fuel : Nat := 2 ^ 64
def fWhile (t : FT) (body : FS) : FS := whileL t body fuel
theorem ds_while {c : Expr} {t : FT} {body : List Stmt} {fb : FS} (hp : PassesOwn (model X.prog X.w) X.A X.env X.xe) (hc : DT X Cl W c t) (hb : DSs X Cl W body fb) : DS X Cl W (.While c body [] pos) (fWhile t fb) := PS.imp (ps_while hp hc hb) fun D σ H ⟨H0, Z, ρ, o, I, e, q⟩ => by
  refine ⟨fun m σ' H' => ∃ ρ', SI X.K H0 Z H' σ' ρ' ∧ whileL t fb m ρ' = some o, ⟨fuel, ρ, I, e⟩, fun m σ' H' => ?_⟩
  rintro ⟨ρ', I', e'⟩
  cases m with
  | zero => cases e'
  | succ n =>
    unfold whileL at e'
    cases et : t ρ' with
    | none => rw [et] at e'; cases e'
    | some r1 =>
      rw [et] at e'
      refine tt_step I'.di et (fun er z => ?_) fun b H1 ev s1 I1 => ?_
      · subst z
        cases e'
        exact OOk.err I' q
      · subst ev
        cases b with
        | false =>
          rw [if_neg Bool.false_ne_true]
          cases e'
          exact q σ' H1 (I'.same' s1)
        | true =>
          rw [if_pos rfl]
          dsimp only at e'
          refine ⟨fun σ3 H3 => ∃ ρ3, SI X.K H0 Z H3 σ3 ρ3 ∧ whileL t fb n ρ3 = some o, fun σ3 H3 h => ⟨n, Nat.lt_succ_self n, h⟩, ?_⟩
          cases eb : fb ρ' with
          | none => rw [eb] at e'; cases e'
          | some ob =>
            rw [eb] at e'
            refine ⟨H0, Z, ρ', ob, I'.same' s1, eb, ?_⟩
            cases ob with
            | nx ρ2 => exact fun σ3 H3 I3 => ⟨ρ2, I3, e'⟩
            | ct ρ2 => exact fun σ3 H3 I3 => ⟨ρ2, I3, e'⟩
            | brk ρ2 => cases e'; exact fun σ3 H3 I3 => q σ3 H3 I3
            | ret d => cases e'; exact q
            | retF ds => cases e'; exact q
            | retX ds k => cases e'; exact q
            | exc ρ2 c i => cases e'; exact q

/-! ### a def, and its call -/
inductive DOut where
  | ret (d : D) | retF (ds : List D) | retX (ds : List D) (k : Nat) | exc (c : Nat) (i : Int)
abbrev DF := List D → Option DOut
def DOk (K : PySem.W.Frag) (Cl : Nat → Addr) (Z : Addr → Prop) (H : Hp) (Q : VK) (E : XK) : DOut → Prop
  | .ret d => ∀ v H', Same H H' → Dp K (hide H' Z) v d → Q v H'
  | .retF ds => ∀ p xs H', Same H H' → H p = none → H' p = some (.lst xs) → DpAll K (hide H' (ZP Z p)) xs ds → Q (.ref p) H'
  | .retX ds k => ∀ T p xs ys H', Same H H' → SqT K (hide H' Z) T xs → DpAll K (hide H' Z) xs ds → xs[k]? = some (.ref p) → H p = none → H' p = some (.lst ys) → Q (.ref T) H'
  | .exc c i => ∀ dd H', Same H H' → H' dd = some (.xd [(("at" : Str), .int i)]) → E (.ref (Cl c)) (some dd) H'
def spD (K : PySem.W.Frag) (Cl : Nat → Addr) (n : Nat) (F : DF) : Sp := fun vs H Q E => ∃ Z ds o, (∀ b, Z b → H b ≠ none) ∧ DpAll K (hide H Z) vs ds ∧ ds.length = n ∧ F ds = some o ∧ DOk K Cl Z H Q E o
/-- the def with n parameters and k names whose body is f -/
def mkD (n k : Nat) (f : FS) : DF := fun ds => match f (ds.map .dat ++ List.replicate (k - n) .un) with
  | some (.nx _) => some (.ret .none)
  | some (.ret d) => some (.ret d)
  | some (.retF ds) => some (.retF ds)
  | some (.retX ds k) => some (.retX ds k)
  | some (.exc _ c i) => some (.exc c i)
  | _ => none
theorem DI.start {Z : Addr → Prop} {H : Hp} {vs : List V} {ds : List D} {m : Nat} (live : ∀ b, Z b → H b ≠ none) (h : DpAll K (hide H Z) vs ds) : DI K Z H (vs.map some ++ List.replicate m none) (ds.map .dat ++ List.replicate m .un) := by
  have no : ∀ i a, ¬ OwnAt (vs.map some ++ List.replicate m none) (ds.map .dat ++ List.replicate m .un) i a := fun i a ⟨_, es, h2⟩ => by
    rw [List.getElem?_append] at h2
    split at h2
    · rw [List.getElem?_map] at h2
      cases e : ds[i]? with
      | none => rw [e] at h2; cases h2
      | some d => rw [e] at h2; cases h2
    · rw [List.getElem?_replicate] at h2
      split at h2 <;> cases h2
  have hl := h.length
  refine ⟨by simp [hl], fun i j a h1 => absurd h1 (no i a), fun a ⟨i, z⟩ => absurd z (no i a), live, fun i s e => ?_⟩
  have hm : Same (hide H Z) (hide H (Zo Z (vs.map some ++ List.replicate m none) (ds.map .dat ++ List.replicate m .un))) := hide_mono (Same.refl _) fun b hb => .inl (hb.elim id fun ⟨j, z⟩ => absurd z (no j b))
  rw [List.getElem?_append] at e
  split at e
  · rename_i hi
    rw [List.length_map] at hi
    rw [List.getElem?_map] at e
    cases e1 : ds[i]? with
    | none => rw [e1] at e; cases e
    | some d =>
      rw [e1] at e
      cases e
      obtain ⟨v, e2, e3⟩ := h.get e1
      refine ⟨v, ?_, Dp.same hm e3⟩
      rw [List.getElem?_append_left (by rw [List.length_map, hl]; exact hi), List.getElem?_map, e2]
      rfl
  · rw [List.getElem?_replicate] at e
    split at e
    · cases e; trivial
    · cases e
theorem def_ok {P : Program} {w : World} {mg : Str → Option Value} {base : Heap} {x qual : Str} {st : Stmt} {fa : Addr} {fd : FuncData} {N ps : List Str} {k n m : Nat} {fb : FS} (F : Fun K x qual st fa fd) (S : FnScope N ps (defScope st)) (hn : ps.length = n) (hm : N.length = m)
    (h : ∀ (cdv : Value) (A : Around) (outer : List Env) (s : Shared) (H : Hp) (E : XK), Room k (A.deeper (envOfC qual (defScope st) s.heap.objs.size fa cdv)) →
      DSs (cxOf (L2.CX P w) P w K mg base N qual (defScope st) fa cdv A outer s H E) Cl (fun cls d _ H' => E cls d H') (defBody st) fb) : FnOk P w K mg base (L2.CX P w) (k + 1) fa fd ps (spD K Cl n (mkD n m fb)) := by
  refine F.okX S (fun vs H Q E ⟨Z, ds, o, _, h1, h2, _⟩ => by rw [h1.length, h2, hn]) (fun cdv A outer s H vs Q E hr hsp => ⟨_, h cdv A outer s H E hr, ?_⟩)
  obtain ⟨Z, ds, o, live, h1, h2, e, q⟩ := hsp
  unfold mkD at e
  have hst : L2.start N vs = vs.map some ++ List.replicate (m - n) none := by
    unfold L2.start
    rw [hm, h1.length, h2]
  rw [hst]
  cases eb : fb (ds.map .dat ++ List.replicate (m - n) .un) with
  | none => rw [eb] at e; cases e
  | some ob =>
    rw [eb] at e
    have I := DI.start (m := m - n) live h1
    have noO : ∀ a, Owned (vs.map some ++ List.replicate (m - n) none) (ds.map .dat ++ List.replicate (m - n) .un) a → H a = none := fun a ⟨i, _, es, h2⟩ => by
      rw [List.getElem?_append] at h2
      split at h2
      · rw [List.getElem?_map] at h2
        cases e : ds[i]? with
        | none => rw [e] at h2; cases h2
        | some d => rw [e] at h2; cases h2
      · rw [List.getElem?_replicate] at h2
        split at h2 <;> cases h2
    refine ⟨H, Z, _, ob, ⟨I, Same.refl _, noO⟩, eb, ?_⟩
    cases ob with
    | nx ρ => cases e; exact fun σ' H' I' => q .non H' I'.same .non
    | ret d => cases e; exact q
    | retF es => cases e; exact q
    | retX ds k => cases e; exact q
    | exc ρ c i => cases e; exact fun dd σ' H' I' hd => q dd H' I'.same hd
    | brk ρ => cases e
    | ct ρ => cases e
/-- a call -/
@[simp] def eCall (F : DF) (n : Nat) (g : FA) (ρ : Rho) : Option (Except Er Val) := match g ρ with
  | none => none
  | some (.error e) => some (.error e)
  | some (.ok vs) => if vs.length = n then match F (vs.map Val.d) with
    | none => none
    | some (.exc c i) => some (.error (c, i))
    | some (.ret d) => match stAll vs with
      | some _ => some (.ok (.s d))
      | none => some (.ok (.m d))
    | some (.retX ds _) => match stAll vs with
      | some _ => some (.ok (.s (.tuple ds)))
      | none => some (.ok (.m (.tuple ds)))
    | some (.retF ds) => match stAll vs with
      | some _ => some (.ok (.f ds))
      | none => if ds.all scalarD = true then some (.ok (.f ds)) else some (.ok (.m (.list ds))) else none
theorem stAll_d : ∀ {vs : List Val} {ds : List D}, stAll vs = some ds → vs.map Val.d = ds
  | [], _, e => by cases e; rfl
  | v :: vs, ds, e => by
    simp only [stAll] at e
    split at e
    · rename_i d es e1 e2
      cases e
      rw [List.map_cons, stAll_d e2]
      congr 1
      cases v with
      | s d' => cases e1; rfl
      | m d' =>
        simp only [Val.st] at e1
        split at e1
        · cases e1; rfl
        · cases e1
      | b ds => cases e1
      | f ds => cases e1; rfl
    · cases e
theorem de_call {n k : Nat} {F : DF} {fa : Addr} {fd : FuncData} {ps : List Str} {x : Str} (G : FnOk X.prog X.w X.K X.mg X.base (L2.CX X.prog X.w) k fa fd ps (spD X.K Cl n F)) (tk : Takes X W) (hr : Room k X.A) (hm : X.mg x = some (.ref fa)) (hk : PySem.W.keepIn X.K (.ref fa) = true) (hb : Binds X.K fd ps [])
    (ha : DA X Cl W (e :: es) g) (hg : Gl X x := by rfl) (hdb : (x == ("__debug__" : Str)) = false := by decide) (he : starEach (e :: es) X.env = (false, eval e X.env) :: starEach es X.env := by rfl) (hpl : (backTo pos (starEach es X.env)).any (·.1) = false := by rfl) :
    DE X Cl W (.Call (.Name x p) (e :: es) [] pos) (eCall F n g) := PE.imp (pe_callS (E := WE W) G hr hg hm hk hb (fun σ => passAt tk σ) ha hdb he hpl) fun σ H Q ⟨Z, ρ, r, I, e, q⟩ => by
  unfold eCall at e
  cases e1 : g ρ with
  | none => rw [e1] at e; cases e
  | some r1 =>
    rw [e1] at e
    refine ta_step I e1 (fun er z => ?_) fun vs xs H1 ev s1 hvs I1 => ?_
    · subst z
      cases e
      exact q
    · subst ev
      dsimp only at e
      split at e
      · rename_i hn
        cases eF : F (vs.map Val.d) with
        | none => rw [eF] at e; cases e
        | some o =>
          rw [eF] at e
          cases es : stAll vs with
          | some ds =>
            have ed := stAll_d es
            refine ⟨Zo Z σ ρ, ds, o, fun b z => I1.liveZ z, hvs.stab I es, by rw [stAll_len es]; exact hn, by rw [← ed]; exact eF, ?_⟩
            cases o with
            | exc c i => cases e; exact fun dd H' s hd => q dd H' (s1.trans s) hd
            | ret d =>
              rw [es] at e
              cases e
              exact fun v H' s hd => q v H' (s1.trans s) hd
            | retX gs k =>
              rw [es] at e
              cases e
              exact fun T p xs ys H' s h1 h2 _ _ _ => q _ H' (s1.trans s) (.tup h1 h2)
            | retF gs =>
              rw [es] at e
              cases e
              exact fun p xs H' s n h2 h3 => q _ H' (s1.trans s) ⟨p, xs, rfl, s1.free n, h2, h3⟩
          | none =>
            refine ⟨Z, vs.map Val.d, o, fun b z => I1.live b z, hvs.dp I, by rw [List.length_map]; exact hn, eF, ?_⟩
            cases o with
            | exc c i => cases e; exact fun dd H' s hd => q dd H' (s1.trans s) hd
            | ret d =>
              rw [es] at e
              cases e
              exact fun v H' s hd => q v H' (s1.trans s) hd
            | retX gs k =>
              rw [es] at e
              cases e
              exact fun T p xs ys H' s h1 h2 _ _ _ => q _ H' (s1.trans s) (.tup h1 h2)
            | retF gs =>
              rw [es] at e
              dsimp only at e
              split at e
              · rename_i sc
                cases e
                exact fun p xs H' s n h2 h3 => q _ H' (s1.trans s) ⟨p, xs, rfl, s1.free n, h2, DpAll.scalar sc h3⟩
              · cases e
                intro p xs H' s n h2 h3
                have np : ¬ Z p := fun z => I1.live p z n
                exact q _ H' (s1.trans s) (.lst (Rd.of (hide_at np h2)) (DpAll.same (hide_mono (Same.refl _) fun _ h => .inl (.inl h)) h3))
      · cases e
end
end DL
set_option Elab.async false
set_option linter.all false
set_option maxRecDepth 100000
set_option maxHeartbeats 4000000
/-! DL7: comprehensions, by data. -/
namespace DL
open PySem PySem.Spec PyProof.Rows L2
section
variable {X : Cx} {Cl : Nat → Addr} {W : WX} {K : PySem.W.Frag}
abbrev W0 : WX := fun _ _ _ _ => False
@[simp] def noOwn (ρ : Rho) (vs : List Nat) : Bool := vs.all fun v => match ρ[v]? with
  | some (.own _) => false
  | _ => true
@[simp] def wipeR (ρ : Rho) : List Nat → Rho
  | [] => ρ
  | v :: vs => (wipeR ρ vs).set v .un
/-- the items that a comprehension makes; st: the slots at an item -/
def lcL (tt : FT) (fe : FE) (st : D → Option Rho) : List D → Option (List D)
  | [] => some []
  | d :: r => match st d with
    | none => none
    | some ρ => match tt ρ with
      | some (.ok true) => match fe ρ with
        | some (.ok v) => match v.st with
          | some y => (lcL tt fe st r).map (y :: ·)
          | none => none
        | _ => none
      | some (.ok false) => lcL tt fe st r
      | _ => none
@[simp] def eLcG (vs : List Nat) (st : Rho → D → Option Rho) (it : FI) (tt : FT) (fe : FE) (ρ : Rho) : Option (Except Er Val) := if noOwn ρ vs = true then match it ρ with
  | none => none
  | some (.error e) => some (.error e)
  | some (.ok ds) => match lcL tt fe (st (wipeR ρ vs)) ds with
    | some es => if lineOk es.length = true then some (.ok (.f es)) else none
    | none => none else none
theorem own_wipe {σ : St} {ρ : Rho} {i : Nat} {a : Addr} : ∀ {vs : List Nat}, OwnAt (wipe σ vs) (wipeR ρ vs) i a → i ∉ vs ∧ OwnAt σ ρ i a
  | [], h => ⟨by simp, h⟩
  | v :: vs, h => by
    unfold wipe wipeR at h
    have q := own_wipe (own_sub (s := .un) (fun _ z => by cases z) h)
    refine ⟨fun m => ?_, q.2⟩
    rcases List.mem_cons.mp m with e | m
    · subst e
      obtain ⟨_, es, h2⟩ := h
      rw [List.getElem?_set, if_pos rfl] at h2
      split at h2 <;> cases h2
    · exact q.1 m
theorem wipeR_out {ρ : Rho} {i : Nat} : ∀ {vs : List Nat}, i ∉ vs → (wipeR ρ vs)[i]? = ρ[i]?
  | [], _ => rfl
  | v :: vs, h => by
    have h1 : v ≠ i := fun e => h (by rw [e]; exact List.mem_cons_self)
    unfold wipeR
    rw [List.getElem?_set_ne h1]
    exact wipeR_out fun m => h (List.mem_cons_of_mem _ m)
theorem wipeS_out {σ : St} {i : Nat} : ∀ {vs : List Nat}, i ∉ vs → (wipe σ vs)[i]? = σ[i]?
  | [], _ => rfl
  | v :: vs, h => by
    have h1 : v ≠ i := fun e => h (by rw [e]; exact List.mem_cons_self)
    unfold wipe
    rw [List.getElem?_set_ne h1]
    exact wipeS_out fun m => h (List.mem_cons_of_mem _ m)
theorem wipeR_length (ρ : Rho) : ∀ vs : List Nat, (wipeR ρ vs).length = ρ.length
  | [] => rfl
  | v :: vs => by unfold wipeR; rw [List.length_set, wipeR_length ρ vs]
theorem own_unwipe {σ : St} {ρ : Rho} {i : Nat} {a : Addr} {vs : List Nat} (h : noOwn ρ vs = true) (o : OwnAt σ ρ i a) : OwnAt (wipe σ vs) (wipeR ρ vs) i a := by
  have hn : i ∉ vs := fun m => by
    have q := List.all_eq_true.mp h i m
    obtain ⟨_, es, h2⟩ := o
    rw [h2] at q
    cases q
  obtain ⟨h1, es, h2⟩ := o
  exact ⟨by rw [wipeS_out hn]; exact h1, es, by rw [wipeR_out hn]; exact h2⟩
/-- within a comprehension's turn: the new list is hidden -/
theorem DI.blk {Z : Addr → Prop} {H1 H : Hp} {σ : St} {ρ : Rho} {vs : List Nat} {L : Addr} {acc : List V} (I : DI K Z H1 σ ρ) (hn : noOwn ρ vs = true) (s : Same H1 H) (nL : H1 L = none) (hL : H L = some (.lst acc)) : DI K (ZP Z L) H (wipe σ vs) (wipeR ρ vs) := by
  have I' := I.same s
  have hm : Same (hide H1 (Zo Z σ ρ)) (hide H (Zo (ZP Z L) (wipe σ vs) (wipeR ρ vs))) := hide_mono s fun b hb => by
    rcases hb with (hb | rfl) | ⟨j, q⟩
    · exact .inl (.inl hb)
    · exact .inr nL
    · exact .inl (.inr ⟨j, (own_wipe q).2⟩)
  refine ⟨by rw [wipeR_length, wipe_length]; exact I.len, fun i j a h1 h2 => I.one i j a (own_wipe h1).2 (own_wipe h2).2, fun a ⟨j, q⟩ z => ?_, fun a z => ?_, fun i t e => ?_⟩
  · have q2 := (own_wipe q).2
    rcases z with z | rfl
    · exact I.out a ⟨j, q2⟩ z
    · exact I.liveO ⟨j, q2⟩ nL
  · rcases z with z | rfl
    · exact I'.live a z
    · rw [hL]
      intro z; cases z
  · by_cases hi : i ∈ vs
    · have q : ∀ {vs : List Nat}, i ∈ vs → (wipeR ρ vs)[i]? = some t → t = .un := by
        intro vs
        induction vs with
        | nil => intro m; cases m
        | cons v vs ih =>
          intro m e
          unfold wipeR at e
          by_cases hv : v = i
          · subst hv
            rw [List.getElem?_set, if_pos rfl] at e
            split at e
            · exact (Option.some.inj e).symm
            · cases e
          · rw [List.getElem?_set_ne hv] at e
            rcases List.mem_cons.mp m with z | m
            · exact absurd z.symm hv
            · exact ih m e
      rw [q hi e]
      trivial
    · rw [wipeR_out hi] at e
      rw [wipeS_out hi]
      have q := I.slots i t e
      cases t with
      | un => trivial
      | dat d =>
        obtain ⟨v, e1, h1⟩ := q
        exact ⟨v, e1, Dp.same hm h1⟩
      | own ds =>
        obtain ⟨a, xs, e1, e2, h1⟩ := q
        exact ⟨a, xs, e1, s _ _ e2, DpAll.same hm h1⟩
      | err a dd j => exact ⟨q.1, s _ _ q.2⟩
/-- a target of a comprehension: only its own slots change -/
structure LcT (K : PySem.W.Frag) (vs : List Nat) (g : TG) (st : Rho → D → Option Rho) : Prop where
  go : ∀ (Z : Addr → Prop) (σ : St) (ρ ρ' : Rho) (H : Hp) (v : V) (d : D) (Q : St → Hp → Prop), DI K Z H (wipe σ vs) (wipeR ρ vs) → Dp K (hide H (Zo Z (wipe σ vs) (wipeR ρ vs))) v d → st (wipeR ρ vs) d = some ρ' →
    (∀ σ', wipe σ' vs = wipe σ vs → DI K Z H σ' ρ' → Same (hide H (Zo Z (wipe σ vs) (wipeR ρ vs))) (hide H (Zo Z σ' ρ')) → (∀ b, Zo Z (wipe σ vs) (wipeR ρ vs) b → Zo Z σ' ρ' b) → Q σ' H) → g v (wipe σ vs) H Q
theorem lc_read {vs : List Nat} {g : TG} {st : Rho → D → Option Rho} {it : FI} {tt : FT} {fe : FE} {σ : St} {H : Hp} {Q : VK} (T : LcT K vs g st) (h : teOf K Cl W (eLcG vs st it tt fe) σ H Q) : tLc (tiOf K Cl W it) g (ttOf K Cl W0 tt) (teOf K Cl W0 fe) vs σ H Q := by
  obtain ⟨Z, ρ, r, I, e, q⟩ := h
  unfold eLcG at e
  split at e
  · rename_i hno
    cases e1 : it ρ with
    | none => rw [e1] at e; cases e
    | some r1 =>
      rw [e1] at e
      refine ⟨Z, ρ, r1, I, e1, ?_⟩
      cases r1 with
      | error er => cases e; exact q
      | ok ds =>
        dsimp only at e
        intro J H1 s1 hJ L nL
        have I1 := I.same s1
        cases e2 : lcL tt fe (st (wipeR ρ vs)) ds with
        | none => rw [e2] at e; cases e
        | some es =>
          rw [e2] at e
          dsimp only at e
          split at e
          · rename_i hline
            cases e
            have hln := lineOk_ok hline
            refine ⟨fun i m H' => ∃ acc as rest, H' L = some (.lst acc) ∧ Same H1 H' ∧ DpAll K (hide H' (ZP (Zo Z σ ρ) L)) acc as ∧ lcL tt fe (st (wipeR ρ vs)) (ds.drop i) = some rest ∧ as ++ rest = es ∧ m = ds.length - i ∧ i ≤ ds.length,
              ⟨_, [], [], es, upd_same, same_upd nL, .nil, e2, rfl, rfl, Nat.zero_le _⟩, fun i m H' => ?_⟩
            rintro ⟨acc, as, rest, hL, s2, hacc, er, ea, rfl, hi⟩
            have hk : Same (hide H1 (Zo Z σ ρ)) (hide H' (ZP (Zo Z σ ρ) L)) := hide_mono s2 fun b hb => by
              rcases hb with hb | rfl
              · exact .inl hb
              · exact .inr nL
            have hlive : ∀ b, ZP (Zo Z σ ρ) L b → H' b ≠ none := fun b hb => by
              rcases hb with hb | rfl
              · exact (I1.same s2).liveZ hb
              · rw [hL]; intro z; cases z
            obtain ⟨go, stop, yld⟩ := hJ (ZP (Zo Z σ ρ) L) H' hk hlive
            by_cases hlt : i < ds.length
            · refine .inr ⟨go i hlt, fun H3 => ∃ acc as rest, H3 L = some (.lst acc) ∧ Same H1 H3 ∧ DpAll K (hide H3 (ZP (Zo Z σ ρ) L)) acc as ∧ lcL tt fe (st (wipeR ρ vs)) (ds.drop (i + 1)) = some rest ∧ as ++ rest = es,
                fun H3 ⟨acc, as, rest, b1, b2, b3, b4, b5⟩ => ⟨ds.length - (i + 1), by omega, acc, as, rest, b1, b2, b3, b4, b5, rfl, hlt⟩, fun x H'' y => ?_⟩
              have hd : ds[i]? = some ds[i] := List.getElem?_eq_getElem hlt
              obtain ⟨s3, hx⟩ := yld i x H'' _ y hd
              rw [List.drop_eq_getElem_cons hlt] at er
              unfold lcL at er
              cases est : st (wipeR ρ vs) ds[i] with
              | none => rw [est] at er; cases er
              | some ρ' =>
                rw [est] at er
                dsimp only at er
                have B := I1.blk (vs := vs) hno (s2.trans s3) nL (s3 _ _ hL)
                have zeq : ∀ b, Zo (ZP Z L) (wipe σ vs) (wipeR ρ vs) b → ZP (Zo Z σ ρ) L b := fun b hb => by
                  rcases hb with (hb | hb) | ⟨j, z⟩
                  · exact .inl (.inl hb)
                  · exact .inr hb
                  · exact .inl (.inr ⟨j, (own_wipe z).2⟩)
                have zeq2 : ∀ b, ZP (Zo Z σ ρ) L b → Zo (ZP Z L) (wipe σ vs) (wipeR ρ vs) b := fun b hb => by
                  rcases hb with (hb | ⟨j, z⟩) | hb
                  · exact .inl (.inl hb)
                  · exact .inr ⟨j, own_unwipe hno z⟩
                  · exact .inl (.inr hb)
                refine T.go (ZP Z L) σ ρ ρ' H'' x ds[i] _ B (Dp.same (hide_mono (Same.refl _) fun b hb => .inl (zeq b hb)) hx) est fun σ' hw B' hs' hz' => ⟨hw, ?_⟩
                have up4 : ∀ H4, Same H'' H4 → Same H1 H4 := fun H4 s4 => s2.trans (s3.trans s4)
                have acc4 : ∀ H4, Same H'' H4 → DpAll K (hide H4 (ZP (Zo Z σ ρ) L)) acc as := fun H4 s4 => DpAll.same (hide_mono (s3.trans s4) fun _ h => .inl h) hacc
                cases ett : tt ρ' with
                | none => rw [ett] at er; cases er
                | some rt =>
                  rw [ett] at er
                  cases rt with
                  | error _ => cases er
                  | ok b =>
                    refine tt_step B' ett (fun er z => by cases z) fun b1 H3 eb s4 B3 => ?_
                    cases eb
                    cases b with
                    | false =>
                      dsimp only at er
                      rw [if_neg Bool.false_ne_true]
                      exact ⟨acc, as, rest, s4 _ _ (s3 _ _ hL), up4 _ s4, acc4 _ s4, er, ea⟩
                    | true =>
                      dsimp only at er
                      rw [if_pos rfl]
                      cases efe : fe ρ' with
                      | none => rw [efe] at er; cases er
                      | some rf =>
                        rw [efe] at er
                        cases rf with
                        | error _ => cases er
                        | ok v =>
                          dsimp only at er
                          refine te_step B3 efe (fun er z => by cases z) fun v1 y H4 ev s5 hv B4 => ?_
                          cases ev
                          cases est : v.st with
                          | none => rw [est] at er; cases er
                          | some yd =>
                            rw [est] at er
                            dsimp only at er
                            cases el : lcL tt fe (st (wipeR ρ vs)) (ds.drop (i + 1)) with
                            | none => rw [el] at er; cases er
                            | some rest' =>
                              rw [el] at er
                              cases er
                              have s45 := s4.trans s5
                              have hL4 := s45 _ _ (s3 _ _ hL)
                              have hy := hv.stab B3 est
                              have hacc4 := acc4 _ s45
                              refine ⟨acc, hL4, ?_, ?_⟩
                              · have h1 := hacc4.length
                                have h2 := congrArg List.length ea
                                rw [List.length_append, List.length_cons] at h2
                                omega
                              · have hin : ∀ {H5 : Hp} , (∀ b, b ≠ L → H5 b = H4 b) → Same (hide H4 (ZP (Zo Z σ ρ) L)) (hide H5 (ZP (Zo Z σ ρ) L)) := fun {H5} k b o e => by
                                  obtain ⟨n, e1⟩ := hide_of e
                                  exact hide_at n (by rw [k b fun z => n (.inr z)]; exact e1)
                                have k5 : ∀ b, b ≠ L → upd H4 L (.lst (acc ++ [y])) b = H4 b := fun b hb => upd_ne hb
                                have hy2 : Dp K (hide H4 (ZP (Zo Z σ ρ) L)) y yd := Dp.same (hide_mono (Same.refl _) fun b hb => .inl (hz' b (zeq2 b hb))) hy
                                refine ⟨acc ++ [y], as ++ [yd], rest', upd_same, fun b o e => ?_, DpAll.append (DpAll.same (hin k5) hacc4) (.cons (Dp.same (hin k5) hy2) .nil), rfl, by rw [← ea, List.append_assoc]; rfl⟩
                                rw [upd_ne (ne_of_none e nL)]
                                exact up4 _ s45 b o e
            · have hie : i = ds.length := by omega
              subst hie
              rw [List.drop_length] at er
              cases er
              rw [List.append_nil] at ea
              subst ea
              exact .inl ⟨stop _ (Nat.le_refl _), q _ H' (s1.trans s2) ⟨L, acc, rfl, s1.free nL, hL, hacc⟩⟩
          · cases e
  · cases e
/-- one name -/
def st1 (i : Nat) : Rho → D → Option Rho := fun ρ d => some (ρ.set i (.dat d))
theorem zo_dat' {Z : Addr → Prop} {σ : St} {ρ : Rho} {i : Nat} {x : Option V} {d : D} (hn : ∀ ds, ρ[i]? ≠ some (.own ds)) (b : Addr) (h : Zo Z σ ρ b) : Zo Z (σ.set i x) (ρ.set i (.dat d)) b := by
  rcases h with h | ⟨j, h1, ds, h2⟩
  · exact .inl h
  · have hj : i ≠ j := fun e => hn ds (e ▸ h2)
    exact .inr ⟨j, by rw [List.getElem?_set_ne hj]; exact h1, ds, by rw [List.getElem?_set_ne hj]; exact h2⟩
theorem wipeR_no {ρ : Rho} {i : Nat} : ∀ {vs : List Nat}, i ∈ vs → ∀ ds, (wipeR ρ vs)[i]? ≠ some (.own ds)
  | v :: vs, m, ds, e => by
    unfold wipeR at e
    by_cases hv : v = i
    · subst hv
      rw [List.getElem?_set, if_pos rfl] at e
      split at e <;> cases e
    · rw [List.getElem?_set_ne hv] at e
      rcases List.mem_cons.mp m with z | m
      · exact absurd z.symm hv
      · exact wipeR_no m ds e
theorem lct1 {i : Nat} : LcT K [i] (gName i) (st1 i) := ⟨fun Z σ ρ ρ' H v d Q B hd e q => by
  cases e
  refine q _ ?_ (B.setDat hd) zo_dat (zo_dat' (wipeR_no (by simp)))
  show (((σ.set i none).set i (some v)).set i none) = σ.set i none
  rw [List.set_set, List.set_set]⟩
theorem tYes_read {σ : St} {H : Hp} {Q : Bool → Hp → Prop} (h : ttOf K Cl W (fun _ => some (.ok true)) σ H Q) : tYes σ H Q := by
  obtain ⟨Z, ρ, r, I, e, q⟩ := h
  cases e
  exact q H (Same.refl _)
theorem PTs.imp {X : Cx} {ifs : List Expr} {t t' : TT} (h : PTs X ifs t) (i : ∀ σ H Q, t' σ H Q → t σ H Q) : PTs X ifs t' := ⟨fun pins s σ H Q I q => h.run pins s σ H Q I (i σ H Q q)⟩
def DTs (X : Cx) (Cl : Nat → Addr) (W : WX) (ifs : List Expr) (f : FT) : Prop := PTs X ifs (ttOf X.K Cl W f)
theorem dts_nil : DTs X Cl W [] (fun _ => some (.ok true)) := PTs.imp pts_nil fun σ H Q h => tYes_read h
theorem dts_one {c : Expr} {f : FT} (h : DT X Cl W c f) : DTs X Cl W [c] f := pts_one h
variable {elt tg iter : Expr} {ifs : List Expr} {scope : Scope} {own : List (Str × Nat)} {pos : Pos} {it : FI} {g : TG} {tt : FT} {fe : FE} {vs : List Nat} {st : Rho → D → Option Rho}
theorem de_lc (hc : X.calm = true) (hN : X.N.Nodup) (T : LcT X.K vs g st) (hi : DIt X Cl W tg iter it) (ok : BlkOk X.N X.env.scope scope own)
    (hg : ∀ (s : Shared) (H : Hp) (C : Addr) (cl : List (Str × Addr)) (fp : List Addr), PG (X.blk s H scope (compEnvC scope cl C X.env) fp) tg g) (ht : ∀ (s : Shared) (H : Hp) (C : Addr) (cl : List (Str × Addr)) (fp : List Addr), DTs (X.blk s H scope (compEnvC scope cl C X.env) fp) Cl W0 ifs tt)
    (he : ∀ (s : Shared) (H : Hp) (C : Addr) (cl : List (Str × Addr)) (fp : List Addr), DE (X.blk s H scope (compEnvC scope cl C X.env) fp) Cl W0 elt fe) (hv : own.map (·.2) = vs := by rfl) (hs : ∀ x, foldedSetIterable iter X.env x = pure x := by intro _; rfl) :
    DE X Cl W (.ListComp elt [⟨tg, iter, ifs, 0⟩] scope pos) (eLcG vs st it tt fe) := PE.imp (pe_lc (tt := ttOf X.K Cl W0 tt) (te := teOf X.K Cl W0 fe) hc hN hi ok hg ht he hs) fun σ H Q h => by
  rw [hv]
  exact lc_read T h
theorem ds_setLc {i : Nat} {y : Str} {py spos : Pos} (hc : X.calm = true) (hN : X.N.Nodup) (T : LcT X.K vs g st) (hi : DIt X Cl W tg iter it) (ok : BlkOk X.N X.env.scope scope own)
    (hg : ∀ (s : Shared) (H : Hp) (C : Addr) (cl : List (Str × Addr)) (fp : List Addr), PG (X.blk s H scope (compEnvC scope cl C X.env) fp) tg g) (ht : ∀ (s : Shared) (H : Hp) (C : Addr) (cl : List (Str × Addr)) (fp : List Addr), DTs (X.blk s H scope (compEnvC scope cl C X.env) fp) Cl W0 ifs tt)
    (he : ∀ (s : Shared) (H : Hp) (C : Addr) (cl : List (Str × Addr)) (fp : List Addr), DE (X.blk s H scope (compEnvC scope cl C X.env) fp) Cl W0 elt fe) (hsw : swapsWith (.ListComp elt [⟨tg, iter, ifs, 0⟩] scope pos) (some (.Name y py)) spos.line X.env = pure true) (hy : X.N[i]? = some y := by rfl) (hyl : X.env.scope.names.lookup y = some .local := by rfl) (hv : own.map (·.2) = vs := by rfl) (hs : ∀ x, foldedSetIterable iter X.env x = pure x := by intro _; rfl) :
    DS X Cl W (.Assign [.Name y py] (.ListComp elt [⟨tg, iter, ifs, 0⟩] scope pos) spos) (fSet i (eLcG vs st it tt fe)) := PS.imp (ps_setLc (tt := ttOf X.K Cl W0 tt) (te := teOf X.K Cl W0 fe) hc hN hy hyl hsw hi ok hg ht he hs) fun D σ H h => by
  have h1 := set_read h
  rw [hv]
  exact lc_read T h1
theorem ds_setLcO {i : Nat} {y : Str} {py spos : Pos} (hc : X.calm = true) (hN : X.N.Nodup) (T : LcT X.K vs g st) (hi : DIt X Cl W tg iter it) (ok : BlkOk X.N X.env.scope scope own)
    (hg : ∀ (s : Shared) (H : Hp) (C : Addr) (cl : List (Str × Addr)) (fp : List Addr), PG (X.blk s H scope (compEnvC scope cl C X.env) fp) tg g) (ht : ∀ (s : Shared) (H : Hp) (C : Addr) (cl : List (Str × Addr)) (fp : List Addr), DTs (X.blk s H scope (compEnvC scope cl C X.env) fp) Cl W0 ifs tt)
    (he : ∀ (s : Shared) (H : Hp) (C : Addr) (cl : List (Str × Addr)) (fp : List Addr), DE (X.blk s H scope (compEnvC scope cl C X.env) fp) Cl W0 elt fe) (hsw : swapsWith (.ListComp elt [⟨tg, iter, ifs, 0⟩] scope pos) (some (.Name y py)) spos.line X.env = pure true) (hy : X.N[i]? = some y := by rfl) (hyl : X.env.scope.names.lookup y = some .local := by rfl) (hv : own.map (·.2) = vs := by rfl) (hs : ∀ x, foldedSetIterable iter X.env x = pure x := by intro _; rfl) :
    DS X Cl W (.Assign [.Name y py] (.ListComp elt [⟨tg, iter, ifs, 0⟩] scope pos) spos) (fSetO i (eLcG vs st it tt fe)) := PS.imp (ps_setLc (tt := ttOf X.K Cl W0 tt) (te := teOf X.K Cl W0 fe) hc hN hy hyl hsw hi ok hg ht he hs) fun D σ H h => by
  have h1 := setO_read h
  rw [hv]
  exact lc_read T h1
end
end DL
set_option Elab.async false
set_option linter.all false
set_option maxRecDepth 100000
set_option maxHeartbeats 4000000
/-! DL8: comparisons of several kinds, unpacking, tuples of the top. -/
namespace DL
open PySem PySem.Spec PyProof.Rows L2
section
variable {X : Cx} {Cl : Nat → Addr} {W : WX} {K : PySem.W.Frag} {e : Expr} {f : FE} {pos : Pos}
@[simp] def gLtX (a b : Val) : Option Val := (gI (fun i j => .bool (decide (i < j))) a b).or (gS (fun i j => .bool (decide (i.cps.toList < j.cps.toList))) a b)
@[simp] def gLeX (a b : Val) : Option Val := (gI (fun i j => .bool (decide (i ≤ j))) a b).or (gS (fun i j => .bool (!decide (j.cps.toList < i.cps.toList))) a b)
@[simp] def gGtX (a b : Val) : Option Val := (gI (fun i j => .bool (decide (j < i))) a b).or (gS (fun i j => .bool (decide (j.cps.toList < i.cps.toList))) a b)
@[simp] def gGeX (a b : Val) : Option Val := (gI (fun i j => .bool (decide (j ≤ i))) a b).or (gS (fun i j => .bool (!decide (i.cps.toList < j.cps.toList))) a b)
def rX (g : Int → Int → V) (h : Str → Str → V) : R2 := fun x y H Q => rI0 g x y H Q ∨ (∃ i j, x = .str i ∧ y = .str j ∧ Q (h i j) H)
theorem op_ltX : OpR X (compareOp .Lt) (rX (fun i j => .bl (decide (i < j))) fun i j => .bl (decide (i.cps.toList < j.cps.toList))) := op_lt.or op_lt_str
theorem op_leX : OpR X (compareOp .LtE) (rX (fun i j => .bl (decide (i ≤ j))) fun i j => .bl (!decide (j.cps.toList < i.cps.toList))) := op_le.or op_le_str
theorem op_gtX : OpR X (compareOp .Gt) (rX (fun i j => .bl (decide (j < i))) fun i j => .bl (decide (j.cps.toList < i.cps.toList))) := op_gt.or op_gt_str
theorem op_geX : OpR X (compareOp .GtE) (rX (fun i j => .bl (decide (j ≤ i))) fun i j => .bl (!decide (i.cps.toList < j.cps.toList))) := op_ge.or op_ge_str
theorem r2_ltX : R2D K (rX (fun i j => .bl (decide (i < j))) fun i j => .bl (decide (i.cps.toList < j.cps.toList))) gLtX := (r2_I fun i j _ => .bl _).or (r2_S (g := fun i j => .bl (decide (i.cps.toList < j.cps.toList))) fun i j _ => .bl _)
theorem r2_leX : R2D K (rX (fun i j => .bl (decide (i ≤ j))) fun i j => .bl (!decide (j.cps.toList < i.cps.toList))) gLeX := (r2_I fun i j _ => .bl _).or (r2_S (g := fun i j => .bl (!decide (j.cps.toList < i.cps.toList))) fun i j _ => .bl _)
theorem r2_gtX : R2D K (rX (fun i j => .bl (decide (j < i))) fun i j => .bl (decide (j.cps.toList < i.cps.toList))) gGtX := (r2_I fun i j _ => .bl _).or (r2_S (g := fun i j => .bl (decide (j.cps.toList < i.cps.toList))) fun i j _ => .bl _)
theorem r2_geX : R2D K (rX (fun i j => .bl (decide (j ≤ i))) fun i j => .bl (!decide (i.cps.toList < j.cps.toList))) gGeX := (r2_I fun i j _ => .bl _).or (r2_S (g := fun i j => .bl (!decide (i.cps.toList < j.cps.toList))) fun i j _ => .bl _)

/-- a, b = e -/
def fUnp (g : FG) (f : FE) : FS := sE f fun v ρ => match v.st with
  | some d => (g d ρ).map .nx
  | none => none
theorem ds_unp {tg : Expr} {g : FG} (hg : DG X tg g) (he : DE X Cl W e f) (hs : swapsWithSole [tg] e pos.line X.env = pure false := by rfl) (hw : swappedStores [tg] e X.env = pure none := by rfl)
    (h1 : (assignEach [tg] X.env).map (·.2) = [assign tg X.env] := by rfl) : DS X Cl W (.Assign [tg] e pos) (fUnp g f) := PS.imp (ps_asg he hg hs hw h1) fun D σ H ⟨H0, Z, ρ, o, I, e, q⟩ => by
  refine ts_step I e q fun v x H1 _ h2 s1 hv I1 => ?_
  cases e1 : v.st with
  | none => rw [e1] at h2; cases h2
  | some d =>
    rw [e1] at h2
    dsimp only at h2
    cases e2 : g d ρ with
    | none => rw [e2] at h2; cases h2
    | some ρ' =>
      rw [e2] at h2
      cases h2
      exact ⟨_, Z, ρ, d, ρ', I1, hv.stab I.di e1, e2, fun σ' I' => q _ _ I'⟩
/-- a tuple of ints that stands at the top -/
theorem tupC {p : Addr} {dd : Option Addr} {its : Array Value} {n : Nat} {ss : Array (Option Value)} {ns : List Int} (h : K.lookup p = some ⟨.type "tuple", dd, .seq its n, ss⟩) (hv : Vals (ns.map V.int) its.toList) (hl : lineOk its.size = true := by rfl) : ∀ H, DL.Dp K H (.ref p) (.tuple (ns.map .int)) :=
  fun H => .tup (.inr ⟨_, its, n, h, rfl, rfl, lineOk_ok hl, hv⟩) (DpAll.of_ints ns)
/-- xs.index(y), y there -/
def idxD (x : D) (ds : List D) : Option Nat := ds.findIdx? fun d => eqV (toV d) (toV x)
@[simp] def gIndex (a b : Val) : Option Val := match a.d with
  | .list ds => if (scalarD b.d && ds.all scalarD) = true then (idxD b.d ds).map fun j => .s (.int (j : Int)) else none
  | _ => none
/-- a method of a list, with one argument -/
def eLM (g : Val → Val → Option Val) (fa fb : FE) : FE := bE fa fun a ρ => match a.d with
  | .list _ => bE fb (fun b _ => (g a b).map .ok) ρ
  | _ => none
theorem de_index {fa fb : FE} {c : Expr} (hp : PE X c (tBM X.K "list" (rIndex X.K) (teOf X.K Cl W fa) (tCons (teOf X.K Cl W fb) tNil))) : DE X Cl W c (eLM gIndex fa fb) := PE.imp hp fun σ H Q ⟨Z, ρ, r1, I, e, q⟩ => by
  refine te_bind I e q fun v x H1 _ h1 s1 hv I1 q1 => ?_
  split at h1
  · rename_i ds0 ed0
    have hl : ∀ {H2 : Hp}, Same H1 H2 → ∃ a ys, x = .ref a ∧ Rd H2 a (.lst ys) ∧ DpAll X.K H2 ys ds0 := fun {H2} s2 => by
      have h2 := Dp.same hide_sub ((hv.same s2).dp I)
      rw [ed0] at h2
      exact h2.lst_inv
    obtain ⟨a, ys, rfl, h2, h3⟩ := hl (Same.refl _)
    refine ⟨.inl ⟨rfl, ys, .inl h2⟩, te_bind I1 h1 q1 fun u y H2 _ h4 s2 hu I2 q2 => ?_⟩
    obtain ⟨a', ys', ea, h5, h6⟩ := hl s2
    cases ea
    unfold gIndex at h4
    split at h4
    · rename_i ds ed
      rw [ed0] at ed
      cases ed
      split at h4
      · rename_i sc
        obtain ⟨sc1, sc2⟩ := Bool.and_eq_true_iff.mp sc
        cases e2 : idxD u.d ds0 with
        | none => rw [e2] at h4; cases h4
        | some j =>
          rw [e2] at h4
          cases h4
          obtain ⟨e3, e4⟩ := h6.toV sc2
          have hy := Dp.same hide_sub (hu.dp I1)
          have ey := hy.toV sc1
          obtain ⟨hj, ej, ne⟩ := List.findIdx?_eq_some_iff_getElem.mp e2
          subst e3
          refine ⟨a, _, y, j, toV ds0[j], rfl, rfl, .inl h5, hy.flat sc1, e4, by rw [List.getElem?_map, List.getElem?_eq_getElem hj]; rfl, by rw [ey]; exact ej, fun m z hm hz => ?_, q2 _ H2 (Same.refl _) (.int _)⟩
          rw [List.getElem?_map, List.getElem?_eq_getElem (Nat.lt_trans hm hj)] at hz
          cases hz
          rw [ey]
          exact Bool.eq_false_iff.mpr (ne m hm)
      · cases h4
    · cases h4
  · cases h1
/-! ### how the functions of data reckon -/
section
variable {g : Val → Val → Option Val} {h : Val → Option Val} {fa fb fe : FE} {i : Nat} {ρ : Rho} {d : D} {gs : FGs} {tg : FG}
@[simp] theorem e2_ap : e2 g fa fb ρ = bE fa (fun a => bE fb fun b _ => (g a b).map .ok) ρ := rfl
@[simp] theorem e1_ap : e1 h fa ρ = bE fa (fun a _ => (h a).map .ok) ρ := rfl
@[simp] theorem eLM_ap : eLM g fa fb ρ = bE fa (fun a ρ => match a.d with
  | .list _ => bE fb (fun b _ => (g a b).map .ok) ρ
  | _ => none) ρ := rfl
@[simp] theorem eAndV_ap : eAndV fa fb ρ = bE fa (fun v ρ => match v.d with
  | .bool true => fb ρ
  | .bool false => ok (.bool false)
  | _ => none) ρ := rfl
@[simp] theorem eOrV_ap : eOrV fa fb ρ = bE fa (fun v ρ => match v.d with
  | .bool false => fb ρ
  | .bool true => ok (.bool true)
  | _ => none) ρ := rfl
@[simp] theorem fSet_ap : fSet i fa ρ = sE fa (fun v ρ => v.st.map fun d => .nx (ρ.set i (.dat d))) ρ := rfl
@[simp] theorem fSetO_ap : fSetO i fa ρ = sE fa (fun v ρ => match v with
  | .f ds => some (.nx (ρ.set i (.own ds)))
  | _ => none) ρ := rfl
@[simp] theorem fDrop_ap : fDrop fa ρ = sE fa (fun _ ρ => some (.nx ρ)) ρ := rfl
@[simp] theorem fRet_ap : fRet fa ρ = sE fa (fun v _ => match v with
  | .s d => some (.ret d)
  | .m d => some (.ret d)
  | .b ds => some (.retF ds)
  | .f ds => some (.retF ds)) ρ := rfl
@[simp] theorem fApp_ap : fApp i fa ρ = fOwn i (fun ds => sE fa fun v ρ => match v.st with
  | some d => if lineOk (ds.length + 1) = true then some (.nx (ρ.set i (.own (ds ++ [d])))) else none
  | none => none) ρ := rfl
@[simp] theorem fExt_ap : fExt i fa ρ = fOwn i (fun ds => sE fa fun v ρ => match v.items with
  | some es => if lineOk (ds.length + es.length) = true then some (.nx (ρ.set i (.own (ds ++ es)))) else none
  | none => none) ρ := rfl
@[simp] theorem fPop_ap : fPop i ρ = fOwn i (fun ds ρ => if ds.isEmpty = true then none else some (.nx (ρ.set i (.own ds.dropLast)))) ρ := rfl
@[simp] theorem fPut_ap : fPut i fa fe ρ = sE fe (fun v => fOwn i fun ds => sE fa fun k ρ => match k.d, v.st with
  | .int j, some d => (ixN ds.length j).map fun n => .nx (ρ.set i (.own (ds.set n d)))
  | _, _ => none) ρ := rfl
@[simp] theorem gN_ap : gN i d ρ = some (ρ.set i (.dat d)) := rfl
@[simp] theorem gsNil_ap : gsNil [] ρ = some ρ := rfl
@[simp] theorem gsCons_ap {r : List D} : gsCons i gs (d :: r) ρ = gs r (ρ.set i (.dat d)) := rfl
@[simp] theorem gT_ap {n : Nat} {ds : List D} : gT n gs (.tuple ds) ρ = if ds.length = n then gs ds ρ else none := rfl
@[simp] theorem mkD_ap {n k : Nat} {f : FS} {ds : List D} : mkD n k f ds = match f (ds.map .dat ++ List.replicate (k - n) .un) with
  | some (.nx _) => some (.ret .none)
  | some (.ret d) => some (.ret d)
  | some (.retF ds) => some (.retF ds)
  | some (.retX ds k) => some (.retX ds k)
  | some (.exc _ c i) => some (.exc c i)
  | _ => none := rfl
@[simp] theorem st1_ap : st1 i ρ d = some (ρ.set i (.dat d)) := rfl
@[simp] theorem fUnp_ap : fUnp tg fa ρ = sE fa (fun v ρ => match v.st with
  | some d => (tg d ρ).map .nx
  | none => none) ρ := rfl
end
/-- the law's promise -/
def spLaw (K : PySem.W.Frag) : Sp := fun vs H Q _ => ∃ (a : Addr) (ns : List Int), vs = [.ref a] ∧ SqL K H a (ns.map V.int) ∧ ns.length ≤ 63 ∧ ∀ H', Q (.bl true) H'
theorem law_sp {P : Program} {w : World} {mg : Str → Option Value} {base : Heap} {CX : CXT} {k : Nat} {fa : Addr} {fd : FuncData} {ps : List Str} {F : DF} (h : ∀ ns : List Int, ns.length ≤ 63 → F [scr ns] = some (.ret (.bool true))) (G : FnOk P w K mg base CX k fa fd ps (spD K Cl 1 F)) : FnOk P w K mg base CX k fa fd ps (spLaw K) :=
  G.imp fun vs H Q E ⟨a, ns, e, hs, hl, q⟩ => by
    subst e
    refine ⟨fun _ => False, [scr ns], _, fun _ z => z.elim, .cons (.scr (SqL.same' (fun b o e => hide_at id e) hs)) .nil, rfl, h ns hl, fun v H' s hv => ?_⟩
    rw [hv.bl_inv]
    exact q H'
theorem cx_none {P : Program} {w : World} {outer : List Env} {H : Hp} {s s' : Shared} {e : Value} (h : L2.CX P w outer H s (fun _ _ _ => False) e s') : False := by
  obtain ⟨_, _, _, _, _, _, _, _, _, _, _, _, z⟩ := h
  exact z
end
end DL
set_option Elab.async false
set_option linter.all false
set_option maxRecDepth 100000
set_option maxHeartbeats 4000000
/-! DL9: errors of the text's own: raise, try with several clauses. -/
namespace DL
open PySem PySem.Spec PyProof.Rows L2

/-! ### the classes -/
/-- a class of the text whose __init__ is the base's own -/
structure ExT (K : PySem.W.Frag) (mg : Str → Option Value) (x : Str) (C fI : Addr) : Prop where
  g : mg x = some (.ref C)
  oex : OexC K C
  no : PySem.W.findIn K (.ref C) "at" = some none
  iC : PySem.W.findIn K (.ref C) "__init__" = some (some (.ref fI))
  xf : XfC K C
structure InT (K : PySem.W.Frag) (q : Str) (st : Stmt) (fI : Addr) (fd : FuncData) : Prop where
  F : Fun K "__init__" q st fI fd
  tI : PySem.W.typeIn K (.ref fI) = some (.type "function")
  b : Binds K fd ["self", "at"] []
/-- what __init__ does -/
def spIn (K : PySem.W.Frag) : Sp := fun vs H Q _ => ∃ (a C : Addr) (y : V), vs = [.ref a, y] ∧ OexC K C ∧ PySem.W.findIn K (.ref C) "at" = some none ∧ H a = some (exo a C none) ∧
  ∀ dx, H dx = none → dx ≠ a → Q .non (upd (upd H dx (exd dx [("at", y)])) a (exo a C (some dx)))
section
variable {X : Cx} {Cl : Nat → Addr} {W : WX} {K : PySem.W.Frag} {e : Expr} {f : FE} {pos : Pos}
def fRaise (c : Nat) (f : FE) : FS := sE f fun v ρ => match v.d with
  | .int i => some (.exc ρ c i)
  | _ => none
@[simp] theorem fRaise_ap {c : Nat} {ρ : Rho} : fRaise c f ρ = sE f (fun v ρ => match v.d with
  | .int i => some (.exc ρ c i)
  | _ => none) ρ := rfl
theorem ds_raise {c : Nat} {x q : Str} {fI : Addr} {fd : FuncData} {st : Stmt} {p pos' : Pos} (T : ExT X.K X.mg x (Cl c) fI) (N : InT X.K q st fI fd) (F1 : FnOk X.prog X.w X.K X.mg X.base (L2.CX X.prog X.w) 1 fI fd ["self", "at"] (spIn X.K)) (tk : Takes X W) (hr : Room 2 X.A) (he : DE X Cl W e f)
    (hc : X.calm = true := by rfl) (hg : Gl X x := by rfl) (hdb : (x == ("__debug__" : Str)) = false := by decide) (hs : starEach (e :: []) X.env = (false, eval e X.env) :: starEach [] X.env := by rfl) (hpl : (backTo pos (starEach [] X.env)).any (·.1) = false := by rfl) :
    DS X Cl W (.Raise (some (.Call (.Name x p) [e] [] pos)) none pos') (fRaise c f) :=
  PS.imp (ps_raise hc tk (pmk_oex (dvs := []) (ds := []) T.oex T.iC N.tI F1 hr N.b .nil passL hg T.g (pa_cons he pa_nil hs) hdb hs hpl)) fun D σ H ⟨H0, Z, ρ, o, I, e, q⟩ => by
    refine ts_step I e q fun v y H1 _ h1 s1 hv I1 => ?_
    split at h1
    · rename_i i ei
      cases h1
      have ey := hv.int_inv I.di ei
      subst ey
      refine ⟨by show 1 ≤ 1000; decide, fun a na => ⟨a, Cl c, .int i, rfl, T.oex, T.no, upd_same, fun dx nd hne => ⟨rfl, dx, [("at", .int i)], ?_, ?_, ?_, ?_⟩⟩⟩
      · exact upd_same
      · rw [upd_ne hne, upd_same]
      · rw [upd_ne hne] at nd
        exact nd
      · rw [upd_ne hne] at nd
        refine q dx σ _ (I1.same' fun b o e => ?_) upd_same
        have n1 := ne_of_none e nd
        have n2 := ne_of_none e na
        rw [upd_ne n1, del_ne n2, upd_ne n2, upd_ne n1, upd_ne n2]
        exact e
    · cases h1

/-! ### a clause after the other -/
/-- an error has come to a try's clauses -/
structure Caught (X : Cx) (pins : List (Addr × Obj)) (a : Addr) (B : Heap) (sI : Shared) (σ : St) (H : Hp) (cls : Value) (d : Option Addr) (s : Shared) : Prop where
  inv : Inv X pins σ H sI
  ground : ∀ b o, sI.heap.get? b = some o → b ∉ frs X.stack → B.get? b = some o
  slots : sI.heap.UpToSlots s.heap
  fly : HandSPX.FlyingZ B (X.env :: X.outer) a (Zc cls d) s.heap
  free : H a = none
  os : s.os = sI.os
  bare : AllBare s.gens
def Clauses (X : Cx) (hds : List ExceptHandler) (D : Ends) (wish : WX) : Prop := ∀ (pins : List (Addr × Obj)) (a : Addr) (B : Heap) (sI : Shared) (σ : St) (H : Hp) (cls : Value) (d : Option Addr) (s : Shared), Caught X pins a B sI σ H cls d s → wish cls d σ H →
  wpAny (model X.prog X.w) X.A (handleBy (.ref a) X.env hds) (SP X pins D) X.xe s
theorem Caught.now {pins : List (Addr × Obj)} {a : Addr} {B : Heap} {sI : Shared} {σ : St} {H : Hp} {cls : Value} {d : Option Addr} {s : Shared} (c : Caught X pins a B sI σ H cls d s) : Inv X pins σ H s := c.inv.landed c.ground c.fly.1 c.slots c.os c.bare
theorem Caught.out {pins : List (Addr × Obj)} {a : Addr} {B : Heap} {sI : Shared} {σ : St} {H : Hp} {cls : Value} {d : Option Addr} {s : Shared} (c : Caught X pins a B sI σ H cls d s) (hf : X.env.frame = some X.env.locals) : a ≠ X.env.locals ∧ a ∉ X.fs := by
  obtain ⟨ob, fv, hob, _, hdat⟩ := c.fly.there
  have apart : a ∉ frs (X.env :: X.outer) := fun m => by
    obtain ⟨_, o2, e2, nf⟩ := c.fly.2.2.1.mem m
    rw [hob] at e2
    cases e2
    exact nf _ hdat
  refine ⟨fun z => apart (List.mem_filterMap.mpr ⟨X.env, List.mem_cons_self, by rw [hf, z]⟩), fun m => ?_⟩
  obtain ⟨en, men, q⟩ := List.mem_filterMap.mp m
  exact apart (List.mem_filterMap.mpr ⟨en, List.mem_cons_of_mem _ men, q⟩)
theorem clauses_nil {D : Ends} (hs : X.stack = X.env :: X.outer) (hf : X.env.frame = some X.env.locals) (tk : Takes X W) : Clauses X [] D W := fun pins a B sI σ H cls d s c hw => by
  refine wpAny_handleBy_nil ?_
  obtain ⟨_, _, _, ob, fv, T, _, _, hob, _, hdat, h1, _⟩ := id c.fly
  unfold PySem.passOn
  have fin : wpAny (model X.prog X.w) X.A (setFlight (.ref a) X.env.frame) (fun _ s4 => wpAny (model X.prog X.w) X.A (throw (.ref a) : Sem Flow) (SP X pins D) X.xe s4) X.xe s := by
    rw [hf]
    refine HandSPX.setFlight_upZ c.fly fun h4 held more => wpAny_throw (tk _ _ ?_)
    exact ⟨a, B, sI, pins, σ, H, cls, d, rfl, c.inv, c.ground, c.slots.trans more, .inr (.inr (by rw [hs]; exact held)), c.free, c.os, c.bare, hw⟩
  refine wpAny_bind (wpAny_field hob hdat h1 ?_)
  rw [if_neg (show ¬ ((Value.ref T == Value.none) = true) by simp)]
  first
    | exact wpAny_bind (wpAny_pure (wpAny_bind fin))
    | exact wpAny_bind fin
/-- what is wished of an error by one clause, and by those behind it -/
def wTest (test : Value → Bool → Prop) (yes : Addr → Value → Option Addr → TS) (D : Ends) (rest : WX) : WX := fun cls d σ H => ∃ b, test cls b ∧ (b = true → ∀ a, H a = none → yes a cls d D σ H) ∧ (b = false → rest cls d σ H)
theorem Caught.suite {pins : List (Addr × Obj)} {a : Addr} {B : Heap} {sI : Shared} {σ : St} {H : Hp} {cls : Value} {d : Option Addr} {s : Shared} (c : Caught X pins a B sI σ H cls d s) (hf : X.env.frame = some X.env.locals) :
    ∃ oe, s.heap.get? a = some oe ∧ Zc cls d oe ∧ (∃ vs, oe.data = .fields vs) ∧ Inv (X.suite a ((a, oe) :: (X.pn ++ pins))) [] σ H s := by
  obtain ⟨ob, fv, hob, hz, hdat⟩ := c.fly.there
  obtain ⟨n1, n2⟩ := c.out hf
  exact ⟨ob, hob, hz, ⟨fv, hdat⟩, c.now.suite hob hdat c.free n1 n2⟩
theorem Caught.again {pins : List (Addr × Obj)} {a : Addr} {B : Heap} {sI : Shared} {σ : St} {H : Hp} {cls : Value} {d : Option Addr} {s : Shared} {h4 : Heap} (c : Caught X pins a B sI σ H cls d s) (fl : HandSPX.FlyingZ B (X.env :: X.outer) a (Zc cls d) h4) (up : s.heap.UpToSlots h4) : Caught X pins a B sI σ H cls d { s with heap := h4 } :=
  ⟨c.inv, c.ground, c.slots.trans up, fl, c.free, c.os, c.bare⟩
/-- one class -/
theorem clauses_one {D : Ends} {x : Str} {c : Value} {b0 : Stmt} {suite : List Stmt} {np pos' : Pos} {hds : List ExceptHandler} {rest : WX} {ts : Addr → Value → Option Addr → TS} (ok : X.Ok) (hf : X.env.frame = some X.env.locals) (hc : Names X x c)
    (hsu : ∀ (a : Addr) (oe : Obj) (cls : Value) (d : Option Addr) (pn : List (Addr × Obj)), Zc cls d oe → (∃ vs, oe.data = .fields vs) → PSs (X.suite a ((a, oe) :: pn)) (b0 :: suite) (ts a cls d)) (hr : Clauses X hds D rest) :
    Clauses X (.ExceptHandler (some (.Name x np)) none (b0 :: suite) pos' :: hds) D (wTest (fun cls b => PySem.W.exmOne X.K cls c = some b) ts D rest) := fun pins a B sI σ H cls d s ca ⟨b, hb, yes, no⟩ => by
  obtain ⟨ob, hob, hz, hdat, S⟩ := ca.suite hf
  refine wpAny_handleBy_cons (codeAny_handlers_test ?_) (by intro q; cases q)
  have look : PySem.W.Looks (model X.prog X.w) s.heap (typeOf (.ref a)) cls := fun A Q E s' k q => wpAny_typeOf_ref (k _ _ hob) (by rw [hz.1]; exact q)
  have here := PySem.W.exm_one (M := model X.prog X.w) ca.now.kIn look hb
  have named : ∀ {Q : Value → Shared → Prop} {E : Value → Shared → Prop}, Q c s → wpAny (model X.prog X.w) (X.A.mark (some (.ref a))) (eval (.Name x np) X.env) Q E s := fun {Q E} q => by
    obtain ⟨hg, hdbg, hm | ⟨hm, hv, hnn⟩⟩ := hc
    · exact ld_glob (X := X.suite a ((a, ob) :: (X.pn ++ pins))) S hg hm q hdbg
    · exact ld_blt (X := X.suite a ((a, ob) :: (X.pn ++ pins))) S hg hm hv q hnn hdbg
  refine named (here.here ?_)
  cases b with
  | false => exact hr pins a B sI σ H cls d s ca (no rfl)
  | true =>
    refine codeAny_handlers_suite (HandSPX.lands_againZ ca.fly fun h4 fl up => ?_)
    have ca4 := ca.again fl up
    obtain ⟨ob4, _, hz4, hdat4, S4⟩ := ca4.suite hf
    refine wpAny_mono ((hsu a ob4 cls d (X.pn ++ pins) hz4 hdat4).run [] _ _ H _ S4 (yes rfl a ca.free)) (fun fl s6 r => ?_) (fun _ _ z => z.elim)
    cases fl with
    | next => obtain ⟨σ6, H6, S6, q6⟩ := r; exact ⟨σ6, H6, S6.unsuite ok, q6⟩
    | brk => obtain ⟨σ6, H6, S6, q6⟩ := r; exact ⟨σ6, H6, S6.unsuite ok, q6⟩
    | cont => obtain ⟨σ6, H6, S6, q6⟩ := r; exact ⟨σ6, H6, S6.unsuite ok, q6⟩
    | ret u => obtain ⟨v6, σ6, H6, S6, r6, q6⟩ := r; exact ⟨v6, σ6, H6, S6.unsuite ok, r6, q6⟩
/-- the ends of a suite whose name goes behind it -/
def goneE (D : Ends) (i : Nat) : Ends := { nx := fun σ H => D.nx (σ.set i none) H, rt := D.rt, bk := fun σ H => D.bk (σ.set i none) H, ct := fun σ H => D.ct (σ.set i none) H }
/-- one class, as a name -/
theorem clauses_as {D : Ends} {x n : Str} {i : Nat} {c : Value} {b0 : Stmt} {suite : List Stmt} {np pos' : Pos} {hds : List ExceptHandler} {rest : WX} {ts : Addr → Value → Option Addr → TS} (ok : X.Ok) (hf : X.env.frame = some X.env.locals) (hN : X.N.Nodup) (hi : X.N[i]? = some n) (hln : X.env.kindOf n = some .local) (hc : Names X x c)
    (hsu : ∀ (a : Addr) (oe : Obj) (cls : Value) (d : Option Addr) (pn : List (Addr × Obj)), Zc cls d oe → (∃ vs, oe.data = .fields vs) → PSs (X.suite a ((a, oe) :: pn)) (b0 :: suite) (ts a cls d)) (hr : Clauses X hds D rest) :
    Clauses X (.ExceptHandler (some (.Name x np)) (some n) (b0 :: suite) pos' :: hds) D (wTest (fun cls b => PySem.W.exmOne X.K cls c = some b) (fun a cls d D σ H => ts a cls d (goneE D i) (σ.set i (some (.ref a))) H) D rest) := fun pins a B sI σ H cls d s ca ⟨b, hb, yes, no⟩ => by
  obtain ⟨ob, hob, hz, hdat, S⟩ := ca.suite hf
  have hloc : Loc X.env.scope n := .inl hln
  refine wpAny_handleBy_cons (codeAny_handlers_test ?_) (by intro q; cases q)
  have look : PySem.W.Looks (model X.prog X.w) s.heap (typeOf (.ref a)) cls := fun A Q E s' k q => wpAny_typeOf_ref (k _ _ hob) (by rw [hz.1]; exact q)
  have here := PySem.W.exm_one (M := model X.prog X.w) ca.now.kIn look hb
  have named : ∀ {Q : Value → Shared → Prop} {E : Value → Shared → Prop}, Q c s → wpAny (model X.prog X.w) (X.A.mark (some (.ref a))) (eval (.Name x np) X.env) Q E s := fun {Q E} q => by
    obtain ⟨hg, hdbg, hm | ⟨hm, hv, hnn⟩⟩ := hc
    · exact ld_glob (X := X.suite a ((a, ob) :: (X.pn ++ pins))) S hg hm q hdbg
    · exact ld_blt (X := X.suite a ((a, ob) :: (X.pn ++ pins))) S hg hm hv q hnn hdbg
  refine named (here.here ?_)
  cases b with
  | false => exact hr pins a B sI σ H cls d s ca (no rfl)
  | true =>
    refine codeAny_handlers_suite_as (HandSPX.lands_againZ ca.fly fun h4 fl up => ?_)
    have ca4 := ca.again fl up
    obtain ⟨ob4, _, hz4, hdat4, S4⟩ := ca4.suite hf
    refine store_ok (X := X.suite a ((a, ob4) :: (X.pn ++ pins))) (v := .ref a) S4 hN hi hloc rfl (fun s5 S5 => ?_) (.inr hln)
    have back : ∀ {σ6 : St} {H6 : Hp} {s6 : Shared} {Q : Shared → Prop}, Inv (X.suite a ((a, ob4) :: (X.pn ++ pins))) [] σ6 H6 s6 → (∀ s7, Inv X pins (σ6.set i none) H6 s7 → Q s7) →
        wpAny (model X.prog X.w) X.A (do bindName X.env n .none; unbindBehindTheSuite X.env n pos') (fun _ s7 => Q s7) X.xe s6 := fun {σ6 H6 s6 Q} S6 hq => gone_ok (S6.unsuite ok) hN hi hln hq
    refine wpAny_mono ((hsu a ob4 cls d (X.pn ++ pins) hz4 hdat4).run [] s5 _ H _ S5 (yes rfl a ca.free)) (fun fl s6 r => ?_) (fun _ _ z => z.elim)
    cases fl with
    | next => obtain ⟨σ6, H6, S6, q6⟩ := r; exact back S6 fun s7 J7 => ⟨_, _, J7, q6⟩
    | brk => obtain ⟨σ6, H6, S6, q6⟩ := r; exact back S6 fun s7 J7 => ⟨_, _, J7, q6⟩
    | cont => obtain ⟨σ6, H6, S6, q6⟩ := r; exact back S6 fun s7 J7 => ⟨_, _, J7, q6⟩
    | ret u => obtain ⟨v6, σ6, H6, S6, r6, q6⟩ := r; exact back S6 fun s7 J7 => ⟨_, _, _, J7, r6, q6⟩
/-- the whole try: the wish is chosen by the ends -/
theorem ps_try {body : List Stmt} {h0 : ExceptHandler} {hds : List ExceptHandler} {tb : WX → TS} {wish : Ends → WX} (hs : X.stack = X.env :: X.outer) (hf : X.env.frame = some X.env.locals)
    (hb : ∀ (W : WX) (pn : List (Addr × Obj)) (xe : Value → Shared → Prop), Takes (X.tr pn xe) W → PassesOwn (model X.prog X.w) X.A X.env xe → PSs (X.tr pn xe) body (tb W)) (hc : ∀ D, X.Ok → Clauses X (h0 :: hds) D (wish D)) :
    PS X (.Try body (h0 :: hds) [] [] pos) (fun D σ H => tb (wish D) D σ H) := by
  refine ⟨fun pins s σ H D I h => ?_⟩
  have ok := I.ok
  have top : X.A.frames = some (X.env :: X.outer) := by rw [ok.frames, hs]
  refine wpAny_Try_except (wpAny_mono ((hb (wish D) (X.pn ++ pins) (fun e s₁ => wpAny (model X.prog X.w) X.A (noteFrame e X.env) (fun _ s₂ => wpAny (model X.prog X.w) X.A (setFlight e none) (fun _ s₃ =>
    wpAny (model X.prog X.w) X.A (handleBy e X.env (h0 :: hds)) (SP X pins D) X.xe s₃) X.xe s₂) X.xe s₁) (fun u s' xx => ?_) PassesOwn.looking).run [] s σ H D (I.toTry _) h) (fun fl s1 r => ?_) (fun _ _ z => z))
  · obtain ⟨a, B, sI, pins', σ', H', cls, d, rfl, J', nb, up, sky, na, os, ag, w⟩ := xx
    have J : Inv X pins σ' H' sI := J'.ofTry ok
    refine Sky.land Zc.steady top hf (by rw [← hs]; exact sky) fun h3 fl3 up3 => ?_
    exact hc D ok pins a B sI σ' H' cls d { s' with heap := h3 } ⟨J, nb, up.trans up3, fl3, na, os, ag⟩ w
  · cases fl with
    | next => obtain ⟨σ6, H6, J6, q⟩ := r; exact wpAny_execs_nil ⟨σ6, H6, J6.ofTry ok, q⟩
    | brk => obtain ⟨σ6, H6, J6, q⟩ := r; exact ⟨σ6, H6, J6.ofTry ok, q⟩
    | cont => obtain ⟨σ6, H6, J6, q⟩ := r; exact ⟨σ6, H6, J6.ofTry ok, q⟩
    | ret u => obtain ⟨v6, σ6, H6, J6, r6, q⟩ := r; exact ⟨v6, σ6, H6, J6.ofTry ok, r6, q⟩
end
end DL
set_option Elab.async false
set_option linter.all false
set_option maxRecDepth 100000
set_option maxHeartbeats 4000000
/-! DL10: try, by functions of data. -/
namespace DL
open PySem PySem.Spec PyProof.Rows L2
section
variable {X : Cx} {Cl : Nat → Addr} {W : WX} {K : PySem.W.Frag} {pos : Pos}
/-- what a class must say, so that its errors can be asked -/
structure ErF (K : PySem.W.Frag) (C : Addr) : Prop where
  xf : XfC K C
  no : PySem.W.findIn K (.ref C) "at" = some none
  xc : ExcC K C
/-! ### the caught error -/
def eAt (k : Nat) (a dd : Addr) (ρ : Rho) : Option (Except Er Val) := match ρ[k]? with
  | some (.err a' dd' i) => if a' = a ∧ dd' = dd then ok (.int i) else none
  | _ => none
def eIsX (k : Nat) (a dd : Addr) (b : Option Bool) (ρ : Rho) : Option (Except Er Val) := match ρ[k]? with
  | some (.err a' dd' _) => if a' = a ∧ dd' = dd then b.map fun x => .ok (.s (.bool x)) else none
  | _ => none
theorem r_xat {k : Nat} {a dd : Addr} {i : Int} {ρ : Rho} (h : ρ[k]? = some (.err a dd i)) : eAt k a dd ρ = some (.ok (.s (.int i))) := by
  unfold eAt
  rw [h]
  dsimp only
  rw [if_pos ⟨rfl, rfl⟩]
  rfl
theorem r_xis {k : Nat} {a dd : Addr} {i : Int} {b : Bool} {ρ : Rho} (h : ρ[k]? = some (.err a dd i)) : eIsX k a dd (some b) ρ = some (.ok (.s (.bool b))) := by
  unfold eIsX
  rw [h]
  dsimp only
  rw [if_pos ⟨rfl, rfl⟩]
  rfl
theorem de_xat {a dd C : Addr} {oe : Obj} {pn : List (Addr × Obj)} {k : Nat} {n : Str} {pos' : Pos} (F : ErF X.K C) (hz : Zc (.ref C) (some dd) oe) (hf : ∃ vs, oe.data = .fields vs) (hv : PE (X.suite a ((a, oe) :: pn)) (.Name n pos') (tVar k))
    (hb : attributeBase (.Name n pos') "at" X.env (eval (.Name n pos') X.env) = eval (.Name n pos') X.env := by rfl) : DE (X.suite a ((a, oe) :: pn)) Cl W (.Attribute (.Name n pos') "at" pos) (eAt k a dd) :=
  PE.imp (pe_xf F.xf F.no hz hf hv hb) fun σ H Q ⟨Z, ρ, r, I, e, q⟩ => by
    unfold eAt at e
    split at e
    · rename_i a' dd' i hd
      split at e
      · rename_i h
        obtain ⟨rfl, rfl⟩ := h
        cases e
        obtain ⟨h1, h2⟩ := I.slots k _ hd
        exact ⟨_, h1, rfl, rfl, _, _, .int i, rfl, h2, rfl, q _ H (Same.refl _) (.int i)⟩
      · cases e
    · cases e
def rIsX (K : PySem.W.Frag) (D a dd : Addr) : List V → Hp → VK → Prop := fun xs H Q => ∃ (c : V) (cv : Value) (b : Bool) (fs : List (Str × V)), xs = [.ref a, c] ∧ (∀ u, RelV c u → u = cv) ∧ PySem.W.kitOne K (.ref D) cv = some b ∧ H dd = some (.xd fs) ∧ Q (.bl b) H
theorem call_isX {a D dd : Addr} {oe : Obj} {pn : List (Addr × Obj)} (C : ExcC X.K D) (hz : Zc (.ref D) (some dd) oe) (hf : ∃ vs, oe.data = .fields vs) : CallR (X.suite a ((a, oe) :: pn)) (.builtin "isinstance") (rIsX X.K D a dd) := fun pins s σ H xs us Q I r h => by
  obtain ⟨c, cv, b, fs, rfl, hcv, e, hdd, q⟩ := h
  cases r with
  | cons rx rr => cases rr with
    | cons rt rr =>
      cases rr
      cases rx
      have ec := hcv _ rt
      subst ec
      obtain ⟨hget, _⟩ := I.pin (a, oe) (List.mem_append_left _ List.mem_cons_self)
      have hx : ObjOk X.prog X.w H s.heap dd (.xd fs) := I.hok dd _ hdd
      obtain ⟨mA, hns, _⟩ := hx
      obtain ⟨od, ho, _⟩ := lookIn_ns hns
      obtain ⟨vs, hd⟩ := hf
      have inst : PySem.W.InstAt s.heap a oe D (some od) := ⟨hget, hz.1, (by unfold PySem.W.notCls; rw [hd] <;> rfl), (by rw [hz.2]; exact ho)⟩
      have hcl : (PySem.W.clsIn X.K D).isSome = true := by
        have hh := C.hd
        unfold PySem.W.hasDictIn at hh
        cases z : PySem.W.clsIn X.K D with
        | none => rw [z] at hh; cases hh
        | some _ => rfl
      exact PySem.W.kia_one (PySem.W.kitx_exc hcl C.hg C.hk C.hs C.ha C.hn C.ht C.hm) I.kIn inst e (fun z => nomatch z) fun tk =>
        ⟨.bl b, H, I.kept (t' := tk) fun _ _ z => z, rfl, q⟩
theorem de_isx {a dd C : Addr} {oe : Obj} {pn : List (Addr × Obj)} {k : Nat} {n y x : Str} {p p1 p2 : Pos} {b : Option Bool} {v : V} {cv : Value} (hx : x = "isinstance") (F : ErF X.K C) (hz : Zc (.ref C) (some dd) oe) (hf : ∃ vs, oe.data = .fields vs)
    (hm : X.mg x = none) (hv : PE (X.suite a ((a, oe) :: pn)) (.Name n p1) (tVar k)) (hy : PE (X.suite a ((a, oe) :: pn)) (.Name y p2) (tC v)) (hcv : ∀ u, RelV v u → u = cv) (hk : ∀ z, b = some z → PySem.W.kitOne X.K (.ref C) cv = some z) (hg : Gl X x := by rfl)
    (hs : starEach [.Name n p1, .Name y p2] X.env = (false, eval (.Name n p1) X.env) :: starEach [.Name y p2] X.env := by rfl) (hs2 : starEach [.Name y p2] X.env = (false, eval (.Name y p2) X.env) :: starEach [] X.env := by rfl) (hpl : (backTo pos (starEach [.Name y p2] X.env)).any (·.1) = false := by rfl) :
    DE (X.suite a ((a, oe) :: pn)) Cl W (.Call (.Name x p) [.Name n p1, .Name y p2] [] pos) (eIsX k a dd b) := by
  subst hx
  refine PE.imp (pe_callB (X := X.suite a ((a, oe) :: pn)) (call_isX F.xc hz hf) hg hm PyProof.Rows.boot_isinstance (pa_cons hv (pa_cons hy pa_nil hs2) hs) (by decide) (by decide) hs hpl) fun σ H Q ⟨Z, ρ, r, I, e, q⟩ => ?_
  unfold eIsX at e
  split at e
  · rename_i a' dd' i hd
    split at e
    · rename_i h
      obtain ⟨rfl, rfl⟩ := h
      cases b with
      | none => cases e
      | some z =>
        cases e
        obtain ⟨h1, h2⟩ := I.slots k _ hd
        exact ⟨_, h1, v, cv, z, _, rfl, hcv, hk z rfl, h2, q _ H (Same.refl _) (.bl z)⟩
    · cases e
  · cases e
/-! ### the clauses -/
abbrev HF := Nat → Int → Rho → Option Out
def goneO (k : Nat) : Out → Option Out
  | .nx ρ => some (.nx (ρ.set k .un))
  | .brk ρ => some (.brk (ρ.set k .un))
  | .ct ρ => some (.ct (ρ.set k .un))
  | .ret d => some (.ret d)
  | .retF ds => some (.retF ds)
  | .retX ds k => some (.retX ds k)
  | .exc _ _ _ => none
/-- the same wherever the error lies -/
noncomputable def anyAd (F : Addr → Addr → Option Out) : Option Out := open Classical in if h : ∃ o, ∀ a dd, F a dd = some o then some (Classical.choose h) else none
theorem anyAd_of {F : Addr → Addr → Option Out} {o : Out} (a0 : Addr) (h : ∀ a dd, F a dd = some o) : anyAd F = some o := by
  unfold anyAd
  have hh : ∃ o, ∀ a dd, F a dd = some o := ⟨o, h⟩
  rw [dif_pos hh]
  have q := Classical.choose_spec hh a0 a0
  rw [h a0 a0] at q
  exact q.symm
theorem anyAd_spec {F : Addr → Addr → Option Out} {o : Out} (h : anyAd F = some o) : ∀ a dd, F a dd = some o := by
  unfold anyAd at h
  split at h
  · rename_i hh
    cases h
    exact Classical.choose_spec hh
  · cases h
def hNil : HF := fun c i ρ => some (.exc ρ c i)
noncomputable def hAs (m : Nat → Option Bool) (k : Nat) (g : Nat → Addr → Addr → FS) (rest : HF) : HF := fun c i ρ => match m c with
  | some true => anyAd fun a dd => (g c a dd (ρ.set k (.err a dd i))).bind (goneO k)
  | some false => rest c i ρ
  | none => none
def hOne (m : Nat → Option Bool) (g : FS) (rest : HF) : HF := fun c i ρ => match m c with
  | some true => match g ρ with
    | some (.exc _ _ _) => none
    | o => o
  | some false => rest c i ρ
  | none => none
def fTry (fb : FS) (h : HF) : FS := fun ρ => match fb ρ with
  | some (.exc ρ1 c i) => h c i ρ1
  | o => o
def HOk (K : PySem.W.Frag) (Cl : Nat → Addr) (W : WX) (h : HF) (wish : Ends → WX) : Prop := ∀ (D : Ends) (H0 : Hp) (Z : Addr → Prop) (o : Out) (c : Nat) (i : Int) (ρ : Rho) (σ : St) (H : Hp) (dd : Addr), h c i ρ = some o → SI K H0 Z H σ ρ → H dd = some (.xd [(("at" : Str), .int i)]) → OOk K Cl W H0 Z D o → wish D (.ref (Cl c)) (some dd) σ H
def DHs (X : Cx) (Cl : Nat → Addr) (W : WX) (hds : List ExceptHandler) (h : HF) : Prop := ∃ wish : Ends → WX, (∀ D, X.Ok → Clauses X hds D (wish D)) ∧ HOk X.K Cl W h wish
theorem dhs_nil (hs : X.stack = X.env :: X.outer) (hf : X.env.frame = some X.env.locals) (tk : Takes X W) : DHs X Cl W [] hNil :=
  ⟨fun _ => W, fun D _ => clauses_nil hs hf tk, fun D H0 Z o c i ρ σ H dd e I hd q => by cases e; exact q dd σ H I hd⟩
theorem SI.setErr {H0 : Hp} {Z : Addr → Prop} {H : Hp} {σ : St} {ρ : Rho} (I : SI K H0 Z H σ ρ) {k : Nat} {a dd : Addr} {i : Int} (h : H dd = some (.xd [(("at" : Str), .int i)])) : SI K H0 Z H (σ.set k (some (.ref a))) (ρ.set k (.err a dd i)) :=
  ⟨I.di.setS (fun _ z => nomatch z) fun _ _ => ⟨rfl, h⟩, I.same, fun b ⟨j, q⟩ => I.new b ⟨j, own_sub (s := .err a dd i) (fun _ z => by cases z) q⟩⟩
/-- the suite's reading -/
def tsX (K : PySem.W.Frag) (Cl : Nat → Addr) (n : Nat → Prop) (g : Nat → Addr → Addr → FS) (a : Addr) (cls : Value) (d : Option Addr) : TS := fun D σ H => ∃ c dd, n c ∧ cls = .ref (Cl c) ∧ d = some dd ∧ tsOf K Cl W0 (g c a dd) D σ H
theorem dhs_as {x n : Str} {k : Nat} {N : Nat → Prop} {C : Value} {b0 : Stmt} {suite : List Stmt} {np pos' : Pos} {hds : List ExceptHandler} {rest : HF} {m : Nat → Option Bool} {g : Nat → Addr → Addr → FS} (hf : X.env.frame = some X.env.locals) (hN : X.N.Nodup) (hc : Names X x C) (hm : ∀ c b, m c = some b → N c ∧ PySem.W.exmOne X.K (.ref (Cl c)) C = some b)
    (hsu : ∀ (a dd : Addr) (c : Nat) (oe : Obj) (pn : List (Addr × Obj)), N c → Zc (.ref (Cl c)) (some dd) oe → (∃ vs, oe.data = .fields vs) → DSs (X.suite a ((a, oe) :: pn)) Cl W0 (b0 :: suite) (g c a dd)) (hr : DHs X Cl W hds rest)
    (hi : X.N[k]? = some n := by rfl) (hln : X.env.kindOf n = some .local := by rfl) : DHs X Cl W (.ExceptHandler (some (.Name x np)) (some n) (b0 :: suite) pos' :: hds) (hAs m k g rest) := by
  obtain ⟨wr, h1, h2⟩ := hr
  refine ⟨_, fun D ok => clauses_as (ts := tsX X.K Cl N g) ok hf hN hi hln hc (fun a oe cls d pn hz hdat => ⟨fun pins s σ H D I q => ?_⟩) (h1 D ok), fun D H0 Z o c i ρ σ H dd e I hd q => ?_⟩
  · obtain ⟨c, dd, hlt, rfl, rfl, q⟩ := q
    exact (hsu a dd c oe pn hlt hz hdat).run pins s σ H D I q
  · unfold hAs at e
    cases e1 : m c with
    | none => rw [e1] at e; cases e
    | some b =>
      rw [e1] at e
      obtain ⟨hlt, hb⟩ := hm c b e1
      refine ⟨b, hb, fun hb1 a na => ?_, fun hb0 => ?_⟩
      · subst hb1
        have sp := anyAd_spec e a dd
        cases e2 : g c a dd (ρ.set k (.err a dd i)) with
        | none => rw [e2] at sp; cases sp
        | some o2 =>
          rw [e2] at sp
          refine ⟨c, dd, hlt, rfl, rfl, H0, Z, _, o2, I.setErr hd, e2, ?_⟩
          cases o2 with
          | nx ρ2 => cases sp; exact fun σ' H' I' => q _ H' I'.setUn
          | brk ρ2 => cases sp; exact fun σ' H' I' => q _ H' I'.setUn
          | ct ρ2 => cases sp; exact fun σ' H' I' => q _ H' I'.setUn
          | ret d => cases sp; exact q
          | retF ds => cases sp; exact q
          | retX ds k => cases sp; exact q
          | exc _ _ _ => cases sp
      · subst hb0
        exact h2 D H0 Z o c i ρ σ H dd e I hd q
theorem dhs_one {x : Str} {N : Nat → Prop} {C : Value} {b0 : Stmt} {suite : List Stmt} {np pos' : Pos} {hds : List ExceptHandler} {rest : HF} {m : Nat → Option Bool} {g : FS} (hf : X.env.frame = some X.env.locals) (hc : Names X x C) (hm : ∀ c b, m c = some b → N c ∧ PySem.W.exmOne X.K (.ref (Cl c)) C = some b)
    (hsu : ∀ (a : Addr) (oe : Obj) (pn : List (Addr × Obj)), DSs (X.suite a ((a, oe) :: pn)) Cl W0 (b0 :: suite) g) (hr : DHs X Cl W hds rest) :
    DHs X Cl W (.ExceptHandler (some (.Name x np)) none (b0 :: suite) pos' :: hds) (hOne m g rest) := by
  obtain ⟨wr, h1, h2⟩ := hr
  refine ⟨_, fun D ok => clauses_one (ts := fun _ _ _ => tsOf X.K Cl W0 g) ok hf hc (fun a oe cls d pn hz hdat => ⟨fun pins s σ H D I q => (hsu a oe pn).run pins s σ H D I q⟩) (h1 D ok), fun D H0 Z o c i ρ σ H dd e I hd q => ?_⟩
  unfold hOne at e
  cases e1 : m c with
  | none => rw [e1] at e; cases e
  | some b =>
    rw [e1] at e
    obtain ⟨hlt, hb⟩ := hm c b e1
    refine ⟨b, hb, fun hb1 a na => ?_, fun hb0 => ?_⟩
    · subst hb1
      dsimp only at e
      cases e2 : g ρ with
      | none => rw [e2] at e; cases e
      | some o2 =>
        rw [e2] at e
        refine ⟨H0, Z, _, o2, I, e2, ?_⟩
        cases o2 with
        | nx ρ2 => cases e; exact q
        | brk ρ2 => cases e; exact q
        | ct ρ2 => cases e; exact q
        | ret d => cases e; exact q
        | retF ds => cases e; exact q
        | retX ds k => cases e; exact q
        | exc _ _ _ => cases e
    · subst hb0
      exact h2 D H0 Z o c i ρ σ H dd e I hd q
theorem ds_try {body : List Stmt} {h0 : ExceptHandler} {hds : List ExceptHandler} {fb : FS} {h : HF} (hs : X.stack = X.env :: X.outer) (hf : X.env.frame = some X.env.locals)
    (hb : ∀ (W' : WX) (pn : List (Addr × Obj)) (xe : Value → Shared → Prop), Takes (X.tr pn xe) W' → PassesOwn (model X.prog X.w) X.A X.env xe → DSs (X.tr pn xe) Cl W' body fb) (hh : DHs X Cl W (h0 :: hds) h) :
    DS X Cl W (.Try body (h0 :: hds) [] [] pos) (fTry fb h) := by
  obtain ⟨wish, h1, h2⟩ := hh
  refine PS.imp (ps_try (tb := fun W' => tsOf X.K Cl W' fb) hs hf hb h1) fun D σ H ⟨H0, Z, ρ, o, I, e, q⟩ => ?_
  unfold fTry at e
  cases e1 : fb ρ with
  | none => rw [e1] at e; cases e
  | some o1 =>
    rw [e1] at e
    refine ⟨H0, Z, ρ, o1, I, e1, ?_⟩
    cases o1 with
    | exc ρ1 c i => exact fun dd σ' H' I' hd => h2 D H0 Z o c i ρ1 σ' H' dd e I' hd q
    | nx ρ2 => cases e; exact q
    | brk ρ2 => cases e; exact q
    | ct ρ2 => cases e; exact q
    | ret d => cases e; exact q
    | retF ds => cases e; exact q
    | retX ds k => cases e; exact q
end
end DL
set_option Elab.async false
set_option linter.all false
set_option maxRecDepth 100000
set_option maxHeartbeats 4000000
/-! DL11: tables of classes. -/
namespace DL
open PySem PySem.Spec PyProof.Rows L2
/-- what a table tells of a class; none if it is not in it -/
def mxL : List (Nat × Bool) → Nat → Option Bool
  | [], _ => none
  | (k, b) :: r, c => if k = c then some b else mxL r c
inductive AllL (P : Nat → Bool → Prop) : List (Nat × Bool) → Prop
  | nil : AllL P []
  | cons {k : Nat} {b : Bool} {r : List (Nat × Bool)} : P k b → AllL P r → AllL P ((k, b) :: r)
theorem mxL_spec {P : Nat → Bool → Prop} : ∀ {l : List (Nat × Bool)}, AllL P l → ∀ c b, mxL l c = some b → P c b
  | _, .nil, c, b, e => nomatch e
  | _, .cons (k := k) (b := b') h t, c, b, e => by
    unfold mxL at e
    by_cases hk : k = c
    · rw [if_pos hk] at e
      cases e
      exact hk ▸ h
    · rw [if_neg hk] at e
      exact mxL_spec t c b e
end DL
set_option Elab.async false
set_option linter.all false
namespace FN
open PySem PySem.Spec PyProof.Rows L2 DL
noncomputable section
def c_HALVES : D := .tuple [.int 0, .int 498536548, .int 997073096, .int 651767980, .int 1994146192, .int 1802195444, .int 1303535960, .int 1342533948, .int 3988292384, .int 4027552580, .int 3604390888, .int 3412177804, .int 2607071920, .int 2262029012, .int 2685067896, .int 3183342108]
def b__law_draws : FS := fSeq (fSetO 1 (eLst (aNil))) (fSeq (fFor (iRange1 (aCons (eG bMin (aCons (eC (.int 63)) (aCons (eG bLen (aCons (eV 0) (aNil))) (aNil)))) (aNil))) (gN 2) (fSeq (fSet 3 (eG bAbs (aCons (e2 gIx (eV 0) (eV 2)) (aNil)))) (fIf (tV (e2 gGeX (eV 3) (e2 gPow (eC (.int 10)) (eC (.int 18))))) (fFor (iRange1 (aCons (eC (.int 60)) (aNil))) (gN 4) (fIf (tV (e2 gGtX (eV 3) (eC (.int 0)))) (fSeq (fApp 1 (e2 gMod (eG bInt (aCons (eV 3) (aNil))) (eC (.int 65536)))) (fSet 3 (e2 gDiv (eV 3) (eC (.int 65536))))) (fNx))) (fSeq (fSet 5 (e2 gMod (eG bInt (aCons (e2 gAdd (e2 gMul (eV 3) (eC (.int 48271))) (e2 gMul (e2 gAdd (eV 2) (eC (.int 1))) (eC (.int 69621)))) (aNil))) (eC (.int 2147483647)))) (fSeq (fSet 5 (e2 gMod (eG bInt (aCons (e2 gAdd (e2 gAdd (e2 gMul (eV 5) (eC (.int 16807))) (e2 gMul (eC (.int 11)) (eV 2))) (eC (.int 5))) (aNil))) (eC (.int 2147483629)))) (fSeq (fApp 1 (e2 gMod (eG bInt (aCons (eV 5) (aNil))) (eC (.int 65536)))) (fApp 1 (e2 gMod (eG bInt (aCons (e2 gDiv (eV 5) (eC (.int 65536))) (aNil))) (eC (.int 32768)))))))))) (fRet (eV 1)))
def d__law_draws : DF := mkD 1 6 b__law_draws
def b_checksum : FS := fSeq (fSet 1 (eC (.int 4294967295))) (fSeq (fFor (iSeq (eV 0)) (gN 2) (fSeq (fSet 1 (e2 gXor (eV 1) (eV 2))) (fSeq (fSet 1 (e2 gXor (e2 gShr (eV 1) (eC (.int 4))) (e2 gIx (eC c_HALVES) (e2 gAnd (eV 1) (eC (.int 15)))))) (fSet 1 (e2 gXor (e2 gShr (eV 1) (eC (.int 4))) (e2 gIx (eC c_HALVES) (e2 gAnd (eV 1) (eC (.int 15))))))))) (fRet (e2 gXor (eV 1) (eC (.int 4294967295)))))
def d_checksum : DF := mkD 1 3 b_checksum
def b_four_bytes : FS := fRet (eLst (aCons (e2 gAnd (eV 0) (eC (.int 255))) (aCons (e2 gAnd (e2 gShr (eV 0) (eC (.int 8))) (eC (.int 255))) (aCons (e2 gAnd (e2 gShr (eV 0) (eC (.int 16))) (eC (.int 255))) (aCons (e2 gAnd (e2 gShr (eV 0) (eC (.int 24))) (eC (.int 255))) (aNil))))))
def d_four_bytes : DF := mkD 1 1 b_four_bytes
def b__law_bits : FS := fRet (eLcG [1] (st1 1) (iRange1 (aCons (e2 gMul (eC (.int 8)) (eG bLen (aCons (eV 0) (aNil)))) (aNil))) (fun _ => some (.ok true)) (e2 gAnd (e2 gShr (e2 gIx (eV 0) (eG bInt (aCons (e2 gDiv (eV 1) (eC (.int 8))) (aNil)))) (e2 gAnd (eV 1) (eC (.int 7)))) (eC (.int 1))))
def d__law_bits : DF := mkD 1 2 b__law_bits
def b__law_at : FS := fSeq (fIf (tV (e2 gLtX (eV 1) (eG bLen (aCons (eV 0) (aNil))))) (fRet (e2 gMod (eG bInt (aCons (e2 gIx (eV 0) (eV 1)) (aNil))) (eV 2))) (fNx)) (fRet (eC (.int 0)))
def d__law_at : DF := mkD 3 3 b__law_at
def b__law_is_integer : FS := fRet (eAndV (e1 (gIsi "int") (eV 0)) (e1 gNotV (e1 (gIsi "bool") (eV 0))))
def d__law_is_integer : DF := mkD 1 1 b__law_is_integer
def b__law_check : FS := fSeq (fSet 1 (eC (.int 4294967295))) (fSeq (fFor (iSeq (eV 0)) (gN 2) (fFor (iRange1 (aCons (eC (.int 8)) (aNil))) (gN 3) (fSeq (fSet 4 (e2 gAnd (e2 gXor (e2 gShr (eV 2) (eV 3)) (eV 1)) (eC (.int 1)))) (fSeq (fSet 1 (e2 gShr (eV 1) (eC (.int 1)))) (fIf (tV (e2 gEq (eV 4) (eC (.int 1)))) (fSet 1 (e2 gXor (eV 1) (eC (.int 3988292384)))) (fNx)))))) (fRet (e2 gXor (eV 1) (eC (.int 4294967295)))))
def d__law_check : DF := mkD 1 5 b__law_check
def b_number_of : FS := fRet (e2 gAdd (e2 gAdd (e2 gAdd (e2 gIx (eV 0) (eC (.int 0))) (e2 gShl (e2 gIx (eV 0) (eC (.int 1))) (eC (.int 8)))) (e2 gShl (e2 gIx (eV 0) (eC (.int 2))) (eC (.int 16)))) (e2 gShl (e2 gIx (eV 0) (eC (.int 3))) (eC (.int 24))))
def d_number_of : DF := mkD 1 1 b_number_of
def b__law_bytes : FS := fRet (eLcG [2] (st1 2) (iRange1 (aCons (e2 gDiv (eG bLen (aCons (eV 0) (aNil))) (eC (.int 8))) (aNil))) (fun _ => some (.ok true)) (eG bSum (aCons (eLcG [1] (st1 1) (iRange1 (aCons (eC (.int 8)) (aNil))) (fun _ => some (.ok true)) (e2 gShl (e2 gIx (eV 0) (e2 gAdd (e2 gMul (eC (.int 8)) (eV 2)) (eV 1))) (eV 1))) (aNil))))
def d__law_bytes : DF := mkD 1 3 b__law_bytes
def b_law_k01 : FS := fSeq (fSet 1 (eCall FN.d__law_draws 1 (aCons (eV 0) (aNil)))) (fSeq (fSet 2 (eLcG [3] (st1 3) (iRange1 (aCons (eCall FN.d__law_at 3 (aCons (eV 1) (aCons (eC (.int 0)) (aCons (eC (.int 41)) (aNil))))) (aNil))) (fun _ => some (.ok true)) (eCall FN.d__law_at 3 (aCons (eV 1) (aCons (e2 gAdd (eC (.int 4)) (eV 3)) (aCons (eC (.int 256)) (aNil))))))) (fSeq (fSet 4 (eG bList (aCons (eV 2) (aNil)))) (fSeq (fSet 5 (eCall FN.d_checksum 1 (aCons (eV 2) (aNil)))) (fSeq (fIf (tOrD (tNotD (tV (eCall FN.d__law_is_integer 1 (aCons (eV 5) (aNil))))) (tOrD (tV (e2 gNe (eV 5) (eCall FN.d__law_check 1 (aCons (eV 4) (aNil))))) (tV (e2 gNe (eV 2) (eV 4))))) (fRet (eC (.bool false))) (fNx)) (fSeq (fSet 6 (e2 gAdd (eCall FN.d__law_at 3 (aCons (eV 1) (aCons (eC (.int 1)) (aCons (eC (.int 65536)) (aNil))))) (e2 gMul (eC (.int 65536)) (eCall FN.d__law_at 3 (aCons (eV 1) (aCons (eC (.int 2)) (aCons (eC (.int 65536)) (aNil)))))))) (fSeq (fSet 7 (eCall FN.d_four_bytes 1 (aCons (eV 6) (aNil)))) (fSeq (fIf (tOrD (tNotD (tV (e1 (gIsi "list") (eV 7)))) (tV (e2 gNe (eV 7) (eLst (aCons (e2 gAnd (eV 6) (eC (.int 255))) (aCons (e2 gAnd (e2 gShr (eV 6) (eC (.int 8))) (eC (.int 255))) (aCons (e2 gAnd (e2 gShr (eV 6) (eC (.int 16))) (eC (.int 255))) (aCons (e2 gShr (eV 6) (eC (.int 24))) (aNil))))))))) (fRet (eC (.bool false))) (fNx)) (fSeq (fIf (tOrD (tNotD (tV (eCall FN.d__law_is_integer 1 (aCons (eCall FN.d_number_of 1 (aCons (eV 7) (aNil))) (aNil))))) (tOrD (tV (e2 gNe (eCall FN.d_number_of 1 (aCons (eV 7) (aNil))) (eV 6))) (tV (e2 gNe (eCall FN.d_checksum 1 (aCons (eLst (aNil)) (aNil))) (eC (.int 0)))))) (fRet (eC (.bool false))) (fNx)) (fSeq (fSetO 8 (eCall FN.d__law_bits 1 (aCons (eV 2) (aNil)))) (fSeq (fIf (tV (e2 gEq (eG bLen (aCons (eV 8) (aNil))) (eC (.int 0)))) (fRet (eC (.bool true))) (fNx)) (fSeq (fSet 9 (eCall FN.d__law_at 3 (aCons (eV 1) (aCons (eC (.int 3)) (aCons (eG bLen (aCons (eV 8) (aNil))) (aNil)))))) (fSeq (fPut 8 (eV 9) (e2 gSub (eC (.int 1)) (e2 gIx (eV 8) (eV 9)))) (fSeq (fFor (iRange2 (aCons (eC (.int 1)) (aCons (eC (.int 32)) (aNil)))) (gN 3) (fIf (tAndD (tV (e2 gLtX (e2 gAdd (eV 9) (eV 3)) (eG bLen (aCons (eV 8) (aNil))))) (tV (e2 gEq (e2 gAnd (e2 gShr (eV 6) (eV 3)) (eC (.int 1))) (eC (.int 1))))) (fPut 8 (e2 gAdd (eV 9) (eV 3)) (e2 gSub (eC (.int 1)) (e2 gIx (eV 8) (e2 gAdd (eV 9) (eV 3))))) (fNx))) (fRet (e2 gNe (eCall FN.d_checksum 1 (aCons (eCall FN.d__law_bytes 1 (aCons (eV 8) (aNil))) (aNil))) (eV 5))))))))))))))))
def d_law_k01 : DF := mkD 1 10 b_law_k01
end
end FN
set_option Elab.async false
set_option linter.all false
namespace FN
open PySem PySem.Spec PyProof.Rows L2 DL
noncomputable section
def b__law_number : FS := fSeq (fSet 2 (e2 gAdd (e2 gAdd (eCall FN.d__law_at 3 (aCons (eV 0) (aCons (eV 1) (aCons (eC (.int 65536)) (aNil))))) (e2 gMul (eC (.int 65536)) (eCall FN.d__law_at 3 (aCons (eV 0) (aCons (e2 gAdd (eV 1) (eC (.int 1))) (aCons (eC (.int 65536)) (aNil))))))) (e2 gMul (eC (.int 4294967296)) (eCall FN.d__law_at 3 (aCons (eV 0) (aCons (e2 gAdd (eV 1) (eC (.int 2))) (aCons (eC (.int 256)) (aNil)))))))) (fRet (e2 gShr (eV 2) (eCall FN.d__law_at 3 (aCons (eV 0) (aCons (e2 gAdd (eV 1) (eC (.int 3))) (aCons (eC (.int 41)) (aNil)))))))
def d__law_number : DF := mkD 2 3 b__law_number
def b_put_steps : FS := fSeq (fIf (tOrD (tV (e2 gLtX (eV 0) (eC (.int 0)))) (tV (e2 gGeX (eV 0) (eC (.int 1099511627776))))) (fRaise 1 (eC (.int 0))) (fNx)) (fSeq (fSetO 1 (eLst (aNil))) (fSeq (fWhile (tV (e2 gGeX (eV 0) (eC (.int 128)))) (fSeq (fApp 1 (e2 gAdd (e2 gAnd (eV 0) (eC (.int 127))) (eC (.int 128)))) (fSet 0 (e2 gShr (eV 0) (eC (.int 7)))))) (fSeq (fApp 1 (eV 0)) (fRet (eV 1)))))
def d_put_steps : DF := mkD 1 2 b_put_steps
def b__law_refused : FS := fSeq (fTry (fDrop (eCall FN.d_put_steps 1 (aCons (eV 0) (aNil)))) (hAs (mxL [(1, true)]) 1 (fun xc xa xd => fRet (eAndV (e2 gEq (eAt 1 xa xd) (eC (.int 0))) (eAndV (eIsX 1 xa xd (mxL [(1, true)] xc)) (eIsX 1 xa xd (mxL [(1, true)] xc))))) (hNil))) (fRet (eC (.bool false)))
def d__law_refused : DF := mkD 1 2 b__law_refused
def b__law_steps : FS := fSeq (fSetO 1 (eLst (aNil))) (fSeq (fFor (iRange1 (aCons (eC (.int 7)) (aNil))) (gN 2) (fIf (tOrD (tV (e2 gEq (eV 2) (eC (.int 0)))) (tV (e2 gGtX (eV 0) (eC (.int 0))))) (fSeq (fApp 1 (e2 gAnd (eV 0) (eC (.int 127)))) (fSet 0 (e2 gShr (eV 0) (eC (.int 7))))) (fNx))) (fRet (e2 gAdd (eLcG [3] (st1 3) (iSeq (eSl (eV 1) (oNone) (oSome (e1 gNeg (eC (.int 1)))))) (fun _ => some (.ok true)) (e2 gAdd (eV 3) (eC (.int 128)))) (eSl (eV 1) (oSome (e1 gNeg (eC (.int 1)))) (oNone)))))
def d__law_steps : DF := mkD 1 4 b__law_steps
def b_end_of_steps : FS := fSeq (fFor (iRange2 (aCons (eV 1) (aCons (e2 gAdd (eV 1) (eC (.int 6))) (aNil)))) (gN 2) (fSeq (fIf (tV (e2 gGeX (eV 2) (eG bLen (aCons (eV 0) (aNil))))) (fRaise 3 (eG bLen (aCons (eV 0) (aNil)))) (fNx)) (fIf (tV (e2 gLtX (e2 gIx (eV 0) (eV 2)) (eC (.int 128)))) (fRet (e2 gAdd (eV 2) (eC (.int 1)))) (fNx)))) (fRet (e2 gAdd (eV 1) (eC (.int 6))))
def d_end_of_steps : DF := mkD 2 3 b_end_of_steps
def b_get_steps : FS := fSeq (fSet 2 (eCall FN.d_end_of_steps 2 (aCons (eV 0) (aCons (eV 1) (aNil))))) (fSeq (fSet 3 (eC (.int 0))) (fSeq (fFor (iRange2 (aCons (eV 1) (aCons (eV 2) (aNil)))) (gN 4) (fAug 3 (fun i j => i + j) (e2 gShl (e2 gAnd (e2 gIx (eV 0) (eV 4)) (eC (.int 127))) (e2 gMul (eC (.int 7)) (e2 gSub (eV 4) (eV 1)))))) (fSeq (fIf (tOrD (tV (e2 gGeX (e2 gIx (eV 0) (e2 gSub (eV 2) (eC (.int 1)))) (eC (.int 128)))) (tV (e2 gGeX (eV 3) (eC (.int 1099511627776))))) (fRaise 1 (eV 1)) (fNx)) (fSeq (fIf (tAndD (tV (e2 gGtX (e2 gSub (eV 2) (eV 1)) (eC (.int 1)))) (tV (e2 gEq (e2 gIx (eV 0) (e2 gSub (eV 2) (eC (.int 1)))) (eC (.int 0))))) (fRaise 2 (eV 1)) (fNx)) (fRet (eTup (aCons (eV 3) (aCons (eV 2) (aNil)))))))))
def d_get_steps : DF := mkD 2 5 b_get_steps
def b__law_told_v2 : FS := fSeq (fTry (fSet 2 (eCall FN.d_get_steps 2 (aCons (eV 0) (aCons (eV 1) (aNil))))) (hAs (mxL [(1, false), (2, false), (3, true)]) 3 (fun xc xa xd => fRet (eTup (aCons (eC (.str "truncated")) (aCons (eAt 3 xa xd) (aNil))))) (hAs (mxL [(1, true), (2, false), (3, false)]) 3 (fun xc xa xd => fRet (eTup (aCons (eC (.str "range")) (aCons (eAt 3 xa xd) (aNil))))) (hAs (mxL [(1, false), (2, true), (3, false)]) 3 (fun xc xa xd => fRet (eTup (aCons (eC (.str "loose")) (aCons (eAt 3 xa xd) (aNil))))) (hNil))))) (fSeq (fIf (tOrD (tNotD (tV (e1 (gIsi "tuple") (eV 2)))) (tOrD (tV (e2 gNe (eG bLen (aCons (eV 2) (aNil))) (eC (.int 2)))) (tOrD (tNotD (tV (eCall FN.d__law_is_integer 1 (aCons (e2 gIx (eV 2) (eC (.int 0))) (aNil))))) (tNotD (tV (eCall FN.d__law_is_integer 1 (aCons (e2 gIx (eV 2) (eC (.int 1))) (aNil)))))))) (fRet (eC .none)) (fNx)) (fRet (eV 2)))
def d__law_told_v2 : DF := mkD 2 4 b__law_told_v2
def b__law_due : FS := fSeq (fSet 2 (eC (.int 0))) (fSeq (fFor (iRange1 (aCons (eC (.int 6)) (aNil))) (gN 3) (fSeq (fIf (tV (e2 gGeX (e2 gAdd (eV 1) (eV 3)) (eG bLen (aCons (eV 0) (aNil))))) (fRet (eTup (aCons (eC (.str "truncated")) (aCons (eG bLen (aCons (eV 0) (aNil))) (aNil))))) (fNx)) (fSeq (fSet 2 (e2 gAdd (eV 2) (e2 gShl (e2 gAnd (e2 gIx (eV 0) (e2 gAdd (eV 1) (eV 3))) (eC (.int 127))) (e2 gMul (eC (.int 7)) (eV 3))))) (fIf (tV (e2 gLtX (e2 gIx (eV 0) (e2 gAdd (eV 1) (eV 3))) (eC (.int 128)))) (fSeq (fIf (tV (e2 gGtX (e2 gShr (eV 2) (eC (.int 40))) (eC (.int 0)))) (fRet (eTup (aCons (eC (.str "range")) (aCons (eV 1) (aNil))))) (fNx)) (fSeq (fIf (tAndD (tV (e2 gGtX (eV 3) (eC (.int 0)))) (tV (e2 gEq (e2 gIx (eV 0) (e2 gAdd (eV 1) (eV 3))) (eC (.int 0))))) (fRet (eTup (aCons (eC (.str "loose")) (aCons (eV 1) (aNil))))) (fNx)) (fRet (eTup (aCons (eV 2) (aCons (e2 gAdd (e2 gAdd (eV 1) (eV 3)) (eC (.int 1))) (aNil))))))) (fNx))))) (fRet (eTup (aCons (eC (.str "range")) (aCons (eV 1) (aNil))))))
def d__law_due : DF := mkD 2 4 b__law_due
def b_law_k00 : FS := fSeq (fSet 1 (eCall FN.d__law_draws 1 (aCons (eV 0) (aNil)))) (fSeq (fSet 2 (eCall FN.d__law_number 2 (aCons (eV 1) (aCons (eC (.int 0)) (aNil))))) (fSeq (fSet 3 (eCall FN.d_put_steps 1 (aCons (eV 2) (aNil)))) (fSeq (fIf (tOrD (tNotD (tV (e1 (gIsi "list") (eV 3)))) (tV (e2 gNe (eV 3) (eCall FN.d__law_steps 1 (aCons (eV 2) (aNil)))))) (fRet (eC (.bool false))) (fNx)) (fSeq (fSet 4 (eLcG [5] (st1 5) (iRange1 (aCons (eCall FN.d__law_at 3 (aCons (eV 1) (aCons (eC (.int 4)) (aCons (eC (.int 6)) (aNil))))) (aNil))) (fun _ => some (.ok true)) (eCall FN.d__law_at 3 (aCons (eV 1) (aCons (e2 gAdd (eC (.int 4)) (eV 5)) (aCons (eC (.int 256)) (aNil))))))) (fSeq (fSet 6 (e2 gAdd (e2 gAdd (eV 4) (eV 3)) (eLcG [5] (st1 5) (iRange1 (aCons (eCall FN.d__law_at 3 (aCons (eV 1) (aCons (eC (.int 10)) (aCons (eC (.int 6)) (aNil))))) (aNil))) (fun _ => some (.ok true)) (eCall FN.d__law_at 3 (aCons (eV 1) (aCons (e2 gAdd (eC (.int 10)) (eV 5)) (aCons (eC (.int 256)) (aNil)))))))) (fSeq (fSet 7 (eG bList (aCons (eV 6) (aNil)))) (fSeq (fIf (tOrD (tV (e2 gNe (eCall FN.d_get_steps 2 (aCons (eV 6) (aCons (eG bLen (aCons (eV 4) (aNil))) (aNil)))) (eTup (aCons (eV 2) (aCons (e2 gAdd (eG bLen (aCons (eV 4) (aNil))) (eG bLen (aCons (eV 3) (aNil)))) (aNil)))))) (tV (e2 gNe (eV 6) (eV 7)))) (fRet (eC (.bool false))) (fNx)) (fSeq (fSet 8 (eLcG [5] (st1 5) (iRange1 (aCons (eCall FN.d__law_at 3 (aCons (eV 1) (aCons (eC (.int 16)) (aCons (eC (.int 9)) (aNil))))) (aNil))) (fun _ => some (.ok true)) (eCall FN.d__law_at 3 (aCons (eV 1) (aCons (e2 gAdd (eC (.int 16)) (eV 5)) (aCons (eC (.int 256)) (aNil))))))) (fSeq (fIf (tV (e2 gEq (eCall FN.d__law_at 3 (aCons (eV 1) (aCons (eC (.int 17)) (aCons (eC (.int 2)) (aNil))))) (eC (.int 1)))) (fSeq (fSet 9 (e2 gIx (eLst (aCons (eC (.int 1)) (aCons (eC (.int 15)) (aCons (eC (.int 127)) (aNil))))) (eCall FN.d__law_at 3 (aCons (eV 1) (aCons (eC (.int 18)) (aCons (eC (.int 3)) (aNil))))))) (fSet 8 (e2 gAdd (eLcG [10] (st1 10) (iSeq (eSl (eV 8) (oNone) (oSome (e1 gNeg (eC (.int 1)))))) (fun _ => some (.ok true)) (e2 gOr (eV 10) (eC (.int 128)))) (eLcG [10] (st1 10) (iSeq (eSl (eV 8) (oSome (e1 gNeg (eC (.int 1)))) (oNone))) (fun _ => some (.ok true)) (e2 gAnd (eV 10) (eV 9)))))) (fNx)) (fSeq (fFor (iRange1 (aCons (e2 gAdd (eG bLen (aCons (eV 8) (aNil))) (eC (.int 1))) (aNil))) (gN 11) (fIf (tV (e2 gNe (eCall FN.d__law_told_v2 2 (aCons (eV 8) (aCons (eV 11) (aNil)))) (eCall FN.d__law_due 2 (aCons (eV 8) (aCons (eV 11) (aNil)))))) (fRet (eC (.bool false))) (fNx))) (fRet (eAndV (eCall FN.d__law_refused 1 (aCons (e2 gSub (e1 gNeg (eC (.int 1))) (eV 2)) (aNil))) (eAndV (eCall FN.d__law_refused 1 (aCons (e2 gAdd (eV 2) (eC (.int 1099511627776))) (aNil))) (eCall FN.d__law_refused 1 (aCons (eC (.int 1099511627776)) (aNil))))))))))))))))
def d_law_k00 : DF := mkD 1 12 b_law_k00
end
end FN
set_option Elab.async false
set_option linter.all false
set_option maxRecDepth 100000
set_option maxHeartbeats 4000000
namespace K00
open PySem PySem.Spec PyProof.Rows L2 DL

def topS (i : Nat) : Stmt := PySem.Challenge.pw_spoolbox_k00_step_numbers.main.body.getD i (.Pass ⟨0, 0, 0, 0⟩)
abbrev s__law_draws : Stmt := topS 12
theorem sc__law_draws : FnScope ["script", "draws", "k", "rest", "turn", "mixed"] ["script"] (defScope s__law_draws) := ⟨rfl, rfl, rfl, by decide +kernel, rfl, by decide +kernel, by decide +kernel⟩
abbrev s__law_at : Stmt := topS 13
theorem sc__law_at : FnScope ["draws", "k", "many"] ["draws", "k", "many"] (defScope s__law_at) := ⟨rfl, rfl, rfl, by decide +kernel, rfl, by decide +kernel, by decide +kernel⟩
abbrev s__law_number : Stmt := topS 16
theorem sc__law_number : FnScope ["draws", "k", "number"] ["draws", "k"] (defScope s__law_number) := ⟨rfl, rfl, rfl, by decide +kernel, rfl, by decide +kernel, by decide +kernel⟩
abbrev s_put_steps : Stmt := topS 8
theorem sc_put_steps : FnScope ["number", "row"] ["number"] (defScope s_put_steps) := ⟨rfl, rfl, rfl, by decide +kernel, rfl, by decide +kernel, by decide +kernel⟩
abbrev s__law_refused : Stmt := topS 19
theorem sc__law_refused : FnScope ["number", "e"] ["number"] (defScope s__law_refused) := ⟨rfl, rfl, rfl, by decide +kernel, rfl, by decide +kernel, by decide +kernel⟩
abbrev s__law_steps : Stmt := topS 15
theorem sc__law_steps : FnScope ["number", "out", "k", "byte"] ["number"] (defScope s__law_steps) := ⟨rfl, rfl, rfl, by decide +kernel, rfl, by decide +kernel, by decide +kernel⟩
abbrev s_end_of_steps : Stmt := topS 10
theorem sc_end_of_steps : FnScope ["row", "at", "place"] ["row", "at"] (defScope s_end_of_steps) := ⟨rfl, rfl, rfl, by decide +kernel, rfl, by decide +kernel, by decide +kernel⟩
abbrev s_get_steps : Stmt := topS 9
theorem sc_get_steps : FnScope ["row", "at", "stop", "number", "place"] ["row", "at"] (defScope s_get_steps) := ⟨rfl, rfl, rfl, by decide +kernel, rfl, by decide +kernel, by decide +kernel⟩
abbrev s__law_is_integer : Stmt := topS 14
theorem sc__law_is_integer : FnScope ["actual"] ["actual"] (defScope s__law_is_integer) := ⟨rfl, rfl, rfl, by decide +kernel, rfl, by decide +kernel, by decide +kernel⟩
abbrev s__law_told : Stmt := topS 18
theorem sc__law_told : FnScope ["row", "at", "told", "e"] ["row", "at"] (defScope s__law_told) := ⟨rfl, rfl, rfl, by decide +kernel, rfl, by decide +kernel, by decide +kernel⟩
abbrev s__law_due : Stmt := topS 17
theorem sc__law_due : FnScope ["row", "at", "number", "k"] ["row", "at"] (defScope s__law_due) := ⟨rfl, rfl, rfl, by decide +kernel, rfl, by decide +kernel, by decide +kernel⟩
abbrev s_law : Stmt := topS 20
theorem sc_law : FnScope ["script", "draws", "number", "told", "ahead", "k", "row", "kept", "others", "most", "byte", "at"] ["script"] (defScope s_law) := ⟨rfl, rfl, rfl, by decide +kernel, rfl, by decide +kernel, by decide +kernel⟩
abbrev s_init : Stmt := inClass (topS 1) 0
theorem sc_init : FnScope ["self", "at"] ["self", "at"] (defScope s_init) := ⟨rfl, rfl, rfl, by decide +kernel, rfl, by decide +kernel, by decide +kernel⟩
structure Txt (K : PySem.W.Frag) (mg : Str → Option Value) (Cl : Nat → Addr) where
  a__law_draws : Addr
  fd__law_draws : FuncData
  F__law_draws : Fun K "_law_draws" "_law_draws" s__law_draws a__law_draws fd__law_draws
  g__law_draws : mg "_law_draws" = some (.ref a__law_draws)
  b__law_draws : Binds K fd__law_draws ["script"] []
  a__law_at : Addr
  fd__law_at : FuncData
  F__law_at : Fun K "_law_at" "_law_at" s__law_at a__law_at fd__law_at
  g__law_at : mg "_law_at" = some (.ref a__law_at)
  b__law_at : Binds K fd__law_at ["draws", "k", "many"] []
  a__law_number : Addr
  fd__law_number : FuncData
  F__law_number : Fun K "_law_number" "_law_number" s__law_number a__law_number fd__law_number
  g__law_number : mg "_law_number" = some (.ref a__law_number)
  b__law_number : Binds K fd__law_number ["draws", "k"] []
  a_put_steps : Addr
  fd_put_steps : FuncData
  F_put_steps : Fun K "put_steps" "put_steps" s_put_steps a_put_steps fd_put_steps
  g_put_steps : mg "put_steps" = some (.ref a_put_steps)
  b_put_steps : Binds K fd_put_steps ["number"] []
  a__law_refused : Addr
  fd__law_refused : FuncData
  F__law_refused : Fun K "_law_refused" "_law_refused" s__law_refused a__law_refused fd__law_refused
  g__law_refused : mg "_law_refused" = some (.ref a__law_refused)
  b__law_refused : Binds K fd__law_refused ["number"] []
  a__law_steps : Addr
  fd__law_steps : FuncData
  F__law_steps : Fun K "_law_steps" "_law_steps" s__law_steps a__law_steps fd__law_steps
  g__law_steps : mg "_law_steps" = some (.ref a__law_steps)
  b__law_steps : Binds K fd__law_steps ["number"] []
  a_end_of_steps : Addr
  fd_end_of_steps : FuncData
  F_end_of_steps : Fun K "end_of_steps" "end_of_steps" s_end_of_steps a_end_of_steps fd_end_of_steps
  g_end_of_steps : mg "end_of_steps" = some (.ref a_end_of_steps)
  b_end_of_steps : Binds K fd_end_of_steps ["row", "at"] []
  a_get_steps : Addr
  fd_get_steps : FuncData
  F_get_steps : Fun K "get_steps" "get_steps" s_get_steps a_get_steps fd_get_steps
  g_get_steps : mg "get_steps" = some (.ref a_get_steps)
  b_get_steps : Binds K fd_get_steps ["row", "at"] []
  a__law_is_integer : Addr
  fd__law_is_integer : FuncData
  F__law_is_integer : Fun K "_law_is_integer" "_law_is_integer" s__law_is_integer a__law_is_integer fd__law_is_integer
  g__law_is_integer : mg "_law_is_integer" = some (.ref a__law_is_integer)
  b__law_is_integer : Binds K fd__law_is_integer ["actual"] []
  a__law_told : Addr
  fd__law_told : FuncData
  F__law_told : Fun K "_law_told" "_law_told" s__law_told a__law_told fd__law_told
  g__law_told : mg "_law_told" = some (.ref a__law_told)
  b__law_told : Binds K fd__law_told ["row", "at"] []
  a__law_due : Addr
  fd__law_due : FuncData
  F__law_due : Fun K "_law_due" "_law_due" s__law_due a__law_due fd__law_due
  g__law_due : mg "_law_due" = some (.ref a__law_due)
  b__law_due : Binds K fd__law_due ["row", "at"] []
  a_law : Addr
  fd_law : FuncData
  F_law : Fun K "law" "law" s_law a_law fd_law
  g_law : mg "law" = some (.ref a_law)
  b_law : Binds K fd_law ["script"] []
  z_range : mg "range" = none
  z_min : mg "min" = none
  z_len : mg "len" = none
  z_abs : mg "abs" = none
  z_int : mg "int" = none
  z_isinstance : mg "isinstance" = none
  z_ValueError : mg "ValueError" = none
  z_bool : mg "bool" = none
  z_tuple : mg "tuple" = none
  z_list : mg "list" = none
  t_STEP_LIMIT : Tok
  g_STEP_LIMIT : mg "STEP_LIMIT" = some (.int 1099511627776 t_STEP_LIMIT)
  t_MOST_STEPS : Tok
  g_MOST_STEPS : mg "MOST_STEPS" = some (.int 6 t_MOST_STEPS)
  a_init : Addr
  fd_init : FuncData
  n_init : InT K "SpoolboxError.__init__" s_init a_init fd_init
  x_OutOfRange : ExT K mg "OutOfRange" (Cl 1) a_init
  x_Truncated : ExT K mg "Truncated" (Cl 3) a_init
  x_LooseNumber : ExT K mg "LooseNumber" (Cl 2) a_init
  gx_OutOfRange : mg "OutOfRange" = some (.ref (Cl 1))
  gx_SpoolboxError : mg "SpoolboxError" = some (.ref (Cl 0))
  gx_LooseNumber : mg "LooseNumber" = some (.ref (Cl 2))
  gx_Truncated : mg "Truncated" = some (.ref (Cl 3))
  er_OutOfRange : ErF K (Cl 1)
  er_Truncated : ErF K (Cl 3)
  er_LooseNumber : ErF K (Cl 2)
  em_OutOfRange_OutOfRange : PySem.W.exmOne K (.ref (Cl 1)) (.ref (Cl 1)) = some true
  em_Truncated_LooseNumber : PySem.W.exmOne K (.ref (Cl 3)) (.ref (Cl 2)) = some false
  em_LooseNumber_LooseNumber : PySem.W.exmOne K (.ref (Cl 2)) (.ref (Cl 2)) = some true
  em_OutOfRange_LooseNumber : PySem.W.exmOne K (.ref (Cl 1)) (.ref (Cl 2)) = some false
  em_Truncated_OutOfRange : PySem.W.exmOne K (.ref (Cl 3)) (.ref (Cl 1)) = some false
  em_LooseNumber_OutOfRange : PySem.W.exmOne K (.ref (Cl 2)) (.ref (Cl 1)) = some false
  em_Truncated_Truncated : PySem.W.exmOne K (.ref (Cl 3)) (.ref (Cl 3)) = some true
  em_LooseNumber_Truncated : PySem.W.exmOne K (.ref (Cl 2)) (.ref (Cl 3)) = some false
  em_OutOfRange_Truncated : PySem.W.exmOne K (.ref (Cl 1)) (.ref (Cl 3)) = some false
  ki_OutOfRange_SpoolboxError : PySem.W.kitOne K (.ref (Cl 1)) (.ref (Cl 0)) = some true
  kb_OutOfRange_ValueError : PySem.W.kitOne K (.ref (Cl 1)) (.type "ValueError") = some true
section
variable {P : Program} {w : World} {K : PySem.W.Frag} {mg : Str → Option Value} {base : Heap} {Cl : Nat → Addr}
theorem ok_init (T : Txt K mg Cl) : FnOk P w K mg base (L2.CX P w) 1 T.a_init T.fd_init ["self", "at"] (spIn K) := by
  refine T.n_init.F.okX sc_init (fun vs H Q E ⟨a, C, y, e, _⟩ => by rw [e]; rfl) fun cdv A outer s H vs Q E hr h => ?_
  obtain ⟨a, C, y, rfl, h1, h2, h3, q⟩ := h
  refine ⟨_, pss_one (ps_ost (pv 0) (pv 1)), ?_⟩
  exact ⟨y, rfl, .ref a, rfl, a, C, rfl, h1, h2, .inl ⟨h3, fun dx n ne => q dx n ne⟩⟩
theorem ok__law_draws (T : Txt K mg Cl) : FnOk P w K mg base (L2.CX P w) 1 T.a__law_draws T.fd__law_draws ["script"] (spD K Cl 1 FN.d__law_draws) := by
  refine def_ok (k := 0) T.F__law_draws sc__law_draws rfl rfl fun cdv A outer s H E hr => ?_
  have tk := takes_of (X := cxOf (L2.CX P w) P w K mg base ["script", "draws", "k", "rest", "turn", "mixed"] "_law_draws" (defScope s__law_draws) T.a__law_draws cdv A outer s H E) rfl rfl rfl rfl
  have hp : PassesOwn (model P w) (cxOf (L2.CX P w) P w K mg base ["script", "draws", "k", "rest", "turn", "mixed"] "_law_draws" (defScope s__law_draws) T.a__law_draws cdv A outer s H E).A (cxOf (L2.CX P w) P w K mg base ["script", "draws", "k", "rest", "turn", "mixed"] "_law_draws" (defScope s__law_draws) T.a__law_draws cdv A outer s H E).env (cxOf (L2.CX P w) P w K mg base ["script", "draws", "k", "rest", "turn", "mixed"] "_law_draws" (defScope s__law_draws) T.a__law_draws cdv A outer s H E).xe := PassesOwn.leaving
  exact ds_cons (ds_setO (i := 1) sc__law_draws.nd (de_lst (da_nil))) (ds_cons (ds_for hp rfl (di_range1 T.z_range (da_cons (de_callB (call_min2 rfl) cr_min2 T.z_min (by decide +kernel) (da_cons (de_int) (da_cons (de_callB call_len cr_len T.z_len PySem.boot_len (da_cons (de_var (pv 0)) (da_nil))) (da_nil)))) (da_nil))) (dg_name (i := 2) sc__law_draws.nd) (ds_cons (ds_set (i := 3) sc__law_draws.nd (de_callB call_abs cr_abs T.z_abs (by decide +kernel) (da_cons (de_ix (de_var (pv 0)) (de_var (pv 2))) (da_nil)))) (ds_one (ds_if (dt_cmp op_geX r2_geX (de_var (pv 3)) (de_pow (de_int) (de_int)) (nomark _)) (ds_one (ds_for hp rfl (di_range1 T.z_range (da_cons (de_int) (da_nil))) (dg_name (i := 4) sc__law_draws.nd) (ds_one (ds_if (dt_cmp op_gtX r2_gtX (de_var (pv 3)) (de_int) (nomark _)) (ds_cons (ds_app (i := 1) (pe_bm PySem.F.plainAttrs_list PySem.F.slot_list_append PySem.F.type_list_append mt_append (pv 1) (pa_cons (de_mod (de_callTy call_int1 cr_int T.z_int (by decide +kernel) (da_cons (de_var (pv 3)) (da_nil))) (de_int)) pa_nil))) (ds_one (ds_set (i := 3) sc__law_draws.nd (de_div (de_var (pv 3)) (de_int))))) (ds_nil))))) (ds_cons (ds_set (i := 5) sc__law_draws.nd (de_mod (de_callTy call_int1 cr_int T.z_int (by decide +kernel) (da_cons (de_add (de_mul (de_var (pv 3)) (de_int)) (de_mul (de_add (de_var (pv 2)) (de_int)) (de_int))) (da_nil))) (de_int))) (ds_cons (ds_set (i := 5) sc__law_draws.nd (de_mod (de_callTy call_int1 cr_int T.z_int (by decide +kernel) (da_cons (de_add (de_add (de_mul (de_var (pv 5)) (de_int)) (de_mul (de_int) (de_var (pv 2)))) (de_int)) (da_nil))) (de_int))) (ds_cons (ds_app (i := 1) (pe_bm PySem.F.plainAttrs_list PySem.F.slot_list_append PySem.F.type_list_append mt_append (pv 1) (pa_cons (de_mod (de_callTy call_int1 cr_int T.z_int (by decide +kernel) (da_cons (de_var (pv 5)) (da_nil))) (de_int)) pa_nil))) (ds_one (ds_app (i := 1) (pe_bm PySem.F.plainAttrs_list PySem.F.slot_list_append PySem.F.type_list_append mt_append (pv 1) (pa_cons (de_mod (de_callTy call_int1 cr_int T.z_int (by decide +kernel) (da_cons (de_div (de_var (pv 5)) (de_int)) (da_nil))) (de_int)) pa_nil))))))))))) (ds_one (ds_ret (de_var (pv 1)))))
theorem ok__law_at (T : Txt K mg Cl) : FnOk P w K mg base (L2.CX P w) 1 T.a__law_at T.fd__law_at ["draws", "k", "many"] (spD K Cl 3 FN.d__law_at) := by
  refine def_ok (k := 0) T.F__law_at sc__law_at rfl rfl fun cdv A outer s H E hr => ?_
  have tk := takes_of (X := cxOf (L2.CX P w) P w K mg base ["draws", "k", "many"] "_law_at" (defScope s__law_at) T.a__law_at cdv A outer s H E) rfl rfl rfl rfl
  have hp : PassesOwn (model P w) (cxOf (L2.CX P w) P w K mg base ["draws", "k", "many"] "_law_at" (defScope s__law_at) T.a__law_at cdv A outer s H E).A (cxOf (L2.CX P w) P w K mg base ["draws", "k", "many"] "_law_at" (defScope s__law_at) T.a__law_at cdv A outer s H E).env (cxOf (L2.CX P w) P w K mg base ["draws", "k", "many"] "_law_at" (defScope s__law_at) T.a__law_at cdv A outer s H E).xe := PassesOwn.leaving
  exact ds_cons (ds_if (dt_cmp op_ltX r2_ltX (de_var (pv 1)) (de_callB call_len cr_len T.z_len PySem.boot_len (da_cons (de_var (pv 0)) (da_nil))) (nomark _)) (ds_one (ds_ret (de_mod (de_callTy call_int1 cr_int T.z_int (by decide +kernel) (da_cons (de_ix (de_var (pv 0)) (de_var (pv 1))) (da_nil))) (de_var (pv 2))))) (ds_nil)) (ds_one (ds_ret (de_int)))
theorem ok__law_number (T : Txt K mg Cl) : FnOk P w K mg base (L2.CX P w) 2 T.a__law_number T.fd__law_number ["draws", "k"] (spD K Cl 2 FN.d__law_number) := by
  have G__law_at := ok__law_at (P := P) (w := w) (base := base) T
  refine def_ok (k := 1) T.F__law_number sc__law_number rfl rfl fun cdv A outer s H E hr => ?_
  have tk := takes_of (X := cxOf (L2.CX P w) P w K mg base ["draws", "k", "number"] "_law_number" (defScope s__law_number) T.a__law_number cdv A outer s H E) rfl rfl rfl rfl
  have hp : PassesOwn (model P w) (cxOf (L2.CX P w) P w K mg base ["draws", "k", "number"] "_law_number" (defScope s__law_number) T.a__law_number cdv A outer s H E).A (cxOf (L2.CX P w) P w K mg base ["draws", "k", "number"] "_law_number" (defScope s__law_number) T.a__law_number cdv A outer s H E).env (cxOf (L2.CX P w) P w K mg base ["draws", "k", "number"] "_law_number" (defScope s__law_number) T.a__law_number cdv A outer s H E).xe := PassesOwn.leaving
  exact ds_cons (ds_set (i := 2) sc__law_number.nd (de_add (de_add (de_call G__law_at tk (hr.mono (by decide)) T.g__law_at T.F__law_at.kp T.b__law_at (da_cons (de_var (pv 0)) (da_cons (de_var (pv 1)) (da_cons (de_int) (da_nil))))) (de_mul (de_int) (de_call G__law_at tk (hr.mono (by decide)) T.g__law_at T.F__law_at.kp T.b__law_at (da_cons (de_var (pv 0)) (da_cons (de_add (de_var (pv 1)) (de_int)) (da_cons (de_int) (da_nil))))))) (de_mul (de_int) (de_call G__law_at tk (hr.mono (by decide)) T.g__law_at T.F__law_at.kp T.b__law_at (da_cons (de_var (pv 0)) (da_cons (de_add (de_var (pv 1)) (de_int)) (da_cons (de_int) (da_nil)))))))) (ds_one (ds_ret (de_shr (de_var (pv 2)) (de_call G__law_at tk (hr.mono (by decide)) T.g__law_at T.F__law_at.kp T.b__law_at (da_cons (de_var (pv 0)) (da_cons (de_add (de_var (pv 1)) (de_int)) (da_cons (de_int) (da_nil))))))))
theorem ok_put_steps (T : Txt K mg Cl) : FnOk P w K mg base (L2.CX P w) 3 T.a_put_steps T.fd_put_steps ["number"] (spD K Cl 1 FN.d_put_steps) := by
  have G_init := ok_init (P := P) (w := w) (base := base) T
  refine def_ok (k := 2) T.F_put_steps sc_put_steps rfl rfl fun cdv A outer s H E hr => ?_
  have tk := takes_of (X := cxOf (L2.CX P w) P w K mg base ["number", "row"] "put_steps" (defScope s_put_steps) T.a_put_steps cdv A outer s H E) rfl rfl rfl rfl
  have hp : PassesOwn (model P w) (cxOf (L2.CX P w) P w K mg base ["number", "row"] "put_steps" (defScope s_put_steps) T.a_put_steps cdv A outer s H E).A (cxOf (L2.CX P w) P w K mg base ["number", "row"] "put_steps" (defScope s_put_steps) T.a_put_steps cdv A outer s H E).env (cxOf (L2.CX P w) P w K mg base ["number", "row"] "put_steps" (defScope s_put_steps) T.a_put_steps cdv A outer s H E).xe := PassesOwn.leaving
  exact ds_cons (ds_if (dt_w (dw_or (dt_cmp op_ltX r2_ltX (de_var (pv 0)) (de_int) (nomark _)) (dw_or1 (dt_cmp op_geX r2_geX (de_var (pv 0)) (de_globI T.g_STEP_LIMIT) (nomark _))))) (ds_one (ds_raise (c := 1) T.x_OutOfRange T.n_init G_init tk (hr.mono (by decide)) (de_int))) (ds_nil)) (ds_cons (ds_setO (i := 1) sc_put_steps.nd (de_lst (da_nil))) (ds_cons (ds_while hp (dt_cmp op_geX r2_geX (de_var (pv 0)) (de_int) (nomark _)) (ds_cons (ds_app (i := 1) (pe_bm PySem.F.plainAttrs_list PySem.F.slot_list_append PySem.F.type_list_append mt_append (pv 1) (pa_cons (de_add (de_and (de_var (pv 0)) (de_int)) (de_int)) pa_nil))) (ds_one (ds_set (i := 0) sc_put_steps.nd (de_shr (de_var (pv 0)) (de_int)))))) (ds_cons (ds_app (i := 1) (pe_bm PySem.F.plainAttrs_list PySem.F.slot_list_append PySem.F.type_list_append mt_append (pv 1) (pa_cons (de_var (pv 0)) pa_nil))) (ds_one (ds_ret (de_var (pv 1)))))))
theorem ok__law_refused (T : Txt K mg Cl) : FnOk P w K mg base (L2.CX P w) 4 T.a__law_refused T.fd__law_refused ["number"] (spD K Cl 1 FN.d__law_refused) := by
  have G_put_steps := ok_put_steps (P := P) (w := w) (base := base) T
  refine def_ok (k := 3) T.F__law_refused sc__law_refused rfl rfl fun cdv A outer s H E hr => ?_
  have tk := takes_of (X := cxOf (L2.CX P w) P w K mg base ["number", "e"] "_law_refused" (defScope s__law_refused) T.a__law_refused cdv A outer s H E) rfl rfl rfl rfl
  have hp : PassesOwn (model P w) (cxOf (L2.CX P w) P w K mg base ["number", "e"] "_law_refused" (defScope s__law_refused) T.a__law_refused cdv A outer s H E).A (cxOf (L2.CX P w) P w K mg base ["number", "e"] "_law_refused" (defScope s__law_refused) T.a__law_refused cdv A outer s H E).env (cxOf (L2.CX P w) P w K mg base ["number", "e"] "_law_refused" (defScope s__law_refused) T.a__law_refused cdv A outer s H E).xe := PassesOwn.leaving
  exact ds_cons (ds_try rfl rfl (fun W1 pn1 xe1 tk1 hp1 => ds_one (ds_expr (de_call G_put_steps tk1 (hr.mono (by decide)) T.g_put_steps T.F_put_steps.kp T.b_put_steps (da_cons (de_var (pv 0)) (da_nil))))) (dhs_as (k := 1) (N := fun c => DL.ErF K (Cl c)) rfl sc__law_refused.nd ⟨rfl, by decide, .inl T.gx_OutOfRange⟩ (mxL_spec (P := fun c b => DL.ErF K (Cl c) ∧ PySem.W.exmOne K (.ref (Cl c)) (.ref (Cl 1)) = some b) (.cons ⟨T.er_OutOfRange, T.em_OutOfRange_OutOfRange⟩ .nil)) (fun xa xd xc oe pn hxc hz hdat => ds_one (ds_ret (de_andV (de_cmp (op_eqD hr.units) r2_eq (de_xat hxc hz hdat (pv 1)) (de_int) (nomark _)) (de_andV (de_isx rfl hxc hz hdat T.z_isinstance (pv 1) (pe_glob (v := .ref (Cl 0)) rfl T.gx_SpoolboxError rfl (by decide)) (fun u r => by cases r; rfl) (fun z h => mxL_spec (P := fun c b => PySem.W.kitOne K (.ref (Cl c)) (.ref (Cl 0)) = some b) (.cons T.ki_OutOfRange_SpoolboxError .nil) xc z h)) (de_one (de_isx rfl hxc hz hdat T.z_isinstance (pv 1) (pe_bltn (v := .ty "ValueError") rfl T.z_ValueError (by decide +kernel) rfl (by decide) (by decide)) (fun u r => by cases r; rfl) (fun z h => mxL_spec (P := fun c b => PySem.W.kitOne K (.ref (Cl c)) (.type "ValueError") = some b) (.cons T.kb_OutOfRange_ValueError .nil) xc z h))))))) (dhs_nil rfl rfl tk))) (ds_one (ds_ret (de_bl)))
theorem ok__law_steps (T : Txt K mg Cl) : FnOk P w K mg base (L2.CX P w) 1 T.a__law_steps T.fd__law_steps ["number"] (spD K Cl 1 FN.d__law_steps) := by
  refine def_ok (k := 0) T.F__law_steps sc__law_steps rfl rfl fun cdv A outer s H E hr => ?_
  have tk := takes_of (X := cxOf (L2.CX P w) P w K mg base ["number", "out", "k", "byte"] "_law_steps" (defScope s__law_steps) T.a__law_steps cdv A outer s H E) rfl rfl rfl rfl
  have hp : PassesOwn (model P w) (cxOf (L2.CX P w) P w K mg base ["number", "out", "k", "byte"] "_law_steps" (defScope s__law_steps) T.a__law_steps cdv A outer s H E).A (cxOf (L2.CX P w) P w K mg base ["number", "out", "k", "byte"] "_law_steps" (defScope s__law_steps) T.a__law_steps cdv A outer s H E).env (cxOf (L2.CX P w) P w K mg base ["number", "out", "k", "byte"] "_law_steps" (defScope s__law_steps) T.a__law_steps cdv A outer s H E).xe := PassesOwn.leaving
  exact ds_cons (ds_setO (i := 1) sc__law_steps.nd (de_lst (da_nil))) (ds_cons (ds_for hp rfl (di_range1 T.z_range (da_cons (de_int) (da_nil))) (dg_name (i := 2) sc__law_steps.nd) (ds_one (ds_if (dt_w (dw_or (dt_cmp (op_eqD hr.units) r2_eq (de_var (pv 2)) (de_int) (nomark _)) (dw_or1 (dt_cmp op_gtX r2_gtX (de_var (pv 0)) (de_int) (nomark _))))) (ds_cons (ds_app (i := 1) (pe_bm PySem.F.plainAttrs_list PySem.F.slot_list_append PySem.F.type_list_append mt_append (pv 1) (pa_cons (de_and (de_var (pv 0)) (de_int)) pa_nil))) (ds_one (ds_set (i := 0) sc__law_steps.nd (de_shr (de_var (pv 0)) (de_int))))) (ds_nil)))) (ds_one (ds_ret (de_add (de_lc (own := [("byte", 3)]) (tg := .Name _ _) rfl sc__law_steps.nd lct1 (di_seq (de_sl (de_var (pv 1)) (do_none) (do_some (de_neg (de_int))))) (blkOk_by (own := [("byte", 3)]) (N := ["number", "out", "k", "byte"]) (sc := defScope s__law_steps) (by decide +kernel)) (fun _ _ _ _ _ => pg_name (i := 3) sc__law_steps.nd rfl (by first | exact Or.inl rfl | exact Or.inr rfl)) (fun _ _ _ _ _ => dts_nil) (fun _ _ _ _ _ => de_add (de_var (pv 3)) (de_int))) (de_sl (de_var (pv 1)) (do_some (de_neg (de_int))) (do_none))))))
theorem ok_end_of_steps (T : Txt K mg Cl) : FnOk P w K mg base (L2.CX P w) 3 T.a_end_of_steps T.fd_end_of_steps ["row", "at"] (spD K Cl 2 FN.d_end_of_steps) := by
  have G_init := ok_init (P := P) (w := w) (base := base) T
  refine def_ok (k := 2) T.F_end_of_steps sc_end_of_steps rfl rfl fun cdv A outer s H E hr => ?_
  have tk := takes_of (X := cxOf (L2.CX P w) P w K mg base ["row", "at", "place"] "end_of_steps" (defScope s_end_of_steps) T.a_end_of_steps cdv A outer s H E) rfl rfl rfl rfl
  have hp : PassesOwn (model P w) (cxOf (L2.CX P w) P w K mg base ["row", "at", "place"] "end_of_steps" (defScope s_end_of_steps) T.a_end_of_steps cdv A outer s H E).A (cxOf (L2.CX P w) P w K mg base ["row", "at", "place"] "end_of_steps" (defScope s_end_of_steps) T.a_end_of_steps cdv A outer s H E).env (cxOf (L2.CX P w) P w K mg base ["row", "at", "place"] "end_of_steps" (defScope s_end_of_steps) T.a_end_of_steps cdv A outer s H E).xe := PassesOwn.leaving
  exact ds_cons (ds_for hp rfl (di_range2 T.z_range (da_cons (de_var (pv 1)) (da_cons (de_add (de_var (pv 1)) (de_globI T.g_MOST_STEPS)) (da_nil)))) (dg_name (i := 2) sc_end_of_steps.nd) (ds_cons (ds_if (dt_cmp op_geX r2_geX (de_var (pv 2)) (de_callB call_len cr_len T.z_len PySem.boot_len (da_cons (de_var (pv 0)) (da_nil))) (nomark _)) (ds_one (ds_raise (c := 3) T.x_Truncated T.n_init G_init tk (hr.mono (by decide)) (de_callB call_len cr_len T.z_len PySem.boot_len (da_cons (de_var (pv 0)) (da_nil))))) (ds_nil)) (ds_one (ds_if (dt_cmp op_ltX r2_ltX (de_ix (de_var (pv 0)) (de_var (pv 2))) (de_int) (nomark _)) (ds_one (ds_ret (de_add (de_var (pv 2)) (de_int)))) (ds_nil))))) (ds_one (ds_ret (de_add (de_var (pv 1)) (de_globI T.g_MOST_STEPS))))
theorem ok_get_steps (T : Txt K mg Cl) : FnOk P w K mg base (L2.CX P w) 4 T.a_get_steps T.fd_get_steps ["row", "at"] (spD K Cl 2 FN.d_get_steps) := by
  have G_init := ok_init (P := P) (w := w) (base := base) T
  have G_end_of_steps := ok_end_of_steps (P := P) (w := w) (base := base) T
  refine def_ok (k := 3) T.F_get_steps sc_get_steps rfl rfl fun cdv A outer s H E hr => ?_
  have tk := takes_of (X := cxOf (L2.CX P w) P w K mg base ["row", "at", "stop", "number", "place"] "get_steps" (defScope s_get_steps) T.a_get_steps cdv A outer s H E) rfl rfl rfl rfl
  have hp : PassesOwn (model P w) (cxOf (L2.CX P w) P w K mg base ["row", "at", "stop", "number", "place"] "get_steps" (defScope s_get_steps) T.a_get_steps cdv A outer s H E).A (cxOf (L2.CX P w) P w K mg base ["row", "at", "stop", "number", "place"] "get_steps" (defScope s_get_steps) T.a_get_steps cdv A outer s H E).env (cxOf (L2.CX P w) P w K mg base ["row", "at", "stop", "number", "place"] "get_steps" (defScope s_get_steps) T.a_get_steps cdv A outer s H E).xe := PassesOwn.leaving
  exact ds_cons (ds_set (i := 2) sc_get_steps.nd (de_call G_end_of_steps tk (hr.mono (by decide)) T.g_end_of_steps T.F_end_of_steps.kp T.b_end_of_steps (da_cons (de_var (pv 0)) (da_cons (de_var (pv 1)) (da_nil))))) (ds_cons (ds_set (i := 3) sc_get_steps.nd (de_int)) (ds_cons (ds_for hp rfl (di_range2 T.z_range (da_cons (de_var (pv 1)) (da_cons (de_var (pv 2)) (da_nil)))) (dg_name (i := 4) sc_get_steps.nd) (ds_one (ds_aug (i := 3) sc_get_steps.nd (de_shl (de_and (de_ix (de_var (pv 0)) (de_var (pv 4))) (de_int)) (de_mul (de_int) (de_sub (de_var (pv 4)) (de_var (pv 1))))) ip_add))) (ds_cons (ds_if (dt_w (dw_or (dt_cmp op_geX r2_geX (de_ix (de_var (pv 0)) (de_sub (de_var (pv 2)) (de_int))) (de_int) (nomark _)) (dw_or1 (dt_cmp op_geX r2_geX (de_var (pv 3)) (de_globI T.g_STEP_LIMIT) (nomark _))))) (ds_one (ds_raise (c := 1) T.x_OutOfRange T.n_init G_init tk (hr.mono (by decide)) (de_var (pv 1)))) (ds_nil)) (ds_cons (ds_if (dt_w (dw_and (dt_cmp op_gtX r2_gtX (de_sub (de_var (pv 2)) (de_var (pv 1))) (de_int) (nomark _)) (dw_and1 (dt_cmp (op_eqD hr.units) r2_eq (de_ix (de_var (pv 0)) (de_sub (de_var (pv 2)) (de_int))) (de_int) (nomark _))))) (ds_one (ds_raise (c := 2) T.x_LooseNumber T.n_init G_init tk (hr.mono (by decide)) (de_var (pv 1)))) (ds_nil)) (ds_one (ds_ret (de_tup (da_cons (de_var (pv 3)) (da_cons (de_var (pv 2)) (da_nil))))))))))
theorem ok__law_is_integer (T : Txt K mg Cl) : FnOk P w K mg base (L2.CX P w) 1 T.a__law_is_integer T.fd__law_is_integer ["actual"] (spD K Cl 1 FN.d__law_is_integer) := by
  refine def_ok (k := 0) T.F__law_is_integer sc__law_is_integer rfl rfl fun cdv A outer s H E hr => ?_
  have tk := takes_of (X := cxOf (L2.CX P w) P w K mg base ["actual"] "_law_is_integer" (defScope s__law_is_integer) T.a__law_is_integer cdv A outer s H E) rfl rfl rfl rfl
  have hp : PassesOwn (model P w) (cxOf (L2.CX P w) P w K mg base ["actual"] "_law_is_integer" (defScope s__law_is_integer) T.a__law_is_integer cdv A outer s H E).A (cxOf (L2.CX P w) P w K mg base ["actual"] "_law_is_integer" (defScope s__law_is_integer) T.a__law_is_integer cdv A outer s H E).env (cxOf (L2.CX P w) P w K mg base ["actual"] "_law_is_integer" (defScope s__law_is_integer) T.a__law_is_integer cdv A outer s H E).xe := PassesOwn.leaving
  exact ds_one (ds_ret (de_andV (de_isi rfl T.z_isinstance T.z_int (by decide +kernel) (by decide) (de_var (pv 0))) (de_one (de_notV (de_isi rfl T.z_isinstance T.z_bool (by decide +kernel) (by decide) (de_var (pv 0)))))))
theorem ok__law_told (T : Txt K mg Cl) : FnOk P w K mg base (L2.CX P w) 5 T.a__law_told T.fd__law_told ["row", "at"] (spD K Cl 2 FN.d__law_told_v2) := by
  have G_get_steps := ok_get_steps (P := P) (w := w) (base := base) T
  have G__law_is_integer := ok__law_is_integer (P := P) (w := w) (base := base) T
  refine def_ok (k := 4) T.F__law_told sc__law_told rfl rfl fun cdv A outer s H E hr => ?_
  have tk := takes_of (X := cxOf (L2.CX P w) P w K mg base ["row", "at", "told", "e"] "_law_told" (defScope s__law_told) T.a__law_told cdv A outer s H E) rfl rfl rfl rfl
  have hp : PassesOwn (model P w) (cxOf (L2.CX P w) P w K mg base ["row", "at", "told", "e"] "_law_told" (defScope s__law_told) T.a__law_told cdv A outer s H E).A (cxOf (L2.CX P w) P w K mg base ["row", "at", "told", "e"] "_law_told" (defScope s__law_told) T.a__law_told cdv A outer s H E).env (cxOf (L2.CX P w) P w K mg base ["row", "at", "told", "e"] "_law_told" (defScope s__law_told) T.a__law_told cdv A outer s H E).xe := PassesOwn.leaving
  exact ds_cons (ds_try rfl rfl (fun W1 pn1 xe1 tk1 hp1 => ds_one (ds_set (i := 2) sc__law_told.nd (de_call G_get_steps tk1 (hr.mono (by decide)) T.g_get_steps T.F_get_steps.kp T.b_get_steps (da_cons (de_var (pv 0)) (da_cons (de_var (pv 1)) (da_nil)))))) (dhs_as (k := 3) (N := fun c => DL.ErF K (Cl c)) rfl sc__law_told.nd ⟨rfl, by decide, .inl T.gx_Truncated⟩ (mxL_spec (P := fun c b => DL.ErF K (Cl c) ∧ PySem.W.exmOne K (.ref (Cl c)) (.ref (Cl 3)) = some b) (.cons ⟨T.er_OutOfRange, T.em_OutOfRange_Truncated⟩ (.cons ⟨T.er_LooseNumber, T.em_LooseNumber_Truncated⟩ (.cons ⟨T.er_Truncated, T.em_Truncated_Truncated⟩ .nil)))) (fun xa xd xc oe pn hxc hz hdat => ds_one (ds_ret (de_tup (da_cons (de_str) (da_cons (de_xat hxc hz hdat (pv 3)) (da_nil)))))) (dhs_as (k := 3) (N := fun c => DL.ErF K (Cl c)) rfl sc__law_told.nd ⟨rfl, by decide, .inl T.gx_OutOfRange⟩ (mxL_spec (P := fun c b => DL.ErF K (Cl c) ∧ PySem.W.exmOne K (.ref (Cl c)) (.ref (Cl 1)) = some b) (.cons ⟨T.er_OutOfRange, T.em_OutOfRange_OutOfRange⟩ (.cons ⟨T.er_LooseNumber, T.em_LooseNumber_OutOfRange⟩ (.cons ⟨T.er_Truncated, T.em_Truncated_OutOfRange⟩ .nil)))) (fun xa xd xc oe pn hxc hz hdat => ds_one (ds_ret (de_tup (da_cons (de_str) (da_cons (de_xat hxc hz hdat (pv 3)) (da_nil)))))) (dhs_as (k := 3) (N := fun c => DL.ErF K (Cl c)) rfl sc__law_told.nd ⟨rfl, by decide, .inl T.gx_LooseNumber⟩ (mxL_spec (P := fun c b => DL.ErF K (Cl c) ∧ PySem.W.exmOne K (.ref (Cl c)) (.ref (Cl 2)) = some b) (.cons ⟨T.er_OutOfRange, T.em_OutOfRange_LooseNumber⟩ (.cons ⟨T.er_LooseNumber, T.em_LooseNumber_LooseNumber⟩ (.cons ⟨T.er_Truncated, T.em_Truncated_LooseNumber⟩ .nil)))) (fun xa xd xc oe pn hxc hz hdat => ds_one (ds_ret (de_tup (da_cons (de_str) (da_cons (de_xat hxc hz hdat (pv 3)) (da_nil)))))) (dhs_nil rfl rfl tk))))) (ds_cons (ds_if (dt_w (dw_or (dt_not (dt_val (de_isi rfl T.z_isinstance T.z_tuple (by decide +kernel) (by decide) (de_var (pv 2))))) (dw_or (dt_cmp (op_neD hr.units) r2_ne (de_callB call_len cr_len T.z_len PySem.boot_len (da_cons (de_var (pv 2)) (da_nil))) (de_int) (nomark _)) (dw_or (dt_not (dt_val (de_call G__law_is_integer tk (hr.mono (by decide)) T.g__law_is_integer T.F__law_is_integer.kp T.b__law_is_integer (da_cons (de_ix (de_var (pv 2)) (de_int)) (da_nil))))) (dw_or1 (dt_not (dt_val (de_call G__law_is_integer tk (hr.mono (by decide)) T.g__law_is_integer T.F__law_is_integer.kp T.b__law_is_integer (da_cons (de_ix (de_var (pv 2)) (de_int)) (da_nil)))))))))) (ds_one (ds_ret (de_non))) (ds_nil)) (ds_one (ds_ret (de_var (pv 2)))))
theorem ok__law_due (T : Txt K mg Cl) : FnOk P w K mg base (L2.CX P w) 1 T.a__law_due T.fd__law_due ["row", "at"] (spD K Cl 2 FN.d__law_due) := by
  refine def_ok (k := 0) T.F__law_due sc__law_due rfl rfl fun cdv A outer s H E hr => ?_
  have tk := takes_of (X := cxOf (L2.CX P w) P w K mg base ["row", "at", "number", "k"] "_law_due" (defScope s__law_due) T.a__law_due cdv A outer s H E) rfl rfl rfl rfl
  have hp : PassesOwn (model P w) (cxOf (L2.CX P w) P w K mg base ["row", "at", "number", "k"] "_law_due" (defScope s__law_due) T.a__law_due cdv A outer s H E).A (cxOf (L2.CX P w) P w K mg base ["row", "at", "number", "k"] "_law_due" (defScope s__law_due) T.a__law_due cdv A outer s H E).env (cxOf (L2.CX P w) P w K mg base ["row", "at", "number", "k"] "_law_due" (defScope s__law_due) T.a__law_due cdv A outer s H E).xe := PassesOwn.leaving
  exact ds_cons (ds_set (i := 2) sc__law_due.nd (de_int)) (ds_cons (ds_for hp rfl (di_range1 T.z_range (da_cons (de_int) (da_nil))) (dg_name (i := 3) sc__law_due.nd) (ds_cons (ds_if (dt_cmp op_geX r2_geX (de_add (de_var (pv 1)) (de_var (pv 3))) (de_callB call_len cr_len T.z_len PySem.boot_len (da_cons (de_var (pv 0)) (da_nil))) (nomark _)) (ds_one (ds_ret (de_tup (da_cons (de_str) (da_cons (de_callB call_len cr_len T.z_len PySem.boot_len (da_cons (de_var (pv 0)) (da_nil))) (da_nil)))))) (ds_nil)) (ds_cons (ds_set (i := 2) sc__law_due.nd (de_add (de_var (pv 2)) (de_shl (de_and (de_ix (de_var (pv 0)) (de_add (de_var (pv 1)) (de_var (pv 3)))) (de_int)) (de_mul (de_int) (de_var (pv 3)))))) (ds_one (ds_if (dt_cmp op_ltX r2_ltX (de_ix (de_var (pv 0)) (de_add (de_var (pv 1)) (de_var (pv 3)))) (de_int) (nomark _)) (ds_cons (ds_if (dt_cmp op_gtX r2_gtX (de_shr (de_var (pv 2)) (de_int)) (de_int) (nomark _)) (ds_one (ds_ret (de_tup (da_cons (de_str) (da_cons (de_var (pv 1)) (da_nil)))))) (ds_nil)) (ds_cons (ds_if (dt_w (dw_and (dt_cmp op_gtX r2_gtX (de_var (pv 3)) (de_int) (nomark _)) (dw_and1 (dt_cmp (op_eqD hr.units) r2_eq (de_ix (de_var (pv 0)) (de_add (de_var (pv 1)) (de_var (pv 3)))) (de_int) (nomark _))))) (ds_one (ds_ret (de_tup (da_cons (de_str) (da_cons (de_var (pv 1)) (da_nil)))))) (ds_nil)) (ds_one (ds_ret (de_tup (da_cons (de_var (pv 2)) (da_cons (de_add (de_add (de_var (pv 1)) (de_var (pv 3))) (de_int)) (da_nil)))))))) (ds_nil)))))) (ds_one (ds_ret (de_tup (da_cons (de_str) (da_cons (de_var (pv 1)) (da_nil)))))))
theorem ok_law (T : Txt K mg Cl) : FnOk P w K mg base (L2.CX P w) 6 T.a_law T.fd_law ["script"] (spD K Cl 1 FN.d_law_k00) := by
  have G__law_draws := ok__law_draws (P := P) (w := w) (base := base) T
  have G__law_number := ok__law_number (P := P) (w := w) (base := base) T
  have G_put_steps := ok_put_steps (P := P) (w := w) (base := base) T
  have G__law_steps := ok__law_steps (P := P) (w := w) (base := base) T
  have G__law_at := ok__law_at (P := P) (w := w) (base := base) T
  have G_get_steps := ok_get_steps (P := P) (w := w) (base := base) T
  have G__law_told := ok__law_told (P := P) (w := w) (base := base) T
  have G__law_due := ok__law_due (P := P) (w := w) (base := base) T
  have G__law_refused := ok__law_refused (P := P) (w := w) (base := base) T
  refine def_ok (k := 5) T.F_law sc_law rfl rfl fun cdv A outer s H E hr => ?_
  have tk := takes_of (X := cxOf (L2.CX P w) P w K mg base ["script", "draws", "number", "told", "ahead", "k", "row", "kept", "others", "most", "byte", "at"] "law" (defScope s_law) T.a_law cdv A outer s H E) rfl rfl rfl rfl
  have hp : PassesOwn (model P w) (cxOf (L2.CX P w) P w K mg base ["script", "draws", "number", "told", "ahead", "k", "row", "kept", "others", "most", "byte", "at"] "law" (defScope s_law) T.a_law cdv A outer s H E).A (cxOf (L2.CX P w) P w K mg base ["script", "draws", "number", "told", "ahead", "k", "row", "kept", "others", "most", "byte", "at"] "law" (defScope s_law) T.a_law cdv A outer s H E).env (cxOf (L2.CX P w) P w K mg base ["script", "draws", "number", "told", "ahead", "k", "row", "kept", "others", "most", "byte", "at"] "law" (defScope s_law) T.a_law cdv A outer s H E).xe := PassesOwn.leaving
  exact ds_cons (ds_set (i := 1) sc_law.nd (de_call G__law_draws tk (hr.mono (by decide)) T.g__law_draws T.F__law_draws.kp T.b__law_draws (da_cons (de_var (pv 0)) (da_nil)))) (ds_cons (ds_set (i := 2) sc_law.nd (de_call G__law_number tk (hr.mono (by decide)) T.g__law_number T.F__law_number.kp T.b__law_number (da_cons (de_var (pv 1)) (da_cons (de_int) (da_nil))))) (ds_cons (ds_set (i := 3) sc_law.nd (de_call G_put_steps tk (hr.mono (by decide)) T.g_put_steps T.F_put_steps.kp T.b_put_steps (da_cons (de_var (pv 2)) (da_nil)))) (ds_cons (ds_if (dt_w (dw_or (dt_not (dt_val (de_isi rfl T.z_isinstance T.z_list (by decide +kernel) (by decide) (de_var (pv 3))))) (dw_or1 (dt_cmp (op_neD hr.units) r2_ne (de_var (pv 3)) (de_call G__law_steps tk (hr.mono (by decide)) T.g__law_steps T.F__law_steps.kp T.b__law_steps (da_cons (de_var (pv 2)) (da_nil))) (nomark _))))) (ds_one (ds_ret (de_bl))) (ds_nil)) (ds_cons (ds_setLc (i := 4) (own := [("k", 5)]) (tg := .Name _ _) rfl sc_law.nd lct1 (di_range1 T.z_range (da_cons (de_call G__law_at tk (hr.mono (by decide)) T.g__law_at T.F__law_at.kp T.b__law_at (da_cons (de_var (pv 1)) (da_cons (de_int) (da_cons (de_int) (da_nil))))) (da_nil))) (blkOk_by (own := [("k", 5)]) (N := ["script", "draws", "number", "told", "ahead", "k", "row", "kept", "others", "most", "byte", "at"]) (sc := defScope s_law) (by decide +kernel)) (fun _ _ _ _ _ => pg_name (i := 5) sc_law.nd rfl (by first | exact Or.inl rfl | exact Or.inr rfl)) (fun _ _ _ _ _ => dts_nil) (fun _ _ _ _ _ => de_call G__law_at takes0 (hr.mono (by decide)) T.g__law_at T.F__law_at.kp T.b__law_at (da_cons (de_var (pv 1)) (da_cons (de_add (de_int) (de_var (pv 5))) (da_cons (de_int) (da_nil))))) (sw_true rfl rfl rfl (by decide +kernel))) (ds_cons (ds_set (i := 6) sc_law.nd (de_add (de_add (de_var (pv 4)) (de_var (pv 3))) (de_lc (own := [("k", 5)]) (tg := .Name _ _) rfl sc_law.nd lct1 (di_range1 T.z_range (da_cons (de_call G__law_at tk (hr.mono (by decide)) T.g__law_at T.F__law_at.kp T.b__law_at (da_cons (de_var (pv 1)) (da_cons (de_int) (da_cons (de_int) (da_nil))))) (da_nil))) (blkOk_by (own := [("k", 5)]) (N := ["script", "draws", "number", "told", "ahead", "k", "row", "kept", "others", "most", "byte", "at"]) (sc := defScope s_law) (by decide +kernel)) (fun _ _ _ _ _ => pg_name (i := 5) sc_law.nd rfl (by first | exact Or.inl rfl | exact Or.inr rfl)) (fun _ _ _ _ _ => dts_nil) (fun _ _ _ _ _ => de_call G__law_at takes0 (hr.mono (by decide)) T.g__law_at T.F__law_at.kp T.b__law_at (da_cons (de_var (pv 1)) (da_cons (de_add (de_int) (de_var (pv 5))) (da_cons (de_int) (da_nil)))))))) (ds_cons (ds_set (i := 7) sc_law.nd (de_callTy call_list_of cr_list T.z_list (by decide +kernel) (da_cons (de_var (pv 6)) (da_nil)))) (ds_cons (ds_if (dt_w (dw_or (dt_cmp (op_neD hr.units) r2_ne (de_call G_get_steps tk (hr.mono (by decide)) T.g_get_steps T.F_get_steps.kp T.b_get_steps (da_cons (de_var (pv 6)) (da_cons (de_callB call_len cr_len T.z_len PySem.boot_len (da_cons (de_var (pv 4)) (da_nil))) (da_nil)))) (de_tup (da_cons (de_var (pv 2)) (da_cons (de_add (de_callB call_len cr_len T.z_len PySem.boot_len (da_cons (de_var (pv 4)) (da_nil))) (de_callB call_len cr_len T.z_len PySem.boot_len (da_cons (de_var (pv 3)) (da_nil)))) (da_nil)))) (nomark _)) (dw_or1 (dt_cmp (op_neD hr.units) r2_ne (de_var (pv 6)) (de_var (pv 7)) (nomark _))))) (ds_one (ds_ret (de_bl))) (ds_nil)) (ds_cons (ds_setLc (i := 8) (own := [("k", 5)]) (tg := .Name _ _) rfl sc_law.nd lct1 (di_range1 T.z_range (da_cons (de_call G__law_at tk (hr.mono (by decide)) T.g__law_at T.F__law_at.kp T.b__law_at (da_cons (de_var (pv 1)) (da_cons (de_int) (da_cons (de_int) (da_nil))))) (da_nil))) (blkOk_by (own := [("k", 5)]) (N := ["script", "draws", "number", "told", "ahead", "k", "row", "kept", "others", "most", "byte", "at"]) (sc := defScope s_law) (by decide +kernel)) (fun _ _ _ _ _ => pg_name (i := 5) sc_law.nd rfl (by first | exact Or.inl rfl | exact Or.inr rfl)) (fun _ _ _ _ _ => dts_nil) (fun _ _ _ _ _ => de_call G__law_at takes0 (hr.mono (by decide)) T.g__law_at T.F__law_at.kp T.b__law_at (da_cons (de_var (pv 1)) (da_cons (de_add (de_int) (de_var (pv 5))) (da_cons (de_int) (da_nil))))) (sw_true rfl rfl rfl (by decide +kernel))) (ds_cons (ds_if (dt_cmp (op_eqD hr.units) r2_eq (de_call G__law_at tk (hr.mono (by decide)) T.g__law_at T.F__law_at.kp T.b__law_at (da_cons (de_var (pv 1)) (da_cons (de_int) (da_cons (de_int) (da_nil))))) (de_int) (nomark _)) (ds_cons (ds_set (i := 9) sc_law.nd (de_ix (de_lst (da_cons (de_int) (da_cons (de_int) (da_cons (de_int) (da_nil))))) (de_call G__law_at tk (hr.mono (by decide)) T.g__law_at T.F__law_at.kp T.b__law_at (da_cons (de_var (pv 1)) (da_cons (de_int) (da_cons (de_int) (da_nil))))))) (ds_one (ds_set (i := 8) sc_law.nd (de_add (de_lc (own := [("byte", 10)]) (tg := .Name _ _) rfl sc_law.nd lct1 (di_seq (de_sl (de_var (pv 8)) (do_none) (do_some (de_neg (de_int))))) (blkOk_by (own := [("byte", 10)]) (N := ["script", "draws", "number", "told", "ahead", "k", "row", "kept", "others", "most", "byte", "at"]) (sc := defScope s_law) (by decide +kernel)) (fun _ _ _ _ _ => pg_name (i := 10) sc_law.nd rfl (by first | exact Or.inl rfl | exact Or.inr rfl)) (fun _ _ _ _ _ => dts_nil) (fun _ _ _ _ _ => de_or (de_var (pv 10)) (de_int))) (de_lc (own := [("byte", 10)]) (tg := .Name _ _) rfl sc_law.nd lct1 (di_seq (de_sl (de_var (pv 8)) (do_some (de_neg (de_int))) (do_none))) (blkOk_by (own := [("byte", 10)]) (N := ["script", "draws", "number", "told", "ahead", "k", "row", "kept", "others", "most", "byte", "at"]) (sc := defScope s_law) (by decide +kernel)) (fun _ _ _ _ _ => pg_name (i := 10) sc_law.nd rfl (by first | exact Or.inl rfl | exact Or.inr rfl)) (fun _ _ _ _ _ => dts_nil) (fun _ _ _ _ _ => de_and (de_var (pv 10)) (de_var (pv 9)))))))) (ds_nil)) (ds_cons (ds_for hp rfl (di_range1 T.z_range (da_cons (de_add (de_callB call_len cr_len T.z_len PySem.boot_len (da_cons (de_var (pv 8)) (da_nil))) (de_int)) (da_nil))) (dg_name (i := 11) sc_law.nd) (ds_one (ds_if (dt_cmp (op_neD hr.units) r2_ne (de_call G__law_told tk (hr.mono (by decide)) T.g__law_told T.F__law_told.kp T.b__law_told (da_cons (de_var (pv 8)) (da_cons (de_var (pv 11)) (da_nil)))) (de_call G__law_due tk (hr.mono (by decide)) T.g__law_due T.F__law_due.kp T.b__law_due (da_cons (de_var (pv 8)) (da_cons (de_var (pv 11)) (da_nil)))) (nomark _)) (ds_one (ds_ret (de_bl))) (ds_nil)))) (ds_one (ds_ret (de_andV (de_call G__law_refused tk (hr.mono (by decide)) T.g__law_refused T.F__law_refused.kp T.b__law_refused (da_cons (de_sub (de_neg (de_int)) (de_var (pv 2))) (da_nil))) (de_andV (de_call G__law_refused tk (hr.mono (by decide)) T.g__law_refused T.F__law_refused.kp T.b__law_refused (da_cons (de_add (de_var (pv 2)) (de_int)) (da_nil))) (de_one (de_call G__law_refused tk (hr.mono (by decide)) T.g__law_refused T.F__law_refused.kp T.b__law_refused (da_cons (de_int) (da_nil))))))))))))))))))
end
theorem all_mk {P : Program} {w : World} {K : PySem.W.Frag} {h : Heap} {mg : Str → Option Value} {fa : Addr} (X : K.In h) (G : h.Ns mainGlobals mg) (hfa : mg "law" = some (.ref fa)) (hl : ∀ ns : List Int, ns.length ≤ 63 → FN.d_law_k00 [scr ns] = some (.ret (.bool true)))
    {f0 : Addr} {od0 an0 : Option Addr} {sl0 : Array (Option Value)} {oc0 kV0 dc0 pm0 cd0 ct0 : Value}
    (a0 : PySem.W.nsIn K mainGlobals "_law_draws" = some (some (.ref f0))) (l0 : K.lookup f0 = some ⟨oc0, od0, .func (PySem.W.fnOf "_law_draws" "_law_draws" (defArgs s__law_draws) (defBody s__law_draws) (defScope s__law_draws) .none kV0 dc0 pm0 an0 cd0 ct0), sl0⟩) (c0 : PySem.W.codeIn K cd0 "_law_draws" = true) (k0 : PySem.W.keepIn K (.ref f0) = true)
    {f1 : Addr} {od1 an1 : Option Addr} {sl1 : Array (Option Value)} {oc1 kV1 dc1 pm1 cd1 ct1 : Value}
    (a1 : PySem.W.nsIn K mainGlobals "_law_at" = some (some (.ref f1))) (l1 : K.lookup f1 = some ⟨oc1, od1, .func (PySem.W.fnOf "_law_at" "_law_at" (defArgs s__law_at) (defBody s__law_at) (defScope s__law_at) .none kV1 dc1 pm1 an1 cd1 ct1), sl1⟩) (c1 : PySem.W.codeIn K cd1 "_law_at" = true) (k1 : PySem.W.keepIn K (.ref f1) = true)
    {f2 : Addr} {od2 an2 : Option Addr} {sl2 : Array (Option Value)} {oc2 kV2 dc2 pm2 cd2 ct2 : Value}
    (a2 : PySem.W.nsIn K mainGlobals "_law_number" = some (some (.ref f2))) (l2 : K.lookup f2 = some ⟨oc2, od2, .func (PySem.W.fnOf "_law_number" "_law_number" (defArgs s__law_number) (defBody s__law_number) (defScope s__law_number) .none kV2 dc2 pm2 an2 cd2 ct2), sl2⟩) (c2 : PySem.W.codeIn K cd2 "_law_number" = true) (k2 : PySem.W.keepIn K (.ref f2) = true)
    {f3 : Addr} {od3 an3 : Option Addr} {sl3 : Array (Option Value)} {oc3 kV3 dc3 pm3 cd3 ct3 : Value}
    (a3 : PySem.W.nsIn K mainGlobals "put_steps" = some (some (.ref f3))) (l3 : K.lookup f3 = some ⟨oc3, od3, .func (PySem.W.fnOf "put_steps" "put_steps" (defArgs s_put_steps) (defBody s_put_steps) (defScope s_put_steps) .none kV3 dc3 pm3 an3 cd3 ct3), sl3⟩) (c3 : PySem.W.codeIn K cd3 "put_steps" = true) (k3 : PySem.W.keepIn K (.ref f3) = true)
    {f4 : Addr} {od4 an4 : Option Addr} {sl4 : Array (Option Value)} {oc4 kV4 dc4 pm4 cd4 ct4 : Value}
    (a4 : PySem.W.nsIn K mainGlobals "_law_refused" = some (some (.ref f4))) (l4 : K.lookup f4 = some ⟨oc4, od4, .func (PySem.W.fnOf "_law_refused" "_law_refused" (defArgs s__law_refused) (defBody s__law_refused) (defScope s__law_refused) .none kV4 dc4 pm4 an4 cd4 ct4), sl4⟩) (c4 : PySem.W.codeIn K cd4 "_law_refused" = true) (k4 : PySem.W.keepIn K (.ref f4) = true)
    {f5 : Addr} {od5 an5 : Option Addr} {sl5 : Array (Option Value)} {oc5 kV5 dc5 pm5 cd5 ct5 : Value}
    (a5 : PySem.W.nsIn K mainGlobals "_law_steps" = some (some (.ref f5))) (l5 : K.lookup f5 = some ⟨oc5, od5, .func (PySem.W.fnOf "_law_steps" "_law_steps" (defArgs s__law_steps) (defBody s__law_steps) (defScope s__law_steps) .none kV5 dc5 pm5 an5 cd5 ct5), sl5⟩) (c5 : PySem.W.codeIn K cd5 "_law_steps" = true) (k5 : PySem.W.keepIn K (.ref f5) = true)
    {f6 : Addr} {od6 an6 : Option Addr} {sl6 : Array (Option Value)} {oc6 kV6 dc6 pm6 cd6 ct6 : Value}
    (a6 : PySem.W.nsIn K mainGlobals "end_of_steps" = some (some (.ref f6))) (l6 : K.lookup f6 = some ⟨oc6, od6, .func (PySem.W.fnOf "end_of_steps" "end_of_steps" (defArgs s_end_of_steps) (defBody s_end_of_steps) (defScope s_end_of_steps) .none kV6 dc6 pm6 an6 cd6 ct6), sl6⟩) (c6 : PySem.W.codeIn K cd6 "end_of_steps" = true) (k6 : PySem.W.keepIn K (.ref f6) = true)
    {f7 : Addr} {od7 an7 : Option Addr} {sl7 : Array (Option Value)} {oc7 kV7 dc7 pm7 cd7 ct7 : Value}
    (a7 : PySem.W.nsIn K mainGlobals "get_steps" = some (some (.ref f7))) (l7 : K.lookup f7 = some ⟨oc7, od7, .func (PySem.W.fnOf "get_steps" "get_steps" (defArgs s_get_steps) (defBody s_get_steps) (defScope s_get_steps) .none kV7 dc7 pm7 an7 cd7 ct7), sl7⟩) (c7 : PySem.W.codeIn K cd7 "get_steps" = true) (k7 : PySem.W.keepIn K (.ref f7) = true)
    {f8 : Addr} {od8 an8 : Option Addr} {sl8 : Array (Option Value)} {oc8 kV8 dc8 pm8 cd8 ct8 : Value}
    (a8 : PySem.W.nsIn K mainGlobals "_law_is_integer" = some (some (.ref f8))) (l8 : K.lookup f8 = some ⟨oc8, od8, .func (PySem.W.fnOf "_law_is_integer" "_law_is_integer" (defArgs s__law_is_integer) (defBody s__law_is_integer) (defScope s__law_is_integer) .none kV8 dc8 pm8 an8 cd8 ct8), sl8⟩) (c8 : PySem.W.codeIn K cd8 "_law_is_integer" = true) (k8 : PySem.W.keepIn K (.ref f8) = true)
    {f9 : Addr} {od9 an9 : Option Addr} {sl9 : Array (Option Value)} {oc9 kV9 dc9 pm9 cd9 ct9 : Value}
    (a9 : PySem.W.nsIn K mainGlobals "_law_told" = some (some (.ref f9))) (l9 : K.lookup f9 = some ⟨oc9, od9, .func (PySem.W.fnOf "_law_told" "_law_told" (defArgs s__law_told) (defBody s__law_told) (defScope s__law_told) .none kV9 dc9 pm9 an9 cd9 ct9), sl9⟩) (c9 : PySem.W.codeIn K cd9 "_law_told" = true) (k9 : PySem.W.keepIn K (.ref f9) = true)
    {f10 : Addr} {od10 an10 : Option Addr} {sl10 : Array (Option Value)} {oc10 kV10 dc10 pm10 cd10 ct10 : Value}
    (a10 : PySem.W.nsIn K mainGlobals "_law_due" = some (some (.ref f10))) (l10 : K.lookup f10 = some ⟨oc10, od10, .func (PySem.W.fnOf "_law_due" "_law_due" (defArgs s__law_due) (defBody s__law_due) (defScope s__law_due) .none kV10 dc10 pm10 an10 cd10 ct10), sl10⟩) (c10 : PySem.W.codeIn K cd10 "_law_due" = true) (k10 : PySem.W.keepIn K (.ref f10) = true)
    {f11 : Addr} {od11 an11 : Option Addr} {sl11 : Array (Option Value)} {oc11 kV11 dc11 pm11 cd11 ct11 : Value}
    (a11 : PySem.W.nsIn K mainGlobals "law" = some (some (.ref f11))) (l11 : K.lookup f11 = some ⟨oc11, od11, .func (PySem.W.fnOf "law" "law" (defArgs s_law) (defBody s_law) (defScope s_law) .none kV11 dc11 pm11 an11 cd11 ct11), sl11⟩) (c11 : PySem.W.codeIn K cd11 "law" = true) (k11 : PySem.W.keepIn K (.ref f11) = true)
    (z_range : PySem.W.nsIn K mainGlobals "range" = some none)
    (z_min : PySem.W.nsIn K mainGlobals "min" = some none)
    (z_len : PySem.W.nsIn K mainGlobals "len" = some none)
    (z_abs : PySem.W.nsIn K mainGlobals "abs" = some none)
    (z_int : PySem.W.nsIn K mainGlobals "int" = some none)
    (z_isinstance : PySem.W.nsIn K mainGlobals "isinstance" = some none)
    (z_ValueError : PySem.W.nsIn K mainGlobals "ValueError" = some none)
    (z_bool : PySem.W.nsIn K mainGlobals "bool" = some none)
    (z_tuple : PySem.W.nsIn K mainGlobals "tuple" = some none)
    (z_list : PySem.W.nsIn K mainGlobals "list" = some none)
    {t_STEP_LIMIT : Tok} (n_STEP_LIMIT : PySem.W.nsIn K mainGlobals "STEP_LIMIT" = some (some (.int 1099511627776 t_STEP_LIMIT)))
    {t_MOST_STEPS : Tok} (n_MOST_STEPS : PySem.W.nsIn K mainGlobals "MOST_STEPS" = some (some (.int 6 t_MOST_STEPS)))
    {fI : Addr} {odI anI : Option Addr} {slI : Array (Option Value)} {ocI kVI dcI pmI cdI ctI : Value} (lI : K.lookup fI = some ⟨ocI, odI, .func (PySem.W.fnOf "__init__" "SpoolboxError.__init__" (defArgs s_init) (defBody s_init) (defScope s_init) .none kVI dcI pmI anI cdI ctI), slI⟩) (cI : PySem.W.codeIn K cdI "SpoolboxError.__init__" = true) (kI : PySem.W.keepIn K (.ref fI) = true) (tI : PySem.W.typeIn K (.ref fI) = some (.type "function"))
    {C_OutOfRange : Addr} {nm_OutOfRange q_OutOfRange : Str} {N_OutOfRange : Addr} {bs_OutOfRange bm_OutOfRange : List Value} {sn_OutOfRange : List Str} {sub_OutOfRange : List Value} {ab_OutOfRange : Bool} {col_OutOfRange : Option Bool} {dd_OutOfRange : Option Addr} {m0_OutOfRange m1_OutOfRange m2_OutOfRange m3_OutOfRange m5_OutOfRange : Option Value}
    (xa_OutOfRange : PySem.W.nsIn K mainGlobals "OutOfRange" = some (some (.ref C_OutOfRange))) (xl_OutOfRange : K.lookup C_OutOfRange = some (excClassObj nm_OutOfRange q_OutOfRange C_OutOfRange N_OutOfRange bs_OutOfRange bm_OutOfRange true sn_OutOfRange sub_OutOfRange ab_OutOfRange col_OutOfRange dd_OutOfRange m0_OutOfRange m1_OutOfRange m2_OutOfRange m3_OutOfRange m5_OutOfRange "ValueError.__new__")) (xr_OutOfRange : PySem.HandSPX.refsVE bm_OutOfRange = true)
    (xs_OutOfRange : PySem.W.findIn K (.ref C_OutOfRange) "__setattr__" = some (some (.builtin "object.__setattr__"))) (xe_OutOfRange : PySem.W.subIn K (.ref C_OutOfRange) (.type "BaseException") = some true) (xt_OutOfRange : PySem.W.typeIn K (.ref C_OutOfRange) = some (.type "type")) (xk_OutOfRange : PySem.W.keepIn K (.ref C_OutOfRange) = true)
    (xn_OutOfRange : PySem.W.findIn K (.ref C_OutOfRange) "at" = some none) (xi_OutOfRange : PySem.W.findIn K (.ref C_OutOfRange) "__init__" = some (some (.ref fI))) (xg_OutOfRange : PySem.W.findIn K (.ref C_OutOfRange) "__getattribute__" = some (some (.builtin "BaseException.__getattribute__"))) (xh_OutOfRange : PySem.W.findIn K (.ref C_OutOfRange) "__getattr__" = some none) (xd_OutOfRange : PySem.W.hasDictIn K C_OutOfRange = true)
    {C_Truncated : Addr} {nm_Truncated q_Truncated : Str} {N_Truncated : Addr} {bs_Truncated bm_Truncated : List Value} {sn_Truncated : List Str} {sub_Truncated : List Value} {ab_Truncated : Bool} {col_Truncated : Option Bool} {dd_Truncated : Option Addr} {m0_Truncated m1_Truncated m2_Truncated m3_Truncated m5_Truncated : Option Value}
    (xa_Truncated : PySem.W.nsIn K mainGlobals "Truncated" = some (some (.ref C_Truncated))) (xl_Truncated : K.lookup C_Truncated = some (excClassObj nm_Truncated q_Truncated C_Truncated N_Truncated bs_Truncated bm_Truncated true sn_Truncated sub_Truncated ab_Truncated col_Truncated dd_Truncated m0_Truncated m1_Truncated m2_Truncated m3_Truncated m5_Truncated "ValueError.__new__")) (xr_Truncated : PySem.HandSPX.refsVE bm_Truncated = true)
    (xs_Truncated : PySem.W.findIn K (.ref C_Truncated) "__setattr__" = some (some (.builtin "object.__setattr__"))) (xe_Truncated : PySem.W.subIn K (.ref C_Truncated) (.type "BaseException") = some true) (xt_Truncated : PySem.W.typeIn K (.ref C_Truncated) = some (.type "type")) (xk_Truncated : PySem.W.keepIn K (.ref C_Truncated) = true)
    (xn_Truncated : PySem.W.findIn K (.ref C_Truncated) "at" = some none) (xi_Truncated : PySem.W.findIn K (.ref C_Truncated) "__init__" = some (some (.ref fI))) (xg_Truncated : PySem.W.findIn K (.ref C_Truncated) "__getattribute__" = some (some (.builtin "BaseException.__getattribute__"))) (xh_Truncated : PySem.W.findIn K (.ref C_Truncated) "__getattr__" = some none) (xd_Truncated : PySem.W.hasDictIn K C_Truncated = true)
    {C_LooseNumber : Addr} {nm_LooseNumber q_LooseNumber : Str} {N_LooseNumber : Addr} {bs_LooseNumber bm_LooseNumber : List Value} {sn_LooseNumber : List Str} {sub_LooseNumber : List Value} {ab_LooseNumber : Bool} {col_LooseNumber : Option Bool} {dd_LooseNumber : Option Addr} {m0_LooseNumber m1_LooseNumber m2_LooseNumber m3_LooseNumber m5_LooseNumber : Option Value}
    (xa_LooseNumber : PySem.W.nsIn K mainGlobals "LooseNumber" = some (some (.ref C_LooseNumber))) (xl_LooseNumber : K.lookup C_LooseNumber = some (excClassObj nm_LooseNumber q_LooseNumber C_LooseNumber N_LooseNumber bs_LooseNumber bm_LooseNumber true sn_LooseNumber sub_LooseNumber ab_LooseNumber col_LooseNumber dd_LooseNumber m0_LooseNumber m1_LooseNumber m2_LooseNumber m3_LooseNumber m5_LooseNumber "ValueError.__new__")) (xr_LooseNumber : PySem.HandSPX.refsVE bm_LooseNumber = true)
    (xs_LooseNumber : PySem.W.findIn K (.ref C_LooseNumber) "__setattr__" = some (some (.builtin "object.__setattr__"))) (xe_LooseNumber : PySem.W.subIn K (.ref C_LooseNumber) (.type "BaseException") = some true) (xt_LooseNumber : PySem.W.typeIn K (.ref C_LooseNumber) = some (.type "type")) (xk_LooseNumber : PySem.W.keepIn K (.ref C_LooseNumber) = true)
    (xn_LooseNumber : PySem.W.findIn K (.ref C_LooseNumber) "at" = some none) (xi_LooseNumber : PySem.W.findIn K (.ref C_LooseNumber) "__init__" = some (some (.ref fI))) (xg_LooseNumber : PySem.W.findIn K (.ref C_LooseNumber) "__getattribute__" = some (some (.builtin "BaseException.__getattribute__"))) (xh_LooseNumber : PySem.W.findIn K (.ref C_LooseNumber) "__getattr__" = some none) (xd_LooseNumber : PySem.W.hasDictIn K C_LooseNumber = true)
    {C_SpoolboxError : Addr} (xa_SpoolboxError : PySem.W.nsIn K mainGlobals "SpoolboxError" = some (some (.ref C_SpoolboxError)))
    (yn : PySem.W.specialIn K (.builtin "object.__class__") "__get__" = some (some (.builtin "getset_descriptor.__get__"))) (yt : PySem.W.takesIn K (.builtin "object.__class__") = some true)
    (xc_OutOfRange : PySem.W.findIn K (.ref C_OutOfRange) "__class__" = some (some (.builtin "object.__class__"))) (xm_OutOfRange : PySem.W.mroIn K C_OutOfRange (.type "object") = some true)
    (xc_Truncated : PySem.W.findIn K (.ref C_Truncated) "__class__" = some (some (.builtin "object.__class__"))) (xm_Truncated : PySem.W.mroIn K C_Truncated (.type "object") = some true)
    (xc_LooseNumber : PySem.W.findIn K (.ref C_LooseNumber) "__class__" = some (some (.builtin "object.__class__"))) (xm_LooseNumber : PySem.W.mroIn K C_LooseNumber (.type "object") = some true)
    (ym_OutOfRange_OutOfRange : PySem.W.exmOne K (.ref C_OutOfRange) (.ref C_OutOfRange) = some true)
    (ym_Truncated_LooseNumber : PySem.W.exmOne K (.ref C_Truncated) (.ref C_LooseNumber) = some false)
    (ym_LooseNumber_LooseNumber : PySem.W.exmOne K (.ref C_LooseNumber) (.ref C_LooseNumber) = some true)
    (ym_OutOfRange_LooseNumber : PySem.W.exmOne K (.ref C_OutOfRange) (.ref C_LooseNumber) = some false)
    (ym_Truncated_OutOfRange : PySem.W.exmOne K (.ref C_Truncated) (.ref C_OutOfRange) = some false)
    (ym_LooseNumber_OutOfRange : PySem.W.exmOne K (.ref C_LooseNumber) (.ref C_OutOfRange) = some false)
    (ym_Truncated_Truncated : PySem.W.exmOne K (.ref C_Truncated) (.ref C_Truncated) = some true)
    (ym_LooseNumber_Truncated : PySem.W.exmOne K (.ref C_LooseNumber) (.ref C_Truncated) = some false)
    (ym_OutOfRange_Truncated : PySem.W.exmOne K (.ref C_OutOfRange) (.ref C_Truncated) = some false)
    (yi_OutOfRange_SpoolboxError : PySem.W.kitOne K (.ref C_OutOfRange) (.ref C_SpoolboxError) = some true)
    (yb_OutOfRange_ValueError : PySem.W.kitOne K (.ref C_OutOfRange) (.type "ValueError") = some true)
    : ∃ fd : FuncData, (∀ (s : Shared) (v : Value), BindsTo s fd ⟨[v], []⟩ [("script", v)]) ∧ ∀ base : Heap, K.In base → base.Ns mainGlobals mg → FnOk P w K mg base (L2.CX P w) 6 fa fd ["script"] (DL.spLaw K) := by
  have e := hfa.symm.trans (PySem.W.mg_of X G a11)
  cases e
  let T : Txt K mg (fun n => match n with | 1 => C_OutOfRange | 3 => C_Truncated | 2 => C_LooseNumber | 0 => C_SpoolboxError | _ => 0) := ⟨f0, _, fun_mk l0 c0 k0, PySem.W.mg_of X G a0, (fun_mk (st := s__law_draws) l0 c0 k0).binds (ps := ["script"]) fun _ _ _ _ _ _ us hl => match us, hl with | [_], _ => rfl, f1, _, fun_mk l1 c1 k1, PySem.W.mg_of X G a1, (fun_mk (st := s__law_at) l1 c1 k1).binds (ps := ["draws", "k", "many"]) fun _ _ _ _ _ _ us hl => match us, hl with | [_, _, _], _ => rfl, f2, _, fun_mk l2 c2 k2, PySem.W.mg_of X G a2, (fun_mk (st := s__law_number) l2 c2 k2).binds (ps := ["draws", "k"]) fun _ _ _ _ _ _ us hl => match us, hl with | [_, _], _ => rfl, f3, _, fun_mk l3 c3 k3, PySem.W.mg_of X G a3, (fun_mk (st := s_put_steps) l3 c3 k3).binds (ps := ["number"]) fun _ _ _ _ _ _ us hl => match us, hl with | [_], _ => rfl, f4, _, fun_mk l4 c4 k4, PySem.W.mg_of X G a4, (fun_mk (st := s__law_refused) l4 c4 k4).binds (ps := ["number"]) fun _ _ _ _ _ _ us hl => match us, hl with | [_], _ => rfl, f5, _, fun_mk l5 c5 k5, PySem.W.mg_of X G a5, (fun_mk (st := s__law_steps) l5 c5 k5).binds (ps := ["number"]) fun _ _ _ _ _ _ us hl => match us, hl with | [_], _ => rfl, f6, _, fun_mk l6 c6 k6, PySem.W.mg_of X G a6, (fun_mk (st := s_end_of_steps) l6 c6 k6).binds (ps := ["row", "at"]) fun _ _ _ _ _ _ us hl => match us, hl with | [_, _], _ => rfl, f7, _, fun_mk l7 c7 k7, PySem.W.mg_of X G a7, (fun_mk (st := s_get_steps) l7 c7 k7).binds (ps := ["row", "at"]) fun _ _ _ _ _ _ us hl => match us, hl with | [_, _], _ => rfl, f8, _, fun_mk l8 c8 k8, PySem.W.mg_of X G a8, (fun_mk (st := s__law_is_integer) l8 c8 k8).binds (ps := ["actual"]) fun _ _ _ _ _ _ us hl => match us, hl with | [_], _ => rfl, f9, _, fun_mk l9 c9 k9, PySem.W.mg_of X G a9, (fun_mk (st := s__law_told) l9 c9 k9).binds (ps := ["row", "at"]) fun _ _ _ _ _ _ us hl => match us, hl with | [_, _], _ => rfl, f10, _, fun_mk l10 c10 k10, PySem.W.mg_of X G a10, (fun_mk (st := s__law_due) l10 c10 k10).binds (ps := ["row", "at"]) fun _ _ _ _ _ _ us hl => match us, hl with | [_, _], _ => rfl, fa, _, fun_mk l11 c11 k11, PySem.W.mg_of X G a11, (fun_mk (st := s_law) l11 c11 k11).binds (ps := ["script"]) fun _ _ _ _ _ _ us hl => match us, hl with | [_], _ => rfl, PySem.W.mg_none_of X G z_range, PySem.W.mg_none_of X G z_min, PySem.W.mg_none_of X G z_len, PySem.W.mg_none_of X G z_abs, PySem.W.mg_none_of X G z_int, PySem.W.mg_none_of X G z_isinstance, PySem.W.mg_none_of X G z_ValueError, PySem.W.mg_none_of X G z_bool, PySem.W.mg_none_of X G z_tuple, PySem.W.mg_none_of X G z_list, _, PySem.W.mg_of X G n_STEP_LIMIT, _, PySem.W.mg_of X G n_MOST_STEPS, fI, _, ⟨fun_mk lI cI kI, tI, (fun_mk (st := s_init) lI cI kI).binds (ps := ["self", "at"]) fun _ _ _ _ _ _ us hl => match us, hl with | [_, _], _ => rfl⟩, ⟨PySem.W.mg_of X G xa_OutOfRange, ⟨⟨_, _, _, _, _, _, _, _, _, _, _, _, _, _, _, xl_OutOfRange, xr_OutOfRange⟩, xs_OutOfRange, xe_OutOfRange, xt_OutOfRange, xk_OutOfRange⟩, xn_OutOfRange, xi_OutOfRange, ⟨xg_OutOfRange, xh_OutOfRange, xe_OutOfRange, xd_OutOfRange⟩⟩, ⟨PySem.W.mg_of X G xa_Truncated, ⟨⟨_, _, _, _, _, _, _, _, _, _, _, _, _, _, _, xl_Truncated, xr_Truncated⟩, xs_Truncated, xe_Truncated, xt_Truncated, xk_Truncated⟩, xn_Truncated, xi_Truncated, ⟨xg_Truncated, xh_Truncated, xe_Truncated, xd_Truncated⟩⟩, ⟨PySem.W.mg_of X G xa_LooseNumber, ⟨⟨_, _, _, _, _, _, _, _, _, _, _, _, _, _, _, xl_LooseNumber, xr_LooseNumber⟩, xs_LooseNumber, xe_LooseNumber, xt_LooseNumber, xk_LooseNumber⟩, xn_LooseNumber, xi_LooseNumber, ⟨xg_LooseNumber, xh_LooseNumber, xe_LooseNumber, xd_LooseNumber⟩⟩, PySem.W.mg_of X G xa_OutOfRange, PySem.W.mg_of X G xa_SpoolboxError, PySem.W.mg_of X G xa_LooseNumber, PySem.W.mg_of X G xa_Truncated, ⟨⟨xg_OutOfRange, xh_OutOfRange, xe_OutOfRange, xd_OutOfRange⟩, xn_OutOfRange, ⟨xg_OutOfRange, xh_OutOfRange, xe_OutOfRange, xd_OutOfRange, xc_OutOfRange, yn, yt, xm_OutOfRange⟩⟩, ⟨⟨xg_Truncated, xh_Truncated, xe_Truncated, xd_Truncated⟩, xn_Truncated, ⟨xg_Truncated, xh_Truncated, xe_Truncated, xd_Truncated, xc_Truncated, yn, yt, xm_Truncated⟩⟩, ⟨⟨xg_LooseNumber, xh_LooseNumber, xe_LooseNumber, xd_LooseNumber⟩, xn_LooseNumber, ⟨xg_LooseNumber, xh_LooseNumber, xe_LooseNumber, xd_LooseNumber, xc_LooseNumber, yn, yt, xm_LooseNumber⟩⟩, ym_OutOfRange_OutOfRange, ym_Truncated_LooseNumber, ym_LooseNumber_LooseNumber, ym_OutOfRange_LooseNumber, ym_Truncated_OutOfRange, ym_LooseNumber_OutOfRange, ym_Truncated_Truncated, ym_LooseNumber_Truncated, ym_OutOfRange_Truncated, yi_OutOfRange_SpoolboxError, yb_OutOfRange_ValueError⟩
  exact ⟨T.fd_law, fun s v => .of_eq rfl, fun base _ _ => law_sp hl (ok_law T)⟩
end K00
set_option Elab.async false
set_option linter.all false
set_option maxRecDepth 100000
set_option maxHeartbeats 1000000
/-! DM1: reckoning with the functions of data: places, ranges, loops. -/
namespace DL
open PySem PySem.Spec PyProof.Rows L2
/-! ### places -/
theorem atI_of {α : Type} {xs : List α} {i : Int} (h0 : 0 ≤ i) (h1 : i < xs.length) : atI xs i = some (xs[i.toNat]'(by omega)) := by
  unfold atI ixN
  rw [if_pos h0, if_pos h1]
  exact List.getElem?_eq_getElem _
theorem atI_map {α β : Type} (f : α → β) (xs : List α) (i : Int) : atI (xs.map f) i = (atI xs i).map f := by
  unfold atI
  rw [List.length_map]
  cases ixN xs.length i with
  | none => rfl
  | some j => simp
theorem cMod_ok {i j : Int} (h : 0 < j) : cMod i j = true := decide_eq_true h
theorem cDiv_is {i j : Int} (h : 0 < j) (h2 : j < 1073741824) : cDiv i j = true := by
  unfold cDiv
  rw [decide_eq_true h, decide_eq_true h2]
  rfl
theorem cMul_l {i j : Int} (h : -1000000000 < i) (h2 : i < 1000000000) : cMul i j = true := by
  unfold cMul
  rw [decide_eq_true (show -(2 ^ 64) < i by omega), decide_eq_true (show i < 2 ^ 64 by omega)]
  rfl
theorem cMul_r {i j : Int} (h : -1000000000 < j) (h2 : j < 1000000000) : cMul i j = true := by
  unfold cMul
  rw [decide_eq_true (show -(2 ^ 64) < j by omega), decide_eq_true (show j < 2 ^ 64 by omega)]
  exact Bool.or_true _
theorem cPow_is {i j : Int} (h0 : 0 ≤ j) (h1 : j ≤ 1000000) (h2 : -1000000000 < i) (h3 : i < 1000000000) : cPow i j = true := by
  unfold cPow
  rw [decide_eq_true h0, decide_eq_true h1, decide_eq_true (show i.natAbs < 2 ^ 64 by omega)]
  rfl
theorem cShr_ok {i j : Int} (h : 0 ≤ j) : cShr i j = true := decide_eq_true h
theorem cRng_is {j : Int} (h : -1000000000 < j) (h2 : j < 1000000000) : cRng j = true := by
  unfold cRng
  rw [decide_eq_true (show -(2 ^ 62) ≤ j by omega), decide_eq_true (show j < 2 ^ 62 by omega)]
  rfl
theorem lineOk_small {n : Nat} (h : n ≤ 16777216) : lineOk n = true := decide_eq_true h
/-! ### equality of data -/
theorem eqvAll_ints : ∀ (ns ms : List Int), PyData.eqvAll (ns.map PyData.int) (ms.map PyData.int) = decide (ns = ms)
  | [], [] => rfl
  | [], _ :: _ => rfl
  | _ :: _, [] => rfl
  | n :: ns, m :: ms => by
    show (PyData.eqv (.int n) (.int m) && PyData.eqvAll (ns.map PyData.int) (ms.map PyData.int)) = _
    rw [eqvAll_ints ns ms]
    show ((n == m) && decide (ns = ms)) = _
    by_cases h1 : n = m
    · by_cases h2 : ns = ms
      · simp [h1, h2]
      · simp [h1, h2]
    · simp [h1]
theorem canLay_ints : ∀ ns : List Int, PyData.canLayAll0 (ns.map PyData.int) = true
  | [] => rfl
  | n :: ns => canLay_ints ns
theorem depth_ints : ∀ ns : List Int, PyData.depthAll (ns.map PyData.int) = 0
  | [] => rfl
  | n :: ns => by
    show max 0 (PyData.depthAll (ns.map PyData.int)) = 0
    rw [depth_ints ns]
    rfl
@[simp] theorem shaped_int (i : Int) : SeqAt.shaped (.int i) = true := rfl
@[simp] theorem shaped_bool (i : Bool) : SeqAt.shaped (.bool i) = true := rfl
@[simp] theorem shaped_none : SeqAt.shaped .none = true := rfl
@[simp] theorem shaped_ints (ns : List Int) : SeqAt.shaped (.list (ns.map PyData.int)) = true := by
  unfold SeqAt.shaped
  have h1 : PyData.canLay0 (.list (ns.map PyData.int)) = true := canLay_ints ns
  have h2 : PyData.depth (.list (ns.map PyData.int)) = 1 := by
    show PyData.depthAll (ns.map PyData.int) + 1 = 1
    rw [depth_ints ns]
  rw [h1, h2]
  rfl
theorem eqD_refl {d : D} (h : SeqAt.shaped d = true) : eqD d d = some true := by
  unfold eqD
  rw [h]
  show some (PyData.eqv d d) = some true
  rw [SeqAt.eqv_refl d (SeqAt.canLay_of_shaped h)]
@[simp] theorem eqD_int (i j : Int) : eqD (.int i) (.int j) = some (i == j) := rfl
@[simp] theorem eqD_ints (ns ms : List Int) : eqD (.list (ns.map PyData.int)) (.list (ms.map PyData.int)) = some (decide (ns = ms)) := by
  unfold eqD
  rw [shaped_ints, shaped_ints]
  show some (PyData.eqvAll (ns.map PyData.int) (ms.map PyData.int)) = _
  rw [eqvAll_ints]
/-! ### loops -/
/-- a loop that is a fold: the slots are an encoding of a state -/
theorem forL_fold {S α : Type} {g : FG} {body : FS} (enc : S → Rho) (dat : α → D) (step : S → α → S) (Inv : Nat → S → Prop) {xs : List α}
    (h : ∀ i x s, xs[i]? = some x → Inv i s → ∃ ρ1, g (dat x) (enc s) = some ρ1 ∧ body ρ1 = some (.nx (enc (step s x))) ∧ Inv (i + 1) (step s x)) :
    ∀ (n : Nat) (s : S), Inv n s → n ≤ xs.length → forL g body ((xs.drop n).map dat) (enc s) = some (.nx (enc ((xs.drop n).foldl step s))) ∧ Inv xs.length ((xs.drop n).foldl step s) := by
  intro n
  induction hk : xs.length - n generalizing n with
  | zero =>
    intro s hI hn
    have e : n = xs.length := by omega
    subst e
    rw [List.drop_length]
    exact ⟨rfl, hI⟩
  | succ k ih =>
    intro s hI hn
    have hlt : n < xs.length := by omega
    obtain ⟨ρ1, h1, h2, h3⟩ := h n xs[n] s (List.getElem?_eq_getElem hlt) hI
    obtain ⟨h4, h5⟩ := ih (n + 1) (by omega) _ h3 hlt
    rw [List.drop_eq_getElem_cons hlt, List.map_cons, List.foldl_cons]
    refine ⟨?_, h5⟩
    unfold forL
    rw [h1]
    dsimp only
    rw [h2]
    exact h4
/-- .. from the start -/
theorem forL_fold0 {S α : Type} {g : FG} {body : FS} (enc : S → Rho) (dat : α → D) (step : S → α → S) (Inv : Nat → S → Prop) {xs : List α} {s : S} (h0 : Inv 0 s)
    (h : ∀ i x s, xs[i]? = some x → Inv i s → ∃ ρ1, g (dat x) (enc s) = some ρ1 ∧ body ρ1 = some (.nx (enc (step s x))) ∧ Inv (i + 1) (step s x)) :
    forL g body (xs.map dat) (enc s) = some (.nx (enc (xs.foldl step s))) ∧ Inv xs.length (xs.foldl step s) := by
  have q := forL_fold enc dat step Inv h 0 s h0 (Nat.zero_le _)
  rw [List.drop_zero] at q
  exact q
/-- a loop by its invariant alone -/
theorem forL_inv {g : FG} {body : FS} (Inv : Nat → Rho → Prop) {ds : List D} {ρ : Rho} (h0 : Inv 0 ρ)
    (h : ∀ i d ρ, ds[i]? = some d → Inv i ρ → ∃ ρ1 ρ2, g d ρ = some ρ1 ∧ body ρ1 = some (.nx ρ2) ∧ Inv (i + 1) ρ2) : ∃ ρ', forL g body ds ρ = some (.nx ρ') ∧ Inv ds.length ρ' := by
  have go : ∀ (k n : Nat) (ρ : Rho), ds.length - n = k → n ≤ ds.length → Inv n ρ → ∃ ρ', forL g body (ds.drop n) ρ = some (.nx ρ') ∧ Inv ds.length ρ' := by
    intro k
    induction k with
    | zero =>
      intro n ρ hk hn hI
      have e : n = ds.length := by omega
      subst e
      rw [List.drop_length]
      exact ⟨ρ, rfl, hI⟩
    | succ k ih =>
      intro n ρ hk hn hI
      have hlt : n < ds.length := by omega
      obtain ⟨ρ1, ρ2, h1, h2, h3⟩ := h n ds[n] ρ (List.getElem?_eq_getElem hlt) hI
      obtain ⟨ρ', h4, h5⟩ := ih (n + 1) ρ2 (by omega) hlt h3
      refine ⟨ρ', ?_, h5⟩
      rw [List.drop_eq_getElem_cons hlt]
      unfold forL
      rw [h1]
      dsimp only
      rw [h2]
      exact h4
  have q := go _ 0 ρ rfl (Nat.zero_le _) h0
  rw [List.drop_zero] at q
  exact q
/-- a comprehension that keeps every item -/
theorem lcL_map {α : Type} {tt : FT} {fe : FE} {st : D → Option Rho} (dat : α → D) (F : α → D) : ∀ {xs : List α}, (∀ x ∈ xs, ∃ ρ v, st (dat x) = some ρ ∧ tt ρ = some (.ok true) ∧ fe ρ = some (.ok v) ∧ v.st = some (F x)) → lcL tt fe st (xs.map dat) = some (xs.map F)
  | [], _ => rfl
  | x :: xs, h => by
    obtain ⟨ρ, v, h1, h2, h3, h4⟩ := h x List.mem_cons_self
    have ih := lcL_map (tt := tt) (fe := fe) (st := st) dat F (xs := xs) fun y hy => h y (List.mem_cons_of_mem _ hy)
    rw [List.map_cons, List.map_cons]
    unfold lcL
    rw [h1]
    dsimp only
    rw [h2]
    dsimp only
    rw [h3]
    dsimp only
    rw [h4, ih]
    rfl
theorem rangeD_eq (lo : Int) (n : Nat) : rangeD lo n = (List.range n).map fun (i : Nat) => PyData.int (lo + (i : Int)) := rfl
end DL
set_option Elab.async false
set_option linter.all false
set_option maxRecDepth 100000
set_option maxHeartbeats 1000000
/-! DM2: the functions of data, rule by rule. -/
namespace DL
open PySem PySem.Spec PyProof.Rows L2
section
variable {f g : FS} {ρ ρ1 : Rho} {o : Option Out} {n k : Nat} {ds : List D} {d : D} {E F fa fb fc : FE} {t u : FT} {i : Nat} {v a b : Val}
theorem seqN (h1 : f ρ = some (.nx ρ1)) (h2 : g ρ1 = o) : fSeq f g ρ = o := by
  unfold fSeq
  rw [h1]
  exact h2
theorem seqR (h1 : f ρ = some (.ret d)) : fSeq f g ρ = some (.ret d) := by
  unfold fSeq
  rw [h1]
theorem mk_ret (h : f (ds.map .dat ++ List.replicate (k - n) .un) = some (.ret d)) : mkD n k f ds = some (.ret d) := by
  rw [mkD_ap, h]
theorem mk_retF {es : List D} (h : f (ds.map .dat ++ List.replicate (k - n) .un) = some (.retF es)) : mkD n k f ds = some (.retF es) := by
  rw [mkD_ap, h]
theorem mk_exc {c : Nat} {j : Int} {ρ' : Rho} (h : f (ds.map .dat ++ List.replicate (k - n) .un) = some (.exc ρ' c j)) : mkD n k f ds = some (.exc c j) := by
  rw [mkD_ap, h]
theorem mk_nx (h : f (ds.map .dat ++ List.replicate (k - n) .un) = some (.nx ρ1)) : mkD n k f ds = some (.ret .none) := by
  rw [mkD_ap, h]
theorem r_e2 {h : Val → Val → Option Val} (ha : fa ρ = some (.ok a)) (hb : fb ρ = some (.ok b)) (e : h a b = some v) : e2 h fa fb ρ = some (.ok v) := by
  rw [e2_ap]
  unfold bE
  rw [ha]
  dsimp only
  rw [hb]
  dsimp only
  rw [e]
  rfl
theorem r_e1 {h : Val → Option Val} (ha : fa ρ = some (.ok a)) (e : h a = some v) : e1 h fa ρ = some (.ok v) := by
  rw [e1_ap]
  unfold bE
  rw [ha]
  dsimp only
  rw [e]
  rfl
theorem r_set {d : D} (q : E ρ = some (.ok v)) (h : v.st = some d) (e : ρ.set i (.dat d) = ρ1) : fSet i E ρ = some (.nx ρ1) := by
  rw [fSet_ap]
  unfold sE
  rw [q]
  dsimp only
  rw [h, ← e]
  rfl
theorem r_setO (q : E ρ = some (.ok (.f ds))) (e : ρ.set i (.own ds) = ρ1) : fSetO i E ρ = some (.nx ρ1) := by
  rw [fSetO_ap]
  unfold sE
  rw [q, ← e]
theorem r_ift (h : t ρ = some (.ok true)) (e : f ρ = o) : fIf t f g ρ = o := by
  unfold fIf
  rw [h]
  exact e
theorem r_iff (h : t ρ = some (.ok false)) (e : g ρ = o) : fIf t f g ρ = o := by
  unfold fIf
  rw [h]
  exact e
theorem r_ret (q : E ρ = some (.ok (.s d))) : fRet E ρ = some (.ret d) := by
  rw [fRet_ap]
  unfold sE
  rw [q]
theorem r_retF (q : E ρ = some (.ok (.f ds))) : fRet E ρ = some (.retF ds) := by
  rw [fRet_ap]
  unfold sE
  rw [q]
theorem r_retB (q : E ρ = some (.ok (.b ds))) : fRet E ρ = some (.retF ds) := by
  rw [fRet_ap]
  unfold sE
  rw [q]
theorem r_retM (q : E ρ = some (.ok (.m d))) : fRet E ρ = some (.ret d) := by
  rw [fRet_ap]
  unfold sE
  rw [q]
theorem r_tV {x : Bool} (q : E ρ = some (.ok v)) (h : v.d = .bool x) : tV E ρ = some (.ok x) := by
  unfold tV
  rw [q]
  dsimp only
  rw [h]
theorem r_not {x : Bool} (q : t ρ = some (.ok x)) : tNotD t ρ = some (.ok (!x)) := by
  unfold tNotD
  rw [q]
theorem r_notT (q : t ρ = some (.ok true)) : tNotD t ρ = some (.ok false) := r_not q
theorem r_notF (q : t ρ = some (.ok false)) : tNotD t ρ = some (.ok true) := r_not q
theorem r_isi {T : String} (q : fa ρ = some (.ok v)) (n : excV v.d = false := by rfl) : e1 (gIsi T) fa ρ = some (.ok (.s (.bool (isTy T v.d)))) := r_e1 q (by unfold gIsi; rw [n]; rfl)
theorem r_or_t (q : t ρ = some (.ok true)) : tOrD t u ρ = some (.ok true) := by
  unfold tOrD
  rw [q]
theorem r_or_f {x : Bool} (q : t ρ = some (.ok false)) (q2 : u ρ = some (.ok x)) : tOrD t u ρ = some (.ok x) := by
  unfold tOrD
  rw [q]
  exact q2
theorem r_and_t {x : Bool} (q : t ρ = some (.ok true)) (q2 : u ρ = some (.ok x)) : tAndD t u ρ = some (.ok x) := by
  unfold tAndD
  rw [q]
  exact q2
theorem r_and_f (q : t ρ = some (.ok false)) : tAndD t u ρ = some (.ok false) := by
  unfold tAndD
  rw [q]
theorem r_args0 : aNil ρ = some (.ok []) := rfl
theorem r_args {A : FA} {vs : List Val} (q : E ρ = some (.ok v)) (q2 : A ρ = some (.ok vs)) : aCons E A ρ = some (.ok (v :: vs)) := by
  unfold aCons
  rw [q]
  dsimp only
  rw [q2]
theorem r_eG {h : List Val → Option Val} {A : FA} {vs : List Val} (q : A ρ = some (.ok vs)) (e : h vs = some v) : eG h A ρ = some (.ok v) := by
  unfold eG
  rw [q]
  dsimp only
  rw [e]
  rfl
theorem r_call {G : DF} {A : FA} {vs : List Val} {es : List D} {d : D} (q : A ρ = some (.ok vs)) (hs : stAll vs = some es) (hn : vs.length = n) (e : G es = some (.ret d)) : eCall G n A ρ = some (.ok (.s d)) := by
  unfold eCall
  rw [q]
  dsimp only
  rw [if_pos hn, stAll_d hs, e]
  dsimp only
  rw [hs]
theorem r_callF {G : DF} {A : FA} {vs : List Val} {es : List D} {ds : List D} (q : A ρ = some (.ok vs)) (hs : stAll vs = some es) (hn : vs.length = n) (e : G es = some (.retF ds)) : eCall G n A ρ = some (.ok (.f ds)) := by
  unfold eCall
  rw [q]
  dsimp only
  rw [if_pos hn, stAll_d hs, e]
  dsimp only
  rw [hs]
theorem r_callFs {G : DF} {A : FA} {vs : List Val} {es : List D} {ds : List D} (q : A ρ = some (.ok vs)) (hs : vs.map Val.d = es) (hn : vs.length = n) (e : G es = some (.retF ds)) (hd : ds.all scalarD = true) : eCall G n A ρ = some (.ok (.f ds)) := by
  unfold eCall
  rw [q]
  dsimp only
  rw [if_pos hn, hs, e]
  dsimp only
  cases stAll vs with
  | some _ => rfl
  | none =>
    dsimp only
    rw [if_pos hd]
/-- .. whose answer is for the moment only, if an argument is -/
theorem r_callD {G : DF} {A : FA} {vs : List Val} {es : List D} {d : D} (q : A ρ = some (.ok vs)) (hs : vs.map Val.d = es) (hn : vs.length = n) (e : G es = some (.ret d)) : ∃ v, eCall G n A ρ = some (.ok v) ∧ v.d = d := by
  unfold eCall
  rw [q]
  dsimp only
  rw [if_pos hn, hs, e]
  dsimp only
  cases stAll vs with
  | some _ => exact ⟨_, rfl, rfl⟩
  | none => exact ⟨_, rfl, rfl⟩
theorem scalar_ints : ∀ ns : List Int, (ns.map PyData.int).all scalarD = true
  | [] => rfl
  | n :: ns => scalar_ints ns
theorem r_callX {G : DF} {A : FA} {vs : List Val} {es : List D} {c : Nat} {j : Int} (q : A ρ = some (.ok vs)) (hs : stAll vs = some es) (hn : vs.length = n) (e : G es = some (.exc c j)) : eCall G n A ρ = some (.error (c, j)) := by
  unfold eCall
  rw [q]
  dsimp only
  rw [if_pos hn, stAll_d hs, e]
theorem r_v {d : D} (h : ρ[i]? = some (.dat d)) : eV i ρ = some (.ok (.s d)) := by
  unfold eV
  rw [h]
  rfl
theorem r_eq {x : Bool} (ha : fa ρ = some (.ok a)) (hb : fb ρ = some (.ok b)) (e : eqD a.d b.d = some x) : e2 gEq fa fb ρ = some (.ok (.s (.bool x))) := r_e2 ha hb (by unfold gEq; rw [e]; rfl)
theorem r_ne {x : Bool} (ha : fa ρ = some (.ok a)) (hb : fb ρ = some (.ok b)) (e : eqD a.d b.d = some x) : e2 gNe fa fb ρ = some (.ok (.s (.bool (!x)))) := r_e2 ha hb (by unfold gNe; rw [e]; rfl)
theorem r_eqI {i j : Int} (ha : fa ρ = some (.ok (.s (.int i)))) (hb : fb ρ = some (.ok (.s (.int j)))) : e2 gEq fa fb ρ = some (.ok (.s (.bool (i == j)))) := r_eq ha hb rfl
theorem r_neI {i j : Int} (ha : fa ρ = some (.ok (.s (.int i)))) (hb : fb ρ = some (.ok (.s (.int j)))) : e2 gNe fa fb ρ = some (.ok (.s (.bool (!(i == j))))) := r_ne ha hb rfl
theorem r_eqI_t {i j : Int} (ha : fa ρ = some (.ok (.s (.int i)))) (hb : fb ρ = some (.ok (.s (.int j)))) (h : i = j) : tV (e2 gEq fa fb) ρ = some (.ok true) := r_tV (r_eqI ha hb) (by rw [beq_iff_eq.mpr h]; rfl)
theorem r_eqI_f {i j : Int} (ha : fa ρ = some (.ok (.s (.int i)))) (hb : fb ρ = some (.ok (.s (.int j)))) (h : i ≠ j) : tV (e2 gEq fa fb) ρ = some (.ok false) := r_tV (r_eqI ha hb) (by rw [beq_eq_false_iff_ne.mpr h]; rfl)
theorem r_neI_f {i j : Int} (ha : fa ρ = some (.ok (.s (.int i)))) (hb : fb ρ = some (.ok (.s (.int j)))) (h : i = j) : tV (e2 gNe fa fb) ρ = some (.ok false) := r_tV (r_neI ha hb) (by rw [beq_iff_eq.mpr h]; rfl)
theorem r_neI_t {i j : Int} (ha : fa ρ = some (.ok (.s (.int i)))) (hb : fb ρ = some (.ok (.s (.int j)))) (h : i ≠ j) : tV (e2 gNe fa fb) ρ = some (.ok true) := r_tV (r_neI ha hb) (by rw [beq_eq_false_iff_ne.mpr h]; rfl)
theorem r_put {es : List D} {j : Int} {n : Nat} {d : D} (q : E ρ = some (.ok a)) (ho : ρ[i]? = some (.own es)) (q2 : F ρ = some (.ok b)) (hj : a.d = .int j) (hd : b.st = some d) (hn : ixN es.length j = some n) (e : ρ.set i (.own (es.set n d)) = ρ1) : fPut i E F ρ = some (.nx ρ1) := by
  rw [fPut_ap]
  unfold sE
  rw [q2]
  dsimp only
  unfold fOwn
  rw [ho]
  dsimp only
  rw [q]
  dsimp only
  rw [hj, hd]
  dsimp only
  rw [hn, ← e]
  rfl
theorem r_app {es : List D} {d : D} (ho : ρ[i]? = some (.own es)) (q : E ρ = some (.ok v)) (h : v.st = some d) (hl : es.length + 1 ≤ 16777216) (e : ρ.set i (.own (es ++ [d])) = ρ1) : fApp i E ρ = some (.nx ρ1) := by
  rw [fApp_ap]
  unfold fOwn
  rw [ho]
  dsimp only
  unfold sE
  rw [q]
  dsimp only
  rw [h]
  dsimp only
  rw [if_pos (lineOk_small hl), ← e]
theorem r_ext {es us : List D} (ho : ρ[i]? = some (.own es)) (q : E ρ = some (.ok v)) (h : v.items = some us) (hl : es.length + us.length ≤ 16777216) (e : ρ.set i (.own (es ++ us)) = ρ1) : fExt i E ρ = some (.nx ρ1) := by
  rw [fExt_ap]
  unfold fOwn
  rw [ho]
  dsimp only
  unfold sE
  rw [q]
  dsimp only
  rw [h]
  dsimp only
  rw [if_pos (lineOk_small hl), ← e]
end
/-- a comprehension over range(n) that keeps every item -/
theorem eLc_range {vs : List Nat} {st : Rho → D → Option Rho} {a : FA} {tt : FT} {fe : FE} {ρ : Rho} {n : Nat} {F : Nat → D} (h0 : noOwn ρ vs = true) (ha : iRange1 a ρ = some (.ok (rangeD 0 n))) (hl : n ≤ 16777216)
    (h : ∀ k, k < n → ∃ ρ1 v, st (wipeR ρ vs) (.int (k : Int)) = some ρ1 ∧ tt ρ1 = some (.ok true) ∧ fe ρ1 = some (.ok v) ∧ v.st = some (F k)) : eLcG vs st (iRange1 a) tt fe ρ = some (.ok (.f ((List.range n).map F))) := by
  have e : lcL tt fe (st (wipeR ρ vs)) (rangeD 0 n) = some ((List.range n).map F) := by
    rw [rangeD_eq]
    refine lcL_map (fun (i : Nat) => PyData.int (0 + (i : Int))) F fun k hk => ?_
    rw [Int.zero_add]
    exact h k (List.mem_range.mp hk)
  unfold eLcG
  rw [if_pos h0, ha]
  dsimp only
  rw [e]
  dsimp only
  rw [if_pos (lineOk_small (by rw [List.length_map, List.length_range]; exact hl))]
theorem atI_nat {α : Type} {xs : List α} {i : Nat} (h : i < xs.length) : atI xs (i : Int) = some xs[i] := by
  rw [atI_of (Int.natCast_nonneg i) (by omega)]
  simp
end DL
set_option Elab.async false
set_option linter.all false
set_option maxRecDepth 100000
set_option maxHeartbeats 1000000
/-! DM3: rows of numbers as data. -/
namespace DL
open PySem PySem.Spec PyProof.Rows L2
/-- a row of numbers from 0 on, as data -/
def jd (row : List Nat) : List D := row.map fun (n : Nat) => .int (n : Int)
@[simp] theorem jd_nil : jd [] = [] := rfl
theorem jd_cons (n : Nat) (r : List Nat) : jd (n :: r) = .int (n : Int) :: jd r := rfl
theorem jd_app (a b : List Nat) : jd (a ++ b) = jd a ++ jd b := List.map_append
theorem jd_len (r : List Nat) : (jd r).length = r.length := List.length_map ..
theorem jd_ints (r : List Nat) : jd r = (r.map fun (n : Nat) => (n : Int)).map PyData.int := by
  unfold jd
  rw [List.map_map]
  rfl
theorem jd_scalar (r : List Nat) : (jd r).all scalarD = true := by
  rw [jd_ints]
  exact scalar_ints _
theorem jd_inj {a b : List Nat} (h : jd a = jd b) : a = b := by
  induction a generalizing b with
  | nil => cases b with
    | nil => rfl
    | cons _ _ => cases h
  | cons n a ih => cases b with
    | nil => cases h
    | cons m b =>
      rw [jd_cons, jd_cons] at h
      injection h with h1 h2
      injection h1 with h1
      rw [ih h2, Int.ofNat.inj h1]
theorem eqD_jd (a b : List Nat) : eqD (.list (jd a)) (.list (jd b)) = some (decide (a = b)) := by
  rw [jd_ints, jd_ints, eqD_ints]
  congr 1
  apply decide_eq_decide.mpr
  constructor
  · intro h
    apply jd_inj
    rw [jd_ints, jd_ints, h]
  · intro h
    rw [h]
theorem eqD_jd_self (a : List Nat) : eqD (.list (jd a)) (.list (jd a)) = some true := by
  rw [eqD_jd]
  simp
theorem atI_jd {r : List Nat} {i : Nat} (h : i < r.length) : atI (jd r) (i : Int) = some (.int (r[i] : Nat)) := by
  have h' : i < (jd r).length := by rw [jd_len]; exact h
  rw [atI_nat h']
  simp [jd]
theorem jd_at {r : List Nat} {i : Nat} {d : D} (h : (jd r)[i]? = some d) : ∃ hi : i < r.length, d = .int (r[i] : Nat) := by
  obtain ⟨hi, e⟩ := List.getElem?_eq_some_iff.mp h
  have hi' : i < r.length := by rw [jd_len] at hi; exact hi
  refine ⟨hi', ?_⟩
  rw [← e]
  simp [jd]
theorem inD_jd (n : Nat) (r : List Nat) : inD (.int (n : Int)) (jd r) = r.contains n := by
  unfold inD inV
  induction r with
  | nil => rfl
  | cons m r ih =>
    rw [jd_cons, List.map_cons, List.any_cons, ih, List.contains_cons]
    congr 1
    show ((m : Int) == (n : Int)) = _
    by_cases h : n = m
    · rw [beq_iff_eq.mpr h, beq_iff_eq.mpr (by omega)]
    · rw [beq_eq_false_iff_ne.mpr h, beq_eq_false_iff_ne.mpr (by omega)]
theorem stAll_s : ∀ ds : List D, stAll (ds.map Val.s) = some ds
  | [] => rfl
  | d :: ds => by
    rw [List.map_cons]
    unfold stAll
    rw [stAll_s ds]
    rfl
theorem cutL_nat {α : Type} (xs : List α) (i j : Nat) (hj : j ≤ xs.length) (hi : i ≤ j) : cutL xs (some (i : Int)) (some (j : Int)) = (xs.drop i).take (j - i) := by
  unfold cutL
  rw [HT.sIx_nat, HT.sIx_nat, Nat.min_eq_left hj, Nat.min_eq_left (Nat.le_trans hi hj)]
theorem ixN_nat {n i : Nat} (h : i < n) : ixN n (i : Int) = some i := by
  unfold ixN
  rw [if_pos (Int.natCast_nonneg _), if_pos (by omega), Int.toNat_natCast]
section
variable {ρ ρ1 : Rho} {ds us : List D} {d : D} {E fa fb : FE} {A : FA} {vs : List Val} {i : Nat} {v : Val}
theorem r_for {it : FI} {g : FG} {body : FS} {xs : List D} {o : Out} (q : it ρ = some (.ok xs)) (h : forL g body xs ρ = some o) : fFor it g body ρ = some o := by
  unfold fFor
  rw [q]
  exact h
theorem r_seqF {xs : List D} (q : E ρ = some (.ok (.f xs))) : iSeq E ρ = some (.ok xs) := by
  unfold iSeq
  rw [q]
theorem r_seqL {xs : List D} (q : E ρ = some (.ok (.s (.list xs)))) : iSeq E ρ = some (.ok xs) := by
  unfold iSeq
  rw [q]
theorem r_oS {j : Int} (q : E ρ = some (.ok (.s (.int j)))) : oSome E ρ = some (.ok (some j)) := by
  unfold oSome
  rw [q]
  rfl
theorem r_sl {L R : FO} {lo hi : Option Int} {xs : List D} (q : E ρ = some (.ok v)) (hv : v = .s (.list xs) ∨ v = .b xs ∨ v = .f xs) (q1 : L ρ = some (.ok lo)) (q2 : R ρ = some (.ok hi)) : eSl E L R ρ = some (.ok (.f (cutL xs lo hi))) := by
  unfold eSl
  rw [q]
  dsimp only
  rw [q1]
  dsimp only
  rw [q2]
  rcases hv with rfl | rfl | rfl <;> rfl
theorem r_aug {g : Int → Int → Int} {a j : Int} (h : ρ[i]? = some (.dat (.int a))) (q : E ρ = some (.ok (.s (.int j)))) (e : ρ.set i (.dat (.int (g a j))) = ρ1) : fAug i g E ρ = some (.nx ρ1) := by
  unfold fAug
  rw [h]
  dsimp only
  unfold sE
  rw [q, ← e]
  rfl
theorem r_pop {es : List D} (ho : ρ[i]? = some (.own es)) (hn : es ≠ []) (e : ρ.set i (.own es.dropLast) = ρ1) : fPop i ρ = some (.nx ρ1) := by
  rw [fPop_ap]
  unfold fOwn
  rw [ho]
  dsimp only
  rw [if_neg (by simpa using hn), ← e]
theorem r_while {t : FT} {body : FS} {n : Nat} {o : Out} (h : whileL t body n ρ = some o) (hn : n ≤ 1000000000) : fWhile t body ρ = some o := whileL_mono fuel h (by
  have e : fuel = 18446744073709551616 := rfl
  omega)
theorem w_stop {t : FT} {body : FS} {n : Nat} (q : t ρ = some (.ok false)) : whileL t body (n + 1) ρ = some (.nx ρ) := by
  unfold whileL
  rw [q]
theorem w_go {t : FT} {body : FS} {n : Nat} {o : Option Out} (q : t ρ = some (.ok true)) (q2 : body ρ = some (.nx ρ1)) (h : whileL t body n ρ1 = o) : whileL t body (n + 1) ρ = o := by
  unfold whileL
  rw [q]
  dsimp only
  rw [q2]
  exact h
theorem r_range {j : Int} (q : E ρ = some (.ok (.s (.int j)))) (h1 : -1000000000 < j) (h2 : j < 1000000000) : iRange1 (aCons E (aNil)) ρ = some (.ok (rangeD 0 j.toNat)) := by
  unfold iRange1
  rw [r_args q r_args0]
  show (if cRng j = true then some (Except.ok (rangeD 0 j.toNat)) else none) = _
  rw [if_pos (cRng_is h1 h2)]
theorem r_andV_t (q1 : fa ρ = some (.ok (.s (.bool true)))) (q2 : fb ρ = some (.ok v)) : eAndV fa fb ρ = some (.ok v) := by
  rw [eAndV_ap]
  unfold bE
  rw [q1]
  exact q2
theorem r_andV_f (q1 : fa ρ = some (.ok (.s (.bool false)))) : eAndV fa fb ρ = some (.ok (.s (.bool false))) := by
  rw [eAndV_ap]
  unfold bE
  rw [q1]
  rfl
theorem r_b (h : ρ[i]? = some (.own ds)) : eV i ρ = some (.ok (.b ds)) := by
  unfold eV
  rw [h]
theorem r_star {us : List Val} (q : E ρ = some (.ok v)) (h : v.parts = some us) (q2 : A ρ = some (.ok vs)) : aStar E A ρ = some (.ok (us ++ vs)) := by
  unfold aStar
  rw [q]
  dsimp only
  rw [h]
  dsimp only
  rw [q2]
theorem r_lst (q : A ρ = some (.ok vs)) (h : stAll vs = some ds) (hl : vs.length ≤ 16777216) : eLst A ρ = some (.ok (.f ds)) := by
  unfold eLst
  rw [q]
  dsimp only
  rw [if_pos (lineOk_small hl), h]
theorem r_len {es : List D} (q : E ρ = some (.ok v)) (h : v.d = .list es) : eG bLen (aCons E (aNil)) ρ = some (.ok (.s (.int (es.length : Int)))) := by
  refine r_eG (r_args q r_args0) ?_
  unfold bLen
  dsimp only
  rw [h]
  rfl
theorem r_addI {i j : Int} (ha : fa ρ = some (.ok (.s (.int i)))) (hb : fb ρ = some (.ok (.s (.int j)))) : e2 gAdd fa fb ρ = some (.ok (.s (.int (i + j)))) := r_e2 ha hb rfl
theorem r_subI {i j : Int} (ha : fa ρ = some (.ok (.s (.int i)))) (hb : fb ρ = some (.ok (.s (.int j)))) : e2 gSub fa fb ρ = some (.ok (.s (.int (i - j)))) := r_e2 ha hb rfl
theorem r_mulI {i j : Int} (ha : fa ρ = some (.ok (.s (.int i)))) (hb : fb ρ = some (.ok (.s (.int j)))) (h : cMul i j = true) : e2 gMul fa fb ρ = some (.ok (.s (.int (i * j)))) := r_e2 ha hb (by
  show (if cMul i j = true then some (Val.s (.int (i * j))) else none) = _
  rw [if_pos h])
theorem r_modI {i j : Int} (ha : fa ρ = some (.ok (.s (.int i)))) (hb : fb ρ = some (.ok (.s (.int j)))) (h : 0 < j) : e2 gMod fa fb ρ = some (.ok (.s (.int (i % j)))) := r_e2 ha hb (by
  show (if cMod i j = true then some (Val.s (.int (i % j))) else none) = _
  rw [if_pos (cMod_ok h)])
theorem r_divI {i j : Int} (ha : fa ρ = some (.ok (.s (.int i)))) (hb : fb ρ = some (.ok (.s (.int j)))) (h : 0 < j) (h2 : j < 1000000000) : e2 gDiv fa fb ρ = some (.ok (.s (.int (i / j)))) := r_e2 ha hb (by
  show (if cDiv i j = true then some (Val.s (.int (i / j))) else none) = _
  rw [if_pos (cDiv_is h (by omega))])
theorem r_int {i : Int} (ha : fa ρ = some (.ok (.s (.int i)))) : eG bInt (aCons fa (aNil)) ρ = some (.ok (.s (.int i))) := r_eG (r_args ha r_args0) rfl
theorem r_gtI {i j : Int} (ha : fa ρ = some (.ok (.s (.int i)))) (hb : fb ρ = some (.ok (.s (.int j)))) : tV (e2 gGtX fa fb) ρ = some (.ok (decide (j < i))) := r_tV (r_e2 ha hb rfl) rfl
theorem r_ltI {i j : Int} (ha : fa ρ = some (.ok (.s (.int i)))) (hb : fb ρ = some (.ok (.s (.int j)))) : tV (e2 gLtX fa fb) ρ = some (.ok (decide (i < j))) := r_tV (r_e2 ha hb rfl) rfl
theorem r_gtI_t {i j : Int} (ha : fa ρ = some (.ok (.s (.int i)))) (hb : fb ρ = some (.ok (.s (.int j)))) (h : j < i) : tV (e2 gGtX fa fb) ρ = some (.ok true) := by rw [r_gtI ha hb, decide_eq_true h]
theorem r_gtI_f {i j : Int} (ha : fa ρ = some (.ok (.s (.int i)))) (hb : fb ρ = some (.ok (.s (.int j)))) (h : i ≤ j) : tV (e2 gGtX fa fb) ρ = some (.ok false) := by rw [r_gtI ha hb, decide_eq_false (by omega)]
theorem r_ltI_t {i j : Int} (ha : fa ρ = some (.ok (.s (.int i)))) (hb : fb ρ = some (.ok (.s (.int j)))) (h : i < j) : tV (e2 gLtX fa fb) ρ = some (.ok true) := by rw [r_ltI ha hb, decide_eq_true h]
theorem r_ltI_f {i j : Int} (ha : fa ρ = some (.ok (.s (.int i)))) (hb : fb ρ = some (.ok (.s (.int j)))) (h : j ≤ i) : tV (e2 gLtX fa fb) ρ = some (.ok false) := by rw [r_ltI ha hb, decide_eq_false (by omega)]
theorem r_ix {es : List D} {j : Int} (ha : fa ρ = some (.ok (.s (.list es)))) (hb : fb ρ = some (.ok (.s (.int j)))) (h : atI es j = some d) : e2 gIx fa fb ρ = some (.ok (.s d)) := r_e2 ha hb (by
  show (atI es j).map Val.s = _
  rw [h]
  rfl)
theorem r_cat {xs ys : List D} {a b : Val} (ha : fa ρ = some (.ok a)) (hb : fb ρ = some (.ok b)) (h1 : a.items = some xs) (h2 : b.items = some ys) (hn : gAddI a b = none) (hl : xs.length + ys.length ≤ 16777216) : e2 gAdd fa fb ρ = some (.ok (.f (xs ++ ys))) := r_e2 ha hb (by
  unfold gAdd
  rw [hn]
  show gCat a b = _
  unfold gCat
  rw [h1, h2]
  dsimp only
  rw [if_pos (lineOk_small hl)])
theorem r_in0 {n : Nat} {r : List Nat} (ha : fa ρ = some (.ok (.s (.int (n : Int))))) (hb : fb ρ = some (.ok v)) (hv : v.d = .list (jd r)) : tV (e2 gIn fa fb) ρ = some (.ok (r.contains n)) := by
  refine r_tV (v := .s (.bool (r.contains n))) (r_e2 ha hb ?_) rfl
  unfold gIn gInX
  rw [hv]
  show (if (scalarD (.int (n : Int)) && (jd r).all scalarD) = true then some (Val.s (.bool (if false then !inD (.int (n : Int)) (jd r) else inD (.int (n : Int)) (jd r)))) else none) = _
  rw [if_pos (by rw [jd_scalar]; rfl), inD_jd]
  rfl
end
end DL
set_option Elab.async false
set_option linter.all false
set_option maxRecDepth 100000
set_option maxHeartbeats 1000000
/-! DM4: rules for errors, early returns, displays. -/
namespace DL
open PySem PySem.Spec PyProof.Rows L2
section
variable {f g : FS} {ρ ρ1 : Rho} {o : Option Out} {n k : Nat} {ds : List D} {d : D} {E F fa fb fc : FE} {t u : FT} {i : Nat} {v a b : Val} {c : Nat} {j : Int}
theorem seqX (h1 : f ρ = some (.exc ρ1 c j)) : fSeq f g ρ = some (.exc ρ1 c j) := by
  unfold fSeq
  rw [h1]
theorem seqRF (h1 : f ρ = some (.retF ds)) : fSeq f g ρ = some (.retF ds) := by
  unfold fSeq
  rw [h1]
theorem r_raise (q : E ρ = some (.ok (.s (.int j)))) : fRaise c E ρ = some (.exc ρ c j) := by
  rw [fRaise_ap]
  unfold sE
  rw [q]
  rfl
theorem w_exc {t : FT} {body : FS} {n : Nat} (q : t ρ = some (.ok true)) (q2 : body ρ = some (.exc ρ1 c j)) : whileL t body (n + 1) ρ = some (.exc ρ1 c j) := by
  unfold whileL
  rw [q]
  dsimp only
  rw [q2]
theorem r_tryN {h : HF} (q : f ρ = some (.nx ρ1)) : fTry f h ρ = some (.nx ρ1) := by
  unfold fTry
  rw [q]
theorem r_tryR {h : HF} (q : f ρ = some (.ret d)) : fTry f h ρ = some (.ret d) := by
  unfold fTry
  rw [q]
theorem r_tryX {h : HF} (q : f ρ = some (.exc ρ1 c j)) (q2 : h c j ρ1 = o) : fTry f h ρ = o := by
  unfold fTry
  rw [q]
  exact q2
theorem r_has {m : Nat → Option Bool} {k : Nat} {gg : Nat → Addr → Addr → FS} {rest : HF} {o1 o2 : Out} (hm : m c = some true) (h : ∀ a dd, gg c a dd (ρ.set k (.err a dd j)) = some o1) (h2 : goneO k o1 = some o2) : hAs m k gg rest c j ρ = some o2 := by
  unfold hAs
  rw [hm]
  dsimp only
  exact anyAd_of 0 fun a dd => by rw [h a dd]; exact h2
theorem r_hno {m : Nat → Option Bool} {k : Nat} {gg : Nat → Addr → Addr → FS} {rest : HF} (hm : m c = some false) (h : rest c j ρ = o) : hAs m k gg rest c j ρ = o := by
  unfold hAs
  rw [hm]
  exact h
theorem r_tup {A : FA} {vs : List Val} (q : A ρ = some (.ok vs)) (h : stAll vs = some ds) (hl : vs.length ≤ 16777216) : eTup A ρ = some (.ok (.s (.tuple ds))) := by
  unfold eTup
  rw [q]
  dsimp only
  rw [if_pos (lineOk_small hl), h]
theorem r_retE (q : E ρ = some (.error (c, j))) : fRet E ρ = some (.exc ρ c j) := by
  rw [fRet_ap]
  unfold sE
  rw [q]
theorem r_setE (q : E ρ = some (.error (c, j))) : fSet i E ρ = some (.exc ρ c j) := by
  rw [fSet_ap]
  unfold sE
  rw [q]
theorem r_argsE {A : FA} {e : Er} (q : E ρ = some (.error e)) : aCons E A ρ = some (.error e) := by
  unfold aCons
  rw [q]
theorem r_argsE2 {A : FA} {e : Er} (q : E ρ = some (.ok v)) (q2 : A ρ = some (.error e)) : aCons E A ρ = some (.error e) := by
  unfold aCons
  rw [q]
  dsimp only
  rw [q2]
theorem r_tupE {A : FA} {e : Er} (q : A ρ = some (.error e)) : eTup A ρ = some (.error e) := by
  unfold eTup
  rw [q]
end
/-- a loop that returns at a turn -/
theorem forL_ret {g : FG} {body : FS} {o : Out} (Inv : Nat → Rho → Prop) {ds : List D} {ρ : Rho} {m : Nat} (hm : m < ds.length) (h0 : Inv 0 ρ)
    (h : ∀ i d ρ, i < m → ds[i]? = some d → Inv i ρ → ∃ ρ1 ρ2, g d ρ = some ρ1 ∧ body ρ1 = some (.nx ρ2) ∧ Inv (i + 1) ρ2)
    (hr : ∀ d ρ, ds[m]? = some d → Inv m ρ → ∃ ρ1, g d ρ = some ρ1 ∧ body ρ1 = some o) (ho : (∃ d, o = .ret d) ∨ (∃ x, o = .retF x)) : forL g body ds ρ = some o := by
  have go : ∀ (k n : Nat) (ρ : Rho), m - n = k → n ≤ m → Inv n ρ → forL g body (ds.drop n) ρ = some o := by
    intro k
    induction k with
    | zero =>
      intro n ρ hk hn hI
      have e : n = m := by omega
      subst e
      obtain ⟨ρ1, h1, h2⟩ := hr ds[n] ρ (List.getElem?_eq_getElem hm) hI
      rw [List.drop_eq_getElem_cons hm]
      unfold forL
      rw [h1]
      dsimp only
      rw [h2]
      rcases ho with ⟨d, rfl⟩ | ⟨x, rfl⟩ <;> rfl
    | succ k ih =>
      intro n ρ hk hn hI
      have hlt : n < ds.length := by omega
      obtain ⟨ρ1, ρ2, h1, h2, h3⟩ := h n ds[n] ρ (by omega) (List.getElem?_eq_getElem hlt) hI
      rw [List.drop_eq_getElem_cons hlt]
      unfold forL
      rw [h1]
      dsimp only
      rw [h2]
      exact ih (n + 1) ρ2 (by omega) (by omega) h3
  have q := go _ 0 ρ rfl (Nat.zero_le _) h0
  rw [List.drop_zero] at q
  exact q
theorem canLay_jd (r : List Nat) : PyData.canLayAll0 (jd r) = true := by
  rw [jd_ints]
  exact canLay_ints _
theorem depth_jd (r : List Nat) : PyData.depthAll (jd r) = 0 := by
  rw [jd_ints]
  exact depth_ints _
theorem shaped_strList (x : Str) (r : List Nat) (hx : PyData.canLay0 (.str x) = true) : SeqAt.shaped (.tuple [.str x, .list (jd r)]) = true := by
  unfold SeqAt.shaped
  have h1 : PyData.canLay0 (.tuple [.str x, .list (jd r)]) = true := by
    show (PyData.canLay0 (.str x) && (PyData.canLayAll0 (jd r) && true)) = true
    rw [canLay_jd, hx]
    rfl
  have h2 : PyData.depth (.tuple [.str x, .list (jd r)]) = 2 := by
    show max (PyData.depth (.str x)) (max (PyData.depthAll (jd r) + 1) 0) + 1 = 2
    rw [depth_jd]
    rfl
  rw [h1, h2]
  rfl
theorem shaped_strInt (x : Str) (n : Int) (hx : PyData.canLay0 (.str x) = true) : SeqAt.shaped (.tuple [.str x, .int n]) = true := by
  unfold SeqAt.shaped
  have h1 : PyData.canLay0 (.tuple [.str x, .int n]) = true := by
    show (PyData.canLay0 (.str x) && (true && true)) = true
    rw [hx]
    rfl
  have h2 : PyData.depth (.tuple [.str x, .int n]) = 1 := rfl
  rw [h1, h2]
  rfl
end DL
set_option Elab.async false
set_option linter.all false
set_option maxRecDepth 100000
set_option maxHeartbeats 4000000
/-! FL1: what the laws draw with. -/
namespace FL
open PySem PySem.Spec PyProof.Rows L2 DL FN
def atD (ds : List Int) (k many : Int) : Int := if k < ds.length then (ds.getD k.toNat 0) % many else 0
theorem law_at_ok (ds : List Int) (k many : Int) (hk : 0 ≤ k) (hm : 0 < many) : d__law_at [.list (ds.map .int), .int k, .int many] = some (.ret (.int (atD ds k many))) := by
  unfold d__law_at b__law_at atD
  by_cases h : k < ds.length
  · have e := atI_of hk h
    simp [atI_map, e, h, hk, hm, cMod]
  · simp [h, hk, hm]
/-- what is drawn: numbers from 0 to below 65536 -/
def Drawn (ds : List Int) : Prop := ∀ d ∈ ds, 0 ≤ d ∧ d < 65536
theorem drawn_app {ds : List Int} {d : Int} (h : Drawn ds) (h0 : 0 ≤ d) (h1 : d < 65536) : Drawn (ds ++ [d]) := fun x hx => by
  rcases List.mem_append.mp hx with hx | hx
  · exact h x hx
  · rw [List.mem_singleton.mp hx]
    exact ⟨h0, h1⟩
/-- the loop within: the digits of one cell -/
theorem draws_in (s0 s2 s4 s5 : DL.Slot) (ds : List Int) (rest : Int) (hd : Drawn ds) (hl : ds.length ≤ 60 * 63) (h0 : 0 ≤ rest) : ∃ (es : List Int) (r : Int) (s4' : DL.Slot), Drawn es ∧ es.length ≤ ds.length + 60 ∧
    forL (gN 4) (fIf (tV (e2 gGtX (eV 3) (eC (.int 0)))) (fSeq (fApp 1 (e2 gMod (eG bInt (aCons (eV 3) (aNil))) (eC (.int 65536)))) (fSet 3 (e2 gDiv (eV 3) (eC (.int 65536))))) (fNx)) (rangeD 0 60) [s0, .own (ds.map .int), s2, .dat (.int rest), s4, s5]
      = some (.nx [s0, .own (es.map .int), s2, .dat (.int r), s4', s5]) := by
  have key := forL_inv (g := gN 4) (ds := rangeD 0 60) (ρ := [s0, .own (ds.map .int), s2, .dat (.int rest), s4, s5])
    (body := fIf (tV (e2 gGtX (eV 3) (eC (.int 0)))) (fSeq (fApp 1 (e2 gMod (eG bInt (aCons (eV 3) (aNil))) (eC (.int 65536)))) (fSet 3 (e2 gDiv (eV 3) (eC (.int 65536))))) (fNx))
    (fun j ρ => ∃ (es : List Int) (r : Int) (s4 : DL.Slot), ρ = [s0, .own (es.map .int), s2, .dat (.int r), s4, s5] ∧ Drawn es ∧ es.length ≤ ds.length + j ∧ 0 ≤ r ∧ j ≤ 60)
    ⟨ds, rest, s4, rfl, hd, Nat.le_refl _, h0, by decide⟩ (by
      rintro j d ρ hj ⟨es, r, s4, rfl, he, hel, hr, _⟩
      have hj : j < 60 := by simpa [rangeD] using (List.getElem?_eq_some_iff.mp hj).1
      by_cases hpos : 0 < r
      · refine ⟨_, _, rfl, ?_, es ++ [r % 65536], r / 65536, .dat d, rfl, drawn_app he (by omega) (by omega), by simp; omega, by omega, hj⟩
        have hln : lineOk (es.length + 1) = true := lineOk_small (by omega)
        simp [hpos, cMod_ok, cDiv_is, hln]
      · refine ⟨_, _, rfl, ?_, es, r, .dat d, rfl, he, by omega, hr, hj⟩
        simp [hpos])
  obtain ⟨ρ', h1, es, r, s4', rfl, h3, h4, _⟩ := key
  refine ⟨es, r, s4', h3, ?_, h1⟩
  simpa [rangeD] using h4
/-- a turn of the loop over the cells -/
def drawTurn : FS := fSeq (fSet 3 (eG bAbs (aCons (e2 gIx (eV 0) (eV 2)) (aNil)))) (fIf (tV (e2 gGeX (eV 3) (e2 gPow (eC (.int 10)) (eC (.int 18))))) (fFor (iRange1 (aCons (eC (.int 60)) (aNil))) (gN 4) (fIf (tV (e2 gGtX (eV 3) (eC (.int 0)))) (fSeq (fApp 1 (e2 gMod (eG bInt (aCons (eV 3) (aNil))) (eC (.int 65536)))) (fSet 3 (e2 gDiv (eV 3) (eC (.int 65536))))) (fNx))) (fSeq (fSet 5 (e2 gMod (eG bInt (aCons (e2 gAdd (e2 gMul (eV 3) (eC (.int 48271))) (e2 gMul (e2 gAdd (eV 2) (eC (.int 1))) (eC (.int 69621)))) (aNil))) (eC (.int 2147483647)))) (fSeq (fSet 5 (e2 gMod (eG bInt (aCons (e2 gAdd (e2 gAdd (e2 gMul (eV 5) (eC (.int 16807))) (e2 gMul (eC (.int 11)) (eV 2))) (eC (.int 5))) (aNil))) (eC (.int 2147483629)))) (fSeq (fApp 1 (e2 gMod (eG bInt (aCons (eV 5) (aNil))) (eC (.int 65536)))) (fApp 1 (e2 gMod (eG bInt (aCons (e2 gDiv (eV 5) (eC (.int 65536))) (aNil))) (eC (.int 32768))))))))
theorem draws_turn (ks : List (D × D)) (cell i : Int) (s3 s4 s5 : DL.Slot) (ds : List Int) (hd : Drawn ds) (hl : ds.length ≤ 60 * 62) (hat : atI ks i = some (.int cell, .none)) (hex : excL ks = false) :
    ∃ (es : List Int) (s3' s4' s5' : DL.Slot), Drawn es ∧ es.length ≤ ds.length + 60 ∧ drawTurn [.dat (.dict ks), .own (ds.map .int), .dat (.int i), s3, s4, s5] = some (.nx [.dat (.dict ks), .own (es.map .int), .dat (.int i), s3', s4', s5']) := by
  generalize hrest : (if cell < 0 then -cell else cell) = rest
  have h0 : 0 ≤ rest := by rw [← hrest]; split <;> omega
  by_cases hbig : (1000000000000000000 : Int) ≤ rest
  · obtain ⟨es, r, s4', he, hel, h3⟩ := draws_in (.dat (.dict ks)) (.dat (.int i)) s4 s5 ds rest hd (by omega) h0
    refine ⟨es, .dat (.int r), s4', s5, he, hel, ?_⟩
    simp [drawTurn, hat, hex, hrest, hbig, cPow_is, h3, cRng_is]
  · have hln : ∀ m, m ≤ 3790 → lineOk m = true := fun m h => lineOk_small (by omega)
    generalize hm1 : (rest * 48271 + (i + 1) * 69621) % 2147483647 = m1
    generalize hm2 : (m1 * 16807 + 11 * i + 5) % 2147483629 = m2
    refine ⟨ds ++ [m2 % 65536] ++ [m2 / 65536 % 32768], .dat (.int rest), s4, .dat (.int m2), drawn_app (drawn_app hd (by omega) (by omega)) (by omega) (by omega), by simp, ?_⟩
    simp [drawTurn, hat, hex, hrest, hbig, cPow_is, cMul_l, cMul_r, cMod_ok, cDiv_is, hm1, hm2, hln (ds.length + 1) (by omega), hln (ds.length + 1 + 1) (by omega)]
theorem law_draws_ok (ns : List Int) (hl : ns.length ≤ 63) : ∃ ds : List Int, Drawn ds ∧ ds.length ≤ 3780 ∧ d__law_draws [scr ns] = some (.retF (ds.map .int)) := by
  have hmin : (if ((ns.length : Nat) : Int) < 63 then ((ns.length : Nat) : Int) else 63) = (ns.length : Int) := by split <;> omega
  have key := forL_inv (g := gN 2) (ds := rangeD 0 ns.length) (ρ := [.dat (scr ns), .own [], .un, .un, .un, .un]) (body := drawTurn)
    (fun i ρ => ∃ (ds : List Int) (s2 s3 s4 s5 : DL.Slot), ρ = [.dat (scr ns), .own (ds.map .int), s2, s3, s4, s5] ∧ Drawn ds ∧ ds.length ≤ 60 * i ∧ i ≤ ns.length)
    ⟨[], _, _, _, _, rfl, (fun _ h => nomatch h), Nat.zero_le _, Nat.zero_le _⟩ (by
      rintro i d ρ hd ⟨ds, s2, s3, s4, s5, rfl, hdr, hlen, _⟩
      have hi : i < ns.length := by simpa [rangeD] using (List.getElem?_eq_some_iff.mp hd).1
      have ed : d = .int i := by
        rw [rangeD_eq, List.getElem?_map, List.getElem?_range hi] at hd
        cases hd
        simp
      subst ed
      have hat : atI (ns.map fun n => ((PyData.int n, PyData.none) : D × D)) (i : Int) = some (.int ns[i], .none) := by
        rw [atI_nat (j := i) (v := (.int ns[i], .none))]
        rw [List.getElem?_map, List.getElem?_eq_getElem hi]
        rfl
      obtain ⟨es, s3', s4', s5', h1, h2, h3⟩ := draws_turn _ _ i s3 s4 s5 ds hdr (by omega) hat (excL_scr ns)
      exact ⟨_, _, rfl, h3, es, _, _, _, _, rfl, h1, by omega, hi⟩)
  obtain ⟨ρ', h1, ds, s2, s3, s4, s5, rfl, hd, hlen, _⟩ := key
  have hlen' : ds.length ≤ 3780 := by
    have e : (rangeD 0 ns.length).length = ns.length := by simp [rangeD]
    rw [e] at hlen
    omega
  refine ⟨ds, hd, hlen', ?_⟩
  have hr : cRng (ns.length : Int) = true := by simp [cRng]; omega
  unfold drawTurn at h1
  simp [d__law_draws, b__law_draws, hmin, hr, h1, lineOk]
theorem atD_lo (ds : List Int) (k m : Int) (hm : 0 < m) : 0 ≤ atD ds k m := by
  unfold atD
  split
  · exact Int.emod_nonneg _ (by omega)
  · exact Int.le_refl _
theorem atD_hi (ds : List Int) (k m : Int) (hm : 0 < m) : atD ds k m < m := by
  unfold atD
  split
  · exact Int.emod_lt_of_pos _ hm
  · exact hm
theorem r_at {fa fb fc : FE} {ρ : Rho} {ds : List Int} {k m : Int} (h1 : fa ρ = some (.ok (.s (.list (ds.map .int))))) (h2 : fb ρ = some (.ok (.s (.int k)))) (h3 : fc ρ = some (.ok (.s (.int m)))) (hk : 0 ≤ k) (hm : 0 < m) :
    eCall d__law_at 3 (aCons fa (aCons fb (aCons fc (aNil)))) ρ = some (.ok (.s (.int (atD ds k m)))) := r_call (r_args h1 (r_args h2 (r_args h3 r_args0))) rfl rfl (law_at_ok ds k m hk hm)
theorem law_is_integer_ok (d : D) (n : excV d = false := by rfl) : d__law_is_integer [d] = some (.ret (.bool (match d with | .int _ => true | _ => false))) := by
  cases d with
  | dict ks =>
    have n' : excL ks = false := n
    simp [d__law_is_integer, b__law_is_integer, n']
  | _ => simp [d__law_is_integer, b__law_is_integer]
theorem int_call {fa : FE} {ρ : Rho} {i : Int} (q : fa ρ = some (.ok (.s (.int i)))) : tNotD (tV (eCall d__law_is_integer 1 (aCons fa (aNil)))) ρ = some (.ok false) :=
  r_not (x := true) (r_tV (r_call (r_args q r_args0) rfl rfl (law_is_integer_ok (.int i))) rfl)
theorem at_natF (ds : List Int) (k m : Int) (hm : 0 < m) : ∃ n : Nat, (n : Int) = atD ds k m ∧ (n : Int) < m :=
  ⟨(atD ds k m).toNat, Int.toNat_of_nonneg (atD_lo ds k m hm), by rw [Int.toNat_of_nonneg (atD_lo ds k m hm)]; exact atD_hi ds k m hm⟩
end FL
set_option Elab.async false
set_option linter.all false
/-! SN: step numbers, as numbers and lists. -/
namespace SN
/-- the number that the first k bytes tell, each with seven bits -/
def val (b : Nat → Nat) : Nat → Nat
  | 0 => 0
  | k + 1 => val b k + (b k % 128) * 128 ^ k
theorem val_shift (b : Nat → Nat) : ∀ k, val b (k + 1) = b 0 % 128 + 128 * val (fun j => b (j + 1)) k
  | 0 => by simp [val]
  | k + 1 => by
    have q := val_shift b k
    rw [val, q]
    show _ = b 0 % 128 + 128 * (val (fun j => b (j + 1)) k + (b (k + 1) % 128) * 128 ^ k)
    rw [Nat.mul_add, Nat.pow_succ, Nat.mul_left_comm 128, Nat.mul_comm (128 ^ k) 128, Nat.add_assoc]
theorem val_congr {b c : Nat → Nat} : ∀ {k}, (∀ j, j < k → b j = c j) → val b k = val c k
  | 0, _ => rfl
  | k + 1, h => by rw [val, val, val_congr (k := k) fun j hj => h j (by omega), h k (by omega)]
theorem val_lt (b : Nat → Nat) : ∀ k, val b k < 128 ^ k
  | 0 => by simp [val]
  | k + 1 => by
    have q := val_lt b k
    have h : b k % 128 ≤ 127 := by omega
    have h2 : (b k % 128) * 128 ^ k ≤ 127 * 128 ^ k := Nat.mul_le_mul_right _ h
    rw [val, Nat.pow_succ]
    omega
/-- the bytes of a number -/
def steps (n : Nat) : List Nat := if h : n < 128 then [n] else (n % 128 + 128) :: steps (n / 128)
termination_by n
decreasing_by omega
theorem steps_lt {n : Nat} (h : n < 128) : steps n = [n] := by
  rw [steps, dif_pos h]
theorem steps_ge {n : Nat} (h : 128 ≤ n) : steps n = (n % 128 + 128) :: steps (n / 128) := by
  rw [steps, dif_neg (by omega)]
theorem steps_ne (n : Nat) : steps n ≠ [] := by
  by_cases h : n < 128
  · rw [steps_lt h]; simp
  · rw [steps_ge (by omega)]; simp
/-- l ends a number: its bytes but the last have 128, the last has not -/
structure Ends (b : Nat → Nat) (p : Nat) : Prop where
  big : ∀ j, j < p → 128 ≤ b j
  small : b p < 128
structure Spec (n : Nat) (l : List Nat) (p : Nat) : Prop where
  len : l.length = p + 1
  ends : Ends (fun j => l.getD j 0) p
  val : val (fun j => l.getD j 0) (p + 1) = n
  tight : 0 < p → l.getD p 0 ≠ 0
  size : 0 < p → 128 ^ p ≤ n
  byte : ∀ x ∈ l, x < 256
theorem spec : ∀ (m n : Nat), n ≤ m → ∃ p, Spec n (steps n) p := by
  intro m
  induction m with
  | zero =>
    intro n hn
    have e : n = 0 := by omega
    subst e
    rw [steps_lt (by decide)]
    exact ⟨0, rfl, ⟨fun j hj => absurd hj (Nat.not_lt_zero _), by decide⟩, rfl, fun h => absurd h (by decide), fun h => absurd h (by decide), fun x hx => by rw [List.mem_singleton.mp hx]; decide⟩
  | succ m ih =>
    intro n hn
    by_cases h : n < 128
    · rw [steps_lt h]
      refine ⟨0, rfl, ⟨fun j hj => absurd hj (Nat.not_lt_zero _), h⟩, ?_, fun h => absurd h (by decide), fun h => absurd h (by decide), fun x hx => by rw [List.mem_singleton.mp hx]; omega⟩
      simp [val]
      omega
    · obtain ⟨p, q⟩ := ih (n / 128) (by omega)
      rw [steps_ge (by omega)]
      refine ⟨p + 1, by rw [List.length_cons, q.len], ⟨fun j hj => ?_, ?_⟩, ?_, fun _ => ?_, fun _ => ?_, fun x hx => ?_⟩
      · cases j with
        | zero => simp
        | succ j =>
          have := q.ends.big j (by omega)
          simpa using this
      · have := q.ends.small
        simpa using this
      · rw [val_shift]
        have e : (fun j => (((n % 128 + 128) :: steps (n / 128)).getD (j + 1) 0)) = fun j => (steps (n / 128)).getD j 0 := by
          funext j
          simp
        have e0 : ((n % 128 + 128) :: steps (n / 128)).getD 0 0 = n % 128 + 128 := by simp
        rw [e, q.val]
        rw [e0]
        omega
      · rcases Nat.eq_zero_or_pos p with hp | hp
        · subst hp
          have h1 := q.val
          simp [val] at h1
          have h2 := q.ends.small
          simp at h2
          simp
          omega
        · have := q.tight hp
          simpa using this
      · rcases Nat.eq_zero_or_pos p with hp | hp
        · subst hp
          simp
          omega
        · have := q.size hp
          rw [Nat.pow_succ]
          omega
      · rcases List.mem_cons.mp hx with hx | hx
        · omega
        · exact q.byte x hx
theorem spec' (n : Nat) : ∃ p, Spec n (steps n) p := spec n n (Nat.le_refl _)
theorem Spec.p_lt {n p : Nat} {l : List Nat} (s : Spec n l p) (h : n < 2 ^ 40) : p < 6 := by
  rcases Nat.lt_or_ge p 6 with h1 | h1
  · exact h1
  · have h2 := s.size (by omega)
    have h3 : 128 ^ 6 ≤ 128 ^ p := Nat.pow_le_pow_right (by decide) h1
    have h4 : (128 : Nat) ^ 6 = 4398046511104 := by decide
    have h5 : (2 : Nat) ^ 40 = 1099511627776 := by decide
    omega
/-- only one row of bytes tells a number so -/
theorem uniq : ∀ (p : Nat) (b : Nat → Nat), Ends b p → (∀ j, j ≤ p → b j < 256) → (0 < p → b p ≠ 0) → steps (val b (p + 1)) = (List.range (p + 1)).map b
  | 0, b, h, _, _ => by
    have h1 := h.small
    have e : val b (0 + 1) = b 0 := by
      simp [val]
      omega
    rw [e, steps_lt h1]
    rfl
  | p + 1, b, h, hb, ht => by
    have h0 := h.big 0 (by omega)
    have hb0 := hb 0 (by omega)
    have hnz : 0 < val (fun j => b (j + 1)) (p + 1) := by
      have : val (fun j => b (j + 1)) (p + 1) = val (fun j => b (j + 1)) p + (b (p + 1) % 128) * 128 ^ p := rfl
      have h2 := ht (by omega)
      have h3 := h.small
      have h4 : 1 ≤ b (p + 1) % 128 := by omega
      have h5 : 1 * 128 ^ p ≤ (b (p + 1) % 128) * 128 ^ p := Nat.mul_le_mul_right _ h4
      have h6 : 0 < 128 ^ p := Nat.pow_pos (by decide)
      omega
    have ih := uniq p (fun j => b (j + 1)) ⟨fun j hj => h.big (j + 1) (by omega), h.small⟩ (fun j hj => hb (j + 1) (by omega)) (fun _ => ht (by omega))
    rw [val_shift, steps_ge (by omega)]
    have e1 : (b 0 % 128 + 128 * val (fun j => b (j + 1)) (p + 1)) % 128 + 128 = b 0 := by omega
    have e2 : (b 0 % 128 + 128 * val (fun j => b (j + 1)) (p + 1)) / 128 = val (fun j => b (j + 1)) (p + 1) := by omega
    rw [e1, e2, ih, List.range_succ_eq_map (n := p + 1), List.map_cons, List.map_map]
    rfl
/-- what stands at a place -/
inductive At (b : Nat → Nat) (rest : Nat) : Prop
  | ends (p : Nat) : p < 6 → p < rest → Ends b p → At b rest
  | short : rest < 6 → (∀ j, j < rest → 128 ≤ b j) → At b rest
  | long : 6 ≤ rest → (∀ j, j < 6 → 128 ≤ b j) → At b rest
theorem at_cases (b : Nat → Nat) (rest : Nat) : At b rest := by
  have go : ∀ k, k ≤ 6 → k ≤ rest → (∀ j, j < k → 128 ≤ b j) ∨ At b rest := by
    intro k
    induction k with
    | zero => exact fun _ _ => .inl fun j hj => absurd hj (Nat.not_lt_zero _)
    | succ k ih =>
      intro h1 h2
      rcases ih (by omega) (by omega) with h | h
      · by_cases hk : b k < 128
        · exact .inr (.ends k (by omega) (by omega) ⟨h, hk⟩)
        · refine .inl fun j hj => ?_
          rcases Nat.lt_or_ge j k with h3 | h3
          · exact h j h3
          · have e : j = k := by omega
            subst e
            omega
      · exact .inr h
  by_cases hr : 6 ≤ rest
  · rcases go 6 (Nat.le_refl _) hr with h | h
    · exact .long hr h
    · exact h
  · rcases go rest (by omega) (Nat.le_refl _) with h | h
    · exact .short (by omega) h
    · exact h
theorem ends_uniq {b : Nat → Nat} {p q : Nat} (h : Ends b p) (h' : Ends b q) : p = q := by
  rcases Nat.lt_trichotomy p q with hl | hl | hl
  · have h1 := h'.big p hl
    have h2 := h.small
    omega
  · exact hl
  · have h1 := h.big q hl
    have h2 := h'.small
    omega
/-! ### digits -/
def dig (n : Nat) : List Nat := if h : n < 128 then [n] else (n % 128) :: dig (n / 128)
termination_by n
decreasing_by omega
theorem dig_lt {n : Nat} (h : n < 128) : dig n = [n] := by
  rw [dig, dif_pos h]
theorem dig_ge {n : Nat} (h : 128 ≤ n) : dig n = (n % 128) :: dig (n / 128) := by
  rw [dig, dif_neg (by omega)]
theorem dig_steps : ∀ (m n : Nat), n ≤ m → (dig n).dropLast.map (fun x => x + 128) ++ (dig n).drop ((dig n).length - 1) = steps n ∧ dig n ≠ [] := by
  intro m
  induction m with
  | zero =>
    intro n hn
    rw [dig_lt (by omega), steps_lt (by omega)]
    exact ⟨rfl, by simp⟩
  | succ m ih =>
    intro n hn
    by_cases h : n < 128
    · rw [dig_lt h, steps_lt h]
      exact ⟨rfl, by simp⟩
    · obtain ⟨q1, q2⟩ := ih (n / 128) (by omega)
      rw [dig_ge (by omega), steps_ge (by omega), ← q1]
      refine ⟨?_, by simp⟩
      cases hd : dig (n / 128) with
      | nil => exact absurd hd q2
      | cons y ys => simp
/-- the digits, one after another: k of them are in out, and m is left -/
structure Part (n k : Nat) (out : List Nat) (m : Nat) : Prop where
  le : m * 128 ^ k ≤ n
  now : (0 < k ∧ m = 0 ∧ out = dig n) ∨ ((k = 0 ∨ 0 < m) ∧ out ++ dig m = dig n)
theorem part0 (n : Nat) : Part n 0 [] n := ⟨by simp, .inr ⟨.inl rfl, rfl⟩⟩
theorem part_go {n k m : Nat} {out : List Nat} (h : Part n k out m) (hg : k = 0 ∨ 0 < m) : Part n (k + 1) (out ++ [m % 128]) (m / 128) := by
  have hle : m / 128 * 128 ^ (k + 1) ≤ n := by
    have h1 : m / 128 * 128 ≤ m := Nat.div_mul_le_self _ _
    have h2 : m / 128 * 128 * 128 ^ k ≤ m * 128 ^ k := Nat.mul_le_mul_right _ h1
    have h3 : m / 128 * 128 ^ (k + 1) = m / 128 * 128 * 128 ^ k := by
      rw [Nat.pow_succ, Nat.mul_assoc, Nat.mul_comm (128 ^ k)]
    have := h.le
    omega
  have e : out ++ dig m = dig n := by
    rcases h.now with ⟨h1, h2, h3⟩ | ⟨_, h2⟩
    · rcases hg with h4 | h4 <;> omega
    · exact h2
  refine ⟨hle, ?_⟩
  by_cases hm : m < 128
  · refine .inl ⟨by omega, by omega, ?_⟩
    rw [dig_lt hm] at e
    rw [← e]
    congr 2
    omega
  · refine .inr ⟨.inr (by omega), ?_⟩
    rw [dig_ge (by omega)] at e
    rw [← e]
    simp
theorem part_idle {n k m : Nat} {out : List Nat} (h : Part n k out m) (hg : ¬ (k = 0 ∨ 0 < m)) : Part n (k + 1) out m := by
  rcases h.now with ⟨h1, h2, h3⟩ | ⟨h1, _⟩
  · subst h2
    exact ⟨by simp, .inl ⟨by omega, rfl, h3⟩⟩
  · exact absurd h1 hg
theorem part_end {n m : Nat} {out : List Nat} (h : Part n 7 out m) (hn : n < 2 ^ 49) : out = dig n := by
  have h1 := h.le
  have h2 : (128 : Nat) ^ 7 = 2 ^ 49 := by decide
  rcases h.now with ⟨_, _, h3⟩ | ⟨h3, _⟩
  · exact h3
  · have : 1 * 128 ^ 7 ≤ m * 128 ^ 7 := Nat.mul_le_mul_right _ (by omega)
    omega
end SN
set_option Elab.async false
set_option linter.all false
set_option maxRecDepth 100000
set_option maxHeartbeats 4000000
/-! DL12: a clause of several classes. -/
namespace DL
open PySem PySem.Spec PyProof.Rows L2
section
variable {X : Cx} {W : WX} {Cl : Nat → Addr}
/-- a new object is no news to an error that was caught -/
theorem Caught.grow {pins : List (Addr × Obj)} {a : Addr} {B : Heap} {sI : Shared} {σ : St} {H : Hp} {cls : Value} {d : Option Addr} {s : Shared} {h2 : Heap} (c : Caught X pins a B sI σ H cls d s) (kp : ∀ b o, s.heap.get? b = some o → h2.get? b = some o) : Caught X pins a B sI σ H cls d { s with heap := h2 } := by
  obtain ⟨f1, f2, f3, oe, ws, T, oT, ts, he, hz, hd, h1, hn, hne, hT, hdT, h3⟩ := c.fly
  exact ⟨c.inv, c.ground, c.slots.trans (Heap.UpToSlots.of_keeps kp), ⟨fun b o q => kp b o (f1 b o q), f2, f3.of_keeps fun b o q _ => ⟨o, kp b o q, rfl⟩, oe, ws, T, oT, ts, kp _ _ he, hz, hd, h1, hn, hne, kp _ _ hT, hdT, h3⟩, c.free, c.os, c.bare⟩
/-- what a clause's expression tests -/
def Tests (X : Cx) (t : Expr) (test : Value → Bool → Prop) : Prop := ∀ (pins : List (Addr × Obj)) (a : Addr) (B : Heap) (sI : Shared) (σ : St) (H : Hp) (cls : Value) (d : Option Addr) (s : Shared) (b : Bool) (Q : Bool → Shared → Prop) (E : Value → Shared → Prop),
  X.env.frame = some X.env.locals → Caught X pins a B sI σ H cls d s → test cls b → (∀ h2, (∀ q o, s.heap.get? q = some o → h2.get? q = some o) → Q b { s with heap := h2 }) →
  wpAny (model X.prog X.w) (X.A.mark (some (.ref a))) (eval t X.env) (fun c s1 => wpAny (model X.prog X.w) (X.A.mark (some (.ref a))) (excMatches (.ref a) c) Q E s1) E s
theorem name_ok {pins pn : List (Addr × Obj)} {a : Addr} {σ : St} {H : Hp} {s : Shared} {x : Str} {c : Value} {p : Pos} {Q : Value → Shared → Prop} {E : Value → Shared → Prop} (S : Inv (X.suite a pn) pins σ H s) (hc : Names X x c) (q : Q c s) : wpAny (model X.prog X.w) (X.A.mark (some (.ref a))) (eval (.Name x p) X.env) Q E s := by
  obtain ⟨hg, hdbg, hm | ⟨hm, hv, hnn⟩⟩ := hc
  · exact ld_glob (X := X.suite a pn) S hg hm q hdbg
  · exact ld_blt (X := X.suite a pn) S hg hm hv q hnn hdbg
theorem tests_tup3 {x1 x2 x3 : Str} {c1 c2 c3 : Value} {p1 p2 p3 tpos : Pos} {kk : Nat} (n1 : Names X x1 c1) (n2 : Names X x2 c2) (n3 : Names X x3 c3) :
    Tests X (.Tuple [.Name x1 p1, .Name x2 p2, .Name x3 p3] kk tpos) (fun cls b => PySem.W.exmAny X.K cls [c1, c2, c3] = some b) := fun pins a B sI σ H cls d s b Q E hf ca hb q => by
  obtain ⟨ob, hob, hz, hdat, S⟩ := ca.suite hf
  have look : PySem.W.Looks (model X.prog X.w) s.heap (typeOf (.ref a)) cls := fun A Q E s' k q => wpAny_typeOf_ref (k _ _ hob) (by rw [hz.1]; exact q)
  refine wpAny_Tuple ?_
  refine wpAny_items_cons (name_ok S n1 ?_)
  refine wpAny_items_cons (name_ok S n2 ?_)
  refine wpAny_items_cons (name_ok S n3 ?_)
  refine wpAny_items_nil ⟨by size_fits, ?_⟩
  have kp : ∀ q o, s.heap.get? q = some o → (s.heap.push { cls := .type "tuple", data := .seq [c1, c2, c3].toArray }).get? q = some o := fun _ _ z => Heap.get?_push_of_some _ z
  exact (PySem.W.exm_tup3 (M := model X.prog X.w) ((ca.now.kIn).keeps kp) (look.keeps kp) (Heap.get?_push_size s.heap rfl) hb).here (q _ kp)
/-- a clause without a name -/
theorem clauses_gen {D : Ends} {t : Expr} {test : Value → Bool → Prop} {b0 : Stmt} {suite : List Stmt} {pos' : Pos} {hds : List ExceptHandler} {rest : WX} {ts : Addr → Value → Option Addr → TS} (ok : X.Ok) (hf : X.env.frame = some X.env.locals) (ht : Tests X t test)
    (hsu : ∀ (a : Addr) (oe : Obj) (cls : Value) (d : Option Addr) (pn : List (Addr × Obj)), Zc cls d oe → (∃ vs, oe.data = .fields vs) → PSs (X.suite a ((a, oe) :: pn)) (b0 :: suite) (ts a cls d)) (hr : Clauses X hds D rest) :
    Clauses X (.ExceptHandler (some t) none (b0 :: suite) pos' :: hds) D (wTest test ts D rest) := fun pins a B sI σ H cls d s ca ⟨b, hb, yes, no⟩ => by
  refine wpAny_handleBy_cons (codeAny_handlers_test (ht pins a B sI σ H cls d s b _ _ hf ca hb fun h2 kp => ?_)) (by intro q; cases q)
  have ca2 := ca.grow kp
  cases b with
  | false => exact hr pins a B sI σ H cls d _ ca2 (no rfl)
  | true =>
    refine codeAny_handlers_suite (HandSPX.lands_againZ ca2.fly fun h4 fl up => ?_)
    have ca4 := ca2.again fl up
    obtain ⟨ob4, _, hz4, hdat4, S4⟩ := ca4.suite hf
    refine wpAny_mono ((hsu a ob4 cls d (X.pn ++ pins) hz4 hdat4).run [] _ _ H _ S4 (yes rfl a ca.free)) (fun fl s6 r => ?_) (fun _ _ z => z.elim)
    cases fl with
    | next => obtain ⟨σ6, H6, S6, q6⟩ := r; exact ⟨σ6, H6, S6.unsuite ok, q6⟩
    | brk => obtain ⟨σ6, H6, S6, q6⟩ := r; exact ⟨σ6, H6, S6.unsuite ok, q6⟩
    | cont => obtain ⟨σ6, H6, S6, q6⟩ := r; exact ⟨σ6, H6, S6.unsuite ok, q6⟩
    | ret u => obtain ⟨v6, σ6, H6, S6, r6, q6⟩ := r; exact ⟨v6, σ6, H6, S6.unsuite ok, r6, q6⟩
theorem exm_any3 {K : PySem.W.Frag} {cls c1 c2 c3 : Value} {b1 b2 b3 : Bool} (h1 : PySem.W.exmOne K cls c1 = some b1) (h2 : PySem.W.exmOne K cls c2 = some b2) (h3 : PySem.W.exmOne K cls c3 = some b3) : PySem.W.exmAny K cls [c1, c2, c3] = some (b1 || (b2 || b3)) := by
  simp [PySem.W.exmAny, h1, h2, h3]
theorem dhs_tup3 {x1 x2 x3 : Str} {p1 p2 p3 tpos : Pos} {kk : Nat} {N : Nat → Prop} {C1 C2 C3 : Value} {b0 : Stmt} {suite : List Stmt} {pos' : Pos} {hds : List ExceptHandler} {rest : HF} {m : Nat → Option Bool} {g : FS} (hf : X.env.frame = some X.env.locals) (n1 : Names X x1 C1) (n2 : Names X x2 C2) (n3 : Names X x3 C3)
    (hm : ∀ c b, m c = some b → N c ∧ PySem.W.exmAny X.K (.ref (Cl c)) [C1, C2, C3] = some b)
    (hsu : ∀ (a : Addr) (oe : Obj) (pn : List (Addr × Obj)), DSs (X.suite a ((a, oe) :: pn)) Cl W0 (b0 :: suite) g) (hr : DHs X Cl W hds rest) :
    DHs X Cl W (.ExceptHandler (some (.Tuple [.Name x1 p1, .Name x2 p2, .Name x3 p3] kk tpos)) none (b0 :: suite) pos' :: hds) (hOne m g rest) := by
  obtain ⟨wr, h1, h2⟩ := hr
  refine ⟨_, fun D ok => clauses_gen (ts := fun _ _ _ => tsOf X.K Cl W0 g) ok hf (tests_tup3 n1 n2 n3) (fun a oe cls d pn hz hdat => ⟨fun pins s σ H D I q => (hsu a oe pn).run pins s σ H D I q⟩) (h1 D ok), fun D H0 Z o c i ρ σ H dd e I hd q => ?_⟩
  unfold hOne at e
  cases e1 : m c with
  | none => rw [e1] at e; cases e
  | some b =>
    rw [e1] at e
    obtain ⟨hlt, hb⟩ := hm c b e1
    refine ⟨b, hb, fun hb1 a na => ?_, fun hb0 => ?_⟩
    · subst hb1
      dsimp only at e
      cases e2 : g ρ with
      | none => rw [e2] at e; cases e
      | some o2 =>
        rw [e2] at e
        refine ⟨H0, Z, _, o2, I, e2, ?_⟩
        cases o2 with
        | nx ρ2 => cases e; exact q
        | brk ρ2 => cases e; exact q
        | ct ρ2 => cases e; exact q
        | ret d => cases e; exact q
        | retF ds => cases e; exact q
        | retX ds k => cases e; exact q
        | exc _ _ _ => cases e
    · subst hb0
      exact h2 D H0 Z o c i ρ σ H dd e I hd q
end
end DL
set_option Elab.async false
set_option linter.all false
set_option maxRecDepth 100000
set_option maxHeartbeats 4000000
/-! DL13: enumerate over a tuple. -/
namespace DL
open PySem PySem.Spec PyProof.Rows L2
/-- the making, told by what the iterator is -/
theorem meets_enum1 {v : Value} {o : Obj} {H : Heap → Prop} (B : Begins v o H) :
    Meets (Builtin.«enumerate.__new__» ⟨[.type "enumerate", v], []⟩) (fun _ R s => H s.heap ∧
      R (.ok (.ret (.ref (s.heap.push o).objs.size))) { s with heap := (s.heap.push o).push { cls := .type "enumerate", data := .fields #[.none, .bool false, .ref s.heap.objs.size, rawInt 0, .none, .none] } }) :=
  .of_wp fun prog w A R s h => by
    obtain ⟨hp, g, d, tk, os⟩ := s; obtain ⟨h1, h⟩ := h
    have hsub := sub_enumerate
    have q1 : ∀ {A' : Around} {E : Value → Shared → Prop} {Q : Value → Shared → Prop}, Q (.ref hp.objs.size) ⟨hp.push o, g, d, tk, os⟩ → wpAny (model prog w) A' (pyIter v) Q E ⟨hp, g, d, tk, os⟩ :=
      fun q => B.iter prog w _ _ ⟨hp, g, d, tk, os⟩ _ h1 q
    wp_walk using q1
    refine wpAny_stack_any fun st => wpAny_pure ?_
    split
    · rename_i c _ _ _ _ _
      cases (c == Value.type "enumerate")
      · wp_walk using q1
        exact ⟨_, rfl, h⟩
      · wp_walk using q1
        exact ⟨_, rfl, h⟩
    · wp_walk using q1
      exact ⟨_, rfl, h⟩
theorem enum_begins1 {prog : Program} {w : World} {A : Around} {E : Value → Shared → Prop} {s : Shared} {v : Value} {o : Obj} {H : Heap → Prop} {Q : Value → Shared → Prop} (B : Begins v o H) (h1 : H s.heap)
    (h : ∀ h', IsEnum h' (s.heap.objs.size + 1) s.heap.objs.size 0 .none → h'.get? s.heap.objs.size = some o → h'.objs.size = s.heap.objs.size + 2 →
      (∀ b o, s.heap.get? b = some o → h'.get? b = some o) → Q (.ref (s.heap.objs.size + 1)) { s with heap := h' }) :
    wpAny (model prog w) A (call (.type "enumerate") [v]) Q E s := by
  refine callType_new F.called_enumerate (by decide) (F.typeCall_enumerate_1 _) (F.newCall_enumerate_1 _) (fun obj => F.args_object_init_2 obj _) F.entry_enumerate_new
    (meets_enum1 B) ⟨h1, ?_⟩
  have hz : (s.heap.push o).objs.size = s.heap.objs.size + 1 := Heap.size_push ..
  show _ ∧ _
  rw [hz]
  have he : IsEnum ((s.heap.push o).push { cls := .type "enumerate", data := .fields #[.none, .bool false, .ref s.heap.objs.size, rawInt 0, .none, .none] }) (s.heap.objs.size + 1) s.heap.objs.size 0 .none := by
    have q := Heap.get?_push_size (s.heap.push o) (o := { cls := .type "enumerate", data := .fields #[.none, .bool false, .ref s.heap.objs.size, rawInt 0, .none, .none] }) rfl
    rw [hz] at q; exact q
  refine ⟨⟨_, he, rfl⟩, h _ he (Heap.get?_push_of_some _ (Heap.get?_push_size _ B.free)) (by rw [Heap.size_push, hz]) fun b o x => Heap.get?_push_of_some _ (Heap.get?_push_of_some _ x)⟩
/-- the tuple at a, each item in a new pair -/
def Itet (K : PySem.W.Frag) (a : Addr) : It :=
  ⟨fun i H => ∃ (xs : List V) (x : V), SqT K H a xs ∧ xs[i]? = some x, fun i H v H' => ∃ T x, v = .ref T ∧ H T = none ∧ H' = upd H T (.tup [.int (i : Nat), x]) ∧ ∀ xs, SqT K H a xs → xs[i]? = some x, fun i H => ∃ xs : List V, SqT K H a xs ∧ xs.length ≤ i⟩
theorem turn_enumT {P : Program} {w : World} {K : PySem.W.Frag} {elts : List Expr} {kk : Nat} {tpos : Pos} (a e it : Addr) :
    Turn P w K (.Tuple elts kk tpos) (Itet K a) [e, it] e (fun i h => (∃ old, IsEnum h e it ((i : Nat) : Int) old) ∧ h.IsTupleIter it a i ∧ e ≠ it) where
  mem := by simp
  obj := fun i h st b hb => by
    obtain ⟨⟨old, he⟩, ⟨o, ho, hc, hd⟩, _⟩ := st
    have e' : b = e ∨ b = it := by simpa using hb
    rcases e' with z | z
    · rw [z]; exact ⟨_, he, fun v q => nomatch q⟩
    · rw [z]; exact ⟨o, ho, fun v q => by rw [hd] at q; cases q⟩
  keep := fun i h h' st k => let ⟨⟨old, he⟩, hi, hne⟩ := st; ⟨⟨old, k e (by simp) _ he⟩, hi.at fun o q => k it (by simp) o q, hne⟩
  item := by
    intro X hP hw hK hc i pins s σ H E I hf st hg
    subst hP hw hK
    obtain ⟨⟨old, he⟩, hit, hne⟩ := st
    obtain ⟨xs, x, hq, hx⟩ := hg
    obtain ⟨its, rv, p, hz⟩ := I.tuple hq
    obtain ⟨u, hu, ru⟩ := rv.get hx
    have hel : e < s.heap.objs.size := Heap.lt_size he
    have hil : it < s.heap.objs.size := by obtain ⟨_, q, _⟩ := hit; exact Heap.lt_size q
    have hai : a ≠ it := fun z => by
      obtain ⟨o1, q1, c1, _⟩ := p
      obtain ⟨o2, q2, c2, _⟩ := hit
      rw [z, q2] at q1
      cases q1
      rw [c1] at c2
      exact absurd c2 (by decide)
    have hae : e ≠ a := fun z => by
      obtain ⟨o1, q1, c1, _⟩ := p
      have q2 := he
      rw [z] at q2
      rw [show s.heap.get? a = _ from q2] at q1
      cases q1
      injection c1 with c1
      exact absurd c1 (by decide)
    have ilt : i < its.toArray.size := by
      have := (List.getElem?_eq_some_iff.mp hu).1
      simpa using this
    refine wpAny_pyNext_enum_itemD (Draws.tuple (A := X.A.in1) (I.ok.hd hc) it a hai its.toArray) he ⟨hit, p⟩ ilt hne (by simp [hne, hae]) fun x' h' tk hP ho hst' hT hsz hk => ?_
    obtain rfl : x' = u := by
      have q : its[i]? = some x' := by simpa using hP
      rw [hu] at q
      cases q
      rfl
    refine ⟨_, rfl, wpAny_letOwnedTupleGo_enum (s := { s with heap := h', toks := tk + 1 }) ho fun h'' he' sb => ?_⟩
    have hT2 : h''.get? s.heap.objs.size = some { cls := .type "tuple", data := .seq #[.int i tk, x'] } := (sb.2 _ (Nat.ne_of_gt hel)).trans hT
    have new : ObjOk X.prog X.w (upd H s.heap.objs.size (.tup [.int (i : Nat), x])) h'' s.heap.objs.size (.tup [.int (i : Nat), x]) :=
      ⟨by show 2 ≤ sizeLine; decide, [.int i tk, x'], .cons ⟨_, rfl⟩ (.cons ru .nil), ⟨_, hT2, rfl, _, rfl⟩⟩
    have I1 : Inv X pins σ (upd H s.heap.objs.size (.tup [.int (i : Nat), x])) { s with heap := h'', toks := tk + 1 } :=
      I.turnedNew (ch := [e, it]) (fun b ob hb q => (sb.2 b (fun z => hb (by simp [z]))).trans (hk b ob (fun z => hb (by simp [z])) (fun z => hb (by simp [z])) q)) hf (Nat.le_refl _) new
    refine ⟨.ref s.heap.objs.size, _, I1, rfl, ⟨_, x, rfl, I.hok.fresh (Nat.le_refl _), rfl, fun ys hy => by rw [I.tuple_inj hy hq]; exact hx⟩, ⟨⟨x', ?_⟩, hst'.1.at fun o q => (sb.2 it (Ne.symm hne)).trans q, hne⟩, fun b hb => ?_⟩
    · have e1 : ((i + 1 : Nat) : Int) = (i : Int) + 1 := by omega
      rw [e1]; exact he'
    · have hb' : b < s.heap.objs.size := by
        have e' : b = e ∨ b = it := by simpa using hb
        rcases e' with z | z
        · rw [z]; exact hel
        · rw [z]; exact hil
      rw [upd_ne (Nat.ne_of_lt hb')]
      exact (hf b hb).1
  done := by
    intro X hP hw hK hc i pins s σ H E I hf st hg
    subst hP hw hK
    obtain ⟨⟨old, he⟩, hit, hne⟩ := st
    obtain ⟨xs, hq, hx⟩ := hg
    obtain ⟨its, rv, p, hz⟩ := I.tuple hq
    obtain ⟨f0, f1, f2, f3, f4, f5⟩ := hf it (by simp)
    have hl := rv.length
    have hT : s.TypeIs (.ref e) "enumerate" := ⟨_, he, rfl⟩
    unfold pyNext
    refine wpAny_bind (wpAny_attempt (wpAny_callSpecial?_slot (name := Str.ofString "__next__") hT F.slot_enumerate_next
      (wpAny_call_entry F.slot_enumerate_next hT F.entry_enumerate_next ?_ (F.args_enumerate_next_1 _))))
    show wpAny _ _ (field (.ref e) 2 >>= _) _ _ _
    refine wpAny_bind (wpAny_field he rfl (x := .ref it) rfl ?_)
    refine wpAny_bind (wpAny_nextOf_tuple_end (A := X.A.in1) (I.ok.hd hc) hit p (by simp; omega) fun h' x he' hx' => ?_)
    obtain ⟨o, ho, hc⟩ := hx'
    refine wpAny_bind (wpAny_isInstance (T := "StopIteration") (b := true) ⟨o, ho, hc⟩ isSubtype_stop ?_)
    exact wpAny_pure ⟨rfl, I.turned (t' := s.toks) (fun b o hb q => he' b o hb q) f0 f1 f3 f4 f5⟩
  self := fun A i s Q E st h => let ⟨⟨_, he⟩, _⟩ := st; wpAny_pyIter_enum he h
def iEnumT (K : PySem.W.Frag) (ta : TA) : TI := fun σ H R => ta σ H fun vs H1 => ∃ a xs, vs = [.ref a] ∧ SqT K H1 a xs ∧ R (Itet K a) H1
theorem pi_enumT {X : Cx} {e : Expr} {ta : TA} {p pos tpos : Pos} {elts : List Expr} {kk : Nat} (hg : Gl X "enumerate") (hm : X.mg "enumerate" = none) (ha : PA X [e] ta) (hs : starEach [e] X.env = [(false, eval e X.env)] := by rfl) :
    PI X (.Tuple elts kk tpos) (.Call (.Name "enumerate" p) [e] [] pos) (iEnumT X.K ta) := by
  refine ⟨fun pins s σ H R I h => ?_⟩
  refine Call_ (ld_blt I hg hm boot_enumerate (PyProof.Rows.callWith_type1 (thn (ha.run pos pins s σ H _ I h) fun us s1 ⟨vs, H1, I1, r1, q1⟩ => ?_) hs rfl))
  obtain ⟨a, xs, ex, hq, q⟩ := q1
  subst ex
  cases r1 with
  | cons r rr =>
    cases rr
    cases r
    obtain ⟨its, rv, p', hz⟩ := I1.tuple hq
    refine enum_begins1 (begins_tuple a its.toArray) p' fun h' he hit hsz hk => wpAny_pyIter_enum he ?_
    have I2 : Inv X pins σ H1 { s1 with heap := h' } := I1.kept (t' := s1.toks) hk
    refine ⟨s1.heap.objs.size + 1, [s1.heap.objs.size + 1, s1.heap.objs.size], _, _, H1, rfl, I2, turn_enumT a (s1.heap.objs.size + 1) s1.heap.objs.size, ⟨⟨.none, he⟩, ⟨_, hit, rfl, rfl⟩, Nat.succ_ne_self _⟩, fun b hb => ?_, q⟩
    have e' : b = s1.heap.objs.size + 1 ∨ b = s1.heap.objs.size := by simpa using hb
    have hle : s1.heap.objs.size ≤ b := by
      rcases e' with z | z
      · rw [z]; exact Nat.le_add_right _ _
      · rw [z]; exact Nat.le_refl _
    exact I1.fpOk hle (I1.hok.fresh hle)
theorem it_enumT {K : PySem.W.Frag} {Hs : Hp} {a : Addr} {xs : List V} {ds : List D} (h1 : SqT K Hs a xs) (h2 : DpAll K Hs xs ds) : ItOk K Hs (Itet K a) (enumD ds) := fun Z' H' s live => by
  have q : SqT K H' a xs := SqT.same (s.trans hide_sub) h1
  have hl : (enumD ds).length = xs.length := by
    unfold enumD
    rw [List.length_map, List.length_zipIdx, h2.length]
  refine ⟨fun i hi => ⟨xs, xs[i]'(by rw [← hl]; exact hi), q, List.getElem?_eq_getElem _⟩, fun i hi => ⟨xs, q, by rw [← hl]; exact hi⟩, fun i x H'' d y hd => ?_⟩
  obtain ⟨T, z, rfl, nT, rfl, y⟩ := y
  have e3 := y xs q
  obtain ⟨d', e1, e2⟩ := h2.get' e3
  unfold enumD at hd
  rw [List.getElem?_map, List.getElem?_zipIdx, e1] at hd
  cases hd
  have nz : ¬ Z' T := fun z => live T z nT
  refine ⟨same_upd nT, .tup (SqT.of (hide_at nz upd_same)) (.cons ?_ (.cons ?_ .nil))⟩
  · rw [Nat.zero_add]
    exact .int _
  · exact Dp.same (s.trans (hide_mono (same_upd nT) fun _ h => .inl h)) e2
section
variable {X : Cx} {Cl : Nat → Addr} {W : WX} {e : Expr} {p pos : Pos} {g : FA}
@[simp] def iEnumX (g : FA) (ρ : Rho) : Option (Except Er (List D)) := match g ρ with
  | none => none
  | some (.error e) => some (.error e)
  | some (.ok vs) => match vs with
    | [.s (.list ds)] => some (.ok (enumD ds))
    | [.f ds] => some (.ok (enumD ds))
    | [.s (.tuple ds)] => some (.ok (enumD ds))
    | _ => none
theorem di_enumX {elts : List Expr} {kk : Nat} {tpos : Pos} (hm : X.mg "enumerate" = none) (ha : DA X Cl W [e] g) (hg : Gl X "enumerate" := by rfl) (hs : starEach [e] X.env = [(false, eval e X.env)] := by rfl) :
    DIt X Cl W (.Tuple elts kk tpos) (.Call (.Name "enumerate" p) [e] [] pos) (iEnumX g) :=
  PI.imp (DL.PI.or (pi_enum hg hm ha hs) (pi_enumT hg hm ha hs)) fun σ H R ⟨Z, ρ, r, I, e, q⟩ => by
    unfold iEnumX at e
    cases e1 : g ρ with
    | none => rw [e1] at e; cases e
    | some r1 =>
      rw [e1] at e
      cases r1 with
      | error er =>
        cases e
        exact .inl (ta_step I e1 (fun er z => by cases z; exact q) fun vs xs H1 ev s1 hvs I1 => by cases ev)
      | ok vs0 =>
        dsimp only at e
        split at e
        · rename_i ds
          cases e
          refine .inl (ta_step I e1 (fun er z => by cases z) fun vs xs H1 ev s1 hvs I1 => ?_)
          cases ev
          obtain ⟨x, rfl, h⟩ := hvs.one
          obtain ⟨a, ys, rfl, h1, h2⟩ := Dp.lst_inv (show Dp X.K (hide H1 (Zo Z σ ρ)) x (.list ds) from h)
          exact ⟨a, ys, rfl, .inl (Rd.same hide_sub h1), q _ H1 s1 (it_enum h1 h2)⟩
        · rename_i ds
          cases e
          refine .inl (ta_step I e1 (fun er z => by cases z) fun vs xs H1 ev s1 hvs I1 => ?_)
          cases ev
          obtain ⟨x, rfl, h⟩ := hvs.one
          obtain ⟨a, ys, rfl, n, h1, h2⟩ := h
          have np : ¬ Zo Z σ ρ a := fun z => I.liveZ z n
          exact ⟨a, ys, rfl, SqL.of h1, q _ H1 s1 (it_enum (Rd.of (hide_at np h1)) (DpAll.same (hide_mono (Same.refl _) fun _ h => .inl (.inl h)) h2))⟩
        · rename_i ds
          cases e
          refine .inr (ta_step I e1 (fun er z => by cases z) fun vs xs H1 ev s1 hvs I1 => ?_)
          cases ev
          obtain ⟨x, rfl, h⟩ := hvs.one
          obtain ⟨a, ys, rfl, h1, h2⟩ := Dp.tup_inv (show Dp X.K (hide H1 (Zo Z σ ρ)) x (.tuple ds) from h)
          exact ⟨a, ys, rfl, SqT.same hide_sub h1, q _ H1 s1 (it_enumT h1 h2)⟩
        · cases e
end
end DL
set_option Elab.async false
set_option linter.all false
set_option maxRecDepth 100000
set_option maxHeartbeats 1000000
/-! DM5: slices, or, early ends of loops. -/
namespace DL
open PySem PySem.Spec PyProof.Rows L2
section
variable {f g : FS} {ρ ρ1 : Rho} {o : Option Out} {n k : Nat} {ds : List D} {d : D} {E F fa fb fc : FE} {t u : FT} {i : Nat} {v a b : Val} {c : Nat} {j : Int}
theorem r_orV_t (q1 : fa ρ = some (.ok (.s (.bool true)))) : eOrV fa fb ρ = some (.ok (.s (.bool true))) := by
  rw [eOrV_ap]
  unfold bE
  rw [q1]
  rfl
theorem r_orV_f (q1 : fa ρ = some (.ok (.s (.bool false)))) (q2 : fb ρ = some (.ok v)) : eOrV fa fb ρ = some (.ok v) := by
  rw [eOrV_ap]
  unfold bE
  rw [q1]
  exact q2
theorem r_eqI_is {i j : Int} (ha : fa ρ = some (.ok (.s (.int i)))) (hb : fb ρ = some (.ok (.s (.int j)))) : tV (e2 gEq fa fb) ρ = some (.ok (decide (i = j))) := by
  by_cases h : i = j
  · rw [r_eqI_t ha hb h, decide_eq_true h]
  · rw [r_eqI_f ha hb h, decide_eq_false h]
theorem r_addN {i j : Nat} (ha : fa ρ = some (.ok (.s (.int (i : Int))))) (hb : fb ρ = some (.ok (.s (.int (j : Int))))) : e2 gAdd fa fb ρ = some (.ok (.s (.int ((i + j : Nat) : Int)))) := by
  rw [Int.natCast_add]
  exact r_addI ha hb
theorem r_andI {i j : Int} (ha : fa ρ = some (.ok (.s (.int i)))) (hb : fb ρ = some (.ok (.s (.int j)))) : e2 gAnd fa fb ρ = some (.ok (.s (.int (Builtin.bitAnd i j)))) := r_e2 ha hb rfl
theorem r_ixF {es : List D} {j : Int} (ha : fa ρ = some (.ok (.f es))) (hb : fb ρ = some (.ok (.s (.int j)))) (h : atI es j = some d) (hs : scalarD d = true) : e2 gIx fa fb ρ = some (.ok (.s d)) := r_e2 ha hb (by
  show (atI es j).map Val.s = _
  rw [h]
  rfl)
theorem r_ixT {es : List D} {j : Int} (ha : fa ρ = some (.ok (.s (.tuple es)))) (hb : fb ρ = some (.ok (.s (.int j)))) (h : atI es j = some d) : e2 gIx fa fb ρ = some (.ok (.s d)) := r_e2 ha hb (by
  show (atI es j).map Val.s = _
  rw [h]
  rfl)
theorem r_listOf {es : List D} (q : E ρ = some (.ok v)) (h : v.seq = some es) : eG bList (aCons E (aNil)) ρ = some (.ok (.f es)) := r_eG (r_args q r_args0) (by
  show v.seq.map Val.f = _
  rw [h]
  rfl)
/-- the place of the first 0 -/
theorem r_idx {r : List Nat} {m : Nat} (hj : idxD (.int 0) (jd r) = some m) (ha : fa ρ = some (.ok (.s (.list (jd r))))) (hb : fb ρ = some (.ok (.s (.int 0)))) : eLM gIndex fa fb ρ = some (.ok (.s (.int (m : Int)))) := by
  rw [eLM_ap]
  unfold bE
  rw [ha]
  show bE fb (fun b _ => (gIndex (.s (.list (jd r))) b).map .ok) ρ = _
  unfold bE
  rw [hb]
  show (gIndex (.s (.list (jd r))) (.s (.int 0))).map Except.ok = _
  unfold gIndex
  show ((if (scalarD (.int 0) && (jd r).all scalarD) = true then (idxD (.int 0) (jd r)).map fun j => Val.s (.int (j : Int)) else none)).map Except.ok = _
  rw [if_pos (by rw [jd_scalar]; rfl), hj]
  rfl
end
theorem cutL_to {α : Type} (xs : List α) (i : Nat) : cutL xs none (some (i : Int)) = xs.take i := by
  unfold cutL
  rw [HT.sIx_none, HT.sIx_nat, List.drop_zero, Nat.sub_zero]
  by_cases h : i ≤ xs.length
  · rw [Nat.min_eq_left h]
  · rw [Nat.min_eq_right (by omega), List.take_length, List.take_of_length_le (by omega)]
theorem cutL_from {α : Type} (xs : List α) (i : Nat) : cutL xs (some (i : Int)) none = xs.drop i := by
  unfold cutL
  rw [HT.sIx_none, HT.sIx_nat]
  by_cases h : i ≤ xs.length
  · rw [Nat.min_eq_left h, List.take_of_length_le (by rw [List.length_drop]; omega)]
  · rw [Nat.min_eq_right (by omega), List.drop_length, List.drop_of_length_le (by omega), List.take_nil]
theorem cutL_last {α : Type} (xs : List α) : cutL xs none (some (-1)) = xs.dropLast := by
  unfold cutL
  rw [HT.sIx_none, List.drop_zero, Nat.sub_zero, List.dropLast_eq_take]
  congr 1
  show (if (-1 : Int) < 0 then ((-1 : Int) + (xs.length : Int)).toNat else min (-1 : Int).toNat xs.length) = _
  rw [if_pos (by decide)]
  omega
theorem cutL_tail {α : Type} (xs : List α) : cutL xs (some (-1)) none = xs.drop (xs.length - 1) := by
  unfold cutL
  rw [HT.sIx_none]
  have e : HT.sIx xs.length 0 (some (-1)) = xs.length - 1 := by
    show (if (-1 : Int) < 0 then ((-1 : Int) + (xs.length : Int)).toNat else min (-1 : Int).toNat xs.length) = _
    rw [if_pos (by decide)]
    omega
  rw [e, List.take_of_length_le (by rw [List.length_drop]; omega)]
theorem jd_take (r : List Nat) (n : Nat) : (jd r).take n = jd (r.take n) := by
  unfold jd
  rw [List.map_take]
theorem jd_drop (r : List Nat) (n : Nat) : (jd r).drop n = jd (r.drop n) := by
  unfold jd
  rw [List.map_drop]
theorem jd_dropLast (r : List Nat) : (jd r).dropLast = jd r.dropLast := by
  unfold jd
  rw [List.map_dropLast]
theorem jd_one (n : Nat) : [PyData.int (n : Int)] = jd [n] := rfl
section
variable {ρ ρ1 : Rho} {E F : FE} {v : Val} {r : List Nat} {i j : Nat}
/-- slices of bytes -/
theorem r_slTo (q : E ρ = some (.ok v)) (hv : v = .s (.list (jd r)) ∨ v = .b (jd r) ∨ v = .f (jd r)) (q2 : F ρ = some (.ok (.s (.int (i : Int))))) : eSl E oNone (oSome F) ρ = some (.ok (.f (jd (r.take i)))) := by
  rw [r_sl q hv rfl (r_oS q2), cutL_to, jd_take]
theorem r_slFrom (q : E ρ = some (.ok v)) (hv : v = .s (.list (jd r)) ∨ v = .b (jd r) ∨ v = .f (jd r)) (q2 : F ρ = some (.ok (.s (.int (i : Int))))) : eSl E (oSome F) oNone ρ = some (.ok (.f (jd (r.drop i)))) := by
  rw [r_sl q hv (r_oS q2) rfl, cutL_from, jd_drop]
theorem r_slMid {G : FE} (q : E ρ = some (.ok v)) (hv : v = .s (.list (jd r)) ∨ v = .b (jd r) ∨ v = .f (jd r)) (q1 : F ρ = some (.ok (.s (.int (i : Int))))) (q2 : G ρ = some (.ok (.s (.int (j : Int))))) (hij : i ≤ j) (hj : j ≤ r.length) : eSl E (oSome F) (oSome G) ρ = some (.ok (.f (jd ((r.drop i).take (j - i))))) := by
  rw [r_sl q hv (r_oS q1) (r_oS q2), cutL_nat _ _ _ (by rw [jd_len]; exact hj) hij, jd_drop, jd_take]
theorem r_catJ {fa fb : FE} {a b : Val} {x y : List Nat} (ha : fa ρ = some (.ok a)) (hb : fb ρ = some (.ok b)) (h1 : a.items = some (jd x)) (h2 : b.items = some (jd y)) (hn : gAddI a b = none) (hl : x.length + y.length ≤ 10000000) : e2 gAdd fa fb ρ = some (.ok (.f (jd (x ++ y)))) := by
  rw [r_cat ha hb h1 h2 hn (by rw [jd_len, jd_len]; omega), jd_app]
end
theorem idxD_jd0 (r : List Nat) (h : r.contains 0 = true) : ∃ j : Nat, idxD (.int 0) (jd r) = some j ∧ j < r.length := by
  have e : (idxD (.int 0) (jd r)).isSome = true := by
    unfold idxD
    rw [List.findIdx?_isSome, List.any_eq_true]
    rw [List.contains_iff_mem] at h
    refine ⟨.int 0, ?_, rfl⟩
    exact List.mem_map.mpr ⟨0, h, rfl⟩
  obtain ⟨j, hj⟩ := Option.isSome_iff_exists.mp e
  refine ⟨j, hj, ?_⟩
  have q := (List.findIdx?_eq_some_iff_getElem.mp hj).1
  rw [jd_len] at q
  exact q
end DL
set_option Elab.async false
set_option linter.all false
set_option maxRecDepth 100000
set_option maxHeartbeats 1000000
/-! DM6: natural numbers, loops that stop at a turn. -/
namespace DL
open PySem PySem.Spec PyProof.Rows L2
/-- a loop that ends at turn m: by a return, or by an error -/
theorem forL_stop {g : FG} {body : FS} {o : Out} (Inv : Nat → Rho → Prop) {ds : List D} {ρ : Rho} {m : Nat} (hm : m < ds.length) (h0 : Inv 0 ρ)
    (h : ∀ i d ρ, i < m → ds[i]? = some d → Inv i ρ → ∃ ρ1 ρ2, g d ρ = some ρ1 ∧ body ρ1 = some (.nx ρ2) ∧ Inv (i + 1) ρ2)
    (hr : ∀ d ρ, ds[m]? = some d → Inv m ρ → ∃ ρ1, g d ρ = some ρ1 ∧ body ρ1 = some o) (ho : (∃ d, o = .ret d) ∨ (∃ x, o = .retF x) ∨ ∃ ρ' c j, o = .exc ρ' c j) : forL g body ds ρ = some o := by
  have go : ∀ (k n : Nat) (ρ : Rho), m - n = k → n ≤ m → Inv n ρ → forL g body (ds.drop n) ρ = some o := by
    intro k
    induction k with
    | zero =>
      intro n ρ hk hn hI
      have e : n = m := by omega
      subst e
      obtain ⟨ρ1, h1, h2⟩ := hr ds[n] ρ (List.getElem?_eq_getElem hm) hI
      rw [List.drop_eq_getElem_cons hm]
      unfold forL
      rw [h1]
      dsimp only
      rw [h2]
      rcases ho with ⟨d, rfl⟩ | ⟨x, rfl⟩ | ⟨ρ', c, j, rfl⟩ <;> rfl
    | succ k ih =>
      intro n ρ hk hn hI
      have hlt : n < ds.length := by omega
      obtain ⟨ρ1, ρ2, h1, h2, h3⟩ := h n ds[n] ρ (by omega) (List.getElem?_eq_getElem hlt) hI
      rw [List.drop_eq_getElem_cons hlt]
      unfold forL
      rw [h1]
      dsimp only
      rw [h2]
      exact ih (n + 1) ρ2 (by omega) (by omega) h3
  have q := go _ 0 ρ rfl (Nat.zero_le _) h0
  rw [List.drop_zero] at q
  exact q
theorem rangeD_length (lo : Int) (n : Nat) : (rangeD lo n).length = n := by simp [rangeD]
theorem rangeD_at {lo n : Nat} {i : Nat} {d : D} (h : (rangeD (lo : Int) n)[i]? = some d) : i < n ∧ d = .int ((lo + i : Nat) : Int) := by
  have hi : i < n := by
    have := (List.getElem?_eq_some_iff.mp h).1
    rw [rangeD_length] at this
    exact this
  refine ⟨hi, ?_⟩
  rw [rangeD_eq, List.getElem?_map, List.getElem?_range hi] at h
  cases h
  rfl
theorem rangeD0_at {n : Nat} {i : Nat} {d : D} (h : (rangeD 0 n)[i]? = some d) : i < n ∧ d = .int (i : Int) := by
  have q := rangeD_at (lo := 0) h
  rw [Nat.zero_add] at q
  exact q
theorem atI_jdD {r : List Nat} {i : Nat} (h : i < r.length) : atI (jd r) (i : Int) = some (.int (r.getD i 0 : Nat)) := by
  rw [atI_jd h]
  congr 3
  rw [List.getD_eq_getElem?_getD, List.getElem?_eq_getElem h]
  rfl
section
variable {f g : FS} {ρ ρ1 : Rho} {o : Option Out} {n k : Nat} {ds : List D} {d : D} {E F fa fb fc : FE} {t u : FT} {i j : Nat} {v a b : Val} {c : Nat}
theorem r_subN (ha : fa ρ = some (.ok (.s (.int (i : Int))))) (hb : fb ρ = some (.ok (.s (.int (j : Int))))) (h : j ≤ i) : e2 gSub fa fb ρ = some (.ok (.s (.int ((i - j : Nat) : Int)))) := by
  rw [Int.natCast_sub h]
  exact r_subI ha hb
theorem r_mulN (ha : fa ρ = some (.ok (.s (.int (i : Int))))) (hb : fb ρ = some (.ok (.s (.int (j : Int))))) (h : i < 1000000000 ∨ j < 1000000000) : e2 gMul fa fb ρ = some (.ok (.s (.int ((i * j : Nat) : Int)))) := by
  rw [Int.natCast_mul]
  refine r_mulI ha hb ?_
  rcases h with h | h
  · exact cMul_l (by omega) (by omega)
  · exact cMul_r (by omega) (by omega)
theorem r_modN (ha : fa ρ = some (.ok (.s (.int (i : Int))))) (hb : fb ρ = some (.ok (.s (.int (j : Int))))) (h : 0 < j) : e2 gMod fa fb ρ = some (.ok (.s (.int ((i % j : Nat) : Int)))) := by
  rw [Int.natCast_emod]
  exact r_modI ha hb (by omega)
theorem r_divN (ha : fa ρ = some (.ok (.s (.int (i : Int))))) (hb : fb ρ = some (.ok (.s (.int (j : Int))))) (h : 0 < j) (h2 : j < 1000000000) : e2 gDiv fa fb ρ = some (.ok (.s (.int ((i / j : Nat) : Int)))) := by
  rw [Int.natCast_ediv]
  exact r_divI ha hb (by omega) (by omega)
theorem r_and7 (ha : fa ρ = some (.ok (.s (.int (i : Int))))) (hb : fb ρ = some (.ok (.s (.int 127)))) : e2 gAnd fa fb ρ = some (.ok (.s (.int ((i % 128 : Nat) : Int)))) := by
  have e : ((i % 128 : Nat) : Int) = Builtin.bitAnd (i : Int) 127 := by
    rw [bitAnd_m7]
    omega
  rw [e]
  exact r_andI ha hb
theorem r_and8 (ha : fa ρ = some (.ok (.s (.int (i : Int))))) (hb : fb ρ = some (.ok (.s (.int 255)))) : e2 gAnd fa fb ρ = some (.ok (.s (.int ((i % 256 : Nat) : Int)))) := by
  have e : ((i % 256 : Nat) : Int) = Builtin.bitAnd (i : Int) 255 := by
    rw [bitAnd_m8]
    omega
  rw [e]
  exact r_andI ha hb
theorem natPow (k : Nat) : ((2 : Int) ^ (k : Int).toNat) = ((2 ^ k : Nat) : Int) := by
  rw [Int.toNat_natCast, Int.natCast_pow]
  rfl
theorem r_shrN (ha : fa ρ = some (.ok (.s (.int (i : Int))))) (hb : fb ρ = some (.ok (.s (.int (j : Int))))) : e2 gShr fa fb ρ = some (.ok (.s (.int ((i / 2 ^ j : Nat) : Int)))) := r_e2 ha hb (by
  show (if cShr (i : Int) (j : Int) = true then some (Val.s (.int ((i : Int) / 2 ^ (j : Int).toNat))) else none) = _
  rw [if_pos (cShr_ok (Int.natCast_nonneg _)), natPow, Int.natCast_ediv])
theorem r_shlN (ha : fa ρ = some (.ok (.s (.int (i : Int))))) (hb : fb ρ = some (.ok (.s (.int (j : Int))))) (h : i < 1000000000) (h2 : j ≤ 1000000) : e2 gShl fa fb ρ = some (.ok (.s (.int ((i * 2 ^ j : Nat) : Int)))) := r_e2 ha hb (by
  show (if cPow (i : Int) (j : Int) = true then some (Val.s (.int ((i : Int) * 2 ^ (j : Int).toNat))) else none) = _
  rw [if_pos (cPow_is (by omega) (by omega) (by omega) (by omega)), natPow, Int.natCast_mul])
theorem r_geI {x y : Int} (ha : fa ρ = some (.ok (.s (.int x)))) (hb : fb ρ = some (.ok (.s (.int y)))) : tV (e2 gGeX fa fb) ρ = some (.ok (decide (y ≤ x))) := r_tV (r_e2 ha hb rfl) rfl
theorem r_leI {x y : Int} (ha : fa ρ = some (.ok (.s (.int x)))) (hb : fb ρ = some (.ok (.s (.int y)))) : tV (e2 gLeX fa fb) ρ = some (.ok (decide (x ≤ y))) := r_tV (r_e2 ha hb rfl) rfl
theorem r_geI_t {x y : Int} (ha : fa ρ = some (.ok (.s (.int x)))) (hb : fb ρ = some (.ok (.s (.int y)))) (h : y ≤ x) : tV (e2 gGeX fa fb) ρ = some (.ok true) := by rw [r_geI ha hb, decide_eq_true h]
theorem r_geI_f {x y : Int} (ha : fa ρ = some (.ok (.s (.int x)))) (hb : fb ρ = some (.ok (.s (.int y)))) (h : x < y) : tV (e2 gGeX fa fb) ρ = some (.ok false) := by rw [r_geI ha hb, decide_eq_false (by omega)]
theorem r_leI_t {x y : Int} (ha : fa ρ = some (.ok (.s (.int x)))) (hb : fb ρ = some (.ok (.s (.int y)))) (h : x ≤ y) : tV (e2 gLeX fa fb) ρ = some (.ok true) := by rw [r_leI ha hb, decide_eq_true h]
theorem r_leI_f {x y : Int} (ha : fa ρ = some (.ok (.s (.int x)))) (hb : fb ρ = some (.ok (.s (.int y)))) (h : y < x) : tV (e2 gLeX fa fb) ρ = some (.ok false) := by rw [r_leI ha hb, decide_eq_false (by omega)]
theorem r_range2 {x y : Int} (ha : fa ρ = some (.ok (.s (.int x)))) (hb : fb ρ = some (.ok (.s (.int y)))) (h1 : -1000000000 < x) (h2 : x < 1000000000) (h3 : -1000000000 < y) (h4 : y < 1000000000) : iRange2 (aCons fa (aCons fb (aNil))) ρ = some (.ok (rangeD x (y - x).toNat)) := by
  unfold iRange2
  rw [r_args ha (r_args hb r_args0)]
  show (if (cRng x && cRng y) = true then some (Except.ok (rangeD x (y - x).toNat)) else none) = _
  rw [if_pos (by rw [cRng_is h1 h2, cRng_is h3 h4]; rfl)]
theorem r_neg {x : Int} (ha : fa ρ = some (.ok (.s (.int x)))) : e1 gNeg fa ρ = some (.ok (.s (.int (-x)))) := r_e1 ha rfl
theorem r_lenJ {r : List Nat} (q : E ρ = some (.ok v)) (h : v.d = .list (jd r)) : eG bLen (aCons E (aNil)) ρ = some (.ok (.s (.int (r.length : Int)))) := by
  rw [r_len q h, jd_len]
theorem r_lenT {es : List D} (q : E ρ = some (.ok v)) (h : v.d = .tuple es) : eG bLen (aCons E (aNil)) ρ = some (.ok (.s (.int (es.length : Int)))) := by
  refine r_eG (r_args q r_args0) ?_
  unfold bLen
  dsimp only
  rw [h]
  rfl
theorem r_ixJ {r : List Nat} (ha : fa ρ = some (.ok (.s (.list (jd r))))) (hb : fb ρ = some (.ok (.s (.int (i : Int))))) (h : i < r.length) : e2 gIx fa fb ρ = some (.ok (.s (.int (r.getD i 0 : Nat)))) := r_ix ha hb (atI_jdD h)
theorem r_appJ {es : List Nat} (ho : ρ[i]? = some (.own (jd es))) (q : E ρ = some (.ok (.s (.int (j : Int))))) (hl : es.length ≤ 10000000) (e : ρ.set i (.own (jd (es ++ [j]))) = ρ1) : fApp i E ρ = some (.nx ρ1) :=
  r_app ho q rfl (by rw [jd_len]; omega) (by rw [← e, jd_app]; rfl)
theorem r_drop (q : E ρ = some (.ok v)) : fDrop E ρ = some (.nx ρ) := by
  rw [fDrop_ap]
  unfold sE
  rw [q]
theorem r_dropE {e : Er} (q : E ρ = some (.error e)) : fDrop E ρ = some (.exc ρ e.1 e.2) := by
  rw [fDrop_ap]
  unfold sE
  rw [q]
end
/-- a comprehension over a list, each item kept -/
theorem eLc_seq {α : Type} {vs : List Nat} {st : Rho → D → Option Rho} {it : FI} {tt : FT} {fe : FE} {ρ : Rho} (dat F : α → D) {xs : List α} (h0 : noOwn ρ vs = true) (ha : it ρ = some (.ok (xs.map dat))) (hl : xs.length ≤ 16777216)
    (h : ∀ x ∈ xs, ∃ ρ1 v, st (wipeR ρ vs) (dat x) = some ρ1 ∧ tt ρ1 = some (.ok true) ∧ fe ρ1 = some (.ok v) ∧ v.st = some (F x)) : eLcG vs st it tt fe ρ = some (.ok (.f (xs.map F))) := by
  have e : lcL tt fe (st (wipeR ρ vs)) (xs.map dat) = some (xs.map F) := lcL_map dat F h
  unfold eLcG
  rw [if_pos h0, ha]
  dsimp only
  rw [e]
  dsimp only
  rw [if_pos (lineOk_small (by rw [List.length_map]; exact hl))]
theorem shaped_ints2 (x y : Int) : SeqAt.shaped (.tuple [.int x, .int y]) = true := rfl
end DL
set_option Elab.async false
set_option linter.all false
set_option maxRecDepth 100000
set_option maxHeartbeats 4000000
/-! FL4: the functions of step numbers. -/
namespace FL
open PySem PySem.Spec PyProof.Rows L2 DL FN
noncomputable def psTest : FT := tV (e2 gGeX (eV 0) (eC (.int 128)))
noncomputable def psTurn : FS := fSeq (fApp 1 (e2 gAdd (e2 gAnd (eV 0) (eC (.int 127))) (eC (.int 128)))) (fSet 0 (e2 gShr (eV 0) (eC (.int 7))))
theorem ps_loop : ∀ (k n : Nat) (pre : List Nat), n < 128 ^ (k + 1) → pre.length + k ≤ 1000 → ∃ m q, m < 128 ∧ SN.steps n = q ++ [m] ∧
    whileL psTest psTurn (k + 1) [.dat (.int (n : Nat)), .own (jd pre)] = some (.nx [.dat (.int (m : Nat)), .own (jd (pre ++ q))]) := by
  intro k
  induction k with
  | zero =>
    intro n pre hn _
    refine ⟨n, [], by simpa using hn, SN.steps_lt (by simpa using hn), ?_⟩
    rw [List.append_nil]
    exact w_stop (r_geI_f (r_v rfl) rfl (by simp at hn; omega))
  | succ k ih =>
    intro n pre hn hl
    by_cases h : n < 128
    · refine ⟨n, [], h, SN.steps_lt h, ?_⟩
      rw [List.append_nil]
      exact w_stop (r_geI_f (r_v rfl) rfl (by omega))
    · have hn2 : n / 128 < 128 ^ (k + 1) := by
        rw [Nat.pow_succ] at hn
        omega
      obtain ⟨m, q, h1, h2, h3⟩ := ih (n / 128) (pre ++ [n % 128 + 128]) hn2 (by simp; omega)
      refine ⟨m, (n % 128 + 128) :: q, h1, by rw [SN.steps_ge (by omega), h2]; rfl, ?_⟩
      have e : pre ++ [n % 128 + 128] ++ q = pre ++ (n % 128 + 128) :: q := by simp
      rw [e] at h3
      refine w_go (r_geI_t (r_v rfl) rfl (by omega)) ?_ h3
      unfold psTurn
      refine seqN (ρ1 := [.dat (.int (n : Nat)), .own (jd (pre ++ [n % 128 + 128]))]) (r_appJ rfl (r_addN (j := 128) (r_and7 (r_v rfl) rfl) rfl) (by omega) rfl) ?_
      exact r_set (r_shrN (j := 7) (r_v rfl) rfl) rfl rfl
theorem put_steps_ok (n : Nat) (h : n < 2 ^ 40) : d_put_steps [.int (n : Nat)] = some (.retF (jd (SN.steps n))) := by
  have h40 : (2 : Nat) ^ 40 = 1099511627776 := by decide
  obtain ⟨m, q, h1, h2, h3⟩ := ps_loop 5 n [] (by have : (128 : Nat) ^ 6 = 4398046511104 := by decide
                                                  omega) (by simp)
  rw [List.nil_append] at h3
  unfold d_put_steps b_put_steps
  refine mk_retF ?_
  refine seqN (r_iff (r_or_f (r_ltI_f (r_v rfl) rfl (by omega)) (r_geI_f (r_v rfl) rfl (by omega))) rfl) ?_
  refine seqN (ρ1 := [.dat (.int (n : Nat)), .own (jd [])]) (r_setO (r_lst r_args0 rfl (by decide)) rfl) ?_
  refine seqN (r_while h3 (by decide)) ?_
  have hl : q.length ≤ 1000 := by
    obtain ⟨p, s⟩ := SN.spec' n
    have s1 := s.len
    have s2 := s.p_lt h
    rw [h2, List.length_append, List.length_singleton] at s1
    omega
  refine seqN (ρ1 := [.dat (.int (m : Nat)), .own (jd (q ++ [m]))]) (r_appJ rfl (r_v rfl) (by omega) rfl) ?_
  rw [← h2]
  exact r_retB rfl
theorem put_steps_bad (i : Int) (h : i < 0 ∨ 1099511627776 ≤ i) : d_put_steps [.int i] = some (.exc 1 0) := by
  unfold d_put_steps b_put_steps
  refine mk_exc (ρ' := [.dat (.int i), .un]) (seqX (r_ift ?_ (r_raise rfl)))
  by_cases h0 : i < 0
  · exact r_or_t (r_ltI_t (r_v rfl) rfl h0)
  · exact r_or_f (r_ltI_f (r_v rfl) rfl (by omega)) (r_geI_t (r_v rfl) rfl (by omega))
/-- the bytes from a place on -/
def from_ (r : List Nat) (at_ : Nat) : Nat → Nat := fun j => r.getD (at_ + j) 0
noncomputable def eosTurn : FS := fSeq (fIf (tV (e2 gGeX (eV 2) (eG bLen (aCons (eV 0) (aNil))))) (fRaise 3 (eG bLen (aCons (eV 0) (aNil)))) (fNx)) (fIf (tV (e2 gLtX (e2 gIx (eV 0) (eV 2)) (eC (.int 128)))) (fRet (e2 gAdd (eV 2) (eC (.int 1)))) (fNx))
theorem eos_big (r : List Nat) (a j : Nat) (h : a + j < r.length) (hb : 128 ≤ from_ r a j) : eosTurn [.dat (.list (jd r)), .dat (.int (a : Nat)), .dat (.int ((a + j : Nat) : Int))] = some (.nx [.dat (.list (jd r)), .dat (.int (a : Nat)), .dat (.int ((a + j : Nat) : Int))]) := by
  unfold eosTurn
  refine seqN (r_iff (r_geI_f (r_v rfl) (r_lenJ (r_v rfl) rfl) (by omega)) rfl) ?_
  unfold from_ at hb
  exact r_iff (r_ltI_f (r_ixJ (r_v rfl) (r_v rfl) h) rfl (by omega)) rfl
theorem eos_range (r : List Nat) (a : Nat) (ha : a ≤ 100000) (s2 : DL.Slot) : iRange2 (aCons (eV 1) (aCons (e2 gAdd (eV 1) (eC (.int 6))) (aNil))) [.dat (.list (jd r)), .dat (.int (a : Nat)), s2] = some (.ok (rangeD (a : Int) 6)) := by
  have q := r_range2 (fa := eV 1) (fb := e2 gAdd (eV 1) (eC (.int 6))) (ρ := [.dat (.list (jd r)), .dat (.int (a : Nat)), s2]) (x := a) (y := a + 6) (r_v rfl) (r_addI (r_v rfl) rfl) (by omega) (by omega) (by omega) (by omega)
  rw [show ((a : Int) + 6 - a).toNat = 6 by omega] at q
  exact q
theorem eos_step (r : List Nat) (a : Nat) (i : Nat) (d : D) (ρ : Rho) (hd : (rangeD (a : Int) 6)[i]? = some d) (hi : a + i < r.length) (hb : 128 ≤ from_ r a i) (h : ∃ s2 : DL.Slot, ρ = [.dat (.list (jd r)), .dat (.int (a : Nat)), s2]) :
    ∃ ρ1 ρ2, gN 2 d ρ = some ρ1 ∧ eosTurn ρ1 = some (.nx ρ2) ∧ ∃ s2 : DL.Slot, ρ2 = [.dat (.list (jd r)), .dat (.int (a : Nat)), s2] := by
  obtain ⟨s2, rfl⟩ := h
  obtain ⟨_, rfl⟩ := rangeD_at hd
  exact ⟨_, _, rfl, eos_big r a i hi hb, _, rfl⟩
theorem eos_ends (r : List Nat) (a p : Nat) (ha : a ≤ 100000) (hp : p < 6) (hr : a + p < r.length) (h : SN.Ends (from_ r a) p) : d_end_of_steps [.list (jd r), .int (a : Nat)] = some (.ret (.int ((a + p + 1 : Nat) : Int))) := by
  have key := forL_stop (g := gN 2) (body := eosTurn) (o := .ret (.int ((a + p + 1 : Nat) : Int))) (ds := rangeD (a : Int) 6) (ρ := [.dat (.list (jd r)), .dat (.int (a : Nat)), .un]) (m := p) (fun _ ρ => ∃ s2 : DL.Slot, ρ = [.dat (.list (jd r)), .dat (.int (a : Nat)), s2])
    (by rw [rangeD_length]; exact hp) ⟨_, rfl⟩ (fun i d ρ hi hd hI => eos_step r a i d ρ hd (by omega) (h.big i hi) hI) (by
      rintro d ρ hd ⟨s2, rfl⟩
      obtain ⟨_, rfl⟩ := rangeD_at hd
      refine ⟨_, rfl, ?_⟩
      have hs := h.small
      unfold from_ at hs
      unfold eosTurn
      refine seqN (r_iff (r_geI_f (r_v rfl) (r_lenJ (r_v rfl) rfl) (by omega)) rfl) ?_
      exact r_ift (r_ltI_t (r_ixJ (r_v rfl) (r_v rfl) hr) rfl (by omega)) (r_ret (r_addN (j := 1) (r_v rfl) rfl))) (.inl ⟨_, rfl⟩)
  unfold d_end_of_steps b_end_of_steps
  exact mk_ret (seqR (r_for (eos_range r a ha _) key))
theorem eos_short (r : List Nat) (a : Nat) (ha : a ≤ r.length) (hl : r.length ≤ 100000) (hr : r.length - a < 6) (h : ∀ j, j < r.length - a → 128 ≤ from_ r a j) : d_end_of_steps [.list (jd r), .int (a : Nat)] = some (.exc 3 (r.length : Nat)) := by
  have key := forL_stop (g := gN 2) (body := eosTurn) (o := .exc [.dat (.list (jd r)), .dat (.int (a : Nat)), .dat (.int ((a + (r.length - a) : Nat) : Int))] 3 (r.length : Nat)) (ds := rangeD (a : Int) 6) (ρ := [.dat (.list (jd r)), .dat (.int (a : Nat)), .un]) (m := r.length - a) (fun _ ρ => ∃ s2 : DL.Slot, ρ = [.dat (.list (jd r)), .dat (.int (a : Nat)), s2])
    (by rw [rangeD_length]; exact hr) ⟨_, rfl⟩ (fun i d ρ hi hd hI => eos_step r a i d ρ hd (by omega) (h i hi) hI) (by
      rintro d ρ hd ⟨s2, rfl⟩
      obtain ⟨_, rfl⟩ := rangeD_at hd
      refine ⟨_, rfl, ?_⟩
      unfold eosTurn
      exact seqX (r_ift (r_geI_t (r_v rfl) (r_lenJ (r_v rfl) rfl) (by omega)) (r_raise (r_lenJ (r_v rfl) rfl)))) (.inr (.inr ⟨_, _, _, rfl⟩))
  unfold d_end_of_steps b_end_of_steps
  exact mk_exc (seqX (r_for (eos_range r a (by omega) _) key))
theorem eos_long (r : List Nat) (a : Nat) (ha : a ≤ 100000) (hr : a + 6 ≤ r.length) (h : ∀ j, j < 6 → 128 ≤ from_ r a j) : d_end_of_steps [.list (jd r), .int (a : Nat)] = some (.ret (.int ((a + 6 : Nat) : Int))) := by
  have key := forL_inv (g := gN 2) (body := eosTurn) (ds := rangeD (a : Int) 6) (ρ := [.dat (.list (jd r)), .dat (.int (a : Nat)), .un]) (fun _ ρ => ∃ s2 : DL.Slot, ρ = [.dat (.list (jd r)), .dat (.int (a : Nat)), s2])
    ⟨_, rfl⟩ (fun i d ρ hd hI => eos_step r a i d ρ hd (by have := (rangeD_at hd).1; omega) (h i (rangeD_at hd).1) hI)
  obtain ⟨ρ', h1, s2, rfl⟩ := key
  unfold d_end_of_steps b_end_of_steps
  exact mk_ret (seqN (r_for (eos_range r a ha _) h1) (r_ret (r_addN (j := 6) (r_v rfl) rfl)))
/-! ### get_steps -/
noncomputable def gsTurn : FS := fAug 3 (fun i j => i + j) (e2 gShl (e2 gAnd (e2 gIx (eV 0) (eV 4)) (eC (.int 127))) (e2 gMul (eC (.int 7)) (e2 gSub (eV 4) (eV 1))))
theorem gs_loop (r : List Nat) (a n : Nat) (hn : n ≤ 6) (hr : a + n ≤ r.length) (ha : a ≤ 100000) (s4 : DL.Slot) : ∃ s4' : DL.Slot, fFor (iRange2 (aCons (eV 1) (aCons (eV 2) (aNil)))) (gN 4) gsTurn [.dat (.list (jd r)), .dat (.int (a : Nat)), .dat (.int ((a + n : Nat) : Int)), .dat (.int 0), s4] = some (.nx [.dat (.list (jd r)), .dat (.int (a : Nat)), .dat (.int ((a + n : Nat) : Int)), .dat (.int (SN.val (from_ r a) n : Nat)), s4']) := by
  have key := forL_inv (g := gN 4) (body := gsTurn) (ds := rangeD (a : Int) n) (ρ := [.dat (.list (jd r)), .dat (.int (a : Nat)), .dat (.int ((a + n : Nat) : Int)), .dat (.int 0), s4]) (fun i ρ => ∃ s4 : DL.Slot, ρ = [.dat (.list (jd r)), .dat (.int (a : Nat)), .dat (.int ((a + n : Nat) : Int)), .dat (.int (SN.val (from_ r a) i : Nat)), s4])
    ⟨_, rfl⟩ (by
      rintro i d ρ hd ⟨s4, rfl⟩
      obtain ⟨hi, rfl⟩ := rangeD_at hd
      refine ⟨_, _, rfl, ?_, .dat (.int ((a + i : Nat) : Int)), rfl⟩
      have e1 : a + i - a = i := by omega
      have q := r_mulN (fa := eC (.int 7)) (fb := e2 gSub (eV 4) (eV 1)) (ρ := [.dat (.list (jd r)), .dat (.int (a : Nat)), .dat (.int ((a + n : Nat) : Int)), .dat (.int (SN.val (from_ r a) i : Nat)), .dat (.int ((a + i : Nat) : Int))]) (i := 7) (j := a + i - a) rfl (r_subN (r_v rfl) (r_v rfl) (by omega)) (.inl (by decide))
      rw [e1] at q
      refine r_aug (a := (SN.val (from_ r a) i : Nat)) rfl (r_shlN (r_and7 (r_ixJ (r_v rfl) (r_v rfl) (by omega)) rfl) q (by omega) (by omega)) ?_
      have e2 : ((SN.val (from_ r a) (i + 1) : Nat) : Int) = (SN.val (from_ r a) i : Nat) + ((r.getD (a + i) 0 % 128 * 2 ^ (7 * i) : Nat) : Int) := by
        rw [SN.val, Int.natCast_add, Nat.pow_mul]
        rfl
      rw [e2]
      rfl)
  obtain ⟨ρ', h1, s4', rfl⟩ := key
  rw [rangeD_length] at h1
  refine ⟨s4', r_for ?_ h1⟩
  have q := r_range2 (fa := eV 1) (fb := eV 2) (ρ := [.dat (.list (jd r)), .dat (.int (a : Nat)), .dat (.int ((a + n : Nat) : Int)), .dat (.int 0), s4]) (x := a) (y := ((a + n : Nat) : Int)) (r_v rfl) (r_v rfl) (by omega) (by omega) (by omega) (by omega)
  rw [show (((a + n : Nat) : Int) - a).toNat = n by omega] at q
  exact q
/-- what get_steps says of the bytes from a place on -/
inductive Gs (r : List Nat) (a : Nat) : DOut → Prop
  | num (p : Nat) : p < 6 → a + p < r.length → SN.Ends (from_ r a) p → SN.val (from_ r a) (p + 1) < 2 ^ 40 → ¬ (0 < p ∧ from_ r a p = 0) → Gs r a (.ret (.tuple [.int (SN.val (from_ r a) (p + 1) : Nat), .int ((a + p + 1 : Nat) : Int)]))
  | loose (p : Nat) : p < 6 → a + p < r.length → SN.Ends (from_ r a) p → SN.val (from_ r a) (p + 1) < 2 ^ 40 → 0 < p → from_ r a p = 0 → Gs r a (.exc 2 (a : Nat))
  | great (p : Nat) : p < 6 → a + p < r.length → SN.Ends (from_ r a) p → 2 ^ 40 ≤ SN.val (from_ r a) (p + 1) → Gs r a (.exc 1 (a : Nat))
  | long : a + 6 ≤ r.length → (∀ j, j < 6 → 128 ≤ from_ r a j) → Gs r a (.exc 1 (a : Nat))
  | short : r.length - a < 6 → (∀ j, j < r.length - a → 128 ≤ from_ r a j) → Gs r a (.exc 3 (r.length : Nat))
theorem gs_last (r : List Nat) (a n : Nat) (hn : 0 < n) (hr : a + n ≤ r.length) (s3 s4 : DL.Slot) : e2 gIx (eV 0) (e2 gSub (eV 2) (eC (.int 1))) [.dat (.list (jd r)), .dat (.int (a : Nat)), .dat (.int ((a + n : Nat) : Int)), s3, s4] = some (.ok (.s (.int (from_ r a (n - 1) : Nat)))) := by
  have q := r_ixJ (fa := eV 0) (fb := e2 gSub (eV 2) (eC (.int 1))) (ρ := [.dat (.list (jd r)), .dat (.int (a : Nat)), .dat (.int ((a + n : Nat) : Int)), s3, s4]) (r := r) (i := a + n - 1) (r_v rfl) (r_subN (j := 1) (r_v rfl) rfl (by omega)) (by omega)
  unfold from_
  rw [show a + (n - 1) = a + n - 1 by omega]
  exact q
theorem get_steps_ok (r : List Nat) (a : Nat) (ha : a ≤ r.length) (hl : r.length ≤ 100000) : ∃ o, d_get_steps [.list (jd r), .int (a : Nat)] = some o ∧ Gs r a o := by
  have h40 : (2 : Nat) ^ 40 = 1099511627776 := by decide
  have pre : ∀ (n : Nat), n ≤ 6 → 0 < n → a + n ≤ r.length → d_end_of_steps [.list (jd r), .int (a : Nat)] = some (.ret (.int ((a + n : Nat) : Int))) → ∃ s4 : DL.Slot, ∀ {g : FS} {o : Option Out}, g [.dat (.list (jd r)), .dat (.int (a : Nat)), .dat (.int ((a + n : Nat) : Int)), .dat (.int (SN.val (from_ r a) n : Nat)), s4] = o →
      fSeq (fSet 2 (eCall FN.d_end_of_steps 2 (aCons (eV 0) (aCons (eV 1) (aNil))))) (fSeq (fSet 3 (eC (.int 0))) (fSeq (fFor (iRange2 (aCons (eV 1) (aCons (eV 2) (aNil)))) (gN 4) gsTurn) g)) [.dat (.list (jd r)), .dat (.int (a : Nat)), .un, .un, .un] = o := by
    intro n h6 h0 hn he
    obtain ⟨s4', h1⟩ := gs_loop r a n h6 hn (by omega) .un
    refine ⟨s4', fun hg => ?_⟩
    refine seqN (ρ1 := [.dat (.list (jd r)), .dat (.int (a : Nat)), .dat (.int ((a + n : Nat) : Int)), .un, .un]) (r_set (r_call (r_args (r_v rfl) (r_args (r_v rfl) r_args0)) rfl rfl he) rfl rfl) ?_
    refine seqN (ρ1 := [.dat (.list (jd r)), .dat (.int (a : Nat)), .dat (.int ((a + n : Nat) : Int)), .dat (.int 0), .un]) (r_set (v := .s (.int 0)) rfl rfl rfl) ?_
    exact seqN h1 hg
  rcases SN.at_cases (from_ r a) (r.length - a) with ⟨p, hp, hr, he⟩ | ⟨hr, hb⟩ | ⟨hr, hb⟩
  · have h1 := eos_ends r a p (by omega) hp (by omega) he
    have hs := he.small
    obtain ⟨s4, go⟩ := pre (p + 1) (by omega) (by omega) (by omega) h1
    have hlast := fun s3 => gs_last r a (p + 1) (by omega) (by omega) s3 s4
    rw [Nat.add_sub_cancel] at hlast
    by_cases hv : SN.val (from_ r a) (p + 1) < 2 ^ 40
    · have first : fIf (tOrD (tV (e2 gGeX (e2 gIx (eV 0) (e2 gSub (eV 2) (eC (.int 1)))) (eC (.int 128)))) (tV (e2 gGeX (eV 3) (eC (.int 1099511627776))))) (fRaise 1 (eV 1)) (fNx) [.dat (.list (jd r)), .dat (.int (a : Nat)), .dat (.int ((a + (p + 1) : Nat) : Int)), .dat (.int (SN.val (from_ r a) (p + 1) : Nat)), s4] = some (.nx [.dat (.list (jd r)), .dat (.int (a : Nat)), .dat (.int ((a + (p + 1) : Nat) : Int)), .dat (.int (SN.val (from_ r a) (p + 1) : Nat)), s4]) :=
        r_iff (r_or_f (r_geI_f (hlast _) rfl (by omega)) (r_geI_f (r_v rfl) rfl (by omega))) rfl
      by_cases hz : 0 < p ∧ from_ r a p = 0
      · refine ⟨_, ?_, .loose p hp (by omega) he hv hz.1 hz.2⟩
        unfold d_get_steps b_get_steps
        exact mk_exc (go (seqN first (seqX (r_ift (r_and_t (r_gtI_t (r_subI (r_v rfl) (r_v rfl)) rfl (by omega)) (r_eqI_t (hlast _) rfl (by omega))) (r_raise (r_v rfl))))))
      · refine ⟨_, ?_, .num p hp (by omega) he hv hz⟩
        unfold d_get_steps b_get_steps
        refine mk_ret (go (seqN first (seqN (r_iff ?_ rfl) (r_ret (r_tup (r_args (r_v rfl) (r_args (r_v rfl) r_args0)) rfl (by simp))))))
        by_cases hp0 : 0 < p
        · exact r_and_t (r_gtI_t (r_subI (r_v rfl) (r_v rfl)) rfl (by omega)) (r_eqI_f (hlast _) rfl (by
            intro e
            exact hz ⟨hp0, by omega⟩))
        · exact r_and_f (r_gtI_f (r_subI (r_v rfl) (r_v rfl)) rfl (by omega))
    · refine ⟨_, ?_, .great p hp (by omega) he (by omega)⟩
      unfold d_get_steps b_get_steps
      exact mk_exc (go (seqX (r_ift (r_or_f (r_geI_f (hlast _) rfl (by omega)) (r_geI_t (r_v rfl) rfl (by omega))) (r_raise (r_v rfl)))))
  · have h1 := eos_short r a ha hl hr hb
    refine ⟨_, ?_, .short hr hb⟩
    unfold d_get_steps b_get_steps
    exact mk_exc (seqX (r_setE (r_callX (r_args (r_v rfl) (r_args (r_v rfl) r_args0)) rfl rfl h1)))
  · have h1 := eos_long r a (by omega) (by omega) hb
    obtain ⟨s4, go⟩ := pre 6 (by omega) (by omega) (by omega) h1
    have hlast : ∀ s3, _ := fun s3 => gs_last r a 6 (by omega) (by omega) s3 s4
    rw [show 6 - 1 = 5 from rfl] at hlast
    have h5 := hb 5 (by omega)
    refine ⟨_, ?_, .long (by omega) hb⟩
    unfold d_get_steps b_get_steps
    exact mk_exc (go (seqX (r_ift (r_or_t (r_geI_t (hlast _) rfl (by omega))) (r_raise (r_v rfl)))))
/-- the bytes of a number, found where they stand -/
theorem get_steps_put (A B : List Nat) (n : Nat) (h : n < 2 ^ 40) (hl : (A ++ SN.steps n ++ B).length ≤ 100000) : d_get_steps [.list (jd (A ++ SN.steps n ++ B)), .int (A.length : Nat)] = some (.ret (.tuple [.int (n : Nat), .int ((A.length + (SN.steps n).length : Nat) : Int)])) := by
  obtain ⟨p, s⟩ := SN.spec' n
  have hp := s.p_lt h
  have e : ∀ j, j ≤ p → from_ (A ++ SN.steps n ++ B) A.length j = (SN.steps n).getD j 0 := by
    intro j hj
    have := s.len
    unfold from_
    rw [List.getD_eq_getElem?_getD, List.getD_eq_getElem?_getD, List.append_assoc, List.getElem?_append_right (by omega), Nat.add_sub_cancel_left, List.getElem?_append_left (by omega)]
  have hlen : (A ++ SN.steps n ++ B).length = A.length + (p + 1) + B.length := by
    rw [List.length_append, List.length_append, s.len]
  have he : SN.Ends (from_ (A ++ SN.steps n ++ B) A.length) p := ⟨fun j hj => by rw [e j (by omega)]; exact s.ends.big j hj, by rw [e p (Nat.le_refl _)]; exact s.ends.small⟩
  have hv : SN.val (from_ (A ++ SN.steps n ++ B) A.length) (p + 1) = n := (SN.val_congr fun j hj => e j (by omega)).trans s.val
  have uni : ∀ q, SN.Ends (from_ (A ++ SN.steps n ++ B) A.length) q → q = p := fun q hq => SN.ends_uniq hq he
  obtain ⟨o, h1, h2⟩ := get_steps_ok (A ++ SN.steps n ++ B) A.length (by omega) hl
  rw [h1]
  have hs := he.small
  cases h2 with
  | num q _ _ hq _ _ =>
    have := uni q hq
    subst this
    rw [hv, s.len]
    rfl
  | loose q _ _ hq _ h0 hz =>
    have := uni q hq
    subst this
    exact absurd ((e _ (Nat.le_refl _)).symm.trans hz) (s.tight h0)
  | great q _ _ hq hb =>
    have := uni q hq
    subst this
    rw [hv] at hb
    omega
  | long _ hb =>
    have := hb p hp
    omega
  | short _ hb =>
    have := hb p (by omega)
    omega
/-! ### the law's own digits -/
noncomputable def lsdTurn : FS := fIf (tOrD (tV (e2 gEq (eV 2) (eC (.int 0)))) (tV (e2 gGtX (eV 0) (eC (.int 0))))) (fSeq (fApp 1 (e2 gAnd (eV 0) (eC (.int 127)))) (fSet 0 (e2 gShr (eV 0) (eC (.int 7))))) (fNx)
theorem law_steps_ok (n : Nat) (h : n < 2 ^ 40) : d__law_steps [.int (n : Nat)] = some (.retF (jd (SN.steps n))) := by
  have h40 : (2 : Nat) ^ 40 = 1099511627776 := by decide
  have h49 : (2 : Nat) ^ 49 = 562949953421312 := by decide
  have key := forL_inv (g := gN 2) (body := lsdTurn) (ds := rangeD 0 7) (ρ := [.dat (.int (n : Nat)), .own (jd []), .un, .un]) (fun i ρ => ∃ (m : Nat) (out : List Nat) (s2 : DL.Slot), ρ = [.dat (.int (m : Nat)), .own (jd out), s2, .un] ∧ SN.Part n i out m ∧ out.length ≤ i)
    ⟨n, [], .un, rfl, SN.part0 n, Nat.le_refl _⟩ (by
      rintro i d ρ hd ⟨m, out, s2, rfl, hP, hlen⟩
      obtain ⟨hi, rfl⟩ := rangeD0_at hd
      have run : (i = 0 ∨ 0 < m) → fSeq (fApp 1 (e2 gAnd (eV 0) (eC (.int 127)))) (fSet 0 (e2 gShr (eV 0) (eC (.int 7)))) [.dat (.int (m : Nat)), .own (jd out), .dat (.int (i : Nat)), .un] = some (.nx [.dat (.int (m / 128 : Nat)), .own (jd (out ++ [m % 128])), .dat (.int (i : Nat)), .un]) := fun _ =>
        seqN (ρ1 := [.dat (.int (m : Nat)), .own (jd (out ++ [m % 128])), .dat (.int (i : Nat)), .un]) (r_appJ rfl (r_and7 (r_v rfl) rfl) (by omega) rfl) (r_set (r_shrN (j := 7) (r_v rfl) rfl) rfl rfl)
      by_cases hg : i = 0 ∨ 0 < m
      · refine ⟨_, _, rfl, ?_, m / 128, out ++ [m % 128], .dat (.int (i : Nat)), rfl, SN.part_go hP hg, by simp; omega⟩
        unfold lsdTurn
        refine r_ift ?_ (run hg)
        by_cases h0 : i = 0
        · exact r_or_t (r_eqI_t (r_v rfl) rfl (by omega))
        · exact r_or_f (r_eqI_f (r_v rfl) rfl (by omega)) (r_gtI_t (r_v rfl) rfl (by omega))
      · refine ⟨_, _, rfl, ?_, m, out, .dat (.int (i : Nat)), rfl, SN.part_idle hP hg, by omega⟩
        unfold lsdTurn
        exact r_iff (r_or_f (r_eqI_f (r_v rfl) rfl (by omega)) (r_gtI_f (r_v rfl) rfl (by omega))) rfl)
  obtain ⟨ρ', h1, m, out, s2, rfl, hP, hlen⟩ := key
  rw [rangeD_length] at hP hlen
  have ho := SN.part_end hP (by omega)
  obtain ⟨hst, _⟩ := SN.dig_steps n n (Nat.le_refl _)
  rw [← ho] at hst
  unfold d__law_steps b__law_steps
  refine mk_retF ?_
  refine seqN (ρ1 := [.dat (.int (n : Nat)), .own (jd []), .un, .un]) (r_setO (r_lst r_args0 rfl (by decide)) rfl) ?_
  refine seqN (r_for (r_range (j := 7) rfl (by decide) (by decide)) h1) (r_retF ?_)
  have a1 : eSl (eV 1) (oNone) (oSome (e1 gNeg (eC (.int 1)))) [.dat (.int (m : Nat)), .own (jd out), s2, .un] = some (.ok (.f (jd out.dropLast))) := by
    rw [r_sl (r_b rfl) (.inr (.inl rfl)) rfl (r_oS (r_neg (x := 1) rfl)), cutL_last, jd_dropLast]
  have a2 : eSl (eV 1) (oSome (e1 gNeg (eC (.int 1)))) (oNone) [.dat (.int (m : Nat)), .own (jd out), s2, .un] = some (.ok (.f (jd (out.drop (out.length - 1))))) := by
    rw [r_sl (r_b rfl) (.inr (.inl rfl)) (r_oS (r_neg (x := 1) rfl)) rfl, cutL_tail, jd_len, jd_drop]
  have a3 := eLc_seq (vs := [3]) (st := st1 3) (tt := fun _ => some (.ok true)) (fe := e2 gAdd (eV 3) (eC (.int 128))) (dat := fun (n : Nat) => PyData.int (n : Int)) (F := fun (n : Nat) => PyData.int ((n + 128 : Nat) : Int)) (xs := out.dropLast) rfl (r_seqF a1) (by rw [List.length_dropLast]; omega) (fun x _ => ⟨_, _, rfl, rfl, r_addN (j := 128) (r_v rfl) rfl, rfl⟩)
  have e3 : (out.dropLast.map fun (n : Nat) => PyData.int ((n + 128 : Nat) : Int)) = jd (out.dropLast.map fun x => x + 128) := by
    unfold jd
    rw [List.map_map]
    rfl
  rw [e3] at a3
  have a4 := r_catJ a3 a2 rfl rfl rfl (by simp; omega)
  rw [hst] at a4
  exact a4
end FL
set_option Elab.async false
set_option linter.all false
set_option maxRecDepth 100000
set_option maxHeartbeats 4000000
namespace FL
open PySem PySem.Spec PyProof.Rows L2 DL FN
/-- what the law says of what get_steps did -/
def toldOf : DOut → D
  | .ret d => d
  | .exc 3 j => .tuple [.str "truncated", .int j]
  | .exc 1 j => .tuple [.str "range", .int j]
  | .exc 2 j => .tuple [.str "loose", .int j]
  | _ => .none
noncomputable def ldTail : FS := fIf (tV (e2 gLtX (e2 gIx (eV 0) (e2 gAdd (eV 1) (eV 3))) (eC (.int 128)))) (fSeq (fIf (tV (e2 gGtX (e2 gShr (eV 2) (eC (.int 40))) (eC (.int 0)))) (fRet (eTup (aCons (eC (.str "range")) (aCons (eV 1) (aNil))))) (fNx)) (fSeq (fIf (tAndD (tV (e2 gGtX (eV 3) (eC (.int 0)))) (tV (e2 gEq (e2 gIx (eV 0) (e2 gAdd (eV 1) (eV 3))) (eC (.int 0))))) (fRet (eTup (aCons (eC (.str "loose")) (aCons (eV 1) (aNil))))) (fNx)) (fRet (eTup (aCons (eV 2) (aCons (e2 gAdd (e2 gAdd (eV 1) (eV 3)) (eC (.int 1))) (aNil))))))) (fNx)
noncomputable def ldTurn : FS := fSeq (fIf (tV (e2 gGeX (e2 gAdd (eV 1) (eV 3)) (eG bLen (aCons (eV 0) (aNil))))) (fRet (eTup (aCons (eC (.str "truncated")) (aCons (eG bLen (aCons (eV 0) (aNil))) (aNil))))) (fNx)) (fSeq (fSet 2 (e2 gAdd (eV 2) (e2 gShl (e2 gAnd (e2 gIx (eV 0) (e2 gAdd (eV 1) (eV 3))) (eC (.int 127))) (e2 gMul (eC (.int 7)) (eV 3))))) ldTail)
def ldR (r : List Nat) (a n i : Nat) : Rho := [.dat (.list (jd r)), .dat (.int (a : Nat)), .dat (.int (n : Nat)), .dat (.int (i : Nat))]
theorem ld_ix (r : List Nat) (a n i : Nat) (h : a + i < r.length) : e2 gIx (eV 0) (e2 gAdd (eV 1) (eV 3)) (ldR r a n i) = some (.ok (.s (.int (from_ r a i : Nat)))) := r_ixJ (r_v rfl) (r_addN (r_v rfl) (r_v rfl)) h
theorem ld_pre (r : List Nat) (a i : Nat) (h : a + i < r.length) (hi : i < 6) {o : Option Out} (go : ldTail (ldR r a (SN.val (from_ r a) (i + 1)) i) = o) : ldTurn (ldR r a (SN.val (from_ r a) i) i) = o := by
  unfold ldTurn
  refine seqN (ρ1 := ldR r a (SN.val (from_ r a) i) i) (r_iff (r_geI_f (r_addI (r_v rfl) (r_v rfl)) (r_lenJ (r_v rfl) rfl) (by omega)) rfl) ?_
  refine seqN (ρ1 := ldR r a (SN.val (from_ r a) (i + 1)) i) (r_set (r_addN (r_v rfl) (r_shlN (r_and7 (ld_ix r a _ i h) rfl) (r_mulN (i := 7) rfl (r_v rfl) (.inl (by decide))) (by omega) (by omega))) rfl ?_) go
  have e2 : SN.val (from_ r a) (i + 1) = SN.val (from_ r a) i + from_ r a i % 128 * 2 ^ (7 * i) := by
    rw [SN.val, Nat.pow_mul]
  rw [e2]
  rfl
theorem ld_big (r : List Nat) (a i : Nat) (h : a + i < r.length) (hi : i < 6) (hb : 128 ≤ from_ r a i) : ldTurn (ldR r a (SN.val (from_ r a) i) i) = some (.nx (ldR r a (SN.val (from_ r a) (i + 1)) i)) := by
  refine ld_pre r a i h hi ?_
  unfold ldTail
  exact r_iff (r_ltI_f (ld_ix r a _ i h) rfl (by omega)) rfl
def ldI (r : List Nat) (a i : Nat) (ρ : Rho) : Prop := ∃ s3 : DL.Slot, ρ = [.dat (.list (jd r)), .dat (.int (a : Nat)), .dat (.int (SN.val (from_ r a) i : Nat)), s3]
theorem ld_step (r : List Nat) (a i : Nat) (d : D) (ρ : Rho) (h : a + i < r.length) (hb : 128 ≤ from_ r a i) (hd : (rangeD 0 6)[i]? = some d) (hI : ldI r a i ρ) : ∃ ρ1 ρ2, gN 3 d ρ = some ρ1 ∧ ldTurn ρ1 = some (.nx ρ2) ∧ ldI r a (i + 1) ρ2 := by
  obtain ⟨s3, rfl⟩ := hI
  obtain ⟨hi, rfl⟩ := rangeD0_at hd
  exact ⟨_, _, rfl, ld_big r a i h hi hb, _, rfl⟩
theorem law_due_of {r : List Nat} {a : Nat} {d : D} (h : forL (gN 3) ldTurn (rangeD 0 6) [.dat (.list (jd r)), .dat (.int (a : Nat)), .dat (.int 0), .un] = some (.ret d)) : d__law_due [.list (jd r), .int (a : Nat)] = some (.ret d) := by
  unfold d__law_due b__law_due
  refine mk_ret ?_
  refine seqN (ρ1 := [.dat (.list (jd r)), .dat (.int (a : Nat)), .dat (.int 0), .un]) (r_set (v := .s (.int 0)) rfl rfl rfl) ?_
  exact seqR (r_for (r_range (j := 6) rfl (by decide) (by decide)) h)
theorem due_stop {r : List Nat} {a p : Nat} {d : D} (hp : p < 6) (hb : ∀ j, j < p → a + j < r.length ∧ 128 ≤ from_ r a j) (h : ldTurn (ldR r a (SN.val (from_ r a) p) p) = some (.ret d)) : d__law_due [.list (jd r), .int (a : Nat)] = some (.ret d) := by
  refine law_due_of (forL_stop (m := p) (ldI r a) (by rw [rangeD_length]; exact hp) ⟨_, rfl⟩ (fun i d ρ hi hd hI => ld_step r a i d ρ (hb i hi).1 (hb i hi).2 hd hI) ?_ (.inl ⟨_, rfl⟩))
  rintro d ρ hd ⟨s3, rfl⟩
  obtain ⟨_, rfl⟩ := rangeD0_at hd
  exact ⟨_, rfl, h⟩
theorem law_due_ok {r : List Nat} {a : Nat} {o : DOut} (ha : a ≤ r.length) (h : Gs r a o) : d__law_due [.list (jd r), .int (a : Nat)] = some (.ret (toldOf o)) := by
  have h40 : (2 : Nat) ^ 40 = 1099511627776 := by decide
  cases h with
  | num p hp hr he hv hz =>
    have hs := he.small
    refine due_stop hp (fun j hj => ⟨by omega, he.big j hj⟩) (ld_pre r a p hr hp ?_)
    unfold ldTail
    refine r_ift (r_ltI_t (ld_ix r a _ p hr) rfl (by omega)) ?_
    refine seqN (ρ1 := ldR r a (SN.val (from_ r a) (p + 1)) p) (r_iff (r_gtI_f (r_shrN (j := 40) (r_v rfl) rfl) rfl (by rw [h40]; omega)) rfl) ?_
    refine seqN (ρ1 := ldR r a (SN.val (from_ r a) (p + 1)) p) (r_iff ?_ rfl) (r_ret (r_tup (r_args (r_v rfl) (r_args (r_addN (j := 1) (r_addN (r_v rfl) (r_v rfl)) rfl) r_args0)) rfl (by simp)))
    by_cases hp0 : 0 < p
    · exact r_and_t (r_gtI_t (r_v rfl) rfl (by omega)) (r_eqI_f (ld_ix r a _ p hr) rfl (fun e => hz ⟨hp0, by omega⟩))
    · exact r_and_f (r_gtI_f (r_v rfl) rfl (by omega))
  | loose p hp hr he hv hp0 hz =>
    refine due_stop hp (fun j hj => ⟨by omega, he.big j hj⟩) (ld_pre r a p hr hp ?_)
    have hs := he.small
    unfold ldTail
    refine r_ift (r_ltI_t (ld_ix r a _ p hr) rfl (by omega)) ?_
    refine seqN (ρ1 := ldR r a (SN.val (from_ r a) (p + 1)) p) (r_iff (r_gtI_f (r_shrN (j := 40) (r_v rfl) rfl) rfl (by rw [h40]; omega)) rfl) ?_
    exact seqR (r_ift (r_and_t (r_gtI_t (r_v rfl) rfl (by omega)) (r_eqI_t (ld_ix r a _ p hr) rfl (by omega))) (r_ret (r_tup (r_args rfl (r_args (r_v rfl) r_args0)) rfl (by simp))))
  | great p hp hr he hb =>
    refine due_stop hp (fun j hj => ⟨by omega, he.big j hj⟩) (ld_pre r a p hr hp ?_)
    have hs := he.small
    unfold ldTail
    refine r_ift (r_ltI_t (ld_ix r a _ p hr) rfl (by omega)) ?_
    exact seqR (r_ift (r_gtI_t (r_shrN (j := 40) (r_v rfl) rfl) rfl (by rw [h40]; omega)) (r_ret (r_tup (r_args rfl (r_args (r_v rfl) r_args0)) rfl (by simp))))
  | long hr hb =>
    obtain ⟨ρ', h1, s3, rfl⟩ := forL_inv (g := gN 3) (body := ldTurn) (ds := rangeD 0 6) (ρ := [.dat (.list (jd r)), .dat (.int (a : Nat)), .dat (.int 0), .un]) (ldI r a) ⟨_, rfl⟩ (fun i d ρ hd hI => ld_step r a i d ρ (by have := (rangeD0_at hd).1; omega) (hb i (rangeD0_at hd).1) hd hI)
    unfold d__law_due b__law_due
    refine mk_ret ?_
    refine seqN (ρ1 := [.dat (.list (jd r)), .dat (.int (a : Nat)), .dat (.int 0), .un]) (r_set (v := .s (.int 0)) rfl rfl rfl) ?_
    exact seqN (r_for (r_range (j := 6) rfl (by decide) (by decide)) h1) (r_ret (r_tup (r_args rfl (r_args (r_v rfl) r_args0)) rfl (by simp)))
  | short hr hb =>
    refine due_stop hr (fun j hj => ⟨by omega, hb j hj⟩) ?_
    unfold ldTurn
    exact seqR (r_ift (r_geI_t (r_addI (r_v rfl) (r_v rfl)) (r_lenJ (r_v rfl) rfl) (by omega)) (r_ret (r_tup (r_args rfl (r_args (r_lenJ (r_v rfl) rfl) r_args0)) rfl (by simp))))
theorem is_int_t {fa : FE} {ρ : Rho} {i : Int} (q : fa ρ = some (.ok (.s (.int i)))) : tNotD (tV (eCall d__law_is_integer 1 (aCons fa (aNil)))) ρ = some (.ok false) := int_call q
theorem law_told_of {r : List Nat} {a : Nat} {o : DOut} (h : Gs r a o) (hg : d_get_steps [.list (jd r), .int (a : Nat)] = some o) : d__law_told_v2 [.list (jd r), .int (a : Nat)] = some (.ret (toldOf o)) := by
  have call : ∀ {c : Nat} {j : Int}, d_get_steps [.list (jd r), .int (a : Nat)] = some (.exc c j) → fSet 2 (eCall FN.d_get_steps 2 (aCons (eV 0) (aCons (eV 1) (aNil)))) [.dat (.list (jd r)), .dat (.int (a : Nat)), .un, .un] = some (.exc [.dat (.list (jd r)), .dat (.int (a : Nat)), .un, .un] c j) := fun e => r_setE (r_callX (r_args (r_v rfl) (r_args (r_v rfl) r_args0)) rfl rfl e)
  have out : ∀ {x : Str} {j : Int} (a' dd : Addr), fRet (eTup (aCons (eC (.str x)) (aCons (eAt 3 a' dd) (aNil)))) [.dat (.list (jd r)), .dat (.int (a : Nat)), .un, .err a' dd j] = some (.ret (.tuple [.str x, .int j])) := fun a' dd => r_ret (r_tup (r_args rfl (r_args (r_xat rfl) r_args0)) rfl (by simp))
  unfold d__law_told_v2 b__law_told_v2
  cases h with
  | num p hp hr he hv hz =>
    refine mk_ret ?_
    refine seqN (r_tryN (r_set (r_call (r_args (r_v rfl) (r_args (r_v rfl) r_args0)) rfl rfl hg) rfl rfl)) ?_
    refine seqN (r_iff (r_or_f (r_notT (r_tV (r_isi (r_v rfl)) rfl)) (r_or_f (r_neI_f (r_lenT (r_v rfl) rfl) rfl rfl) (r_or_f (int_call (r_ixT (r_v rfl) rfl rfl)) (int_call (r_ixT (r_v rfl) rfl rfl))))) rfl) ?_
    exact r_ret (r_v rfl)
  | loose p hp hr he hv hp0 hz => exact mk_ret (seqR (r_tryX (call hg) (r_hno rfl (r_hno rfl (r_has rfl (fun a' dd => out a' dd) rfl)))))
  | great p hp hr he hb => exact mk_ret (seqR (r_tryX (call hg) (r_hno rfl (r_has rfl (fun a' dd => out a' dd) rfl))))
  | long hr hb => exact mk_ret (seqR (r_tryX (call hg) (r_hno rfl (r_has rfl (fun a' dd => out a' dd) rfl))))
  | short hr hb => exact mk_ret (seqR (r_tryX (call hg) (r_has rfl (fun a' dd => out a' dd) rfl)))
theorem told_self {r : List Nat} {a : Nat} {o : DOut} (h : Gs r a o) : eqD (toldOf o) (toldOf o) = some true := by
  cases h with
  | num => exact eqD_refl (shaped_ints2 _ _)
  | loose => exact eqD_refl (shaped_strInt _ _ (by decide +kernel))
  | great => exact eqD_refl (shaped_strInt _ _ (by decide +kernel))
  | long => exact eqD_refl (shaped_strInt _ _ (by decide +kernel))
  | short => exact eqD_refl (shaped_strInt _ _ (by decide +kernel))
theorem law_number_ok (ds : List Int) (k : Int) (hk : 0 ≤ k) : ∃ n : Nat, n < 2 ^ 40 ∧ d__law_number [.list (ds.map .int), .int k] = some (.ret (.int (n : Nat))) := by
  have h40 : (2 : Nat) ^ 40 = 1099511627776 := by decide
  obtain ⟨x0, hx0, l0⟩ := at_natF ds k 65536 (by omega)
  obtain ⟨x1, hx1, l1⟩ := at_natF ds (k + 1) 65536 (by omega)
  obtain ⟨x2, hx2, l2⟩ := at_natF ds (k + 2) 256 (by omega)
  obtain ⟨x3, hx3, l3⟩ := at_natF ds (k + 3) 41 (by omega)
  have A := fun (s2 : DL.Slot) (q many : Int) (hq : 0 ≤ q) (hmany : 0 < many) => r_at (fa := eV 0) (fb := e2 gAdd (eV 1) (eC (.int q))) (fc := eC (.int many)) (ρ := [.dat (.list (ds.map .int)), .dat (.int k), s2]) (ds := ds) (k := k + q) (m := many) rfl (r_addI (r_v rfl) rfl) rfl (by omega) hmany
  have A0 := r_at (fa := eV 0) (fb := eV 1) (fc := eC (.int 65536)) (ρ := [.dat (.list (ds.map .int)), .dat (.int k), .un]) (ds := ds) (k := k) (m := 65536) rfl (r_v rfl) rfl hk (by decide)
  have A1 := A .un 1 65536 (by decide) (by decide)
  have A2 := A .un 2 256 (by decide) (by decide)
  rw [← hx0] at A0
  rw [← hx1] at A1
  rw [← hx2] at A2
  have hle : (x0 + 65536 * x1 + 4294967296 * x2) / 2 ^ x3 ≤ x0 + 65536 * x1 + 4294967296 * x2 := Nat.div_le_self _ _
  refine ⟨(x0 + 65536 * x1 + 4294967296 * x2) / 2 ^ x3, by omega, ?_⟩
  have A3 := A (.dat (.int ((x0 + 65536 * x1 + 4294967296 * x2 : Nat) : Int))) 3 41 (by decide) (by decide)
  rw [← hx3] at A3
  unfold d__law_number b__law_number
  refine mk_ret ?_
  refine seqN (ρ1 := [.dat (.list (ds.map .int)), .dat (.int k), .dat (.int ((x0 + 65536 * x1 + 4294967296 * x2 : Nat) : Int))]) (r_set (r_addN (r_addN A0 (r_mulN (i := 65536) rfl A1 (.inl (by decide)))) (r_mulN (i := 4294967296) rfl A2 (.inr (by omega)))) rfl rfl) ?_
  exact r_ret (r_shrN (r_v rfl) A3)
theorem law_refused_ok (i : Int) (h : i < 0 ∨ 1099511627776 ≤ i) : d__law_refused [.int i] = some (.ret (.bool true)) := by
  unfold d__law_refused b__law_refused
  refine mk_ret (seqR (r_tryX (r_dropE (r_callX (r_args (r_v rfl) r_args0) rfl rfl (put_steps_bad i h))) (r_has (o1 := .ret (.bool true)) rfl (fun a' dd => r_ret ?_) rfl)))
  exact r_andV_t (r_eqI (i := 0) (j := 0) (r_xat rfl) rfl) (r_andV_t (r_xis (b := true) rfl) (r_xis (b := true) rfl))
/-- bytes, drawn -/
theorem drawn_bytes {ds : List Int} {ρ : Rho} {vs : List Nat} {st : Rho → D → Option Rho} {a : FA} {fe : FE} (k0 : Int) (n : Nat) (hk : 0 ≤ k0) (h0 : noOwn ρ vs = true) (ha : iRange1 a ρ = some (.ok (rangeD 0 n))) (hn : n ≤ 1000)
    (h : ∀ k : Nat, k < n → ∃ ρ1, st (wipeR ρ vs) (.int (k : Int)) = some ρ1 ∧ fe ρ1 = some (.ok (.s (.int (atD ds (k0 + k) 256))))) : eLcG vs st (iRange1 a) (fun _ => some (.ok true)) fe ρ = some (.ok (.f (jd ((List.range n).map fun k : Nat => (atD ds (k0 + k) 256).toNat)))) := by
  have q := eLc_range (vs := vs) (st := st) (a := a) (tt := fun _ => some (.ok true)) (fe := fe) (ρ := ρ) (n := n) (F := fun k : Nat => .int (((atD ds (k0 + k) 256).toNat : Nat) : Int)) h0 ha (by omega) (fun k hk => by
    obtain ⟨ρ1, h1, h2⟩ := h k hk
    refine ⟨ρ1, _, h1, rfl, h2, ?_⟩
    rw [Int.toNat_of_nonneg (atD_lo _ _ _ (by decide))]
    rfl)
  rw [q]
  unfold jd
  rw [List.map_map]
  rfl
theorem k00_true : ∀ ns : List Int, ns.length ≤ 63 → FN.d_law_k00 [scr ns] = some (.ret (.bool true)) := by
  intro ns hl
  have h40 : (2 : Nat) ^ 40 = 1099511627776 := by decide
  obtain ⟨ds, _, _, hd⟩ := law_draws_ok ns hl
  obtain ⟨n, hn, hnum⟩ := law_number_ok ds 0 (by decide)
  obtain ⟨p, sp⟩ := SN.spec' n
  have hsl : (SN.steps n).length ≤ 6 := by
    have := sp.p_lt hn
    have := sp.len
    omega
  have hput := put_steps_ok n hn
  have hsteps := law_steps_ok n hn
  obtain ⟨x4, e4, l4⟩ := at_natF ds 4 6 (by decide)
  obtain ⟨x10, e10, l10⟩ := at_natF ds 10 6 (by decide)
  obtain ⟨x16, e16, l16⟩ := at_natF ds 16 9 (by decide)
  generalize hA : ((List.range x4).map fun k : Nat => (atD ds (4 + (k : Int)) 256).toNat) = A
  generalize hB : ((List.range x10).map fun k : Nat => (atD ds (10 + (k : Int)) 256).toNat) = B
  generalize hO : ((List.range x16).map fun k : Nat => (atD ds (16 + (k : Int)) 256).toNat) = O
  have lA : A.length ≤ 6 := by rw [← hA]; simp; omega
  have lB : B.length ≤ 6 := by rw [← hB]; simp; omega
  have lO : O.length ≤ 9 := by rw [← hO]; simp; omega
  have lrow : (A ++ SN.steps n ++ B).length ≤ 100 := by simp; omega
  have hget := get_steps_put A B n hn (by omega)
  unfold d_law_k00
  refine mk_ret ?_
  show b_law_k00 [.dat (scr ns), .un, .un, .un, .un, .un, .un, .un, .un, .un, .un, .un] = _
  unfold b_law_k00
  refine seqN (ρ1 := [.dat (scr ns), .dat (.list (ds.map .int)), .un, .un, .un, .un, .un, .un, .un, .un, .un, .un]) (r_set (r_callF (r_args (r_v rfl) r_args0) rfl rfl hd) rfl rfl) ?_
  refine seqN (ρ1 := [.dat (scr ns), .dat (.list (ds.map .int)), .dat (.int (n : Nat)), .un, .un, .un, .un, .un, .un, .un, .un, .un]) (r_set (r_call (r_args (r_v rfl) (r_args rfl r_args0)) rfl rfl hnum) rfl rfl) ?_
  refine seqN (ρ1 := [.dat (scr ns), .dat (.list (ds.map .int)), .dat (.int (n : Nat)), .dat (.list (jd (SN.steps n))), .un, .un, .un, .un, .un, .un, .un, .un]) (r_set (r_callF (r_args (r_v rfl) r_args0) rfl rfl hput) rfl rfl) ?_
  refine seqN (r_iff (r_or_f (r_notT (r_tV (r_isi (r_v rfl)) rfl)) (r_tV (r_ne (r_v rfl) (r_callF (r_args (r_v rfl) r_args0) rfl rfl hsteps) (eqD_jd_self _)) rfl)) rfl) ?_
  have draw : ∀ (s2 s3 s4 s5 s6 s7 s8 s9 s10 s11 : DL.Slot) (k0 m : Int) (x : Nat), 0 ≤ k0 → 0 < m → (x : Int) = atD ds k0 m → x ≤ 100 → (∀ z, s5 ≠ .own z) → eLcG [5] (st1 5) (iRange1 (aCons (eCall FN.d__law_at 3 (aCons (eV 1) (aCons (eC (.int k0)) (aCons (eC (.int m)) (aNil))))) (aNil))) (fun _ => some (.ok true)) (eCall FN.d__law_at 3 (aCons (eV 1) (aCons (e2 gAdd (eC (.int k0)) (eV 5)) (aCons (eC (.int 256)) (aNil))))) [.dat (scr ns), .dat (.list (ds.map .int)), s2, s3, s4, s5, s6, s7, s8, s9, s10, s11] = some (.ok (.f (jd ((List.range x).map fun k : Nat => (atD ds (k0 + k) 256).toNat)))) := by
    intro s2 s3 s4 s5 s6 s7 s8 s9 s10 s11 k0 m x hk hm hx hx2 h5
    have q := r_at (fa := eV 1) (fb := eC (.int k0)) (fc := eC (.int m)) (ρ := [.dat (scr ns), .dat (.list (ds.map .int)), s2, s3, s4, s5, s6, s7, s8, s9, s10, s11]) (ds := ds) (k := k0) (m := m) rfl rfl rfl hk hm
    rw [← hx] at q
    refine drawn_bytes k0 x hk ?_ (r_range q (by omega) (by omega)) (by omega) (fun k hk2 => ⟨_, rfl, ?_⟩)
    · cases s5 with
      | own z => exact absurd rfl (h5 z)
      | _ => rfl
    · exact r_at (ds := ds) (k := k0 + k) (m := 256) rfl (r_addI rfl (r_v rfl)) rfl (by omega) (by decide)
  have dA := fun s2 s3 s4 s5 s6 s7 s8 s9 s10 s11 => draw s2 s3 s4 s5 s6 s7 s8 s9 s10 s11 4 6 x4 (by decide) (by decide) e4 (by omega)
  have dB := fun s2 s3 s4 s5 s6 s7 s8 s9 s10 s11 => draw s2 s3 s4 s5 s6 s7 s8 s9 s10 s11 10 6 x10 (by decide) (by decide) e10 (by omega)
  have dO := fun s2 s3 s4 s5 s6 s7 s8 s9 s10 s11 => draw s2 s3 s4 s5 s6 s7 s8 s9 s10 s11 16 9 x16 (by decide) (by decide) e16 (by omega)
  rw [hA] at dA
  rw [hB] at dB
  rw [hO] at dO
  refine seqN (ρ1 := [.dat (scr ns), .dat (.list (ds.map .int)), .dat (.int (n : Nat)), .dat (.list (jd (SN.steps n))), .dat (.list (jd A)), .un, .un, .un, .un, .un, .un, .un]) (r_set (dA _ _ _ _ _ _ _ _ _ _ (fun _ e => nomatch e)) rfl rfl) ?_
  refine seqN (ρ1 := [.dat (scr ns), .dat (.list (ds.map .int)), .dat (.int (n : Nat)), .dat (.list (jd (SN.steps n))), .dat (.list (jd A)), .un, .dat (.list (jd (A ++ SN.steps n ++ B))), .un, .un, .un, .un, .un]) (r_set (r_catJ (r_catJ (r_v rfl) (r_v rfl) rfl rfl rfl (by omega)) (dB _ _ _ _ _ _ _ _ _ _ (fun _ e => nomatch e)) rfl rfl rfl (by rw [List.length_append]; omega)) rfl rfl) ?_
  refine seqN (ρ1 := [.dat (scr ns), .dat (.list (ds.map .int)), .dat (.int (n : Nat)), .dat (.list (jd (SN.steps n))), .dat (.list (jd A)), .un, .dat (.list (jd (A ++ SN.steps n ++ B))), .dat (.list (jd (A ++ SN.steps n ++ B))), .un, .un, .un, .un]) (r_set (r_listOf (r_v rfl) rfl) rfl rfl) ?_
  refine seqN (r_iff (r_or_f (r_tV (r_ne (r_call (r_args (r_v rfl) (r_args (r_lenJ (r_v rfl) rfl) r_args0)) rfl rfl hget) (r_tup (r_args (r_v rfl) (r_args (r_addN (r_lenJ (r_v rfl) rfl) (r_lenJ (r_v rfl) rfl)) r_args0)) rfl (by simp)) (eqD_refl (shaped_ints2 _ _))) rfl) (r_tV (r_ne (r_v rfl) (r_v rfl) (eqD_jd_self _)) rfl)) rfl) ?_
  refine seqN (ρ1 := [.dat (scr ns), .dat (.list (ds.map .int)), .dat (.int (n : Nat)), .dat (.list (jd (SN.steps n))), .dat (.list (jd A)), .un, .dat (.list (jd (A ++ SN.steps n ++ B))), .dat (.list (jd (A ++ SN.steps n ++ B))), .dat (.list (jd O)), .un, .un, .un]) (r_set (dO _ _ _ _ _ _ _ _ _ _ (fun _ e => nomatch e)) rfl rfl) ?_
  -- the row, with its bytes made great or not
  have alt : ∃ (Q : List Nat) (s9 : DL.Slot), Q.length ≤ 100 ∧ fIf (tV (e2 gEq (eCall FN.d__law_at 3 (aCons (eV 1) (aCons (eC (.int 17)) (aCons (eC (.int 2)) (aNil))))) (eC (.int 1)))) (fSeq (fSet 9 (e2 gIx (eLst (aCons (eC (.int 1)) (aCons (eC (.int 15)) (aCons (eC (.int 127)) (aNil))))) (eCall FN.d__law_at 3 (aCons (eV 1) (aCons (eC (.int 18)) (aCons (eC (.int 3)) (aNil))))))) (fSet 8 (e2 gAdd (eLcG [10] (st1 10) (iSeq (eSl (eV 8) (oNone) (oSome (e1 gNeg (eC (.int 1)))))) (fun _ => some (.ok true)) (e2 gOr (eV 10) (eC (.int 128)))) (eLcG [10] (st1 10) (iSeq (eSl (eV 8) (oSome (e1 gNeg (eC (.int 1)))) (oNone))) (fun _ => some (.ok true)) (e2 gAnd (eV 10) (eV 9)))))) (fNx) [.dat (scr ns), .dat (.list (ds.map .int)), .dat (.int (n : Nat)), .dat (.list (jd (SN.steps n))), .dat (.list (jd A)), .un, .dat (.list (jd (A ++ SN.steps n ++ B))), .dat (.list (jd (A ++ SN.steps n ++ B))), .dat (.list (jd O)), .un, .un, .un]
      = some (.nx [.dat (scr ns), .dat (.list (ds.map .int)), .dat (.int (n : Nat)), .dat (.list (jd (SN.steps n))), .dat (.list (jd A)), .un, .dat (.list (jd (A ++ SN.steps n ++ B))), .dat (.list (jd (A ++ SN.steps n ++ B))), .dat (.list (jd Q)), s9, .un, .un]) := by
    by_cases h17 : atD ds 17 2 = 1
    · have hm : ∃ m : Int, (∀ y : Int, 0 ≤ y → 0 ≤ Builtin.bitAnd y m) ∧ atI [PyData.int 1, .int 15, .int 127] (atD ds 18 3) = some (.int m) := by
        have a1 := atD_lo ds 18 3 (by omega)
        have a2 := atD_hi ds 18 3 (by omega)
        generalize atD ds 18 3 = j at a1 a2
        rcases (show j = 0 ∨ j = 1 ∨ j = 2 by omega) with h | h | h <;> subst h
        · exact ⟨1, fun y hy => by rw [bitAnd_m1]; omega, rfl⟩
        · exact ⟨15, fun y hy => by rw [bitAnd_m4]; omega, rfl⟩
        · exact ⟨127, fun y hy => by rw [bitAnd_m7]; omega, rfl⟩
      obtain ⟨m, hm0, hme⟩ := hm
      refine ⟨O.dropLast.map (fun x => x ||| 128) ++ (O.drop (O.length - 1)).map (fun (x : Nat) => (Builtin.bitAnd (x : Int) m).toNat), .dat (.int m), by simp; omega, ?_⟩
      refine r_ift (r_eqI_t (r_at (ds := ds) (k := 17) (m := 2) rfl rfl rfl (by decide) (by decide)) rfl h17) ?_
      refine seqN (ρ1 := [.dat (scr ns), .dat (.list (ds.map .int)), .dat (.int (n : Nat)), .dat (.list (jd (SN.steps n))), .dat (.list (jd A)), .un, .dat (.list (jd (A ++ SN.steps n ++ B))), .dat (.list (jd (A ++ SN.steps n ++ B))), .dat (.list (jd O)), .dat (.int m), .un, .un]) (r_set (r_ixF (r_lst (r_args rfl (r_args rfl (r_args rfl r_args0))) rfl (by decide)) (r_at (ds := ds) (k := 18) (m := 3) rfl rfl rfl (by decide) (by decide)) hme rfl) rfl rfl) ?_
      have a1 : eSl (eV 8) (oNone) (oSome (e1 gNeg (eC (.int 1)))) [.dat (scr ns), .dat (.list (ds.map .int)), .dat (.int (n : Nat)), .dat (.list (jd (SN.steps n))), .dat (.list (jd A)), .un, .dat (.list (jd (A ++ SN.steps n ++ B))), .dat (.list (jd (A ++ SN.steps n ++ B))), .dat (.list (jd O)), .dat (.int m), .un, .un] = some (.ok (.f (jd O.dropLast))) := by
        rw [r_sl (r_v rfl) (.inl rfl) rfl (r_oS (r_neg (x := 1) rfl)), cutL_last, jd_dropLast]
      have a2 : eSl (eV 8) (oSome (e1 gNeg (eC (.int 1)))) (oNone) [.dat (scr ns), .dat (.list (ds.map .int)), .dat (.int (n : Nat)), .dat (.list (jd (SN.steps n))), .dat (.list (jd A)), .un, .dat (.list (jd (A ++ SN.steps n ++ B))), .dat (.list (jd (A ++ SN.steps n ++ B))), .dat (.list (jd O)), .dat (.int m), .un, .un] = some (.ok (.f (jd (O.drop (O.length - 1))))) := by
        rw [r_sl (r_v rfl) (.inl rfl) (r_oS (r_neg (x := 1) rfl)) rfl, cutL_tail, jd_len, jd_drop]
      have a3 := eLc_seq (vs := [10]) (st := st1 10) (tt := fun _ => some (.ok true)) (fe := e2 gOr (eV 10) (eC (.int 128))) (dat := fun (n : Nat) => PyData.int (n : Int)) (F := fun (n : Nat) => PyData.int ((n ||| 128 : Nat) : Int)) (xs := O.dropLast) rfl (r_seqF a1) (by rw [List.length_dropLast]; omega) (fun x _ => ⟨_, _, rfl, rfl, r_e2 (r_v rfl) rfl (v := .s (.int ((x ||| 128 : Nat) : Int))) (by
        show some (Val.s (.int (Builtin.bitOr (x : Int) 128))) = _
        rw [bitOr_nn (Int.natCast_nonneg x) (by decide)]
        rfl), rfl⟩)
      have a4 := eLc_seq (vs := [10]) (st := st1 10) (tt := fun _ => some (.ok true)) (fe := e2 gAnd (eV 10) (eV 9)) (dat := fun (n : Nat) => PyData.int (n : Int)) (F := fun (n : Nat) => PyData.int (((Builtin.bitAnd (n : Int) m).toNat : Nat) : Int)) (xs := O.drop (O.length - 1)) rfl (r_seqF a2) (by rw [List.length_drop]; omega) (fun x _ => ⟨_, _, rfl, rfl, r_andI (r_v rfl) (r_v rfl), by
        rw [Int.toNat_of_nonneg (hm0 _ (Int.natCast_nonneg _))]
        rfl⟩)
      have c3 : (O.dropLast.map fun (n : Nat) => PyData.int ((n ||| 128 : Nat) : Int)) = jd (O.dropLast.map fun x => x ||| 128) := by
        unfold jd
        rw [List.map_map]
        rfl
      have c4 : ((O.drop (O.length - 1)).map fun (n : Nat) => PyData.int (((Builtin.bitAnd (n : Int) m).toNat : Nat) : Int)) = jd ((O.drop (O.length - 1)).map fun (x : Nat) => (Builtin.bitAnd (x : Int) m).toNat) := by
        unfold jd
        rw [List.map_map]
        rfl
      rw [c3] at a3
      rw [c4] at a4
      exact r_set (r_catJ a3 a4 rfl rfl rfl (by simp; omega)) rfl rfl
    · exact ⟨O, .un, by omega, r_iff (r_eqI_f (r_at (ds := ds) (k := 17) (m := 2) rfl rfl rfl (by decide) (by decide)) rfl h17) rfl⟩
  obtain ⟨Q, s9, hQ, hq⟩ := alt
  refine seqN hq ?_
  have key := forL_inv (g := gN 11) (ds := rangeD 0 (Q.length + 1)) (body := fIf (tV (e2 gNe (eCall FN.d__law_told_v2 2 (aCons (eV 8) (aCons (eV 11) (aNil)))) (eCall FN.d__law_due 2 (aCons (eV 8) (aCons (eV 11) (aNil)))))) (fRet (eC (.bool false))) (fNx))
    (ρ := [.dat (scr ns), .dat (.list (ds.map .int)), .dat (.int (n : Nat)), .dat (.list (jd (SN.steps n))), .dat (.list (jd A)), .un, .dat (.list (jd (A ++ SN.steps n ++ B))), .dat (.list (jd (A ++ SN.steps n ++ B))), .dat (.list (jd Q)), s9, .un, .un])
    (fun _ ρ => ∃ s11 : DL.Slot, ρ = [.dat (scr ns), .dat (.list (ds.map .int)), .dat (.int (n : Nat)), .dat (.list (jd (SN.steps n))), .dat (.list (jd A)), .un, .dat (.list (jd (A ++ SN.steps n ++ B))), .dat (.list (jd (A ++ SN.steps n ++ B))), .dat (.list (jd Q)), s9, .un, s11]) ⟨_, rfl⟩ (by
      rintro i d ρ hd ⟨s11, rfl⟩
      obtain ⟨hi, rfl⟩ := rangeD0_at hd
      obtain ⟨o, g1, g2⟩ := get_steps_ok Q i (by omega) (by omega)
      exact ⟨_, _, rfl, r_iff (r_tV (r_ne (r_call (r_args (r_v rfl) (r_args (r_v rfl) r_args0)) rfl rfl (law_told_of g2 g1)) (r_call (r_args (r_v rfl) (r_args (r_v rfl) r_args0)) rfl rfl (law_due_ok (by omega) g2)) (told_self g2)) rfl) rfl, _, rfl⟩)
  obtain ⟨ρ', h1, s11, rfl⟩ := key
  refine seqN (r_for (r_range (j := ((Q.length + 1 : Nat) : Int)) (r_addN (j := 1) (r_lenJ (r_v rfl) rfl) rfl) (by omega) (by omega)) h1) ?_
  refine r_ret ?_
  refine r_andV_t (r_call (r_args (r_subI (r_neg (x := 1) rfl) (r_v rfl)) r_args0) rfl rfl (law_refused_ok _ (.inl (by omega)))) (r_andV_t (r_call (r_args (r_addI (r_v rfl) rfl) r_args0) rfl rfl (law_refused_ok _ (.inr (by omega)))) (r_call (r_args rfl r_args0) rfl rfl (law_refused_ok _ (.inr (by decide)))))
end FL
namespace K00
theorem law_true : ∀ ns : List Int, ns.length ≤ 63 → FN.d_law_k00 [DL.scr ns] = some (.ret (.bool true)) := FL.k00_true
end K00
set_option Elab.async false
open PySem PySem.W PyProof.Rows
set_option maxRecDepth 100000 in
set_option maxHeartbeats 0 in
theorem PySem.Challenge.cw_spoolbox_k00_step_numbers_holds : PySem.Challenge.rw_spoolbox_k00_step_numbers.Holds := by
  w_on; o_law; k_head; (case hw => w_witness2)
  k_fill
  refine L2.walk_of (l := PySem.Challenge.rw_spoolbox_k00_step_numbers) (n := 63) (k := 6) (x := "script") (CX := fun w => L2.CX PySem.Challenge.rw_spoolbox_k00_step_numbers.prog w) (sp := fun w => DL.spLaw _) rfl (by decide) rfl ⟨rfl, by decide, by decide⟩ (fun w h Y => PySem.W.kIn_of Y) ?F (fun _ _ a ns hl _ hS => ⟨a, ns, rfl, hS, hl, fun _ => rfl⟩) (fun _ _ _ _ _ h => DL.cx_none h)
  case F =>
    intro w mg fa h KX G hmg
    refine' K00.all_mk KX G hmg K00.law_true ?a0 ?l0 ?c0 ?k0 ?a1 ?l1 ?c1 ?k1 ?a2 ?l2 ?c2 ?k2 ?a3 ?l3 ?c3 ?k3 ?a4 ?l4 ?c4 ?k4 ?a5 ?l5 ?c5 ?k5 ?a6 ?l6 ?c6 ?k6 ?a7 ?l7 ?c7 ?k7 ?a8 ?l8 ?c8 ?k8 ?a9 ?l9 ?c9 ?k9 ?a10 ?l10 ?c10 ?k10 ?a11 ?l11 ?c11 ?k11 ?z_range ?z_min ?z_len ?z_abs ?z_int ?z_isinstance ?z_ValueError ?z_bool ?z_tuple ?z_list ?n_STEP_LIMIT ?n_MOST_STEPS ?lI ?cI ?kI ?tI ?xa_OutOfRange ?xl_OutOfRange ?xr_OutOfRange ?xs_OutOfRange ?xe_OutOfRange ?xt_OutOfRange ?xk_OutOfRange ?xn_OutOfRange ?xi_OutOfRange ?xg_OutOfRange ?xh_OutOfRange ?xd_OutOfRange ?xa_Truncated ?xl_Truncated ?xr_Truncated ?xs_Truncated ?xe_Truncated ?xt_Truncated ?xk_Truncated ?xn_Truncated ?xi_Truncated ?xg_Truncated ?xh_Truncated ?xd_Truncated ?xa_LooseNumber ?xl_LooseNumber ?xr_LooseNumber ?xs_LooseNumber ?xe_LooseNumber ?xt_LooseNumber ?xk_LooseNumber ?xn_LooseNumber ?xi_LooseNumber ?xg_LooseNumber ?xh_LooseNumber ?xd_LooseNumber ?xa_SpoolboxError ?yn ?yt ?xc_OutOfRange ?xm_OutOfRange ?xc_Truncated ?xm_Truncated ?xc_LooseNumber ?xm_LooseNumber ?ym_OutOfRange_OutOfRange ?ym_Truncated_LooseNumber ?ym_LooseNumber_LooseNumber ?ym_OutOfRange_LooseNumber ?ym_Truncated_OutOfRange ?ym_LooseNumber_OutOfRange ?ym_Truncated_Truncated ?ym_LooseNumber_Truncated ?ym_OutOfRange_Truncated ?yi_OutOfRange_SpoolboxError ?yb_OutOfRange_ValueError
    (case xa_OutOfRange => k_is)
    (case xa_Truncated => k_is)
    (case xa_LooseNumber => k_is)
    (case xa_SpoolboxError => k_is)
    (case xi_OutOfRange => k_is)
    (case xi_Truncated => k_is)
    (case xi_LooseNumber => k_is)
    (case xl_OutOfRange => k_is)
    (case xl_Truncated => k_is)
    (case xl_LooseNumber => k_is)
    (case xr_OutOfRange => decide +kernel)
    (case xr_Truncated => decide +kernel)
    (case xr_LooseNumber => decide +kernel)
    (case a0 => k_is)
    (case l0 => k_is)
    (case c0 => k_is)
    (case k0 => k_is)
    (case a1 => k_is)
    (case l1 => k_is)
    (case c1 => k_is)
    (case k1 => k_is)
    (case a2 => k_is)
    (case l2 => k_is)
    (case c2 => k_is)
    (case k2 => k_is)
    (case a3 => k_is)
    (case l3 => k_is)
    (case c3 => k_is)
    (case k3 => k_is)
    (case a4 => k_is)
    (case l4 => k_is)
    (case c4 => k_is)
    (case k4 => k_is)
    (case a5 => k_is)
    (case l5 => k_is)
    (case c5 => k_is)
    (case k5 => k_is)
    (case a6 => k_is)
    (case l6 => k_is)
    (case c6 => k_is)
    (case k6 => k_is)
    (case a7 => k_is)
    (case l7 => k_is)
    (case c7 => k_is)
    (case k7 => k_is)
    (case a8 => k_is)
    (case l8 => k_is)
    (case c8 => k_is)
    (case k8 => k_is)
    (case a9 => k_is)
    (case l9 => k_is)
    (case c9 => k_is)
    (case k9 => k_is)
    (case a10 => k_is)
    (case l10 => k_is)
    (case c10 => k_is)
    (case k10 => k_is)
    (case a11 => k_is)
    (case l11 => k_is)
    (case c11 => k_is)
    (case k11 => k_is)
    (case z_range => k_is)
    (case z_min => k_is)
    (case z_len => k_is)
    (case z_abs => k_is)
    (case z_int => k_is)
    (case z_isinstance => k_is)
    (case z_ValueError => k_is)
    (case z_bool => k_is)
    (case z_tuple => k_is)
    (case z_list => k_is)
    (case n_STEP_LIMIT => k_is)
    (case n_MOST_STEPS => k_is)
    (case lI => k_is)
    (case cI => k_is)
    (case kI => k_is)
    (case tI => k_is)
    (case xs_OutOfRange => k_is)
    (case xe_OutOfRange => k_is)
    (case xt_OutOfRange => k_is)
    (case xk_OutOfRange => k_is)
    (case xn_OutOfRange => k_is)
    (case xg_OutOfRange => k_is)
    (case xh_OutOfRange => k_is)
    (case xd_OutOfRange => k_is)
    (case xs_Truncated => k_is)
    (case xe_Truncated => k_is)
    (case xt_Truncated => k_is)
    (case xk_Truncated => k_is)
    (case xn_Truncated => k_is)
    (case xg_Truncated => k_is)
    (case xh_Truncated => k_is)
    (case xd_Truncated => k_is)
    (case xs_LooseNumber => k_is)
    (case xe_LooseNumber => k_is)
    (case xt_LooseNumber => k_is)
    (case xk_LooseNumber => k_is)
    (case xn_LooseNumber => k_is)
    (case xg_LooseNumber => k_is)
    (case xh_LooseNumber => k_is)
    (case xd_LooseNumber => k_is)
    (case yn => k_is)
    (case yt => k_is)
    (case xc_OutOfRange => k_is)
    (case xm_OutOfRange => k_is)
    (case xc_Truncated => k_is)
    (case xm_Truncated => k_is)
    (case xc_LooseNumber => k_is)
    (case xm_LooseNumber => k_is)
    (case ym_OutOfRange_OutOfRange => kts_exm)
    (case ym_Truncated_LooseNumber => kts_exm)
    (case ym_LooseNumber_LooseNumber => kts_exm)
    (case ym_OutOfRange_LooseNumber => kts_exm)
    (case ym_Truncated_OutOfRange => kts_exm)
    (case ym_LooseNumber_OutOfRange => kts_exm)
    (case ym_Truncated_Truncated => kts_exm)
    (case ym_LooseNumber_Truncated => kts_exm)
    (case ym_OutOfRange_Truncated => kts_exm)
    (case yi_OutOfRange_SpoolboxError => kit_is)
    (case yb_OutOfRange_ValueError => kit_is)
