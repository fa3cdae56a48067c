import PyProof.Rows.All
import Wide.All
import OpenK.AllK
import Wide.FinOn
import PyProof.EqAt
import PyProof.EqKinds
import PyProof.TupleCall
import HandS.ForMost
import HandS.ForExc
import HandS.ExcInit
import HandS.TryMany
import HandS.Flow
import HandS.Lambda
import HandS.Star
import HandS.Conv
import HandS.IsInst
import HandS.ExcField
import HandS.ExcIs
import KE.KExcIs
import KE.KTryMore
import KE.GoesEnum
import KE.GoesMore
import HandS.Iter
import HandS.Text
import HandS.Style
import HandS.Deep
import KE.SortData
import KE.DataCmp
import PyProof.ReprRoads
import PyProof.ReprLen
import PyProof.StrBlock2
import PyProof.Rows.StrMul
import KE.GoesEnumKw
import PyProof.Rows.CallKw2
import KE.DatumOrd
import HandS.SortKw
import PySem.Challenge.RW_spoolbox_k02_stuffing_back
set_option Elab.async false
set_option linter.all false
set_option maxRecDepth 100000
set_option maxHeartbeats 4000000
/-! DL1: values as data. A def's body as a plain Lean function of data, over the hand layer. -/
namespace DL
open PySem PySem.Spec PyProof.Rows L2

abbrev D := PyData
abbrev St := L2.St

/-! ### heaps that grow -/
/-- not a table of code objects -/
@[simp] def ntb : HO → Bool
  | .tbl _ => false
  | _ => true
/-- all data that was tracked is as it was -/
def SameD (H H' : Hp) : Prop := ∀ b o, H b = some o → ntb o = true → H' b = some o
/-- .. and the tables of code objects have grown at most -/
structure Same (H H' : Hp) : Prop where
  d : SameD H H'
  tb : ∀ P q, LamX.TabS H P q → LamX.TabS H' P q
  live : ∀ b, H b ≠ none → H' b ≠ none
theorem SameD.refl (H : Hp) : SameD H H := fun _ _ h _ => h
theorem SameD.trans {H H1 H2 : Hp} (a : SameD H H1) (b : SameD H1 H2) : SameD H H2 := fun c o h n => b c o (a c o h n) n
theorem Same.refl (H : Hp) : Same H H := ⟨.refl H, fun _ _ h => h, fun _ h => h⟩
theorem Same.trans {H H1 H2 : Hp} (a : Same H H1) (b : Same H1 H2) : Same H H2 := ⟨a.d.trans b.d, fun P q h => b.tb P q (a.tb P q h), fun c h => b.live c (a.live c h)⟩
theorem Same.of {H H' : Hp} (e : ∀ b o, H b = some o → H' b = some o) : Same H H' := ⟨fun b o h _ => e b o h, fun _ _ t => t.ext e, fun b h z => by
  cases q : H b with
  | none => exact h q
  | some o => rw [e b o q] at z; cases z⟩
theorem Same.at {H H' : Hp} (s : Same H H') {b : Addr} {o : HO} (h : H b = some o) (n : ntb o = true := by rfl) : H' b = some o := s.d b o h n
theorem Same.free {H H' : Hp} (s : Same H H') {l : Addr} (h : H' l = Option.none) : H l = Option.none := by
  cases q : H l with
  | none => rfl
  | some o => exact absurd h (s.live l (by rw [q]; intro z; cases z))
theorem SameD.seq {K : PySem.W.Frag} {H H' : Hp} {a : Addr} {xs : List V} (e : SameD H H') (h : SqL K H a xs) : SqL K H' a xs := by
  rcases h with (h | ⟨o, h⟩) | h
  · exact .inl (.inl (e _ _ h rfl))
  · exact .inl (.inr ⟨o, e _ _ h rfl⟩)
  · exact .inr h
theorem Same.seq {K : PySem.W.Frag} {H H' : Hp} {a : Addr} {xs : List V} (e : Same H H') (h : SqL K H a xs) : SqL K H' a xs := e.d.seq h
/-! ### heaps with a part hidden -/
open Classical in
noncomputable def hide (H : Hp) (Z : Addr → Prop) : Hp := fun b => if Z b then none else H b
theorem hide_of {H : Hp} {Z : Addr → Prop} {b : Addr} {o : HO} (h : hide H Z b = some o) : ¬ Z b ∧ H b = some o := by
  unfold hide at h
  split at h
  · cases h
  · rename_i n
    exact ⟨n, h⟩
theorem hide_at {H : Hp} {Z : Addr → Prop} {b : Addr} {o : HO} (n : ¬ Z b) (h : H b = some o) : hide H Z b = some o := by
  unfold hide
  rw [if_neg n]
  exact h
theorem hide_monoD {H H' : Hp} {Z Z' : Addr → Prop} (s : SameD H H') (z : ∀ b, Z' b → Z b ∨ H b = none) : SameD (hide H Z) (hide H' Z') := fun b o h nt => by
  obtain ⟨n, e⟩ := hide_of h
  refine hide_at (fun q => ?_) (s b o e nt)
  rcases z b q with z1 | z1
  · exact n z1
  · rw [e] at z1; cases z1
theorem hide_mono {H H' : Hp} {Z Z' : Addr → Prop} (s : Same H H') (z : ∀ b, Z' b → Z b ∨ H b = none) : SameD (hide H Z) (hide H' Z') := hide_monoD s.d z
theorem hide_sub {H : Hp} {Z : Addr → Prop} : SameD (hide H Z) H := fun b o h _ => (hide_of h).2

theorem Rd.same {H H' : Hp} {a : Addr} {u : HO} (s : SameD H H') (h : Rd H a u) (n : ntb u = true := by rfl) : Rd H' a u := by
  rcases h with h | ⟨o, h⟩
  · exact .inl (s _ _ h n)
  · exact .inr ⟨o, s _ _ h rfl⟩
theorem SqT.same {K : PySem.W.Frag} {H H' : Hp} {a : Addr} {xs : List V} (s : SameD H H') (h : SqT K H a xs) : SqT K H' a xs := by
  rcases h with (h | ⟨o, h⟩) | h
  · exact .inl (.inl (s _ _ h rfl))
  · exact .inl (.inr ⟨o, s _ _ h rfl⟩)
  · exact .inr h
/-! the value v stands for the data d: lists are tracked (or known), tuples may stand in the written part too; the script (a list of ints that is read alone) is told by scr -/
abbrev scr (ns : List Int) : D := .dict (ns.map fun n => (.int n, .none))
/-- an error that is held as a value: the place of its class, its at -/
abbrev excD (C : Addr) (i : Int) : D := .dict [(.str "at", .int i), (.int (C : Nat), .none)]
def excL : List (D × D) → Bool
  | (.str _, _) :: _ => true
  | _ => false
@[simp] def excV : D → Bool
  | .dict ks => excL ks
  | _ => false
@[simp] theorem excL_scr (ns : List Int) : excL (ns.map fun n => ((.int n, .none) : D × D)) = false := by cases ns <;> rfl
mutual
inductive Dp (K : PySem.W.Frag) (H : Hp) : V → D → Prop
  | non : Dp K H .non .none
  | bl (b : Bool) : Dp K H (.bl b) (.bool b)
  | int (i : Int) : Dp K H (.int i) (.int i)
  | str (x : Str) : Dp K H (.str x) (.str x)
  | lst {a : Addr} {xs : List V} {ds : List D} : Rd H a (.lst xs) → DpAll K H xs ds → Dp K H (.ref a) (.list ds)
  | tup {a : Addr} {xs : List V} {ds : List D} : SqT K H a xs → DpAll K H xs ds → Dp K H (.ref a) (.tuple ds)
  | scr {a : Addr} {ns : List Int} : SqL K H a (ns.map V.int) → Dp K H (.ref a) (.dict (ns.map fun n => (.int n, .none)))
  | exc {a dd C : Addr} {i : Int} : H a = some (exo a C (some dd)) → H dd = some (exd dd [("at", .int i)]) → Dp K H (.ref a) (.dict [(.str "at", .int i), (.int (C : Nat), .none)])
inductive DpAll (K : PySem.W.Frag) (H : Hp) : List V → List D → Prop
  | nil : DpAll K H [] []
  | cons {v : V} {vs : List V} {d : D} {ds : List D} : Dp K H v d → DpAll K H vs ds → DpAll K H (v :: vs) (d :: ds)
end
mutual
theorem Dp.up {K : PySem.W.Frag} {H : Hp} : ∀ {v : V} {d : D}, d.canLay0 = true → Dp K H v d → L2.Dp K H v d
  | _, _, _, .non => .non
  | _, _, _, .bl b => .bl b
  | _, _, _, .int i => .int i
  | _, _, _, .str x => .str x
  | _, _, c, .lst h t => .lst (.inl h) (DpAll.up c t)
  | _, _, c, .tup h t => .tup h (DpAll.up c t)
  | _, _, c, .scr h => nomatch c
  | _, _, c, .exc _ _ => nomatch c
theorem DpAll.up {K : PySem.W.Frag} {H : Hp} : ∀ {vs : List V} {ds : List D}, PyData.canLayAll0 ds = true → DpAll K H vs ds → L2.DpAll K H vs ds
  | _, _, _, .nil => .nil
  | _, _, c, .cons h t => by
    have c' := Bool.and_eq_true_iff.mp c
    exact .cons (Dp.up c'.1 h) (DpAll.up c'.2 t)
end
mutual
theorem Dp.same {K : PySem.W.Frag} {H H' : Hp} (s : SameD H H') : ∀ {v : V} {d : D}, Dp K H v d → Dp K H' v d
  | _, _, .non => .non
  | _, _, .bl b => .bl b
  | _, _, .int i => .int i
  | _, _, .str x => .str x
  | _, _, .lst h t => .lst (Rd.same s h) (DpAll.same s t)
  | _, _, .tup h t => .tup (SqT.same s h) (DpAll.same s t)
  | _, _, .scr h => .scr (s.seq h)
  | _, _, .exc h1 h2 => .exc (s _ _ h1 rfl) (s _ _ h2 rfl)
theorem DpAll.same {K : PySem.W.Frag} {H H' : Hp} (s : SameD H H') : ∀ {vs : List V} {ds : List D}, DpAll K H vs ds → DpAll K H' vs ds
  | _, _, .nil => .nil
  | _, _, .cons h t => .cons (Dp.same s h) (DpAll.same s t)
end
section
variable {K : PySem.W.Frag} {H : Hp}
theorem DpAll.length : ∀ {vs : List V} {ds : List D}, DpAll K H vs ds → vs.length = ds.length
  | _, _, .nil => rfl
  | _, _, .cons _ t => by rw [List.length_cons, List.length_cons, DpAll.length t]
theorem DpAll.get : ∀ {vs : List V} {ds : List D} {i : Nat} {d : D}, DpAll K H vs ds → ds[i]? = some d → ∃ v, vs[i]? = some v ∧ Dp K H v d
  | _, _, _, _, .nil, e => by simp at e
  | _, _, 0, _, .cons h _, e => by simp at e; subst e; exact ⟨_, rfl, h⟩
  | _, _, i + 1, d, .cons _ t, e => by
    obtain ⟨u, h1, h2⟩ := DpAll.get (i := i) (d := d) t (by simpa using e)
    exact ⟨u, by simpa using h1, h2⟩
theorem DpAll.get' : ∀ {vs : List V} {ds : List D} {i : Nat} {v : V}, DpAll K H vs ds → vs[i]? = some v → ∃ d, ds[i]? = some d ∧ Dp K H v d
  | _, _, _, _, .nil, e => by simp at e
  | _, _, 0, _, .cons h _, e => by simp at e; subst e; exact ⟨_, rfl, h⟩
  | _, _, i + 1, v, .cons _ t, e => by
    obtain ⟨u, h1, h2⟩ := DpAll.get' (i := i) (v := v) t (by simpa using e)
    exact ⟨u, by simpa using h1, h2⟩
theorem DpAll.append : ∀ {xs ys : List V} {ds es : List D}, DpAll K H xs ds → DpAll K H ys es → DpAll K H (xs ++ ys) (ds ++ es)
  | _, _, _, _, .nil, s => s
  | _, _, _, _, .cons r t, s => .cons r (DpAll.append t s)
theorem DpAll.take : ∀ {xs : List V} {ds : List D} (n : Nat), DpAll K H xs ds → DpAll K H (xs.take n) (ds.take n)
  | _, _, 0, _ => .nil
  | _, _, _ + 1, .nil => .nil
  | _, _, n + 1, .cons r t => .cons r (DpAll.take n t)
theorem DpAll.drop : ∀ {xs : List V} {ds : List D} (n : Nat), DpAll K H xs ds → DpAll K H (xs.drop n) (ds.drop n)
  | _, _, 0, r => r
  | _, _, _ + 1, .nil => .nil
  | _, _, n + 1, .cons _ t => DpAll.drop n t
theorem DpAll.set {x : V} {d : D} (r : Dp K H x d) : ∀ {xs : List V} {ds : List D} (i : Nat), DpAll K H xs ds → DpAll K H (xs.set i x) (ds.set i d)
  | _, _, _, .nil => .nil
  | _, _, 0, .cons _ t => .cons r t
  | _, _, i + 1, .cons q t => .cons q (DpAll.set r i t)
theorem DpAll.dropLast {xs : List V} {ds : List D} (h : DpAll K H xs ds) : DpAll K H xs.dropLast ds.dropLast := by
  rw [List.dropLast_eq_take, List.dropLast_eq_take, DpAll.length h]
  exact DpAll.take _ h
theorem Dp.int_inv {v : V} {i : Int} (h : Dp K H v (.int i)) : v = .int i := by cases h; rfl
theorem Dp.str_inv {v : V} {x : Str} (h : Dp K H v (.str x)) : v = .str x := by cases h; rfl
theorem Dp.bl_inv {v : V} {b : Bool} (h : Dp K H v (.bool b)) : v = .bl b := by cases h; rfl
theorem Dp.non_inv {v : V} (h : Dp K H v .none) : v = .non := by cases h; rfl
theorem Dp.lst_inv {v : V} {ds : List D} (h : Dp K H v (.list ds)) : ∃ a xs, v = .ref a ∧ Rd H a (.lst xs) ∧ DpAll K H xs ds := by
  cases h with
  | lst h t => exact ⟨_, _, rfl, h, t⟩
theorem Dp.tup_inv {v : V} {ds : List D} (h : Dp K H v (.tuple ds)) : ∃ a xs, v = .ref a ∧ SqT K H a xs ∧ DpAll K H xs ds := by
  cases h with
  | tup h t => exact ⟨_, _, rfl, h, t⟩
theorem DpAll.ints : ∀ {vs : List V} {ns : List Int}, DpAll K H vs (ns.map PyData.int) → vs = ns.map V.int
  | _, [], h => by cases h; rfl
  | _, n :: ns, h => by
    cases h with
    | cons a b =>
      rw [Dp.int_inv a, DpAll.ints b]
      rfl
theorem DpAll.of_ints : ∀ (ns : List Int), DpAll K H (ns.map V.int) (ns.map PyData.int)
  | [] => .nil
  | n :: ns => .cons (.int n) (DpAll.of_ints ns)
theorem DpAll.strs : ∀ {vs : List V} {ns : List Str}, DpAll K H vs (ns.map PyData.str) → vs = ns.map V.str
  | _, [], h => by cases h; rfl
  | _, n :: ns, h => by
    cases h with
    | cons a b =>
      rw [Dp.str_inv a, DpAll.strs b]
      rfl
end
/-- scalars: nothing of the heap is in them -/
@[simp] def scalarD : D → Bool
  | .none => true | .bool _ => true | .int _ => true | .str _ => true
  | _ => false
theorem Dp.scalar {K : PySem.W.Frag} {H H' : Hp} {v : V} {d : D} (s : scalarD d = true) (h : Dp K H v d) : Dp K H' v d := by
  cases h with
  | non => exact .non
  | bl b => exact .bl b
  | int i => exact .int i
  | str x => exact .str x
  | lst _ _ => cases s
  | tup _ _ => cases s
  | scr _ => cases s
  | exc _ _ => cases s
theorem DpAll.scalar {K : PySem.W.Frag} {H H' : Hp} : ∀ {vs : List V} {ds : List D}, ds.all scalarD = true → DpAll K H vs ds → DpAll K H' vs ds
  | _, _, _, .nil => .nil
  | _, _, s, .cons h t => by
    rw [List.all_cons, Bool.and_eq_true] at s
    exact .cons (Dp.scalar s.1 h) (DpAll.scalar s.2 t)

/-! ### slots -/
inductive Slot where
  | un | dat (d : D) | own (ds : List D) | err (a dd : Addr) (i : Int) | ownT (a : Addr) (k : Nat) (ds : List D)
abbrev Rho := List Slot
/-- the list at a is slot i's own -/
def OwnAt (σ : St) (ρ : Rho) (i : Nat) (a : Addr) : Prop := (σ[i]? = some (some (.ref a)) ∧ ∃ ds, ρ[i]? = some (.own ds)) ∨ ∃ k ds, ρ[i]? = some (.ownT a k ds)
/-- the slot holds a list of its own -/
def Slot.owns : Slot → Prop
  | .own _ => True
  | .ownT _ _ _ => True
  | _ => False
/-- a tuple whose k-th item is a list that nothing else holds -/
structure TupOwn (K : PySem.W.Frag) (H Hs : Hp) (T a : Addr) (k : Nat) (ds : List D) : Prop where
  go : ∃ (xs ys : List V) (es : List D), SqT K Hs T xs ∧ DpAll K Hs (xs.set k .non) (ds.set k .none) ∧ xs[k]? = some (.ref a) ∧ ds[k]? = some (.list es) ∧ H a = some (.lst ys) ∧ DpAll K Hs ys es
def Owned (σ : St) (ρ : Rho) (a : Addr) : Prop := ∃ i, OwnAt σ ρ i a
def Zo (Z : Addr → Prop) (σ : St) (ρ : Rho) : Addr → Prop := fun b => Z b ∨ Owned σ ρ b
def SlotOk (K : PySem.W.Frag) (H Hs : Hp) (o : Option (Option V)) : Slot → Prop
  | .un => True
  | .dat d => ∃ v, o = some (some v) ∧ Dp K Hs v d
  | .own ds => ∃ a xs, o = some (some (.ref a)) ∧ H a = some (.lst xs) ∧ DpAll K Hs xs ds
  | .err a dd i => o = some (some (.ref a)) ∧ H dd = some (.xd [(("at" : Str), .int i)])
  | .ownT a k ds => ∃ T, o = some (some (.ref T)) ∧ TupOwn K H Hs T a k ds
structure DI (K : PySem.W.Frag) (Z : Addr → Prop) (H : Hp) (σ : St) (ρ : Rho) : Prop where
  len : ρ.length = σ.length
  one : ∀ i j a, OwnAt σ ρ i a → OwnAt σ ρ j a → i = j
  out : ∀ a, Owned σ ρ a → ¬ Z a
  live : ∀ a, Z a → H a ≠ none
  slots : ∀ (i : Nat) s, ρ[i]? = some s → SlotOk K H (hide H (Zo Z σ ρ)) (σ[i]?) s
section
variable {K : PySem.W.Frag} {Z : Addr → Prop} {H H' : Hp} {σ : St} {ρ : Rho}
theorem DI.liveO (I : DI K Z H σ ρ) {a : Addr} (h : Owned σ ρ a) : H a ≠ none := by
  obtain ⟨i, ⟨h1, ds, h2⟩ | ⟨k, ds, h2⟩⟩ := h
  · obtain ⟨b, xs, e, hb, _⟩ := I.slots i _ h2
    rw [h1] at e
    cases e
    rw [hb]
    intro z; cases z
  · obtain ⟨T, e, ⟨xs, ys, es, _, _, _, _, hb, _⟩⟩ := I.slots i _ h2
    rw [hb]
    intro z; cases z
theorem DI.liveZ (I : DI K Z H σ ρ) {a : Addr} (h : Zo Z σ ρ a) : H a ≠ none := by
  rcases h with h | h
  · exact I.live a h
  · exact I.liveO h
theorem TupOwn.same {Hs Hs' : Hp} {T a : Addr} {k : Nat} {ds : List DL.D} (m : SameD Hs Hs') (h : ∀ ys, H a = some (.lst ys) → H' a = some (.lst ys)) (t : TupOwn K H Hs T a k ds) : TupOwn K H' Hs' T a k ds := by
  obtain ⟨xs, ys, es, h1, h2, h3, h4, h5, h6⟩ := t
  exact ⟨xs, ys, es, SqT.same m h1, DpAll.same m h2, h3, h4, h _ h5, DpAll.same m h6⟩
theorem DI.same (I : DI K Z H σ ρ) (s : Same H H') : DI K Z H' σ ρ := by
  refine ⟨I.len, I.one, I.out, fun a h => s.live a (I.live a h), fun i sl e => ?_⟩
  · have q := I.slots i sl e
    have m : SameD (hide H (Zo Z σ ρ)) (hide H' (Zo Z σ ρ)) := hide_mono s fun b h => .inl h
    cases sl with
    | un => trivial
    | dat d =>
      obtain ⟨v, e1, h⟩ := q
      exact ⟨v, e1, Dp.same m h⟩
    | own ds =>
      obtain ⟨a, xs, e1, e2, h⟩ := q
      exact ⟨a, xs, e1, s.at e2, DpAll.same m h⟩
    | err a dd j => exact ⟨q.1, s.at q.2⟩
    | ownT a k ds =>
      obtain ⟨T, e1, h⟩ := q
      exact ⟨T, e1, h.same m fun _ z => s.at z⟩
/-- a live address is not a new one -/
theorem ne_live {a p : Addr} (h : H a ≠ none) (n : H p = none) : a ≠ p := fun e => h (e ▸ n)
end

/-! ### what an expression gives -/
/-- s: stable; m: for the moment (a slot's own list may be in it); b: a slot's own list, for the moment; f: a new list that nothing else holds -/
inductive Val where
  | s (d : D) | m (d : D) | b (ds : List D) | f (ds : List D)
@[simp] def Val.d : Val → D
  | .s d => d
  | .m d => d
  | .b ds => .list ds
  | .f ds => .list ds
abbrev Er := Nat × Int
abbrev FE := Rho → Option (Except Er Val)
def ZP (Z : Addr → Prop) (p : Addr) : Addr → Prop := fun b => Z b ∨ b = p
def VOk (K : PySem.W.Frag) (Z : Addr → Prop) (σ : St) (ρ : Rho) (H H1 : Hp) (x : V) : Val → Prop
  | .s d => Dp K (hide H1 (Zo Z σ ρ)) x d
  | .m d => Dp K (hide H1 Z) x d
  | .b ds => ∃ p xs, x = .ref p ∧ Owned σ ρ p ∧ H1 p = some (.lst xs) ∧ DpAll K (hide H1 (Zo Z σ ρ)) xs ds
  | .f ds => ∃ p xs, x = .ref p ∧ H p = none ∧ H1 p = some (.lst xs) ∧ DpAll K (hide H1 (ZP (Zo Z σ ρ) p)) xs ds
def ErOk (Cl : Nat → Addr) (W : WX) (σ : St) (H : Hp) (e : Er) : Prop :=
  ∀ dd H', Same H H' → H' dd = some (.xd [(("at" : Str), .int e.2)]) → W (.ref (Cl e.1)) (some dd) σ H'
def ROk (K : PySem.W.Frag) (Cl : Nat → Addr) (W : WX) (Z : Addr → Prop) (σ : St) (ρ : Rho) (H : Hp) (Q : VK) : Except Er Val → Prop
  | .ok v => ∀ x H', Same H H' → VOk K Z σ ρ H H' x v → Q x H'
  | .error e => ErOk Cl W σ H e
def teOf (K : PySem.W.Frag) (Cl : Nat → Addr) (W : WX) (f : FE) : TE := fun σ H Q => ∃ Z ρ r, DI K Z H σ ρ ∧ f ρ = some r ∧ ROk K Cl W Z σ ρ H Q r
def DE (X : Cx) (Cl : Nat → Addr) (W : WX) (e : Expr) (f : FE) : Prop := PE X e (teOf X.K Cl W f)
/-- a reading may be made stronger -/
theorem PE.imp {X : Cx} {e : Expr} {t t' : TE} (h : PE X e t) (i : ∀ σ H Q, t' σ H Q → t σ H Q) : PE X e t' := ⟨fun pins s σ H Q I q => h.run pins s σ H Q I (i σ H Q q)⟩
theorem PT.imp {X : Cx} {e : Expr} {t t' : TT} (h : PT X e t) (i : ∀ σ H Q, t' σ H Q → t σ H Q) : PT X e t' := ⟨fun pins s σ H Q I q => h.run pins s σ H Q I (i σ H Q q)⟩
theorem PW.imp {X : Cx} {e : Expr} {t t' : TT} (h : PW X e t) (i : ∀ σ H Q, t' σ H Q → t σ H Q) : PW X e t' := ⟨fun wh pins s σ H Q I q => h.run wh pins s σ H Q I (i σ H Q q)⟩
theorem PA.imp {X : Cx} {e : List Expr} {t t' : TA} (h : PA X e t) (i : ∀ σ H Q, t' σ H Q → t σ H Q) : PA X e t' := ⟨fun pos pins s σ H Q I q => h.run pos pins s σ H Q I (i σ H Q q)⟩
theorem PS.imp {X : Cx} {e : Stmt} {t t' : TS} (h : PS X e t) (i : ∀ D σ H, t' D σ H → t D σ H) : PS X e t' := ⟨fun pins s σ H D I q => h.run pins s σ H D I (i D σ H q)⟩
theorem PSs.imp {X : Cx} {e : List Stmt} {t t' : TS} (h : PSs X e t) (i : ∀ D σ H, t' D σ H → t D σ H) : PSs X e t' := ⟨fun pins s σ H D I q => h.run pins s σ H D I (i D σ H q)⟩

section
variable {K : PySem.W.Frag} {Cl : Nat → Addr} {W : WX} {Z : Addr → Prop} {H H' H1 H2 : Hp} {σ : St} {ρ : Rho} {Q : VK}
theorem VOk.same {x : V} {v : Val} (s : Same H1 H2) (h : VOk K Z σ ρ H H1 x v) : VOk K Z σ ρ H H2 x v := by
  cases v with
  | s d => exact Dp.same (hide_mono s fun _ h => .inl h) h
  | m d => exact Dp.same (hide_mono s fun _ h => .inl h) h
  | b ds =>
    obtain ⟨p, xs, e, n, h1, h2⟩ := h
    exact ⟨p, xs, e, n, s.at h1, DpAll.same (hide_mono s fun _ h => .inl h) h2⟩
  | f ds =>
    obtain ⟨p, xs, e, n, h1, h2⟩ := h
    exact ⟨p, xs, e, n, s.at h1, DpAll.same (hide_mono s fun _ h => .inl h) h2⟩
theorem VOk.back {x : V} {v : Val} (s : Same H H1) (h : VOk K Z σ ρ H1 H2 x v) : VOk K Z σ ρ H H2 x v := by
  cases v with
  | s d => exact h
  | m d => exact h
  | b ds => exact h
  | f ds =>
    obtain ⟨p, xs, e, n, h1, h2⟩ := h
    exact ⟨p, xs, e, s.free n, h1, h2⟩
/-- as it is to be read now -/
theorem VOk.dp {x : V} {v : Val} (I : DI K Z H σ ρ) (h : VOk K Z σ ρ H H1 x v) : Dp K (hide H1 Z) x v.d := by
  cases v with
  | s d => exact Dp.same (hide_mono (Same.refl _) fun _ h => .inl (.inl h)) h
  | m d => exact h
  | b ds =>
    obtain ⟨p, xs, rfl, n, h1, h2⟩ := h
    exact .lst (Rd.of (hide_at (I.out p n) h1)) (DpAll.same (hide_mono (Same.refl _) fun _ h => .inl (.inl h)) h2)
  | f ds =>
    obtain ⟨p, xs, rfl, n, h1, h2⟩ := h
    have np : ¬ Z p := fun z => I.live p z n
    exact .lst (Rd.of (hide_at np h1)) (DpAll.same (hide_mono (Same.refl _) fun _ h => .inl (.inl (.inl h))) h2)
/-- as it is to be kept: not for the moment only -/
@[simp] def Val.st : Val → Option D
  | .s d => some d
  | .m d => if scalarD d = true then some d else none
  | .b _ => none
  | .f ds => some (.list ds)
theorem VOk.stab {x : V} {v : Val} {d : D} (I : DI K Z H σ ρ) (e : v.st = some d) (h : VOk K Z σ ρ H H1 x v) : Dp K (hide H1 (Zo Z σ ρ)) x d := by
  cases v with
  | s d' => cases e; exact h
  | m d' =>
    simp only [Val.st] at e
    split at e
    · rename_i sc
      cases e
      exact Dp.scalar sc h
    · cases e
  | b ds => cases e
  | f ds =>
    cases e
    obtain ⟨p, xs, rfl, n, h1, h2⟩ := h
    have np : ¬ Zo Z σ ρ p := fun z => I.liveZ z n
    exact .lst (Rd.of (hide_at np h1)) (DpAll.same (hide_mono (Same.refl _) fun _ h => .inl (.inl h)) h2)
theorem ErOk.same {e : Er} (s : Same H H1) (h : ErOk Cl W σ H e) : ErOk Cl W σ H1 e := fun dd H' s' => h dd H' (s.trans s')
theorem ROk.from {r : Except Er Val} (s : Same H H1) (h : ROk K Cl W Z σ ρ H Q r) : ROk K Cl W Z σ ρ H1 Q r := by
  cases r with
  | error e => exact ErOk.same s h
  | ok v => exact fun x H' s' hv => h x H' (s.trans s') (hv.back s)
end

/-! ### functions of data, one after another -/
@[simp] def bE (f : FE) (k : Val → FE) (ρ : Rho) : Option (Except Er Val) := match f ρ with
  | none => none
  | some (.error e) => some (.error e)
  | some (.ok v) => k v ρ
@[simp] def ok (d : D) : Option (Except Er Val) := some (.ok (.s d))
theorem te_bind {K : PySem.W.Frag} {Cl : Nat → Addr} {W : WX} {Z : Addr → Prop} {H : Hp} {σ : St} {ρ : Rho} {Q Q1 : VK} {f : FE} {k : Val → FE} {r : Except Er Val} (I : DI K Z H σ ρ) (h : bE f k ρ = some r) (q : ROk K Cl W Z σ ρ H Q r)
    (go : ∀ v x H1, f ρ = some (.ok v) → k v ρ = some r → Same H H1 → VOk K Z σ ρ H H1 x v → DI K Z H1 σ ρ → ROk K Cl W Z σ ρ H1 Q r → Q1 x H1) : teOf K Cl W f σ H Q1 := by
  unfold bE at h
  cases e : f ρ with
  | none => rw [e] at h; cases h
  | some r1 =>
    rw [e] at h
    cases r1 with
    | error er =>
      cases h
      exact ⟨Z, ρ, .error er, I, e, q⟩
    | ok v => exact ⟨Z, ρ, .ok v, I, e, fun x H1 s hv => go v x H1 e h s hv (I.same s) (q.from s)⟩
/-- the end: a value that leans on nothing -/
theorem ROk.scalar {K : PySem.W.Frag} {Cl : Nat → Addr} {W : WX} {Z : Addr → Prop} {H : Hp} {σ : St} {ρ : Rho} {Q : VK} {d : D} {v : V} (q : ROk K Cl W Z σ ρ H Q (.ok (.s d))) (h : ∀ H', Dp K H' v d) : Q v H := q v H (Same.refl _) (h _)
end DL
set_option Elab.async false
set_option linter.all false
set_option maxRecDepth 100000
set_option maxHeartbeats 4000000
/-! DL2: expressions by data. -/
namespace DL
open PySem PySem.Spec PyProof.Rows L2

section
variable {X : Cx} {Cl : Nat → Addr} {W : WX} {a b c e : Expr} {es : List Expr} {fa fb fc f : FE} {pos : Pos}

/-! ### constants and names -/
@[simp] def eC (d : D) (ρ : Rho) : Option (Except Er Val) := ok d
theorem de_const {v : V} {d : D} (h : PE X e (tC v)) (hv : ∀ H, Dp X.K H v d) : DE X Cl W e (eC d) :=
  PE.imp h fun σ H Q ⟨Z, ρ, r, I, e, q⟩ => by cases e; exact q.scalar hv
theorem de_int {i : Int} {j pos} : DE X Cl W (.Constant (.int i) j pos) (eC (.int i)) := de_const pe_int fun _ => .int i
theorem de_bl {i : Bool} {j pos} : DE X Cl W (.Constant (.bool i) j pos) (eC (.bool i)) := de_const pe_bl fun _ => .bl i
theorem de_non {j pos} : DE X Cl W (.Constant .none j pos) (eC .none) := de_const pe_non fun _ => .non
theorem de_str {i : Str} {j pos} : DE X Cl W (.Constant (.str i) j pos) (eC (.str i)) := de_const pe_str fun _ => .str i
theorem de_globI {x : Str} {i : Int} {t : Tok} (hm : X.mg x = some (.int i t)) (hg : Gl X x := by rfl) (hd : (x == ("__debug__" : Str)) = false := by decide) : DE X Cl W (.Name x pos) (eC (.int i)) := de_const (pe_glob (v := .int i) hg hm ⟨t, rfl⟩ hd) fun _ => .int i
theorem de_globT {x : Str} {p : Addr} {d : D} (hm : X.mg x = some (.ref p)) (ht : ∀ H, Dp X.K H (.ref p) d) (hg : Gl X x := by rfl) (hd : (x == ("__debug__" : Str)) = false := by decide) : DE X Cl W (.Name x pos) (eC d) := de_const (pe_glob (v := .ref p) hg hm rfl hd) ht
@[simp] def eV (i : Nat) (ρ : Rho) : Option (Except Er Val) := match ρ[i]? with
  | some (.dat d) => ok d
  | some (.own ds) => some (.ok (.b ds))
  | some (.ownT _ _ ds) => some (.ok (.m (.tuple ds)))
  | _ => none
/-- a tuple with a list of its own, as it is to be read now -/
theorem TupOwn.read {K : PySem.W.Frag} {Z : Addr → Prop} {H : Hp} {σ : St} {ρ : Rho} {T a : Addr} {k : Nat} {ds : List D} (I : DI K Z H σ ρ) (o : Owned σ ρ a) (t : TupOwn K H (hide H (Zo Z σ ρ)) T a k ds) : Dp K (hide H Z) (.ref T) (.tuple ds) := by
  obtain ⟨xs, ys, es, h1, h2, h3, h4, h5, h6⟩ := t
  have m : SameD (hide H (Zo Z σ ρ)) (hide H Z) := hide_mono (Same.refl _) fun _ h => .inl (.inl h)
  refine .tup (SqT.same m h1) ?_
  have hl : Dp K (hide H Z) (.ref a) (.list es) := .lst (Rd.of (hide_at (I.out a o) h5)) (DpAll.same m h6)
  have q := DpAll.set hl k (DpAll.same m h2)
  rw [List.set_set, List.set_set] at q
  obtain ⟨hk, e3⟩ := List.getElem?_eq_some_iff.mp h3
  obtain ⟨hk2, e4⟩ := List.getElem?_eq_some_iff.mp h4
  have r3 : xs.set k (.ref a) = xs := by rw [← e3]; exact List.set_getElem_self hk
  have r4 : ds.set k (.list es) = ds := by rw [← e4]; exact List.set_getElem_self hk2
  rw [r3, r4] at q
  exact q
theorem de_var {i : Nat} {x : Str} (h : PE X (.Name x pos) (tVar i)) : DE X Cl W (.Name x pos) (eV i) := PE.imp h fun σ H Q ⟨Z, ρ, r, I, e, q⟩ => by
  unfold eV at e
  split at e
  · rename_i d hd
    cases e
    obtain ⟨v, hv, hp⟩ := I.slots i _ hd
    exact ⟨v, hv, q v H (Same.refl _) hp⟩
  · rename_i ds hd
    cases e
    obtain ⟨p, xs, hv, hp, hds⟩ := I.slots i _ hd
    exact ⟨_, hv, q _ H (Same.refl _) ⟨p, xs, rfl, ⟨i, .inl ⟨hv, ds, hd⟩⟩, hp, hds⟩⟩
  · rename_i a k ds hd
    cases e
    obtain ⟨T, hv, t⟩ := I.slots i _ hd
    exact ⟨_, hv, q _ H (Same.refl _) (t.read I ⟨i, .inr ⟨k, ds, hd⟩⟩)⟩
  · cases e

/-! ### operators -/
/-- what an operation on values does, by data -/
def R2D (K : PySem.W.Frag) (r : R2) (g : Val → Val → Option Val) : Prop := ∀ (Z : Addr → Prop) (σ : St) (ρ : Rho) (H0 H : Hp) (x y : V) (a b v : Val) (Q : VK), DI K Z H0 σ ρ → Same H0 H → VOk K Z σ ρ H0 H x a → VOk K Z σ ρ H0 H y b → g a b = some v →
  (∀ z H', Same H H' → VOk K Z σ ρ H0 H' z v → Q z H') → r x y H Q
def e2 (g : Val → Val → Option Val) (fa fb : FE) : FE := bE fa fun a => bE fb fun b _ => (g a b).map .ok
theorem de_tOp {r : R2} {g : Val → Val → Option Val} (h : PE X e (tOp r (teOf X.K Cl W fa) (teOf X.K Cl W fb))) (hr : R2D X.K r g) : DE X Cl W e (e2 g fa fb) := PE.imp h fun σ H Q ⟨Z, ρ, r1, I, e, q⟩ => by
  refine te_bind I e q fun v x H1 _ h1 s1 hv I1 q1 => te_bind I1 h1 q1 fun u y H2 _ h2 s2 hu I2 q2 => ?_
  cases hg : g v u with
  | none => rw [hg] at h2; cases h2
  | some w =>
    rw [hg] at h2
    cases h2
    exact hr Z σ ρ H H2 x y v u w Q I (s1.trans s2) (hv.same s2) (hu.back s1) hg fun z H' s' hz => q z H' (s1.trans (s2.trans s')) hz
theorem de_op {op : Operator} {r : R2} {g : Val → Val → Option Val} (ho : OpR X (binaryOp op) r) (hr : R2D X.K r g) (ha : DE X Cl W a fa) (hb : DE X Cl W b fb) : DE X Cl W (.BinOp a op b pos) (e2 g fa fb) := de_tOp (pe_op ho ha hb) hr
theorem de_cmp {op : CmpOp} {r : R2} {g : Val → Val → Option Val} (ho : OpR X (compareOp op) r) (hr : R2D X.K r g) (ha : DE X Cl W a fa) (hb : DE X Cl W b fb) (hm : behindInMarks op b = false) : DE X Cl W (.Compare a [op] [b] pos) (e2 g fa fb) := de_tOp (pe_cmpR ho ha hb hm) hr
theorem R2D.or {K : PySem.W.Frag} {r r' : R2} {g g' : Val → Val → Option Val} (h : R2D K r g) (h' : R2D K r' g') : R2D K (fun x y H Q => r x y H Q ∨ r' x y H Q) (fun a b => (g a b).or (g' a b)) := fun Z σ ρ H0 H x y a b v Q I s ha hb e q => by
  have e : (g a b).or (g' a b) = some v := e
  cases hg : g a b with
  | some w =>
    rw [hg] at e
    cases e
    exact .inl (h Z σ ρ H0 H x y a b _ Q I s ha hb hg q)
  | none =>
    rw [hg] at e
    exact .inr (h' Z σ ρ H0 H x y a b _ Q I s ha hb e q)

@[simp] def gI (F : Int → Int → D) (a b : Val) : Option Val := match a.d, b.d with
  | .int i, .int j => some (.s (F i j))
  | _, _ => none
@[simp] def gIc (C : Int → Int → Bool) (F : Int → Int → D) (a b : Val) : Option Val := match a.d, b.d with
  | .int i, .int j => if C i j = true then some (.s (F i j)) else none
  | _, _ => none
variable {K : PySem.W.Frag}
theorem VOk.int_inv {Z : Addr → Prop} {σ : St} {ρ : Rho} {H0 H : Hp} {x : V} {a : Val} {i : Int} (I : DI K Z H0 σ ρ) (h : VOk K Z σ ρ H0 H x a) (e : a.d = .int i) : x = .int i := by
  have q := h.dp I
  rw [e] at q
  exact q.int_inv
theorem VOk.str_inv {Z : Addr → Prop} {σ : St} {ρ : Rho} {H0 H : Hp} {x : V} {a : Val} {i : Str} (I : DI K Z H0 σ ρ) (h : VOk K Z σ ρ H0 H x a) (e : a.d = .str i) : x = .str i := by
  have q := h.dp I
  rw [e] at q
  exact q.str_inv
theorem VOk.bl_inv {Z : Addr → Prop} {σ : St} {ρ : Rho} {H0 H : Hp} {x : V} {a : Val} {i : Bool} (I : DI K Z H0 σ ρ) (h : VOk K Z σ ρ H0 H x a) (e : a.d = .bool i) : x = .bl i := by
  have q := h.dp I
  rw [e] at q
  exact q.bl_inv
theorem r2_I {g : Int → Int → V} {F : Int → Int → D} (h : ∀ i j H, Dp K H (g i j) (F i j)) : R2D K (rI0 g) (gI F) := fun Z σ ρ H0 H x y a b v Q I s ha hb e q => by
  unfold gI at e
  split at e
  · rename_i i j e1 e2
    cases e
    exact ⟨i, j, ha.int_inv I e1, hb.int_inv I e2, q _ H (Same.refl _) (h i j _)⟩
  · cases e
theorem r2_Ic {C : Int → Int → Prop} {c : Int → Int → Bool} {g : Int → Int → V} {F : Int → Int → D} (hc : ∀ i j, c i j = true → C i j) (h : ∀ i j H, Dp K H (g i j) (F i j)) : R2D K (rI C g) (gIc c F) := fun Z σ ρ H0 H x y a b v Q I s ha hb e q => by
  unfold gIc at e
  split at e
  · rename_i i j e1 e2
    split at e
    · rename_i hcc
      cases e
      exact ⟨i, j, ha.int_inv I e1, hb.int_inv I e2, hc i j hcc, q _ H (Same.refl _) (h i j _)⟩
    · cases e
  · cases e
def cDiv (i j : Int) : Bool := decide (0 < j) && decide (j < 1073741824)
def cMod (i j : Int) : Bool := decide (0 < j)
def cMul (i j : Int) : Bool := (decide (-(2 ^ 64) < i) && decide (i < 2 ^ 64)) || (decide (-(2 ^ 64) < j) && decide (j < 2 ^ 64))
def cPow (i j : Int) : Bool := decide (0 ≤ j) && (decide (j ≤ 1000000) && decide (i.natAbs < 2 ^ 64))
def cShr (i j : Int) : Bool := decide (0 ≤ j)
@[simp] def gMul (a b : Val) : Option Val := (gIc cMul fun i j => .int (i * j)) a b
@[simp] def gDiv (a b : Val) : Option Val := (gIc cDiv fun i j => .int (i / j)) a b
@[simp] def gMod (a b : Val) : Option Val := (gIc cMod fun i j => .int (i % j)) a b
@[simp] def gPow (a b : Val) : Option Val := (gIc cPow fun i j => .int (i ^ j.toNat)) a b
@[simp] def gShl (a b : Val) : Option Val := (gIc cPow fun i j => .int (i * 2 ^ j.toNat)) a b
@[simp] def gShr (a b : Val) : Option Val := (gIc cShr fun i j => .int (i / 2 ^ j.toNat)) a b
@[simp] def gSub (a b : Val) : Option Val := (gI fun i j => .int (i - j)) a b
@[simp] def gAddI (a b : Val) : Option Val := (gI fun i j => .int (i + j)) a b
@[simp] def gAnd (a b : Val) : Option Val := (gI fun i j => .int (Builtin.bitAnd i j)) a b
@[simp] def gOr (a b : Val) : Option Val := (gI fun i j => .int (Builtin.bitOr i j)) a b
@[simp] def gXor (a b : Val) : Option Val := (gI fun i j => .int (Builtin.bitXor i j)) a b
@[simp] def gLt (a b : Val) : Option Val := (gI fun i j => .bool (decide (i < j))) a b
@[simp] def gLe (a b : Val) : Option Val := (gI fun i j => .bool (decide (i ≤ j))) a b
@[simp] def gGt (a b : Val) : Option Val := (gI fun i j => .bool (decide (j < i))) a b
@[simp] def gGe (a b : Val) : Option Val := (gI fun i j => .bool (decide (j ≤ i))) a b
theorem cPow_ok (i j : Int) (h : cPow i j = true) : CPow i j := by
  simp only [cPow, Bool.and_eq_true, decide_eq_true_eq] at h
  exact ⟨h.1, h.2.1, h.2.2⟩
theorem cMul_ok (i j : Int) (h : cMul i j = true) : CMul i j := by
  simp only [cMul, Bool.and_eq_true, Bool.or_eq_true, decide_eq_true_eq] at h
  exact h
theorem cDiv_ok (i j : Int) (h : cDiv i j = true) : CDiv i j := by
  simp only [cDiv, Bool.and_eq_true, decide_eq_true_eq] at h
  exact h
theorem de_sub (ha : DE X Cl W a fa) (hb : DE X Cl W b fb) : DE X Cl W (.BinOp a .Sub b pos) (e2 gSub fa fb) := de_op op_sub (r2_I fun i j _ => .int _) ha hb
theorem de_addI (ha : DE X Cl W a fa) (hb : DE X Cl W b fb) : DE X Cl W (.BinOp a .Add b pos) (e2 gAddI fa fb) := de_op op_add (r2_I fun i j _ => .int _) ha hb
theorem de_mul (ha : DE X Cl W a fa) (hb : DE X Cl W b fb) : DE X Cl W (.BinOp a .Mult b pos) (e2 gMul fa fb) := de_op op_mul (r2_Ic cMul_ok fun i j _ => .int _) ha hb
theorem de_div (ha : DE X Cl W a fa) (hb : DE X Cl W b fb) : DE X Cl W (.BinOp a .FloorDiv b pos) (e2 gDiv fa fb) := de_op op_fdiv (r2_Ic cDiv_ok fun i j _ => .int _) ha hb
theorem de_mod (ha : DE X Cl W a fa) (hb : DE X Cl W b fb) : DE X Cl W (.BinOp a .Mod b pos) (e2 gMod fa fb) := de_op op_mod (r2_Ic (fun _ _ h => of_decide_eq_true h) fun i j _ => .int _) ha hb
theorem de_pow (ha : DE X Cl W a fa) (hb : DE X Cl W b fb) : DE X Cl W (.BinOp a .Pow b pos) (e2 gPow fa fb) := de_op op_pow (r2_Ic cPow_ok fun i j _ => .int _) ha hb
theorem de_shl (ha : DE X Cl W a fa) (hb : DE X Cl W b fb) : DE X Cl W (.BinOp a .LShift b pos) (e2 gShl fa fb) := de_op op_shl (r2_Ic cPow_ok fun i j _ => .int _) ha hb
theorem de_shr (ha : DE X Cl W a fa) (hb : DE X Cl W b fb) : DE X Cl W (.BinOp a .RShift b pos) (e2 gShr fa fb) := de_op op_shr (r2_Ic (fun _ _ h => of_decide_eq_true h) fun i j _ => .int _) ha hb
theorem de_and (ha : DE X Cl W a fa) (hb : DE X Cl W b fb) : DE X Cl W (.BinOp a .BitAnd b pos) (e2 gAnd fa fb) := de_op op_and (r2_I fun i j _ => .int _) ha hb
theorem de_or (ha : DE X Cl W a fa) (hb : DE X Cl W b fb) : DE X Cl W (.BinOp a .BitOr b pos) (e2 gOr fa fb) := de_op op_or (r2_I fun i j _ => .int _) ha hb
theorem de_xor (ha : DE X Cl W a fa) (hb : DE X Cl W b fb) : DE X Cl W (.BinOp a .BitXor b pos) (e2 gXor fa fb) := de_op op_xor (r2_I fun i j _ => .int _) ha hb
@[simp] def gNeg (a : Val) : Option Val := match a.d with
  | .int i => some (.s (.int (-i)))
  | _ => none
def e1 (g : Val → Option Val) (fa : FE) : FE := bE fa fun a _ => (g a).map .ok
theorem de_neg (ha : DE X Cl W a fa) : DE X Cl W (.UnaryOp .USub a pos) (e1 gNeg fa) := PE.imp (pe_un un_neg ha) fun σ H Q ⟨Z, ρ, r1, I, e, q⟩ => by
  refine te_bind I e q fun v x H1 _ h1 s1 hv I1 q1 => ?_
  unfold gNeg at h1
  split at h1
  · rename_i i e1
    cases h1
    exact ⟨i, hv.int_inv I e1, q _ H1 s1 (.int _)⟩
  · cases h1

/-! ### lists put together -/
/-- the items of a list that is not for the moment only -/
@[simp] def Val.items : Val → Option (List D)
  | .s (.list ds) => some ds
  | .m (.list ds) => if ds.all scalarD = true then some ds else none
  | .b ds => some ds
  | .f ds => some ds
  | _ => none
theorem VOk.items {Z : Addr → Prop} {σ : St} {ρ : Rho} {H0 H : Hp} {x : V} {a : Val} {ds : List D} (I : DI K Z H0 σ ρ) (e : a.items = some ds) (h : VOk K Z σ ρ H0 H x a) : ∃ p xs, x = .ref p ∧ Rd H p (.lst xs) ∧ DpAll K (hide H (Zo Z σ ρ)) xs ds := by
  cases a with
  | s d =>
    cases d with
    | list ys =>
      cases e
      obtain ⟨p, xs, rfl, h1, h2⟩ := Dp.lst_inv (show Dp K (hide H (Zo Z σ ρ)) x (.list ds) from h)
      exact ⟨p, xs, rfl, Rd.same hide_sub h1, h2⟩
    | _ => cases e
  | m d =>
    cases d with
    | list ys =>
      simp only [Val.items] at e
      split at e
      · rename_i sc
        cases e
        obtain ⟨p, xs, rfl, h1, h2⟩ := Dp.lst_inv (show Dp K (hide H Z) x (.list ds) from h)
        exact ⟨p, xs, rfl, Rd.same hide_sub h1, DpAll.scalar sc h2⟩
      · cases e
    | _ => cases e
  | b ys =>
    cases e
    obtain ⟨p, xs, rfl, n, h1, h2⟩ := h
    exact ⟨p, xs, rfl, Rd.of h1, h2⟩
  | f ys =>
    cases e
    obtain ⟨p, xs, rfl, n, h1, h2⟩ := h
    exact ⟨p, xs, rfl, Rd.of h1, DpAll.same (hide_mono (Same.refl _) fun _ h => .inl (.inl h)) h2⟩
theorem Rd.lstM {pins : List (Addr × Obj)} {σ : St} {H : Hp} {s : Shared} {l : Addr} {xs : List V} (I : Inv X pins σ H s) (hH : Rd H l (.lst xs)) : xs.length ≤ sizeLine ∧ ∃ (its : List Value) (n : Nat), Vals xs its ∧ xs.length = its.length ∧ s.heap.get? l = some { cls := .type "list", data := .seq its.toArray n } := by
  obtain ⟨z, its, n, r, e⟩ := (show ObjOk X.prog X.w H s.heap l (.lst xs) from hH.ok I.hok)
  exact ⟨z, its, n, r, r.length, e⟩
/-- list + list, tracked or known -/
def rCatR : R2 := fun x y H Q => ∃ l b xs zs, x = .ref l ∧ y = .ref b ∧ Rd H l (.lst xs) ∧ Rd H b (.lst zs) ∧ xs.length + zs.length ≤ sizeLine ∧ ∀ p, H p = none → Q (.ref p) (upd H p (.lst (xs ++ zs)))
theorem op_catR : OpR X (binaryOp .Add) rCatR := by
  intro pins s σ H x y v u Q I rx ry h
  obtain ⟨l, b, xs, zs, rfl, rfl, hH, hB, hz, q⟩ := h
  cases rx
  cases ry
  obtain ⟨z, its, n, r, hl, e⟩ := Rd.lstM I hH
  obtain ⟨z2, its2, n2, r2, hl2, e2⟩ := Rd.lstM I hB
  refine PySem.P.add_list e e2 ?_ (by rw [List.size_toArray, List.size_toArray]; omega)
  have ea : its.toArray ++ its2.toArray = (its ++ its2).toArray := by simp
  rw [ea]
  exact ⟨.ref _, _, I.lnew (t' := s.toks) (r.append r2) (by rw [List.length_append]; omega), rfl, q _ I.fresh⟩
theorem same_upd {H : Hp} {p : Addr} {o : HO} (h : H p = none) : Same H (upd H p o) := .of fun b x e => by
  rw [upd_ne (ne_of_none e h)]
  exact e
/-- a new list of stable items, just laid -/
theorem VOk.new {Z : Addr → Prop} {σ : St} {ρ : Rho} {H0 H : Hp} {p : Addr} {xs : List V} {ds : List D} (s : Same H0 H) (n : H p = none) (h : DpAll K (hide H (Zo Z σ ρ)) xs ds) : VOk K Z σ ρ H0 (upd H p (.lst xs)) (.ref p) (.f ds) :=
  ⟨p, xs, rfl, s.free n, upd_same, DpAll.same (hide_mono (same_upd n) fun b hb => by
    rcases hb with hb | rfl
    · exact .inl hb
    · exact .inr n) h⟩
def lineOk (n : Nat) : Bool := decide (n ≤ 16777216)
theorem lineOk_ok {n : Nat} (h : lineOk n = true) : n ≤ sizeLine := by
  rw [sizeLine_eq]
  exact of_decide_eq_true h
@[simp] def gCat (a b : Val) : Option Val := match a.items, b.items with
  | some xs, some ys => if lineOk (xs.length + ys.length) = true then some (.f (xs ++ ys)) else none
  | _, _ => none
theorem r2_cat : R2D K rCatR gCat := fun Z σ ρ H0 H x y a b v Q I s ha hb e q => by
  unfold gCat at e
  split at e
  · rename_i ds es e1 e2
    split at e
    · rename_i hl
      cases e
      obtain ⟨l, xs, rfl, h1, h2⟩ := ha.items I e1
      obtain ⟨m, ys, rfl, h3, h4⟩ := hb.items I e2
      refine ⟨l, m, xs, ys, rfl, rfl, h1, h3, by rw [h2.length, h4.length]; exact lineOk_ok hl, fun p np => ?_⟩
      exact q _ _ (same_upd np) (VOk.new s np (h2.append h4))
    · cases e
  · cases e
/-- text + text -/
@[simp] def gCatS (a b : Val) : Option Val := match a.d, b.d with
  | .str x, .str y => if lineOk (x.length + y.length) = true then some (.s (.str (x ++ y))) else none
  | _, _ => none
theorem r2_catS : R2D K (fun x y H Q => ∃ i j, x = .str i ∧ y = .str j ∧ i.length + j.length ≤ sizeLine ∧ Q (.str (i ++ j)) H) gCatS := fun Z σ ρ H0 H x y a b v Q I s ha hb e q => by
  unfold gCatS at e
  split at e
  · rename_i i j e1 e2
    split at e
    · rename_i hl
      cases e
      exact ⟨i, j, ha.str_inv I e1, hb.str_inv I e2, lineOk_ok hl, q _ H (Same.refl _) (.str _)⟩
    · cases e
  · cases e
@[simp] def gAdd (a b : Val) : Option Val := (gAddI a b).or (gCat a b)
theorem de_add (ha : DE X Cl W a fa) (hb : DE X Cl W b fb) : DE X Cl W (.BinOp a .Add b pos) (e2 gAdd fa fb) := de_op (op_add.or op_catR) ((r2_I fun i j _ => .int _).or r2_cat) ha hb

/-! ### comparisons -/
def eqD (a b : D) : Option Bool := if (SeqAt.shaped a && SeqAt.shaped b) = true then some (PyData.eqv a b) else none
@[simp] def gEq (a b : Val) : Option Val := (eqD a.d b.d).map fun k => .s (.bool k)
@[simp] def gNe (a b : Val) : Option Val := (eqD a.d b.d).map fun k => .s (.bool (!k))
theorem r2_eq : R2D K (rEqD K) gEq := fun Z σ ρ H0 H x y a b v Q I s ha hb e q => by
  unfold gEq eqD at e
  split at e
  · rename_i sh
    cases e
    obtain ⟨s1, s2⟩ := Bool.and_eq_true_iff.mp sh
    exact ⟨a.d, b.d, (Dp.same hide_sub (ha.dp I)).up (SeqAt.canLay_of_shaped s1), (Dp.same hide_sub (hb.dp I)).up (SeqAt.canLay_of_shaped s2), s1, s2, q _ H (Same.refl _) (.bl _)⟩
  · cases e
theorem r2_ne : R2D K (rNeD K) gNe := fun Z σ ρ H0 H x y a b v Q I s ha hb e q => by
  unfold gNe eqD at e
  split at e
  · rename_i sh
    cases e
    obtain ⟨s1, s2⟩ := Bool.and_eq_true_iff.mp sh
    exact ⟨a.d, b.d, (Dp.same hide_sub (ha.dp I)).up (SeqAt.canLay_of_shaped s1), (Dp.same hide_sub (hb.dp I)).up (SeqAt.canLay_of_shaped s2), s1, s2, q _ H (Same.refl _) (.bl _)⟩
  · cases e
@[simp] def isNone : D → Bool
  | .none => true
  | _ => false
theorem Dp.isNone {H : Hp} {x : V} {d : D} (h : Dp K H x d) : decide (x = .non) = isNone d := by
  cases h <;> rfl
@[simp] def gIsN (a b : Val) : Option Val := if isNone b.d = true then some (.s (.bool (isNone a.d))) else none
@[simp] def gNotN (a b : Val) : Option Val := if isNone b.d = true then some (.s (.bool (!isNone a.d))) else none
theorem isNone_eq {d : D} (h : isNone d = true) : d = .none := by cases d <;> first | rfl | cases h
theorem r2_isN : R2D K (fun x y H Q => y = .non ∧ Q (.bl (decide (x = .non))) H) gIsN := fun Z σ ρ H0 H x y a b v Q I s ha hb e q => by
  unfold gIsN at e
  split at e
  · rename_i h
    cases e
    have q1 := hb.dp I
    rw [isNone_eq h] at q1
    refine ⟨q1.non_inv, ?_⟩
    rw [(ha.dp I).isNone]
    exact q _ H (Same.refl _) (.bl _)
  · cases e
theorem r2_notN : R2D K (fun x y H Q => y = .non ∧ Q (.bl (!decide (x = .non))) H) gNotN := fun Z σ ρ H0 H x y a b v Q I s ha hb e q => by
  unfold gNotN at e
  split at e
  · rename_i h
    cases e
    have q1 := hb.dp I
    rw [isNone_eq h] at q1
    refine ⟨q1.non_inv, ?_⟩
    rw [(ha.dp I).isNone]
    exact q _ H (Same.refl _) (.bl _)
  · cases e
/-- flat things, as == of the layer's in takes them -/
theorem Dp.flat {H : Hp} {x : V} {d : D} (h : Dp K H x d) (s : scalarD d = true) : flatV x = true := by
  cases h <;> first | rfl | cases s
def toV : D → V
  | .bool b => .bl b
  | .int i => .int i
  | .str x => .str x
  | _ => .non
theorem Dp.toV {H : Hp} {x : V} {d : D} (h : Dp K H x d) (s : scalarD d = true) : x = toV d := by
  cases h <;> first | rfl | cases s
theorem DpAll.toV {H : Hp} : ∀ {xs : List V} {ds : List D}, DpAll K H xs ds → ds.all scalarD = true → xs = ds.map toV ∧ xs.all flatV = true
  | _, _, .nil, _ => ⟨rfl, rfl⟩
  | _, _, .cons h t, s => by
    rw [List.all_cons, Bool.and_eq_true] at s
    obtain ⟨e1, e2⟩ := DpAll.toV t s.2
    have e3 := Dp.toV h s.1
    have e4 := Dp.flat h s.1
    subst e3
    refine ⟨by rw [List.map_cons, ← e1], ?_⟩
    rw [List.all_cons, e4, e2]
    rfl
def inD (x : D) (ds : List D) : Bool := inV (toV x) (ds.map toV)
@[simp] def seqItems : D → Option (List D)
  | .list ds => some ds
  | .tuple ds => some ds
  | _ => none
@[simp] def gInX (neg : Bool) (a b : Val) : Option Val := match seqItems b.d with
  | some ds => if (scalarD a.d && ds.all scalarD) = true then some (.s (.bool (if neg then !inD a.d ds else inD a.d ds))) else none
  | none => none
theorem Dp.seq_inv {H : Hp} {x : V} {d : D} {ds : List D} (h : Dp K H x d) (e : seqItems d = some ds) : ∃ p xs, x = .ref p ∧ (SqL K H p xs ∨ SqT K H p xs) ∧ DpAll K H xs ds := by
  cases h with
  | lst h t => cases e; exact ⟨_, _, rfl, .inl (.inl h), t⟩
  | tup h t => cases e; exact ⟨_, _, rfl, .inr h, t⟩
  | _ => cases e
theorem r2_in {neg : Bool} : R2D K (rIn K neg) (gInX neg) := fun Z σ ρ H0 H x y a b v Q I s ha hb e q => by
  unfold gInX at e
  split at e
  · rename_i ds hd
    split at e
    · rename_i sc
      cases e
      obtain ⟨s1, s2⟩ := Bool.and_eq_true_iff.mp sc
      obtain ⟨p, xs, rfl, h1, h2⟩ := (Dp.same hide_sub (hb.dp I)).seq_inv hd
      have h3 := (Dp.same hide_sub (ha.dp I))
      obtain ⟨e1, e2⟩ := h2.toV s2
      refine ⟨p, xs, rfl, h1, h3.flat s1, e2, ?_⟩
      have ex := h3.toV s1
      have ei : inV x xs = inD a.d ds := by rw [ex, e1]; rfl
      rw [ei]
      exact q _ H (Same.refl _) (.bl _)
    · cases e
  · cases e
@[simp] def gIn (a b : Val) : Option Val := gInX false a b
@[simp] def gNotIn (a b : Val) : Option Val := gInX true a b
/-- texts by their signs -/
@[simp] def gS (F : Str → Str → D) (a b : Val) : Option Val := match a.d, b.d with
  | .str i, .str j => some (.s (F i j))
  | _, _ => none
theorem r2_S {g : Str → Str → V} {F : Str → Str → D} (h : ∀ i j H, Dp K H (g i j) (F i j)) : R2D K (fun x y H Q => ∃ i j, x = .str i ∧ y = .str j ∧ Q (g i j) H) (gS F) := fun Z σ ρ H0 H x y a b v Q I s ha hb e q => by
  unfold gS at e
  split at e
  · rename_i i j e1 e2
    cases e
    exact ⟨i, j, ha.str_inv I e1, hb.str_inv I e2, q _ H (Same.refl _) (h i j _)⟩
  · cases e
def gLtS := gS fun i j => .bool (decide (i.cps.toList < j.cps.toList))
end
end DL
set_option Elab.async false
set_option linter.all false
set_option maxRecDepth 100000
set_option maxHeartbeats 4000000
/-! DL3: arguments, calls, displays, places, slices, tests, by data. -/
namespace DL
open PySem PySem.Spec PyProof.Rows L2

/-! ### arguments -/
abbrev FA := Rho → Option (Except Er (List Val))
def VAll (K : PySem.W.Frag) (Z : Addr → Prop) (σ : St) (ρ : Rho) (H H1 : Hp) (xs : List V) (vs : List Val) : Prop := Paired (VOk K Z σ ρ H H1) xs vs
def RAk (K : PySem.W.Frag) (Cl : Nat → Addr) (W : WX) (Z : Addr → Prop) (σ : St) (ρ : Rho) (H : Hp) (Q : List V → Hp → Prop) : Except Er (List Val) → Prop
  | .ok vs => ∀ xs H', Same H H' → VAll K Z σ ρ H H' xs vs → Q xs H'
  | .error e => ErOk Cl W σ H e
def taOf (K : PySem.W.Frag) (Cl : Nat → Addr) (W : WX) (f : FA) : TA := fun σ H Q => ∃ Z ρ r, DI K Z H σ ρ ∧ f ρ = some r ∧ RAk K Cl W Z σ ρ H Q r
def DA (X : Cx) (Cl : Nat → Addr) (W : WX) (es : List Expr) (f : FA) : Prop := PA X es (taOf X.K Cl W f)
theorem te_step {K : PySem.W.Frag} {Cl : Nat → Addr} {W : WX} {Z : Addr → Prop} {H : Hp} {σ : St} {ρ : Rho} {Q1 : VK} {f : FE} {r : Except Er Val} (I : DI K Z H σ ρ) (h : f ρ = some r) (he : ∀ e, r = .error e → ErOk Cl W σ H e)
    (go : ∀ v x H1, r = .ok v → Same H H1 → VOk K Z σ ρ H H1 x v → DI K Z H1 σ ρ → Q1 x H1) : teOf K Cl W f σ H Q1 := by
  refine ⟨Z, ρ, r, I, h, ?_⟩
  cases r with
  | error e => exact he e rfl
  | ok v => exact fun x H1 s hv => go v x H1 rfl s hv (I.same s)
theorem ta_step {K : PySem.W.Frag} {Cl : Nat → Addr} {W : WX} {Z : Addr → Prop} {H : Hp} {σ : St} {ρ : Rho} {Q1 : List V → Hp → Prop} {f : FA} {r : Except Er (List Val)} (I : DI K Z H σ ρ) (h : f ρ = some r) (he : ∀ e, r = .error e → ErOk Cl W σ H e)
    (go : ∀ vs xs H1, r = .ok vs → Same H H1 → VAll K Z σ ρ H H1 xs vs → DI K Z H1 σ ρ → Q1 xs H1) : taOf K Cl W f σ H Q1 := by
  refine ⟨Z, ρ, r, I, h, ?_⟩
  cases r with
  | error e => exact he e rfl
  | ok vs => exact fun x H1 s hv => go vs x H1 rfl s hv (I.same s)
section
variable {K : PySem.W.Frag} {Z : Addr → Prop} {σ : St} {ρ : Rho} {H0 H H1 H2 : Hp}
theorem VAll.same : ∀ {xs : List V} {vs : List Val}, Same H1 H2 → VAll K Z σ ρ H0 H1 xs vs → VAll K Z σ ρ H0 H2 xs vs
  | _, _, _, .nil => .nil
  | _, _, s, .cons h t => .cons (h.same s) (VAll.same s t)
theorem VAll.back : ∀ {xs : List V} {vs : List Val}, Same H0 H → VAll K Z σ ρ H H1 xs vs → VAll K Z σ ρ H0 H1 xs vs
  | _, _, _, .nil => .nil
  | _, _, s, .cons h t => .cons (h.back s) (VAll.back s t)
theorem VAll.dp (I : DI K Z H0 σ ρ) : ∀ {xs : List V} {vs : List Val}, VAll K Z σ ρ H0 H1 xs vs → DpAll K (hide H1 Z) xs (vs.map Val.d)
  | _, _, .nil => .nil
  | _, _, .cons h t => .cons (h.dp I) (VAll.dp I t)
/-- all of them are to be kept -/
@[simp] def stAll : List Val → Option (List D)
  | [] => some []
  | v :: vs => match v.st, stAll vs with
    | some d, some ds => some (d :: ds)
    | _, _ => none
theorem VAll.stab (I : DI K Z H0 σ ρ) : ∀ {xs : List V} {vs : List Val} {ds : List D}, stAll vs = some ds → VAll K Z σ ρ H0 H1 xs vs → DpAll K (hide H1 (Zo Z σ ρ)) xs ds
  | _, _, _, e, .nil => by cases e; exact .nil
  | _, _, ds, e, .cons h t => by
    simp only [stAll] at e
    split at e
    · rename_i d es e1 e2
      cases e
      exact .cons (h.stab I e1) (VAll.stab I e2 t)
    · cases e
theorem stAll_len : ∀ {vs : List Val} {ds : List D}, stAll vs = some ds → ds.length = vs.length
  | [], _, e => by cases e; rfl
  | v :: vs, ds, e => by
    simp only [stAll] at e
    split at e
    · rename_i d es e1 e2
      cases e
      rw [List.length_cons, List.length_cons, stAll_len e2]
    · cases e
end
@[simp] def aNil (ρ : Rho) : Option (Except Er (List Val)) := some (.ok [])
@[simp] def aCons (f : FE) (g : FA) (ρ : Rho) : Option (Except Er (List Val)) := match f ρ with
  | none => none
  | some (.error e) => some (.error e)
  | some (.ok v) => match g ρ with
    | none => none
    | some (.error e) => some (.error e)
    | some (.ok vs) => some (.ok (v :: vs))
section
variable {X : Cx} {Cl : Nat → Addr} {W : WX} {a b c e : Expr} {es : List Expr} {fa fb fc f : FE} {g : FA} {p pos : Pos}
theorem da_nil : DA X Cl W [] aNil := PA.imp pa_nil fun σ H Q ⟨Z, ρ, r, I, e, q⟩ => by
  cases e
  exact q [] H (Same.refl _) .nil
theorem da_cons (ha : DE X Cl W e f) (hr : DA X Cl W es g) (hs : starEach (e :: es) X.env = (false, eval e X.env) :: starEach es X.env := by rfl) : DA X Cl W (e :: es) (aCons f g) := PA.imp (pa_cons ha hr hs) fun σ H Q ⟨Z, ρ, r, I, e, q⟩ => by
  unfold aCons at e
  cases e1 : f ρ with
  | none => rw [e1] at e; cases e
  | some r1 =>
    refine te_step I e1 (fun er z => ?_) fun v x H1 ev s1 hv I1 => ?_
    · rw [e1, z] at e
      cases e
      exact q
    · subst ev
      rw [e1] at e
      cases e2 : g ρ with
      | none => rw [e2] at e; cases e
      | some r2 =>
        refine ta_step I1 e2 (fun er z => ?_) fun vs xs H2 ev s2 hvs I2 => ?_
        · rw [e2, z] at e
          cases e
          exact ErOk.same s1 q
        · subst ev
          rw [e2] at e
          cases e
          exact q (x :: xs) H2 (s1.trans s2) (.cons (hv.same s2) (hvs.back s1))
/-- a starred list or tuple: its items -/
@[simp] def Val.parts : Val → Option (List Val)
  | .s (.list ds) => some (ds.map .s)
  | .s (.tuple ds) => some (ds.map .s)
  | .m (.list ds) => some (ds.map .m)
  | .m (.tuple ds) => some (ds.map .m)
  | .b ds => some (ds.map .s)
  | .f ds => some (ds.map .s)
  | _ => none
theorem vall_s {K : PySem.W.Frag} {Z : Addr → Prop} {σ : St} {ρ : Rho} {H0 H1 : Hp} : ∀ {xs : List V} {ds : List D}, DpAll K (hide H1 (Zo Z σ ρ)) xs ds → VAll K Z σ ρ H0 H1 xs (ds.map .s)
  | _, _, .nil => .nil
  | _, _, .cons h t => .cons h (vall_s t)
theorem vall_m {K : PySem.W.Frag} {Z : Addr → Prop} {σ : St} {ρ : Rho} {H0 H1 : Hp} : ∀ {xs : List V} {ds : List D}, DpAll K (hide H1 Z) xs ds → VAll K Z σ ρ H0 H1 xs (ds.map .m)
  | _, _, .nil => .nil
  | _, _, .cons h t => .cons h (vall_m t)
theorem VOk.parts {K : PySem.W.Frag} {Z : Addr → Prop} {σ : St} {ρ : Rho} {H0 H : Hp} {x : V} {v : Val} {vs : List Val} (I : DI K Z H0 σ ρ) (h : VOk K Z σ ρ H0 H x v) (e : v.parts = some vs) :
    ∃ p xs, x = .ref p ∧ (SqT K H p xs ∨ SqL K H p xs) ∧ VAll K Z σ ρ H0 H xs vs := by
  cases v with
  | s d =>
    cases d with
    | list ds =>
      cases e
      obtain ⟨p, xs, rfl, h1, h2⟩ := Dp.lst_inv (show Dp K (hide H (Zo Z σ ρ)) x (.list ds) from h)
      exact ⟨p, xs, rfl, .inr (.inl (Rd.same hide_sub h1)), vall_s h2⟩
    | tuple ds =>
      cases e
      obtain ⟨p, xs, rfl, h1, h2⟩ := Dp.tup_inv (show Dp K (hide H (Zo Z σ ρ)) x (.tuple ds) from h)
      exact ⟨p, xs, rfl, .inl (SqT.same hide_sub h1), vall_s h2⟩
    | _ => cases e
  | m d =>
    cases d with
    | list ds =>
      cases e
      obtain ⟨p, xs, rfl, h1, h2⟩ := Dp.lst_inv (show Dp K (hide H Z) x (.list ds) from h)
      exact ⟨p, xs, rfl, .inr (.inl (Rd.same hide_sub h1)), vall_m h2⟩
    | tuple ds =>
      cases e
      obtain ⟨p, xs, rfl, h1, h2⟩ := Dp.tup_inv (show Dp K (hide H Z) x (.tuple ds) from h)
      exact ⟨p, xs, rfl, .inl (SqT.same hide_sub h1), vall_m h2⟩
    | _ => cases e
  | b ds =>
    cases e
    obtain ⟨p, xs, rfl, n, h1, h2⟩ := h
    exact ⟨p, xs, rfl, .inr (SqL.of h1), vall_s h2⟩
  | f ds =>
    cases e
    obtain ⟨p, xs, rfl, n, h1, h2⟩ := h
    exact ⟨p, xs, rfl, .inr (SqL.of h1), vall_s (DpAll.same (hide_mono (Same.refl _) fun _ h => .inl (.inl h)) h2)⟩
theorem VAll.append {K : PySem.W.Frag} {Z : Addr → Prop} {σ : St} {ρ : Rho} {H0 H1 : Hp} : ∀ {xs ys : List V} {vs ws : List Val}, VAll K Z σ ρ H0 H1 xs vs → VAll K Z σ ρ H0 H1 ys ws → VAll K Z σ ρ H0 H1 (xs ++ ys) (vs ++ ws)
  | _, _, _, _, .nil, s => s
  | _, _, _, _, .cons r t, s => .cons r (VAll.append t s)
@[simp] def aStar (f : FE) (g : FA) (ρ : Rho) : Option (Except Er (List Val)) := match f ρ with
  | none => none
  | some (.error e) => some (.error e)
  | some (.ok v) => match v.parts with
    | none => none
    | some us => match g ρ with
      | none => none
      | some (.error e) => some (.error e)
      | some (.ok vs) => some (.ok (us ++ vs))
theorem da_star (ha : DE X Cl W e f) (hr : DA X Cl W es g) (hs : starEach (.Starred e p :: es) X.env = (true, eval e X.env) :: starEach es X.env := by rfl) : DA X Cl W (.Starred e p :: es) (aStar f g) := PA.imp (StX.pa_star ha hr hs) fun σ H Q ⟨Z, ρ, r, I, e, q⟩ => by
  unfold aStar at e
  cases e1 : f ρ with
  | none => rw [e1] at e; cases e
  | some r1 =>
    refine te_step I e1 (fun er z => ?_) fun v x H1 ev s1 hv I1 => ?_
    · rw [e1, z] at e
      cases e
      exact q
    · subst ev
      rw [e1] at e
      dsimp only at e
      cases e3 : v.parts with
      | none => rw [e3] at e; cases e
      | some us =>
        rw [e3] at e
        dsimp only at e
        obtain ⟨p, xs, rfl, hp, hus⟩ := hv.parts I e3
        refine ⟨p, xs, rfl, hp, ?_⟩
        cases e2 : g ρ with
        | none => rw [e2] at e; cases e
        | some r2 =>
          refine ta_step I1 e2 (fun er z => ?_) fun vs ys H2 ev s2 hvs I2 => ?_
          · rw [e2, z] at e
            cases e
            exact ErOk.same s1 q
          · subst ev
            rw [e2] at e
            cases e
            exact q (xs ++ ys) H2 (s1.trans s2) ((hus.same s2).append (hvs.back s1))

/-! ### calls of built-ins -/
def CRD (K : PySem.W.Frag) (r : List V → Hp → VK → Prop) (g : List Val → Option Val) : Prop := ∀ (Z : Addr → Prop) (σ : St) (ρ : Rho) (H0 H : Hp) (xs : List V) (vs : List Val) (v : Val) (Q : VK), DI K Z H0 σ ρ → Same H0 H → VAll K Z σ ρ H0 H xs vs → g vs = some v →
  (∀ z H', Same H H' → VOk K Z σ ρ H0 H' z v → Q z H') → r xs H Q
@[simp] def eG (h : List Val → Option Val) (g : FA) (ρ : Rho) : Option (Except Er Val) := match g ρ with
  | none => none
  | some (.error e) => some (.error e)
  | some (.ok vs) => (h vs).map .ok
theorem de_tCB {r : List V → Hp → VK → Prop} {h : List Val → Option Val} (hp : PE X e (tCB r (taOf X.K Cl W g))) (hr : CRD X.K r h) : DE X Cl W e (eG h g) := PE.imp hp fun σ H Q ⟨Z, ρ, r1, I, e, q⟩ => by
  unfold eG at e
  cases e1 : g ρ with
  | none => rw [e1] at e; cases e
  | some r2 =>
    refine ta_step I e1 (fun er z => ?_) fun vs xs H1 ev s1 hvs I1 => ?_
    · rw [e1, z] at e
      cases e
      exact q
    · subst ev
      rw [e1] at e
      dsimp only at e
      cases e2 : h vs with
      | none => rw [e2] at e; cases e
      | some v =>
        rw [e2] at e
        cases e
        exact hr Z σ ρ H H1 xs vs v Q I s1 hvs e2 fun z H' s' hz => q z H' (s1.trans s') hz
theorem de_callB {id : String} {x : Str} {r : List V → Hp → VK → Prop} {h : List Val → Option Val} (hc : CallR X (.builtin id) r) (hr : CRD X.K r h) (hm : X.mg x = none) (hv : bootBuiltins x = some (.builtin id)) (ha : DA X Cl W (e :: es) g) (hg : Gl X x := by rfl) (hn : x ≠ "__name__" := by decide) (hdb : (x == ("__debug__" : Str)) = false := by decide)
    (he : starEach (e :: es) X.env = (false, eval e X.env) :: starEach es X.env := by rfl) (hpl : (backTo pos (starEach es X.env)).any (·.1) = false := by rfl) : DE X Cl W (.Call (.Name x p) (e :: es) [] pos) (eG h g) :=
  de_tCB (pe_callB hc hg hm hv ha hn hdb he hpl) hr
theorem de_callTy {id : String} {x : Str} {r : List V → Hp → VK → Prop} {h : List Val → Option Val} (hc : CallR X (.type id) r) (hr : CRD X.K r h) (hm : X.mg x = none) (hv : bootBuiltins x = some (.type id)) (ha : DA X Cl W (e :: es) g) (hg : Gl X x := by rfl) (hn : x ≠ "__name__" := by decide) (hdb : (x == ("__debug__" : Str)) = false := by decide)
    (he : starEach (e :: es) X.env = (false, eval e X.env) :: starEach es X.env := by rfl) (hpl : (backTo pos (starEach es X.env)).any (·.1) = false := by rfl) : DE X Cl W (.Call (.Name x p) (e :: es) [] pos) (eG h g) :=
  de_tCB (pe_callTy hc hg hm hv ha hn hdb he hpl) hr
theorem VAll.one {K : PySem.W.Frag} {Z : Addr → Prop} {σ : St} {ρ : Rho} {H0 H1 : Hp} {xs : List V} {v : Val} (h : VAll K Z σ ρ H0 H1 xs [v]) : ∃ x, xs = [x] ∧ VOk K Z σ ρ H0 H1 x v := by
  cases h with
  | cons h t => cases t; exact ⟨_, rfl, h⟩
theorem VAll.two {K : PySem.W.Frag} {Z : Addr → Prop} {σ : St} {ρ : Rho} {H0 H1 : Hp} {xs : List V} {v u : Val} (h : VAll K Z σ ρ H0 H1 xs [v, u]) : ∃ x y, xs = [x, y] ∧ VOk K Z σ ρ H0 H1 x v ∧ VOk K Z σ ρ H0 H1 y u := by
  cases h with
  | cons h t =>
    cases t with
    | cons h2 t2 => cases t2; exact ⟨_, _, rfl, h, h2⟩
variable {K : PySem.W.Frag}
@[simp] def lenD : D → Option Nat
  | .str x => if lineOk x.length = true then some x.length else none
  | .list ds => some ds.length
  | .tuple ds => some ds.length
  | .dict ks => if excL ks = true then none else some ks.length
  | _ => none
@[simp] def bLen : List Val → Option Val
  | [v] => (lenD v.d).map fun n => .s (.int n)
  | _ => none
theorem Dp.lenV {H : Hp} {x : V} {d : D} {n : Nat} (h : Dp K H x d) (e : lenD d = some n) : LenV K x H n := by
  cases h with
  | str x =>
    simp only [lenD] at e
    split at e
    · rename_i hl
      cases e
      exact ⟨lineOk_ok hl, rfl⟩
    · cases e
  | lst h t => cases e; exact .inl ⟨_, .inl h, t.length.symm⟩
  | tup h t => cases e; exact .inr ⟨_, h, t.length.symm⟩
  | @scr a ns h =>
    simp only [lenD] at e
    rw [excL_scr, if_neg Bool.false_ne_true] at e
    cases e
    exact .inl ⟨_, h, by rw [List.length_map, List.length_map]⟩
  | exc _ _ => cases e
  | _ => cases e
theorem cr_len : CRD K (fun xs H Q => ∃ x n, xs = [x] ∧ LenV K x H n ∧ Q (.int n) H) bLen := fun Z σ ρ H0 H xs vs v Q I s hv e q => by
  unfold bLen at e
  split at e
  · rename_i u
    obtain ⟨x, rfl, h⟩ := hv.one
    cases e1 : lenD u.d with
    | none => rw [e1] at e; cases e
    | some n =>
      rw [e1] at e
      cases e
      exact ⟨x, n, rfl, (Dp.same hide_sub (h.dp I)).lenV e1, q _ H (Same.refl _) (.int _)⟩
  · cases e
@[simp] def bInt : List Val → Option Val
  | [v] => match v.d with
    | .int i => some (.s (.int i))
    | .bool b => some (.s (.int (if b then 1 else 0)))
    | _ => none
  | _ => none
theorem cr_int : CRD K (fun xs H Q => (∃ i, xs = [.int i] ∧ Q (.int i) H) ∨ ∃ k, xs = [.bl k] ∧ Q (.int (if k then 1 else 0)) H) bInt := fun Z σ ρ H0 H xs vs v Q I s hv e q => by
  unfold bInt at e
  split at e
  · rename_i u
    obtain ⟨x, rfl, h⟩ := hv.one
    split at e
    · rename_i i e1
      cases e
      exact .inl ⟨i, by rw [h.int_inv I e1], q _ H (Same.refl _) (.int _)⟩
    · rename_i i e1
      cases e
      exact .inr ⟨i, by rw [h.bl_inv I e1], q _ H (Same.refl _) (.int _)⟩
    · cases e
  · cases e
@[simp] def bAbs : List Val → Option Val
  | [v] => match v.d with
    | .int i => some (.s (.int (if i < 0 then -i else i)))
    | _ => none
  | _ => none
theorem cr_abs : CRD K (fun xs H Q => ∃ i, xs = [.int i] ∧ Q (.int (if i < 0 then -i else i)) H) bAbs := fun Z σ ρ H0 H xs vs v Q I s hv e q => by
  unfold bAbs at e
  split at e
  · rename_i u
    obtain ⟨x, rfl, h⟩ := hv.one
    split at e
    · rename_i i e1
      cases e
      exact ⟨i, by rw [h.int_inv I e1], q _ H (Same.refl _) (.int _)⟩
    · cases e
  · cases e
@[simp] def bMin : List Val → Option Val
  | [v, u] => match v.d, u.d with
    | .int i, .int j => some (.s (.int (if j < i then j else i)))
    | _, _ => none
  | _ => none
theorem cr_min2 : CRD K (fun xs H Q => ∃ i j, xs = [.int i, .int j] ∧ Q (.int (if j < i then j else i)) H) bMin := fun Z σ ρ H0 H xs vs v Q I s hv e q => by
  unfold bMin at e
  split at e
  · rename_i u w
    obtain ⟨x, y, rfl, h, h2⟩ := hv.two
    split at e
    · rename_i i j e1 e2
      cases e
      exact ⟨i, j, by rw [h.int_inv I e1, h2.int_inv I e2], q _ H (Same.refl _) (.int _)⟩
    · cases e
  · cases e
@[simp] def bMax : List Val → Option Val
  | [v, u] => match v.d, u.d with
    | .int i, .int j => some (.s (.int (if j > i then j else i)))
    | _, _ => none
  | _ => none
theorem cr_max2 : CRD K (fun xs H Q => ∃ i j, xs = [.int i, .int j] ∧ Q (.int (if j > i then j else i)) H) bMax := fun Z σ ρ H0 H xs vs v Q I s hv e q => by
  unfold bMax at e
  split at e
  · rename_i u w
    obtain ⟨x, y, rfl, h, h2⟩ := hv.two
    split at e
    · rename_i i j e1 e2
      cases e
      exact ⟨i, j, by rw [h.int_inv I e1, h2.int_inv I e2], q _ H (Same.refl _) (.int _)⟩
    · cases e
  · cases e
/-- list(xs) of a list or a tuple: a new list -/
@[simp] def Val.seq : Val → Option (List D)
  | .s (.tuple ds) => some ds
  | .m (.tuple ds) => if ds.all scalarD = true then some ds else none
  | v => v.items
theorem VOk.seq {Z : Addr → Prop} {σ : St} {ρ : Rho} {H0 H : Hp} {x : V} {a : Val} {ds : List D} (I : DI K Z H0 σ ρ) (e : a.seq = some ds) (h : VOk K Z σ ρ H0 H x a) : ∃ p xs, x = .ref p ∧ (SqL K H p xs ∨ SqT K H p xs) ∧ DpAll K (hide H (Zo Z σ ρ)) xs ds := by
  have go : a.items = some ds → ∃ p xs, x = .ref p ∧ (SqL K H p xs ∨ SqT K H p xs) ∧ DpAll K (hide H (Zo Z σ ρ)) xs ds := fun e => by
    obtain ⟨p, xs, e1, e2, e3⟩ := h.items I e
    exact ⟨p, xs, e1, .inl (.inl e2), e3⟩
  unfold Val.seq at e
  split at e
  · rename_i ys
    cases e
    obtain ⟨p, xs, rfl, h1, h2⟩ := Dp.tup_inv (show Dp K (hide H (Zo Z σ ρ)) x (.tuple ds) from h)
    exact ⟨p, xs, rfl, .inr (SqT.same hide_sub h1), h2⟩
  · rename_i ys
    split at e
    · rename_i sc
      cases e
      obtain ⟨p, xs, rfl, h1, h2⟩ := Dp.tup_inv (show Dp K (hide H Z) x (.tuple ds) from h)
      exact ⟨p, xs, rfl, .inr (SqT.same hide_sub h1), DpAll.scalar sc h2⟩
    · cases e
  · exact go e
@[simp] def bList : List Val → Option Val
  | [v] => v.seq.map .f
  | _ => none
theorem cr_list : CRD K (fun xs H Q => ∃ p ys, xs = [.ref p] ∧ (SqL K H p ys ∨ SqT K H p ys) ∧ ∀ l, H l = none → Q (.ref l) (upd H l (.lst ys))) bList := fun Z σ ρ H0 H xs vs v Q I s hv e q => by
  unfold bList at e
  split at e
  · rename_i u
    obtain ⟨x, rfl, h⟩ := hv.one
    cases e1 : u.seq with
    | none => rw [e1] at e; cases e
    | some ds =>
      rw [e1] at e
      cases e
      obtain ⟨p, ys, rfl, h1, h2⟩ := h.seq I e1
      exact ⟨p, ys, rfl, h1, fun l nl => q _ _ (same_upd nl) (VOk.new s nl h2)⟩
  · cases e
def intsD : List D → Option (List Int)
  | [] => some []
  | .int i :: r => (intsD r).map (i :: ·)
  | _ => none
theorem intsD_map : ∀ (ns : List Int), intsD (ns.map PyData.int) = some ns
  | [] => rfl
  | n :: ns => by
    show (intsD (ns.map PyData.int)).map (n :: ·) = some (n :: ns)
    rw [intsD_map ns]
    rfl
theorem intsD_eq : ∀ {ds : List D} {ns : List Int}, intsD ds = some ns → ds = ns.map PyData.int
  | [], _, e => by cases e; rfl
  | .int i :: r, ns, e => by
    have e' : (intsD r).map (i :: ·) = some ns := e
    cases h : intsD r with
    | none => rw [h] at e'; cases e'
    | some ms =>
      rw [h] at e'
      cases e'
      rw [intsD_eq h]
      rfl
@[simp] def bSum : List Val → Option Val
  | [v] => match v.d with
    | .list ds => (intsD ds).map fun ns => .s (.int ns.sum)
    | _ => none
  | _ => none
theorem cr_sumD : CRD K (rSum K) bSum := fun Z σ ρ H0 H xs vs v Q I s hv e q => by
  unfold bSum at e
  split at e
  · rename_i u
    obtain ⟨x, rfl, h⟩ := hv.one
    split at e
    · rename_i ds e1
      cases e2 : intsD ds with
      | none => rw [e2] at e; cases e
      | some ns =>
        rw [e2] at e
        cases e
        have h1 := Dp.same hide_sub (h.dp I)
        rw [e1] at h1
        obtain ⟨p, ys, rfl, h2, h3⟩ := h1.lst_inv
        rw [intsD_eq e2] at h3
        have e3 := h3.ints
        subst e3
        exact ⟨p, ns, rfl, .inl h2, q _ H (Same.refl _) (.int _)⟩
    · cases e
  · cases e

/-! ### isinstance against a built-in type -/
@[simp] def tyN : D → String
  | .none => "NoneType" | .bool _ => "bool" | .int _ => "int" | .str _ => "str" | .list _ => "list" | .tuple _ => "tuple" | .dict _ => "list"
@[simp] def isTy (T : String) (d : D) : Bool := T == tyN d || (T == "int" && tyN d == "bool")
def tyK (T : String) : Bool := T == "bool" || (T == "int" || (T == "str" || (T == "list" || T == "tuple")))
@[simp] def gIsi (T : String) (v : Val) : Option Val := if excV v.d = true then none else some (.s (.bool (isTy T v.d)))
theorem kit_all {T : String} {d : D} (h : T = "bool" ∨ T = "int" ∨ T = "str" ∨ T = "list" ∨ T = "tuple") : PySem.W.kitOne K (.type (tyN d)) (.type T) = some (isTy T d) := by
  refine kit_ty ?_
  rcases h with rfl | rfl | rfl | rfl | rfl <;> cases d <;> first | decide +kernel | rfl
theorem Dp.tyx {H : Hp} {x : V} {d : D} (n : ¬ excV d = true) (h : Dp K H x d) : TyX K H x (.type (tyN d)) := by
  cases h with
  | non => exact .base .non
  | bl b => exact .base (.bl b)
  | int i => exact .base (.int i)
  | str x => exact .base (.str x)
  | lst h t =>
    rcases h with h | ⟨o, h⟩
    · exact .base (.lst h)
    · exact .base (.frz h)
  | tup h t =>
    rcases h with (h | ⟨o, h⟩) | ⟨o, its, n, h, c, _⟩
    · exact .base (.tup h)
    · exact .fTuple h
    · exact .kTuple h c
  | scr h =>
    rcases h with (h | ⟨o, h⟩) | ⟨o, its, n, h, c, _⟩
    · exact .base (.lst h)
    · exact .base (.frz h)
    · exact .kList h c
  | exc _ _ => exact absurd rfl n
theorem de_isi {T : String} {y : Str} {q : Pos} {x : Str} (hx : x = "isinstance") (hm : X.mg x = none) (hy : X.mg y = none) (hT : bootBuiltins y = some (.type T)) (hk : T = "bool" ∨ T = "int" ∨ T = "str" ∨ T = "list" ∨ T = "tuple") (ha : DE X Cl W e f) (hg : Gl X x := by rfl) (hgy : Gl X y := by rfl) (hn : y ≠ "__name__" := by decide) (hdb : (y == ("__debug__" : Str)) = false := by decide)
    (hs : starEach [e, .Name y q] X.env = (false, eval e X.env) :: starEach [.Name y q] X.env := by rfl) (hs2 : starEach [.Name y q] X.env = (false, eval (.Name y q) X.env) :: starEach [] X.env := by rfl) (hpl : (backTo pos (starEach [.Name y q] X.env)).any (·.1) = false := by rfl) :
    DE X Cl W (.Call (.Name x p) [e, .Name y q] [] pos) (e1 (gIsi T) f) := by
  subst hx
  refine PE.imp (pe_callB call_isi hg hm PyProof.Rows.boot_isinstance (pa_cons ha (pa_cons (pe_bltn (v := .ty T) hgy hy hT rfl hn hdb) pa_nil hs2) hs) (by decide) (by decide) hs hpl) fun σ H Q ⟨Z, ρ, r1, I, e, q⟩ => ?_
  refine te_bind I e q fun v x H1 _ h1 s1 hv I1 q1 => ?_
  unfold gIsi at h1
  split at h1
  · cases h1
  rename_i n
  cases h1
  exact ⟨x, .ty T, _, _, _, rfl, .ty T, (Dp.same hide_sub (hv.dp I)).tyx n, kit_all hk, q _ H1 s1 (.bl _)⟩

/-! ### displays -/
@[simp] def eLst (g : FA) (ρ : Rho) : Option (Except Er Val) := match g ρ with
  | none => none
  | some (.error e) => some (.error e)
  | some (.ok vs) => if lineOk vs.length = true then match stAll vs with
    | some ds => some (.ok (.f ds))
    | none => some (.ok (.m (.list (vs.map Val.d)))) else none
@[simp] def eTup (g : FA) (ρ : Rho) : Option (Except Er Val) := match g ρ with
  | none => none
  | some (.error e) => some (.error e)
  | some (.ok vs) => if lineOk vs.length = true then match stAll vs with
    | some ds => some (.ok (.s (.tuple ds)))
    | none => some (.ok (.m (.tuple (vs.map Val.d)))) else none
theorem Paired.len {α β : Type} {F : α → β → Prop} {l₁ : List α} {l₂ : List β} (h : Paired F l₁ l₂) : l₁.length = l₂.length := Paired.length h
theorem de_lst (h : DA X Cl W es g) : DE X Cl W (.List es pos) (eLst g) := PE.imp (pe_lst h) fun σ H Q ⟨Z, ρ, r1, I, e, q⟩ => by
  unfold eLst at e
  cases e1 : g ρ with
  | none => rw [e1] at e; cases e
  | some r2 =>
    refine ta_step I e1 (fun er z => ?_) fun vs xs H1 ev s1 hvs I1 => ?_
    · rw [e1, z] at e
      cases e
      exact q
    · subst ev
      rw [e1] at e
      dsimp only at e
      split at e
      · rename_i hl
        refine ⟨by rw [Paired.len hvs]; exact lineOk_ok hl, fun p np => ?_⟩
        cases e2 : stAll vs with
        | some ds =>
          rw [e2] at e
          cases e
          exact q _ _ (s1.trans (same_upd np)) (VOk.new s1 np (hvs.stab I e2))
        | none =>
          rw [e2] at e
          cases e
          have nz : ¬ Z p := fun z => I1.live p z np
          refine q _ _ (s1.trans (same_upd np)) ?_
          exact .lst (Rd.of (hide_at nz upd_same)) (DpAll.same (hide_mono (same_upd np) fun _ h => .inl h) (hvs.dp I))
      · cases e
theorem de_tup {x1} (h : DA X Cl W es g) : DE X Cl W (.Tuple es x1 pos) (eTup g) := PE.imp (pe_tup h) fun σ H Q ⟨Z, ρ, r1, I, e, q⟩ => by
  unfold eTup at e
  cases e1 : g ρ with
  | none => rw [e1] at e; cases e
  | some r2 =>
    refine ta_step I e1 (fun er z => ?_) fun vs xs H1 ev s1 hvs I1 => ?_
    · rw [e1, z] at e
      cases e
      exact q
    · subst ev
      rw [e1] at e
      dsimp only at e
      split at e
      · rename_i hl
        refine ⟨by rw [Paired.len hvs]; exact lineOk_ok hl, fun p np => ?_⟩
        cases e2 : stAll vs with
        | some ds =>
          rw [e2] at e
          cases e
          have nz : ¬ Zo Z σ ρ p := fun z => I1.liveZ z np
          refine q _ _ (s1.trans (same_upd np)) ?_
          exact .tup (SqT.of (hide_at nz upd_same)) (DpAll.same (hide_mono (same_upd np) fun _ h => .inl h) (hvs.stab I e2))
        | none =>
          rw [e2] at e
          cases e
          have nz : ¬ Z p := fun z => I1.live p z np
          refine q _ _ (s1.trans (same_upd np)) ?_
          exact .tup (SqT.of (hide_at nz upd_same)) (DpAll.same (hide_mono (same_upd np) fun _ h => .inl h) (hvs.dp I))
      · cases e

/-! ### places and slices -/
theorem Dp.scr_inv {H : Hp} {x : V} {ks : List (D × D)} (n : ¬ excL ks = true) (h : Dp K H x (.dict ks)) : ∃ (a : Addr) (ns : List Int), x = .ref a ∧ ks = (ns.map fun n => (.int n, .none)) ∧ SqL K H a (ns.map V.int) := by
  cases h with
  | scr h => exact ⟨_, _, rfl, rfl, h⟩
  | exc _ _ => exact absurd rfl n
theorem SqL.same' {H H' : Hp} {a : Addr} {xs : List V} (s : SameD H H') (h : SqL K H a xs) : SqL K H' a xs := s.seq h
def strAt (x : Str) (i : Int) : Option D := (atI x.cps.toList i).map fun c => .str ⟨#[c]⟩
@[simp] def gIx (a b : Val) : Option Val := match b.d with
  | .int i => match a with
    | .s (.list ds) => (atI ds i).map .s
    | .s (.tuple ds) => (atI ds i).map .s
    | .s (.str x) => if lineOk x.length = true then (strAt x i).map .s else none
    | .s (.dict ks) => if excL ks = true then none else (atI ks i).map fun p => .s p.1
    | .m (.list ds) => (atI ds i).map .m
    | .m (.tuple ds) => (atI ds i).map .m
    | .b ds => (atI ds i).map .s
    | .f ds => (atI ds i).map .s
    | _ => none
  | _ => none
theorem atI_pair {H : Hp} {xs : List V} {ds : List D} {i : Int} {d : D} (h : DpAll K H xs ds) (e : atI ds i = some d) : ∃ v, atI xs i = some v ∧ Dp K H v d := by
  unfold atI at e ⊢
  rw [h.length]
  cases e1 : ixN ds.length i with
  | none => rw [e1] at e; cases e
  | some j =>
    rw [e1] at e
    obtain ⟨v, h1, h2⟩ := h.get (show ds[j]? = some d from e)
    exact ⟨v, h1, h2⟩
theorem r2_ix : R2D K (rIx K) gIx := fun Z σ ρ H0 H x y a b v Q I s ha hb e q => by
  unfold gIx at e
  split at e
  · rename_i i e1
    have ey := hb.int_inv I e1
    subst ey
    have L : ∀ {Hh : Hp} {ds : List D} {d : D}, SameD Hh H → Dp K Hh x (.list ds) → atI ds i = some d → (∀ z, Dp K Hh z d → Q z H) → rIx K x (.int i) H Q := fun {Hh ds d} sh h e q => by
      obtain ⟨p, xs, rfl, h1, h2⟩ := h.lst_inv
      obtain ⟨z, e2, hz⟩ := atI_pair h2 e
      exact .inl ⟨p, xs, i, z, rfl, rfl, .inl (Rd.same sh h1), e2, q z hz⟩
    have T : ∀ {Hh : Hp} {ds : List D} {d : D}, SameD Hh H → Dp K Hh x (.tuple ds) → atI ds i = some d → (∀ z, Dp K Hh z d → Q z H) → rIx K x (.int i) H Q := fun {Hh ds d} sh h e q => by
      obtain ⟨p, xs, rfl, h1, h2⟩ := h.tup_inv
      obtain ⟨z, e2, hz⟩ := atI_pair h2 e
      exact .inr (.inl ⟨p, xs, i, z, rfl, rfl, SqT.same sh h1, e2, q z hz⟩)
    split at e
    · rename_i ds
      cases e2 : atI ds i with
      | none => rw [e2] at e; cases e
      | some d => rw [e2] at e; cases e; exact L hide_sub (show Dp K (hide H (Zo Z σ ρ)) x (.list ds) from ha) e2 fun z hz => q z H (Same.refl _) hz
    · rename_i ds
      cases e2 : atI ds i with
      | none => rw [e2] at e; cases e
      | some d => rw [e2] at e; cases e; exact T hide_sub (show Dp K (hide H (Zo Z σ ρ)) x (.tuple ds) from ha) e2 fun z hz => q z H (Same.refl _) hz
    · rename_i t
      split at e
      · rename_i hl
        unfold strAt at e
        cases e2 : atI t.cps.toList i with
        | none => rw [e2] at e; cases e
        | some c =>
          rw [e2] at e
          cases e
          exact .inr (.inr ⟨t, i, c, (show Dp K (hide H (Zo Z σ ρ)) x (.str t) from ha).str_inv, rfl, lineOk_ok hl, e2, q _ H (Same.refl _) (.str _)⟩)
      · cases e
    · rename_i ks
      split at e
      · cases e
      rename_i nx
      cases e2 : atI ks i with
      | none => rw [e2] at e; cases e
      | some p =>
        rw [e2] at e
        cases e
        obtain ⟨a, ns, rfl, rfl, h1⟩ := (show Dp K (hide H (Zo Z σ ρ)) x (.dict ks) from ha).scr_inv nx
        have e3 : atI (ns.map V.int) i = some (toV p.1) ∧ ∃ n, p.1 = .int n := by
          unfold atI at e2 ⊢
          rw [List.length_map] at e2 ⊢
          cases e4 : ixN ns.length i with
          | none => rw [e4] at e2; cases e2
          | some j =>
            rw [e4] at e2
            have e5 : (ns.map fun n => ((PyData.int n, PyData.none) : D × D))[j]? = some p := e2
            show (ns.map V.int)[j]? = _ ∧ _
            rw [List.getElem?_map] at e5 ⊢
            cases e6 : ns[j]? with
            | none => rw [e6] at e5; cases e5
            | some n =>
              rw [e6] at e5
              cases e5
              exact ⟨rfl, n, rfl⟩
        obtain ⟨e4, n, en⟩ := e3
        refine .inl ⟨a, _, i, _, rfl, rfl, SqL.same' hide_sub h1, e4, q _ H (Same.refl _) ?_⟩
        show Dp K _ (toV p.1) p.1
        rw [en]
        exact .int n
    · rename_i ds
      cases e2 : atI ds i with
      | none => rw [e2] at e; cases e
      | some d => rw [e2] at e; cases e; exact L hide_sub (show Dp K (hide H Z) x (.list ds) from ha) e2 fun z hz => q z H (Same.refl _) hz
    · rename_i ds
      cases e2 : atI ds i with
      | none => rw [e2] at e; cases e
      | some d => rw [e2] at e; cases e; exact T hide_sub (show Dp K (hide H Z) x (.tuple ds) from ha) e2 fun z hz => q z H (Same.refl _) hz
    · rename_i ds
      cases e2 : atI ds i with
      | none => rw [e2] at e; cases e
      | some d =>
        rw [e2] at e
        cases e
        obtain ⟨p, xs, rfl, n, h1, h2⟩ := ha
        obtain ⟨z, e3, hz⟩ := atI_pair h2 e2
        exact .inl ⟨p, xs, i, z, rfl, rfl, SqL.of h1, e3, q z H (Same.refl _) hz⟩
    · rename_i ds
      cases e2 : atI ds i with
      | none => rw [e2] at e; cases e
      | some d =>
        rw [e2] at e
        cases e
        obtain ⟨p, xs, rfl, n, h1, h2⟩ := ha
        obtain ⟨z, e3, hz⟩ := atI_pair h2 e2
        exact .inl ⟨p, xs, i, z, rfl, rfl, SqL.of h1, e3, q z H (Same.refl _) (Dp.same (hide_mono (Same.refl _) fun _ h => .inl (.inl h)) hz)⟩
    · cases e
  · cases e
theorem de_ix (ha : DE X Cl W a fa) (hb : DE X Cl W b fb) (hs : PlainIx b := by exact fun _ _ => rfl) : DE X Cl W (.Subscript a b pos) (e2 gIx fa fb) := de_tOp (pe_ix ix_seq ha hb hs) r2_ix
/-- an end of a slice -/
abbrev FO := Rho → Option (Except Er (Option Int))
def toOf (K : PySem.W.Frag) (Cl : Nat → Addr) (W : WX) (f : FO) : TO := fun σ H Q => ∃ Z ρ r, DI K Z H σ ρ ∧ f ρ = some r ∧ match r with
  | .ok o => ∀ H', Same H H' → Q o H'
  | .error e => ErOk Cl W σ H e
@[simp] def oNone (ρ : Rho) : Option (Except Er (Option Int)) := some (.ok none)
@[simp] def oSome (f : FE) (ρ : Rho) : Option (Except Er (Option Int)) := match f ρ with
  | none => none
  | some (.error e) => some (.error e)
  | some (.ok v) => match v.d with
    | .int i => some (.ok (some i))
    | _ => none
def DO (X : Cx) (Cl : Nat → Addr) (W : WX) (e : Option Expr) (f : FO) : Prop := PO X e (toOf X.K Cl W f)
theorem PO.imp {e : Option Expr} {t t' : TO} (h : PO X e t) (i : ∀ σ H Q, t' σ H Q → t σ H Q) : PO X e t' := ⟨fun pins s σ H Q I q => h.run pins s σ H Q I (i σ H Q q)⟩
theorem do_none : DO X Cl W none oNone := PO.imp po_none fun σ H Q ⟨Z, ρ, r, I, e, q⟩ => by cases e; exact q H (Same.refl _)
theorem do_some (h : DE X Cl W e f) : DO X Cl W (some e) (oSome f) := PO.imp (po_some h) fun σ H Q ⟨Z, ρ, r, I, e, q⟩ => by
  unfold oSome at e
  cases e1 : f ρ with
  | none => rw [e1] at e; cases e
  | some r1 =>
    refine te_step I e1 (fun er z => ?_) fun v x H1 ev s1 hv I1 => ?_
    · rw [e1, z] at e
      cases e
      exact q
    · subst ev
      rw [e1] at e
      dsimp only at e
      split at e
      · rename_i i e2
        cases e
        exact ⟨i, hv.int_inv I e2, q H1 s1⟩
      · cases e
/-- the items of xs[lo:hi], of any things -/
def cutL {α : Type} (xs : List α) (lo hi : Option Int) : List α := (xs.drop (HT.sIx xs.length 0 lo)).take (HT.sIx xs.length xs.length hi - HT.sIx xs.length 0 lo)
theorem cutL_V (xs : List V) (lo hi : Option Int) : cutL xs lo hi = cutV xs lo hi := rfl
theorem cutL_dp {H : Hp} {xs : List V} {ds : List D} {lo hi : Option Int} (h : DpAll K H xs ds) : DpAll K H (cutV xs lo hi) (cutL ds lo hi) := by
  unfold cutV cutL
  rw [h.length]
  exact (h.drop _).take _
def whole (n : Nat) (lo hi : Option Int) : Bool := decide (HT.sIx n 0 lo = 0 ∧ HT.sIx n n hi = n)
@[simp] def gSl (v : Val) (lo hi : Option Int) : Option Val := match v with
  | .s (.tuple ds) => if whole ds.length lo hi = true then none else some (.s (.tuple (cutL ds lo hi)))
  | .m (.tuple ds) => if whole ds.length lo hi = true then none else some (.m (.tuple (cutL ds lo hi)))
  | v => match v.items with
    | some ds => some (.f (cutL ds lo hi))
    | none => none
@[simp] def eSl (f : FE) (l h : FO) (ρ : Rho) : Option (Except Er Val) := match f ρ with
  | none => none
  | some (.error e) => some (.error e)
  | some (.ok v) => match l ρ with
    | none => none
    | some (.error e) => some (.error e)
    | some (.ok lo) => match h ρ with
      | none => none
      | some (.error e) => some (.error e)
      | some (.ok hi) => (gSl v lo hi).map .ok
theorem de_sl {lo hi : Option Expr} {l h : FO} {p2 : Pos} (he : DE X Cl W e f) (hl : DO X Cl W lo l) (hh : DO X Cl W hi h) : DE X Cl W (.Subscript e (.Slice lo hi none p2) pos) (eSl f l h) := PE.imp (pe_slice (sl_list.or sl_tup) he hl hh) fun σ H Q ⟨Z, ρ, r, I, e, q⟩ => by
  unfold eSl at e
  cases e1 : f ρ with
  | none => rw [e1] at e; cases e
  | some r1 =>
    refine te_step I e1 (fun er z => ?_) fun v x H1 ev s1 hv I1 => ?_
    · rw [e1, z] at e
      cases e
      exact q
    · subst ev
      rw [e1] at e
      dsimp only at e
      cases e2 : l ρ with
      | none => rw [e2] at e; cases e
      | some r2 =>
        refine ⟨Z, ρ, r2, I1, e2, ?_⟩
        cases r2 with
        | error er =>
          rw [e2] at e
          cases e
          exact ErOk.same s1 q
        | ok o1 =>
          rw [e2] at e
          dsimp only at e
          intro H2 s2
          have I2 := I1.same s2
          cases e3 : h ρ with
          | none => rw [e3] at e; cases e
          | some r3 =>
            refine ⟨Z, ρ, r3, I2, e3, ?_⟩
            cases r3 with
            | error er =>
              rw [e3] at e
              cases e
              exact ErOk.same (s1.trans s2) q
            | ok o2 =>
              rw [e3] at e
              dsimp only at e
              intro H3 s3
              have hv3 := hv.same (s2.trans s3)
              have I3 := I2.same s3
              have s13 := s1.trans (s2.trans s3)
              cases e4 : gSl v o1 o2 with
              | none => rw [e4] at e; cases e
              | some w =>
                rw [e4] at e
                cases e
                unfold gSl at e4
                split at e4
                · rename_i ds
                  split at e4
                  · cases e4
                  · rename_i hw
                    cases e4
                    obtain ⟨p, xs, rfl, h1, h2⟩ := Dp.tup_inv (show Dp X.K (hide H3 (Zo Z σ ρ)) x (.tuple ds) from hv3)
                    refine .inr ⟨p, xs, rfl, SqT.same hide_sub h1, fun z => hw (decide_eq_true (by rw [h2.length] at z; exact z)), fun a na => ?_⟩
                    have nz : ¬ Zo Z σ ρ a := fun z => I3.liveZ z na
                    refine q _ _ (s13.trans (same_upd na)) ?_
                    exact .tup (SqT.of (hide_at nz upd_same)) (DpAll.same (hide_mono (same_upd na) fun _ h => .inl h) (cutL_dp h2))
                · rename_i ds
                  split at e4
                  · cases e4
                  · rename_i hw
                    cases e4
                    obtain ⟨p, xs, rfl, h1, h2⟩ := Dp.tup_inv (show Dp X.K (hide H3 Z) x (.tuple ds) from hv3)
                    refine .inr ⟨p, xs, rfl, SqT.same hide_sub h1, fun z => hw (decide_eq_true (by rw [h2.length] at z; exact z)), fun a na => ?_⟩
                    have nz : ¬ Z a := fun z => I3.live a z na
                    refine q _ _ (s13.trans (same_upd na)) ?_
                    exact .tup (SqT.of (hide_at nz upd_same)) (DpAll.same (hide_mono (same_upd na) fun _ h => .inl h) (cutL_dp h2))
                · split at e4
                  · rename_i ds e5
                    cases e4
                    obtain ⟨p, xs, rfl, h1, h2⟩ := hv3.items I e5
                    refine .inl ⟨p, xs, rfl, .inl h1, fun a na => ?_⟩
                    exact q _ _ (s13.trans (same_upd na)) (VOk.new s13 na (cutL_dp h2))
                  · cases e4

/-! ### tests -/
abbrev FT := Rho → Option (Except Er Bool)
def RTk (Cl : Nat → Addr) (W : WX) (σ : St) (H : Hp) (Q : Bool → Hp → Prop) : Except Er Bool → Prop
  | .ok b => ∀ H', Same H H' → Q b H'
  | .error e => ErOk Cl W σ H e
def ttOf (K : PySem.W.Frag) (Cl : Nat → Addr) (W : WX) (f : FT) : TT := fun σ H Q => ∃ Z ρ r, DI K Z H σ ρ ∧ f ρ = some r ∧ RTk Cl W σ H Q r
def DT (X : Cx) (Cl : Nat → Addr) (W : WX) (e : Expr) (f : FT) : Prop := PT X e (ttOf X.K Cl W f)
def DW (X : Cx) (Cl : Nat → Addr) (W : WX) (e : Expr) (f : FT) : Prop := PW X e (ttOf X.K Cl W f)
/-- the value is True or False -/
@[simp] def tV (f : FE) (ρ : Rho) : Option (Except Er Bool) := match f ρ with
  | none => none
  | some (.error e) => some (.error e)
  | some (.ok v) => match v.d with
    | .bool b => some (.ok b)
    | _ => none
theorem te_tV {Z : Addr → Prop} {H : Hp} {σ : St} {ρ : Rho} {Q : Bool → Hp → Prop} {r : Except Er Bool} (I : DI K Z H σ ρ) (e : tV f ρ = some r) (q : RTk Cl W σ H Q r) :
    teOf K Cl W f σ H fun x H1 => ∃ k, x = .bl k ∧ Q k H1 := by
  unfold tV at e
  cases e1 : f ρ with
  | none => rw [e1] at e; cases e
  | some r1 =>
    refine te_step I e1 (fun er z => ?_) fun v x H1 ev s1 hv I1 => ?_
    · rw [e1, z] at e
      cases e
      exact q
    · subst ev
      rw [e1] at e
      dsimp only at e
      split at e
      · rename_i i e2
        cases e
        exact ⟨i, hv.bl_inv I e2, q H1 s1⟩
      · cases e
theorem dt_val (h : DE X Cl W e f) (he : ∀ whole, isTrue e X.env whole = (do let v ← whole; standAt e.pos; holding [v] (truthy v)) := by intro _; rfl) : DT X Cl W e (tV f) := PT.imp (pt_val h he) fun σ H Q ⟨Z, ρ, r, I, e, q⟩ => te_tV I e q
theorem dt_cmp {op : CmpOp} {r : R2} {g : Val → Val → Option Val} (ho : OpR X (compareOp op) r) (hr : R2D X.K r g) (ha : DE X Cl W a fa) (hb : DE X Cl W b fb) (hm : behindInMarks op b = false) : DT X Cl W (.Compare a [op] [b] pos) (tV (e2 g fa fb)) := PT.imp (pt_cmpR ho ha hb hm) fun σ H Q ⟨Z, ρ, r1, I, e, q⟩ => by
  have h := te_tV (W := W) (Cl := Cl) I e q
  obtain ⟨Z', ρ', r', I', e', q'⟩ := h
  refine te_bind I' e' q' fun v x H1 _ h1 s1 hv I1 q1 => te_bind I1 h1 q1 fun u y H2 _ h2 s2 hu I2 q2 => ?_
  cases hg : g v u with
  | none => rw [hg] at h2; cases h2
  | some w =>
    rw [hg] at h2
    cases h2
    exact hr Z' σ ρ' H H2 x y v u w _ I' (s1.trans s2) (hv.same s2) (hu.back s1) hg fun z H' s' hz => q' z H' (s1.trans (s2.trans s')) hz
@[simp] def tAndD (f g : FT) (ρ : Rho) : Option (Except Er Bool) := match f ρ with
  | some (.ok true) => g ρ
  | r => r
@[simp] def tOrD (f g : FT) (ρ : Rho) : Option (Except Er Bool) := match f ρ with
  | some (.ok false) => g ρ
  | r => r
@[simp] def tNotD (f : FT) (ρ : Rho) : Option (Except Er Bool) := match f ρ with
  | some (.ok b) => some (.ok (!b))
  | r => r
theorem tt_step {Z : Addr → Prop} {H : Hp} {σ : St} {ρ : Rho} {Q1 : Bool → Hp → Prop} {f : FT} {r : Except Er Bool} (I : DI K Z H σ ρ) (h : f ρ = some r) (he : ∀ e, r = .error e → ErOk Cl W σ H e)
    (go : ∀ b H1, r = .ok b → Same H H1 → DI K Z H1 σ ρ → Q1 b H1) : ttOf K Cl W f σ H Q1 := by
  refine ⟨Z, ρ, r, I, h, ?_⟩
  cases r with
  | error e => exact he e rfl
  | ok b => exact fun H1 s => go b H1 rfl s (I.same s)
variable {ta tb : FT} {rest : List Expr}
theorem dw_and1 (ha : DT X Cl W a ta) : DW X Cl W (.BoolOp .And [a] pos) ta := pw_and1 ha
theorem dw_or1 (ha : DT X Cl W a ta) : DW X Cl W (.BoolOp .Or [a] pos) ta := pw_or1 ha
theorem dw_and (ha : DT X Cl W a ta) (hb : DW X Cl W (.BoolOp .And (b :: rest) pos) tb) : DW X Cl W (.BoolOp .And (a :: b :: rest) pos) (tAndD ta tb) := PW.imp (pw_and ha hb) fun σ H Q ⟨Z, ρ, r, I, e, q⟩ => by
  unfold tAndD at e
  cases e1 : ta ρ with
  | none => rw [e1] at e; cases e
  | some r1 =>
    refine tt_step I e1 (fun er z => ?_) fun b H1 ev s1 I1 => ?_
    · rw [e1, z] at e
      cases e
      exact q
    · subst ev
      rw [e1] at e
      cases b with
      | true =>
        rw [if_pos rfl]
        refine ⟨Z, ρ, r, I1, e, ?_⟩
        cases r with
        | error er => exact ErOk.same s1 q
        | ok b => exact fun H2 s2 => q H2 (s1.trans s2)
      | false =>
        cases e
        exact q H1 s1
theorem dw_or (ha : DT X Cl W a ta) (hb : DW X Cl W (.BoolOp .Or (b :: rest) pos) tb) : DW X Cl W (.BoolOp .Or (a :: b :: rest) pos) (tOrD ta tb) := PW.imp (pw_or ha hb) fun σ H Q ⟨Z, ρ, r, I, e, q⟩ => by
  unfold tOrD at e
  cases e1 : ta ρ with
  | none => rw [e1] at e; cases e
  | some r1 =>
    refine tt_step I e1 (fun er z => ?_) fun b H1 ev s1 I1 => ?_
    · rw [e1, z] at e
      cases e
      exact q
    · subst ev
      rw [e1] at e
      cases b with
      | false =>
        rw [if_neg Bool.false_ne_true]
        refine ⟨Z, ρ, r, I1, e, ?_⟩
        cases r with
        | error er => exact ErOk.same s1 q
        | ok b => exact fun H2 s2 => q H2 (s1.trans s2)
      | true =>
        cases e
        exact q H1 s1
theorem dt_w (h : DW X Cl W e ta) : DT X Cl W e ta := PW.pt h
theorem dt_not (ha : DT X Cl W a ta) : DT X Cl W (.UnaryOp .Not a pos) (tNotD ta) := PT.imp (pt_not ha) fun σ H Q ⟨Z, ρ, r, I, e, q⟩ => by
  unfold tNotD at e
  cases e1 : ta ρ with
  | none => rw [e1] at e; cases e
  | some r1 =>
    refine tt_step I e1 (fun er z => ?_) fun b H1 ev s1 I1 => ?_
    · rw [e1, z] at e
      cases e
      exact q
    · subst ev
      rw [e1] at e
      cases e
      exact q H1 s1
/-- a if t else b -/
@[simp] def eIf (t : FT) (f g : FE) (ρ : Rho) : Option (Except Er Val) := match t ρ with
  | none => none
  | some (.error e) => some (.error e)
  | some (.ok true) => f ρ
  | some (.ok false) => g ρ
theorem de_if (hc : DT X Cl W c ta) (ha : DE X Cl W a fa) (hb : DE X Cl W b fb) : DE X Cl W (.IfExp c a b pos) (eIf ta fa fb) := PE.imp (pe_ifExp hc ha hb) fun σ H Q ⟨Z, ρ, r, I, e, q⟩ => by
  unfold eIf at e
  cases e1 : ta ρ with
  | none => rw [e1] at e; cases e
  | some r1 =>
    refine tt_step I e1 (fun er z => ?_) fun b H1 ev s1 I1 => ?_
    · rw [e1, z] at e
      cases e
      exact q
    · subst ev
      rw [e1] at e
      cases b with
      | true =>
        rw [if_pos rfl]
        exact ⟨Z, ρ, r, I1, e, q.from s1⟩
      | false =>
        rw [if_neg Bool.false_ne_true]
        exact ⟨Z, ρ, r, I1, e, q.from s1⟩
/-- and, or, not as values: True or False -/
@[simp] def eT (t : FT) (ρ : Rho) : Option (Except Er Val) := match t ρ with
  | none => none
  | some (.error e) => some (.error e)
  | some (.ok b) => ok (.bool b)
def eAndV (f g : FE) : FE := bE f fun v ρ => match v.d with
  | .bool true => g ρ
  | .bool false => ok (.bool false)
  | _ => none
def eOrV (f g : FE) : FE := bE f fun v ρ => match v.d with
  | .bool false => g ρ
  | .bool true => ok (.bool true)
  | _ => none
@[simp] def gNotV (v : Val) : Option Val := match v.d with
  | .bool b => some (.s (.bool (!b)))
  | _ => none
theorem de_one {op} (h : DE X Cl W a fa) : DE X Cl W (.BoolOp op [a] pos) fa := pe_one h
theorem de_andV (ha : DE X Cl W a fa) (hb : DE X Cl W (.BoolOp .And (b :: rest) pos) fb) : DE X Cl W (.BoolOp .And (a :: b :: rest) pos) (eAndV fa fb) := PE.imp (pe_and ha hb) fun σ H Q ⟨Z, ρ, r, I, e, q⟩ => by
  refine te_bind I e q fun v x H1 _ h1 s1 hv I1 q1 => ?_
  split at h1
  · rename_i e1
    exact ⟨true, hv.bl_inv I e1, ⟨Z, ρ, r, I1, h1, q1⟩⟩
  · rename_i e1
    cases h1
    exact ⟨false, hv.bl_inv I e1, q1 _ H1 (Same.refl _) (.bl _)⟩
  · cases h1
theorem de_orV (ha : DE X Cl W a fa) (hb : DE X Cl W (.BoolOp .Or (b :: rest) pos) fb) : DE X Cl W (.BoolOp .Or (a :: b :: rest) pos) (eOrV fa fb) := PE.imp (pe_or ha hb) fun σ H Q ⟨Z, ρ, r, I, e, q⟩ => by
  refine te_bind I e q fun v x H1 _ h1 s1 hv I1 q1 => ?_
  split at h1
  · rename_i e1
    exact ⟨false, hv.bl_inv I e1, ⟨Z, ρ, r, I1, h1, q1⟩⟩
  · rename_i e1
    cases h1
    exact ⟨true, hv.bl_inv I e1, q1 _ H1 (Same.refl _) (.bl _)⟩
  · cases h1
theorem de_notV (ha : DE X Cl W a fa) : DE X Cl W (.UnaryOp .Not a pos) (e1 gNotV fa) := PE.imp (pe_not ha) fun σ H Q ⟨Z, ρ, r, I, e, q⟩ => by
  refine te_bind I e q fun v x H1 _ h1 s1 hv I1 q1 => ?_
  unfold gNotV at h1
  split at h1
  · rename_i b e1
    cases h1
    exact ⟨b, hv.bl_inv I e1, q1 _ H1 (Same.refl _) (.bl _)⟩
  · cases h1
end
end DL
set_option Elab.async false
set_option linter.all false
set_option maxRecDepth 100000
set_option maxHeartbeats 4000000
/-! DL4: statements, loops, defs, by data. -/
namespace DL
open PySem PySem.Spec PyProof.Rows L2

/-! ### the state of a def's body -/
inductive Out where
  | nx (ρ : Rho) | ret (d : D) | retF (ds : List D) | retX (ds : List D) (k : Nat) | brk (ρ : Rho) | ct (ρ : Rho) | exc (ρ : Rho) (c : Nat) (i : Int)
abbrev FS := Rho → Option Out
structure SI (K : PySem.W.Frag) (H0 : Hp) (Z : Addr → Prop) (H : Hp) (σ : St) (ρ : Rho) : Prop where
  di : DI K Z H σ ρ
  same : Same H0 H
  new : ∀ a, Owned σ ρ a → H0 a = none
def OOk (K : PySem.W.Frag) (Cl : Nat → Addr) (W : WX) (H0 : Hp) (Z : Addr → Prop) (D : Ends) : Out → Prop
  | .nx ρ => ∀ σ H, SI K H0 Z H σ ρ → D.nx σ H
  | .brk ρ => ∀ σ H, SI K H0 Z H σ ρ → D.bk σ H
  | .ct ρ => ∀ σ H, SI K H0 Z H σ ρ → D.ct σ H
  | .ret d => ∀ v H, Same H0 H → Dp K (hide H Z) v d → D.rt v H
  | .retF ds => ∀ p xs H, Same H0 H → H0 p = none → H p = some (.lst xs) → DpAll K (hide H (ZP Z p)) xs ds → D.rt (.ref p) H
  | .retX ds k => ∀ T p xs ys H, Same H0 H → SqT K (hide H Z) T xs → DpAll K (hide H Z) xs ds → xs[k]? = some (.ref p) → H0 p = none → H p = some (.lst ys) → D.rt (.ref T) H
  | .exc ρ c i => ∀ dd σ H, SI K H0 Z H σ ρ → H dd = some (.xd [(("at" : Str), .int i)]) → W (.ref (Cl c)) (some dd) σ H
def tsOf (K : PySem.W.Frag) (Cl : Nat → Addr) (W : WX) (f : FS) : TS := fun D σ H => ∃ H0 Z ρ o, SI K H0 Z H σ ρ ∧ f ρ = some o ∧ OOk K Cl W H0 Z D o
def DS (X : Cx) (Cl : Nat → Addr) (W : WX) (st : Stmt) (f : FS) : Prop := PS X st (tsOf X.K Cl W f)
def DSs (X : Cx) (Cl : Nat → Addr) (W : WX) (st : List Stmt) (f : FS) : Prop := PSs X st (tsOf X.K Cl W f)
section
variable {K : PySem.W.Frag} {Cl : Nat → Addr} {W : WX} {H0 H1 : Hp} {Z : Addr → Prop} {H H' : Hp} {σ : St} {ρ : Rho} {D : Ends}
theorem SI.same' (I : SI K H0 Z H σ ρ) (s : Same H H') : SI K H0 Z H' σ ρ := ⟨I.di.same s, I.same.trans s, I.new⟩
/-- a later entry heap, for a part of the body -/
theorem SI.rebase (I : SI K H1 Z H σ ρ) (s : Same H0 H1) : SI K H0 Z H σ ρ := ⟨I.di, s.trans I.same, fun a h => s.free (I.new a h)⟩
theorem OOk.rebase {o : Out} (s : Same H0 H1) (h : OOk K Cl W H0 Z D o) : OOk K Cl W H1 Z D o := by
  cases o with
  | nx ρ => exact fun σ H I => h σ H (I.rebase s)
  | brk ρ => exact fun σ H I => h σ H (I.rebase s)
  | ct ρ => exact fun σ H I => h σ H (I.rebase s)
  | ret d => exact fun v H q e => h v H (s.trans q) e
  | retF ds => exact fun p xs H q n e1 e2 => h p xs H (s.trans q) (s.free n) e1 e2
  | retX ds k => exact fun T p xs ys H q e1 e2 e3 n e4 => h T p xs ys H (s.trans q) e1 e2 e3 (s.free n) e4
  | exc ρ c i => exact fun dd σ H I e => h dd σ H (I.rebase s) e
theorem OOk.err {e : Er} (I : SI K H0 Z H σ ρ) (h : OOk K Cl W H0 Z D (.exc ρ e.1 e.2)) : ErOk Cl W σ H e := fun dd H' s hd => h dd σ H' (I.same' s) hd

/-- a list that was not there at the start is written -/
theorem Same.over {H1 H4 : Hp} {L : Addr} {acc zs : List V} (s : Same H1 H4) (nL : H1 L = none) (hL : H4 L = some (.lst acc)) : Same H1 (upd H4 L (.lst zs)) := by
  have ne : ∀ {b : Addr}, H1 b ≠ none → b ≠ L := fun {b} e z => e (by rw [z]; exact nL)
  have nP : ∀ {b : Addr} {o : HO}, H4 b = some o → (∀ ys, o ≠ .lst ys) → b ≠ L := fun {b o} e n z => by
    rw [z, hL] at e
    exact n _ (Option.some.inj e).symm
  refine ⟨fun b o e n => by rw [upd_ne (ne (by rw [e]; intro z; cases z))]; exact s.d b o e n, fun P q t => ?_, fun b e => by rw [upd_ne (ne e)]; exact s.live b e⟩
  obtain ⟨ps, h1, h2, h3⟩ := s.tb P q t
  refine ⟨ps, by rw [upd_ne (nP h1 fun _ z => by cases z)]; exact h1, h2, fun pos cv hc => ?_⟩
  obtain ⟨c, e1, e2⟩ := h3 pos cv hc
  exact ⟨c, e1, by rw [upd_ne (nP e2 fun _ z => by unfold LamX.CodeO at z; cases z)]; exact e2⟩
/-! ### slots change -/
theorem OwnAt.slot {i : Nat} {a : Addr} (h : OwnAt σ ρ i a) : ∃ s : Slot, ρ[i]? = some s ∧ s.owns := by
  rcases h with ⟨_, ds, h2⟩ | ⟨k, ds, h2⟩
  · exact ⟨_, h2, trivial⟩
  · exact ⟨_, h2, trivial⟩
theorem own_sub {i : Nat} {x : Option V} {s : Slot} (hs : ¬ s.owns) {j : Nat} {a : Addr} (h : OwnAt (σ.set i x) (ρ.set i s) j a) : OwnAt σ ρ j a := by
  by_cases hj : i = j
  · subst hj
    have no : ∀ t : Slot, t.owns → (ρ.set i s)[i]? ≠ some t := fun t ht h2 => by
      rw [List.getElem?_set, if_pos rfl] at h2
      split at h2
      · rw [Option.some.inj h2] at hs
        exact hs ht
      · cases h2
    rcases h with ⟨_, ds, h2⟩ | ⟨k, ds, h2⟩
    · exact absurd h2 (no (.own ds) trivial)
    · exact absurd h2 (no (.ownT a k ds) trivial)
  · unfold OwnAt at h ⊢
    rw [List.getElem?_set_ne hj, List.getElem?_set_ne hj] at h
    exact h
theorem DI.setS (I : DI K Z H σ ρ) {i : Nat} {x : Option V} {s : Slot} (hs : ¬ s.owns) (h : ∀ Hs, SameD (hide H (Zo Z σ ρ)) Hs → SlotOk K H Hs (some x) s) : DI K Z H (σ.set i x) (ρ.set i s) := by
  have sub : ∀ a, Owned (σ.set i x) (ρ.set i s) a → Owned σ ρ a := fun a ⟨j, q⟩ => ⟨j, own_sub hs q⟩
  have hm : SameD (hide H (Zo Z σ ρ)) (hide H (Zo Z (σ.set i x) (ρ.set i s))) := hide_mono (Same.refl _) fun b hb => .inl (hb.elim .inl fun z => .inr (sub b z))
  refine ⟨by rw [List.length_set, List.length_set]; exact I.len, fun j k a h1 h2 => I.one j k a (own_sub hs h1) (own_sub hs h2), fun a q => I.out a (sub a q), I.live, fun j t e => ?_⟩
  by_cases hj : i = j
  · subst hj
    rw [List.getElem?_set, if_pos rfl] at e
    split at e
    · rename_i hl
      cases e
      rw [List.getElem?_set, if_pos rfl, if_pos (by rw [← I.len]; exact hl)]
      exact h _ hm
    · cases e
  · rw [List.getElem?_set_ne hj] at e ⊢
    have q := I.slots j t e
    cases t with
    | un => trivial
    | dat d =>
      obtain ⟨v, e1, h1⟩ := q
      exact ⟨v, e1, Dp.same hm h1⟩
    | own ds =>
      obtain ⟨a, xs, e1, e2, h1⟩ := q
      exact ⟨a, xs, e1, e2, DpAll.same hm h1⟩
    | err a dd j => exact q
    | ownT a k ds =>
      obtain ⟨T, e1, h1⟩ := q
      exact ⟨T, e1, h1.same hm fun _ z => z⟩
theorem DI.setDat (I : DI K Z H σ ρ) {i : Nat} {v : V} {d : DL.D} (h : Dp K (hide H (Zo Z σ ρ)) v d) : DI K Z H (σ.set i (some v)) (ρ.set i (.dat d)) :=
  I.setS (fun z => nomatch z) fun Hs s => ⟨v, rfl, Dp.same s h⟩
theorem DI.setUn (I : DI K Z H σ ρ) {i : Nat} {x : Option V} : DI K Z H (σ.set i x) (ρ.set i .un) := I.setS (fun z => nomatch z) fun _ _ => trivial
theorem SI.setDat (I : SI K H0 Z H σ ρ) {i : Nat} {v : V} {d : DL.D} (h : Dp K (hide H (Zo Z σ ρ)) v d) : SI K H0 Z H (σ.set i (some v)) (ρ.set i (.dat d)) :=
  ⟨I.di.setDat h, I.same, fun a ⟨j, q⟩ => I.new a ⟨j, own_sub (s := .dat d) (fun z => nomatch z) q⟩⟩
theorem SI.setUn (I : SI K H0 Z H σ ρ) {i : Nat} {x : Option V} : SI K H0 Z H (σ.set i x) (ρ.set i .un) :=
  ⟨I.di.setUn, I.same, fun a ⟨j, q⟩ => I.new a ⟨j, own_sub (s := .un) (fun z => nomatch z) q⟩⟩
theorem own_set {i : Nat} {p : Addr} {es : List DL.D} {j : Nat} {a : Addr} (h : OwnAt (σ.set i (some (.ref p))) (ρ.set i (.own es)) j a) : (i = j ∧ a = p) ∨ (i ≠ j ∧ OwnAt σ ρ j a) := by
  by_cases hj : i = j
  · subst hj
    rcases h with ⟨h1, ds, h2⟩ | ⟨k, ds, h2⟩
    · rw [List.getElem?_set, if_pos rfl] at h1
      split at h1
      · cases h1
        exact .inl ⟨rfl, rfl⟩
      · cases h1
    · rw [List.getElem?_set, if_pos rfl] at h2
      split at h2
      · cases h2
      · cases h2
  · unfold OwnAt at h
    rw [List.getElem?_set_ne hj, List.getElem?_set_ne hj] at h
    exact .inr ⟨hj, h⟩
theorem DI.setOwn (I : DI K Z H1 σ ρ) (s1 : Same H1 H) {i : Nat} {p : Addr} {xs : List V} {ds : List DL.D} (np : H1 p = none) (hp : H p = some (.lst xs)) (h : DpAll K (hide H (ZP (Zo Z σ ρ) p)) xs ds) : DI K Z H (σ.set i (some (.ref p))) (ρ.set i (.own ds)) := by
  have nz : ¬ Zo Z σ ρ p := fun z => I.liveZ z np
  have no : ∀ j, ¬ OwnAt σ ρ j p := fun j q => nz (.inr ⟨j, q⟩)
  have sub : ∀ b, Zo Z (σ.set i (some (.ref p))) (ρ.set i (.own ds)) b → ZP (Zo Z σ ρ) p b := fun b hb => by
    rcases hb with hb | ⟨j, q⟩
    · exact .inl (.inl hb)
    · rcases own_set q with ⟨_, e⟩ | ⟨_, q⟩
      · exact .inr e
      · exact .inl (.inr ⟨j, q⟩)
  have hm : SameD (hide H (ZP (Zo Z σ ρ) p)) (hide H (Zo Z (σ.set i (some (.ref p))) (ρ.set i (.own ds)))) := hide_mono (Same.refl _) fun b hb => .inl (sub b hb)
  have hm1 : SameD (hide H1 (Zo Z σ ρ)) (hide H (Zo Z (σ.set i (some (.ref p))) (ρ.set i (.own ds)))) := hide_mono s1 fun b hb => by
    rcases sub b hb with z | rfl
    · exact .inl z
    · exact .inr np
  have I' := I.same s1
  refine ⟨by rw [List.length_set, List.length_set]; exact I.len, fun j k a h1 h2 => ?_, fun a ⟨j, q⟩ => ?_, I'.live, fun j t e => ?_⟩
  · rcases own_set h1 with ⟨e1, e2⟩ | ⟨n1, q1⟩
    · rcases own_set h2 with ⟨e3, e4⟩ | ⟨n2, q2⟩
      · rw [← e1, ← e3]
      · rw [e2] at q2
        exact absurd q2 (no k)
    · rcases own_set h2 with ⟨e3, e4⟩ | ⟨n2, q2⟩
      · rw [e4] at q1
        exact absurd q1 (no j)
      · exact I.one j k a q1 q2
  · rcases own_set q with ⟨_, e⟩ | ⟨_, q⟩
    · rw [e]
      exact fun z => nz (.inl z)
    · exact I.out a ⟨j, q⟩
  · by_cases hj : i = j
    · subst hj
      rw [List.getElem?_set, if_pos rfl] at e
      split at e
      · rename_i hl
        cases e
        rw [List.getElem?_set, if_pos rfl, if_pos (by rw [← I.len]; exact hl)]
        exact ⟨p, xs, rfl, hp, DpAll.same hm h⟩
      · cases e
    · rw [List.getElem?_set_ne hj] at e ⊢
      have q := I.slots j t e
      cases t with
      | un => trivial
      | dat d =>
        obtain ⟨v, e1, h1⟩ := q
        exact ⟨v, e1, Dp.same hm1 h1⟩
      | own es =>
        obtain ⟨a, ys, e1, e2, h1⟩ := q
        exact ⟨a, ys, e1, s1.at e2, DpAll.same hm1 h1⟩
      | err a dd j => exact ⟨q.1, s1.at q.2⟩
      | ownT a k ds =>
        obtain ⟨T, e1, h1⟩ := q
        exact ⟨T, e1, h1.same hm1 fun _ z => s1.at z⟩
theorem SI.setOwn (I : SI K H0 Z H1 σ ρ) (s1 : Same H1 H) {i : Nat} {p : Addr} {xs : List V} {ds : List DL.D} (np : H1 p = none) (hp : H p = some (.lst xs)) (h : DpAll K (hide H (ZP (Zo Z σ ρ) p)) xs ds) : SI K H0 Z H (σ.set i (some (.ref p))) (ρ.set i (.own ds)) := by
  refine ⟨I.di.setOwn s1 np hp h, I.same.trans s1, fun a ⟨j, q⟩ => ?_⟩
  rcases own_set q with ⟨_, e⟩ | ⟨_, q⟩
  · rw [e]
    exact I.same.free np
  · exact I.new a ⟨j, q⟩
/-- slot i's own list is written -/
theorem SI.write (I : SI K H0 Z H σ ρ) {i : Nat} {p : Addr} {xs : List V} {ds es : List DL.D} (hi : σ[i]? = some (some (.ref p))) (hr : ρ[i]? = some (.own es)) (h : DpAll K (hide H (Zo Z σ ρ)) xs ds) : SI K H0 Z (upd H p (.lst xs)) σ (ρ.set i (.own ds)) := by
  have hil : i < ρ.length := (List.getElem?_eq_some_iff.mp hr).1
  have own_iff : ∀ j a, OwnAt σ (ρ.set i (.own ds)) j a ↔ OwnAt σ ρ j a := fun j a => by
    by_cases hj : i = j
    · subst hj
      constructor
      · rintro (⟨h1, _⟩ | ⟨k, d, h2⟩)
        · exact .inl ⟨h1, es, hr⟩
        · rw [List.getElem?_set, if_pos rfl, if_pos hil] at h2
          cases h2
      · rintro (⟨h1, _⟩ | ⟨k, d, h2⟩)
        · exact .inl ⟨h1, ds, by rw [List.getElem?_set, if_pos rfl, if_pos hil]⟩
        · rw [hr] at h2
          cases h2
    · unfold OwnAt
      rw [List.getElem?_set_ne hj]
  have zo_iff : ∀ b, Zo Z σ (ρ.set i (.own ds)) b ↔ Zo Z σ ρ b := fun b => by
    constructor
    · rintro (z | ⟨j, q⟩)
      · exact .inl z
      · exact .inr ⟨j, (own_iff j b).mp q⟩
    · rintro (z | ⟨j, q⟩)
      · exact .inl z
      · exact .inr ⟨j, (own_iff j b).mpr q⟩
  have hpo : Owned σ ρ p := ⟨i, .inl ⟨hi, es, hr⟩⟩
  have hm : SameD (hide H (Zo Z σ ρ)) (hide (upd H p (.lst xs)) (Zo Z σ (ρ.set i (.own ds)))) := fun b o e _ => by
    obtain ⟨n, e1⟩ := hide_of e
    have nb : b ≠ p := fun z => n (.inr (z ▸ hpo))
    exact hide_at (fun z => n ((zo_iff b).mp z)) (by rw [upd_ne nb]; exact e1)
  have live : ∀ a, H a ≠ none → upd H p (.lst xs) a ≠ none := fun a h z => by
    by_cases e : a = p
    · rw [e, upd_same] at z; cases z
    · rw [upd_ne e] at z; exact h z
  refine ⟨⟨by rw [List.length_set]; exact I.di.len, fun j k a h1 h2 => I.di.one j k a ((own_iff j a).mp h1) ((own_iff k a).mp h2), fun a ⟨j, q⟩ => I.di.out a ⟨j, (own_iff j a).mp q⟩, fun a z => live a (I.di.live a z), fun j t e => ?_⟩, ?_, fun a ⟨j, q⟩ => I.new a ⟨j, (own_iff j a).mp q⟩⟩
  · by_cases hj : i = j
    · subst hj
      rw [List.getElem?_set, if_pos rfl, if_pos hil] at e
      cases e
      exact ⟨p, xs, hi, upd_same, DpAll.same hm h⟩
    · rw [List.getElem?_set_ne hj] at e
      have q := I.di.slots j t e
      cases t with
      | un => trivial
      | dat d =>
        obtain ⟨v, e1, h1⟩ := q
        exact ⟨v, e1, Dp.same hm h1⟩
      | own gs =>
        obtain ⟨a, ys, e1, e2, h1⟩ := q
        have na : a ≠ p := fun z => hj (I.di.one i j p (.inl ⟨hi, es, hr⟩) (.inl ⟨by rw [← z]; exact e1, gs, e⟩))
        exact ⟨a, ys, e1, by rw [upd_ne na]; exact e2, DpAll.same hm h1⟩
      | err a dd j =>
        obtain ⟨p', xs', ep, hp', _⟩ := I.di.slots i _ hr
        rw [hi] at ep
        cases ep
        have nd : dd ≠ p := fun z => by
          have q2 := q.2
          rw [z, hp'] at q2
          cases q2
        exact ⟨q.1, by rw [upd_ne nd]; exact q.2⟩
      | ownT a k gs =>
        obtain ⟨T, e1, h1⟩ := q
        have na : a ≠ p := fun z => hj (I.di.one i j p (.inl ⟨hi, es, hr⟩) (.inr ⟨k, gs, by rw [← z]; exact e⟩))
        exact ⟨T, e1, h1.same hm fun _ z => by rw [upd_ne na]; exact z⟩
  · have np : ∀ b, H0 b ≠ none → b ≠ p := fun b e z => e (by rw [z]; exact I.new p hpo)
    obtain ⟨p', xs', ep, hp', _⟩ := I.di.slots i _ hr
    rw [hi] at ep
    cases ep
    refine ⟨fun b o e n => by rw [upd_ne (np b (by rw [e]; intro z; cases z))]; exact I.same.d b o e n, fun P q t => ?_, fun b e => by rw [upd_ne (np b e)]; exact I.same.live b e⟩
    obtain ⟨ps, h1, h2, h3⟩ := I.same.tb P q t
    have nP : ∀ {b : Addr} {o : HO}, H b = some o → (∀ ys, o ≠ .lst ys) → b ≠ p := fun {b o} e n z => by
      rw [z, hp'] at e
      exact n _ (Option.some.inj e).symm
    refine ⟨ps, by rw [upd_ne (nP h1 fun _ z => by cases z)]; exact h1, h2, fun pos cv hc => ?_⟩
    obtain ⟨c, e1, e2⟩ := h3 pos cv hc
    exact ⟨c, e1, by rw [upd_ne (nP e2 fun _ z => by unfold LamX.CodeO at z; cases z)]; exact e2⟩
end
end DL
set_option Elab.async false
set_option linter.all false
set_option maxRecDepth 100000
set_option maxHeartbeats 4000000
/-! DL5: rules for statements, by data. -/
namespace DL
open PySem PySem.Spec PyProof.Rows L2
section
variable {X : Cx} {Cl : Nat → Addr} {W : WX} {e e' : Expr} {f f' : FE} {st : Stmt} {sts sts' : List Stmt} {pos : Pos} {K : PySem.W.Frag}

/-- an expression within a statement: its value, or its error -/
@[simp] def sE (f : FE) (k : Val → FS) (ρ : Rho) : Option Out := match f ρ with
  | none => none
  | some (.error e) => some (.exc ρ e.1 e.2)
  | some (.ok v) => k v ρ
theorem ts_step {H0 : Hp} {Z : Addr → Prop} {H : Hp} {σ : St} {ρ : Rho} {D : Ends} {k : Val → FS} {o : Out} {Q1 : VK} (I : SI K H0 Z H σ ρ) (h : sE f k ρ = some o) (q : OOk K Cl W H0 Z D o)
    (go : ∀ v x H1, f ρ = some (.ok v) → k v ρ = some o → Same H H1 → VOk K Z σ ρ H H1 x v → SI K H0 Z H1 σ ρ → Q1 x H1) : teOf K Cl W f σ H Q1 := by
  unfold sE at h
  cases e : f ρ with
  | none => rw [e] at h; cases h
  | some r1 =>
    rw [e] at h
    refine te_step I.di e (fun er z => ?_) fun v x H1 ev s1 hv I1 => ?_
    · subst z
      cases h
      exact OOk.err I q
    · subst ev
      exact go v x H1 e h s1 hv (I.same' s1)

/-! ### blocks -/
@[simp] def fNx (ρ : Rho) : Option Out := some (.nx ρ)
@[simp] def fSeq (f g : FS) (ρ : Rho) : Option Out := match f ρ with
  | some (.nx ρ') => g ρ'
  | r => r
theorem ds_nil : DSs X Cl W [] fNx := PSs.imp pss_nil fun D σ H ⟨H0, Z, ρ, o, I, e, q⟩ => by cases e; exact q σ H I
theorem ds_one {f : FS} (h : DS X Cl W st f) : DSs X Cl W [st] f := pss_one h
theorem ds_cons {f g : FS} (h1 : DS X Cl W st f) (h2 : DSs X Cl W sts g) : DSs X Cl W (st :: sts) (fSeq f g) := PSs.imp (pss_cons h1 h2) fun D σ H ⟨H0, Z, ρ, o, I, e, q⟩ => by
  unfold fSeq at e
  cases e1 : f ρ with
  | none => rw [e1] at e; cases e
  | some o1 =>
    rw [e1] at e
    refine ⟨H0, Z, ρ, o1, I, e1, ?_⟩
    cases o1 with
    | nx ρ' => exact fun σ' H' I' => ⟨H0, Z, ρ', o, I', e, q⟩
    | brk ρ' => cases e; exact q
    | ct ρ' => cases e; exact q
    | ret d => cases e; exact q
    | retF ds => cases e; exact q
    | retX ds k => cases e; exact q
    | exc ρ' c i => cases e; exact q
theorem ds_pass : DS X Cl W (.Pass pos) fNx := PS.imp ps_pass fun D σ H ⟨H0, Z, ρ, o, I, e, q⟩ => by cases e; exact q σ H I
@[simp] def fBrk (ρ : Rho) : Option Out := some (.brk ρ)
@[simp] def fCt (ρ : Rho) : Option Out := some (.ct ρ)
theorem ds_break : DS X Cl W (.Break pos) fBrk := PS.imp ps_break fun D σ H ⟨H0, Z, ρ, o, I, e, q⟩ => by cases e; exact q σ H I
theorem ds_continue : DS X Cl W (.Continue pos) fCt := PS.imp ps_continue fun D σ H ⟨H0, Z, ρ, o, I, e, q⟩ => by cases e; exact q σ H I
/-- a slot's own list is from now on a list like any other -/
@[simp] def fShare (i : Nat) (g : FS) (ρ : Rho) : Option Out := match ρ[i]? with
  | some (.own ds) => g (ρ.set i (.dat (.list ds)))
  | _ => g ρ
theorem SI.share {H0 : Hp} {Z : Addr → Prop} {H : Hp} {σ : St} {ρ : Rho} {i : Nat} {ds : List D} (I : SI K H0 Z H σ ρ) (h : ρ[i]? = some (.own ds)) : SI K H0 Z H σ (ρ.set i (.dat (.list ds))) := by
  obtain ⟨p, xs, e1, e2, h1⟩ := I.di.slots i _ h
  have sub : ∀ {j a}, OwnAt σ (ρ.set i (.dat (.list ds))) j a → i ≠ j ∧ OwnAt σ ρ j a := fun {j a} ho => by
    by_cases hj : i = j
    · subst hj
      obtain ⟨s, h2, h3⟩ := ho.slot
      rw [List.getElem?_set, if_pos rfl] at h2
      split at h2
      · cases h2
        cases h3
      · cases h2
    · unfold OwnAt at ho
      rw [List.getElem?_set_ne hj] at ho
      exact ⟨hj, ho⟩
  have hm : SameD (hide H (Zo Z σ ρ)) (hide H (Zo Z σ (ρ.set i (.dat (.list ds))))) := hide_mono (Same.refl _) fun b hb => .inl (hb.elim .inl fun ⟨j, z⟩ => .inr ⟨j, (sub z).2⟩)
  have np : ¬ Zo Z σ (ρ.set i (.dat (.list ds))) p := fun z => z.elim (I.di.out p ⟨i, .inl ⟨e1, ds, h⟩⟩) fun ⟨j, z⟩ => (sub z).1 (I.di.one i j p (.inl ⟨e1, ds, h⟩) (sub z).2)
  refine ⟨⟨by rw [List.length_set]; exact I.di.len, fun j k a h1 h2 => I.di.one j k a (sub h1).2 (sub h2).2, fun a ⟨j, z⟩ => I.di.out a ⟨j, (sub z).2⟩, I.di.live, fun j t e => ?_⟩, I.same, fun a ⟨j, z⟩ => I.new a ⟨j, (sub z).2⟩⟩
  by_cases hj : i = j
  · subst hj
    rw [List.getElem?_set, if_pos rfl] at e
    split at e
    · cases e
      exact ⟨_, e1, .lst (Rd.of (hide_at np e2)) (DpAll.same hm h1)⟩
    · cases e
  · rw [List.getElem?_set_ne hj] at e
    have q := I.di.slots j t e
    cases t with
    | un => trivial
    | dat d =>
      obtain ⟨v, e1, h1⟩ := q
      exact ⟨v, e1, Dp.same hm h1⟩
    | own gs =>
      obtain ⟨a, ys, e1, e2, h1⟩ := q
      exact ⟨a, ys, e1, e2, DpAll.same hm h1⟩
    | err a dd j => exact q
    | ownT a k gs =>
      obtain ⟨T, e1, h1⟩ := q
      exact ⟨T, e1, h1.same hm fun _ z => z⟩
theorem dss_share {i : Nat} {g : FS} (h : DSs X Cl W sts g) : DSs X Cl W sts (fShare i g) := PSs.imp h fun D σ H ⟨H0, Z, ρ, o, I, e, q⟩ => by
  unfold fShare at e
  split at e
  · rename_i ds hd
    exact ⟨H0, Z, _, o, I.share hd, e, q⟩
  · exact ⟨H0, Z, ρ, o, I, e, q⟩

/-! ### stores -/
def fSet (i : Nat) (f : FE) : FS := sE f fun v ρ => v.st.map fun d => .nx (ρ.set i (.dat d))
def fSetO (i : Nat) (f : FE) : FS := sE f fun v ρ => match v with
  | .f ds => some (.nx (ρ.set i (.own ds)))
  | _ => none
theorem set_read {i : Nat} {D : Ends} {σ : St} {H : Hp} (h : tsOf K Cl W (fSet i f) D σ H) : tAsg (teOf K Cl W f) (gName i) D σ H := by
  obtain ⟨H0, Z, ρ, o, I, e, q⟩ := h
  refine ts_step I e q fun v x H1 _ h1 s1 hv I1 => ?_
  cases e1 : v.st with
  | none => rw [e1] at h1; cases h1
  | some d =>
    rw [e1] at h1
    cases h1
    exact q _ _ (I1.setDat (hv.stab I.di e1))
theorem setO_read {i : Nat} {D : Ends} {σ : St} {H : Hp} (h : tsOf K Cl W (fSetO i f) D σ H) : tAsg (teOf K Cl W f) (gName i) D σ H := by
  obtain ⟨H0, Z, ρ, o, I, e, q⟩ := h
  refine ts_step I e q fun v x H1 _ h1 s1 hv I1 => ?_
  split at h1
  · cases h1
    obtain ⟨p, xs, rfl, n, e2, h2⟩ := hv
    exact q _ _ (I.setOwn s1 n e2 h2)
  · cases h1
theorem ds_set {i : Nat} {x : Str} {pos' : Pos} (hN : X.N.Nodup) (he : DE X Cl W e f) (hi : X.N[i]? = some x := by rfl) (hx : Loc X.env.scope x := by first | exact .inl rfl | exact .inr rfl) (hs : swapsWith e (some (.Name x pos')) pos.line X.env = pure false := by rfl) (hf : X.fn x = true ∨ X.env.scope.names.lookup x = some .local := by first | exact .inl rfl | exact .inr rfl) :
    DS X Cl W (.Assign [.Name x pos'] e pos) (fSet i f) := PS.imp (ps_set hN hi hx he hs hf) fun D σ H h => set_read h
theorem ds_setO {i : Nat} {x : Str} {pos' : Pos} (hN : X.N.Nodup) (he : DE X Cl W e f) (hi : X.N[i]? = some x := by rfl) (hx : Loc X.env.scope x := by first | exact .inl rfl | exact .inr rfl) (hs : swapsWith e (some (.Name x pos')) pos.line X.env = pure false := by rfl) (hf : X.fn x = true ∨ X.env.scope.names.lookup x = some .local := by first | exact .inl rfl | exact .inr rfl) :
    DS X Cl W (.Assign [.Name x pos'] e pos) (fSetO i f) := PS.imp (ps_set hN hi hx he hs hf) fun D σ H h => setO_read h
def fDrop (f : FE) : FS := sE f fun _ ρ => some (.nx ρ)
theorem ds_expr (he : DE X Cl W e f) (hs : swapsWith e none pos.line X.env = pure false := by rfl) : DS X Cl W (.Expr e pos) (fDrop f) := PS.imp (ps_expr he hs) fun D σ H ⟨H0, Z, ρ, o, I, e, q⟩ => by
  refine ts_step I e q fun v x H1 _ h1 s1 hv I1 => ?_
  cases h1
  exact q _ _ I1
def fRet (f : FE) : FS := sE f fun v _ => match v with
  | .s d => some (.ret d)
  | .m d => some (.ret d)
  | .b ds => some (.retF ds)
  | .f ds => some (.retF ds)
theorem ds_ret (he : DE X Cl W e f) : DS X Cl W (.Return (some e) pos) (fRet f) := PS.imp (ps_ret he) fun D σ H ⟨H0, Z, ρ, o, I, e, q⟩ => by
  refine ts_step I e q fun v x H1 _ h1 s1 hv I1 => ?_
  cases v with
  | s d => cases h1; exact q x H1 I1.same (Dp.same (hide_mono (Same.refl _) fun _ h => .inl (.inl h)) hv)
  | m d => cases h1; exact q x H1 I1.same hv
  | b ds =>
    cases h1
    obtain ⟨p, xs, rfl, n, h2, h3⟩ := hv
    refine q p xs H1 I1.same (I.new p n) h2 (DpAll.same (hide_mono (Same.refl _) fun b hb => .inl ?_) h3)
    rcases hb with hb | rfl
    · exact .inl hb
    · exact .inr n
  | f ds =>
    cases h1
    obtain ⟨p, xs, rfl, n, h2, h3⟩ := hv
    refine q p xs H1 I1.same (I.same.free n) h2 (DpAll.same (hide_mono (Same.refl _) fun b hb => .inl ?_) h3)
    rcases hb with hb | rfl
    · exact .inl (.inl hb)
    · exact .inr rfl
@[simp] def fRetN (ρ : Rho) : Option Out := some (.ret .none)
theorem ds_retN : DS X Cl W (.Return none pos) fRetN := PS.imp ps_retN fun D σ H ⟨H0, Z, ρ, o, I, e, q⟩ => by
  cases e
  exact q .non H I.same .non
@[simp] def fIf (t : FT) (f g : FS) (ρ : Rho) : Option Out := match t ρ with
  | none => none
  | some (.error e) => some (.exc ρ e.1 e.2)
  | some (.ok true) => f ρ
  | some (.ok false) => g ρ
theorem ds_if {c : Expr} {a b : List Stmt} {t : FT} {f g : FS} (hc : DT X Cl W c t) (ha : DSs X Cl W a f) (hb : DSs X Cl W b g) : DS X Cl W (.If c a b pos) (fIf t f g) := PS.imp (ps_if hc ha hb) fun D σ H ⟨H0, Z, ρ, o, I, e, q⟩ => by
  unfold fIf at e
  cases e1 : t ρ with
  | none => rw [e1] at e; cases e
  | some r1 =>
    refine tt_step I.di e1 (fun er z => ?_) fun b H1 ev s1 I1 => ?_
    · subst z
      rw [e1] at e
      cases e
      exact OOk.err I q
    · subst ev
      rw [e1] at e
      cases b with
      | true =>
        rw [if_pos rfl]
        exact ⟨H0, Z, ρ, o, I.same' s1, e, q⟩
      | false =>
        rw [if_neg Bool.false_ne_true]
        exact ⟨H0, Z, ρ, o, I.same' s1, e, q⟩
/-- x op= e of ints -/
@[simp] def fAug (i : Nat) (g : Int → Int → Int) (f : FE) (ρ : Rho) : Option Out := match ρ[i]? with
  | some (.dat (.int a)) => sE f (fun v ρ => match v.d with
    | .int b => some (.nx (ρ.set i (.dat (.int (g a b)))))
    | _ => none) ρ
  | _ => none
theorem ds_aug {i : Nat} {x : Str} {op : Operator} {g : Int → Int → Int} {pos' : Pos} (hN : X.N.Nodup) (he : DE X Cl W e f) (ho : PIp X op (ipI g)) (hi : X.N[i]? = some x := by rfl) (hx : Loc X.env.scope x := by first | exact .inl rfl | exact .inr rfl) (hf : X.fn x = true ∨ X.env.scope.names.lookup x = some .local := by first | exact .inl rfl | exact .inr rfl) :
    DS X Cl W (.AugAssign (.Name x pos') op e pos) (fAug i g f) := PS.imp (ps_aug hN hi hx he ho hf) fun D σ H ⟨H0, Z, ρ, o, I, e, q⟩ => by
  unfold fAug at e
  split at e
  · rename_i a ha
    obtain ⟨v, e1, h1⟩ := I.di.slots i _ ha
    have e2 := h1.int_inv
    subst e2
    refine ⟨_, e1, ts_step I e q fun v x H1 _ h1 s1 hv I1 => ?_⟩
    split at h1
    · rename_i b hb
      cases h1
      exact ⟨a, b, rfl, hv.int_inv I.di hb, q _ _ (I1.setDat (.int _))⟩
    · cases h1
  · cases e

/-! ### lists changed in place -/
theorem ownSlot {H0 : Hp} {Z : Addr → Prop} {H : Hp} {σ : St} {ρ : Rho} {i : Nat} {ds : List D} (I : SI K H0 Z H σ ρ) (h : ρ[i]? = some (.own ds)) : ∃ p xs, σ[i]? = some (some (.ref p)) ∧ H p = some (.lst xs) ∧ DpAll K (hide H (Zo Z σ ρ)) xs ds := I.di.slots i _ h
@[simp] def fOwn (i : Nat) (k : List D → FS) (ρ : Rho) : Option Out := match ρ[i]? with
  | some (.own ds) => k ds ρ
  | _ => none
def fApp (i : Nat) (f : FE) : FS := fOwn i fun ds => sE f fun v ρ => match v.st with
  | some d => if lineOk (ds.length + 1) = true then some (.nx (ρ.set i (.own (ds ++ [d])))) else none
  | none => none
theorem ds_app {i : Nat} {c : Expr} (hp : PE X c (tBM X.K "list" rAppend (tVar i) (tCons (teOf X.K Cl W f) tNil))) (hs : swapsWith c none pos.line X.env = pure false := by rfl) : DS X Cl W (.Expr c pos) (fApp i f) := PS.imp (ps_expr hp hs) fun D σ H ⟨H0, Z, ρ, o, I, e, q⟩ => by
  unfold fApp fOwn at e
  split at e
  · rename_i ds hd
    obtain ⟨p, xs, e1, e2, h1⟩ := ownSlot I hd
    refine ⟨_, e1, .inl ⟨rfl, xs, .inl (.inl e2)⟩, ts_step I e q fun v x H1 _ h2 s1 hv I1 => ?_⟩
    split at h2
    · rename_i d hst
      split at h2
      · rename_i hl
        cases h2
        have h3 := DpAll.same (hide_mono s1 fun _ h => .inl h) h1
        refine ⟨p, xs, x, rfl, rfl, s1.at e2, by have := lineOk_ok hl; rw [h1.length]; omega, ?_⟩
        exact q _ _ (I1.write e1 hd (h3.append (.cons (hv.stab I.di hst) .nil)))
      · cases h2
    · cases h2
  · cases e
/-- xs.extend(ys), ys tracked or known -/
def rExtR : V → List V → Hp → VK → Prop := fun x vs H Q => ∃ l b xs zs, x = .ref l ∧ vs = [.ref b] ∧ H l = some (.lst xs) ∧ Rd H b (.lst zs) ∧ xs.length + zs.length ≤ sizeLine ∧ Q .non (upd H l (.lst (xs ++ zs)))
theorem mt_extR : MtM X "list.extend" rExtR := by
  intro pins s σ H x vs v us Q I rx rv h
  obtain ⟨l, b, xs, zs, rfl, rfl, hH, hB, hz, q⟩ := h
  cases rx
  obtain ⟨u, rfl, ru⟩ := rv.one
  cases ru
  obtain ⟨z, its, n, r, hl, e⟩ := I.lstM hH
  obtain ⟨z2, its2, n2, r2, hl2, e2⟩ := Rd.lstM I hB
  have hsz : its.toArray.size + its2.toArray.size ≤ sizeLine := by rw [List.size_toArray, List.size_toArray]; omega
  have hlong : ¬ (!its.toArray.isEmpty && Builtin.List.listTooLong (its.toArray.size + its2.toArray.size)) = true := by
    rw [notLongL hsz, Bool.and_false]
    exact Bool.false_ne_true
  refine call_meets F.slot_list_extend ⟨_, e, rfl⟩ F.entry_list_extend (F.args_list_extend_2 _ _)
    (AutoSeq1.list_extend_list_list_0 l its.toArray n b its2.toArray n2 hlong (by rw [List.size_toArray]; omega) (by omega)) ⟨e, e2, ?_⟩
  refine ⟨.non, _, I.lset (its' := its ++ its2) hH e (by simp) (r.append r2) ?_, rfl, q⟩
  rw [List.length_append]
  omega
def fExt (i : Nat) (f : FE) : FS := fOwn i fun ds => sE f fun v ρ => match v.items with
  | some es => if lineOk (ds.length + es.length) = true then some (.nx (ρ.set i (.own (ds ++ es)))) else none
  | none => none
theorem ds_ext {i : Nat} {c : Expr} (hp : PE X c (tBM X.K "list" rExtR (tVar i) (tCons (teOf X.K Cl W f) tNil))) (hs : swapsWith c none pos.line X.env = pure false := by rfl) : DS X Cl W (.Expr c pos) (fExt i f) := PS.imp (ps_expr hp hs) fun D σ H ⟨H0, Z, ρ, o, I, e, q⟩ => by
  unfold fExt fOwn at e
  split at e
  · rename_i ds hd
    obtain ⟨p, xs, e1, e2, h1⟩ := ownSlot I hd
    refine ⟨_, e1, .inl ⟨rfl, xs, .inl (.inl e2)⟩, ts_step I e q fun v x H1 _ h2 s1 hv I1 => ?_⟩
    split at h2
    · rename_i es hst
      split at h2
      · rename_i hl
        cases h2
        have h3 := DpAll.same (hide_mono s1 fun _ h => .inl h) h1
        obtain ⟨b, zs, rfl, h4, h5⟩ := hv.items I.di hst
        refine ⟨p, b, xs, zs, rfl, rfl, s1.at e2, h4, by rw [h1.length, h5.length]; exact lineOk_ok hl, ?_⟩
        exact q _ _ (I1.write e1 hd (h3.append h5))
      · cases h2
    · cases h2
  · cases e
def fPop (i : Nat) : FS := fOwn i fun ds ρ => if ds.isEmpty = true then none else some (.nx (ρ.set i (.own ds.dropLast)))
theorem ds_pop {i : Nat} {c : Expr} (hp : PE X c (tBM0 X.K "list" rPop (tVar i))) (hs : swapsWith c none pos.line X.env = pure false := by rfl) : DS X Cl W (.Expr c pos) (fPop i) := PS.imp (ps_expr hp hs) fun D σ H ⟨H0, Z, ρ, o, I, e, q⟩ => by
  unfold fPop fOwn at e
  split at e
  · rename_i ds hd
    obtain ⟨p, xs, e1, e2, h1⟩ := ownSlot I hd
    dsimp only at e
    split at e
    · cases e
    · rename_i hne
      cases e
      have hl := h1.length
      have hpos : 0 < xs.length := by
        cases ds with
        | nil => exact absurd rfl hne
        | cons a r => rw [hl]; exact Nat.succ_pos _
      obtain ⟨y, hy⟩ : ∃ y, xs[xs.length - 1]? = some y := ⟨_, List.getElem?_eq_getElem (by omega)⟩
      refine ⟨_, e1, .inl ⟨rfl, xs, .inl (.inl e2)⟩, p, xs, y, rfl, rfl, e2, hy, ?_⟩
      exact q _ _ (I.write e1 hd h1.dropLast)
  · cases e
/-- x[k] = e of a slot's own list -/
def fPut (i : Nat) (fk fe : FE) : FS := sE fe fun v => fOwn i fun ds => sE fk fun k ρ => match k.d, v.st with
  | .int j, some d => (ixN ds.length j).map fun n => .nx (ρ.set i (.own (ds.set n d)))
  | _, _ => none
theorem ds_put {i : Nat} {tg : Expr} {fk : FE} (he : DE X Cl W e f) (hg : PG X tg (L2.gSub (tVar i) (teOf X.K Cl W fk) rSetL)) (hs : swapsWithSole [tg] e pos.line X.env = pure false := by rfl) (hw : swappedStores [tg] e X.env = pure none := by rfl)
    (h1 : (assignEach [tg] X.env).map (·.2) = [assign tg X.env] := by rfl) : DS X Cl W (.Assign [tg] e pos) (fPut i fk f) := PS.imp (ps_asg he hg hs hw h1) fun D σ H ⟨H0, Z, ρ, o, I, e, q⟩ => by
  refine ts_step I e q fun v x H1 _ h2 s1 hv I1 => ?_
  unfold fOwn at h2
  split at h2
  · rename_i ds hd
    obtain ⟨p, xs, e1, e2, h1⟩ := ownSlot I1 hd
    refine ⟨_, e1, ts_step I1 h2 q fun u y H2 _ h3 s2 hu I2 => ?_⟩
    split at h3
    · rename_i j d ej hst
      cases e3 : ixN ds.length j with
      | none => rw [e3] at h3; cases h3
      | some n =>
        rw [e3] at h3
        cases h3
        have h4 := DpAll.same (hide_mono s2 fun _ h => .inl h) h1
        refine ⟨p, xs, j, n, rfl, hu.int_inv I1.di ej, s2.at e2, by rw [h1.length]; exact e3, ?_⟩
        exact q _ _ (I2.write e1 hd (DpAll.set ((hv.same s2).stab I.di hst) n h4))
    · cases h3
  · cases h2

/-! ### targets -/
theorem zo_dat {Z : Addr → Prop} {H : Hp} {σ : St} {ρ : Rho} {i : Nat} {x : Option V} {d : D} : SameD (hide H (Zo Z σ ρ)) (hide H (Zo Z (σ.set i x) (ρ.set i (.dat d)))) :=
  hide_mono (Same.refl _) fun b hb => .inl (hb.elim .inl fun ⟨j, z⟩ => .inr ⟨j, own_sub (s := .dat d) (fun z => nomatch z) z⟩)
abbrev FG := D → Rho → Option Rho
def tgOf (K : PySem.W.Frag) (g : FG) : TG := fun v σ H Q => ∃ H0 Z ρ d ρ', SI K H0 Z H σ ρ ∧ Dp K (hide H (Zo Z σ ρ)) v d ∧ g d ρ = some ρ' ∧ ∀ σ', SI K H0 Z H σ' ρ' → Q σ' H
def DG (X : Cx) (tg : Expr) (g : FG) : Prop := PG X tg (tgOf X.K g)
theorem PG.imp {tg : Expr} {t t' : TG} (h : PG X tg t) (i : ∀ v σ H Q, t' v σ H Q → t v σ H Q) : PG X tg t' := ⟨fun pins s σ H v u Q I r q => h.run pins s σ H v u Q I r (i v σ H Q q)⟩
def gN (i : Nat) : FG := fun d ρ => some (ρ.set i (.dat d))
theorem dg_name {i : Nat} {x : Str} (hN : X.N.Nodup) (hi : X.N[i]? = some x := by rfl) (hx : Loc X.env.scope x := by first | exact .inl rfl | exact .inr rfl) (hf : X.fn x = true ∨ X.env.scope.names.lookup x = some .local := by first | exact .inl rfl | exact .inr rfl) : DG X (.Name x pos) (gN i) :=
  PG.imp (pg_name hN hi hx hf) fun v σ H Q ⟨H0, Z, ρ, d, ρ', I, h, e, q⟩ => by
    cases e
    exact q _ (I.setDat h)
abbrev FGs := List D → Rho → Option Rho
def tgsOf (K : PySem.W.Frag) (g : FGs) : TGs := fun vs σ H Q => ∃ H0 Z ρ ds ρ', SI K H0 Z H σ ρ ∧ DpAll K (hide H (Zo Z σ ρ)) vs ds ∧ g ds ρ = some ρ' ∧ ∀ σ', SI K H0 Z H σ' ρ' → Q σ' H
def DGs (X : Cx) (tgs : List Expr) (g : FGs) : Prop := PGs X tgs (tgsOf X.K g)
theorem PGs.imp {tg : List Expr} {t t' : TGs} (h : PGs X tg t) (i : ∀ v σ H Q, t' v σ H Q → t v σ H Q) : PGs X tg t' := ⟨fun pins s σ H v u Q I r q => h.run pins s σ H v u Q I r (i v σ H Q q)⟩
def gsNil : FGs := fun ds ρ => match ds with
  | [] => some ρ
  | _ => none
def gsCons (i : Nat) (g : FGs) : FGs := fun ds ρ => match ds with
  | d :: r => g r (ρ.set i (.dat d))
  | [] => none
theorem dgs_nil : DGs X [] gsNil := PGs.imp pgs_nil fun vs σ H Q ⟨H0, Z, ρ, ds, ρ', I, h, e, q⟩ => by
  cases ds with
  | nil => cases e; cases h; exact ⟨rfl, q σ I⟩
  | cons _ _ => cases e
theorem dgs_cons {i : Nat} {x : Str} {g : FGs} {es : List Expr} (hN : X.N.Nodup) (hr : DGs X es g) (hi : X.N[i]? = some x := by rfl) (hx : Loc X.env.scope x := by first | exact .inl rfl | exact .inr rfl) (hf : X.fn x = true ∨ X.env.scope.names.lookup x = some .local := by first | exact .inl rfl | exact .inr rfl)
    (hs : (assignEach (.Name x pos :: es) X.env).map (·.2) = assign (.Name x pos) X.env :: (assignEach es X.env).map (·.2) := by rfl) : DGs X (.Name x pos :: es) (gsCons i g) :=
  PGs.imp (pgs_cons (pg_name hN hi hx hf) hr hs) fun vs σ H Q ⟨H0, Z, ρ, ds, ρ', I, h, e, q⟩ => by
    cases ds with
    | nil => cases e
    | cons d r =>
      cases h with
      | @cons v vr _ _ a b =>
        exact ⟨v, vr, rfl, ⟨H0, Z, ρ.set i (.dat d), r, ρ', I.setDat a, DpAll.same zo_dat b, e, q⟩⟩
def gT (n : Nat) (g : FGs) : FG := fun d ρ => match d with
  | .tuple ds => if ds.length = n then g ds ρ else none
  | _ => none
theorem dg_tup {es : List Expr} {k : Nat} {g : FGs} {n : Nat} (hc : X.calm = true) (h : DGs X es g) (hn : (assignEach es X.env).length = n := by rfl) (hst : (assignEach es X.env).findIdx? (·.1) = none := by rfl) : DG X (.Tuple es k pos) (gT n g) :=
  PG.imp (pg_tup hc h hn hst) fun v σ H Q ⟨H0, Z, ρ, d, ρ', I, hd, e, q⟩ => by
    unfold gT at e
    split at e
    · rename_i ds
      split at e
      · rename_i hl
        obtain ⟨a, xs, rfl, h1, h2⟩ := hd.tup_inv
        exact ⟨a, xs, rfl, SqT.same hide_sub h1, by rw [h2.length]; exact hl, ⟨H0, Z, ρ, ds, ρ', I, h2, e, q⟩⟩
      · cases e
    · cases e
end
end DL
set_option Elab.async false
set_option linter.all false
set_option maxRecDepth 100000
set_option maxHeartbeats 4000000
/-! DL6: loops and defs, by data. -/
namespace DL
open PySem PySem.Spec PyProof.Rows L2

/-! ### what a for walks -/
abbrev FI := Rho → Option (Except Er (List D))
def ItOk (K : PySem.W.Frag) (Hs : Hp) (J : It) (ds : List D) : Prop := ∀ (Z' : Addr → Prop) (H' : Hp), SameD Hs (hide H' Z') → (∀ b, Z' b → H' b ≠ none) →
  (∀ i, i < ds.length → J.go i H') ∧ (∀ i, ds.length ≤ i → J.stop i H') ∧ ∀ i x H'' d, J.yld i H' x H'' → ds[i]? = some d → Same H' H'' ∧ Dp K (hide H'' Z') x d
def RIk (K : PySem.W.Frag) (Cl : Nat → Addr) (W : WX) (Z : Addr → Prop) (σ : St) (ρ : Rho) (H : Hp) (R : It → Hp → Prop) : Except Er (List D) → Prop
  | .ok ds => ∀ J H1, Same H H1 → ItOk K (hide H1 (Zo Z σ ρ)) J ds → R J H1
  | .error e => ErOk Cl W σ H e
def tiOf (K : PySem.W.Frag) (Cl : Nat → Addr) (W : WX) (f : FI) : TI := fun σ H R => ∃ Z ρ r, DI K Z H σ ρ ∧ f ρ = some r ∧ RIk K Cl W Z σ ρ H R r
def DIt (X : Cx) (Cl : Nat → Addr) (W : WX) (tg e : Expr) (f : FI) : Prop := PI X tg e (tiOf X.K Cl W f)
theorem PI.imp {X : Cx} {tg e : Expr} {t t' : TI} (h : PI X tg e t) (i : ∀ σ H Q, t' σ H Q → t σ H Q) : PI X tg e t' := ⟨fun pins s σ H Q I q => h.run pins s σ H Q I (i σ H Q q)⟩
theorem PI.or {X : Cx} {tg e : Expr} {t t' : TI} (h : PI X tg e t) (h' : PI X tg e t') : PI X tg e (fun σ H R => t σ H R ∨ t' σ H R) := ⟨fun pins s σ H Q I q => q.elim (h.run pins s σ H Q I) (h'.run pins s σ H Q I)⟩
section
variable {X : Cx} {Cl : Nat → Addr} {W : WX} {e tg : Expr} {es : List Expr} {f : FE} {g : FA} {p pos : Pos} {K : PySem.W.Frag}
def signs (x : Str) : List D := x.cps.toList.map fun c => .str ⟨#[c]⟩
@[simp] def iSeq (f : FE) (ρ : Rho) : Option (Except Er (List D)) := match f ρ with
  | none => none
  | some (.error e) => some (.error e)
  | some (.ok v) => match v with
    | .s (.list ds) => some (.ok ds)
    | .s (.tuple ds) => some (.ok ds)
    | .s (.str x) => some (.ok (signs x))
    | .f ds => some (.ok ds)
    | _ => none
theorem it_list {Hs : Hp} {a : Addr} {xs : List V} {ds : List D} (h1 : Rd Hs a (.lst xs)) (h2 : DpAll K Hs xs ds) : ItOk K Hs (Itl K a) ds := fun Z' H' s _ => by
  have q : SqL K H' a xs := .inl (Rd.same (s.trans hide_sub) h1)
  refine ⟨fun i hi => ⟨xs, xs[i]'(by rw [h2.length]; exact hi), q, List.getElem?_eq_getElem _⟩, fun i hi => ⟨xs, q, by rw [h2.length]; exact hi⟩, fun i x H'' d y hd => ?_⟩
  obtain ⟨rfl, y⟩ := y
  obtain ⟨v, e1, e2⟩ := h2.get hd
  have e3 := y xs q
  rw [e1] at e3
  cases e3
  exact ⟨Same.refl _, Dp.same s e2⟩
theorem it_tup {Hs : Hp} {a : Addr} {xs : List V} {ds : List D} (h1 : SqT K Hs a xs) (h2 : DpAll K Hs xs ds) : ItOk K Hs (Itt K a) ds := fun Z' H' s _ => by
  have q : SqT K H' a xs := SqT.same (s.trans hide_sub) h1
  refine ⟨fun i hi => ⟨xs, xs[i]'(by rw [h2.length]; exact hi), q, List.getElem?_eq_getElem _⟩, fun i hi => ⟨xs, q, by rw [h2.length]; exact hi⟩, fun i x H'' d y hd => ?_⟩
  obtain ⟨rfl, y⟩ := y
  obtain ⟨v, e1, e2⟩ := h2.get hd
  have e3 := y xs q
  rw [e1] at e3
  cases e3
  exact ⟨Same.refl _, Dp.same s e2⟩
theorem it_str {Hs : Hp} {x : Str} : ItOk K Hs (Its x) (signs x) := fun Z' H' s _ => by
  have hl : (signs x).length = x.cps.size := by simp [signs]
  refine ⟨fun i hi => ?_, fun i hi => ?_, fun i v H'' d y hd => ?_⟩
  · rw [hl] at hi
    exact hi
  · rw [hl] at hi
    exact hi
  · obtain ⟨rfl, c, hc, rfl⟩ := y
    refine ⟨Same.refl _, ?_⟩
    have e2 : (signs x)[i]? = some (.str ⟨#[c]⟩) := by
      unfold signs
      rw [List.getElem?_map, Array.getElem?_toList, hc]
      rfl
    rw [hd] at e2
    cases e2
    exact .str _
theorem it_range {Hs : Hp} {lo : Int} {n : Nat} : ItOk K Hs (Itr lo n) ((List.range n).map fun (i : Nat) => .int (lo + (i : Int))) := fun Z' H' s _ => by
  refine ⟨fun i hi => (by simpa using hi : i < n), fun i hi => (by simpa using hi : n ≤ i), fun i v H'' d y hd => ?_⟩
  obtain ⟨rfl, rfl⟩ := y
  refine ⟨Same.refl _, ?_⟩
  rw [List.getElem?_map] at hd
  cases e : (List.range n)[i]? with
  | none => rw [e] at hd; cases hd
  | some j =>
    rw [e] at hd
    obtain ⟨hi, e1⟩ := List.getElem?_eq_some_iff.mp e
    rw [List.getElem_range] at e1
    subst e1
    cases hd
    exact .int _
def enumD (ds : List D) : List D := ds.zipIdx.map fun p => .tuple [.int (p.2 : Int), p.1]
theorem it_enum {Hs : Hp} {a : Addr} {xs : List V} {ds : List D} (h1 : Rd Hs a (.lst xs)) (h2 : DpAll K Hs xs ds) : ItOk K Hs (Ite K a) (enumD ds) := fun Z' H' s live => by
  have q : SqL K H' a xs := .inl (Rd.same (s.trans hide_sub) h1)
  have hl : (enumD ds).length = xs.length := by
    unfold enumD
    rw [List.length_map, List.length_zipIdx, h2.length]
  refine ⟨fun i hi => ⟨xs, xs[i]'(by rw [← hl]; exact hi), q, List.getElem?_eq_getElem _⟩, fun i hi => ⟨xs, q, by rw [← hl]; exact hi⟩, fun i x H'' d y hd => ?_⟩
  obtain ⟨T, z, rfl, nT, rfl, y⟩ := y
  have e3 := y xs q
  obtain ⟨d', e1, e2⟩ := h2.get' e3
  unfold enumD at hd
  rw [List.getElem?_map, List.getElem?_zipIdx, e1] at hd
  cases hd
  have nz : ¬ Z' T := fun z => live T z nT
  refine ⟨same_upd nT, .tup (SqT.of (hide_at nz upd_same)) (.cons ?_ (.cons ?_ .nil))⟩
  · rw [Nat.zero_add]
    exact .int _
  · exact Dp.same (s.trans (hide_mono (same_upd nT) fun _ h => .inl h)) e2
theorem di_seq (he : DE X Cl W e f) : DIt X Cl W tg e (iSeq f) := PI.imp (DL.PI.or (pi_list he) (DL.PI.or (pi_tup he) (pi_str he))) fun σ H R ⟨Z, ρ, r, I, e, q⟩ => by
  unfold iSeq at e
  cases e1 : f ρ with
  | none => rw [e1] at e; cases e
  | some r1 =>
    rw [e1] at e
    cases r1 with
    | error er =>
      cases e
      exact .inl ⟨Z, ρ, _, I, e1, q⟩
    | ok v =>
      dsimp only at e
      split at e
      · rename_i ds
        cases e
        refine .inl ⟨Z, ρ, _, I, e1, fun x H1 s hv => ?_⟩
        obtain ⟨a, xs, rfl, h1, h2⟩ := Dp.lst_inv (show Dp X.K (hide H1 (Zo Z σ ρ)) x (.list ds) from hv)
        exact ⟨a, rfl, ⟨xs, .inl (Rd.same hide_sub h1)⟩, q _ H1 s (it_list h1 h2)⟩
      · rename_i ds
        cases e
        refine .inr (.inl ⟨Z, ρ, _, I, e1, fun x H1 s hv => ?_⟩)
        obtain ⟨a, xs, rfl, h1, h2⟩ := Dp.tup_inv (show Dp X.K (hide H1 (Zo Z σ ρ)) x (.tuple ds) from hv)
        exact ⟨a, rfl, ⟨xs, SqT.same hide_sub h1⟩, q _ H1 s (it_tup h1 h2)⟩
      · rename_i y
        cases e
        refine .inr (.inr ⟨Z, ρ, _, I, e1, fun x H1 s hv => ?_⟩)
        exact ⟨y, (show Dp X.K (hide H1 (Zo Z σ ρ)) x (.str y) from hv).str_inv, q _ H1 s it_str⟩
      · rename_i ds
        cases e
        refine .inl ⟨Z, ρ, _, I, e1, fun x H1 s hv => ?_⟩
        obtain ⟨a, xs, rfl, n, h1, h2⟩ := hv
        have np : ¬ Zo Z σ ρ a := fun z => I.liveZ z n
        exact ⟨a, rfl, ⟨xs, SqL.of h1⟩, q _ H1 s (it_list (Rd.of (hide_at np h1)) (DpAll.same (hide_mono (Same.refl _) fun _ h => .inl (.inl h)) h2))⟩
      · cases e
def rangeD (lo : Int) (n : Nat) : List D := (List.range n).map fun (i : Nat) => .int (lo + (i : Int))
def cRng (j : Int) : Bool := decide (-(2 ^ 62) ≤ j) && decide (j < 2 ^ 62)
theorem cRng_ok {j : Int} (h : cRng j = true) : -(2 ^ 62) ≤ j ∧ j < 2 ^ 62 := by
  simp only [cRng, Bool.and_eq_true, decide_eq_true_eq] at h
  exact h
@[simp] def iRange1 (g : FA) (ρ : Rho) : Option (Except Er (List D)) := match g ρ with
  | none => none
  | some (.error e) => some (.error e)
  | some (.ok vs) => match vs with
    | [v] => match v.d with
      | .int j => if cRng j = true then some (.ok (rangeD 0 j.toNat)) else none
      | _ => none
    | _ => none
@[simp] def iRange2 (g : FA) (ρ : Rho) : Option (Except Er (List D)) := match g ρ with
  | none => none
  | some (.error e) => some (.error e)
  | some (.ok vs) => match vs with
    | [v, u] => match v.d, u.d with
      | .int i, .int j => if (cRng i && cRng j) = true then some (.ok (rangeD i (j - i).toNat)) else none
      | _, _ => none
    | _ => none
theorem di_range1 {a : Expr} (hm : X.mg "range" = none) (ha : DA X Cl W [a] g) (hg : Gl X "range" := by rfl) (hs : starEach [a] X.env = [(false, eval a X.env)] := by rfl) : DIt X Cl W tg (.Call (.Name "range" p) [a] [] pos) (iRange1 g) :=
  PI.imp (pi_range1 hg hm ha hs) fun σ H R ⟨Z, ρ, r, I, e, q⟩ => by
    unfold iRange1 at e
    cases e1 : g ρ with
    | none => rw [e1] at e; cases e
    | some r1 =>
      rw [e1] at e
      refine ta_step I e1 (fun er z => ?_) fun vs xs H1 ev s1 hvs I1 => ?_
      · subst z
        cases e
        exact q
      · subst ev
        dsimp only at e
        split at e
        · rename_i v
          obtain ⟨x, rfl, h⟩ := hvs.one
          split at e
          · rename_i j ej
            split at e
            · rename_i hc
              cases e
              obtain ⟨h1, h2⟩ := cRng_ok hc
              exact ⟨j, by rw [h.int_inv I ej], h1, h2, q _ H1 s1 it_range⟩
            · cases e
          · cases e
        · cases e
theorem di_range2 {a b : Expr} (hm : X.mg "range" = none) (ha : DA X Cl W [a, b] g) (hg : Gl X "range" := by rfl) (hs : starEach [a, b] X.env = [(false, eval a X.env), (false, eval b X.env)] := by rfl) (hs2 : starEach [b] X.env = [(false, eval b X.env)] := by rfl) :
    DIt X Cl W tg (.Call (.Name "range" p) [a, b] [] pos) (iRange2 g) :=
  PI.imp (pi_range2 hg hm ha hs hs2) fun σ H R ⟨Z, ρ, r, I, e, q⟩ => by
    unfold iRange2 at e
    cases e1 : g ρ with
    | none => rw [e1] at e; cases e
    | some r1 =>
      rw [e1] at e
      refine ta_step I e1 (fun er z => ?_) fun vs xs H1 ev s1 hvs I1 => ?_
      · subst z
        cases e
        exact q
      · subst ev
        dsimp only at e
        split at e
        · rename_i v u
          obtain ⟨x, y, rfl, h, h'⟩ := hvs.two
          split at e
          · rename_i i j ei ej
            split at e
            · rename_i hc
              cases e
              obtain ⟨c1, c2⟩ := Bool.and_eq_true_iff.mp hc
              obtain ⟨h1, h2⟩ := cRng_ok c1
              obtain ⟨h3, h4⟩ := cRng_ok c2
              exact ⟨i, j, by rw [h.int_inv I ei, h'.int_inv I ej], ⟨h1, h2, h3, h4⟩, q _ H1 s1 it_range⟩
            · cases e
          · cases e
        · cases e
@[simp] def iEnumD (g : FA) (ρ : Rho) : Option (Except Er (List D)) := match g ρ with
  | none => none
  | some (.error e) => some (.error e)
  | some (.ok vs) => match vs with
    | [.s (.list ds)] => some (.ok (enumD ds))
    | [.f ds] => some (.ok (enumD ds))
    | _ => none
theorem di_enum {elts : List Expr} {kk : Nat} {tpos : Pos} (hm : X.mg "enumerate" = none) (ha : DA X Cl W [e] g) (hg : Gl X "enumerate" := by rfl) (hs : starEach [e] X.env = [(false, eval e X.env)] := by rfl) :
    DIt X Cl W (.Tuple elts kk tpos) (.Call (.Name "enumerate" p) [e] [] pos) (iEnumD g) :=
  PI.imp (pi_enum hg hm ha hs) fun σ H R ⟨Z, ρ, r, I, e, q⟩ => by
    unfold iEnumD at e
    cases e1 : g ρ with
    | none => rw [e1] at e; cases e
    | some r1 =>
      rw [e1] at e
      refine ta_step I e1 (fun er z => ?_) fun vs xs H1 ev s1 hvs I1 => ?_
      · subst z
        cases e
        exact q
      · subst ev
        dsimp only at e
        split at e
        · rename_i ds
          cases e
          obtain ⟨x, rfl, h⟩ := hvs.one
          obtain ⟨a, ys, rfl, h1, h2⟩ := Dp.lst_inv (show Dp X.K (hide H1 (Zo Z σ ρ)) x (.list ds) from h)
          exact ⟨a, ys, rfl, .inl (Rd.same hide_sub h1), q _ H1 s1 (it_enum h1 h2)⟩
        · rename_i ds
          cases e
          obtain ⟨x, rfl, h⟩ := hvs.one
          obtain ⟨a, ys, rfl, n, h1, h2⟩ := h
          have np : ¬ Zo Z σ ρ a := fun z => I.liveZ z n
          exact ⟨a, ys, rfl, SqL.of h1, q _ H1 s1 (it_enum (Rd.of (hide_at np h1)) (DpAll.same (hide_mono (Same.refl _) fun _ h => .inl (.inl h)) h2))⟩
        · cases e

/-! ### for -/
def forL (g : FG) (body : FS) : List D → FS
  | [], ρ => some (.nx ρ)
  | d :: ds, ρ => match g d ρ with
    | none => none
    | some ρ1 => match body ρ1 with
      | some (.nx ρ2) => forL g body ds ρ2
      | some (.ct ρ2) => forL g body ds ρ2
      | some (.brk ρ2) => some (.nx ρ2)
      | r => r
@[simp] def fFor (it : FI) (g : FG) (body : FS) (ρ : Rho) : Option Out := match it ρ with
  | none => none
  | some (.error e) => some (.exc ρ e.1 e.2)
  | some (.ok ds) => forL g body ds ρ
open Classical in
/-- the heap without the slots' own lists -/
noncomputable def unown (H : Hp) (σ : St) (ρ : Rho) : Hp := fun b => if Owned σ ρ b then none else H b
theorem unown_of {H : Hp} {σ : St} {ρ : Rho} {b : Addr} {o : HO} (h : unown H σ ρ b = some o) : ¬ Owned σ ρ b ∧ H b = some o := by
  unfold unown at h
  split at h
  · cases h
  · rename_i n
    exact ⟨n, h⟩
theorem unown_at {H : Hp} {σ : St} {ρ : Rho} {b : Addr} {o : HO} (n : ¬ Owned σ ρ b) (h : H b = some o) : unown H σ ρ b = some o := by
  unfold unown
  rw [if_neg n]
  exact h
theorem SI.based {H0 : Hp} {Z : Addr → Prop} {H : Hp} {σ : St} {ρ : Rho} (I : SI K H0 Z H σ ρ) : Same H0 (unown H σ ρ) ∧ SI K (unown H σ ρ) Z H σ ρ := by
  have nu : ∀ {b : Addr} {o : HO}, H b = some o → (∀ ys, o ≠ .lst ys) → ¬ Owned σ ρ b := fun {b o} e n z => by
    have q : ∃ ys, H b = some (.lst ys) := by
      obtain ⟨i, ⟨h1, ds, h2⟩ | ⟨k, ds, h2⟩⟩ := z
      · obtain ⟨p, xs, ep, hp, _⟩ := I.di.slots i _ h2
        rw [h1] at ep
        cases ep
        exact ⟨xs, hp⟩
      · obtain ⟨T, _, ⟨xs, ys, es, _, _, _, _, hb, _⟩⟩ := I.di.slots i _ h2
        exact ⟨ys, hb⟩
    obtain ⟨ys, q⟩ := q
    rw [q] at e
    exact n ys (Option.some.inj e).symm
  have s1 : Same H0 (unown H σ ρ) := by
    refine ⟨fun b o e n => unown_at (fun z => by rw [I.new b z] at e; cases e) (I.same.d b o e n), fun P q t => ?_, fun b e z => ?_⟩
    · obtain ⟨ps, h1, h2, h3⟩ := I.same.tb P q t
      refine ⟨ps, unown_at (nu h1 fun _ z => by cases z) h1, h2, fun pos cv hc => ?_⟩
      obtain ⟨c, e1, e2⟩ := h3 pos cv hc
      exact ⟨c, e1, unown_at (nu e2 fun _ z => by unfold LamX.CodeO at z; cases z) e2⟩
    · have n : ¬ Owned σ ρ b := fun z => e (I.new b z)
      unfold DL.unown at z
      rw [if_neg n] at z
      exact I.same.live b e z
  have s2 : Same (unown H σ ρ) H := .of fun b o e => (unown_of e).2
  refine ⟨s1, I.di, s2, fun a h => ?_⟩
  unfold DL.unown
  rw [if_pos h]
/-- what was stable at the loop's start stands at each turn -/
theorem SI.kept {Z : Addr → Prop} {H H' : Hp} {σ σ' : St} {ρ ρ' : Rho} (I : SI K (unown H σ ρ) Z H' σ' ρ') : SameD (hide H (Zo Z σ ρ)) (hide H' (Zo Z σ' ρ')) := fun b o e nt => by
  obtain ⟨n, e1⟩ := hide_of e
  have e2 := unown_at (fun z => n (.inr z)) e1
  refine hide_at (fun z => z.elim (fun z => n (.inl z)) fun z => ?_) (I.same.d b o e2 nt)
  rw [I.new b z] at e2
  cases e2
theorem ds_for {it : FI} {g : FG} {body : List Stmt} {fb : FS} (hp : PassesOwn (model X.prog X.w) X.A X.env X.xe) (hc : X.calm = true) (hi : DIt X Cl W tg e it) (hg : DG X tg g) (hb : DSs X Cl W body fb)
    (hs : ∀ x, foldedSetIterable e X.env x = pure x := by intro _; rfl) : DS X Cl W (.For tg e body [] pos) (fFor it g fb) := PS.imp (ps_for hp hc hi hg hb hs) fun D σ H ⟨H0, Z, ρ, o, I, e, q⟩ => by
  unfold fFor at e
  cases e1 : it ρ with
  | none => rw [e1] at e; cases e
  | some r1 =>
    rw [e1] at e
    refine ⟨Z, ρ, r1, I.di, e1, ?_⟩
    cases r1 with
    | error er =>
      cases e
      exact OOk.err I q
    | ok ds =>
      dsimp only at e
      intro J H1 s1 hJ
      have I1 := I.same' s1
      obtain ⟨b0, I2⟩ := I1.based
      have q2 := q.rebase b0
      refine ⟨fun i m σ' H' => ∃ ρ', SI X.K (unown H1 σ ρ) Z H' σ' ρ' ∧ forL g fb (ds.drop i) ρ' = some o ∧ m = ds.length - i ∧ i ≤ ds.length, ⟨_, ρ, I2, e, rfl, Nat.zero_le _⟩, fun i m σ' H' => ?_⟩
      rintro ⟨ρ', I', e', rfl, hi⟩
      obtain ⟨go, stop, yld⟩ := hJ (Zo Z σ' ρ') H' I'.kept (fun b z => I'.di.liveZ z)
      by_cases hlt : i < ds.length
      · refine .inr ⟨go i hlt, fun σ3 H3 => ∃ ρ3, SI X.K (unown H1 σ ρ) Z H3 σ3 ρ3 ∧ forL g fb (ds.drop (i + 1)) ρ3 = some o, fun σ3 H3 ⟨ρ3, I3, e3⟩ => ⟨ds.length - (i + 1), by omega, ρ3, I3, e3, rfl, hlt⟩, fun x H'' y => ?_⟩
        have hd : ds[i]? = some ds[i] := List.getElem?_eq_getElem hlt
        obtain ⟨s2, hx⟩ := yld i x H'' _ y hd
        rw [List.drop_eq_getElem_cons hlt] at e'
        unfold forL at e'
        cases eg : g ds[i] ρ' with
        | none => rw [eg] at e'; cases e'
        | some ρ1 =>
          rw [eg] at e'
          dsimp only at e'
          refine ⟨_, Z, ρ', ds[i], ρ1, I'.same' s2, hx, eg, fun σ1 I1' => ?_⟩
          cases eb : fb ρ1 with
          | none => rw [eb] at e'; cases e'
          | some ob =>
            rw [eb] at e'
            refine ⟨_, Z, ρ1, ob, I1', eb, ?_⟩
            cases ob with
            | nx ρ2 => exact fun σ3 H3 I3 => ⟨ρ2, I3, e'⟩
            | ct ρ2 => exact fun σ3 H3 I3 => ⟨ρ2, I3, e'⟩
            | brk ρ2 => cases e'; exact fun σ3 H3 I3 => q2 σ3 H3 I3
            | ret d => cases e'; exact q2
            | retF ds => cases e'; exact q2
            | retX ds k => cases e'; exact q2
            | exc ρ2 c i => cases e'; exact q2
      · have hie : i = ds.length := by omega
        subst hie
        rw [List.drop_length] at e'
        cases e'
        exact .inl ⟨stop _ (Nat.le_refl _), q2 σ' H' I'⟩

/-! ### while -/
def whileL (t : FT) (body : FS) : Nat → FS
  | 0, _ => none
  | n + 1, ρ => match t ρ with
    | none => none
    | some (.error e) => some (.exc ρ e.1 e.2)
    | some (.ok false) => some (.nx ρ)
    | some (.ok true) => match body ρ with
      | some (.nx ρ2) => whileL t body n ρ2
      | some (.ct ρ2) => whileL t body n ρ2
      | some (.brk ρ2) => some (.nx ρ2)
      | r => r
theorem whileL_mono {t : FT} {body : FS} : ∀ {n : Nat} {ρ : Rho} {o : Out} (m : Nat), whileL t body n ρ = some o → n ≤ m → whileL t body m ρ = some o
  | 0, _, _, _, h, _ => by cases h
  | n + 1, ρ, o, m, h, hm => by
    obtain ⟨k, rfl⟩ : ∃ k, m = k + 1 := ⟨m - 1, by omega⟩
    unfold whileL at h ⊢
    cases e : t ρ with
    | none => rw [e] at h; cases h
    | some r =>
      rw [e] at h
      cases r with
      | error er => exact h
      | ok b =>
        cases b with
        | false => exact h
        | true =>
          dsimp only at h ⊢
          cases eb : body ρ with
          | none => rw [eb] at h; cases h
          | some ob =>
            rw [eb] at h
            cases ob with
            | nx ρ2 => exact whileL_mono k h (by omega)
            | ct ρ2 => exact whileL_mono k h (by omega)
            | brk ρ2 => exact h
            | ret d => exact h
            | retF ds => exact h
            | retX ds k => exact h
            | exc ρ2 c i => exact h
/-- more turns than anything here takes -/
def fuel : Nat := 2 ^ 64
def fWhile (t : FT) (body : FS) : FS := whileL t body fuel
theorem ds_while {c : Expr} {t : FT} {body : List Stmt} {fb : FS} (hp : PassesOwn (model X.prog X.w) X.A X.env X.xe) (hc : DT X Cl W c t) (hb : DSs X Cl W body fb) : DS X Cl W (.While c body [] pos) (fWhile t fb) := PS.imp (ps_while hp hc hb) fun D σ H ⟨H0, Z, ρ, o, I, e, q⟩ => by
  refine ⟨fun m σ' H' => ∃ ρ', SI X.K H0 Z H' σ' ρ' ∧ whileL t fb m ρ' = some o, ⟨fuel, ρ, I, e⟩, fun m σ' H' => ?_⟩
  rintro ⟨ρ', I', e'⟩
  cases m with
  | zero => cases e'
  | succ n =>
    unfold whileL at e'
    cases et : t ρ' with
    | none => rw [et] at e'; cases e'
    | some r1 =>
      rw [et] at e'
      refine tt_step I'.di et (fun er z => ?_) fun b H1 ev s1 I1 => ?_
      · subst z
        cases e'
        exact OOk.err I' q
      · subst ev
        cases b with
        | false =>
          rw [if_neg Bool.false_ne_true]
          cases e'
          exact q σ' H1 (I'.same' s1)
        | true =>
          rw [if_pos rfl]
          dsimp only at e'
          refine ⟨fun σ3 H3 => ∃ ρ3, SI X.K H0 Z H3 σ3 ρ3 ∧ whileL t fb n ρ3 = some o, fun σ3 H3 h => ⟨n, Nat.lt_succ_self n, h⟩, ?_⟩
          cases eb : fb ρ' with
          | none => rw [eb] at e'; cases e'
          | some ob =>
            rw [eb] at e'
            refine ⟨H0, Z, ρ', ob, I'.same' s1, eb, ?_⟩
            cases ob with
            | nx ρ2 => exact fun σ3 H3 I3 => ⟨ρ2, I3, e'⟩
            | ct ρ2 => exact fun σ3 H3 I3 => ⟨ρ2, I3, e'⟩
            | brk ρ2 => cases e'; exact fun σ3 H3 I3 => q σ3 H3 I3
            | ret d => cases e'; exact q
            | retF ds => cases e'; exact q
            | retX ds k => cases e'; exact q
            | exc ρ2 c i => cases e'; exact q

/-! ### a def, and its call -/
inductive DOut where
  | ret (d : D) | retF (ds : List D) | retX (ds : List D) (k : Nat) | exc (c : Nat) (i : Int)
abbrev DF := List D → Option DOut
def DOk (K : PySem.W.Frag) (Cl : Nat → Addr) (Z : Addr → Prop) (H : Hp) (Q : VK) (E : XK) : DOut → Prop
  | .ret d => ∀ v H', Same H H' → Dp K (hide H' Z) v d → Q v H'
  | .retF ds => ∀ p xs H', Same H H' → H p = none → H' p = some (.lst xs) → DpAll K (hide H' (ZP Z p)) xs ds → Q (.ref p) H'
  | .retX ds k => ∀ T p xs ys H', Same H H' → SqT K (hide H' Z) T xs → DpAll K (hide H' Z) xs ds → xs[k]? = some (.ref p) → H p = none → H' p = some (.lst ys) → Q (.ref T) H'
  | .exc c i => ∀ dd H', Same H H' → H' dd = some (.xd [(("at" : Str), .int i)]) → E (.ref (Cl c)) (some dd) H'
def spD (K : PySem.W.Frag) (Cl : Nat → Addr) (n : Nat) (F : DF) : Sp := fun vs H Q E => ∃ Z ds o, (∀ b, Z b → H b ≠ none) ∧ DpAll K (hide H Z) vs ds ∧ ds.length = n ∧ F ds = some o ∧ DOk K Cl Z H Q E o
/-- the def with n parameters and k names whose body is f -/
def mkD (n k : Nat) (f : FS) : DF := fun ds => match f (ds.map .dat ++ List.replicate (k - n) .un) with
  | some (.nx _) => some (.ret .none)
  | some (.ret d) => some (.ret d)
  | some (.retF ds) => some (.retF ds)
  | some (.retX ds k) => some (.retX ds k)
  | some (.exc _ c i) => some (.exc c i)
  | _ => none
theorem no_dat {σ : St} {ds : List D} {m i : Nat} {a : Addr} (ho : OwnAt σ (ds.map .dat ++ List.replicate m .un) i a) : False := by
  obtain ⟨s, h2, h3⟩ := ho.slot
  rw [List.getElem?_append] at h2
  split at h2
  · rw [List.getElem?_map] at h2
    cases e : ds[i]? with
    | none => rw [e] at h2; cases h2
    | some d => rw [e] at h2; cases h2; cases h3
  · rw [List.getElem?_replicate] at h2
    split at h2
    · cases h2; cases h3
    · cases h2
theorem DI.start {Z : Addr → Prop} {H : Hp} {vs : List V} {ds : List D} {m : Nat} (live : ∀ b, Z b → H b ≠ none) (h : DpAll K (hide H Z) vs ds) : DI K Z H (vs.map some ++ List.replicate m none) (ds.map .dat ++ List.replicate m .un) := by
  have no : ∀ i a, ¬ OwnAt (vs.map some ++ List.replicate m none) (ds.map .dat ++ List.replicate m .un) i a := fun i a ho => no_dat ho
  have hl := h.length
  refine ⟨by simp [hl], fun i j a h1 => absurd h1 (no i a), fun a ⟨i, z⟩ => absurd z (no i a), live, fun i s e => ?_⟩
  have hm : SameD (hide H Z) (hide H (Zo Z (vs.map some ++ List.replicate m none) (ds.map .dat ++ List.replicate m .un))) := hide_mono (Same.refl _) fun b hb => .inl (hb.elim id fun ⟨j, z⟩ => absurd z (no j b))
  rw [List.getElem?_append] at e
  split at e
  · rename_i hi
    rw [List.length_map] at hi
    rw [List.getElem?_map] at e
    cases e1 : ds[i]? with
    | none => rw [e1] at e; cases e
    | some d =>
      rw [e1] at e
      cases e
      obtain ⟨v, e2, e3⟩ := h.get e1
      refine ⟨v, ?_, Dp.same hm e3⟩
      rw [List.getElem?_append_left (by rw [List.length_map, hl]; exact hi), List.getElem?_map, e2]
      rfl
  · rw [List.getElem?_replicate] at e
    split at e
    · cases e; trivial
    · cases e
theorem def_ok {P : Program} {w : World} {mg : Str → Option Value} {base : Heap} {x qual : Str} {st : Stmt} {fa : Addr} {fd : FuncData} {N ps : List Str} {k n m : Nat} {fb : FS} (F : Fun K x qual st fa fd) (S : FnScope N ps (defScope st)) (hn : ps.length = n) (hm : N.length = m)
    (h : ∀ (cdv : Value) (A : Around) (outer : List Env) (s : Shared) (H : Hp) (E : XK), Room k (A.deeper (envOfC qual (defScope st) s.heap.objs.size fa cdv)) →
      DSs (cxOf (L2.CX P w) P w K mg base N qual (defScope st) fa cdv A outer s H E) Cl (fun cls d _ H' => E cls d H') (defBody st) fb) : FnOk P w K mg base (L2.CX P w) (k + 1) fa fd ps (spD K Cl n (mkD n m fb)) := by
  refine F.okX S (fun vs H Q E ⟨Z, ds, o, _, h1, h2, _⟩ => by rw [h1.length, h2, hn]) (fun cdv A outer s H vs Q E hr hsp => ⟨_, h cdv A outer s H E hr, ?_⟩)
  obtain ⟨Z, ds, o, live, h1, h2, e, q⟩ := hsp
  unfold mkD at e
  have hst : L2.start N vs = vs.map some ++ List.replicate (m - n) none := by
    unfold L2.start
    rw [hm, h1.length, h2]
  rw [hst]
  cases eb : fb (ds.map .dat ++ List.replicate (m - n) .un) with
  | none => rw [eb] at e; cases e
  | some ob =>
    rw [eb] at e
    have I := DI.start (m := m - n) live h1
    have noO : ∀ a, Owned (vs.map some ++ List.replicate (m - n) none) (ds.map .dat ++ List.replicate (m - n) .un) a → H a = none := fun a ⟨i, ho⟩ => (no_dat ho).elim
    refine ⟨H, Z, _, ob, ⟨I, Same.refl _, noO⟩, eb, ?_⟩
    cases ob with
    | nx ρ => cases e; exact fun σ' H' I' => q .non H' I'.same .non
    | ret d => cases e; exact q
    | retF es => cases e; exact q
    | retX ds k => cases e; exact q
    | exc ρ c i => cases e; exact fun dd σ' H' I' hd => q dd H' I'.same hd
    | brk ρ => cases e
    | ct ρ => cases e
/-- a call -/
@[simp] def eCall (F : DF) (n : Nat) (g : FA) (ρ : Rho) : Option (Except Er Val) := match g ρ with
  | none => none
  | some (.error e) => some (.error e)
  | some (.ok vs) => if vs.length = n then match F (vs.map Val.d) with
    | none => none
    | some (.exc c i) => some (.error (c, i))
    | some (.ret d) => match stAll vs with
      | some _ => some (.ok (.s d))
      | none => some (.ok (.m d))
    | some (.retX ds _) => match stAll vs with
      | some _ => some (.ok (.s (.tuple ds)))
      | none => some (.ok (.m (.tuple ds)))
    | some (.retF ds) => match stAll vs with
      | some _ => some (.ok (.f ds))
      | none => if ds.all scalarD = true then some (.ok (.f ds)) else some (.ok (.m (.list ds))) else none
theorem stAll_d : ∀ {vs : List Val} {ds : List D}, stAll vs = some ds → vs.map Val.d = ds
  | [], _, e => by cases e; rfl
  | v :: vs, ds, e => by
    simp only [stAll] at e
    split at e
    · rename_i d es e1 e2
      cases e
      rw [List.map_cons, stAll_d e2]
      congr 1
      cases v with
      | s d' => cases e1; rfl
      | m d' =>
        simp only [Val.st] at e1
        split at e1
        · cases e1; rfl
        · cases e1
      | b ds => cases e1
      | f ds => cases e1; rfl
    · cases e
theorem de_call {n k : Nat} {F : DF} {fa : Addr} {fd : FuncData} {ps : List Str} {x : Str} (G : FnOk X.prog X.w X.K X.mg X.base (L2.CX X.prog X.w) k fa fd ps (spD X.K Cl n F)) (tk : Takes X W) (hr : Room k X.A) (hm : X.mg x = some (.ref fa)) (hk : PySem.W.keepIn X.K (.ref fa) = true) (hb : Binds X.K fd ps [])
    (ha : DA X Cl W (e :: es) g) (hg : Gl X x := by rfl) (hdb : (x == ("__debug__" : Str)) = false := by decide) (he : starEach (e :: es) X.env = (false, eval e X.env) :: starEach es X.env := by rfl) (hpl : (backTo pos (starEach es X.env)).any (·.1) = false := by rfl) :
    DE X Cl W (.Call (.Name x p) (e :: es) [] pos) (eCall F n g) := PE.imp (pe_callS (E := WE W) G hr hg hm hk hb (fun σ => passAt tk σ) ha hdb he hpl) fun σ H Q ⟨Z, ρ, r, I, e, q⟩ => by
  unfold eCall at e
  cases e1 : g ρ with
  | none => rw [e1] at e; cases e
  | some r1 =>
    rw [e1] at e
    refine ta_step I e1 (fun er z => ?_) fun vs xs H1 ev s1 hvs I1 => ?_
    · subst z
      cases e
      exact q
    · subst ev
      dsimp only at e
      split at e
      · rename_i hn
        cases eF : F (vs.map Val.d) with
        | none => rw [eF] at e; cases e
        | some o =>
          rw [eF] at e
          cases es : stAll vs with
          | some ds =>
            have ed := stAll_d es
            refine ⟨Zo Z σ ρ, ds, o, fun b z => I1.liveZ z, hvs.stab I es, by rw [stAll_len es]; exact hn, by rw [← ed]; exact eF, ?_⟩
            cases o with
            | exc c i => cases e; exact fun dd H' s hd => q dd H' (s1.trans s) hd
            | ret d =>
              rw [es] at e
              cases e
              exact fun v H' s hd => q v H' (s1.trans s) hd
            | retX gs k =>
              rw [es] at e
              cases e
              exact fun T p xs ys H' s h1 h2 _ _ _ => q _ H' (s1.trans s) (.tup h1 h2)
            | retF gs =>
              rw [es] at e
              cases e
              exact fun p xs H' s n h2 h3 => q _ H' (s1.trans s) ⟨p, xs, rfl, s1.free n, h2, h3⟩
          | none =>
            refine ⟨Z, vs.map Val.d, o, fun b z => I1.live b z, hvs.dp I, by rw [List.length_map]; exact hn, eF, ?_⟩
            cases o with
            | exc c i => cases e; exact fun dd H' s hd => q dd H' (s1.trans s) hd
            | ret d =>
              rw [es] at e
              cases e
              exact fun v H' s hd => q v H' (s1.trans s) hd
            | retX gs k =>
              rw [es] at e
              cases e
              exact fun T p xs ys H' s h1 h2 _ _ _ => q _ H' (s1.trans s) (.tup h1 h2)
            | retF gs =>
              rw [es] at e
              dsimp only at e
              split at e
              · rename_i sc
                cases e
                exact fun p xs H' s n h2 h3 => q _ H' (s1.trans s) ⟨p, xs, rfl, s1.free n, h2, DpAll.scalar sc h3⟩
              · cases e
                intro p xs H' s n h2 h3
                have np : ¬ Z p := fun z => I1.live p z n
                exact q _ H' (s1.trans s) (.lst (Rd.of (hide_at np h2)) (DpAll.same (hide_mono (Same.refl _) fun _ h => .inl (.inl h)) h3))
      · cases e
end
end DL
set_option Elab.async false
set_option linter.all false
set_option maxRecDepth 100000
set_option maxHeartbeats 4000000
/-! DL7: comprehensions, by data. -/
namespace DL
open PySem PySem.Spec PyProof.Rows L2
section
variable {X : Cx} {Cl : Nat → Addr} {W : WX} {K : PySem.W.Frag}
abbrev W0 : WX := fun _ _ _ _ => False
@[simp] def noOwn (ρ : Rho) (vs : List Nat) : Bool := vs.all fun v => match ρ[v]? with
  | some (.own _) => false
  | some (.ownT _ _ _) => false
  | _ => true
@[simp] def wipeR (ρ : Rho) : List Nat → Rho
  | [] => ρ
  | v :: vs => (wipeR ρ vs).set v .un
/-- the items that a comprehension makes; st: the slots at an item -/
def lcL (tt : FT) (fe : FE) (st : D → Option Rho) : List D → Option (List D)
  | [] => some []
  | d :: r => match st d with
    | none => none
    | some ρ => match tt ρ with
      | some (.ok true) => match fe ρ with
        | some (.ok v) => match v.st with
          | some y => (lcL tt fe st r).map (y :: ·)
          | none => none
        | _ => none
      | some (.ok false) => lcL tt fe st r
      | _ => none
@[simp] def eLcG (vs : List Nat) (st : Rho → D → Option Rho) (it : FI) (tt : FT) (fe : FE) (ρ : Rho) : Option (Except Er Val) := if noOwn ρ vs = true then match it ρ with
  | none => none
  | some (.error e) => some (.error e)
  | some (.ok ds) => match lcL tt fe (st (wipeR ρ vs)) ds with
    | some es => if lineOk es.length = true then some (.ok (.f es)) else none
    | none => none else none
theorem own_wipe {σ : St} {ρ : Rho} {i : Nat} {a : Addr} : ∀ {vs : List Nat}, OwnAt (wipe σ vs) (wipeR ρ vs) i a → i ∉ vs ∧ OwnAt σ ρ i a
  | [], h => ⟨by simp, h⟩
  | v :: vs, h => by
    unfold wipe wipeR at h
    have q := own_wipe (own_sub (s := .un) (fun z => nomatch z) h)
    refine ⟨fun m => ?_, q.2⟩
    rcases List.mem_cons.mp m with e | m
    · subst e
      obtain ⟨s, h2, h3⟩ := h.slot
      rw [List.getElem?_set, if_pos rfl] at h2
      split at h2
      · cases h2; cases h3
      · cases h2
    · exact q.1 m
theorem wipeR_out {ρ : Rho} {i : Nat} : ∀ {vs : List Nat}, i ∉ vs → (wipeR ρ vs)[i]? = ρ[i]?
  | [], _ => rfl
  | v :: vs, h => by
    have h1 : v ≠ i := fun e => h (by rw [e]; exact List.mem_cons_self)
    unfold wipeR
    rw [List.getElem?_set_ne h1]
    exact wipeR_out fun m => h (List.mem_cons_of_mem _ m)
theorem wipeS_out {σ : St} {i : Nat} : ∀ {vs : List Nat}, i ∉ vs → (wipe σ vs)[i]? = σ[i]?
  | [], _ => rfl
  | v :: vs, h => by
    have h1 : v ≠ i := fun e => h (by rw [e]; exact List.mem_cons_self)
    unfold wipe
    rw [List.getElem?_set_ne h1]
    exact wipeS_out fun m => h (List.mem_cons_of_mem _ m)
theorem wipeR_length (ρ : Rho) : ∀ vs : List Nat, (wipeR ρ vs).length = ρ.length
  | [] => rfl
  | v :: vs => by unfold wipeR; rw [List.length_set, wipeR_length ρ vs]
theorem own_unwipe {σ : St} {ρ : Rho} {i : Nat} {a : Addr} {vs : List Nat} (h : noOwn ρ vs = true) (o : OwnAt σ ρ i a) : OwnAt (wipe σ vs) (wipeR ρ vs) i a := by
  have hn : i ∉ vs := fun m => by
    have q := List.all_eq_true.mp h i m
    rcases o with ⟨_, es, h2⟩ | ⟨_, es, h2⟩
    · rw [h2] at q
      cases q
    · rw [h2] at q
      cases q
  unfold OwnAt at o ⊢
  rw [wipeS_out hn, wipeR_out hn]
  exact o
/-- within a comprehension's turn: the new list is hidden -/
theorem DI.blk {Z : Addr → Prop} {H1 H : Hp} {σ : St} {ρ : Rho} {vs : List Nat} {L : Addr} {acc : List V} (I : DI K Z H1 σ ρ) (hn : noOwn ρ vs = true) (s : Same H1 H) (nL : H1 L = none) (hL : H L = some (.lst acc)) : DI K (ZP Z L) H (wipe σ vs) (wipeR ρ vs) := by
  have I' := I.same s
  have hm : SameD (hide H1 (Zo Z σ ρ)) (hide H (Zo (ZP Z L) (wipe σ vs) (wipeR ρ vs))) := hide_mono s fun b hb => by
    rcases hb with (hb | rfl) | ⟨j, q⟩
    · exact .inl (.inl hb)
    · exact .inr nL
    · exact .inl (.inr ⟨j, (own_wipe q).2⟩)
  refine ⟨by rw [wipeR_length, wipe_length]; exact I.len, fun i j a h1 h2 => I.one i j a (own_wipe h1).2 (own_wipe h2).2, fun a ⟨j, q⟩ z => ?_, fun a z => ?_, fun i t e => ?_⟩
  · have q2 := (own_wipe q).2
    rcases z with z | rfl
    · exact I.out a ⟨j, q2⟩ z
    · exact I.liveO ⟨j, q2⟩ nL
  · rcases z with z | rfl
    · exact I'.live a z
    · rw [hL]
      intro z; cases z
  · by_cases hi : i ∈ vs
    · have q : ∀ {vs : List Nat}, i ∈ vs → (wipeR ρ vs)[i]? = some t → t = .un := by
        intro vs
        induction vs with
        | nil => intro m; cases m
        | cons v vs ih =>
          intro m e
          unfold wipeR at e
          by_cases hv : v = i
          · subst hv
            rw [List.getElem?_set, if_pos rfl] at e
            split at e
            · exact (Option.some.inj e).symm
            · cases e
          · rw [List.getElem?_set_ne hv] at e
            rcases List.mem_cons.mp m with z | m
            · exact absurd z.symm hv
            · exact ih m e
      rw [q hi e]
      trivial
    · rw [wipeR_out hi] at e
      rw [wipeS_out hi]
      have q := I.slots i t e
      cases t with
      | un => trivial
      | dat d =>
        obtain ⟨v, e1, h1⟩ := q
        exact ⟨v, e1, Dp.same hm h1⟩
      | own ds =>
        obtain ⟨a, xs, e1, e2, h1⟩ := q
        exact ⟨a, xs, e1, s.at e2, DpAll.same hm h1⟩
      | err a dd j => exact ⟨q.1, s.at q.2⟩
      | ownT a k gs =>
        obtain ⟨T, e1, h1⟩ := q
        exact ⟨T, e1, h1.same hm fun _ z => s.at z⟩
/-- a target of a comprehension: only its own slots change -/
structure LcT (K : PySem.W.Frag) (vs : List Nat) (g : TG) (st : Rho → D → Option Rho) : Prop where
  go : ∀ (Z : Addr → Prop) (σ : St) (ρ ρ' : Rho) (H : Hp) (v : V) (d : D) (Q : St → Hp → Prop), DI K Z H (wipe σ vs) (wipeR ρ vs) → Dp K (hide H (Zo Z (wipe σ vs) (wipeR ρ vs))) v d → st (wipeR ρ vs) d = some ρ' →
    (∀ σ', wipe σ' vs = wipe σ vs → DI K Z H σ' ρ' → SameD (hide H (Zo Z (wipe σ vs) (wipeR ρ vs))) (hide H (Zo Z σ' ρ')) → (∀ b, Zo Z (wipe σ vs) (wipeR ρ vs) b → Zo Z σ' ρ' b) → Q σ' H) → g v (wipe σ vs) H Q
theorem lc_read {vs : List Nat} {g : TG} {st : Rho → D → Option Rho} {it : FI} {tt : FT} {fe : FE} {σ : St} {H : Hp} {Q : VK} (T : LcT K vs g st) (h : teOf K Cl W (eLcG vs st it tt fe) σ H Q) : tLc (tiOf K Cl W it) g (ttOf K Cl W0 tt) (teOf K Cl W0 fe) vs σ H Q := by
  obtain ⟨Z, ρ, r, I, e, q⟩ := h
  unfold eLcG at e
  split at e
  · rename_i hno
    cases e1 : it ρ with
    | none => rw [e1] at e; cases e
    | some r1 =>
      rw [e1] at e
      refine ⟨Z, ρ, r1, I, e1, ?_⟩
      cases r1 with
      | error er => cases e; exact q
      | ok ds =>
        dsimp only at e
        intro J H1 s1 hJ L nL
        have I1 := I.same s1
        cases e2 : lcL tt fe (st (wipeR ρ vs)) ds with
        | none => rw [e2] at e; cases e
        | some es =>
          rw [e2] at e
          dsimp only at e
          split at e
          · rename_i hline
            cases e
            have hln := lineOk_ok hline
            refine ⟨fun i m H' => ∃ acc as rest, H' L = some (.lst acc) ∧ Same H1 H' ∧ DpAll K (hide H' (ZP (Zo Z σ ρ) L)) acc as ∧ lcL tt fe (st (wipeR ρ vs)) (ds.drop i) = some rest ∧ as ++ rest = es ∧ m = ds.length - i ∧ i ≤ ds.length,
              ⟨_, [], [], es, upd_same, same_upd nL, .nil, e2, rfl, rfl, Nat.zero_le _⟩, fun i m H' => ?_⟩
            rintro ⟨acc, as, rest, hL, s2, hacc, er, ea, rfl, hi⟩
            have hk : SameD (hide H1 (Zo Z σ ρ)) (hide H' (ZP (Zo Z σ ρ) L)) := hide_mono s2 fun b hb => by
              rcases hb with hb | rfl
              · exact .inl hb
              · exact .inr nL
            have hlive : ∀ b, ZP (Zo Z σ ρ) L b → H' b ≠ none := fun b hb => by
              rcases hb with hb | rfl
              · exact (I1.same s2).liveZ hb
              · rw [hL]; intro z; cases z
            obtain ⟨go, stop, yld⟩ := hJ (ZP (Zo Z σ ρ) L) H' hk hlive
            by_cases hlt : i < ds.length
            · refine .inr ⟨go i hlt, fun H3 => ∃ acc as rest, H3 L = some (.lst acc) ∧ Same H1 H3 ∧ DpAll K (hide H3 (ZP (Zo Z σ ρ) L)) acc as ∧ lcL tt fe (st (wipeR ρ vs)) (ds.drop (i + 1)) = some rest ∧ as ++ rest = es,
                fun H3 ⟨acc, as, rest, b1, b2, b3, b4, b5⟩ => ⟨ds.length - (i + 1), by omega, acc, as, rest, b1, b2, b3, b4, b5, rfl, hlt⟩, fun x H'' y => ?_⟩
              have hd : ds[i]? = some ds[i] := List.getElem?_eq_getElem hlt
              obtain ⟨s3, hx⟩ := yld i x H'' _ y hd
              rw [List.drop_eq_getElem_cons hlt] at er
              unfold lcL at er
              cases est : st (wipeR ρ vs) ds[i] with
              | none => rw [est] at er; cases er
              | some ρ' =>
                rw [est] at er
                dsimp only at er
                have B := I1.blk (vs := vs) hno (s2.trans s3) nL (s3.at hL)
                have zeq : ∀ b, Zo (ZP Z L) (wipe σ vs) (wipeR ρ vs) b → ZP (Zo Z σ ρ) L b := fun b hb => by
                  rcases hb with (hb | hb) | ⟨j, z⟩
                  · exact .inl (.inl hb)
                  · exact .inr hb
                  · exact .inl (.inr ⟨j, (own_wipe z).2⟩)
                have zeq2 : ∀ b, ZP (Zo Z σ ρ) L b → Zo (ZP Z L) (wipe σ vs) (wipeR ρ vs) b := fun b hb => by
                  rcases hb with (hb | ⟨j, z⟩) | hb
                  · exact .inl (.inl hb)
                  · exact .inr ⟨j, own_unwipe hno z⟩
                  · exact .inl (.inr hb)
                refine T.go (ZP Z L) σ ρ ρ' H'' x ds[i] _ B (Dp.same (hide_mono (Same.refl _) fun b hb => .inl (zeq b hb)) hx) est fun σ' hw B' hs' hz' => ⟨hw, ?_⟩
                have up4 : ∀ H4, Same H'' H4 → Same H1 H4 := fun H4 s4 => s2.trans (s3.trans s4)
                have acc4 : ∀ H4, Same H'' H4 → DpAll K (hide H4 (ZP (Zo Z σ ρ) L)) acc as := fun H4 s4 => DpAll.same (hide_mono (s3.trans s4) fun _ h => .inl h) hacc
                cases ett : tt ρ' with
                | none => rw [ett] at er; cases er
                | some rt =>
                  rw [ett] at er
                  cases rt with
                  | error _ => cases er
                  | ok b =>
                    refine tt_step B' ett (fun er z => by cases z) fun b1 H3 eb s4 B3 => ?_
                    cases eb
                    cases b with
                    | false =>
                      dsimp only at er
                      rw [if_neg Bool.false_ne_true]
                      exact ⟨acc, as, rest, s4.at (s3.at hL), up4 _ s4, acc4 _ s4, er, ea⟩
                    | true =>
                      dsimp only at er
                      rw [if_pos rfl]
                      cases efe : fe ρ' with
                      | none => rw [efe] at er; cases er
                      | some rf =>
                        rw [efe] at er
                        cases rf with
                        | error _ => cases er
                        | ok v =>
                          dsimp only at er
                          refine te_step B3 efe (fun er z => by cases z) fun v1 y H4 ev s5 hv B4 => ?_
                          cases ev
                          cases est : v.st with
                          | none => rw [est] at er; cases er
                          | some yd =>
                            rw [est] at er
                            dsimp only at er
                            cases el : lcL tt fe (st (wipeR ρ vs)) (ds.drop (i + 1)) with
                            | none => rw [el] at er; cases er
                            | some rest' =>
                              rw [el] at er
                              cases er
                              have s45 := s4.trans s5
                              have hL4 := s45.at (s3.at hL)
                              have hy := hv.stab B3 est
                              have hacc4 := acc4 _ s45
                              refine ⟨acc, hL4, ?_, ?_⟩
                              · have h1 := hacc4.length
                                have h2 := congrArg List.length ea
                                rw [List.length_append, List.length_cons] at h2
                                omega
                              · have hin : ∀ {H5 : Hp} , (∀ b, b ≠ L → H5 b = H4 b) → SameD (hide H4 (ZP (Zo Z σ ρ) L)) (hide H5 (ZP (Zo Z σ ρ) L)) := fun {H5} k b o e _ => by
                                  obtain ⟨n, e1⟩ := hide_of e
                                  exact hide_at n (by rw [k b fun z => n (.inr z)]; exact e1)
                                have k5 : ∀ b, b ≠ L → upd H4 L (.lst (acc ++ [y])) b = H4 b := fun b hb => upd_ne hb
                                have hy2 : Dp K (hide H4 (ZP (Zo Z σ ρ) L)) y yd := Dp.same (hide_mono (Same.refl _) fun b hb => .inl (hz' b (zeq2 b hb))) hy
                                refine ⟨acc ++ [y], as ++ [yd], rest', upd_same, (up4 _ s45).over nL hL4, DpAll.append (DpAll.same (hin k5) hacc4) (.cons (Dp.same (hin k5) hy2) .nil), rfl, by rw [← ea, List.append_assoc]; rfl⟩
            · have hie : i = ds.length := by omega
              subst hie
              rw [List.drop_length] at er
              cases er
              rw [List.append_nil] at ea
              subst ea
              exact .inl ⟨stop _ (Nat.le_refl _), q _ H' (s1.trans s2) ⟨L, acc, rfl, s1.free nL, hL, hacc⟩⟩
          · cases e
  · cases e
/-- one name -/
def st1 (i : Nat) : Rho → D → Option Rho := fun ρ d => some (ρ.set i (.dat d))
theorem zo_dat' {Z : Addr → Prop} {σ : St} {ρ : Rho} {i : Nat} {x : Option V} {d : D} (hn : ∀ s, ρ[i]? = some s → ¬ s.owns) (b : Addr) (h : Zo Z σ ρ b) : Zo Z (σ.set i x) (ρ.set i (.dat d)) b := by
  rcases h with h | ⟨j, h1⟩
  · exact .inl h
  · have hj : i ≠ j := fun e => by
      obtain ⟨s, e1, e2⟩ := h1.slot
      exact hn s (e ▸ e1) e2
    refine .inr ⟨j, ?_⟩
    unfold OwnAt at h1 ⊢
    rw [List.getElem?_set_ne hj, List.getElem?_set_ne hj]
    exact h1
theorem wipeR_no {ρ : Rho} {i : Nat} : ∀ {vs : List Nat}, i ∈ vs → ∀ s, (wipeR ρ vs)[i]? = some s → ¬ s.owns
  | v :: vs, m, s, e => by
    unfold wipeR at e
    by_cases hv : v = i
    · subst hv
      rw [List.getElem?_set, if_pos rfl] at e
      split at e
      · cases e
        exact fun z => nomatch z
      · cases e
    · rw [List.getElem?_set_ne hv] at e
      rcases List.mem_cons.mp m with z | m
      · exact absurd z.symm hv
      · exact wipeR_no m s e
theorem lct1 {i : Nat} : LcT K [i] (gName i) (st1 i) := ⟨fun Z σ ρ ρ' H v d Q B hd e q => by
  cases e
  refine q _ ?_ (B.setDat hd) zo_dat (zo_dat' (wipeR_no (by simp)))
  show (((σ.set i none).set i (some v)).set i none) = σ.set i none
  rw [List.set_set, List.set_set]⟩
theorem tYes_read {σ : St} {H : Hp} {Q : Bool → Hp → Prop} (h : ttOf K Cl W (fun _ => some (.ok true)) σ H Q) : tYes σ H Q := by
  obtain ⟨Z, ρ, r, I, e, q⟩ := h
  cases e
  exact q H (Same.refl _)
theorem PTs.imp {X : Cx} {ifs : List Expr} {t t' : TT} (h : PTs X ifs t) (i : ∀ σ H Q, t' σ H Q → t σ H Q) : PTs X ifs t' := ⟨fun pins s σ H Q I q => h.run pins s σ H Q I (i σ H Q q)⟩
def DTs (X : Cx) (Cl : Nat → Addr) (W : WX) (ifs : List Expr) (f : FT) : Prop := PTs X ifs (ttOf X.K Cl W f)
theorem dts_nil : DTs X Cl W [] (fun _ => some (.ok true)) := PTs.imp pts_nil fun σ H Q h => tYes_read h
theorem dts_one {c : Expr} {f : FT} (h : DT X Cl W c f) : DTs X Cl W [c] f := pts_one h
variable {elt tg iter : Expr} {ifs : List Expr} {scope : Scope} {own : List (Str × Nat)} {pos : Pos} {it : FI} {g : TG} {tt : FT} {fe : FE} {vs : List Nat} {st : Rho → D → Option Rho}
theorem de_lc (hc : X.calm = true) (hN : X.N.Nodup) (T : LcT X.K vs g st) (hi : DIt X Cl W tg iter it) (ok : BlkOk X.N X.env.scope scope own)
    (hg : ∀ (s : Shared) (H : Hp) (C : Addr) (cl : List (Str × Addr)) (fp : List Addr), PG (X.blk s H scope (compEnvC scope cl C X.env) fp) tg g) (ht : ∀ (s : Shared) (H : Hp) (C : Addr) (cl : List (Str × Addr)) (fp : List Addr), DTs (X.blk s H scope (compEnvC scope cl C X.env) fp) Cl W0 ifs tt)
    (he : ∀ (s : Shared) (H : Hp) (C : Addr) (cl : List (Str × Addr)) (fp : List Addr), DE (X.blk s H scope (compEnvC scope cl C X.env) fp) Cl W0 elt fe) (hv : own.map (·.2) = vs := by rfl) (hs : ∀ x, foldedSetIterable iter X.env x = pure x := by intro _; rfl) :
    DE X Cl W (.ListComp elt [⟨tg, iter, ifs, 0⟩] scope pos) (eLcG vs st it tt fe) := PE.imp (pe_lc (tt := ttOf X.K Cl W0 tt) (te := teOf X.K Cl W0 fe) hc hN hi ok hg ht he hs) fun σ H Q h => by
  rw [hv]
  exact lc_read T h
theorem ds_setLc {i : Nat} {y : Str} {py spos : Pos} (hc : X.calm = true) (hN : X.N.Nodup) (T : LcT X.K vs g st) (hi : DIt X Cl W tg iter it) (ok : BlkOk X.N X.env.scope scope own)
    (hg : ∀ (s : Shared) (H : Hp) (C : Addr) (cl : List (Str × Addr)) (fp : List Addr), PG (X.blk s H scope (compEnvC scope cl C X.env) fp) tg g) (ht : ∀ (s : Shared) (H : Hp) (C : Addr) (cl : List (Str × Addr)) (fp : List Addr), DTs (X.blk s H scope (compEnvC scope cl C X.env) fp) Cl W0 ifs tt)
    (he : ∀ (s : Shared) (H : Hp) (C : Addr) (cl : List (Str × Addr)) (fp : List Addr), DE (X.blk s H scope (compEnvC scope cl C X.env) fp) Cl W0 elt fe) (hsw : swapsWith (.ListComp elt [⟨tg, iter, ifs, 0⟩] scope pos) (some (.Name y py)) spos.line X.env = pure true) (hy : X.N[i]? = some y := by rfl) (hyl : X.env.scope.names.lookup y = some .local := by rfl) (hv : own.map (·.2) = vs := by rfl) (hs : ∀ x, foldedSetIterable iter X.env x = pure x := by intro _; rfl) :
    DS X Cl W (.Assign [.Name y py] (.ListComp elt [⟨tg, iter, ifs, 0⟩] scope pos) spos) (fSet i (eLcG vs st it tt fe)) := PS.imp (ps_setLc (tt := ttOf X.K Cl W0 tt) (te := teOf X.K Cl W0 fe) hc hN hy hyl hsw hi ok hg ht he hs) fun D σ H h => by
  have h1 := set_read h
  rw [hv]
  exact lc_read T h1
theorem ds_setLcO {i : Nat} {y : Str} {py spos : Pos} (hc : X.calm = true) (hN : X.N.Nodup) (T : LcT X.K vs g st) (hi : DIt X Cl W tg iter it) (ok : BlkOk X.N X.env.scope scope own)
    (hg : ∀ (s : Shared) (H : Hp) (C : Addr) (cl : List (Str × Addr)) (fp : List Addr), PG (X.blk s H scope (compEnvC scope cl C X.env) fp) tg g) (ht : ∀ (s : Shared) (H : Hp) (C : Addr) (cl : List (Str × Addr)) (fp : List Addr), DTs (X.blk s H scope (compEnvC scope cl C X.env) fp) Cl W0 ifs tt)
    (he : ∀ (s : Shared) (H : Hp) (C : Addr) (cl : List (Str × Addr)) (fp : List Addr), DE (X.blk s H scope (compEnvC scope cl C X.env) fp) Cl W0 elt fe) (hsw : swapsWith (.ListComp elt [⟨tg, iter, ifs, 0⟩] scope pos) (some (.Name y py)) spos.line X.env = pure true) (hy : X.N[i]? = some y := by rfl) (hyl : X.env.scope.names.lookup y = some .local := by rfl) (hv : own.map (·.2) = vs := by rfl) (hs : ∀ x, foldedSetIterable iter X.env x = pure x := by intro _; rfl) :
    DS X Cl W (.Assign [.Name y py] (.ListComp elt [⟨tg, iter, ifs, 0⟩] scope pos) spos) (fSetO i (eLcG vs st it tt fe)) := PS.imp (ps_setLc (tt := ttOf X.K Cl W0 tt) (te := teOf X.K Cl W0 fe) hc hN hy hyl hsw hi ok hg ht he hs) fun D σ H h => by
  have h1 := setO_read h
  rw [hv]
  exact lc_read T h1
end
end DL
set_option Elab.async false
set_option linter.all false
set_option maxRecDepth 100000
set_option maxHeartbeats 4000000
/-! DL8: comparisons of several kinds, unpacking, tuples of the top. -/
namespace DL
open PySem PySem.Spec PyProof.Rows L2
section
variable {X : Cx} {Cl : Nat → Addr} {W : WX} {K : PySem.W.Frag} {e : Expr} {f : FE} {pos : Pos}
@[simp] def gLtX (a b : Val) : Option Val := (gI (fun i j => .bool (decide (i < j))) a b).or (gS (fun i j => .bool (decide (i.cps.toList < j.cps.toList))) a b)
@[simp] def gLeX (a b : Val) : Option Val := (gI (fun i j => .bool (decide (i ≤ j))) a b).or (gS (fun i j => .bool (!decide (j.cps.toList < i.cps.toList))) a b)
@[simp] def gGtX (a b : Val) : Option Val := (gI (fun i j => .bool (decide (j < i))) a b).or (gS (fun i j => .bool (decide (j.cps.toList < i.cps.toList))) a b)
@[simp] def gGeX (a b : Val) : Option Val := (gI (fun i j => .bool (decide (j ≤ i))) a b).or (gS (fun i j => .bool (!decide (i.cps.toList < j.cps.toList))) a b)
def rX (g : Int → Int → V) (h : Str → Str → V) : R2 := fun x y H Q => rI0 g x y H Q ∨ (∃ i j, x = .str i ∧ y = .str j ∧ Q (h i j) H)
theorem op_ltX : OpR X (compareOp .Lt) (rX (fun i j => .bl (decide (i < j))) fun i j => .bl (decide (i.cps.toList < j.cps.toList))) := op_lt.or op_lt_str
theorem op_leX : OpR X (compareOp .LtE) (rX (fun i j => .bl (decide (i ≤ j))) fun i j => .bl (!decide (j.cps.toList < i.cps.toList))) := op_le.or op_le_str
theorem op_gtX : OpR X (compareOp .Gt) (rX (fun i j => .bl (decide (j < i))) fun i j => .bl (decide (j.cps.toList < i.cps.toList))) := op_gt.or op_gt_str
theorem op_geX : OpR X (compareOp .GtE) (rX (fun i j => .bl (decide (j ≤ i))) fun i j => .bl (!decide (i.cps.toList < j.cps.toList))) := op_ge.or op_ge_str
theorem r2_ltX : R2D K (rX (fun i j => .bl (decide (i < j))) fun i j => .bl (decide (i.cps.toList < j.cps.toList))) gLtX := (r2_I fun i j _ => .bl _).or (r2_S (g := fun i j => .bl (decide (i.cps.toList < j.cps.toList))) fun i j _ => .bl _)
theorem r2_leX : R2D K (rX (fun i j => .bl (decide (i ≤ j))) fun i j => .bl (!decide (j.cps.toList < i.cps.toList))) gLeX := (r2_I fun i j _ => .bl _).or (r2_S (g := fun i j => .bl (!decide (j.cps.toList < i.cps.toList))) fun i j _ => .bl _)
theorem r2_gtX : R2D K (rX (fun i j => .bl (decide (j < i))) fun i j => .bl (decide (j.cps.toList < i.cps.toList))) gGtX := (r2_I fun i j _ => .bl _).or (r2_S (g := fun i j => .bl (decide (j.cps.toList < i.cps.toList))) fun i j _ => .bl _)
theorem r2_geX : R2D K (rX (fun i j => .bl (decide (j ≤ i))) fun i j => .bl (!decide (i.cps.toList < j.cps.toList))) gGeX := (r2_I fun i j _ => .bl _).or (r2_S (g := fun i j => .bl (!decide (i.cps.toList < j.cps.toList))) fun i j _ => .bl _)

/-- a, b = e -/
def fUnp (g : FG) (f : FE) : FS := sE f fun v ρ => match v.st with
  | some d => (g d ρ).map .nx
  | none => none
theorem ds_unp {tg : Expr} {g : FG} (hg : DG X tg g) (he : DE X Cl W e f) (hs : swapsWithSole [tg] e pos.line X.env = pure false := by rfl) (hw : swappedStores [tg] e X.env = pure none := by rfl)
    (h1 : (assignEach [tg] X.env).map (·.2) = [assign tg X.env] := by rfl) : DS X Cl W (.Assign [tg] e pos) (fUnp g f) := PS.imp (ps_asg he hg hs hw h1) fun D σ H ⟨H0, Z, ρ, o, I, e, q⟩ => by
  refine ts_step I e q fun v x H1 _ h2 s1 hv I1 => ?_
  cases e1 : v.st with
  | none => rw [e1] at h2; cases h2
  | some d =>
    rw [e1] at h2
    dsimp only at h2
    cases e2 : g d ρ with
    | none => rw [e2] at h2; cases h2
    | some ρ' =>
      rw [e2] at h2
      cases h2
      exact ⟨_, Z, ρ, d, ρ', I1, hv.stab I.di e1, e2, fun σ' I' => q _ _ I'⟩
/-- a tuple of ints that stands at the top -/
theorem tupC {p : Addr} {dd : Option Addr} {its : Array Value} {n : Nat} {ss : Array (Option Value)} {ns : List Int} (h : K.lookup p = some ⟨.type "tuple", dd, .seq its n, ss⟩) (hv : Vals (ns.map V.int) its.toList) (hl : lineOk its.size = true := by rfl) : ∀ H, DL.Dp K H (.ref p) (.tuple (ns.map .int)) :=
  fun H => .tup (.inr ⟨_, its, n, h, rfl, rfl, lineOk_ok hl, hv⟩) (DpAll.of_ints ns)
/-- xs.index(y), y there -/
def idxD (x : D) (ds : List D) : Option Nat := ds.findIdx? fun d => eqV (toV d) (toV x)
@[simp] def gIndex (a b : Val) : Option Val := match a.d with
  | .list ds => if (scalarD b.d && ds.all scalarD) = true then (idxD b.d ds).map fun j => .s (.int (j : Int)) else none
  | _ => none
/-- a method of a list, with one argument -/
def eLM (g : Val → Val → Option Val) (fa fb : FE) : FE := bE fa fun a ρ => match a.d with
  | .list _ => bE fb (fun b _ => (g a b).map .ok) ρ
  | _ => none
theorem de_index {fa fb : FE} {c : Expr} (hp : PE X c (tBM X.K "list" (rIndex X.K) (teOf X.K Cl W fa) (tCons (teOf X.K Cl W fb) tNil))) : DE X Cl W c (eLM gIndex fa fb) := PE.imp hp fun σ H Q ⟨Z, ρ, r1, I, e, q⟩ => by
  refine te_bind I e q fun v x H1 _ h1 s1 hv I1 q1 => ?_
  split at h1
  · rename_i ds0 ed0
    have hl : ∀ {H2 : Hp}, Same H1 H2 → ∃ a ys, x = .ref a ∧ Rd H2 a (.lst ys) ∧ DpAll X.K H2 ys ds0 := fun {H2} s2 => by
      have h2 := Dp.same hide_sub ((hv.same s2).dp I)
      rw [ed0] at h2
      exact h2.lst_inv
    obtain ⟨a, ys, rfl, h2, h3⟩ := hl (Same.refl _)
    refine ⟨.inl ⟨rfl, ys, .inl h2⟩, te_bind I1 h1 q1 fun u y H2 _ h4 s2 hu I2 q2 => ?_⟩
    obtain ⟨a', ys', ea, h5, h6⟩ := hl s2
    cases ea
    unfold gIndex at h4
    split at h4
    · rename_i ds ed
      rw [ed0] at ed
      cases ed
      split at h4
      · rename_i sc
        obtain ⟨sc1, sc2⟩ := Bool.and_eq_true_iff.mp sc
        cases e2 : idxD u.d ds0 with
        | none => rw [e2] at h4; cases h4
        | some j =>
          rw [e2] at h4
          cases h4
          obtain ⟨e3, e4⟩ := h6.toV sc2
          have hy := Dp.same hide_sub (hu.dp I1)
          have ey := hy.toV sc1
          obtain ⟨hj, ej, ne⟩ := List.findIdx?_eq_some_iff_getElem.mp e2
          subst e3
          refine ⟨a, _, y, j, toV ds0[j], rfl, rfl, .inl h5, hy.flat sc1, e4, by rw [List.getElem?_map, List.getElem?_eq_getElem hj]; rfl, by rw [ey]; exact ej, fun m z hm hz => ?_, q2 _ H2 (Same.refl _) (.int _)⟩
          rw [List.getElem?_map, List.getElem?_eq_getElem (Nat.lt_trans hm hj)] at hz
          cases hz
          rw [ey]
          exact Bool.eq_false_iff.mpr (ne m hm)
      · cases h4
    · cases h4
  · cases h1
/-! ### how the functions of data reckon -/
section
variable {g : Val → Val → Option Val} {h : Val → Option Val} {fa fb fe : FE} {i : Nat} {ρ : Rho} {d : D} {gs : FGs} {tg : FG}
@[simp] theorem e2_ap : e2 g fa fb ρ = bE fa (fun a => bE fb fun b _ => (g a b).map .ok) ρ := rfl
@[simp] theorem e1_ap : e1 h fa ρ = bE fa (fun a _ => (h a).map .ok) ρ := rfl
@[simp] theorem eLM_ap : eLM g fa fb ρ = bE fa (fun a ρ => match a.d with
  | .list _ => bE fb (fun b _ => (g a b).map .ok) ρ
  | _ => none) ρ := rfl
@[simp] theorem eAndV_ap : eAndV fa fb ρ = bE fa (fun v ρ => match v.d with
  | .bool true => fb ρ
  | .bool false => ok (.bool false)
  | _ => none) ρ := rfl
@[simp] theorem eOrV_ap : eOrV fa fb ρ = bE fa (fun v ρ => match v.d with
  | .bool false => fb ρ
  | .bool true => ok (.bool true)
  | _ => none) ρ := rfl
@[simp] theorem fSet_ap : fSet i fa ρ = sE fa (fun v ρ => v.st.map fun d => .nx (ρ.set i (.dat d))) ρ := rfl
@[simp] theorem fSetO_ap : fSetO i fa ρ = sE fa (fun v ρ => match v with
  | .f ds => some (.nx (ρ.set i (.own ds)))
  | _ => none) ρ := rfl
@[simp] theorem fDrop_ap : fDrop fa ρ = sE fa (fun _ ρ => some (.nx ρ)) ρ := rfl
@[simp] theorem fRet_ap : fRet fa ρ = sE fa (fun v _ => match v with
  | .s d => some (.ret d)
  | .m d => some (.ret d)
  | .b ds => some (.retF ds)
  | .f ds => some (.retF ds)) ρ := rfl
@[simp] theorem fApp_ap : fApp i fa ρ = fOwn i (fun ds => sE fa fun v ρ => match v.st with
  | some d => if lineOk (ds.length + 1) = true then some (.nx (ρ.set i (.own (ds ++ [d])))) else none
  | none => none) ρ := rfl
@[simp] theorem fExt_ap : fExt i fa ρ = fOwn i (fun ds => sE fa fun v ρ => match v.items with
  | some es => if lineOk (ds.length + es.length) = true then some (.nx (ρ.set i (.own (ds ++ es)))) else none
  | none => none) ρ := rfl
@[simp] theorem fPop_ap : fPop i ρ = fOwn i (fun ds ρ => if ds.isEmpty = true then none else some (.nx (ρ.set i (.own ds.dropLast)))) ρ := rfl
@[simp] theorem fPut_ap : fPut i fa fe ρ = sE fe (fun v => fOwn i fun ds => sE fa fun k ρ => match k.d, v.st with
  | .int j, some d => (ixN ds.length j).map fun n => .nx (ρ.set i (.own (ds.set n d)))
  | _, _ => none) ρ := rfl
@[simp] theorem gN_ap : gN i d ρ = some (ρ.set i (.dat d)) := rfl
@[simp] theorem gsNil_ap : gsNil [] ρ = some ρ := rfl
@[simp] theorem gsCons_ap {r : List D} : gsCons i gs (d :: r) ρ = gs r (ρ.set i (.dat d)) := rfl
@[simp] theorem gT_ap {n : Nat} {ds : List D} : gT n gs (.tuple ds) ρ = if ds.length = n then gs ds ρ else none := rfl
@[simp] theorem mkD_ap {n k : Nat} {f : FS} {ds : List D} : mkD n k f ds = match f (ds.map .dat ++ List.replicate (k - n) .un) with
  | some (.nx _) => some (.ret .none)
  | some (.ret d) => some (.ret d)
  | some (.retF ds) => some (.retF ds)
  | some (.retX ds k) => some (.retX ds k)
  | some (.exc _ c i) => some (.exc c i)
  | _ => none := rfl
@[simp] theorem st1_ap : st1 i ρ d = some (ρ.set i (.dat d)) := rfl
@[simp] theorem fUnp_ap : fUnp tg fa ρ = sE fa (fun v ρ => match v.st with
  | some d => (tg d ρ).map .nx
  | none => none) ρ := rfl
end
/-- the law's promise -/
def spLaw (K : PySem.W.Frag) : Sp := fun vs H Q _ => ∃ (a : Addr) (ns : List Int), vs = [.ref a] ∧ SqL K H a (ns.map V.int) ∧ ns.length ≤ 63 ∧ ∀ H', Q (.bl true) H'
theorem law_sp {P : Program} {w : World} {mg : Str → Option Value} {base : Heap} {CX : CXT} {k : Nat} {fa : Addr} {fd : FuncData} {ps : List Str} {F : DF} (h : ∀ ns : List Int, ns.length ≤ 63 → F [scr ns] = some (.ret (.bool true))) (G : FnOk P w K mg base CX k fa fd ps (spD K Cl 1 F)) : FnOk P w K mg base CX k fa fd ps (spLaw K) :=
  G.imp fun vs H Q E ⟨a, ns, e, hs, hl, q⟩ => by
    subst e
    refine ⟨fun _ => False, [scr ns], _, fun _ z => z.elim, .cons (.scr (SqL.same' (fun b o e _ => hide_at id e) hs)) .nil, rfl, h ns hl, fun v H' s hv => ?_⟩
    rw [hv.bl_inv]
    exact q H'
theorem cx_none {P : Program} {w : World} {outer : List Env} {H : Hp} {s s' : Shared} {e : Value} (h : L2.CX P w outer H s (fun _ _ _ => False) e s') : False := by
  obtain ⟨_, _, _, _, _, _, _, _, _, _, _, _, z⟩ := h
  exact z
end
end DL
set_option Elab.async false
set_option linter.all false
set_option maxRecDepth 100000
set_option maxHeartbeats 4000000
/-! DL9: errors of the text's own: raise, try with several clauses. -/
namespace DL
open PySem PySem.Spec PyProof.Rows L2

/-! ### the classes -/
/-- a class of the text whose __init__ is the base's own -/
structure ExT (K : PySem.W.Frag) (mg : Str → Option Value) (x : Str) (C fI : Addr) : Prop where
  g : mg x = some (.ref C)
  oex : OexC K C
  no : PySem.W.findIn K (.ref C) "at" = some none
  iC : PySem.W.findIn K (.ref C) "__init__" = some (some (.ref fI))
  xf : XfC K C
structure InT (K : PySem.W.Frag) (q : Str) (st : Stmt) (fI : Addr) (fd : FuncData) : Prop where
  F : Fun K "__init__" q st fI fd
  tI : PySem.W.typeIn K (.ref fI) = some (.type "function")
  b : Binds K fd ["self", "at"] []
/-- what __init__ does -/
def spIn (K : PySem.W.Frag) : Sp := fun vs H Q _ => ∃ (a C : Addr) (y : V), vs = [.ref a, y] ∧ OexC K C ∧ PySem.W.findIn K (.ref C) "at" = some none ∧ H a = some (exo a C none) ∧
  ∀ dx, H dx = none → dx ≠ a → Q .non (upd (upd H dx (exd dx [("at", y)])) a (exo a C (some dx)))
section
variable {X : Cx} {Cl : Nat → Addr} {W : WX} {K : PySem.W.Frag} {e : Expr} {f : FE} {pos : Pos}
def fRaise (c : Nat) (f : FE) : FS := sE f fun v ρ => match v.d with
  | .int i => some (.exc ρ c i)
  | _ => none
@[simp] theorem fRaise_ap {c : Nat} {ρ : Rho} : fRaise c f ρ = sE f (fun v ρ => match v.d with
  | .int i => some (.exc ρ c i)
  | _ => none) ρ := rfl
theorem ds_raise {c : Nat} {x q : Str} {fI : Addr} {fd : FuncData} {st : Stmt} {p pos' : Pos} (T : ExT X.K X.mg x (Cl c) fI) (N : InT X.K q st fI fd) (F1 : FnOk X.prog X.w X.K X.mg X.base (L2.CX X.prog X.w) 1 fI fd ["self", "at"] (spIn X.K)) (tk : Takes X W) (hr : Room 2 X.A) (he : DE X Cl W e f)
    (hc : X.calm = true := by rfl) (hg : Gl X x := by rfl) (hdb : (x == ("__debug__" : Str)) = false := by decide) (hs : starEach (e :: []) X.env = (false, eval e X.env) :: starEach [] X.env := by rfl) (hpl : (backTo pos (starEach [] X.env)).any (·.1) = false := by rfl) :
    DS X Cl W (.Raise (some (.Call (.Name x p) [e] [] pos)) none pos') (fRaise c f) :=
  PS.imp (ps_raise hc tk (pmk_oex (dvs := []) (ds := []) T.oex T.iC N.tI F1 hr N.b .nil passL hg T.g (pa_cons he pa_nil hs) hdb hs hpl)) fun D σ H ⟨H0, Z, ρ, o, I, e, q⟩ => by
    refine ts_step I e q fun v y H1 _ h1 s1 hv I1 => ?_
    split at h1
    · rename_i i ei
      cases h1
      have ey := hv.int_inv I.di ei
      subst ey
      refine ⟨by show 1 ≤ 1000; decide, fun a na => ⟨a, Cl c, .int i, rfl, T.oex, T.no, upd_same, fun dx nd hne => ⟨rfl, dx, [("at", .int i)], ?_, ?_, ?_, ?_⟩⟩⟩
      · exact upd_same
      · rw [upd_ne hne, upd_same]
      · rw [upd_ne hne] at nd
        exact nd
      · rw [upd_ne hne] at nd
        refine q dx σ _ (I1.same' (.of fun b o e => ?_)) upd_same
        have n1 := ne_of_none e nd
        have n2 := ne_of_none e na
        rw [upd_ne n1, del_ne n2, upd_ne n2, upd_ne n1, upd_ne n2]
        exact e
    · cases h1

/-! ### a clause after the other -/
/-- an error has come to a try's clauses -/
structure Caught (X : Cx) (pins : List (Addr × Obj)) (a : Addr) (B : Heap) (sI : Shared) (σ : St) (H : Hp) (cls : Value) (d : Option Addr) (s : Shared) : Prop where
  inv : Inv X pins σ H sI
  ground : ∀ b o, sI.heap.get? b = some o → b ∉ frs X.stack → B.get? b = some o
  slots : sI.heap.UpToSlots s.heap
  fly : HandSPX.FlyingZ B (X.env :: X.outer) a (Zc cls d) s.heap
  free : H a = none
  os : s.os = sI.os
  bare : AllBare s.gens
def Clauses (X : Cx) (hds : List ExceptHandler) (D : Ends) (wish : WX) : Prop := ∀ (pins : List (Addr × Obj)) (a : Addr) (B : Heap) (sI : Shared) (σ : St) (H : Hp) (cls : Value) (d : Option Addr) (s : Shared), Caught X pins a B sI σ H cls d s → wish cls d σ H →
  wpAny (model X.prog X.w) X.A (handleBy (.ref a) X.env hds) (SP X pins D) X.xe s
theorem Caught.now {pins : List (Addr × Obj)} {a : Addr} {B : Heap} {sI : Shared} {σ : St} {H : Hp} {cls : Value} {d : Option Addr} {s : Shared} (c : Caught X pins a B sI σ H cls d s) : Inv X pins σ H s := c.inv.landed c.ground c.fly.1 c.slots c.os c.bare
theorem Caught.out {pins : List (Addr × Obj)} {a : Addr} {B : Heap} {sI : Shared} {σ : St} {H : Hp} {cls : Value} {d : Option Addr} {s : Shared} (c : Caught X pins a B sI σ H cls d s) (hf : X.env.frame = some X.env.locals) : a ≠ X.env.locals ∧ a ∉ X.fs := by
  obtain ⟨ob, fv, hob, _, hdat⟩ := c.fly.there
  have apart : a ∉ frs (X.env :: X.outer) := fun m => by
    obtain ⟨_, o2, e2, nf⟩ := c.fly.2.2.1.mem m
    rw [hob] at e2
    cases e2
    exact nf _ hdat
  refine ⟨fun z => apart (List.mem_filterMap.mpr ⟨X.env, List.mem_cons_self, by rw [hf, z]⟩), fun m => ?_⟩
  obtain ⟨en, men, q⟩ := List.mem_filterMap.mp m
  exact apart (List.mem_filterMap.mpr ⟨en, List.mem_cons_of_mem _ men, q⟩)
theorem clauses_nil {D : Ends} (hs : X.stack = X.env :: X.outer) (hf : X.env.frame = some X.env.locals) (tk : Takes X W) : Clauses X [] D W := fun pins a B sI σ H cls d s c hw => by
  refine wpAny_handleBy_nil ?_
  obtain ⟨_, _, _, ob, fv, T, _, _, hob, _, hdat, h1, _⟩ := id c.fly
  unfold PySem.passOn
  have fin : wpAny (model X.prog X.w) X.A (setFlight (.ref a) X.env.frame) (fun _ s4 => wpAny (model X.prog X.w) X.A (throw (.ref a) : Sem Flow) (SP X pins D) X.xe s4) X.xe s := by
    rw [hf]
    refine HandSPX.setFlight_upZ c.fly fun h4 held more => wpAny_throw (tk _ _ ?_)
    exact ⟨a, B, sI, pins, σ, H, cls, d, rfl, c.inv, c.ground, c.slots.trans more, .inr (.inr (by rw [hs]; exact held)), c.free, c.os, c.bare, hw⟩
  refine wpAny_bind (wpAny_field hob hdat h1 ?_)
  rw [if_neg (show ¬ ((Value.ref T == Value.none) = true) by simp)]
  first
    | exact wpAny_bind (wpAny_pure (wpAny_bind fin))
    | exact wpAny_bind fin
/-- what is wished of an error by one clause, and by those behind it -/
def wTest (test : Value → Bool → Prop) (yes : Addr → Value → Option Addr → TS) (D : Ends) (rest : WX) : WX := fun cls d σ H => ∃ b, test cls b ∧ (b = true → ∀ a, H a = none → yes a cls d D σ H) ∧ (b = false → rest cls d σ H)
theorem Caught.suite {pins : List (Addr × Obj)} {a : Addr} {B : Heap} {sI : Shared} {σ : St} {H : Hp} {cls : Value} {d : Option Addr} {s : Shared} (c : Caught X pins a B sI σ H cls d s) (hf : X.env.frame = some X.env.locals) :
    ∃ oe, s.heap.get? a = some oe ∧ Zc cls d oe ∧ (∃ vs, oe.data = .fields vs) ∧ Inv (X.suite a ((a, oe) :: (X.pn ++ pins))) [] σ H s := by
  obtain ⟨ob, fv, hob, hz, hdat⟩ := c.fly.there
  obtain ⟨n1, n2⟩ := c.out hf
  exact ⟨ob, hob, hz, ⟨fv, hdat⟩, c.now.suite hob hdat c.free n1 n2⟩
theorem Caught.again {pins : List (Addr × Obj)} {a : Addr} {B : Heap} {sI : Shared} {σ : St} {H : Hp} {cls : Value} {d : Option Addr} {s : Shared} {h4 : Heap} (c : Caught X pins a B sI σ H cls d s) (fl : HandSPX.FlyingZ B (X.env :: X.outer) a (Zc cls d) h4) (up : s.heap.UpToSlots h4) : Caught X pins a B sI σ H cls d { s with heap := h4 } :=
  ⟨c.inv, c.ground, c.slots.trans up, fl, c.free, c.os, c.bare⟩
/-- one class -/
theorem clauses_one {D : Ends} {x : Str} {c : Value} {b0 : Stmt} {suite : List Stmt} {np pos' : Pos} {hds : List ExceptHandler} {rest : WX} {ts : Addr → Value → Option Addr → TS} (ok : X.Ok) (hf : X.env.frame = some X.env.locals) (hc : Names X x c)
    (hsu : ∀ (a : Addr) (oe : Obj) (cls : Value) (d : Option Addr) (pn : List (Addr × Obj)), Zc cls d oe → (∃ vs, oe.data = .fields vs) → PSs (X.suite a ((a, oe) :: pn)) (b0 :: suite) (ts a cls d)) (hr : Clauses X hds D rest) :
    Clauses X (.ExceptHandler (some (.Name x np)) none (b0 :: suite) pos' :: hds) D (wTest (fun cls b => PySem.W.exmOne X.K cls c = some b) ts D rest) := fun pins a B sI σ H cls d s ca ⟨b, hb, yes, no⟩ => by
  obtain ⟨ob, hob, hz, hdat, S⟩ := ca.suite hf
  refine wpAny_handleBy_cons (codeAny_handlers_test ?_) (by intro q; cases q)
  have look : PySem.W.Looks (model X.prog X.w) s.heap (typeOf (.ref a)) cls := fun A Q E s' k q => wpAny_typeOf_ref (k _ _ hob) (by rw [hz.1]; exact q)
  have here := PySem.W.exm_one (M := model X.prog X.w) ca.now.kIn look hb
  have named : ∀ {Q : Value → Shared → Prop} {E : Value → Shared → Prop}, Q c s → wpAny (model X.prog X.w) (X.A.mark (some (.ref a))) (eval (.Name x np) X.env) Q E s := fun {Q E} q => by
    obtain ⟨hg, hdbg, hm | ⟨hm, hv, hnn⟩⟩ := hc
    · exact ld_glob (X := X.suite a ((a, ob) :: (X.pn ++ pins))) S hg hm q hdbg
    · exact ld_blt (X := X.suite a ((a, ob) :: (X.pn ++ pins))) S hg hm hv q hnn hdbg
  refine named (here.here ?_)
  cases b with
  | false => exact hr pins a B sI σ H cls d s ca (no rfl)
  | true =>
    refine codeAny_handlers_suite (HandSPX.lands_againZ ca.fly fun h4 fl up => ?_)
    have ca4 := ca.again fl up
    obtain ⟨ob4, _, hz4, hdat4, S4⟩ := ca4.suite hf
    refine wpAny_mono ((hsu a ob4 cls d (X.pn ++ pins) hz4 hdat4).run [] _ _ H _ S4 (yes rfl a ca.free)) (fun fl s6 r => ?_) (fun _ _ z => z.elim)
    cases fl with
    | next => obtain ⟨σ6, H6, S6, q6⟩ := r; exact ⟨σ6, H6, S6.unsuite ok, q6⟩
    | brk => obtain ⟨σ6, H6, S6, q6⟩ := r; exact ⟨σ6, H6, S6.unsuite ok, q6⟩
    | cont => obtain ⟨σ6, H6, S6, q6⟩ := r; exact ⟨σ6, H6, S6.unsuite ok, q6⟩
    | ret u => obtain ⟨v6, σ6, H6, S6, r6, q6⟩ := r; exact ⟨v6, σ6, H6, S6.unsuite ok, r6, q6⟩
/-- the ends of a suite whose name goes behind it -/
def goneE (D : Ends) (i : Nat) : Ends := { nx := fun σ H => D.nx (σ.set i none) H, rt := D.rt, bk := fun σ H => D.bk (σ.set i none) H, ct := fun σ H => D.ct (σ.set i none) H }
/-- one class, as a name -/
theorem clauses_as {D : Ends} {x n : Str} {i : Nat} {c : Value} {b0 : Stmt} {suite : List Stmt} {np pos' : Pos} {hds : List ExceptHandler} {rest : WX} {ts : Addr → Value → Option Addr → TS} (ok : X.Ok) (hf : X.env.frame = some X.env.locals) (hN : X.N.Nodup) (hi : X.N[i]? = some n) (hln : X.env.kindOf n = some .local) (hc : Names X x c)
    (hsu : ∀ (a : Addr) (oe : Obj) (cls : Value) (d : Option Addr) (pn : List (Addr × Obj)), Zc cls d oe → (∃ vs, oe.data = .fields vs) → PSs (X.suite a ((a, oe) :: pn)) (b0 :: suite) (ts a cls d)) (hr : Clauses X hds D rest) :
    Clauses X (.ExceptHandler (some (.Name x np)) (some n) (b0 :: suite) pos' :: hds) D (wTest (fun cls b => PySem.W.exmOne X.K cls c = some b) (fun a cls d D σ H => ts a cls d (goneE D i) (σ.set i (some (.ref a))) H) D rest) := fun pins a B sI σ H cls d s ca ⟨b, hb, yes, no⟩ => by
  obtain ⟨ob, hob, hz, hdat, S⟩ := ca.suite hf
  have hloc : Loc X.env.scope n := .inl hln
  refine wpAny_handleBy_cons (codeAny_handlers_test ?_) (by intro q; cases q)
  have look : PySem.W.Looks (model X.prog X.w) s.heap (typeOf (.ref a)) cls := fun A Q E s' k q => wpAny_typeOf_ref (k _ _ hob) (by rw [hz.1]; exact q)
  have here := PySem.W.exm_one (M := model X.prog X.w) ca.now.kIn look hb
  have named : ∀ {Q : Value → Shared → Prop} {E : Value → Shared → Prop}, Q c s → wpAny (model X.prog X.w) (X.A.mark (some (.ref a))) (eval (.Name x np) X.env) Q E s := fun {Q E} q => by
    obtain ⟨hg, hdbg, hm | ⟨hm, hv, hnn⟩⟩ := hc
    · exact ld_glob (X := X.suite a ((a, ob) :: (X.pn ++ pins))) S hg hm q hdbg
    · exact ld_blt (X := X.suite a ((a, ob) :: (X.pn ++ pins))) S hg hm hv q hnn hdbg
  refine named (here.here ?_)
  cases b with
  | false => exact hr pins a B sI σ H cls d s ca (no rfl)
  | true =>
    refine codeAny_handlers_suite_as (HandSPX.lands_againZ ca.fly fun h4 fl up => ?_)
    have ca4 := ca.again fl up
    obtain ⟨ob4, _, hz4, hdat4, S4⟩ := ca4.suite hf
    refine store_ok (X := X.suite a ((a, ob4) :: (X.pn ++ pins))) (v := .ref a) S4 hN hi hloc rfl (fun s5 S5 => ?_) (.inr hln)
    have back : ∀ {σ6 : St} {H6 : Hp} {s6 : Shared} {Q : Shared → Prop}, Inv (X.suite a ((a, ob4) :: (X.pn ++ pins))) [] σ6 H6 s6 → (∀ s7, Inv X pins (σ6.set i none) H6 s7 → Q s7) →
        wpAny (model X.prog X.w) X.A (do bindName X.env n .none; unbindBehindTheSuite X.env n pos') (fun _ s7 => Q s7) X.xe s6 := fun {σ6 H6 s6 Q} S6 hq => gone_ok (S6.unsuite ok) hN hi hln hq
    refine wpAny_mono ((hsu a ob4 cls d (X.pn ++ pins) hz4 hdat4).run [] s5 _ H _ S5 (yes rfl a ca.free)) (fun fl s6 r => ?_) (fun _ _ z => z.elim)
    cases fl with
    | next => obtain ⟨σ6, H6, S6, q6⟩ := r; exact back S6 fun s7 J7 => ⟨_, _, J7, q6⟩
    | brk => obtain ⟨σ6, H6, S6, q6⟩ := r; exact back S6 fun s7 J7 => ⟨_, _, J7, q6⟩
    | cont => obtain ⟨σ6, H6, S6, q6⟩ := r; exact back S6 fun s7 J7 => ⟨_, _, J7, q6⟩
    | ret u => obtain ⟨v6, σ6, H6, S6, r6, q6⟩ := r; exact back S6 fun s7 J7 => ⟨_, _, _, J7, r6, q6⟩
/-- the whole try: the wish is chosen by the ends -/
theorem ps_try {body : List Stmt} {h0 : ExceptHandler} {hds : List ExceptHandler} {tb : WX → TS} {wish : Ends → WX} (hs : X.stack = X.env :: X.outer) (hf : X.env.frame = some X.env.locals)
    (hb : ∀ (W : WX) (pn : List (Addr × Obj)) (xe : Value → Shared → Prop), Takes (X.tr pn xe) W → PassesOwn (model X.prog X.w) X.A X.env xe → PSs (X.tr pn xe) body (tb W)) (hc : ∀ D, X.Ok → Clauses X (h0 :: hds) D (wish D)) :
    PS X (.Try body (h0 :: hds) [] [] pos) (fun D σ H => tb (wish D) D σ H) := by
  refine ⟨fun pins s σ H D I h => ?_⟩
  have ok := I.ok
  have top : X.A.frames = some (X.env :: X.outer) := by rw [ok.frames, hs]
  refine wpAny_Try_except (wpAny_mono ((hb (wish D) (X.pn ++ pins) (fun e s₁ => wpAny (model X.prog X.w) X.A (noteFrame e X.env) (fun _ s₂ => wpAny (model X.prog X.w) X.A (setFlight e none) (fun _ s₃ =>
    wpAny (model X.prog X.w) X.A (handleBy e X.env (h0 :: hds)) (SP X pins D) X.xe s₃) X.xe s₂) X.xe s₁) (fun u s' xx => ?_) PassesOwn.looking).run [] s σ H D (I.toTry _) h) (fun fl s1 r => ?_) (fun _ _ z => z))
  · obtain ⟨a, B, sI, pins', σ', H', cls, d, rfl, J', nb, up, sky, na, os, ag, w⟩ := xx
    have J : Inv X pins σ' H' sI := J'.ofTry ok
    refine Sky.land Zc.steady top hf (by rw [← hs]; exact sky) fun h3 fl3 up3 => ?_
    exact hc D ok pins a B sI σ' H' cls d { s' with heap := h3 } ⟨J, nb, up.trans up3, fl3, na, os, ag⟩ w
  · cases fl with
    | next => obtain ⟨σ6, H6, J6, q⟩ := r; exact wpAny_execs_nil ⟨σ6, H6, J6.ofTry ok, q⟩
    | brk => obtain ⟨σ6, H6, J6, q⟩ := r; exact ⟨σ6, H6, J6.ofTry ok, q⟩
    | cont => obtain ⟨σ6, H6, J6, q⟩ := r; exact ⟨σ6, H6, J6.ofTry ok, q⟩
    | ret u => obtain ⟨v6, σ6, H6, J6, r6, q⟩ := r; exact ⟨v6, σ6, H6, J6.ofTry ok, r6, q⟩
end
end DL
set_option Elab.async false
set_option linter.all false
set_option maxRecDepth 100000
set_option maxHeartbeats 4000000
/-! DL10: try, by functions of data. -/
namespace DL
open PySem PySem.Spec PyProof.Rows L2
section
variable {X : Cx} {Cl : Nat → Addr} {W : WX} {K : PySem.W.Frag} {pos : Pos}
/-- what a class must say, so that its errors can be asked -/
structure ErF (K : PySem.W.Frag) (C : Addr) : Prop where
  xf : XfC K C
  no : PySem.W.findIn K (.ref C) "at" = some none
  xc : ExcC K C
/-! ### the caught error -/
def eAt (k : Nat) (a dd : Addr) (ρ : Rho) : Option (Except Er Val) := match ρ[k]? with
  | some (.err a' dd' i) => if a' = a ∧ dd' = dd then ok (.int i) else none
  | _ => none
def eIsX (k : Nat) (a dd : Addr) (b : Option Bool) (ρ : Rho) : Option (Except Er Val) := match ρ[k]? with
  | some (.err a' dd' _) => if a' = a ∧ dd' = dd then b.map fun x => .ok (.s (.bool x)) else none
  | _ => none
theorem r_xat {k : Nat} {a dd : Addr} {i : Int} {ρ : Rho} (h : ρ[k]? = some (.err a dd i)) : eAt k a dd ρ = some (.ok (.s (.int i))) := by
  unfold eAt
  rw [h]
  dsimp only
  rw [if_pos ⟨rfl, rfl⟩]
  rfl
theorem r_xis {k : Nat} {a dd : Addr} {i : Int} {b : Bool} {ρ : Rho} (h : ρ[k]? = some (.err a dd i)) : eIsX k a dd (some b) ρ = some (.ok (.s (.bool b))) := by
  unfold eIsX
  rw [h]
  dsimp only
  rw [if_pos ⟨rfl, rfl⟩]
  rfl
theorem de_xat {a dd C : Addr} {oe : Obj} {pn : List (Addr × Obj)} {k : Nat} {n : Str} {pos' : Pos} (F : ErF X.K C) (hz : Zc (.ref C) (some dd) oe) (hf : ∃ vs, oe.data = .fields vs) (hv : PE (X.suite a ((a, oe) :: pn)) (.Name n pos') (tVar k))
    (hb : attributeBase (.Name n pos') "at" X.env (eval (.Name n pos') X.env) = eval (.Name n pos') X.env := by rfl) : DE (X.suite a ((a, oe) :: pn)) Cl W (.Attribute (.Name n pos') "at" pos) (eAt k a dd) :=
  PE.imp (pe_xf F.xf F.no hz hf hv hb) fun σ H Q ⟨Z, ρ, r, I, e, q⟩ => by
    unfold eAt at e
    split at e
    · rename_i a' dd' i hd
      split at e
      · rename_i h
        obtain ⟨rfl, rfl⟩ := h
        cases e
        obtain ⟨h1, h2⟩ := I.slots k _ hd
        exact ⟨_, h1, rfl, rfl, _, _, .int i, rfl, h2, rfl, q _ H (Same.refl _) (.int i)⟩
      · cases e
    · cases e
def rIsX (K : PySem.W.Frag) (D a dd : Addr) : List V → Hp → VK → Prop := fun xs H Q => ∃ (c : V) (cv : Value) (b : Bool) (fs : List (Str × V)), xs = [.ref a, c] ∧ (∀ u, RelV c u → u = cv) ∧ PySem.W.kitOne K (.ref D) cv = some b ∧ H dd = some (.xd fs) ∧ Q (.bl b) H
theorem call_isX {a D dd : Addr} {oe : Obj} {pn : List (Addr × Obj)} (C : ExcC X.K D) (hz : Zc (.ref D) (some dd) oe) (hf : ∃ vs, oe.data = .fields vs) : CallR (X.suite a ((a, oe) :: pn)) (.builtin "isinstance") (rIsX X.K D a dd) := fun pins s σ H xs us Q I r h => by
  obtain ⟨c, cv, b, fs, rfl, hcv, e, hdd, q⟩ := h
  cases r with
  | cons rx rr => cases rr with
    | cons rt rr =>
      cases rr
      cases rx
      have ec := hcv _ rt
      subst ec
      obtain ⟨hget, _⟩ := I.pin (a, oe) (List.mem_append_left _ List.mem_cons_self)
      have hx : ObjOk X.prog X.w H s.heap dd (.xd fs) := I.hok dd _ hdd
      obtain ⟨mA, hns, _⟩ := hx
      obtain ⟨od, ho, _⟩ := lookIn_ns hns
      obtain ⟨vs, hd⟩ := hf
      have inst : PySem.W.InstAt s.heap a oe D (some od) := ⟨hget, hz.1, (by unfold PySem.W.notCls; rw [hd] <;> rfl), (by rw [hz.2]; exact ho)⟩
      have hcl : (PySem.W.clsIn X.K D).isSome = true := by
        have hh := C.hd
        unfold PySem.W.hasDictIn at hh
        cases z : PySem.W.clsIn X.K D with
        | none => rw [z] at hh; cases hh
        | some _ => rfl
      exact PySem.W.kia_one (PySem.W.kitx_exc hcl C.hg C.hk C.hs C.ha C.hn C.ht C.hm) I.kIn inst e (fun z => nomatch z) fun tk =>
        ⟨.bl b, H, I.kept (t' := tk) fun _ _ z => z, rfl, q⟩
theorem de_isx {a dd C : Addr} {oe : Obj} {pn : List (Addr × Obj)} {k : Nat} {n y x : Str} {p p1 p2 : Pos} {b : Option Bool} {v : V} {cv : Value} (hx : x = "isinstance") (F : ErF X.K C) (hz : Zc (.ref C) (some dd) oe) (hf : ∃ vs, oe.data = .fields vs)
    (hm : X.mg x = none) (hv : PE (X.suite a ((a, oe) :: pn)) (.Name n p1) (tVar k)) (hy : PE (X.suite a ((a, oe) :: pn)) (.Name y p2) (tC v)) (hcv : ∀ u, RelV v u → u = cv) (hk : ∀ z, b = some z → PySem.W.kitOne X.K (.ref C) cv = some z) (hg : Gl X x := by rfl)
    (hs : starEach [.Name n p1, .Name y p2] X.env = (false, eval (.Name n p1) X.env) :: starEach [.Name y p2] X.env := by rfl) (hs2 : starEach [.Name y p2] X.env = (false, eval (.Name y p2) X.env) :: starEach [] X.env := by rfl) (hpl : (backTo pos (starEach [.Name y p2] X.env)).any (·.1) = false := by rfl) :
    DE (X.suite a ((a, oe) :: pn)) Cl W (.Call (.Name x p) [.Name n p1, .Name y p2] [] pos) (eIsX k a dd b) := by
  subst hx
  refine PE.imp (pe_callB (X := X.suite a ((a, oe) :: pn)) (call_isX F.xc hz hf) hg hm PyProof.Rows.boot_isinstance (pa_cons hv (pa_cons hy pa_nil hs2) hs) (by decide) (by decide) hs hpl) fun σ H Q ⟨Z, ρ, r, I, e, q⟩ => ?_
  unfold eIsX at e
  split at e
  · rename_i a' dd' i hd
    split at e
    · rename_i h
      obtain ⟨rfl, rfl⟩ := h
      cases b with
      | none => cases e
      | some z =>
        cases e
        obtain ⟨h1, h2⟩ := I.slots k _ hd
        exact ⟨_, h1, v, cv, z, _, rfl, hcv, hk z rfl, h2, q _ H (Same.refl _) (.bl z)⟩
    · cases e
  · cases e
/-! ### the clauses -/
abbrev HF := Nat → Int → Rho → Option Out
def goneO (k : Nat) : Out → Option Out
  | .nx ρ => some (.nx (ρ.set k .un))
  | .brk ρ => some (.brk (ρ.set k .un))
  | .ct ρ => some (.ct (ρ.set k .un))
  | .ret d => some (.ret d)
  | .retF ds => some (.retF ds)
  | .retX ds k => some (.retX ds k)
  | .exc _ _ _ => none
/-- the same wherever the error lies -/
noncomputable def anyAd (F : Addr → Addr → Option Out) : Option Out := open Classical in if h : ∃ o, ∀ a dd, F a dd = some o then some (Classical.choose h) else none
theorem anyAd_of {F : Addr → Addr → Option Out} {o : Out} (a0 : Addr) (h : ∀ a dd, F a dd = some o) : anyAd F = some o := by
  unfold anyAd
  have hh : ∃ o, ∀ a dd, F a dd = some o := ⟨o, h⟩
  rw [dif_pos hh]
  have q := Classical.choose_spec hh a0 a0
  rw [h a0 a0] at q
  exact q.symm
theorem anyAd_spec {F : Addr → Addr → Option Out} {o : Out} (h : anyAd F = some o) : ∀ a dd, F a dd = some o := by
  unfold anyAd at h
  split at h
  · rename_i hh
    cases h
    exact Classical.choose_spec hh
  · cases h
def hNil : HF := fun c i ρ => some (.exc ρ c i)
noncomputable def hAs (m : Nat → Option Bool) (k : Nat) (g : Nat → Addr → Addr → FS) (rest : HF) : HF := fun c i ρ => match m c with
  | some true => anyAd fun a dd => (g c a dd (ρ.set k (.err a dd i))).bind (goneO k)
  | some false => rest c i ρ
  | none => none
def hOne (m : Nat → Option Bool) (g : FS) (rest : HF) : HF := fun c i ρ => match m c with
  | some true => match g ρ with
    | some (.exc _ _ _) => none
    | o => o
  | some false => rest c i ρ
  | none => none
def fTry (fb : FS) (h : HF) : FS := fun ρ => match fb ρ with
  | some (.exc ρ1 c i) => h c i ρ1
  | o => o
def HOk (K : PySem.W.Frag) (Cl : Nat → Addr) (W : WX) (h : HF) (wish : Ends → WX) : Prop := ∀ (D : Ends) (H0 : Hp) (Z : Addr → Prop) (o : Out) (c : Nat) (i : Int) (ρ : Rho) (σ : St) (H : Hp) (dd : Addr), h c i ρ = some o → SI K H0 Z H σ ρ → H dd = some (.xd [(("at" : Str), .int i)]) → OOk K Cl W H0 Z D o → wish D (.ref (Cl c)) (some dd) σ H
def DHs (X : Cx) (Cl : Nat → Addr) (W : WX) (hds : List ExceptHandler) (h : HF) : Prop := ∃ wish : Ends → WX, (∀ D, X.Ok → Clauses X hds D (wish D)) ∧ HOk X.K Cl W h wish
theorem dhs_nil (hs : X.stack = X.env :: X.outer) (hf : X.env.frame = some X.env.locals) (tk : Takes X W) : DHs X Cl W [] hNil :=
  ⟨fun _ => W, fun D _ => clauses_nil hs hf tk, fun D H0 Z o c i ρ σ H dd e I hd q => by cases e; exact q dd σ H I hd⟩
theorem SI.setErr {H0 : Hp} {Z : Addr → Prop} {H : Hp} {σ : St} {ρ : Rho} (I : SI K H0 Z H σ ρ) {k : Nat} {a dd : Addr} {i : Int} (h : H dd = some (.xd [(("at" : Str), .int i)])) : SI K H0 Z H (σ.set k (some (.ref a))) (ρ.set k (.err a dd i)) :=
  ⟨I.di.setS (fun z => nomatch z) fun _ _ => ⟨rfl, h⟩, I.same, fun b ⟨j, q⟩ => I.new b ⟨j, own_sub (s := .err a dd i) (fun z => nomatch z) q⟩⟩
/-- the suite's reading -/
def tsX (K : PySem.W.Frag) (Cl : Nat → Addr) (n : Nat → Prop) (g : Nat → Addr → Addr → FS) (a : Addr) (cls : Value) (d : Option Addr) : TS := fun D σ H => ∃ c dd, n c ∧ cls = .ref (Cl c) ∧ d = some dd ∧ tsOf K Cl W0 (g c a dd) D σ H
theorem dhs_as {x n : Str} {k : Nat} {N : Nat → Prop} {C : Value} {b0 : Stmt} {suite : List Stmt} {np pos' : Pos} {hds : List ExceptHandler} {rest : HF} {m : Nat → Option Bool} {g : Nat → Addr → Addr → FS} (hf : X.env.frame = some X.env.locals) (hN : X.N.Nodup) (hc : Names X x C) (hm : ∀ c b, m c = some b → N c ∧ PySem.W.exmOne X.K (.ref (Cl c)) C = some b)
    (hsu : ∀ (a dd : Addr) (c : Nat) (oe : Obj) (pn : List (Addr × Obj)), N c → Zc (.ref (Cl c)) (some dd) oe → (∃ vs, oe.data = .fields vs) → DSs (X.suite a ((a, oe) :: pn)) Cl W0 (b0 :: suite) (g c a dd)) (hr : DHs X Cl W hds rest)
    (hi : X.N[k]? = some n := by rfl) (hln : X.env.kindOf n = some .local := by rfl) : DHs X Cl W (.ExceptHandler (some (.Name x np)) (some n) (b0 :: suite) pos' :: hds) (hAs m k g rest) := by
  obtain ⟨wr, h1, h2⟩ := hr
  refine ⟨_, fun D ok => clauses_as (ts := tsX X.K Cl N g) ok hf hN hi hln hc (fun a oe cls d pn hz hdat => ⟨fun pins s σ H D I q => ?_⟩) (h1 D ok), fun D H0 Z o c i ρ σ H dd e I hd q => ?_⟩
  · obtain ⟨c, dd, hlt, rfl, rfl, q⟩ := q
    exact (hsu a dd c oe pn hlt hz hdat).run pins s σ H D I q
  · unfold hAs at e
    cases e1 : m c with
    | none => rw [e1] at e; cases e
    | some b =>
      rw [e1] at e
      obtain ⟨hlt, hb⟩ := hm c b e1
      refine ⟨b, hb, fun hb1 a na => ?_, fun hb0 => ?_⟩
      · subst hb1
        have sp := anyAd_spec e a dd
        cases e2 : g c a dd (ρ.set k (.err a dd i)) with
        | none => rw [e2] at sp; cases sp
        | some o2 =>
          rw [e2] at sp
          refine ⟨c, dd, hlt, rfl, rfl, H0, Z, _, o2, I.setErr hd, e2, ?_⟩
          cases o2 with
          | nx ρ2 => cases sp; exact fun σ' H' I' => q _ H' I'.setUn
          | brk ρ2 => cases sp; exact fun σ' H' I' => q _ H' I'.setUn
          | ct ρ2 => cases sp; exact fun σ' H' I' => q _ H' I'.setUn
          | ret d => cases sp; exact q
          | retF ds => cases sp; exact q
          | retX ds k => cases sp; exact q
          | exc _ _ _ => cases sp
      · subst hb0
        exact h2 D H0 Z o c i ρ σ H dd e I hd q
theorem dhs_one {x : Str} {N : Nat → Prop} {C : Value} {b0 : Stmt} {suite : List Stmt} {np pos' : Pos} {hds : List ExceptHandler} {rest : HF} {m : Nat → Option Bool} {g : FS} (hf : X.env.frame = some X.env.locals) (hc : Names X x C) (hm : ∀ c b, m c = some b → N c ∧ PySem.W.exmOne X.K (.ref (Cl c)) C = some b)
    (hsu : ∀ (a : Addr) (oe : Obj) (pn : List (Addr × Obj)), DSs (X.suite a ((a, oe) :: pn)) Cl W0 (b0 :: suite) g) (hr : DHs X Cl W hds rest) :
    DHs X Cl W (.ExceptHandler (some (.Name x np)) none (b0 :: suite) pos' :: hds) (hOne m g rest) := by
  obtain ⟨wr, h1, h2⟩ := hr
  refine ⟨_, fun D ok => clauses_one (ts := fun _ _ _ => tsOf X.K Cl W0 g) ok hf hc (fun a oe cls d pn hz hdat => ⟨fun pins s σ H D I q => (hsu a oe pn).run pins s σ H D I q⟩) (h1 D ok), fun D H0 Z o c i ρ σ H dd e I hd q => ?_⟩
  unfold hOne at e
  cases e1 : m c with
  | none => rw [e1] at e; cases e
  | some b =>
    rw [e1] at e
    obtain ⟨hlt, hb⟩ := hm c b e1
    refine ⟨b, hb, fun hb1 a na => ?_, fun hb0 => ?_⟩
    · subst hb1
      dsimp only at e
      cases e2 : g ρ with
      | none => rw [e2] at e; cases e
      | some o2 =>
        rw [e2] at e
        refine ⟨H0, Z, _, o2, I, e2, ?_⟩
        cases o2 with
        | nx ρ2 => cases e; exact q
        | brk ρ2 => cases e; exact q
        | ct ρ2 => cases e; exact q
        | ret d => cases e; exact q
        | retF ds => cases e; exact q
        | retX ds k => cases e; exact q
        | exc _ _ _ => cases e
    · subst hb0
      exact h2 D H0 Z o c i ρ σ H dd e I hd q
theorem ds_try {body : List Stmt} {h0 : ExceptHandler} {hds : List ExceptHandler} {fb : FS} {h : HF} (hs : X.stack = X.env :: X.outer) (hf : X.env.frame = some X.env.locals)
    (hb : ∀ (W' : WX) (pn : List (Addr × Obj)) (xe : Value → Shared → Prop), Takes (X.tr pn xe) W' → PassesOwn (model X.prog X.w) X.A X.env xe → DSs (X.tr pn xe) Cl W' body fb) (hh : DHs X Cl W (h0 :: hds) h) :
    DS X Cl W (.Try body (h0 :: hds) [] [] pos) (fTry fb h) := by
  obtain ⟨wish, h1, h2⟩ := hh
  refine PS.imp (ps_try (tb := fun W' => tsOf X.K Cl W' fb) hs hf hb h1) fun D σ H ⟨H0, Z, ρ, o, I, e, q⟩ => ?_
  unfold fTry at e
  cases e1 : fb ρ with
  | none => rw [e1] at e; cases e
  | some o1 =>
    rw [e1] at e
    refine ⟨H0, Z, ρ, o1, I, e1, ?_⟩
    cases o1 with
    | exc ρ1 c i => exact fun dd σ' H' I' hd => h2 D H0 Z o c i ρ1 σ' H' dd e I' hd q
    | nx ρ2 => cases e; exact q
    | brk ρ2 => cases e; exact q
    | ct ρ2 => cases e; exact q
    | ret d => cases e; exact q
    | retF ds => cases e; exact q
    | retX ds k => cases e; exact q
end
end DL
set_option Elab.async false
set_option linter.all false
set_option maxRecDepth 100000
set_option maxHeartbeats 4000000
/-! DL11: tables of classes. -/
namespace DL
open PySem PySem.Spec PyProof.Rows L2
/-- what a table tells of a class; none if it is not in it -/
def mxL : List (Nat × Bool) → Nat → Option Bool
  | [], _ => none
  | (k, b) :: r, c => if k = c then some b else mxL r c
inductive AllL (P : Nat → Bool → Prop) : List (Nat × Bool) → Prop
  | nil : AllL P []
  | cons {k : Nat} {b : Bool} {r : List (Nat × Bool)} : P k b → AllL P r → AllL P ((k, b) :: r)
theorem mxL_spec {P : Nat → Bool → Prop} : ∀ {l : List (Nat × Bool)}, AllL P l → ∀ c b, mxL l c = some b → P c b
  | _, .nil, c, b, e => nomatch e
  | _, .cons (k := k) (b := b') h t, c, b, e => by
    unfold mxL at e
    by_cases hk : k = c
    · rw [if_pos hk] at e
      cases e
      exact hk ▸ h
    · rw [if_neg hk] at e
      exact mxL_spec t c b e
end DL
set_option Elab.async false
set_option linter.all false
namespace FN
open PySem PySem.Spec PyProof.Rows L2 DL
noncomputable section
def c_HALVES : D := .tuple [.int 0, .int 498536548, .int 997073096, .int 651767980, .int 1994146192, .int 1802195444, .int 1303535960, .int 1342533948, .int 3988292384, .int 4027552580, .int 3604390888, .int 3412177804, .int 2607071920, .int 2262029012, .int 2685067896, .int 3183342108]
def b__law_draws : FS := fSeq (fSetO 1 (eLst (aNil))) (fSeq (fFor (iRange1 (aCons (eG bMin (aCons (eC (.int 63)) (aCons (eG bLen (aCons (eV 0) (aNil))) (aNil)))) (aNil))) (gN 2) (fSeq (fSet 3 (eG bAbs (aCons (e2 gIx (eV 0) (eV 2)) (aNil)))) (fIf (tV (e2 gGeX (eV 3) (e2 gPow (eC (.int 10)) (eC (.int 18))))) (fFor (iRange1 (aCons (eC (.int 60)) (aNil))) (gN 4) (fIf (tV (e2 gGtX (eV 3) (eC (.int 0)))) (fSeq (fApp 1 (e2 gMod (eG bInt (aCons (eV 3) (aNil))) (eC (.int 65536)))) (fSet 3 (e2 gDiv (eV 3) (eC (.int 65536))))) (fNx))) (fSeq (fSet 5 (e2 gMod (eG bInt (aCons (e2 gAdd (e2 gMul (eV 3) (eC (.int 48271))) (e2 gMul (e2 gAdd (eV 2) (eC (.int 1))) (eC (.int 69621)))) (aNil))) (eC (.int 2147483647)))) (fSeq (fSet 5 (e2 gMod (eG bInt (aCons (e2 gAdd (e2 gAdd (e2 gMul (eV 5) (eC (.int 16807))) (e2 gMul (eC (.int 11)) (eV 2))) (eC (.int 5))) (aNil))) (eC (.int 2147483629)))) (fSeq (fApp 1 (e2 gMod (eG bInt (aCons (eV 5) (aNil))) (eC (.int 65536)))) (fApp 1 (e2 gMod (eG bInt (aCons (e2 gDiv (eV 5) (eC (.int 65536))) (aNil))) (eC (.int 32768)))))))))) (fRet (eV 1)))
def d__law_draws : DF := mkD 1 6 b__law_draws
def b_checksum : FS := fSeq (fSet 1 (eC (.int 4294967295))) (fSeq (fFor (iSeq (eV 0)) (gN 2) (fSeq (fSet 1 (e2 gXor (eV 1) (eV 2))) (fSeq (fSet 1 (e2 gXor (e2 gShr (eV 1) (eC (.int 4))) (e2 gIx (eC c_HALVES) (e2 gAnd (eV 1) (eC (.int 15)))))) (fSet 1 (e2 gXor (e2 gShr (eV 1) (eC (.int 4))) (e2 gIx (eC c_HALVES) (e2 gAnd (eV 1) (eC (.int 15))))))))) (fRet (e2 gXor (eV 1) (eC (.int 4294967295)))))
def d_checksum : DF := mkD 1 3 b_checksum
def b_four_bytes : FS := fRet (eLst (aCons (e2 gAnd (eV 0) (eC (.int 255))) (aCons (e2 gAnd (e2 gShr (eV 0) (eC (.int 8))) (eC (.int 255))) (aCons (e2 gAnd (e2 gShr (eV 0) (eC (.int 16))) (eC (.int 255))) (aCons (e2 gAnd (e2 gShr (eV 0) (eC (.int 24))) (eC (.int 255))) (aNil))))))
def d_four_bytes : DF := mkD 1 1 b_four_bytes
def b__law_bits : FS := fRet (eLcG [1] (st1 1) (iRange1 (aCons (e2 gMul (eC (.int 8)) (eG bLen (aCons (eV 0) (aNil)))) (aNil))) (fun _ => some (.ok true)) (e2 gAnd (e2 gShr (e2 gIx (eV 0) (eG bInt (aCons (e2 gDiv (eV 1) (eC (.int 8))) (aNil)))) (e2 gAnd (eV 1) (eC (.int 7)))) (eC (.int 1))))
def d__law_bits : DF := mkD 1 2 b__law_bits
def b__law_at : FS := fSeq (fIf (tV (e2 gLtX (eV 1) (eG bLen (aCons (eV 0) (aNil))))) (fRet (e2 gMod (eG bInt (aCons (e2 gIx (eV 0) (eV 1)) (aNil))) (eV 2))) (fNx)) (fRet (eC (.int 0)))
def d__law_at : DF := mkD 3 3 b__law_at
def b__law_is_integer : FS := fRet (eAndV (e1 (gIsi "int") (eV 0)) (e1 gNotV (e1 (gIsi "bool") (eV 0))))
def d__law_is_integer : DF := mkD 1 1 b__law_is_integer
def b__law_check : FS := fSeq (fSet 1 (eC (.int 4294967295))) (fSeq (fFor (iSeq (eV 0)) (gN 2) (fFor (iRange1 (aCons (eC (.int 8)) (aNil))) (gN 3) (fSeq (fSet 4 (e2 gAnd (e2 gXor (e2 gShr (eV 2) (eV 3)) (eV 1)) (eC (.int 1)))) (fSeq (fSet 1 (e2 gShr (eV 1) (eC (.int 1)))) (fIf (tV (e2 gEq (eV 4) (eC (.int 1)))) (fSet 1 (e2 gXor (eV 1) (eC (.int 3988292384)))) (fNx)))))) (fRet (e2 gXor (eV 1) (eC (.int 4294967295)))))
def d__law_check : DF := mkD 1 5 b__law_check
def b_number_of : FS := fRet (e2 gAdd (e2 gAdd (e2 gAdd (e2 gIx (eV 0) (eC (.int 0))) (e2 gShl (e2 gIx (eV 0) (eC (.int 1))) (eC (.int 8)))) (e2 gShl (e2 gIx (eV 0) (eC (.int 2))) (eC (.int 16)))) (e2 gShl (e2 gIx (eV 0) (eC (.int 3))) (eC (.int 24))))
def d_number_of : DF := mkD 1 1 b_number_of
def b__law_bytes : FS := fRet (eLcG [2] (st1 2) (iRange1 (aCons (e2 gDiv (eG bLen (aCons (eV 0) (aNil))) (eC (.int 8))) (aNil))) (fun _ => some (.ok true)) (eG bSum (aCons (eLcG [1] (st1 1) (iRange1 (aCons (eC (.int 8)) (aNil))) (fun _ => some (.ok true)) (e2 gShl (e2 gIx (eV 0) (e2 gAdd (e2 gMul (eC (.int 8)) (eV 2)) (eV 1))) (eV 1))) (aNil))))
def d__law_bytes : DF := mkD 1 3 b__law_bytes
def b_law_k01 : FS := fSeq (fSet 1 (eCall FN.d__law_draws 1 (aCons (eV 0) (aNil)))) (fSeq (fSet 2 (eLcG [3] (st1 3) (iRange1 (aCons (eCall FN.d__law_at 3 (aCons (eV 1) (aCons (eC (.int 0)) (aCons (eC (.int 41)) (aNil))))) (aNil))) (fun _ => some (.ok true)) (eCall FN.d__law_at 3 (aCons (eV 1) (aCons (e2 gAdd (eC (.int 4)) (eV 3)) (aCons (eC (.int 256)) (aNil))))))) (fSeq (fSet 4 (eG bList (aCons (eV 2) (aNil)))) (fSeq (fSet 5 (eCall FN.d_checksum 1 (aCons (eV 2) (aNil)))) (fSeq (fIf (tOrD (tNotD (tV (eCall FN.d__law_is_integer 1 (aCons (eV 5) (aNil))))) (tOrD (tV (e2 gNe (eV 5) (eCall FN.d__law_check 1 (aCons (eV 4) (aNil))))) (tV (e2 gNe (eV 2) (eV 4))))) (fRet (eC (.bool false))) (fNx)) (fSeq (fSet 6 (e2 gAdd (eCall FN.d__law_at 3 (aCons (eV 1) (aCons (eC (.int 1)) (aCons (eC (.int 65536)) (aNil))))) (e2 gMul (eC (.int 65536)) (eCall FN.d__law_at 3 (aCons (eV 1) (aCons (eC (.int 2)) (aCons (eC (.int 65536)) (aNil)))))))) (fSeq (fSet 7 (eCall FN.d_four_bytes 1 (aCons (eV 6) (aNil)))) (fSeq (fIf (tOrD (tNotD (tV (e1 (gIsi "list") (eV 7)))) (tV (e2 gNe (eV 7) (eLst (aCons (e2 gAnd (eV 6) (eC (.int 255))) (aCons (e2 gAnd (e2 gShr (eV 6) (eC (.int 8))) (eC (.int 255))) (aCons (e2 gAnd (e2 gShr (eV 6) (eC (.int 16))) (eC (.int 255))) (aCons (e2 gShr (eV 6) (eC (.int 24))) (aNil))))))))) (fRet (eC (.bool false))) (fNx)) (fSeq (fIf (tOrD (tNotD (tV (eCall FN.d__law_is_integer 1 (aCons (eCall FN.d_number_of 1 (aCons (eV 7) (aNil))) (aNil))))) (tOrD (tV (e2 gNe (eCall FN.d_number_of 1 (aCons (eV 7) (aNil))) (eV 6))) (tV (e2 gNe (eCall FN.d_checksum 1 (aCons (eLst (aNil)) (aNil))) (eC (.int 0)))))) (fRet (eC (.bool false))) (fNx)) (fSeq (fSetO 8 (eCall FN.d__law_bits 1 (aCons (eV 2) (aNil)))) (fSeq (fIf (tV (e2 gEq (eG bLen (aCons (eV 8) (aNil))) (eC (.int 0)))) (fRet (eC (.bool true))) (fNx)) (fSeq (fSet 9 (eCall FN.d__law_at 3 (aCons (eV 1) (aCons (eC (.int 3)) (aCons (eG bLen (aCons (eV 8) (aNil))) (aNil)))))) (fSeq (fPut 8 (eV 9) (e2 gSub (eC (.int 1)) (e2 gIx (eV 8) (eV 9)))) (fSeq (fFor (iRange2 (aCons (eC (.int 1)) (aCons (eC (.int 32)) (aNil)))) (gN 3) (fIf (tAndD (tV (e2 gLtX (e2 gAdd (eV 9) (eV 3)) (eG bLen (aCons (eV 8) (aNil))))) (tV (e2 gEq (e2 gAnd (e2 gShr (eV 6) (eV 3)) (eC (.int 1))) (eC (.int 1))))) (fPut 8 (e2 gAdd (eV 9) (eV 3)) (e2 gSub (eC (.int 1)) (e2 gIx (eV 8) (e2 gAdd (eV 9) (eV 3))))) (fNx))) (fRet (e2 gNe (eCall FN.d_checksum 1 (aCons (eCall FN.d__law_bytes 1 (aCons (eV 8) (aNil))) (aNil))) (eV 5))))))))))))))))
def d_law_k01 : DF := mkD 1 10 b_law_k01
end
end FN
set_option Elab.async false
set_option linter.all false
namespace FN
open PySem PySem.Spec PyProof.Rows L2 DL
noncomputable section
def b__law_row : FS := fSeq (fSet 2 (eCall FN.d__law_at 3 (aCons (eV 0) (aCons (eV 1) (aCons (eC (.int 30)) (aNil)))))) (fSeq (fIf (tV (e2 gEq (eCall FN.d__law_at 3 (aCons (eV 0) (aCons (eV 1) (aCons (eC (.int 5)) (aNil))))) (eC (.int 4)))) (fSet 2 (e2 gAdd (e2 gAdd (eC (.int 240)) (eCall FN.d__law_at 3 (aCons (eV 0) (aCons (e2 gAdd (eV 1) (eC (.int 1))) (aCons (eC (.int 40)) (aNil)))))) (e2 gMul (eC (.int 254)) (eCall FN.d__law_at 3 (aCons (eV 0) (aCons (e2 gAdd (eV 1) (eC (.int 2))) (aCons (eC (.int 3)) (aNil)))))))) (fNx)) (fSeq (fSet 3 (e2 gIx (eLst (aCons (eC (.int 2)) (aCons (eC (.int 256)) (aCons (eC (.int 6)) (aCons (eC (.int 256)) (aNil)))))) (eCall FN.d__law_at 3 (aCons (eV 0) (aCons (e2 gAdd (eV 1) (eC (.int 2))) (aCons (eC (.int 4)) (aNil))))))) (fSeq (fSetO 4 (eLst (aNil))) (fSeq (fFor (iRange1 (aCons (eV 2) (aNil))) (gN 5) (fSeq (fSet 6 (e2 gMod (eG bInt (aCons (e2 gAdd (eCall FN.d__law_at 3 (aCons (eV 0) (aCons (e2 gAdd (e2 gAdd (eV 1) (eC (.int 3))) (eV 5)) (aCons (eC (.int 65536)) (aNil))))) (e2 gMul (e2 gMul (eV 5) (eV 5)) (e2 gAdd (eC (.int 1)) (eCall FN.d__law_at 3 (aCons (eV 0) (aCons (e2 gAdd (eV 1) (eC (.int 1))) (aCons (eC (.int 9)) (aNil)))))))) (aNil))) (eV 3))) (fSeq (fIf (tAndD (tV (e2 gGtX (eV 2) (eC (.int 200)))) (tV (e2 gGtX (eCall FN.d__law_at 3 (aCons (eV 0) (aCons (e2 gAdd (eV 1) (eC (.int 1))) (aCons (eC (.int 3)) (aNil))))) (eC (.int 0))))) (fSeq (fSet 6 (e2 gAdd (eC (.int 1)) (e2 gMod (eG bInt (aCons (e2 gAdd (eV 6) (eV 5)) (aNil))) (eC (.int 255))))) (fIf (tAndD (tV (e2 gEq (eCall FN.d__law_at 3 (aCons (eV 0) (aCons (e2 gAdd (eV 1) (eC (.int 1))) (aCons (eC (.int 3)) (aNil))))) (eC (.int 1)))) (tV (e2 gEq (eV 5) (eCall FN.d__law_at 3 (aCons (eV 0) (aCons (e2 gAdd (eV 1) (eC (.int 2))) (aCons (eC (.int 600)) (aNil)))))))) (fSet 6 (eC (.int 0))) (fNx))) (fNx)) (fApp 4 (eV 6))))) (fRet (eV 4))))))
def d__law_row : DF := mkD 2 7 b__law_row
def b_stuff : FS := fSeq (fSetO 1 (eLst (aNil))) (fSeq (fSetO 2 (eLst (aNil))) (fSeq (fFor (iSeq (eV 0)) (gN 3) (fIf (tV (e2 gEq (eV 3) (eC (.int 0)))) (fSeq (fExt 1 (eLst (aCons (e2 gAdd (eG bLen (aCons (eV 2) (aNil))) (eC (.int 1))) (aStar (eV 2) (aNil))))) (fSetO 2 (eLst (aNil)))) (fSeq (fApp 2 (eV 3)) (fIf (tV (e2 gEq (eG bLen (aCons (eV 2) (aNil))) (e2 gSub (eC (.int 255)) (eC (.int 1))))) (fSeq (fExt 1 (eLst (aCons (eC (.int 255)) (aStar (eV 2) (aNil))))) (fSetO 2 (eLst (aNil)))) (fNx))))) (fSeq (fExt 1 (eLst (aCons (e2 gAdd (eG bLen (aCons (eV 2) (aNil))) (eC (.int 1))) (aStar (eV 2) (aNil))))) (fRet (eV 1)))))
def d_stuff : DF := mkD 1 4 b_stuff
def b_unstuff : FS := fSeq (fIf (tV (e2 gIn (eC (.int 0)) (eV 0))) (fRaise 4 (eLM gIndex (eV 0) (eC (.int 0)))) (fNx)) (fSeq (fIf (tV (e2 gEq (eG bLen (aCons (eV 0) (aNil))) (eC (.int 0)))) (fRaise 4 (eC (.int 0))) (fNx)) (fSeq (fSetO 1 (eLst (aNil))) (fSeq (fSet 2 (eC (.int 0))) (fSeq (fWhile (tV (e2 gLtX (eV 2) (eG bLen (aCons (eV 0) (aNil))))) (fSeq (fSet 3 (e2 gIx (eV 0) (eV 2))) (fSeq (fIf (tV (e2 gGtX (e2 gAdd (eV 2) (eV 3)) (eG bLen (aCons (eV 0) (aNil))))) (fRaise 4 (eV 2)) (fNx)) (fSeq (fExt 1 (eSl (eV 0) (oSome (e2 gAdd (eV 2) (eC (.int 1)))) (oSome (e2 gAdd (eV 2) (eV 3))))) (fSeq (fAug 2 (fun i j => i + j) (eV 3)) (fIf (tV (e2 gLtX (eV 3) (eC (.int 255)))) (fApp 1 (eC (.int 0))) (fIf (tV (e2 gEq (eV 2) (eG bLen (aCons (eV 0) (aNil))))) (fRaise 4 (eV 2)) (fNx)))))))) (fSeq (fPop 1) (fRet (eV 1)))))))
def d_unstuff : DF := mkD 1 4 b_unstuff
def b__law_stuffed : FS := fSeq (fSet 1 (eLst (aNil))) (fSeq (fSet 2 (eLst (aNil))) (fSeq (fFor (iSeq (e2 gAdd (eV 0) (eLst (aCons (eC (.int 0)) (aNil))))) (gN 3) (fSeq (fIf (tV (e2 gGtX (eV 3) (eC (.int 0)))) (fSet 2 (e2 gAdd (eV 2) (eLst (aCons (eV 3) (aNil))))) (fNx)) (fIf (tOrD (tV (e2 gEq (eV 3) (eC (.int 0)))) (tV (e2 gEq (eG bLen (aCons (eV 2) (aNil))) (eC (.int 254))))) (fSeq (fSet 1 (e2 gAdd (e2 gAdd (eV 1) (eLst (aCons (e2 gAdd (eG bLen (aCons (eV 2) (aNil))) (eC (.int 1))) (aNil)))) (eV 2))) (fSet 2 (eLst (aNil)))) (fNx)))) (fRet (eV 1))))
def d__law_stuffed : DF := mkD 1 4 b__law_stuffed
def b__law_full : FS := fSeq (fSet 1 (eC (.int 0))) (fSeq (fSet 2 (eC (.int 0))) (fSeq (fFor (iRange1 (aCons (eG bLen (aCons (eV 0) (aNil))) (aNil))) (gN 3) (fIf (tV (e2 gLtX (eV 2) (eG bLen (aCons (eV 0) (aNil))))) (fSeq (fSet 1 (e2 gAdd (eV 1) (eG bInt (aCons (e2 gEq (e2 gIx (eV 0) (eV 2)) (eC (.int 255))) (aNil))))) (fSet 2 (e2 gAdd (eV 2) (e2 gIx (eV 0) (eV 2))))) (fNx))) (fRet (eV 1))))
def d__law_full : DF := mkD 1 4 b__law_full
def b_law_k02 : FS := fSeq (fSet 1 (eCall FN.d__law_draws 1 (aCons (eV 0) (aNil)))) (fSeq (fSet 2 (eCall FN.d__law_row 2 (aCons (eV 1) (aCons (eC (.int 0)) (aNil))))) (fSeq (fSet 3 (eG bList (aCons (eV 2) (aNil)))) (fSeq (fSet 4 (eCall FN.d_stuff 1 (aCons (eV 2) (aNil)))) (fSeq (fIf (tOrD (tNotD (tV (e1 (gIsi "list") (eV 4)))) (tOrD (tV (e2 gNe (eV 2) (eV 3))) (tOrD (tV (e2 gIn (eC (.int 0)) (eV 4))) (tV (e2 gNe (eV 4) (eCall FN.d__law_stuffed 1 (aCons (eV 3) (aNil)))))))) (fRet (eC (.bool false))) (fNx)) (fSeq (fIf (tV (e2 gNe (eG bLen (aCons (eV 4) (aNil))) (e2 gAdd (e2 gAdd (eG bLen (aCons (eV 2) (aNil))) (eC (.int 1))) (eCall FN.d__law_full 1 (aCons (eV 4) (aNil)))))) (fRet (eC (.bool false))) (fNx)) (fSeq (fSet 5 (eG bList (aCons (eV 4) (aNil)))) (fSeq (fSetO 6 (eCall FN.d_unstuff 1 (aCons (eV 4) (aNil)))) (fSeq (fIf (tOrD (tNotD (tV (e1 (gIsi "list") (eV 6)))) (tOrD (tV (e2 gNe (eV 6) (eV 3))) (tV (e2 gNe (eV 4) (eV 5))))) (fRet (eC (.bool false))) (fNx)) (fSeq (fApp 6 (eC (.int 1))) (fRet (eAndV (e2 gEq (eCall FN.d_unstuff 1 (aCons (eV 4) (aNil))) (eV 3)) (e2 gEq (eCall FN.d_stuff 1 (aCons (eV 3) (aNil))) (eV 5)))))))))))))
def d_law_k02 : DF := mkD 1 7 b_law_k02
end
end FN
set_option Elab.async false
set_option linter.all false
set_option maxRecDepth 100000
set_option maxHeartbeats 4000000
/-! DL12: a clause of several classes. -/
namespace DL
open PySem PySem.Spec PyProof.Rows L2
section
variable {X : Cx} {W : WX} {Cl : Nat → Addr}
/-- a new object is no news to an error that was caught -/
theorem Caught.grow {pins : List (Addr × Obj)} {a : Addr} {B : Heap} {sI : Shared} {σ : St} {H : Hp} {cls : Value} {d : Option Addr} {s : Shared} {h2 : Heap} (c : Caught X pins a B sI σ H cls d s) (kp : ∀ b o, s.heap.get? b = some o → h2.get? b = some o) : Caught X pins a B sI σ H cls d { s with heap := h2 } := by
  obtain ⟨f1, f2, f3, oe, ws, T, oT, ts, he, hz, hd, h1, hn, hne, hT, hdT, h3⟩ := c.fly
  exact ⟨c.inv, c.ground, c.slots.trans (Heap.UpToSlots.of_keeps kp), ⟨fun b o q => kp b o (f1 b o q), f2, f3.of_keeps fun b o q _ => ⟨o, kp b o q, rfl⟩, oe, ws, T, oT, ts, kp _ _ he, hz, hd, h1, hn, hne, kp _ _ hT, hdT, h3⟩, c.free, c.os, c.bare⟩
/-- what a clause's expression tests -/
def Tests (X : Cx) (t : Expr) (test : Value → Bool → Prop) : Prop := ∀ (pins : List (Addr × Obj)) (a : Addr) (B : Heap) (sI : Shared) (σ : St) (H : Hp) (cls : Value) (d : Option Addr) (s : Shared) (b : Bool) (Q : Bool → Shared → Prop) (E : Value → Shared → Prop),
  X.env.frame = some X.env.locals → Caught X pins a B sI σ H cls d s → test cls b → (∀ h2, (∀ q o, s.heap.get? q = some o → h2.get? q = some o) → Q b { s with heap := h2 }) →
  wpAny (model X.prog X.w) (X.A.mark (some (.ref a))) (eval t X.env) (fun c s1 => wpAny (model X.prog X.w) (X.A.mark (some (.ref a))) (excMatches (.ref a) c) Q E s1) E s
theorem name_ok {pins pn : List (Addr × Obj)} {a : Addr} {σ : St} {H : Hp} {s : Shared} {x : Str} {c : Value} {p : Pos} {Q : Value → Shared → Prop} {E : Value → Shared → Prop} (S : Inv (X.suite a pn) pins σ H s) (hc : Names X x c) (q : Q c s) : wpAny (model X.prog X.w) (X.A.mark (some (.ref a))) (eval (.Name x p) X.env) Q E s := by
  obtain ⟨hg, hdbg, hm | ⟨hm, hv, hnn⟩⟩ := hc
  · exact ld_glob (X := X.suite a pn) S hg hm q hdbg
  · exact ld_blt (X := X.suite a pn) S hg hm hv q hnn hdbg
theorem tests_tup3 {x1 x2 x3 : Str} {c1 c2 c3 : Value} {p1 p2 p3 tpos : Pos} {kk : Nat} (n1 : Names X x1 c1) (n2 : Names X x2 c2) (n3 : Names X x3 c3) :
    Tests X (.Tuple [.Name x1 p1, .Name x2 p2, .Name x3 p3] kk tpos) (fun cls b => PySem.W.exmAny X.K cls [c1, c2, c3] = some b) := fun pins a B sI σ H cls d s b Q E hf ca hb q => by
  obtain ⟨ob, hob, hz, hdat, S⟩ := ca.suite hf
  have look : PySem.W.Looks (model X.prog X.w) s.heap (typeOf (.ref a)) cls := fun A Q E s' k q => wpAny_typeOf_ref (k _ _ hob) (by rw [hz.1]; exact q)
  refine wpAny_Tuple ?_
  refine wpAny_items_cons (name_ok S n1 ?_)
  refine wpAny_items_cons (name_ok S n2 ?_)
  refine wpAny_items_cons (name_ok S n3 ?_)
  refine wpAny_items_nil ⟨by size_fits, ?_⟩
  have kp : ∀ q o, s.heap.get? q = some o → (s.heap.push { cls := .type "tuple", data := .seq [c1, c2, c3].toArray }).get? q = some o := fun _ _ z => Heap.get?_push_of_some _ z
  exact (PySem.W.exm_tup3 (M := model X.prog X.w) ((ca.now.kIn).keeps kp) (look.keeps kp) (Heap.get?_push_size s.heap rfl) hb).here (q _ kp)
/-- a clause without a name -/
theorem clauses_gen {D : Ends} {t : Expr} {test : Value → Bool → Prop} {b0 : Stmt} {suite : List Stmt} {pos' : Pos} {hds : List ExceptHandler} {rest : WX} {ts : Addr → Value → Option Addr → TS} (ok : X.Ok) (hf : X.env.frame = some X.env.locals) (ht : Tests X t test)
    (hsu : ∀ (a : Addr) (oe : Obj) (cls : Value) (d : Option Addr) (pn : List (Addr × Obj)), Zc cls d oe → (∃ vs, oe.data = .fields vs) → PSs (X.suite a ((a, oe) :: pn)) (b0 :: suite) (ts a cls d)) (hr : Clauses X hds D rest) :
    Clauses X (.ExceptHandler (some t) none (b0 :: suite) pos' :: hds) D (wTest test ts D rest) := fun pins a B sI σ H cls d s ca ⟨b, hb, yes, no⟩ => by
  refine wpAny_handleBy_cons (codeAny_handlers_test (ht pins a B sI σ H cls d s b _ _ hf ca hb fun h2 kp => ?_)) (by intro q; cases q)
  have ca2 := ca.grow kp
  cases b with
  | false => exact hr pins a B sI σ H cls d _ ca2 (no rfl)
  | true =>
    refine codeAny_handlers_suite (HandSPX.lands_againZ ca2.fly fun h4 fl up => ?_)
    have ca4 := ca2.again fl up
    obtain ⟨ob4, _, hz4, hdat4, S4⟩ := ca4.suite hf
    refine wpAny_mono ((hsu a ob4 cls d (X.pn ++ pins) hz4 hdat4).run [] _ _ H _ S4 (yes rfl a ca.free)) (fun fl s6 r => ?_) (fun _ _ z => z.elim)
    cases fl with
    | next => obtain ⟨σ6, H6, S6, q6⟩ := r; exact ⟨σ6, H6, S6.unsuite ok, q6⟩
    | brk => obtain ⟨σ6, H6, S6, q6⟩ := r; exact ⟨σ6, H6, S6.unsuite ok, q6⟩
    | cont => obtain ⟨σ6, H6, S6, q6⟩ := r; exact ⟨σ6, H6, S6.unsuite ok, q6⟩
    | ret u => obtain ⟨v6, σ6, H6, S6, r6, q6⟩ := r; exact ⟨v6, σ6, H6, S6.unsuite ok, r6, q6⟩
theorem exm_any3 {K : PySem.W.Frag} {cls c1 c2 c3 : Value} {b1 b2 b3 : Bool} (h1 : PySem.W.exmOne K cls c1 = some b1) (h2 : PySem.W.exmOne K cls c2 = some b2) (h3 : PySem.W.exmOne K cls c3 = some b3) : PySem.W.exmAny K cls [c1, c2, c3] = some (b1 || (b2 || b3)) := by
  simp [PySem.W.exmAny, h1, h2, h3]
theorem dhs_tup3 {x1 x2 x3 : Str} {p1 p2 p3 tpos : Pos} {kk : Nat} {N : Nat → Prop} {C1 C2 C3 : Value} {b0 : Stmt} {suite : List Stmt} {pos' : Pos} {hds : List ExceptHandler} {rest : HF} {m : Nat → Option Bool} {g : FS} (hf : X.env.frame = some X.env.locals) (n1 : Names X x1 C1) (n2 : Names X x2 C2) (n3 : Names X x3 C3)
    (hm : ∀ c b, m c = some b → N c ∧ PySem.W.exmAny X.K (.ref (Cl c)) [C1, C2, C3] = some b)
    (hsu : ∀ (a : Addr) (oe : Obj) (pn : List (Addr × Obj)), DSs (X.suite a ((a, oe) :: pn)) Cl W0 (b0 :: suite) g) (hr : DHs X Cl W hds rest) :
    DHs X Cl W (.ExceptHandler (some (.Tuple [.Name x1 p1, .Name x2 p2, .Name x3 p3] kk tpos)) none (b0 :: suite) pos' :: hds) (hOne m g rest) := by
  obtain ⟨wr, h1, h2⟩ := hr
  refine ⟨_, fun D ok => clauses_gen (ts := fun _ _ _ => tsOf X.K Cl W0 g) ok hf (tests_tup3 n1 n2 n3) (fun a oe cls d pn hz hdat => ⟨fun pins s σ H D I q => (hsu a oe pn).run pins s σ H D I q⟩) (h1 D ok), fun D H0 Z o c i ρ σ H dd e I hd q => ?_⟩
  unfold hOne at e
  cases e1 : m c with
  | none => rw [e1] at e; cases e
  | some b =>
    rw [e1] at e
    obtain ⟨hlt, hb⟩ := hm c b e1
    refine ⟨b, hb, fun hb1 a na => ?_, fun hb0 => ?_⟩
    · subst hb1
      dsimp only at e
      cases e2 : g ρ with
      | none => rw [e2] at e; cases e
      | some o2 =>
        rw [e2] at e
        refine ⟨H0, Z, _, o2, I, e2, ?_⟩
        cases o2 with
        | nx ρ2 => cases e; exact q
        | brk ρ2 => cases e; exact q
        | ct ρ2 => cases e; exact q
        | ret d => cases e; exact q
        | retF ds => cases e; exact q
        | retX ds k => cases e; exact q
        | exc _ _ _ => cases e
    · subst hb0
      exact h2 D H0 Z o c i ρ σ H dd e I hd q
end
end DL
set_option Elab.async false
set_option linter.all false
set_option maxRecDepth 100000
set_option maxHeartbeats 4000000
/-! DL13: enumerate over a tuple. -/
namespace DL
open PySem PySem.Spec PyProof.Rows L2
/-- the making, told by what the iterator is -/
theorem meets_enum1 {v : Value} {o : Obj} {H : Heap → Prop} (B : Begins v o H) :
    Meets (Builtin.«enumerate.__new__» ⟨[.type "enumerate", v], []⟩) (fun _ R s => H s.heap ∧
      R (.ok (.ret (.ref (s.heap.push o).objs.size))) { s with heap := (s.heap.push o).push { cls := .type "enumerate", data := .fields #[.none, .bool false, .ref s.heap.objs.size, rawInt 0, .none, .none] } }) :=
  .of_wp fun prog w A R s h => by
    obtain ⟨hp, g, d, tk, os⟩ := s; obtain ⟨h1, h⟩ := h
    have hsub := sub_enumerate
    have q1 : ∀ {A' : Around} {E : Value → Shared → Prop} {Q : Value → Shared → Prop}, Q (.ref hp.objs.size) ⟨hp.push o, g, d, tk, os⟩ → wpAny (model prog w) A' (pyIter v) Q E ⟨hp, g, d, tk, os⟩ :=
      fun q => B.iter prog w _ _ ⟨hp, g, d, tk, os⟩ _ h1 q
    wp_walk using q1
    refine wpAny_stack_any fun st => wpAny_pure ?_
    split
    · rename_i c _ _ _ _ _
      cases (c == Value.type "enumerate")
      · wp_walk using q1
        exact ⟨_, rfl, h⟩
      · wp_walk using q1
        exact ⟨_, rfl, h⟩
    · wp_walk using q1
      exact ⟨_, rfl, h⟩
theorem enum_begins1 {prog : Program} {w : World} {A : Around} {E : Value → Shared → Prop} {s : Shared} {v : Value} {o : Obj} {H : Heap → Prop} {Q : Value → Shared → Prop} (B : Begins v o H) (h1 : H s.heap)
    (h : ∀ h', IsEnum h' (s.heap.objs.size + 1) s.heap.objs.size 0 .none → h'.get? s.heap.objs.size = some o → h'.objs.size = s.heap.objs.size + 2 →
      (∀ b o, s.heap.get? b = some o → h'.get? b = some o) → Q (.ref (s.heap.objs.size + 1)) { s with heap := h' }) :
    wpAny (model prog w) A (call (.type "enumerate") [v]) Q E s := by
  refine callType_new F.called_enumerate (by decide) (F.typeCall_enumerate_1 _) (F.newCall_enumerate_1 _) (fun obj => F.args_object_init_2 obj _) F.entry_enumerate_new
    (meets_enum1 B) ⟨h1, ?_⟩
  have hz : (s.heap.push o).objs.size = s.heap.objs.size + 1 := Heap.size_push ..
  show _ ∧ _
  rw [hz]
  have he : IsEnum ((s.heap.push o).push { cls := .type "enumerate", data := .fields #[.none, .bool false, .ref s.heap.objs.size, rawInt 0, .none, .none] }) (s.heap.objs.size + 1) s.heap.objs.size 0 .none := by
    have q := Heap.get?_push_size (s.heap.push o) (o := { cls := .type "enumerate", data := .fields #[.none, .bool false, .ref s.heap.objs.size, rawInt 0, .none, .none] }) rfl
    rw [hz] at q; exact q
  refine ⟨⟨_, he, rfl⟩, h _ he (Heap.get?_push_of_some _ (Heap.get?_push_size _ B.free)) (by rw [Heap.size_push, hz]) fun b o x => Heap.get?_push_of_some _ (Heap.get?_push_of_some _ x)⟩
/-- the tuple at a, each item in a new pair -/
def Itet (K : PySem.W.Frag) (a : Addr) : It :=
  ⟨fun i H => ∃ (xs : List V) (x : V), SqT K H a xs ∧ xs[i]? = some x, fun i H v H' => ∃ T x, v = .ref T ∧ H T = none ∧ H' = upd H T (.tup [.int (i : Nat), x]) ∧ ∀ xs, SqT K H a xs → xs[i]? = some x, fun i H => ∃ xs : List V, SqT K H a xs ∧ xs.length ≤ i⟩
theorem turn_enumT {P : Program} {w : World} {K : PySem.W.Frag} {elts : List Expr} {kk : Nat} {tpos : Pos} (a e it : Addr) :
    Turn P w K (.Tuple elts kk tpos) (Itet K a) [e, it] e (fun i h => (∃ old, IsEnum h e it ((i : Nat) : Int) old) ∧ h.IsTupleIter it a i ∧ e ≠ it) where
  mem := by simp
  obj := fun i h st b hb => by
    obtain ⟨⟨old, he⟩, ⟨o, ho, hc, hd⟩, _⟩ := st
    have e' : b = e ∨ b = it := by simpa using hb
    rcases e' with z | z
    · rw [z]; exact ⟨_, he, fun v q => nomatch q⟩
    · rw [z]; exact ⟨o, ho, fun v q => by rw [hd] at q; cases q⟩
  keep := fun i h h' st k => let ⟨⟨old, he⟩, hi, hne⟩ := st; ⟨⟨old, k e (by simp) _ he⟩, hi.at fun o q => k it (by simp) o q, hne⟩
  item := by
    intro X hP hw hK hc i pins s σ H E I hf st hg
    subst hP hw hK
    obtain ⟨⟨old, he⟩, hit, hne⟩ := st
    obtain ⟨xs, x, hq, hx⟩ := hg
    obtain ⟨its, rv, p, hz⟩ := I.tuple hq
    obtain ⟨u, hu, ru⟩ := rv.get hx
    have hel : e < s.heap.objs.size := Heap.lt_size he
    have hil : it < s.heap.objs.size := by obtain ⟨_, q, _⟩ := hit; exact Heap.lt_size q
    have hai : a ≠ it := fun z => by
      obtain ⟨o1, q1, c1, _⟩ := p
      obtain ⟨o2, q2, c2, _⟩ := hit
      rw [z, q2] at q1
      cases q1
      rw [c1] at c2
      exact absurd c2 (by decide)
    have hae : e ≠ a := fun z => by
      obtain ⟨o1, q1, c1, _⟩ := p
      have q2 := he
      rw [z] at q2
      rw [show s.heap.get? a = _ from q2] at q1
      cases q1
      injection c1 with c1
      exact absurd c1 (by decide)
    have ilt : i < its.toArray.size := by
      have := (List.getElem?_eq_some_iff.mp hu).1
      simpa using this
    refine wpAny_pyNext_enum_itemD (Draws.tuple (A := X.A.in1) (I.ok.hd hc) it a hai its.toArray) he ⟨hit, p⟩ ilt hne (by simp [hne, hae]) fun x' h' tk hP ho hst' hT hsz hk => ?_
    obtain rfl : x' = u := by
      have q : its[i]? = some x' := by simpa using hP
      rw [hu] at q
      cases q
      rfl
    refine ⟨_, rfl, wpAny_letOwnedTupleGo_enum (s := { s with heap := h', toks := tk + 1 }) ho fun h'' he' sb => ?_⟩
    have hT2 : h''.get? s.heap.objs.size = some { cls := .type "tuple", data := .seq #[.int i tk, x'] } := (sb.2 _ (Nat.ne_of_gt hel)).trans hT
    have new : ObjOk X.prog X.w (upd H s.heap.objs.size (.tup [.int (i : Nat), x])) h'' s.heap.objs.size (.tup [.int (i : Nat), x]) :=
      ⟨by show 2 ≤ sizeLine; decide, [.int i tk, x'], .cons ⟨_, rfl⟩ (.cons ru .nil), ⟨_, hT2, rfl, _, rfl⟩⟩
    have I1 : Inv X pins σ (upd H s.heap.objs.size (.tup [.int (i : Nat), x])) { s with heap := h'', toks := tk + 1 } :=
      I.turnedNew (ch := [e, it]) (fun b ob hb q => (sb.2 b (fun z => hb (by simp [z]))).trans (hk b ob (fun z => hb (by simp [z])) (fun z => hb (by simp [z])) q)) hf (Nat.le_refl _) new
    refine ⟨.ref s.heap.objs.size, _, I1, rfl, ⟨_, x, rfl, I.hok.fresh (Nat.le_refl _), rfl, fun ys hy => by rw [I.tuple_inj hy hq]; exact hx⟩, ⟨⟨x', ?_⟩, hst'.1.at fun o q => (sb.2 it (Ne.symm hne)).trans q, hne⟩, fun b hb => ?_⟩
    · have e1 : ((i + 1 : Nat) : Int) = (i : Int) + 1 := by omega
      rw [e1]; exact he'
    · have hb' : b < s.heap.objs.size := by
        have e' : b = e ∨ b = it := by simpa using hb
        rcases e' with z | z
        · rw [z]; exact hel
        · rw [z]; exact hil
      rw [upd_ne (Nat.ne_of_lt hb')]
      exact (hf b hb).1
  done := by
    intro X hP hw hK hc i pins s σ H E I hf st hg
    subst hP hw hK
    obtain ⟨⟨old, he⟩, hit, hne⟩ := st
    obtain ⟨xs, hq, hx⟩ := hg
    obtain ⟨its, rv, p, hz⟩ := I.tuple hq
    obtain ⟨f0, f1, f2, f3, f4, f5⟩ := hf it (by simp)
    have hl := rv.length
    have hT : s.TypeIs (.ref e) "enumerate" := ⟨_, he, rfl⟩
    unfold pyNext
    refine wpAny_bind (wpAny_attempt (wpAny_callSpecial?_slot (name := Str.ofString "__next__") hT F.slot_enumerate_next
      (wpAny_call_entry F.slot_enumerate_next hT F.entry_enumerate_next ?_ (F.args_enumerate_next_1 _))))
    show wpAny _ _ (field (.ref e) 2 >>= _) _ _ _
    refine wpAny_bind (wpAny_field he rfl (x := .ref it) rfl ?_)
    refine wpAny_bind (wpAny_nextOf_tuple_end (A := X.A.in1) (I.ok.hd hc) hit p (by simp; omega) fun h' x he' hx' => ?_)
    obtain ⟨o, ho, hc⟩ := hx'
    refine wpAny_bind (wpAny_isInstance (T := "StopIteration") (b := true) ⟨o, ho, hc⟩ isSubtype_stop ?_)
    exact wpAny_pure ⟨rfl, I.turned (t' := s.toks) (fun b o hb q => he' b o hb q) f0 f1 f3 f4 f5⟩
  self := fun A i s Q E st h => let ⟨⟨_, he⟩, _⟩ := st; wpAny_pyIter_enum he h
def iEnumT (K : PySem.W.Frag) (ta : TA) : TI := fun σ H R => ta σ H fun vs H1 => ∃ a xs, vs = [.ref a] ∧ SqT K H1 a xs ∧ R (Itet K a) H1
theorem pi_enumT {X : Cx} {e : Expr} {ta : TA} {p pos tpos : Pos} {elts : List Expr} {kk : Nat} (hg : Gl X "enumerate") (hm : X.mg "enumerate" = none) (ha : PA X [e] ta) (hs : starEach [e] X.env = [(false, eval e X.env)] := by rfl) :
    PI X (.Tuple elts kk tpos) (.Call (.Name "enumerate" p) [e] [] pos) (iEnumT X.K ta) := by
  refine ⟨fun pins s σ H R I h => ?_⟩
  refine Call_ (ld_blt I hg hm boot_enumerate (PyProof.Rows.callWith_type1 (thn (ha.run pos pins s σ H _ I h) fun us s1 ⟨vs, H1, I1, r1, q1⟩ => ?_) hs rfl))
  obtain ⟨a, xs, ex, hq, q⟩ := q1
  subst ex
  cases r1 with
  | cons r rr =>
    cases rr
    cases r
    obtain ⟨its, rv, p', hz⟩ := I1.tuple hq
    refine enum_begins1 (begins_tuple a its.toArray) p' fun h' he hit hsz hk => wpAny_pyIter_enum he ?_
    have I2 : Inv X pins σ H1 { s1 with heap := h' } := I1.kept (t' := s1.toks) hk
    refine ⟨s1.heap.objs.size + 1, [s1.heap.objs.size + 1, s1.heap.objs.size], _, _, H1, rfl, I2, turn_enumT a (s1.heap.objs.size + 1) s1.heap.objs.size, ⟨⟨.none, he⟩, ⟨_, hit, rfl, rfl⟩, Nat.succ_ne_self _⟩, fun b hb => ?_, q⟩
    have e' : b = s1.heap.objs.size + 1 ∨ b = s1.heap.objs.size := by simpa using hb
    have hle : s1.heap.objs.size ≤ b := by
      rcases e' with z | z
      · rw [z]; exact Nat.le_add_right _ _
      · rw [z]; exact Nat.le_refl _
    exact I1.fpOk hle (I1.hok.fresh hle)
theorem it_enumT {K : PySem.W.Frag} {Hs : Hp} {a : Addr} {xs : List V} {ds : List D} (h1 : SqT K Hs a xs) (h2 : DpAll K Hs xs ds) : ItOk K Hs (Itet K a) (enumD ds) := fun Z' H' s live => by
  have q : SqT K H' a xs := SqT.same (s.trans hide_sub) h1
  have hl : (enumD ds).length = xs.length := by
    unfold enumD
    rw [List.length_map, List.length_zipIdx, h2.length]
  refine ⟨fun i hi => ⟨xs, xs[i]'(by rw [← hl]; exact hi), q, List.getElem?_eq_getElem _⟩, fun i hi => ⟨xs, q, by rw [← hl]; exact hi⟩, fun i x H'' d y hd => ?_⟩
  obtain ⟨T, z, rfl, nT, rfl, y⟩ := y
  have e3 := y xs q
  obtain ⟨d', e1, e2⟩ := h2.get' e3
  unfold enumD at hd
  rw [List.getElem?_map, List.getElem?_zipIdx, e1] at hd
  cases hd
  have nz : ¬ Z' T := fun z => live T z nT
  refine ⟨same_upd nT, .tup (SqT.of (hide_at nz upd_same)) (.cons ?_ (.cons ?_ .nil))⟩
  · rw [Nat.zero_add]
    exact .int _
  · exact Dp.same (s.trans (hide_mono (same_upd nT) fun _ h => .inl h)) e2
section
variable {X : Cx} {Cl : Nat → Addr} {W : WX} {e : Expr} {p pos : Pos} {g : FA}
@[simp] def iEnumX (g : FA) (ρ : Rho) : Option (Except Er (List D)) := match g ρ with
  | none => none
  | some (.error e) => some (.error e)
  | some (.ok vs) => match vs with
    | [.s (.list ds)] => some (.ok (enumD ds))
    | [.f ds] => some (.ok (enumD ds))
    | [.s (.tuple ds)] => some (.ok (enumD ds))
    | _ => none
theorem di_enumX {elts : List Expr} {kk : Nat} {tpos : Pos} (hm : X.mg "enumerate" = none) (ha : DA X Cl W [e] g) (hg : Gl X "enumerate" := by rfl) (hs : starEach [e] X.env = [(false, eval e X.env)] := by rfl) :
    DIt X Cl W (.Tuple elts kk tpos) (.Call (.Name "enumerate" p) [e] [] pos) (iEnumX g) :=
  PI.imp (DL.PI.or (pi_enum hg hm ha hs) (pi_enumT hg hm ha hs)) fun σ H R ⟨Z, ρ, r, I, e, q⟩ => by
    unfold iEnumX at e
    cases e1 : g ρ with
    | none => rw [e1] at e; cases e
    | some r1 =>
      rw [e1] at e
      cases r1 with
      | error er =>
        cases e
        exact .inl (ta_step I e1 (fun er z => by cases z; exact q) fun vs xs H1 ev s1 hvs I1 => by cases ev)
      | ok vs0 =>
        dsimp only at e
        split at e
        · rename_i ds
          cases e
          refine .inl (ta_step I e1 (fun er z => by cases z) fun vs xs H1 ev s1 hvs I1 => ?_)
          cases ev
          obtain ⟨x, rfl, h⟩ := hvs.one
          obtain ⟨a, ys, rfl, h1, h2⟩ := Dp.lst_inv (show Dp X.K (hide H1 (Zo Z σ ρ)) x (.list ds) from h)
          exact ⟨a, ys, rfl, .inl (Rd.same hide_sub h1), q _ H1 s1 (it_enum h1 h2)⟩
        · rename_i ds
          cases e
          refine .inl (ta_step I e1 (fun er z => by cases z) fun vs xs H1 ev s1 hvs I1 => ?_)
          cases ev
          obtain ⟨x, rfl, h⟩ := hvs.one
          obtain ⟨a, ys, rfl, n, h1, h2⟩ := h
          have np : ¬ Zo Z σ ρ a := fun z => I.liveZ z n
          exact ⟨a, ys, rfl, SqL.of h1, q _ H1 s1 (it_enum (Rd.of (hide_at np h1)) (DpAll.same (hide_mono (Same.refl _) fun _ h => .inl (.inl h)) h2))⟩
        · rename_i ds
          cases e
          refine .inr (ta_step I e1 (fun er z => by cases z) fun vs xs H1 ev s1 hvs I1 => ?_)
          cases ev
          obtain ⟨x, rfl, h⟩ := hvs.one
          obtain ⟨a, ys, rfl, h1, h2⟩ := Dp.tup_inv (show Dp X.K (hide H1 (Zo Z σ ρ)) x (.tuple ds) from h)
          exact ⟨a, ys, rfl, SqT.same hide_sub h1, q _ H1 s1 (it_enumT h1 h2)⟩
        · cases e
end
end DL
set_option Elab.async false
set_option linter.all false
set_option maxRecDepth 100000
set_option maxHeartbeats 4000000
/-! DL14: a caught error as the argument of a def. -/
namespace DL
open PySem PySem.Spec PyProof.Rows L2
/-- the same, wherever the error lies -/
noncomputable def anyG {α : Type} (F : Addr → Addr → Option α) : Option α := open Classical in if h : ∃ o, ∀ a dd, F a dd = some o then some (Classical.choose h) else none
theorem anyG_of {α : Type} {F : Addr → Addr → Option α} {o : α} (h : ∀ a dd, F a dd = some o) : anyG F = some o := by
  unfold anyG
  have hh : ∃ o, ∀ a dd, F a dd = some o := ⟨o, h⟩
  rw [dif_pos hh]
  have q := Classical.choose_spec hh 0 0
  rw [h 0 0] at q
  exact q.symm
theorem anyG_spec {α : Type} {F : Addr → Addr → Option α} {o : α} (h : anyG F = some o) : ∀ a dd, F a dd = some o := by
  unfold anyG at h
  split at h
  · rename_i hh
    cases h
    exact Classical.choose_spec hh
  · cases h
abbrev DFE := Nat → Int → Option DOut
def dropO : Out → Option DOut
  | .nx _ => some (.ret .none)
  | .ret d => some (.ret d)
  | .retF ds => some (.retF ds)
  | .retX ds k => some (.retX ds k)
  | .exc _ c i => some (.exc c i)
  | _ => none
/-- a def whose one parameter is an error of class c, with at = i -/
noncomputable def mkE (k : Nat) (f : Nat → Addr → Addr → FS) : DFE := fun c i => anyG fun a dd => (f c a dd (.err a dd i :: List.replicate (k - 1) .un)).bind dropO
def spE (K : PySem.W.Frag) (Cl : Nat → Addr) (base : Heap) (F : DFE) : Sp := fun vs H Q E => ∃ (Z : Addr → Prop) (a dd : Addr) (oe : Obj) (c : Nat) (i : Int) (o : DOut), (∀ b, Z b → H b ≠ none) ∧ vs = [.ref a] ∧ base.get? a = some oe ∧ Zc (.ref (Cl c)) (some dd) oe ∧ (∃ fs, oe.data = .fields fs) ∧ ErF K (Cl c) ∧ H dd = some (.xd [(("at" : Str), .int i)]) ∧ F c i = some o ∧ DOk K Cl Z H Q E o
section
variable {X : Cx} {Cl : Nat → Addr} {W : WX} {K : PySem.W.Frag} {pos : Pos}
theorem call_isXB {a D dd : Addr} {oe : Obj} (hbs : X.base.get? a = some oe) (C : ExcC X.K D) (hz : Zc (.ref D) (some dd) oe) (hf : ∃ vs, oe.data = .fields vs) : CallR X (.builtin "isinstance") (rIsX X.K D a dd) := fun pins s σ H xs us Q I r h => by
  obtain ⟨c, cv, b, fs, rfl, hcv, e, hdd, q⟩ := h
  cases r with
  | cons rx rr => cases rr with
    | cons rt rr =>
      cases rr
      cases rx
      have ec := hcv _ rt
      subst ec
      obtain ⟨hget, _⟩ := I.bs a oe hbs
      have hx : ObjOk X.prog X.w H s.heap dd (.xd fs) := I.hok dd _ hdd
      obtain ⟨mA, hns, _⟩ := hx
      obtain ⟨od, ho, _⟩ := lookIn_ns hns
      obtain ⟨vs, hd⟩ := hf
      have inst : PySem.W.InstAt s.heap a oe D (some od) := ⟨hget, hz.1, (by unfold PySem.W.notCls; rw [hd] <;> rfl), (by rw [hz.2]; exact ho)⟩
      have hcl : (PySem.W.clsIn X.K D).isSome = true := by
        have hh := C.hd
        unfold PySem.W.hasDictIn at hh
        cases z : PySem.W.clsIn X.K D with
        | none => rw [z] at hh; cases hh
        | some _ => rfl
      exact PySem.W.kia_one (PySem.W.kitx_exc hcl C.hg C.hk C.hs C.ha C.hn C.ht C.hm) I.kIn inst e (fun z => nomatch z) fun tk =>
        ⟨.bl b, H, I.kept (t' := tk) fun _ _ z => z, rfl, q⟩
theorem de_isxB {a dd C : Addr} {oe : Obj} {k : Nat} {n y x : Str} {p p1 p2 : Pos} {b : Option Bool} {v : V} {cv : Value} (hx : x = "isinstance") (hbs : X.base.get? a = some oe) (F : ErF X.K C) (hz : Zc (.ref C) (some dd) oe) (hf : ∃ vs, oe.data = .fields vs)
    (hm : X.mg x = none) (hv : PE X (.Name n p1) (tVar k)) (hy : PE X (.Name y p2) (tC v)) (hcv : ∀ u, RelV v u → u = cv) (hk : ∀ z, b = some z → PySem.W.kitOne X.K (.ref C) cv = some z) (hg : Gl X x := by rfl)
    (hs : starEach [.Name n p1, .Name y p2] X.env = (false, eval (.Name n p1) X.env) :: starEach [.Name y p2] X.env := by rfl) (hs2 : starEach [.Name y p2] X.env = (false, eval (.Name y p2) X.env) :: starEach [] X.env := by rfl) (hpl : (backTo pos (starEach [.Name y p2] X.env)).any (·.1) = false := by rfl) :
    DE X Cl W (.Call (.Name x p) [.Name n p1, .Name y p2] [] pos) (eIsX k a dd b) := by
  subst hx
  refine PE.imp (pe_callB (X := X) (call_isXB hbs F.xc hz hf) hg hm PyProof.Rows.boot_isinstance (pa_cons hv (pa_cons hy pa_nil hs2) hs) (by decide) (by decide) hs hpl) fun σ H Q ⟨Z, ρ, r, I, e, q⟩ => ?_
  unfold eIsX at e
  split at e
  · rename_i a' dd' i hd
    split at e
    · rename_i h
      obtain ⟨rfl, rfl⟩ := h
      cases b with
      | none => cases e
      | some z =>
        cases e
        obtain ⟨h1, h2⟩ := I.slots k _ hd
        exact ⟨_, h1, v, cv, z, _, rfl, hcv, hk z rfl, h2, q _ H (Same.refl _) (.bl z)⟩
    · cases e
  · cases e
theorem DI.startE {Z : Addr → Prop} {H : Hp} {a dd : Addr} {i : Int} {m : Nat} (live : ∀ b, Z b → H b ≠ none) (h : H dd = some (.xd [(("at" : Str), .int i)])) : DI K Z H (some (.ref a) :: List.replicate m none) (.err a dd i :: List.replicate m .un) := by
  have no : ∀ j b, ¬ OwnAt (some (V.ref a) :: List.replicate m none) (.err a dd i :: List.replicate m .un) j b := fun j b ho => by
    obtain ⟨s, h2, h3⟩ := ho.slot
    cases j with
    | zero => cases h2; cases h3
    | succ j =>
      rw [List.getElem?_cons_succ, List.getElem?_replicate] at h2
      split at h2
      · cases h2; cases h3
      · cases h2
  refine ⟨by simp, fun j k b h1 => absurd h1 (no j b), fun b ⟨j, z⟩ => absurd z (no j b), live, fun j s e => ?_⟩
  cases j with
  | zero => cases e; exact ⟨rfl, h⟩
  | succ j =>
    rw [List.getElem?_cons_succ, List.getElem?_replicate] at e
    split at e
    · cases e; trivial
    · cases e
theorem def_okE {P : Program} {w : World} {mg : Str → Option Value} {base : Heap} {x qual : Str} {st : Stmt} {fa : Addr} {fd : FuncData} {N : List Str} {p : Str} {k m : Nat} {fb : Nat → Addr → Addr → FS} (F : Fun K x qual st fa fd) (S : FnScope N [p] (defScope st)) (hm : N.length = m)
    (h : ∀ (a dd : Addr) (oe : Obj) (c : Nat), base.get? a = some oe → ErF K (Cl c) → Zc (.ref (Cl c)) (some dd) oe → (∃ fs, oe.data = .fields fs) → ∀ (cdv : Value) (A : Around) (outer : List Env) (s : Shared) (H : Hp) (E : XK), Room k (A.deeper (envOfC qual (defScope st) s.heap.objs.size fa cdv)) →
      DSs (cxOf (L2.CX P w) P w K mg base N qual (defScope st) fa cdv A outer s H E) Cl (fun cls d _ H' => E cls d H') (defBody st) (fb c a dd)) : FnOk P w K mg base (L2.CX P w) (k + 1) fa fd [p] (spE K Cl base (mkE m fb)) := by
  refine F.okX S (fun vs H Q E ⟨Z, a, dd, oe, c, i, o, _, e, _⟩ => by rw [e]; rfl) (fun cdv A outer s H vs Q E hr hsp => ?_)
  obtain ⟨Z, a, dd, oe, c, i, o, live, rfl, h1, h2, h3, h4, h5, e, q⟩ := hsp
  refine ⟨_, h a dd oe c h1 h4 h2 h3 cdv A outer s H E hr, ?_⟩
  have e' := anyG_spec e a dd
  have hst : L2.start N [V.ref a] = some (.ref a) :: List.replicate (m - 1) none := by
    unfold L2.start
    rw [hm]
    rfl
  rw [hst]
  cases eb : fb c a dd (.err a dd i :: List.replicate (m - 1) .un) with
  | none => rw [eb] at e'; cases e'
  | some ob =>
    rw [eb] at e'
    have I := DI.startE (K := K) (a := a) (m := m - 1) live h5
    have noO : ∀ b, Owned (some (V.ref a) :: List.replicate (m - 1) none) (.err a dd i :: List.replicate (m - 1) .un) b → H b = none := fun b ⟨j, ho⟩ => by
      obtain ⟨s, h2, h3⟩ := ho.slot
      cases j with
      | zero => cases h2; cases h3
      | succ j =>
        rw [List.getElem?_cons_succ, List.getElem?_replicate] at h2
        split at h2
        · cases h2; cases h3
        · cases h2
    refine ⟨H, Z, _, ob, ⟨I, Same.refl _, noO⟩, eb, ?_⟩
    cases ob with
    | nx ρ => cases e'; exact fun σ' H' I' => q .non H' I'.same .non
    | ret d => cases e'; exact q
    | retF es => cases e'; exact q
    | retX ds k => cases e'; exact q
    | exc ρ c i => cases e'; exact fun dd σ' H' I' hd => q dd H' I'.same hd
    | brk ρ => cases e'
    | ct ρ => cases e'
/-- a ground with one object more -/
theorem ground_with {pins : List (Addr × Obj)} {σ : St} {H : Hp} {s : Shared} {a : Addr} {oe : Obj} (I : Inv X pins σ H s) (hp : (a, oe) ∈ X.pn ++ pins) : ∃ base' : Heap, base'.get? a = some oe ∧ X.base.StaysIn base' ∧ Env0 X.prog X.w X.K X.mg base' X.A X.stack s H := by
  obtain ⟨hget, hHa, hloc, hfs, _⟩ := I.pin (a, oe) hp
  have hbs := I.bs
  obtain ⟨l, hl⟩ : ∃ l : List Addr, l = (List.range s.heap.objs.size).filter fun b => !((X.base.get? b).isSome || decide (b = a)) := ⟨_, rfl⟩
  have m1 : ∀ b, ((X.base.get? b).isSome || decide (b = a)) = true → b ∉ l := fun b hb hm => by
    rw [hl] at hm
    have z := (List.mem_filter.mp hm).2
    rw [hb] at z
    cases z
  have m2 : ∀ b, b < s.heap.objs.size → ((X.base.get? b).isSome || decide (b = a)) = false → b ∈ l := fun b h1 h2 => by
    rw [hl]
    exact List.mem_filter.mpr ⟨List.mem_range.mpr h1, by simp only [h2]; rfl⟩
  have back : ∀ b o, (PySem.W.hideAll s.heap l).get? b = some o → s.heap.get? b = some o ∧ ((X.base.get? b).isSome || decide (b = a)) = true := fun b o e => by
    have z := PySem.W.of_hideAll l e
    refine ⟨z, ?_⟩
    cases hb : ((X.base.get? b).isSome || decide (b = a)) with
    | true => rfl
    | false =>
      rw [PySem.W.hideAll_none l (m2 b (Heap.lt_size z) hb)] at e
      cases e
  have stay : X.base.StaysIn (PySem.W.hideAll s.heap l) := fun b o e => PySem.W.hideAll_get l (hbs b o e).1 (m1 b (by rw [e]; rfl))
  have apart : ∀ L ∈ frs X.stack, (PySem.W.hideAll s.heap l).get? L = none := fun L hL => by
    cases e : (PySem.W.hideAll s.heap l).get? L with
    | none => rfl
    | some o =>
      obtain ⟨e1, e2⟩ := back L o e
      obtain ⟨hn, _⟩ := I.stack.mem hL
      rw [hn] at e2
      have ea : L = a := by simpa using e2
      subst ea
      exfalso
      rcases I.ok.stk with h | ⟨h, hf⟩
      · exact hfs (by show L ∈ frs X.outer; rw [← h]; exact hL)
      · rw [h] at hL
        obtain ⟨en, men, q⟩ := List.mem_filterMap.mp hL
        rcases List.mem_cons.mp men with rfl | men
        · rw [hf] at q
          cases q
          exact hloc rfl
        · exact hfs (List.mem_filterMap.mpr ⟨en, men, q⟩)
  have E0 := I.env0
  refine ⟨PySem.W.hideAll s.heap l, PySem.W.hideAll_get l hget (m1 a (by simp)), stay, ⟨E0.frames, ?_, fun b o e => ?_, Nat.le_of_eq (PySem.W.hideAll_size _ _), funFrames_none E0.funs apart, E0.frf, E0.hok, E0.bare⟩⟩
  · obtain ⟨k1, k2, ⟨mb, k3, k4⟩, k5⟩ := E0.mod
    exact ⟨k1.keeps stay, k2.keeps stay, ⟨mb, k3.keeps stay, k4⟩, k5.keeps stay⟩
  · obtain ⟨e1, e2⟩ := back b o e
    refine ⟨e1, ?_⟩
    cases eb : X.base.get? b with
    | some o' => exact (hbs b o' eb).2
    | none =>
      rw [eb] at e2
      have ea : b = a := by simpa using e2
      rw [ea]
      exact hHa
/-- a call with the caught error -/
noncomputable def eCallE (F : DFE) (k : Nat) (a dd : Addr) (c : Nat) (ρ : Rho) : Option (Except Er Val) := match ρ[k]? with
  | some (.err a' dd' i) => if a' = a ∧ dd' = dd then match F c i with
    | some (.ret d) => some (.ok (.s d))
    | some (.retF ds) => some (.ok (.f ds))
    | _ => none else none
  | _ => none
theorem r_callEx {F : DFE} {k : Nat} {a dd : Addr} {c : Nat} {i : Int} {ρ : Rho} {d : D} (h : ρ[k]? = some (.err a dd i)) (e : F c i = some (.ret d)) : eCallE F k a dd c ρ = some (.ok (.s d)) := by
  unfold eCallE
  rw [h]
  dsimp only
  rw [if_pos ⟨rfl, rfl⟩, e]
theorem r_callExF {F : DFE} {k : Nat} {a dd : Addr} {c : Nat} {i : Int} {ρ : Rho} {ds : List D} (h : ρ[k]? = some (.err a dd i)) (e : F c i = some (.retF ds)) : eCallE F k a dd c ρ = some (.ok (.f ds)) := by
  unfold eCallE
  rw [h]
  dsimp only
  rw [if_pos ⟨rfl, rfl⟩, e]
theorem de_callE {a dd fa : Addr} {oe : Obj} {pn : List (Addr × Obj)} {k c lv : Nat} {F : DFE} {fd : FuncData} {x n q : Str} {p p1 : Pos} (hE : ErF X.K (Cl c)) (hz : Zc (.ref (Cl c)) (some dd) oe) (hf : ∃ vs, oe.data = .fields vs)
    (G : ∀ base : Heap, FnOk X.prog X.w X.K X.mg base (L2.CX X.prog X.w) lv fa fd [q] (spE X.K Cl base F)) (hr : Room lv (X.suite a ((a, oe) :: pn)).A) (hm : X.mg x = some (.ref fa)) (hk : PySem.W.keepIn X.K (.ref fa) = true) (hb : Binds X.K fd [q] [])
    (hv : PE (X.suite a ((a, oe) :: pn)) (.Name n p1) (tVar k)) (hg : Gl X x := by rfl) (hdb : (x == ("__debug__" : Str)) = false := by decide) (he : starEach [.Name n p1] X.env = (false, eval (.Name n p1) X.env) :: starEach [] X.env := by rfl) (hpl : (backTo pos (starEach [] X.env)).any (·.1) = false := by rfl) :
    DE (X.suite a ((a, oe) :: pn)) Cl W (.Call (.Name x p) [.Name n p1] [] pos) (eCallE F k a dd c) := by
  refine ⟨fun pins s σ H Q I h => ?_⟩
  obtain ⟨Z, ρ, r, J, e, q⟩ := h
  unfold eCallE at e
  split at e
  · rename_i a' dd' i hd
    split at e
    · rename_i h
      obtain ⟨rfl, rfl⟩ := h
      obtain ⟨h1, h2⟩ := J.slots k _ hd
      refine wpAny_Call_Name_kw (ld_glob I hg hm ?_ hdb)
      have args := (pa_cons hv pa_nil he).run pos pins s σ H (fun vs H1 => vs = [.ref a'] ∧ H1 = H) I ⟨_, h1, rfl, rfl⟩
      refine PySem.W.callWith_K (h₀ := (X.suite a' ((a', oe) :: pn)).base) I.ok.mod.kin hk (thn args fun us s1 ⟨vs, H1, I1, rv, ev, eH⟩ => ⟨I1.kIn, ?_⟩) he hpl
      subst ev eH
      obtain ⟨base', b1, b2, E0⟩ := ground_with I1 (List.mem_append_left _ List.mem_cons_self)
      have live : ∀ b, Zo Z σ ρ b → H1 b ≠ none := fun b z => J.liveZ z
      have hl : us.length = 1 := by rw [← rv.length]; rfl
      cases eF : F c i with
      | none => rw [eF] at e; cases e
      | some o =>
        rw [eF] at e
        have bind := hb s1 us I1.kIn (by rw [List.append_nil]; exact hl)
        rw [List.append_nil] at bind
        refine wpAny_call (codeAny_mono ((G base').run _ _ s1 H1 ⟨us, []⟩ us [.ref a'] Q (fun _ _ _ => False) hr E0 bind rv ⟨Zo Z σ ρ, a', dd', oe, c, i, o, live, rfl, b1, hz, hf, hE, h2, eF, ?_⟩) fun r s' hq => ?_)
        · cases o with
          | exc c i => cases e
          | ret d => cases e; exact fun v H' s hd => q v H' s hd
          | retF gs => cases e; exact fun p xs H' s n h2 h3 => q _ H' s ⟨p, xs, rfl, n, h2, h3⟩
          | retX gs k => cases e
        · cases r with
          | error er =>
            obtain ⟨_, _, _, _, _, _, _, _, _, _, _, _, z⟩ := hq
            exact z.elim
          | ok fl =>
            cases fl with
            | ret u => exact I1.after hq
            | next => exact False.elim hq
            | brk => exact False.elim hq
            | cont => exact False.elim hq
    · cases e
  · cases e
end
end DL
set_option Elab.async false
set_option linter.all false
set_option maxRecDepth 100000
set_option maxHeartbeats 4000000
/-! DL15: tuple(xs). -/
namespace DL
open PySem PySem.Spec PyProof.Rows L2
variable {K : PySem.W.Frag}
/-- tuple(xs) of a list: a new tuple -/
@[simp] def bTuple : List Val → Option Val
  | [v] => v.items.map fun ds => .s (.tuple ds)
  | _ => none
theorem cr_tuple : CRD K (fun xs H Q => ∃ p ys, xs = [.ref p] ∧ ((SqL K H p ys ∧ ∀ l, H l = none → Q (.ref l) (upd H l (.tup ys))) ∨ (SqT K H p ys ∧ Q (.ref p) H))) bTuple := fun Z σ ρ H0 H xs vs v Q I s hv e q => by
  unfold bTuple at e
  split at e
  · rename_i u
    obtain ⟨x, rfl, h⟩ := hv.one
    cases e1 : u.items with
    | none => rw [e1] at e; cases e
    | some ds =>
      rw [e1] at e
      cases e
      obtain ⟨p, ys, rfl, h1, h2⟩ := h.items I e1
      refine ⟨p, ys, rfl, .inl ⟨.inl h1, fun l nl => q _ _ (same_upd nl) ?_⟩⟩
      have n0 : H0 l = none := s.free nl
      have np : ¬ Zo Z σ ρ l := fun z => I.liveZ z n0
      exact Dp.tup (SqT.of (hide_at np upd_same)) (DpAll.same (hide_mono (same_upd nl) fun _ z => .inl z) h2)
  · cases e
end DL
set_option Elab.async false
set_option linter.all false
set_option maxRecDepth 100000
set_option maxHeartbeats 4000000
/-! DL16: tuples that hold a list of their own: given back, taken apart, and changed. -/
namespace DL
open PySem PySem.Spec PyProof.Rows L2
section
variable {X : Cx} {Cl : Nat → Addr} {W : WX} {K : PySem.W.Frag} {pos : Pos} {e : Expr} {es : List Expr} {g : FA}
theorem vall_get {Z : Addr → Prop} {σ : St} {ρ : Rho} {H H1 : Hp} : ∀ {xs : List V} {vs : List Val}, VAll K Z σ ρ H H1 xs vs → ∀ (k : Nat) (v : Val), vs[k]? = some v → ∃ x, xs[k]? = some x ∧ VOk K Z σ ρ H H1 x v
  | _, _, .nil, k, v, e => by simp at e
  | _, _, .cons h t, 0, v, e => by
    cases e
    exact ⟨_, rfl, h⟩
  | _, _, .cons h t, k + 1, v, e => by
    obtain ⟨x, h1, h2⟩ := vall_get t k v (by simpa using e)
    exact ⟨x, by simpa using h1, h2⟩
/-- return (.., x, ..): the item k is a list that nothing else holds -/
def fRetX (k : Nat) (g : FA) : FS := fun ρ => match g ρ with
  | none => none
  | some (.error e) => some (.exc ρ e.1 e.2)
  | some (.ok vs) => if lineOk vs.length = true then match vs[k]? with
    | some (.b _) => some (.retX (vs.map Val.d) k)
    | some (.f _) => some (.retX (vs.map Val.d) k)
    | _ => none else none
theorem ds_retX {x1} {k : Nat} {pos2 : Pos} (h : DA X Cl W es g) : DS X Cl W (.Return (some (.Tuple es x1 pos2)) pos) (fRetX k g) := PS.imp (ps_ret (pe_tup h)) fun D σ H ⟨H0, Z, ρ, o, I, e, q⟩ => by
  unfold fRetX at e
  cases e1 : g ρ with
  | none => rw [e1] at e; cases e
  | some r2 =>
    rw [e1] at e
    refine ta_step I.di e1 (fun er z => ?_) fun vs xs H1 ev s1 hvs I1 => ?_
    · subst z
      cases e
      exact OOk.err I q
    · subst ev
      dsimp only at e
      split at e
      · rename_i hl
        refine ⟨by rw [Paired.len hvs]; exact lineOk_ok hl, fun l nl => ?_⟩
        have nz : ¬ Z l := fun z => I1.live l z nl
        have t1 : SqT X.K (hide (upd H1 l (.tup xs)) Z) l xs := SqT.of (hide_at nz upd_same)
        have t2 : DpAll X.K (hide (upd H1 l (.tup xs)) Z) xs (vs.map Val.d) := DpAll.same (hide_mono (same_upd nl) fun _ h => .inl h) (hvs.dp I.di)
        have s2 : Same H0 (upd H1 l (.tup xs)) := I.same.trans (s1.trans (same_upd nl))
        cases ek : vs[k]? with
        | none => rw [ek] at e; cases e
        | some v =>
          rw [ek] at e
          obtain ⟨x, hx, hv⟩ := vall_get hvs k v ek
          cases v with
          | b zs =>
            cases e
            obtain ⟨p, ys, rfl, ho, h1, _⟩ := hv
            have np : p ≠ l := fun z => by rw [z, nl] at h1; cases h1
            exact q l p xs ys _ s2 (SqT.of (hide_at nz upd_same)) t2 hx (I.new p ho) (by rw [upd_ne np]; exact h1)
          | f zs =>
            cases e
            obtain ⟨p, ys, rfl, n, h1, _⟩ := hv
            have np : p ≠ l := fun z => by rw [z, nl] at h1; cases h1
            exact q l p xs ys _ s2 (SqT.of (hide_at nz upd_same)) t2 hx (I.same.free n) (by rw [upd_ne np]; exact h1)
          | s d => cases e
          | m d => cases e
      · cases e
theorem callX_read {F : DF} {n : Nat} {vs : List Val} {as : List D} {o : DOut} {Z : Addr → Prop} {H : Hp} {σ : St} {ρ : Rho} {Q : VK} (I : DI K Z H σ ρ) (e1 : g ρ = some (.ok vs)) (es : stAll vs = some as) (hn : as.length = n) (eF : F as = some o)
    (q : (∃ ds k, o = .retX ds k ∧ ∀ T p xs ys H', Same H H' → SqT K (hide H' (Zo Z σ ρ)) T xs → DpAll K (hide H' (Zo Z σ ρ)) xs ds → xs[k]? = some (.ref p) → H p = none → H' p = some (.lst ys) → Q (.ref T) H') ∨ ∃ c i, o = .exc c i ∧ ErOk Cl W σ H (c, i)) :
    tCallS (spD K Cl n F) (WE W) (taOf K Cl W g) σ H Q := by
  refine ta_step I e1 (fun er z => nomatch z) fun vs' xs H1 ev s1 hvs I1 => ?_
  cases ev
  refine ⟨Zo Z σ ρ, as, o, fun b z => I1.liveZ z, hvs.stab I es, hn, eF, ?_⟩
  rcases q with ⟨ds, k, rfl, q⟩ | ⟨c, i, rfl, q⟩
  · exact fun T p xs ys H' s h1 h2 h3 n h4 => q T p xs ys H' (s1.trans s) h1 h2 h3 (s1.free n) h4
  · exact fun dd H' s hd => q dd H' (s1.trans s) hd
theorem rd_lst {H : Hp} {Z : Addr → Prop} {p : Addr} {xs ys : List V} (h : Rd (hide H Z) p (.lst xs)) (h2 : H p = some (.lst ys)) : xs = ys := by
  rcases h with h | ⟨o, h⟩
  · have := (hide_of h).2
    rw [h2] at this
    cases this
    rfl
  · have := (hide_of h).2
    rw [h2] at this
    cases this
/-- b, s = f(..): b is a list of its own from then on -/
def fUnpX2 (i j : Nat) (F : DF) (n : Nat) (g : FA) : FS := fun ρ => match g ρ with
  | none => none
  | some (.error e) => some (.exc ρ e.1 e.2)
  | some (.ok vs) => match stAll vs with
    | some as => if as.length = n then match F as with
      | some (.retX [.list es, d] 0) => if (es.all scalarD && scalarD d) = true then some (.nx ((ρ.set i (.own es)).set j (.dat d))) else none
      | some (.exc c i) => some (.exc ρ c i)
      | _ => none else none
    | none => none
theorem ds_unpX2 {n k i j : Nat} {F : DF} {fa : Addr} {fd : FuncData} {ps : List Str} {x b s : Str} {p p1 p2 p3 pos0 : Pos} {kk : Nat} (hc : X.calm = true) (hN : X.N.Nodup) (G : FnOk X.prog X.w X.K X.mg X.base (L2.CX X.prog X.w) k fa fd ps (spD X.K Cl n F)) (tk : Takes X W) (hr : Room k X.A) (hm : X.mg x = some (.ref fa)) (hk : PySem.W.keepIn X.K (.ref fa) = true) (hb : Binds X.K fd ps [])
    (ha : DA X Cl W (e :: es) g) (hg : Gl X x := by rfl) (hdb : (x == ("__debug__" : Str)) = false := by decide) (he : starEach (e :: es) X.env = (false, eval e X.env) :: starEach es X.env := by rfl) (hpl : (backTo pos0 (starEach es X.env)).any (·.1) = false := by rfl)
    (hi : X.N[i]? = some b := by rfl) (hx : Loc X.env.scope b := by first | exact .inl rfl | exact .inr rfl) (hf : X.fn b = true ∨ X.env.scope.names.lookup b = some .local := by first | exact .inl rfl | exact .inr rfl)
    (hj : X.N[j]? = some s := by rfl) (hxj : Loc X.env.scope s := by first | exact .inl rfl | exact .inr rfl) (hfj : X.fn s = true ∨ X.env.scope.names.lookup s = some .local := by first | exact .inl rfl | exact .inr rfl)
    (hs1 : (assignEach [.Name b p1, .Name s p2] X.env).map (·.2) = assign (.Name b p1) X.env :: (assignEach [.Name s p2] X.env).map (·.2) := by rfl) (hs2 : (assignEach [.Name s p2] X.env).map (·.2) = assign (.Name s p2) X.env :: (assignEach [] X.env).map (·.2) := by rfl)
    (hn : (assignEach [.Name b p1, .Name s p2] X.env).length = 2 := by rfl) (hst : (assignEach [.Name b p1, .Name s p2] X.env).findIdx? (·.1) = none := by rfl)
    (hsw : swapsWithSole [.Tuple [.Name b p1, .Name s p2] kk p3] (.Call (.Name x p) (e :: es) [] pos0) pos.line X.env = pure false := by rfl) (hw : swappedStores [.Tuple [.Name b p1, .Name s p2] kk p3] (.Call (.Name x p) (e :: es) [] pos0) X.env = pure none := by rfl)
    (h1 : (assignEach [.Tuple [.Name b p1, .Name s p2] kk p3] X.env).map (·.2) = [assign (.Tuple [.Name b p1, .Name s p2] kk p3) X.env] := by rfl) :
    DS X Cl W (.Assign [.Tuple [.Name b p1, .Name s p2] kk p3] (.Call (.Name x p) (e :: es) [] pos0) pos) (fUnpX2 i j F n g) :=
  PS.imp (ps_asg (pe_callS (E := WE W) G hr hg hm hk hb (fun σ => passAt tk σ) ha hdb he hpl) (pg_tup hc (pgs_cons (pg_name hN hi hx hf) (pgs_cons (pg_name hN hj hxj hfj) pgs_nil hs2) hs1) hn hst) hsw hw h1) fun D σ H ⟨H0, Z, ρ, o, I, e, q⟩ => by
  unfold fUnpX2 at e
  cases e1 : g ρ with
  | none => rw [e1] at e; cases e
  | some r1 =>
    rw [e1] at e
    cases r1 with
    | error er =>
      cases e
      exact ta_step I.di e1 (fun er z => by cases z; exact OOk.err I q) fun vs xs H1 ev s1 hvs I1 => by cases ev
    | ok vs =>
      dsimp only at e
      split at e
      · rename_i as hst
        split at e
        · rename_i hl
          split at e
          · rename_i es d eF
            split at e
            · rename_i hsc
              cases e
              rw [Bool.and_eq_true] at hsc
              refine callX_read I.di e1 hst hl eF (.inl ⟨_, _, rfl, fun T p xs ys H' s h1 h2 h3 np h4 => ?_⟩)
              refine ⟨T, xs, rfl, SqT.same hide_sub h1, by rw [h2.length]; rfl, ?_⟩
              cases h2 with
              | cons ha' ht =>
                cases ht with
                | cons hb' ht' =>
                  cases ht'
                  cases h3
                  refine ⟨_, _, rfl, _, _, rfl, rfl, ?_⟩
                  obtain ⟨a, zs, ea, r1, r2⟩ := Dp.lst_inv ha'
                  cases ea
                  have ez := rd_lst r1 h4
                  subst ez
                  exact q _ _ ((I.setOwn s np h4 (DpAll.scalar hsc.1 r2)).setDat (Dp.scalar hsc.2 hb'))
            · cases e
          · rename_i c i eF
            cases e
            exact callX_read I.di e1 hst hl eF (.inr ⟨_, _, rfl, OOk.err (e := (c, i)) I q⟩)
          · cases e
        · cases e
      · cases e
/-- x = f(..); if c: return ..; x[k].append(E); rest: x's list is its own -/
def fTri (i : Nat) (F : DF) (n : Nat) (g : FA) (c : FT) (a : FS) (k : Nat) (E : FE) (rest : FS) : FS := fun ρ => match g ρ with
  | none => none
  | some (.error e) => some (.exc ρ e.1 e.2)
  | some (.ok vs) => match stAll vs with
    | some as => if as.length = n then match F as with
      | some (.retX ds k') => if k' = k then match c (ρ.set i (.dat (.tuple ds))) with
        | some (.ok true) => match a (ρ.set i (.dat (.tuple ds))) with
          | some (.ret d) => some (.ret d)
          | _ => none
        | some (.ok false) => match ds[k]?, E (ρ.set i (.dat (.tuple ds))) with
          | some (.list es), some (.ok v) => if (lineOk (es.length + 1) && decide (i < ρ.length)) = true then rest (ρ.set i .un) else none
          | _, _ => none
        | _ => none else none
      | some (.exc c i) => some (.exc ρ c i)
      | _ => none else none
    | none => none
theorem dss_tri {n k i kx : Nat} {F : DF} {fa : Addr} {fd : FuncData} {ps : List Str} {x y : Str} {p p1 pos0 pos2 pos3 : Pos} {cnd app : Expr} {sa srest : List Stmt} {c : FT} {a rest : FS} {E : FE} (hN : X.N.Nodup) (G : FnOk X.prog X.w X.K X.mg X.base (L2.CX X.prog X.w) k fa fd ps (spD X.K Cl n F)) (tk : Takes X W) (hr : Room k X.A) (hm : X.mg x = some (.ref fa)) (hk : PySem.W.keepIn X.K (.ref fa) = true) (hb : Binds X.K fd ps [])
    (ha : DA X Cl W (e :: es) g) (hcnd : DT X Cl W cnd c) (hsa : DSs X Cl W sa a) (hp : PE X app (tBM X.K "list" rAppend (tOp (rIxT X.K) (tVar i) (tC (.int (kx : Nat)))) (tCons (teOf X.K Cl W E) tNil))) (hrest : DSs X Cl W srest rest)
    (hg : Gl X x := by rfl) (hdb : (x == ("__debug__" : Str)) = false := by decide) (he : starEach (e :: es) X.env = (false, eval e X.env) :: starEach es X.env := by rfl) (hpl : (backTo pos0 (starEach es X.env)).any (·.1) = false := by rfl)
    (hi : X.N[i]? = some y := by rfl) (hx : Loc X.env.scope y := by first | exact .inl rfl | exact .inr rfl) (hf : X.fn y = true ∨ X.env.scope.names.lookup y = some .local := by first | exact .inl rfl | exact .inr rfl)
    (hs : swapsWith (.Call (.Name x p) (e :: es) [] pos0) (some (.Name y p1)) pos.line X.env = pure false := by rfl) (hs3 : swapsWith app none pos3.line X.env = pure false := by rfl) :
    DSs X Cl W (.Assign [.Name y p1] (.Call (.Name x p) (e :: es) [] pos0) pos :: .If cnd sa [] pos2 :: .Expr app pos3 :: srest) (fTri i F n g c a kx E rest) :=
  PSs.imp (pss_cons (ps_set hN hi hx (pe_callS (E := WE W) G hr hg hm hk hb (fun σ => passAt tk σ) ha hdb he hpl) hs hf) (pss_cons (ps_if hcnd hsa pss_nil) (pss_cons (ps_expr hp hs3) hrest))) fun D σ H ⟨H0, Z, ρ, o, I, e, q⟩ => by
  unfold fTri at e
  cases e1 : g ρ with
  | none => rw [e1] at e; cases e
  | some r1 =>
    rw [e1] at e
    cases r1 with
    | error er =>
      cases e
      exact ta_step I.di e1 (fun er z => by cases z; exact OOk.err I q) fun vs xs H1 ev s1 hvs I1 => by cases ev
    | ok vs =>
      dsimp only at e
      split at e
      · rename_i as hst
        split at e
        · rename_i hl
          split at e
          · rename_i ds k' eF
            split at e
            · rename_i ek
              subst ek
              refine callX_read I.di e1 hst hl eF (.inl ⟨_, _, rfl, fun T p xs ys H1 s1 h1 h2 h3 np h4 => ?_⟩)
              have I1 : SI X.K H0 Z H1 (σ.set i (some (.ref T))) (ρ.set i (.dat (.tuple ds))) := (I.same' s1).setDat (.tup h1 h2)
              cases ec : c (ρ.set i (.dat (.tuple ds))) with
              | none => rw [ec] at e; cases e
              | some rc =>
                rw [ec] at e
                refine tt_step I1.di ec (fun er z => ?_) fun b H2 ev s2 I2 => ?_
                · subst z
                  cases e
                · subst ev
                  cases b with
                  | true =>
                    rw [if_pos rfl]
                    dsimp only at e
                    cases ea : a (ρ.set i (.dat (.tuple ds))) with
                    | none => rw [ea] at e; cases e
                    | some oa =>
                      rw [ea] at e
                      cases oa with
                      | ret d =>
                        cases e
                        exact ⟨H0, Z, _, .ret d, I1.same' s2, ea, q⟩
                      | nx _ => cases e
                      | retF _ => cases e
                      | retX _ _ => cases e
                      | brk _ => cases e
                      | ct _ => cases e
                      | exc _ _ _ => cases e
                  | false =>
                    rw [if_neg Bool.false_ne_true]
                    dsimp only at e
                    split at e
                    · rename_i es v ed eE
                      split at e
                      · rename_i hline
                        rw [Bool.and_eq_true] at hline
                        have hil : i < σ.length := by
                          rw [← I.di.len]
                          exact of_decide_eq_true hline.2
                        have q1 : (σ.set i (some (V.ref T)))[i]? = some (some (.ref T)) := by rw [List.getElem?_set, if_pos rfl, if_pos hil]
                        have hT : SqT X.K H2 T xs := SqT.same s2.d (SqT.same hide_sub h1)
                        have hat : atI xs ((k' : Nat) : Int) = some (.ref p) := by
                          have hlt := (List.getElem?_eq_some_iff.mp h3).1
                          unfold atI ixN
                          rw [if_pos (Int.natCast_nonneg _), if_pos (by omega), Int.toNat_natCast]
                          exact h3
                        have hlen : ys.length = es.length := by
                          obtain ⟨u, hu, hd⟩ := h2.get ed
                          rw [h3] at hu
                          cases hu
                          obtain ⟨_, zs, ea, r1, r2⟩ := Dp.lst_inv hd
                          cases ea
                          rw [← rd_lst r1 h4, r2.length]
                        have I2' : SI X.K H0 Z H2 (σ.set i (some (.ref T))) (ρ.set i (.dat (.tuple ds))) := I1.same' s2
                        refine ⟨_, q1, T, xs, ((k' : Nat) : Int), .ref p, rfl, rfl, hT, hat, .inl ⟨rfl, ys, .inl (.inl (s2.at h4))⟩, te_step I2'.di eE (fun er z => nomatch z) fun v' y H3 ev s3 hv I3 => ?_⟩
                        refine ⟨p, ys, y, rfl, rfl, s3.at (s2.at h4), by have := lineOk_ok hline.1; omega, ?_⟩
                        have s4 : Same H (upd H3 p (.lst (ys ++ [y]))) := (s1.trans (s2.trans s3)).over np (s3.at (s2.at h4))
                        exact ⟨H0, Z, ρ.set i .un, o, (I.same' s4).setUn, e, q⟩
                      · cases e
                    · cases e
            · cases e
          · rename_i c i eF
            cases e
            exact callX_read I.di e1 hst hl eF (.inr ⟨_, _, rfl, OOk.err (e := (c, i)) I q⟩)
          · cases e
        · cases e
      · cases e
end
end DL
set_option Elab.async false
set_option linter.all false
set_option maxRecDepth 100000
set_option maxHeartbeats 4000000
/-! DL17: tuples, one behind the other. -/
namespace DL
open PySem PySem.Spec PyProof.Rows L2
section
variable {X : Cx} {Cl : Nat → Addr} {W : WX} {K : PySem.W.Frag} {pos : Pos} {a b : Expr} {fa fb : FE}
@[simp] def gCatT (a b : Val) : Option Val := match a, b with
  | .s (.tuple xs), .s (.tuple ys) => if (!xs.isEmpty && !ys.isEmpty && lineOk (xs.length + ys.length)) = true then some (.s (.tuple (xs ++ ys))) else none
  | _, _ => none
theorem r2_catT : R2D K (rCatT K) gCatT := fun Z σ ρ H0 H x y a b v Q I s ha hb e q => by
  unfold gCatT at e
  split at e
  · rename_i xs ys
    split at e
    · rename_i hl
      cases e
      simp only [Bool.and_eq_true, Bool.not_eq_true'] at hl
      obtain ⟨p, us, rfl, h1, h2⟩ := Dp.tup_inv (show Dp K (hide H (Zo Z σ ρ)) x (.tuple xs) from ha)
      obtain ⟨r, ws, rfl, h3, h4⟩ := Dp.tup_inv (show Dp K (hide H (Zo Z σ ρ)) y (.tuple ys) from hb)
      have n1 : us ≠ [] := fun z => by
        have := h2.length
        rw [z] at this
        have e0 : xs = [] := List.length_eq_zero_iff.mp this.symm
        rw [e0] at hl
        exact absurd hl.1.1 (by simp)
      have n2 : ws ≠ [] := fun z => by
        have := h4.length
        rw [z] at this
        have e0 : ys = [] := List.length_eq_zero_iff.mp this.symm
        rw [e0] at hl
        exact absurd hl.1.2 (by simp)
      refine ⟨p, r, us, ws, rfl, rfl, SqT.same hide_sub h1, SqT.same hide_sub h3, n1, by rw [h2.length, h4.length]; exact lineOk_ok hl.2, fun z => absurd z n2, fun _ l nl => q _ _ (same_upd nl) ?_⟩
      have n0 : H0 l = none := s.free nl
      have nz : ¬ Zo Z σ ρ l := fun z => I.liveZ z n0
      exact .tup (SqT.of (hide_at nz upd_same)) (DpAll.same (hide_mono (same_upd nl) fun _ z => .inl z) (h2.append h4))
    · cases e
  · cases e
@[simp] def gAddT (a b : Val) : Option Val := (gAdd a b).or (gCatT a b)
theorem de_addT (ha : DE X Cl W a fa) (hb : DE X Cl W b fb) : DE X Cl W (.BinOp a .Add b pos) (e2 gAddT fa fb) := de_op ((op_add.or op_catR).or op_catT) (((r2_I fun i j _ => .int _).or r2_cat).or r2_catT) ha hb
end
end DL
set_option Elab.async false
set_option linter.all false
set_option maxRecDepth 100000
set_option maxHeartbeats 4000000
/-! DL19: a < b < c; a tuple of names as the target of a comprehension. -/
namespace DL
open PySem PySem.Spec PyProof.Rows L2
section
variable {X : Cx} {Cl : Nat → Addr} {W : WX} {K : PySem.W.Frag} {pos : Pos} {a b c : Expr} {fa fb fc : FE}
/-! ### two comparisons -/
def eChain (g g' : Val → Val → Option Val) (fa fb fc : FE) : FE := bE fa fun x => bE fb fun y ρ => match g x y with
  | some v => match v.d with
    | .bool true => bE fc (fun z _ => (g' y z).map .ok) ρ
    | .bool false => ok (.bool false)
    | _ => none
  | none => none
theorem chain_read {r r' : R2} {g g' : Val → Val → Option Val} (hr : R2D X.K r g) (hr' : R2D X.K r' g') {σ : L2.St} {H : Hp} {Q : VK} (h : teOf X.K Cl W (eChain g g' fa fb fc) σ H Q) : tChain r r' (teOf X.K Cl W fa) (teOf X.K Cl W fb) (teOf X.K Cl W fc) σ H Q := by
  obtain ⟨Z, ρ, r1, I, e, q⟩ := h
  unfold eChain at e
  refine te_bind I e q fun v x H1 _ h1 s1 hv I1 q1 => te_bind I1 h1 q1 fun u y H2 _ h2 s2 hu I2 q2 => ?_
  cases hg : g v u with
  | none => rw [hg] at h2; cases h2
  | some w =>
    rw [hg] at h2
    dsimp only at h2
    refine hr Z σ ρ H H2 x y v u w _ I (s1.trans s2) (hv.same s2) (hu.back s1) hg fun z H3 s3 hz => ?_
    have I3 := I2.same s3
    have q3 := q2.from s3
    split at h2
    · rename_i ew
      refine ⟨true, (hz.bl_inv I ew), ?_⟩
      rw [if_pos rfl]
      refine te_bind I3 h2 q3 fun t y' H4 _ h4 s4 ht I4 q4 => ?_
      cases hg' : g' u t with
      | none => rw [hg'] at h4; cases h4
      | some w' =>
        rw [hg'] at h4
        cases h4
        exact hr' Z σ ρ H H4 y y' u t w' Q I (s1.trans (s2.trans (s3.trans s4))) ((hu.back s1).same (s3.trans s4)) (ht.back (s1.trans (s2.trans s3))) hg' fun z' H' s' hz' => q z' H' (s1.trans (s2.trans (s3.trans (s4.trans s')))) hz'
    · rename_i ew
      cases h2
      refine ⟨false, (hz.bl_inv I ew), ?_⟩
      rw [if_neg Bool.false_ne_true]
      exact q3 _ H3 (Same.refl _) (.bl _)
    · cases h2
theorem de_chain {op op' : CmpOp} {r r' : R2} {g g' : Val → Val → Option Val} (ho : OpR X (compareOp op) r) (hr : R2D X.K r g) (ho' : OpR X (compareOp op') r') (hr' : R2D X.K r' g') (ha : DE X Cl W a fa) (hb : DE X Cl W b fb) (hc : DE X Cl W c fc) (hm : lastMarks [op, op'] [b, c] = false := by with_unfolding_all rfl) :
    DE X Cl W (.Compare a [op, op'] [b, c] pos) (eChain g g' fa fb fc) := PE.imp (pe_chain ho ho' ha hb hc hm) fun σ H Q h => chain_read hr hr' h
theorem dt_chain {op op' : CmpOp} {r r' : R2} {g g' : Val → Val → Option Val} (ho : OpR X (compareOp op) r) (hr : R2D X.K r g) (ho' : OpR X (compareOp op') r') (hr' : R2D X.K r' g') (ha : DE X Cl W a fa) (hb : DE X Cl W b fb) (hc : DE X Cl W c fc) (hm : lastMarks [op, op'] [b, c] = false := by with_unfolding_all rfl) :
    DT X Cl W (.Compare a [op, op'] [b, c] pos) (tV (eChain g g' fa fb fc)) := PT.imp (pt_chain ho ho' ha hb hc hm) fun σ H Q ⟨Z, ρ, r1, I, e, q⟩ => chain_read hr hr' (te_tV I e q)
/-! ### a tuple of names -/
def setAll : List Nat → List D → Rho → Rho
  | i :: is, d :: ds, ρ => setAll is ds (ρ.set i (.dat d))
  | _, _, ρ => ρ
def stT (is : List Nat) : Rho → D → Option Rho := fun ρ d => match d with
  | .tuple ds => if ds.length = is.length then some (setAll is ds ρ) else none
  | _ => none
def gNames : List Nat → TGs
  | [] => gNil
  | i :: is => gCons (gName i) (gNames is)
theorem wipe_set {i : Nat} {x : Option V} : ∀ {σ : L2.St} {vs : List Nat}, i ∈ vs → wipe (σ.set i x) vs = wipe σ vs
  | σ, v :: vs, m => by
    have out : ∀ {ws : List Nat}, i ∉ ws → wipe (σ.set i x) ws = (wipe σ ws).set i x := fun {ws} h => by
      induction ws with
      | nil => rfl
      | cons w ws ih =>
        unfold wipe
        rw [ih fun z => h (List.mem_cons_of_mem _ z), List.set_comm _ _ fun z => h (by rw [z]; exact List.mem_cons_self)]
    unfold wipe
    by_cases hm : i ∈ vs
    · rw [wipe_set hm]
    · have e : i = v := (List.mem_cons.mp m).resolve_right hm
      subst e
      rw [out hm, List.set_set]
theorem wipe_wipe (σ : L2.St) (vs : List Nat) : wipe (wipe σ vs) vs = wipe σ vs := by
  have go : ∀ ws : List Nat, (∀ w ∈ ws, w ∈ vs) → wipe (wipe σ ws) vs = wipe σ vs := fun ws => by
    induction ws with
    | nil => exact fun _ => rfl
    | cons w ws ih =>
      intro h
      show wipe ((wipe σ ws).set w none) vs = _
      rw [wipe_set (h w List.mem_cons_self)]
      exact ih fun z hz => h z (List.mem_cons_of_mem _ hz)
  exact go vs fun _ h => h
theorem names_go {vs : List Nat} {Z : Addr → Prop} {σ0 : L2.St} {H : Hp} {Q : L2.St → Hp → Prop} {S : (Addr → Prop) → Prop} : ∀ (is : List Nat) (ds : List D) (xs : List V) (σ : L2.St) (ρ : Rho), (∀ i ∈ is, i ∈ vs) → (∀ i ∈ vs, ∀ s, ρ[i]? = some s → ¬ s.owns) → ds.length = is.length →
    DI K Z H σ ρ → DpAll K (hide H (Zo Z σ ρ)) xs ds → wipe σ vs = wipe σ0 vs →
    (∀ σ', wipe σ' vs = wipe σ0 vs → DI K Z H σ' (setAll is ds ρ) → SameD (hide H (Zo Z σ ρ)) (hide H (Zo Z σ' (setAll is ds ρ))) → (∀ b, Zo Z σ ρ b → Zo Z σ' (setAll is ds ρ) b) → Q σ' H) → gNames is xs σ H Q
  | [], [], xs, σ, ρ, _, _, _, I, h, w, q => by
    cases h
    exact ⟨rfl, q σ w I (SameD.refl _) fun _ z => z⟩
  | i :: is, d :: ds, xs, σ, ρ, hi, hn, hl, I, h, w, q => by
    cases h with
    | @cons v vr _ _ a b =>
      refine ⟨v, vr, rfl, ?_⟩
      have ni := hn i (hi i List.mem_cons_self)
      refine names_go (S := S) is ds vr (σ.set i (some v)) (ρ.set i (.dat d)) (fun j hj => hi j (List.mem_cons_of_mem _ hj)) (fun j hj es e => ?_) (by simpa using hl) (I.setDat a) (DpAll.same zo_dat b) ((wipe_set (hi i List.mem_cons_self)).trans w) fun σ' w' I' s' z' => ?_
      · by_cases hij : i = j
        · subst hij
          rw [List.getElem?_set, if_pos rfl] at e
          split at e
          · cases e
            exact fun z => nomatch z
          · cases e
        · rw [List.getElem?_set_ne hij] at e
          exact hn j hj es e
      · exact q σ' w' I' (zo_dat.trans s') fun b hb => z' b (zo_dat' ni b hb)
theorem lctT {vs is : List Nat} (hi : ∀ i ∈ is, i ∈ vs) : LcT K vs (gTup K is.length (gNames is)) (stT is) := ⟨fun Z σ ρ ρ' H v d Q B hd e q => by
  unfold stT at e
  split at e
  · rename_i ds
    split at e
    · rename_i hl
      cases e
      obtain ⟨a, xs, rfl, h1, h2⟩ := hd.tup_inv
      refine ⟨a, xs, rfl, SqT.same hide_sub h1, by rw [h2.length]; exact hl, ?_⟩
      exact names_go (S := fun _ => True) (σ0 := σ) is ds xs (wipe σ vs) (wipeR ρ vs) hi (fun i m => wipeR_no m) hl B h2 (wipe_wipe σ vs) q
    · cases e
  · cases e⟩
end
end DL
set_option Elab.async false
set_option linter.all false
set_option maxRecDepth 100000
set_option maxHeartbeats 4000000
/-! DL20: ord, text.join. -/
namespace DL
open PySem PySem.Spec PyProof.Rows L2
section
variable {X : Cx} {Cl : Nat → Addr} {W : WX} {K : PySem.W.Frag} {pos apos : Pos} {o e : Expr} {fo fe : FE}
@[simp] def bOrd : List Val → Option Val
  | [v] => match v.d with
    | .str x => if x.length = 1 then some (.s (.int (x.cps.getD 0 0 : Nat))) else none
    | _ => none
  | _ => none
theorem cr_ord : CRD K (fun xs H Q => ∃ x : Str, xs = [.str x] ∧ x.length = 1 ∧ Q (.int (x.cps.getD 0 0 : Nat)) H) bOrd := fun Z σ ρ H0 H xs vs v Q I s hv e q => by
  unfold bOrd at e
  split at e
  · rename_i u
    obtain ⟨x, rfl, h⟩ := hv.one
    split at e
    · rename_i t e1
      split at e
      · rename_i hl
        cases e
        exact ⟨t, by rw [h.str_inv I e1], hl, q _ H (Same.refl _) (.int _)⟩
      · cases e
    · cases e
  · cases e
/-- a list of texts -/
def strsOf : List D → Option (List Str)
  | [] => some []
  | .str x :: r => (strsOf r).map (x :: ·)
  | _ => none
theorem strsOf_map : ∀ {ds : List D} {ys : List Str}, strsOf ds = some ys → ds = ys.map PyData.str
  | [], ys, e => by cases e; rfl
  | .str x :: r, ys, e => by
    unfold strsOf at e
    cases h : strsOf r with
    | none => rw [h] at e; cases e
    | some zs =>
      rw [h] at e
      cases e
      rw [strsOf_map h]
      rfl
theorem strsOf_of : ∀ ys : List Str, strsOf (ys.map PyData.str) = some ys
  | [] => rfl
  | y :: ys => by
    show (strsOf (ys.map PyData.str)).map (y :: ·) = _
    rw [strsOf_of ys]
    rfl
def gJoin (u v : Val) : Option Val := match u.d, v.d with
  | .str a, .list ds => match strsOf ds with
    | some ys => if lineOk ((ys.map (·.length)).sum + ys.length * a.length) = true then some (.s (.str (Txt.join a ys))) else none
    | none => none
  | _, _ => none
theorem de_join {a : Str} (ho : DE X Cl W o (eC (.str a))) (he : DE X Cl W e fe) (hs : starEach [e] X.env = [(false, eval e X.env)] := by rfl) (hbase : attributeBase o "join" X.env (eval o X.env) = eval o X.env := by rfl) (hline : (apos.endLine == pos.line) = true := by rfl) :
    DE X Cl W (.Call (.Attribute o "join" apos) [e] [] pos) (e2 gJoin (eC (.str a)) fe) := PE.imp (pe_join ho he hs hbase hline) fun σ H Q ⟨Z, ρ, r1, I, e, q⟩ => by
  refine te_bind I e q fun v x H1 h0 h1 s1 hv I1 q1 => ?_
  have ev : v.d = .str a := by
    cases h0
    rfl
  have ex : ∃ a, x = .str a := ⟨a, hv.str_inv I ev⟩
  refine ⟨ex, te_bind I1 h1 q1 fun u y H2 _ h2 s2 hu I2 q2 => ?_⟩
  unfold gJoin at h2
  split at h2
  · rename_i a ds ea ed
    cases es : strsOf ds with
    | none => rw [es] at h2; cases h2
    | some ys =>
      rw [es] at h2
      dsimp only at h2
      split at h2
      · rename_i hl
        cases h2
        have hd := hu.dp I1
        rw [ed, strsOf_map es] at hd
        obtain ⟨p, xs, rfl, hr, hx⟩ := hd.lst_inv
        rw [DpAll.strs hx] at hr
        exact ⟨a, p, ys, hv.str_inv I ea, rfl, .inl (.inl (Rd.same hide_sub hr)), lineOk_ok hl, q2 _ H2 (Same.refl _) (.str _)⟩
      · cases h2
  · cases h2
end
end DL
set_option Elab.async false
set_option linter.all false
set_option maxRecDepth 100000
set_option maxHeartbeats 4000000
/-! DL21: is True, is not False. -/
namespace DL
open PySem PySem.Spec PyProof.Rows L2
section
variable {K : PySem.W.Frag}
@[simp] def gIsB (a b : Val) : Option Val := match a.d, b.d with
  | .bool x, .bool y => some (.s (.bool (decide (x = y))))
  | _, _ => none
@[simp] def gNotB (a b : Val) : Option Val := match a.d, b.d with
  | .bool x, .bool y => some (.s (.bool (!decide (x = y))))
  | _, _ => none
theorem r2_isB : R2D K rIsB gIsB := fun Z σ ρ H0 H x y a b v Q I s ha hb e q => by
  unfold gIsB at e
  split at e
  · rename_i i j e1 e2
    cases e
    exact ⟨i, j, ha.bl_inv I e1, hb.bl_inv I e2, q _ H (Same.refl _) (.bl _)⟩
  · cases e
theorem r2_notB : R2D K rNotB gNotB := fun Z σ ρ H0 H x y a b v Q I s ha hb e q => by
  unfold gNotB at e
  split at e
  · rename_i i j e1 e2
    cases e
    exact ⟨i, j, ha.bl_inv I e1, hb.bl_inv I e2, q _ H (Same.refl _) (.bl _)⟩
  · cases e
end
end DL
set_option Elab.async false
set_option linter.all false
set_option maxRecDepth 100000
set_option maxHeartbeats 4000000
/-! DL22: ranges that go down, zip of two lists, in over data. -/
namespace DL
open PySem PySem.Spec PyProof.Rows L2
theorem VAll.three {K : PySem.W.Frag} {Z : Addr → Prop} {σ : St} {ρ : Rho} {H0 H1 : Hp} {xs : List V} {v u w : Val} (h : VAll K Z σ ρ H0 H1 xs [v, u, w]) : ∃ x y z, xs = [x, y, z] ∧ VOk K Z σ ρ H0 H1 x v ∧ VOk K Z σ ρ H0 H1 y u ∧ VOk K Z σ ρ H0 H1 z w := by
  cases h with
  | cons h t =>
    cases t with
    | cons h2 t2 =>
      cases t2 with
      | cons h3 t3 => cases t3; exact ⟨_, _, _, rfl, h, h2, h3⟩
section
variable {X : Cx} {Cl : Nat → Addr} {W : WX} {e tg : Expr} {es : List Expr} {f : FE} {g : FA} {p pos : Pos} {K : PySem.W.Frag}
/-- lo, lo - 1, .. -/
def downD (lo : Int) (n : Nat) : List D := (List.range n).map fun (i : Nat) => .int (lo - (i : Int))
theorem it_down {Hs : Hp} {lo : Int} {n : Nat} : ItOk K Hs (Itc lo (-1) n) (downD lo n) := fun Z' H' s _ => by
  refine ⟨fun i hi => (by simpa [downD] using hi : i < n), fun i hi => (by simpa [downD] using hi : n ≤ i), fun i v H'' d y hd => ?_⟩
  obtain ⟨rfl, rfl⟩ := y
  refine ⟨Same.refl _, ?_⟩
  unfold downD at hd
  rw [List.getElem?_map] at hd
  cases e : (List.range n)[i]? with
  | none => rw [e] at hd; cases hd
  | some j =>
    rw [e] at hd
    obtain ⟨hi, e1⟩ := List.getElem?_eq_some_iff.mp e
    rw [List.getElem_range] at e1
    subst e1
    cases hd
    have e2 : lo + (i : Int) * -1 = lo - (i : Int) := by omega
    rw [e2]
    exact .int _
@[simp] def iRange3 (g : FA) (ρ : Rho) : Option (Except Er (List D)) := match g ρ with
  | none => none
  | some (.error e) => some (.error e)
  | some (.ok vs) => match vs with
    | [v, u, w] => match v.d, u.d, w.d with
      | .int i, .int j, .int k => if (cRng i && (cRng j && k == -1)) = true then some (.ok (downD i (i - j).toNat)) else none
      | _, _, _ => none
    | _ => none
theorem di_range3 {a b c : Expr} (hm : X.mg "range" = none) (ha : DA X Cl W [a, b, c] g) (hg : Gl X "range" := by rfl) (hs : starEach [a, b, c] X.env = (false, eval a X.env) :: starEach [b, c] X.env := by rfl) (hpl : (backTo pos (starEach [b, c] X.env)).any (·.1) = false := by rfl) :
    DIt X Cl W tg (.Call (.Name "range" p) [a, b, c] [] pos) (iRange3 g) :=
  PI.imp (pi_range3 hg hm ha hs hpl) fun σ H R ⟨Z, ρ, r, I, e, q⟩ => by
    unfold iRange3 at e
    cases e1 : g ρ with
    | none => rw [e1] at e; cases e
    | some r1 =>
      rw [e1] at e
      refine ta_step I e1 (fun er z => ?_) fun vs xs H1 ev s1 hvs I1 => ?_
      · subst z
        cases e
        exact q
      · subst ev
        dsimp only at e
        split at e
        · rename_i v u w
          obtain ⟨x, y, z, rfl, h, h', h''⟩ := hvs.three
          split at e
          · rename_i i j k ei ej ek
            split at e
            · rename_i hc
              cases e
              obtain ⟨c1, c2⟩ := Bool.and_eq_true_iff.mp hc
              obtain ⟨c2, c3⟩ := Bool.and_eq_true_iff.mp c2
              obtain ⟨h1, h2⟩ := cRng_ok c1
              obtain ⟨h3, h4⟩ := cRng_ok c2
              have ek' : k = -1 := by simpa using c3
              subst ek'
              exact ⟨i, j, -1, (i - j).toNat, by rw [h.int_inv I ei, h'.int_inv I ej, h''.int_inv I ek], RgC.neg h1 h2 h3 h4, q _ H1 s1 it_down⟩
            · cases e
          · cases e
        · cases e
/-! ### zip -/
def zipD (ds es : List D) : List D := (ds.zip es).map fun p => .tuple [p.1, p.2]
theorem it_zip {Hs : Hp} {a b : Addr} {xs ys : List V} {ds es : List D} (h1 : Rd Hs a (.lst xs)) (h2 : DpAll K Hs xs ds) (h3 : Rd Hs b (.lst ys)) (h4 : DpAll K Hs ys es) : ItOk K Hs (Itz K a b) (zipD ds es) := fun Z' H' s live => by
  have q : SqL K H' a xs := .inl (Rd.same (s.trans hide_sub) h1)
  have r : SqL K H' b ys := .inl (Rd.same (s.trans hide_sub) h3)
  have hl : (zipD ds es).length = min xs.length ys.length := by
    unfold zipD
    rw [List.length_map, List.length_zip, h2.length, h4.length]
  refine ⟨fun i hi => ?_, fun i hi => ?_, fun i x H'' d y hd => ?_⟩
  · rw [hl] at hi
    exact ⟨xs, ys, xs[i]'(by omega), ys[i]'(by omega), q, r, List.getElem?_eq_getElem _, List.getElem?_eq_getElem _⟩
  · rw [hl] at hi
    exact ⟨xs, ys, q, r, by omega⟩
  · obtain ⟨T, z, w, rfl, nT, rfl, y1, y2⟩ := y
    have e3 := y1 xs q
    have e4 := y2 ys r
    obtain ⟨d', e1, e2⟩ := h2.get' e3
    obtain ⟨c', f1, f2⟩ := h4.get' e4
    unfold zipD at hd
    rw [List.getElem?_map] at hd
    have ez : (ds.zip es)[i]? = some (d', c') := by
      rw [List.getElem?_zip_eq_some]
      exact ⟨e1, f1⟩
    rw [ez] at hd
    cases hd
    have nz : ¬ Z' T := fun z => live T z nT
    refine ⟨same_upd nT, .tup (SqT.of (hide_at nz upd_same)) (.cons ?_ (.cons ?_ .nil))⟩
    · exact Dp.same (s.trans (hide_mono (same_upd nT) fun _ h => .inl h)) e2
    · exact Dp.same (s.trans (hide_mono (same_upd nT) fun _ h => .inl h)) f2
/-- the items of a list that stays or is new -/
@[simp] def lstOf : Val → Option (List D)
  | .s (.list ds) => some ds
  | .f ds => some ds
  | _ => none
theorem VOk.lst {Z : Addr → Prop} {σ : St} {ρ : Rho} {H H1 : Hp} {x : V} {v : Val} {ds : List D} (I : DI K Z H σ ρ) (h : VOk K Z σ ρ H H1 x v) (e : lstOf v = some ds) : ∃ a xs, x = .ref a ∧ Rd (hide H1 (Zo Z σ ρ)) a (.lst xs) ∧ DpAll K (hide H1 (Zo Z σ ρ)) xs ds := by
  unfold lstOf at e
  split at e
  · cases e
    obtain ⟨a, xs, rfl, h1, h2⟩ := Dp.lst_inv (show Dp K (hide H1 (Zo Z σ ρ)) x (.list ds) from h)
    exact ⟨a, xs, rfl, h1, h2⟩
  · cases e
    obtain ⟨a, xs, rfl, n, h1, h2⟩ := h
    have np : ¬ Zo Z σ ρ a := fun z => I.liveZ z n
    have sm : SameD (hide H1 (ZP (Zo Z σ ρ) a)) (hide H1 (Zo Z σ ρ)) := hide_mono (Same.refl _) fun _ h => .inl (.inl h)
    exact ⟨a, xs, rfl, Rd.of (hide_at np h1), DpAll.same sm h2⟩
  · cases e
@[simp] def iZipD (g : FA) (ρ : Rho) : Option (Except Er (List D)) := match g ρ with
  | none => none
  | some (.error e) => some (.error e)
  | some (.ok vs) => match vs with
    | [v, u] => match lstOf v, lstOf u with
      | some ds, some es => some (.ok (zipD ds es))
      | _, _ => none
    | _ => none
theorem di_zip {a b : Expr} {elts : List Expr} {kk : Nat} {tpos : Pos} (hm : X.mg "zip" = none) (ha : DA X Cl W [a, b] g) (hg : Gl X "zip" := by rfl)
    (hs : starEach [a, b] X.env = (false, eval a X.env) :: starEach [b] X.env := by rfl) (hpl : (backTo pos (starEach [b] X.env)).any (·.1) = false := by rfl) :
    DIt X Cl W (.Tuple elts kk tpos) (.Call (.Name "zip" p) [a, b] [] pos) (iZipD g) :=
  PI.imp (pi_zip hg hm ha hs hpl) fun σ H R ⟨Z, ρ, r, I, e, q⟩ => by
    unfold iZipD at e
    cases e1 : g ρ with
    | none => rw [e1] at e; cases e
    | some r1 =>
      rw [e1] at e
      refine ta_step I e1 (fun er z => ?_) fun vs xs H1 ev s1 hvs I1 => ?_
      · subst z
        cases e
        exact q
      · subst ev
        dsimp only at e
        split at e
        · rename_i v u
          obtain ⟨x, y, rfl, h, h'⟩ := hvs.two
          split at e
          · rename_i ds es el er
            cases e
            obtain ⟨a1, xs, rfl, r1, r2⟩ := h.lst I el
            obtain ⟨b1, ys, rfl, r3, r4⟩ := h'.lst I er
            exact ⟨a1, b1, xs, ys, rfl, .inl (Rd.same hide_sub r1), .inl (Rd.same hide_sub r3), q _ H1 s1 (it_zip r1 r2 r3 r4)⟩
          · cases e
        · cases e
/-! ### in, over data -/
theorem Room.units65 {k : Nat} {A : Around} (r : Room k A) : A.units + 65 < cLine := by have := r.un; omega
@[simp] def gInD (a b : Val) : Option Val := match b.d with
  | .list ds => if (SeqAt.shaped a.d && SeqAt.shaped (.list ds)) = true then some (.s (.bool (ds.any fun z => PyData.eqv z a.d))) else none
  | _ => none
@[simp] def gNotInD (a b : Val) : Option Val := match b.d with
  | .list ds => if (SeqAt.shaped a.d && SeqAt.shaped (.list ds)) = true then some (.s (.bool (!ds.any fun z => PyData.eqv z a.d))) else none
  | _ => none
theorem r2_inD : R2D K (rInD K) gInD := fun Z σ ρ H0 H x y a b v Q I s ha hb e q => by
  unfold gInD at e
  split at e
  · rename_i ds hd
    split at e
    · rename_i sh
      cases e
      obtain ⟨s1, s2⟩ := Bool.and_eq_true_iff.mp sh
      have h2 := (Dp.same hide_sub (hb.dp I))
      rw [hd] at h2
      exact ⟨a.d, ds, (Dp.same hide_sub (ha.dp I)).up (SeqAt.canLay_of_shaped s1), h2.up (SeqAt.canLay_of_shaped s2), s1, s2, q _ H (Same.refl _) (.bl _)⟩
    · cases e
  · cases e
theorem r2_notInD : R2D K (rNotInD K) gNotInD := fun Z σ ρ H0 H x y a b v Q I s ha hb e q => by
  unfold gNotInD at e
  split at e
  · rename_i ds hd
    split at e
    · rename_i sh
      cases e
      obtain ⟨s1, s2⟩ := Bool.and_eq_true_iff.mp sh
      have h2 := (Dp.same hide_sub (hb.dp I))
      rw [hd] at h2
      exact ⟨a.d, ds, (Dp.same hide_sub (ha.dp I)).up (SeqAt.canLay_of_shaped s1), h2.up (SeqAt.canLay_of_shaped s2), s1, s2, q _ H (Same.refl _) (.bl _)⟩
    · cases e
  · cases e
end
end DL
set_option Elab.async false
set_option linter.all false
set_option maxRecDepth 100000
set_option maxHeartbeats 4000000
/-! DL23: sorted and comparisons over data. -/
namespace DL
open PySem PySem.Spec PyProof.Rows L2
section
variable {X : Cx} {Cl : Nat → Addr} {W : WX} {K : PySem.W.Frag}
/-! ### sorted -/
def sortD (ds : List D) : List D := ds.mergeSort (PySem.W.dataLe false id)
structure SortOk (ds : List D) : Prop where
  al : PySem.W.AllAlike ds
  so : PySem.W.Sortable ds
  dp : ∀ d ∈ ds, PyData.depth d ≤ 50
  ln : ds.length ≤ 16777216
  ly : PyData.canLayAll0 ds = true
def rSortD (K : PySem.W.Frag) : List V → Hp → VK → Prop := fun vs H Q => ∃ (a : Addr) (xs : List V) (ds : List D), vs = [V.ref a] ∧ SqL K H a xs ∧ DpAll K H xs ds ∧ SortOk ds ∧
  ∀ (ys : List V) (p : Addr), (∀ H', (∀ x d, (x, d) ∈ xs.zip ds → Dp K H' x d) → DpAll K H' ys (sortD ds)) → ys.length = ds.length → H p = none → Q (.ref p) (upd H p (.lst ys))
theorem canLay_mem : ∀ {ds : List D}, PyData.canLayAll0 ds = true → ∀ d ∈ ds, PyData.canLay0 d = true
  | [], _, d, h => nomatch h
  | e :: ds, h, d, hd => by
    have h' : (PyData.canLay0 e && PyData.canLayAll0 ds) = true := h
    rw [Bool.and_eq_true] at h'
    rcases List.mem_cons.mp hd with rfl | hd
    · exact h'.1
    · exact canLay_mem h'.2 d hd
theorem DpAll.zip : ∀ {H : Hp} {xs : List V} {ds : List D}, DpAll K H xs ds → ∀ x d, (x, d) ∈ xs.zip ds → Dp K H x d
  | _, _, _, .nil, x, d, h => nomatch h
  | _, _, _, .cons h t, x, d, hm => by
    rcases List.mem_cons.mp hm with e | hm
    · cases e
      exact h
    · exact t.zip x d hm
theorem DpAll.unzip : ∀ {H : Hp} (bs : List (V × D)), (∀ b ∈ bs, Dp K H b.1 b.2) → DpAll K H (bs.map (·.1)) (bs.map (·.2))
  | _, [], _ => .nil
  | _, b :: bs, h => .cons (h b List.mem_cons_self) (DpAll.unzip bs fun c hc => h c (List.mem_cons_of_mem _ hc))
theorem zip_snd : ∀ {xs : List V} {ds : List D}, xs.length = ds.length → (xs.zip ds).map (·.2) = ds
  | [], [], _ => rfl
  | x :: xs, d :: ds, h => by
    rw [List.zip_cons_cons, List.map_cons, zip_snd (by simpa using h)]
  | [], _ :: _, h => by simp at h
  | _ :: _, [], h => by simp at h
theorem each_of : ∀ {xs : List V} {ds : List D} {us : List Value} {R : Value → V × D → Prop}, Vals xs us → xs.length = ds.length → (∀ u x d, RelV x u → (x, d) ∈ xs.zip ds → R u (x, d)) → PySem.W.EachIs R us (xs.zip ds)
  | [], [], _, R, .nil, _, _ => .nil
  | x :: xs, d :: ds, _, R, .cons r rr, hl, h => .cons (h _ _ _ r List.mem_cons_self) (each_of rr (by simpa using hl) fun u y e ry hm => h u y e ry (List.mem_cons_of_mem _ hm))
  | [], _ :: _, _, _, _, h, _ => by simp at h
  | _ :: _, [], _, _, _, h, _ => by simp at h
theorem each_vals : ∀ {bs : List (V × D)} {us : List Value}, PySem.W.EachIs (fun u b => RelV b.1 u) us bs → Vals (bs.map (·.1)) us
  | _, _, .nil => .nil
  | _, _, .cons h t => .cons h (each_vals t)
theorem cr_sortD (hr : Room 0 X.A) : CallR X (.builtin "sorted") (rSortD X.K) := by
  intro pins s σ H vs us Q I r h
  obtain ⟨a, xs, ds, rfl, hs, hd, so, q⟩ := h
  obtain ⟨its, rv, hl, hz⟩ := I.list hs
  rw [Vals.ref1 r]
  have hlen := hd.length
  have hu := hr.un
  have ez := zip_snd hlen
  have bsl : (xs.zip ds).length = ds.length := by
    rw [List.length_zip]
    omega
  refine PySem.W.sorted_data (β := V × D) (enc := fun b => b.2) (R := fun u b => RelV b.1 u) (bs := xs.zip ds) hl.isList (each_of rv hlen fun u x d rx _ => rx) (each_of rv hlen fun u x d rx hm => Dp.reads I d x u ((hd.zip x d hm).up (canLay_mem so.ly d (List.of_mem_zip hm).2)) rx) (by rw [ez]; exact so.al) (by rw [ez]; exact so.so) (by rw [bsl]; have := so.ln; rw [sizeLine_eq]; exact this) (fun b hb => by
    have := so.dp b.2 (List.of_mem_zip (show (b.1, b.2) ∈ xs.zip ds from hb)).2
    omega) fun out ho eo => ?_
  obtain ⟨ep, he'⟩ := PyProof.Rows.sortedAll_at s.heap its out.toArray
  generalize hys : (xs.zip ds).mergeSort (PySem.W.dataLe false fun b => b.2) = bs at eo
  have hvs := each_vals eo
  have bl : bs.length = ds.length := by
    rw [← hys, List.length_mergeSort, bsl]
  have hds : bs.map (·.2) = sortD ds := by
    unfold sortD
    rw [← hys]
    have q := List.map_mergeSort (f := fun b : V × D => b.2) (r := PySem.W.dataLe false fun b : V × D => b.2) (s := PySem.W.dataLe false id) (l := xs.zip ds) (fun a _ b _ => rfl)
    rw [ez] at q
    exact q
  have hlen2 : (bs.map (·.1)).length ≤ sizeLine := by
    rw [List.length_map, bl, sizeLine_eq]
    exact so.ln
  refine ⟨.ref _, upd H (s.heap.objs.size + 1) (.lst (bs.map (·.1))), I.laid (t' := s.toks) (fun _ _ => PyProof.Rows.sortedAll_old) (Nat.le_succ _) ⟨hlen2, out, ep, hvs, he'⟩, rfl, q (bs.map (·.1)) _ (fun H' hz => ?_) (by rw [List.length_map, bl]) (I.hok.fresh (Nat.le_succ _))⟩
  rw [← hds]
  refine DpAll.unzip bs fun b hb => hz b.1 b.2 ?_
  rw [← hys] at hb
  exact List.mem_mergeSort.mp hb
open Classical in
noncomputable def bSort : List Val → Option Val
  | [v] => match v.items with
    | some ds => if SortOk ds then some (.f (sortD ds)) else none
    | none => none
  | _ => none
theorem crd_sort : CRD K (rSortD K) bSort := fun Z σ ρ H0 H xs vs v Q I s hv e q => by
  unfold bSort at e
  split at e
  · rename_i u
    obtain ⟨x, rfl, h⟩ := hv.one
    cases e1 : u.items with
    | none => rw [e1] at e; cases e
    | some ds =>
      rw [e1] at e
      dsimp only at e
      split at e
      · rename_i so
        cases e
        obtain ⟨p, ys, rfl, h1, h2⟩ := h.items I e1
        refine ⟨p, ys, ds, rfl, .inl h1, DpAll.same hide_sub h2, so, fun zs l hz _ nl => q _ _ (same_upd nl) (VOk.new s nl (hz _ (DpAll.zip h2)))⟩
      · cases e
  · cases e
end
end DL
set_option Elab.async false
set_option linter.all false
set_option maxRecDepth 100000
set_option maxHeartbeats 4000000
/-! DL24: a def that runs where no text of a list is under way (so that repr of data may be asked), and the end for it. -/
namespace DL
open PySem PySem.Spec PyProof.Rows L2
section
variable {P : Program} {w : World} {K : PySem.W.Frag} {mg : Str → Option Value} {base : Heap}
/-- as FnOk, where no guard stands -/
def FnG (P : Program) (w : World) (K : PySem.W.Frag) (mg : Str → Option Value) (base : Heap) (CX : CXT) (k : Nat) (f : Addr) (fd : FuncData) (ps : List Str) (sp : Sp) : Prop :=
  ∀ (A : Around) (o : List Env) (s : Shared) (H : Hp) (ar : Args) (us : List Value) (vs : List V) (Q : VK) (E : XK), Room k A → A.guards = some [] → Env0 P w K mg base A o s H →
    BindsTo s fd ar (ps.zip us) → Vals vs us → sp vs H Q E → codeAny (model P w) A (.call (.ref f) ar) (CR CX o P w H s Q E) s
/-- a def's promise from its body -/
theorem fnG_of {CX : CXT} {k : Nat} {f : Addr} {nm qual : Str} {pars : Arguments} {bd : List Stmt} {sc : Scope} {v1 v2 v3 v4 cd v5 v6 : Value} {a1 a2 : Option Addr} {ar : Array (Option Value)} {N ps : List Str} {sp : Sp}
    (look : K.lookup f = some ⟨v6, a2, .func (PySem.W.fnOf nm qual pars bd sc v1 v2 v3 v4 a1 cd v5), ar⟩) (code : PySem.W.codeIn K cd qual = true) (S : FnScope N ps sc)
    (size : ∀ vs H Q E, sp vs H Q E → vs.length = ps.length)
    (main : ∀ (A : Around) (o : List Env) (s : Shared) (H : Hp) (vs : List V) (Q : VK) (E : XK), Room k (A.deeper (envOfC qual sc s.heap.objs.size f cd)) → A.guards = some [] → sp vs H Q E →
      ∃ t, PSs (cxOf CX P w K mg base N qual sc f cd A o s H E) bd t ∧ t { nx := fun _ H' => Q .non H', rt := Q } (start N vs) H) :
    FnG P w K mg base CX (k + 1) f (PySem.W.fnOf nm qual pars bd sc v1 v2 v3 v4 a1 cd v5) ps sp := fun A o s H ar us vs Q E room gd env bnd rel prom => by
  have kin : K.In s.heap := env.mod.kin.keeps fun b ob e => (env.bs b ob e).1
  have nol : s.heap.NoLimit := env.mod.nolimit.keeps fun b ob e => (env.bs b ob e).1
  have kinds : ∀ y ∈ ps.zip us, sc.names.lookup y.1 = some .local ∨ (sc.names.lookup y.1 = some .cell ∧ ((cellsFrom (s.heap.objs.size + 1) sc.names []).lookup y.1).isSome = true) := by
    rintro ⟨n, v⟩ hy
    cases S.par n (List.of_mem_zip hy).1 with
    | inl q => exact .inl q
    | inr q => exact .inr ⟨q, PySem.W.cellsFrom_some _ _ _ (.inl q)⟩
  refine codeAny_call_function room.depth (kin _ _ look) rfl S.co S.gen rfl (PySem.W.codeRec_of kin code) (bnd _ _ _ _ (wpAny_newFunctionEnv_cells S.kind kinds fun en he s1 x => ?_))
  subst he
  obtain ⟨t, ht, hq⟩ := main A o s H vs Q E (room.deeper _) gd prom
  have I := inv_start (CX := CX) (E := E) S room.hd env (size _ _ _ _ prom) rel x
  refine ⟨nol.keeps x.toInCall.keep, codeAny_func (wpAny_mono (ht.run [] s1 (start N vs) H _ I hq) (fun fl s' hs => ?_) fun e s' hs => hs)⟩
  cases fl with
  | brk => exact hs.choose_spec.choose_spec.2.elim
  | cont => exact hs.choose_spec.choose_spec.2.elim
  | next =>
    obtain ⟨σ', H', J, q⟩ := hs
    exact ⟨.non, H', J.os, J.bare, J.base, J.hok, rfl, q⟩
  | ret u =>
    obtain ⟨v, σ', H', J, rv, q⟩ := hs
    exact ⟨v, H', J.os, J.bare, J.base, J.hok, rv, q⟩
theorem fnG_fun {x qual : Str} {st : Stmt} {f : Addr} {fd : FuncData} {N ps : List Str} {k : Nat} {sp : Sp} (F : Fun K x qual st f fd) (S : FnScope N ps (defScope st)) (size : ∀ vs H Q E, sp vs H Q E → vs.length = ps.length)
    (main : ∀ (cdv : Value) (A : Around) (o : List Env) (s : Shared) (H : Hp) (vs : List V) (Q : VK) (E : XK), Room k (A.deeper (envOfC qual (defScope st) s.heap.objs.size f cdv)) → A.guards = some [] → sp vs H Q E →
      ∃ t, PSs (cxOf (L2.CX P w) P w K mg base N qual (defScope st) f cdv A o s H E) (defBody st) t ∧ t { nx := fun _ H' => Q .non H', rt := Q } (start N vs) H) : FnG P w K mg base (L2.CX P w) (k + 1) f fd ps sp := by
  obtain ⟨_, _, _, _, _, _, cdv, _, _, e, lk, hcd⟩ := F.ex
  subst e
  exact fnG_of lk hcd S size fun A o s H vs Q E r g p => main cdv A o s H vs Q E r g p
/-- the promise of the law's def, at the heap behind the top -/
theorem callG {CX : CXT} {k : Nat} {fa a : Addr} {fd : FuncData} {x : Str} {sp : Sp} {s1 : Shared} {vals : List Value} {ns : List Int} {mb : Str → Option Value}
    (kin : K.In s1.heap) (top : s1.heap.Ns mainGlobals mg) (bns : s1.heap.Ns builtinsNs mb) (bis : ∀ x : Str, x ≠ "__name__" → mb x = bootBuiltins x) (nol : s1.heap.NoLimit) (gens : s1.gens = #[])
    (obj : s1.heap.get? a = some { cls := .type "list", data := .seq vals.toArray }) (isI : IntsAre vals ns) (len : ns.length ≤ sizeLine) (room : Room k callerA)
    (F : ∀ base : Heap, K.In base → base.Ns mainGlobals mg → FnG P w K mg base CX k fa fd [x] sp) (bnd : ∀ (s : Shared) (u : Value), BindsTo s fd ⟨[u], []⟩ [(x, u)])
    (prom : ∀ H : Hp, Only H → SqL K H a (ns.map V.int) → sp [.ref a] H (fun v _ => v = .bl true) fun _ _ _ => False)
    (noX : ∀ H e s', CX [] H s1 (fun _ _ _ => False) e s' → False) :
    codeAny (model P w) callerA (.call (.ref fa) ⟨[.ref a], []⟩) (fun r s' => r = .ok (.ret (.bool true)) ∧ OldK s1.heap s'.heap ∧ s'.os = s1.os ∧ AllBare s'.gens) s1 := by
  -- what may be tracked at the start is the script alone
  have from_ : ∀ H : Hp, Only H → SqL K H a (ns.map V.int) → L2.HOk P w H s1.heap → (∀ b, b ≠ a → H b = none) → (K.lookup a ≠ none → H a = none) →
      codeAny (model P w) callerA (.call (.ref fa) ⟨[.ref a], []⟩) (fun r s' => r = .ok (.ret (.bool true)) ∧ OldK s1.heap s'.heap ∧ s'.os = s1.os ∧ AllBare s'.gens) s1 := by
    intro H only sq ok away known
    have low : ∀ {b : Addr} {ob : Obj}, s1.heap.get? b = some ob → H b = none → (hidT s1.heap H).get? b = some ob := hidT_get
    have dict : ∀ {b : Addr} {ob : Obj} {es : Array DictEntry} {ep : Nat}, s1.heap.get? b = some ob → ob.data = .dict es ep → H b = none := by
      intro b ob es ep e d
      by_cases z : b = a
      · subst z
        rw [obj] at e
        cases e
        exact absurd d (by simp)
      · exact away b z
    have names : ∀ {b : Addr} {m : Str → Option Value}, s1.heap.Ns b m → (hidT s1.heap H).Ns b m := by
      rintro b m ⟨ob, es, ep, e, d, r⟩
      exact ⟨ob, es, ep, low e (dict e d), d, r⟩
    have kinL : K.In (hidT s1.heap H) := fun b ob e => low (kin b ob e) (by
      by_cases z : b = a
      · subst z
        exact known (by rw [e]; simp)
      · exact away b z)
    obtain ⟨mc, l1, l2⟩ := nol
    have md : Mod K mg (hidT s1.heap H) := ⟨kinL, names top, ⟨mb, names bns, bis⟩, ⟨mc, names l1, l2⟩⟩
    have env : Env0 P w K mg (hidT s1.heap H) callerA [] s1 H := ⟨rfl, md, fun _ _ e => of_hidT e, Nat.le_of_eq (hidT_size _ _), trivial, fun b hb => (by cases hb), ok, .of_eq gens⟩
    refine codeAny_mono (F _ kinL (names top) callerA [] s1 H ⟨[.ref a], []⟩ [.ref a] [.ref a] _ _ room rfl env (bnd s1 (.ref a)) (.cons rfl .nil) (prom H only sq)) fun r s' h => ?_
    match r, h with
    | .error e, h => exact (noX H e s' h).elim
    | .ok .next, h => exact False.elim h
    | .ok .brk, h => exact False.elim h
    | .ok .cont, h => exact False.elim h
    | .ok (.ret u), h =>
      obtain ⟨v, H', os, bare, un, ok', rel, q⟩ := h
      have q' : v = .bl true := q
      subst q'
      obtain rfl : u = Value.bool true := rel
      refine ⟨rfl, OldK.of_keep fun b ob e => ?_, os, bare⟩
      rcases only b with z | ⟨o2, xs, z⟩
      · exact un.keep b ob e z (fun m => by cases m) (by simp)
      · obtain ⟨e1, _⟩ := ok b _ z
        obtain ⟨e2, _⟩ := ok' b _ (un.frzs b o2 _ z)
        rw [e] at e1
        cases e1
        exact e2
  have vi := vals_ints isI
  cases hk : K.lookup a with
  | some ob =>
    have e := kin a ob hk
    rw [obj] at e
    cases e
    exact from_ (fun _ => none) (fun _ => .inl rfl) (.inr ⟨_, vals.toArray, _, hk, rfl, rfl, rfl, by rw [List.size_toArray, isI.length]; exact len, by simpa using vi⟩) (fun b u z => nomatch (show (none : Option HO) = some u from z)) (fun _ _ => rfl) fun _ => rfl
  | none =>
    refine from_ (fun b => if b = a then some (.frz { cls := .type "list", data := .seq vals.toArray } (.lst (ns.map V.int))) else none) (fun b => ?_) (.inl (.inr ⟨{ cls := .type "list", data := .seq vals.toArray }, if_pos rfl⟩)) (fun b u z => ?_) (fun b eqb => if_neg eqb) fun h => absurd hk h
    · by_cases eqb : b = a
      · exact .inr ⟨_, _, if_pos eqb⟩
      · exact .inl (if_neg eqb)
    · by_cases eqb : b = a
      · subst eqb
        have z' := (if_pos rfl).symm.trans z
        cases z'
        exact ⟨obj, by rw [List.length_map]; exact len, vals, _, vi, obj⟩
      · exact absurd ((if_neg eqb).symm.trans z) (by simp)
end
/-- the goal that k_head leaves, from FnG of the law's def -/
theorem walk_G {l : PySem.W.OpenLaw} {n k : Nat} {q : Program} {loose : List Str} {XP : (Str → Option Value) → Heap → Prop} {YP : World → Heap → Prop} {d : DefRec} {K : Params → PySem.W.Frag} {CX : World → CXT} {sp : World → Sp} {x : Str}
    (h1 : l.most = some n) (h2 : n ≤ sizeLine) (h3 : d.params.defaults = []) (h4 : Room k callerA) (h5 : ∀ (w : World) (h : Heap), YP w h → (K w.params).In h)
    (F : ∀ (w : World) (mg : Str → Option Value) (fa : Addr) (h : Heap), (K w.params).In h → h.Ns mainGlobals mg → mg d.name = some (.ref fa) →
      ∃ fd : FuncData, (∀ (s : Shared) (u : Value), BindsTo s fd ⟨[u], []⟩ [(x, u)]) ∧ ∀ base : Heap, (K w.params).In base → base.Ns mainGlobals mg → FnG l.prog w (K w.params) mg base (CX w) k fa fd [x] (sp w))
    (h6 : ∀ (w : World) (H : Hp) (a : Addr) (ns : List Int), ns.length ≤ n → Only H → SqL (K w.params) H a (ns.map V.int) → sp w [.ref a] H (fun v _ => v = .bl true) fun _ _ _ => False)
    (h7 : ∀ (w : World) (H : Hp) (s : Shared) (e : Value) (s' : Shared), CX w [] H s (fun _ _ _ => False) e s' → False) : PySem.W.WalkO q loose XP YP l.row.toRowW d [] (fun f vs => PySem.call f vs) :=
  Att.attach_call h1 h3 fun w _ s1 mg mb fa _ _ _ _ a vals ns G Y _ _ _ hmg obj isI len gens => by
    obtain ⟨fd, hb, hF⟩ := F w mg fa _ (h5 w _ Y) G.T.g hmg
    exact callG (h5 w _ Y) G.T.g G.T.b G.T.builtins G.T.nolimit gens obj isI (Nat.le_trans len h2) h4 hF hb (fun H only sq => h6 w H a ns len only sq) fun H e s' => h7 w H s1 e s'
end DL
set_option Elab.async false
set_option linter.all false
set_option maxRecDepth 100000
set_option maxHeartbeats 4000000
/-! DL25: repr of data, where no guard stands. -/
namespace DL
open PySem PySem.Spec PyProof.Rows L2
structure ReprOk (d : D) : Prop where
  ly : PyData.canLay0 d = true
  sh : PyData.showable d = true
  ln : (PyData.shown d).length ≤ 16777216
  dp : PyData.depth d ≤ 50
section
variable {X : Cx} {K : PySem.W.Frag}
def rReprD (K : PySem.W.Frag) : List V → Hp → VK → Prop := fun vs H Q => ∃ (a : Addr) (d : D), vs = [V.ref a] ∧ Dp K H (.ref a) d ∧ ReprOk d ∧ Q (.str (PyData.shown d)) H
theorem cr_reprD (gd : X.A.guards = some []) (hr : Room 0 X.A) : CallR X (.builtin "repr") (rReprD X.K) := by
  intro pins s σ H vs us Q I r h
  obtain ⟨a, d, rfl, hd, ok, q⟩ := h
  rw [Vals.ref1 r]
  obtain ⟨as, rd⟩ := Dp.reads I d (.ref a) (.ref a) (hd.up ok.ly) rfl
  have hu := hr.un
  have hdp := ok.dp
  exact repr_of_reads' rd ok.sh (PyData.noDict_hsm (PyData.hasDict_of_canLay d ok.ly)) gd (by omega) (fun _ _ e => e) (fun h' u tk hk => ⟨.str _, H, I.kept hk, ⟨u, rfl⟩, q⟩) (by rw [sizeLine_eq]; exact ok.ln)
@[simp] def seqK : D → Bool
  | .list _ => true
  | .tuple _ => true
  | _ => false
open Classical in
noncomputable def bRepr : List Val → Option Val
  | [v] => if seqK v.d = true ∧ ReprOk v.d then some (.s (.str (PyData.shown v.d))) else none
  | _ => none
theorem crd_repr : CRD K (rReprD K) bRepr := fun Z σ ρ H0 H xs vs v Q I s hv e q => by
  unfold bRepr at e
  split at e
  · rename_i u
    obtain ⟨x, rfl, h⟩ := hv.one
    split at e
    · rename_i ok
      cases e
      have hd := Dp.same hide_sub (h.dp I)
      have hx : ∃ a, x = .ref a := by
        have k := ok.1
        generalize u.d = d at hd k
        cases hd with
        | lst _ _ => exact ⟨_, rfl⟩
        | tup _ _ => exact ⟨_, rfl⟩
        | _ => cases k
      obtain ⟨a, rfl⟩ := hx
      exact ⟨a, u.d, rfl, hd, ok.2, q _ H (Same.refl _) (.str _)⟩
    · cases e
  · cases e
end
/-! ### the law's def -/
section
variable {P : Program} {w : World} {K : PySem.W.Frag} {mg : Str → Option Value} {base : Heap} {Cl : Nat → Addr}
theorem FnG.imp {CX : CXT} {k : Nat} {f : Addr} {fd : FuncData} {ps : List Str} {sp sp' : Sp} (F : FnG P w K mg base CX k f fd ps sp) (h : ∀ vs H Q E, sp' vs H Q E → sp vs H Q E) : FnG P w K mg base CX k f fd ps sp' :=
  fun A o s H ar us vs Q E r g e b v p => F A o s H ar us vs Q E r g e b v (h _ _ _ _ p)
theorem def_start {X : Cx} {N : List Str} {n m : Nat} {fb : FS} {bd : List Stmt} {vs : List V} {H : Hp} {Q : VK} {E : XK} (eK : X.K = K) (hm : N.length = m) (h : DSs X Cl (fun cls d _ H' => E cls d H') bd fb) (sp : spD K Cl n (mkD n m fb) vs H Q E) :
    ∃ t, PSs X bd t ∧ t { nx := fun _ H' => Q .non H', rt := Q } (L2.start N vs) H := by
  subst eK
  refine ⟨_, h, ?_⟩
  obtain ⟨Z, ds, o, live, h1, h2, e, q⟩ := sp
  unfold mkD at e
  have hst : L2.start N vs = vs.map some ++ List.replicate (m - n) none := by
    unfold L2.start
    rw [hm, h1.length, h2]
  rw [hst]
  cases eb : fb (ds.map .dat ++ List.replicate (m - n) .un) with
  | none => rw [eb] at e; cases e
  | some ob =>
    rw [eb] at e
    have I := DI.start (m := m - n) live h1
    have noO : ∀ a, Owned (vs.map some ++ List.replicate (m - n) none) (ds.map .dat ++ List.replicate (m - n) .un) a → H a = none := fun a ⟨i, ho⟩ => (no_dat ho).elim
    refine ⟨H, Z, _, ob, ⟨I, Same.refl _, noO⟩, eb, ?_⟩
    cases ob with
    | nx ρ => cases e; exact fun σ' H' I' => q .non H' I'.same .non
    | ret d => cases e; exact q
    | retF es => cases e; exact q
    | retX ds k => cases e; exact q
    | exc ρ c i => cases e; exact fun dd σ' H' I' hd => q dd H' I'.same hd
    | brk ρ => cases e
    | ct ρ => cases e
theorem def_okG {x qual : Str} {st : Stmt} {fa : Addr} {fd : FuncData} {N ps : List Str} {k n m : Nat} {fb : FS} (F : Fun K x qual st fa fd) (S : FnScope N ps (defScope st)) (hn : ps.length = n) (hm : N.length = m)
    (h : ∀ (cdv : Value) (A : Around) (outer : List Env) (s : Shared) (H : Hp) (E : XK), Room k (A.deeper (envOfC qual (defScope st) s.heap.objs.size fa cdv)) → (A.deeper (envOfC qual (defScope st) s.heap.objs.size fa cdv)).guards = some [] →
      DSs (cxOf (L2.CX P w) P w K mg base N qual (defScope st) fa cdv A outer s H E) Cl (fun cls d _ H' => E cls d H') (defBody st) fb) : FnG P w K mg base (L2.CX P w) (k + 1) fa fd ps (spD K Cl n (mkD n m fb)) :=
  fnG_fun F S (fun vs H Q E ⟨Z, ds, o, _, h1, h2, _⟩ => by rw [h1.length, h2, hn]) fun cdv A outer s H vs Q E hr hg hsp => def_start rfl hm (h cdv A outer s H E hr hg) hsp
theorem law_spG {CX : CXT} {k : Nat} {fa : Addr} {fd : FuncData} {ps : List Str} {F : DF} (h : ∀ ns : List Int, ns.length ≤ 63 → F [scr ns] = some (.ret (.bool true))) (G : FnG P w K mg base CX k fa fd ps (spD K Cl 1 F)) : FnG P w K mg base CX k fa fd ps (spLaw K) :=
  G.imp fun vs H Q E ⟨a, ns, e, hs, hl, q⟩ => by
    subst e
    refine ⟨fun _ => False, [scr ns], _, fun _ z => z.elim, .cons (.scr (SqL.same' (fun b o e _ => hide_at id e) hs)) .nil, rfl, h ns hl, fun v H' s hv => ?_⟩
    rw [hv.bl_inv]
    exact q H'
end
end DL
set_option Elab.async false
set_option linter.all false
set_option maxRecDepth 100000
set_option maxHeartbeats 4000000
/-! DL26: text * number, text + text, text += text. -/
namespace DL
open PySem PySem.Spec PyProof.Rows L2
section
variable {X : Cx} {Cl : Nat → Addr} {W : WX} {K : PySem.W.Frag} {a b e : Expr} {fa fb f : FE} {pos : Pos}
def rMulS : R2 := fun x y H Q => ∃ i n, x = .str i ∧ y = .int n ∧ MulOk i n ∧ Q (.str (Txt.mul i n)) H
theorem op_mulS : OpR X (binaryOp .Mult) rMulS := by
  intro pins s σ H x y v u Q I rx ry h
  obtain ⟨i, n, rfl, rfl, ok, q⟩ := h
  obtain ⟨t, rfl⟩ := rx
  obtain ⟨t', rfl⟩ := ry
  exact SB.mul ok fun t' tk => ⟨.str _, H, I.tok _, ⟨_, rfl⟩, q⟩
open Classical in
noncomputable def gRepS (a b : Val) : Option Val := match a.d, b.d with
  | .str x, .int n => if MulOk x n then some (.s (.str (Txt.mul x n))) else none
  | _, _ => none
theorem r2_mulS : R2D K rMulS gRepS := fun Z σ ρ H0 H x y a b v Q I s ha hb e q => by
  unfold gRepS at e
  split at e
  · rename_i i j e1 e2
    split at e
    · rename_i hl
      cases e
      exact ⟨i, j, ha.str_inv I e1, hb.int_inv I e2, hl, q _ H (Same.refl _) (.str _)⟩
    · cases e
  · cases e
theorem de_mulS (ha : DE X Cl W a fa) (hb : DE X Cl W b fb) : DE X Cl W (.BinOp a .Mult b pos) (e2 gRepS fa fb) := de_op op_mulS r2_mulS ha hb
theorem de_addS (ha : DE X Cl W a fa) (hb : DE X Cl W b fb) : DE X Cl W (.BinOp a .Add b pos) (e2 gCatS fa fb) := de_op op_add_str r2_catS ha hb
/-- x += e of texts -/
@[simp] def fAugS (i : Nat) (f : FE) (ρ : Rho) : Option Out := match ρ[i]? with
  | some (.dat (.str a)) => sE f (fun v ρ => match v.d with
    | .str b => if lineOk (a.length + b.length) = true then some (.nx (ρ.set i (.dat (.str (a ++ b))))) else none
    | _ => none) ρ
  | _ => none
theorem ds_augS {i : Nat} {x : Str} {pos' : Pos} (hN : X.N.Nodup) (he : DE X Cl W e f) (hi : X.N[i]? = some x := by rfl) (hx : Loc X.env.scope x := by first | exact .inl rfl | exact .inr rfl) (hf : X.fn x = true ∨ X.env.scope.names.lookup x = some .local := by first | exact .inl rfl | exact .inr rfl) :
    DS X Cl W (.AugAssign (.Name x pos') .Add e pos) (fAugS i f) := PS.imp (ps_aug hN hi hx he (fun pins s σ H x y v u Q I r1 r2 h => iop_add_str pins s σ H x y v u Q I r1 r2 h) hf) fun D σ H ⟨H0, Z, ρ, o, I, e, q⟩ => by
  unfold fAugS at e
  split at e
  · rename_i a ha
    obtain ⟨v, e1, h1⟩ := I.di.slots i _ ha
    have e2 : v = .str a := by
      cases h1
      rfl
    subst e2
    refine ⟨_, e1, ts_step I e q fun v x H1 _ h1 s1 hv I1 => ?_⟩
    split at h1
    · rename_i b hb
      split at h1
      · rename_i hl
        cases h1
        exact ⟨a, b, rfl, hv.str_inv I.di hb, lineOk_ok hl, q _ _ (I1.setDat (.str _))⟩
      · cases h1
    · cases h1
  · cases e
end
end DL
set_option Elab.async false
set_option linter.all false
set_option maxRecDepth 100000
set_option maxHeartbeats 4000000
/-! DL27: a comprehension over an own list. -/
namespace DL
open PySem PySem.Spec PyProof.Rows L2
section
variable {X : Cx} {Cl : Nat → Addr} {W : WX} {K : PySem.W.Frag}
@[simp] def eLcO (i : Nat) (vs : List Nat) (st : Rho → D → Option Rho) (tt : FT) (fe : FE) (ρ : Rho) : Option (Except Er Val) := if noOwn ρ vs = true then match ρ[i]? with
  | some (.own ds) => match lcL tt fe (st (wipeR ρ vs)) ds with
    | some es => if lineOk es.length = true then some (.ok (.f es)) else none
    | none => none
  | _ => none else none
theorem lcO_read {i0 : Nat} {vs : List Nat} {g : TG} {st : Rho → D → Option Rho} {tt : FT} {fe : FE} {σ : St} {H : Hp} {Q : VK} (T : LcT K vs g st) (h : teOf K Cl W (eLcO i0 vs st tt fe) σ H Q) : tLc (iList K (teOf K Cl W (eV i0))) g (ttOf K Cl W0 tt) (teOf K Cl W0 fe) vs σ H Q := by
  obtain ⟨Z, ρ, r, I, e, q⟩ := h
  unfold eLcO at e
  split at e
  · rename_i hno
    split at e
    · rename_i ds e1
      cases e2 : lcL tt fe (st (wipeR ρ vs)) ds with
      | none => rw [e2] at e; cases e
      | some es =>
        rw [e2] at e
        dsimp only at e
        split at e
        · rename_i hline
          cases e
          refine ⟨Z, ρ, .ok (.b ds), I, by unfold eV; rw [e1], fun x H1 s1 hv => ?_⟩
          obtain ⟨p, xs, rfl, ow, hp, hds⟩ := hv
          refine ⟨p, rfl, ⟨xs, SqL.of hp⟩, ?_⟩
          intro L nL
          have I1 := I.same s1
          have hJ : ∀ H', Same H1 H' → SameD (hide H1 (Zo Z σ ρ)) (hide H' (ZP (Zo Z σ ρ) L)) → (∀ i, i < ds.length → (Itl K p).go i H') ∧ (∀ i, ds.length ≤ i → (Itl K p).stop i H') ∧ ∀ i x H'' d, (Itl K p).yld i H' x H'' → ds[i]? = some d → Same H' H'' ∧ Dp K (hide H'' (ZP (Zo Z σ ρ) L)) x d := fun H' s2 hk => by
            have q : SqL K H' p xs := SqL.of (s2.at hp)
            refine ⟨fun i hi => ⟨xs, xs[i]'(by rw [hds.length]; exact hi), q, List.getElem?_eq_getElem _⟩, fun i hi => ⟨xs, q, by rw [hds.length]; exact hi⟩, fun i x H'' d y hd => ?_⟩
            obtain ⟨rfl, y⟩ := y
            obtain ⟨v, e1, e2⟩ := hds.get hd
            have e3 := y xs q
            rw [e1] at e3
            cases e3
            exact ⟨Same.refl _, Dp.same hk e2⟩
          have hln := lineOk_ok hline
          refine ⟨fun i m H' => ∃ acc as rest, H' L = some (.lst acc) ∧ Same H1 H' ∧ DpAll K (hide H' (ZP (Zo Z σ ρ) L)) acc as ∧ lcL tt fe (st (wipeR ρ vs)) (ds.drop i) = some rest ∧ as ++ rest = es ∧ m = ds.length - i ∧ i ≤ ds.length,
            ⟨_, [], [], es, upd_same, same_upd nL, .nil, e2, rfl, rfl, Nat.zero_le _⟩, fun i m H' => ?_⟩
          rintro ⟨acc, as, rest, hL, s2, hacc, er, ea, rfl, hi⟩
          have hk : SameD (hide H1 (Zo Z σ ρ)) (hide H' (ZP (Zo Z σ ρ) L)) := hide_mono s2 fun b hb => by
            rcases hb with hb | rfl
            · exact .inl hb
            · exact .inr nL
          have hlive : ∀ b, ZP (Zo Z σ ρ) L b → H' b ≠ none := fun b hb => by
            rcases hb with hb | rfl
            · exact (I1.same s2).liveZ hb
            · rw [hL]; intro z; cases z
          obtain ⟨go, stop, yld⟩ := hJ H' s2 hk
          by_cases hlt : i < ds.length
          · refine .inr ⟨go i hlt, fun H3 => ∃ acc as rest, H3 L = some (.lst acc) ∧ Same H1 H3 ∧ DpAll K (hide H3 (ZP (Zo Z σ ρ) L)) acc as ∧ lcL tt fe (st (wipeR ρ vs)) (ds.drop (i + 1)) = some rest ∧ as ++ rest = es,
              fun H3 ⟨acc, as, rest, b1, b2, b3, b4, b5⟩ => ⟨ds.length - (i + 1), by omega, acc, as, rest, b1, b2, b3, b4, b5, rfl, hlt⟩, fun x H'' y => ?_⟩
            have hd : ds[i]? = some ds[i] := List.getElem?_eq_getElem hlt
            obtain ⟨s3, hx⟩ := yld i x H'' _ y hd
            rw [List.drop_eq_getElem_cons hlt] at er
            unfold lcL at er
            cases est : st (wipeR ρ vs) ds[i] with
            | none => rw [est] at er; cases er
            | some ρ' =>
              rw [est] at er
              dsimp only at er
              have B := I1.blk (vs := vs) hno (s2.trans s3) nL (s3.at hL)
              have zeq : ∀ b, Zo (ZP Z L) (wipe σ vs) (wipeR ρ vs) b → ZP (Zo Z σ ρ) L b := fun b hb => by
                rcases hb with (hb | hb) | ⟨j, z⟩
                · exact .inl (.inl hb)
                · exact .inr hb
                · exact .inl (.inr ⟨j, (own_wipe z).2⟩)
              have zeq2 : ∀ b, ZP (Zo Z σ ρ) L b → Zo (ZP Z L) (wipe σ vs) (wipeR ρ vs) b := fun b hb => by
                rcases hb with (hb | ⟨j, z⟩) | hb
                · exact .inl (.inl hb)
                · exact .inr ⟨j, own_unwipe hno z⟩
                · exact .inl (.inr hb)
              refine T.go (ZP Z L) σ ρ ρ' H'' x ds[i] _ B (Dp.same (hide_mono (Same.refl _) fun b hb => .inl (zeq b hb)) hx) est fun σ' hw B' hs' hz' => ⟨hw, ?_⟩
              have up4 : ∀ H4, Same H'' H4 → Same H1 H4 := fun H4 s4 => s2.trans (s3.trans s4)
              have acc4 : ∀ H4, Same H'' H4 → DpAll K (hide H4 (ZP (Zo Z σ ρ) L)) acc as := fun H4 s4 => DpAll.same (hide_mono (s3.trans s4) fun _ h => .inl h) hacc
              cases ett : tt ρ' with
              | none => rw [ett] at er; cases er
              | some rt =>
                rw [ett] at er
                cases rt with
                | error _ => cases er
                | ok b =>
                  refine tt_step B' ett (fun er z => by cases z) fun b1 H3 eb s4 B3 => ?_
                  cases eb
                  cases b with
                  | false =>
                    dsimp only at er
                    rw [if_neg Bool.false_ne_true]
                    exact ⟨acc, as, rest, s4.at (s3.at hL), up4 _ s4, acc4 _ s4, er, ea⟩
                  | true =>
                    dsimp only at er
                    rw [if_pos rfl]
                    cases efe : fe ρ' with
                    | none => rw [efe] at er; cases er
                    | some rf =>
                      rw [efe] at er
                      cases rf with
                      | error _ => cases er
                      | ok v =>
                        dsimp only at er
                        refine te_step B3 efe (fun er z => by cases z) fun v1 y H4 ev s5 hv B4 => ?_
                        cases ev
                        cases est : v.st with
                        | none => rw [est] at er; cases er
                        | some yd =>
                          rw [est] at er
                          dsimp only at er
                          cases el : lcL tt fe (st (wipeR ρ vs)) (ds.drop (i + 1)) with
                          | none => rw [el] at er; cases er
                          | some rest' =>
                            rw [el] at er
                            cases er
                            have s45 := s4.trans s5
                            have hL4 := s45.at (s3.at hL)
                            have hy := hv.stab B3 est
                            have hacc4 := acc4 _ s45
                            refine ⟨acc, hL4, ?_, ?_⟩
                            · have h1 := hacc4.length
                              have h2 := congrArg List.length ea
                              rw [List.length_append, List.length_cons] at h2
                              omega
                            · have hin : ∀ {H5 : Hp} , (∀ b, b ≠ L → H5 b = H4 b) → SameD (hide H4 (ZP (Zo Z σ ρ) L)) (hide H5 (ZP (Zo Z σ ρ) L)) := fun {H5} k b o e _ => by
                                obtain ⟨n, e1⟩ := hide_of e
                                exact hide_at n (by rw [k b fun z => n (.inr z)]; exact e1)
                              have k5 : ∀ b, b ≠ L → upd H4 L (.lst (acc ++ [y])) b = H4 b := fun b hb => upd_ne hb
                              have hy2 : Dp K (hide H4 (ZP (Zo Z σ ρ) L)) y yd := Dp.same (hide_mono (Same.refl _) fun b hb => .inl (hz' b (zeq2 b hb))) hy
                              refine ⟨acc ++ [y], as ++ [yd], rest', upd_same, (up4 _ s45).over nL hL4, DpAll.append (DpAll.same (hin k5) hacc4) (.cons (Dp.same (hin k5) hy2) .nil), rfl, by rw [← ea, List.append_assoc]; rfl⟩
          · have hie : i = ds.length := by omega
            subst hie
            rw [List.drop_length] at er
            cases er
            rw [List.append_nil] at ea
            subst ea
            exact .inl ⟨stop _ (Nat.le_refl _), q _ H' (s1.trans s2) ⟨L, acc, rfl, s1.free nL, hL, hacc⟩⟩
        · cases e
    · cases e
  · cases e
variable {elt tg iter : Expr} {ifs : List Expr} {scope : Scope} {own : List (Str × Nat)} {pos : Pos} {g : TG} {tt : FT} {fe : FE} {vs : List Nat} {st : Rho → D → Option Rho} {i0 : Nat}
theorem de_lcO (hc : X.calm = true) (hN : X.N.Nodup) (T : LcT X.K vs g st) (hi : DE X Cl W iter (eV i0)) (ok : BlkOk X.N X.env.scope scope own)
    (hg : ∀ (s : Shared) (H : Hp) (C : Addr) (cl : List (Str × Addr)) (fp : List Addr), PG (X.blk s H scope (compEnvC scope cl C X.env) fp) tg g) (ht : ∀ (s : Shared) (H : Hp) (C : Addr) (cl : List (Str × Addr)) (fp : List Addr), DTs (X.blk s H scope (compEnvC scope cl C X.env) fp) Cl W0 ifs tt)
    (he : ∀ (s : Shared) (H : Hp) (C : Addr) (cl : List (Str × Addr)) (fp : List Addr), DE (X.blk s H scope (compEnvC scope cl C X.env) fp) Cl W0 elt fe) (hv : own.map (·.2) = vs := by rfl) (hs : ∀ x, foldedSetIterable iter X.env x = pure x := by intro _; rfl) :
    DE X Cl W (.ListComp elt [⟨tg, iter, ifs, 0⟩] scope pos) (eLcO i0 vs st tt fe) := PE.imp (pe_lc (tt := ttOf X.K Cl W0 tt) (te := teOf X.K Cl W0 fe) hc hN (pi_list hi) ok hg ht he hs) fun σ H Q h => by
  rw [hv]
  exact lcO_read T h
end
end DL
set_option Elab.async false
set_option linter.all false
set_option maxRecDepth 100000
set_option maxHeartbeats 4000000
/-! DL28: texts that are equal, of any signs. -/
namespace DL
open PySem PySem.Spec PyProof.Rows L2
section
variable {X : Cx} {K : PySem.W.Frag}
def rEqS : R2 := fun x y H Q => ∃ i j, x = .str i ∧ y = .str j ∧ Q (.bl (decide (i = j))) H
def rNeS : R2 := fun x y H Q => ∃ i j, x = .str i ∧ y = .str j ∧ Q (.bl (!decide (i = j))) H
theorem dec_strV {i j : Str} : decide (V.str i = V.str j) = decide (i = j) := by
  rw [dec_str]
  by_cases h : i = j
  · subst h; simp
  · rw [beq_eq_false_iff_ne.mpr h, decide_eq_false h]
theorem op_eqS : OpR X (compareOp .Eq) rEqS := by
  intro pins s σ H x y v u Q I rx ry h
  obtain ⟨i, j, rfl, rfl, q⟩ := h
  exact op_eq pins s σ H _ _ v u Q I rx ry ⟨rfl, by rw [dec_strV]; exact q⟩
theorem op_neS : OpR X (compareOp .NotEq) rNeS := by
  intro pins s σ H x y v u Q I rx ry h
  obtain ⟨i, j, rfl, rfl, q⟩ := h
  exact op_ne pins s σ H _ _ v u Q I rx ry ⟨rfl, by rw [dec_strV]; exact q⟩
@[simp] def gEqS (a b : Val) : Option Val := match a.d, b.d with
  | .str i, .str j => some (.s (.bool (decide (i = j))))
  | _, _ => none
@[simp] def gNeS (a b : Val) : Option Val := match a.d, b.d with
  | .str i, .str j => some (.s (.bool (!decide (i = j))))
  | _, _ => none
theorem r2_eqS : R2D K rEqS gEqS := fun Z σ ρ H0 H x y a b v Q I s ha hb e q => by
  unfold gEqS at e
  split at e
  · rename_i i j e1 e2
    cases e
    exact ⟨i, j, ha.str_inv I e1, hb.str_inv I e2, q _ H (Same.refl _) (.bl _)⟩
  · cases e
theorem r2_neS : R2D K rNeS gNeS := fun Z σ ρ H0 H x y a b v Q I s ha hb e q => by
  unfold gNeS at e
  split at e
  · rename_i i j e1 e2
    cases e
    exact ⟨i, j, ha.str_inv I e1, hb.str_inv I e2, q _ H (Same.refl _) (.bl _)⟩
  · cases e
end
end DL
set_option Elab.async false
set_option linter.all false
set_option maxRecDepth 100000
set_option maxHeartbeats 4000000
/-! DL29: data that is less or equal; enumerate with a start. -/
namespace DL
open PySem PySem.Spec PyProof.Rows L2
section
variable {X : Cx} {K : PySem.W.Frag}
def LeOk (d e : D) : Prop := PySem.W.alike d e = true ∧ d ≠ .none ∧ PyData.depth d ≤ 50 ∧ PyData.canLay0 d = true ∧ PyData.canLay0 e = true
def rLeD (K : PySem.W.Frag) : R2 := fun x y H Q => ∃ d e, L2.Dp K H x d ∧ L2.Dp K H y e ∧ LeOk d e ∧ Q (.bl (!PySem.W.dataLt e d)) H
theorem op_leD (hu : X.A.units + 64 < cLine) : OpR X (compareOp .LtE) (rLeD X.K) := by
  intro pins s σ H x y v u Q I rx ry h
  obtain ⟨d, e, hd, he, ok, q⟩ := h
  obtain ⟨as, r1⟩ := L2.Dp.reads I d x v hd rx
  obtain ⟨bs, r2⟩ := L2.Dp.reads I e y u he ry
  have h50 := ok.2.2.1
  exact PySem.W.le_data r1 r2 ok.1 ok.2.1 (by omega) ⟨.bl _, H, I, rfl, q⟩
open Classical in
noncomputable def gLeD (a b : Val) : Option Val := if LeOk a.d b.d then some (.s (.bool (!PySem.W.dataLt b.d a.d))) else none
theorem r2_leD : R2D K (rLeD K) gLeD := fun Z σ ρ H0 H x y a b v Q I s ha hb e q => by
  unfold gLeD at e
  split at e
  · rename_i ok
    cases e
    exact ⟨a.d, b.d, (Dp.same hide_sub (ha.dp I)).up ok.2.2.2.1, (Dp.same hide_sub (hb.dp I)).up ok.2.2.2.2, ok, q _ H (Same.refl _) (.bl _)⟩
  · cases e
end
/-! ### enumerate with a start, over a list -/
/-- the list at a, each item in a new pair behind the count k + i -/
def Itc (K : PySem.W.Frag) (k : Int) (a : Addr) : It where
  go i H := ∃ (xs : List V) (x : V), SqL K H a xs ∧ xs[i]? = some x
  yld i H v H' := ∃ T x, v = .ref T ∧ H T = none ∧ H' = upd H T (.tup [.int (k + (i : Int)), x]) ∧ ∀ xs, SqL K H a xs → xs[i]? = some x
  stop i H := ∃ xs : List V, SqL K H a xs ∧ xs.length ≤ i
def CountAt (k : Int) (a e it : Addr) (i : Nat) (h : Heap) : Prop := (∃ old, IsEnum h e it (k + (i : Int)) old) ∧ h.IsListIter it a i ∧ e ≠ it
theorem CountAt.cell {k : Int} {a e it : Addr} {i : Nat} {h : Heap} (c : CountAt k a e it i h) {b : Addr} (m : b = e ∨ b = it) : ∃ o, h.get? b = some o ∧ ∀ v, o.data ≠ .cell v := by
  obtain ⟨⟨old, q⟩, ⟨o, q1, q2, q3⟩, _⟩ := c
  rcases m with rfl | rfl
  · exact ⟨_, q, fun v z => nomatch z⟩
  · exact ⟨o, q1, fun v z => by rw [q3] at z; cases z⟩
theorem turn_count {P : Program} {w : World} {K : PySem.W.Frag} {elts : List Expr} {kk : Nat} {tpos : Pos} (k : Int) (a e it : Addr) : Turn P w K (.Tuple elts kk tpos) (Itc K k a) [e, it] e (CountAt k a e it) where
  mem := List.mem_cons_self
  obj _ _ c b m := c.cell (by simpa using m)
  keep _ _ _ c same := ⟨c.1.imp fun _ q => same e (by simp) _ q, c.2.1.at fun o q => same it (by simp) o q, c.2.2⟩
  self _ _ _ _ _ c q := c.1.elim fun _ q1 => wpAny_pyIter_enum q1 q
  item X eP ew eK calm i pins s σ H E I own c go := by
    subst eP ew eK
    obtain ⟨⟨old, cnt⟩, pos, apart⟩ := c
    obtain ⟨xs, x, seen, at_⟩ := go
    obtain ⟨us, rel, lst, _⟩ := I.list seen
    obtain ⟨u, uat, ru⟩ := rel.get at_
    have inE : e < s.heap.objs.size := Heap.lt_size cnt
    have inI : it < s.heap.objs.size := by
      obtain ⟨_, q, _⟩ := pos
      exact Heap.lt_size q
    have lit : a ≠ it := fun z => by
      obtain ⟨o1, q1, c1, _⟩ := lst.isList
      obtain ⟨o2, q2, c2, _⟩ := pos
      rw [z, q2] at q1
      cases q1
      rw [c1] at c2
      exact absurd c2 (by decide)
    have lie : e ≠ a := fun z => by
      obtain ⟨o1, q1, c1, _⟩ := lst.isList
      rw [← z, show s.heap.get? e = _ from cnt] at q1
      cases q1
      injection c1 with c1
      exact absurd c1 (by decide)
    have few : i < us.toArray.size := by simpa using (List.getElem?_eq_some_iff.mp uat).1
    refine wpAny_pyNext_enum_itemC (Draws.list (A := X.A.in1) (I.ok.hd calm) it a lit us.toArray) cnt ⟨pos, lst.isList⟩ few apart (by simp [apart, lie]) fun y h1 tk here out st made _ kept => ?_
    have ey : y = u := by
      have q : us[i]? = some y := by simpa using here
      rw [uat] at q
      exact (Option.some.inj q).symm
    subst ey
    refine ⟨_, rfl, wpAny_letOwnedTupleGo_enum (s := { s with heap := h1, toks := tk + 1 }) out fun h2 cnt2 rest => ?_⟩
    have made2 := (rest.2 _ (Nat.ne_of_gt inE)).trans made
    have fresh : ObjOk X.prog X.w (upd H s.heap.objs.size (.tup [.int (k + (i : Int)), x])) h2 s.heap.objs.size (.tup [.int (k + (i : Int)), x]) := ⟨by show 2 ≤ sizeLine; decide, [.int (k + (i : Int)) tk, y], .cons ⟨_, rfl⟩ (.cons ru .nil), ⟨_, made2, rfl, _, rfl⟩⟩
    have other : ∀ b o, b ∉ [e, it] → s.heap.get? b = some o → h2.get? b = some o := fun b o nb q => by
      have n1 : b ≠ e := fun z => nb (by simp [z])
      have n2 : b ≠ it := fun z => nb (by simp [z])
      exact (rest.2 b n1).trans (kept b o n1 n2 q)
    have I2 : Inv X pins σ (upd H s.heap.objs.size (.tup [.int (k + (i : Int)), x])) { s with heap := h2, toks := tk + 1 } := I.turnedNew (ch := [e, it]) other own (Nat.le_refl _) fresh
    refine ⟨.ref s.heap.objs.size, _, I2, rfl, ⟨_, x, rfl, I.hok.fresh (Nat.le_refl _), rfl, fun ys hy => I.list_inj hy seen ▸ at_⟩, ⟨⟨y, ?_⟩, st.1.at fun o q => (rest.2 it (Ne.symm apart)).trans q, apart⟩, fun b m => ?_⟩
    · rw [show k + ((i + 1 : Nat) : Int) = k + (i : Int) + 1 by omega]
      exact cnt2
    · have lt : b < s.heap.objs.size := by
        rcases (show b = e ∨ b = it by simpa using m) with rfl | rfl
        · exact inE
        · exact inI
      rw [upd_ne (Nat.ne_of_lt lt)]
      exact (own b m).1
  done X eP ew eK calm i pins s σ H E I own c stop := by
    subst eP ew eK
    obtain ⟨⟨old, cnt⟩, pos, apart⟩ := c
    obtain ⟨xs, seen, over⟩ := stop
    obtain ⟨us, rel, lst, _⟩ := I.list seen
    have len := rel.length
    obtain ⟨f0, f1, f2, f3, f4, f5⟩ := own it (by simp)
    have ty : s.TypeIs (.ref e) "enumerate" := ⟨_, cnt, rfl⟩
    unfold pyNext
    refine wpAny_bind (wpAny_attempt (wpAny_callSpecial?_slot (name := Str.ofString "__next__") ty F.slot_enumerate_next (wpAny_call_entry F.slot_enumerate_next ty F.entry_enumerate_next ?_ (F.args_enumerate_next_1 _))))
    show wpAny _ _ (field (.ref e) 2 >>= _) _ _ _
    refine wpAny_bind (wpAny_field cnt rfl (x := .ref it) rfl ?_)
    refine wpAny_bind (wpAny_nextOf_list_end (A := X.A.in1) (I.ok.hd calm) pos lst.isList (by simp; omega) fun h' x kept isx => ?_)
    obtain ⟨o, ho, hc⟩ := isx
    refine wpAny_bind (wpAny_isInstance (T := "StopIteration") (b := true) ⟨o, ho, hc⟩ isSubtype_stop ?_)
    exact wpAny_pure ⟨rfl, I.turned (t' := s.toks) (fun b o nb q => kept b o nb q) f0 f1 f3 f4 f5⟩
section
variable {M : Model} {A : Around} {E : Value → Shared → Prop} {s : Shared} {env : Env}
/-- the call of a built-in class with keywords -/
theorem callWith_tyK {pos : Pos} {T : String} {args : List (Bool × Sem Value)} {kws : List (Option Str × Sem Value)} {Q : Value → Shared → Prop} (h1 : args.any (·.1) = false) (h2 : kws.any (·.1.isNone) = false)
    (h : wpAny M A (evalArgs (.type T) true args kws) (fun z s1 => wpAny M A (call (.type T) ([] ++ z.pos) z.kw) Q E s1) E s) : wpAny M A (callWith pos (.type T) [] args kws) Q E s := by
  unfold callWith
  refine wpAny_bind (wpAny_holding (thn h fun z s1 q => wpAny_bind (wpAny_standAt ?_)))
  simp only [h1, h2, Bool.or_false]
  refine wpAny_bind (wpAny_pure (wpAny_bind (thn q fun v s2 q2 => ?_)))
  exact wpAny_bind (wpAny_holding (wpAny_point (wpAny_pure q2)))
end
def iCnt (K : PySem.W.Frag) (k : Int) (ta : TA) : TI := fun σ H R => ta σ H fun vs H1 => ∃ a xs, vs = [.ref a] ∧ SqL K H1 a xs ∧ R (Itc K k a) H1
theorem pi_count {X : Cx} {e : Expr} {ta : TA} {p pos tpos kp cp : Pos} {elts : List Expr} {kk j : Nat} {k : Int} (h0 : 0 ≤ k) (h1 : k < 1000000) (hg : Gl X "enumerate") (hm : X.mg "enumerate" = none) (ha : PA X [e] ta) (hs : starEach [e] X.env = [(false, eval e X.env)] := by rfl) :
    PI X (.Tuple elts kk tpos) (.Call (.Name "enumerate" p) [e] [⟨some "start", .Constant (.int k) j cp, kp⟩] pos) (iCnt X.K k ta) := by
  refine ⟨fun pins s σ H R I h => ?_⟩
  refine wpAny_bind (ld_blt I hg hm boot_enumerate (callWith_tyK (by rw [hs]; rfl) rfl (PyProof.Rows.evalArgs_kw2 rfl (thn (ha.run pos pins s σ H _ I h) fun us s1 ⟨vs, H1, I1, r1, q1⟩ => PyProof.Rows.kwAll_cons (wpAny_Constant_int (PyProof.Rows.kwAll_nil ?_))) hs)))
  obtain ⟨a, xs, ex, hq, q⟩ := q1
  subst ex
  cases r1 with
  | cons r rr =>
    cases rr
    cases r
    obtain ⟨its, rv, p', hz⟩ := I1.list hq
    refine enum_begins_start (s := { s1 with toks := s1.toks + 1 }) (k := k) (begins_list a its.toArray) p'.isList (by omega) (by omega) fun h2 cnt fresh _ same => wpAny_pyIter_enum cnt ?_
    have I2 : Inv X pins σ H1 { s1 with heap := h2, toks := s1.toks + 1 } := I1.kept (t' := s1.toks + 1) same
    have cnt0 : IsEnum h2 (s1.heap.objs.size + 1) s1.heap.objs.size (k + ((0 : Nat) : Int)) .none := by
      rw [show k + ((0 : Nat) : Int) = k by omega]
      exact cnt
    refine ⟨s1.heap.objs.size + 1, [s1.heap.objs.size + 1, s1.heap.objs.size], _, _, H1, rfl, I2, turn_count k a (s1.heap.objs.size + 1) s1.heap.objs.size, ⟨⟨.none, cnt0⟩, ⟨_, fresh, rfl, rfl⟩, Nat.succ_ne_self _⟩, fun b m => ?_, q⟩
    have new : s1.heap.objs.size ≤ b := by
      rcases (show b = s1.heap.objs.size + 1 ∨ b = s1.heap.objs.size by simpa using m) with rfl | rfl
      · exact Nat.le_succ _
      · exact Nat.le_refl _
    exact I1.fpOk new (I1.hok.fresh new)
def cntD (k : Int) (ds : List D) : List D := ds.zipIdx.map fun p => .tuple [.int (k + (p.2 : Int)), p.1]
theorem it_count {K : PySem.W.Frag} {Hs : Hp} {k : Int} {a : Addr} {xs : List V} {ds : List D} (h1 : Rd Hs a (.lst xs)) (h2 : DpAll K Hs xs ds) : ItOk K Hs (Itc K k a) (cntD k ds) := fun Z' H' s live => by
  have here : SqL K H' a xs := .inl (Rd.same (s.trans hide_sub) h1)
  have len : (cntD k ds).length = xs.length := by
    unfold cntD
    rw [List.length_map, List.length_zipIdx, h2.length]
  refine ⟨fun i hi => ⟨xs, xs[i]'(len ▸ hi), here, List.getElem?_eq_getElem _⟩, fun i hi => ⟨xs, here, len ▸ hi⟩, fun i x H2 d got hd => ?_⟩
  obtain ⟨T, z, rfl, free, rfl, at_⟩ := got
  obtain ⟨d1, e1, e2⟩ := h2.get' (at_ xs here)
  unfold cntD at hd
  rw [List.getElem?_map, List.getElem?_zipIdx, e1] at hd
  cases hd
  have nz : ¬ Z' T := fun z => live T z free
  refine ⟨same_upd free, .tup (SqT.of (hide_at nz upd_same)) (.cons ?_ (.cons ?_ .nil))⟩
  · rw [Nat.zero_add]
    exact .int _
  · exact Dp.same (s.trans (hide_mono (same_upd free) fun _ h => .inl h)) e2
section
variable {X : Cx} {Cl : Nat → Addr} {W : WX} {e : Expr} {p pos : Pos} {g : FA}
@[simp] def iCount (k : Int) (g : FA) (ρ : Rho) : Option (Except Er (List D)) := match g ρ with
  | some (.ok vs) => match vs with
    | [.s (.list ds)] => some (.ok (cntD k ds))
    | _ => none
  | _ => none
theorem di_count {elts : List Expr} {kk j : Nat} {k : Int} {tpos kp cp : Pos} (h0 : 0 ≤ k) (h1 : k < 1000000) (hm : X.mg "enumerate" = none) (ha : DA X Cl W [e] g) (hg : Gl X "enumerate" := by rfl) (hs : starEach [e] X.env = [(false, eval e X.env)] := by rfl) :
    DIt X Cl W (.Tuple elts kk tpos) (.Call (.Name "enumerate" p) [e] [⟨some "start", .Constant (.int k) j cp, kp⟩] pos) (iCount k g) :=
  PI.imp (pi_count h0 h1 hg hm ha hs) fun σ H R ⟨Z, ρ, r, I, e, q⟩ => by
    unfold iCount at e
    split at e
    · rename_i vs0 e1
      split at e
      · rename_i ds
        cases e
        refine ta_step I e1 (fun er z => by cases z) fun vs xs H1 ev s1 hvs I1 => ?_
        cases ev
        obtain ⟨x, rfl, h⟩ := hvs.one
        obtain ⟨a, ys, rfl, h1, h2⟩ := Dp.lst_inv (show Dp X.K (hide H1 (Zo Z σ ρ)) x (.list ds) from h)
        exact ⟨a, ys, rfl, .inl (Rd.same hide_sub h1), q _ H1 s1 (it_count h1 h2)⟩
      · cases e
    · cases e
end
end DL
set_option Elab.async false
set_option linter.all false
set_option maxRecDepth 100000
set_option maxHeartbeats 4000000
/-! DL30: a text in a text; a module's text. -/
namespace DL
open PySem PySem.Spec PyProof.Rows L2
section
variable {X : Cx} {Cl : Nat → Addr} {W : WX} {K : PySem.W.Frag} {pos : Pos}
/-- does y hold x? -/
def hasS (y x : Str) : Bool := !(Builtin.Str.occurrences y x 0 y.length 1).isEmpty
@[simp] def gInS (a b : Val) : Option Val := match a.d, b.d with
  | .str i, .str j => some (.s (.bool (hasS j i)))
  | _, _ => none
@[simp] def gNotInS (a b : Val) : Option Val := match a.d, b.d with
  | .str i, .str j => some (.s (.bool (!hasS j i)))
  | _, _ => none
theorem r2_inS : R2D K (fun x y H Q => ∃ i j, x = .str i ∧ y = .str j ∧ Q (.bl (!(Builtin.Str.occurrences j i 0 j.length 1).isEmpty)) H) gInS := fun Z σ ρ H0 H x y a b v Q I s ha hb e q => by
  unfold gInS at e
  split at e
  · rename_i i j e1 e2
    cases e
    exact ⟨i, j, ha.str_inv I e1, hb.str_inv I e2, q _ H (Same.refl _) (.bl _)⟩
  · cases e
theorem r2_notInS : R2D K (fun x y H Q => ∃ i j, x = .str i ∧ y = .str j ∧ Q (.bl (!(!(Builtin.Str.occurrences j i 0 j.length 1).isEmpty))) H) gNotInS := fun Z σ ρ H0 H x y a b v Q I s ha hb e q => by
  unfold gNotInS at e
  split at e
  · rename_i i j e1 e2
    cases e
    exact ⟨i, j, ha.str_inv I e1, hb.str_inv I e2, q _ H (Same.refl _) (.bl _)⟩
  · cases e
theorem de_globS {x z : Str} {t : Tok} (hm : X.mg x = some (.str z t)) (hg : Gl X x := by rfl) (hd : (x == ("__debug__" : Str)) = false := by decide) : DE X Cl W (.Name x pos) (eC (.str z)) := de_const (pe_glob (v := .str z) hg hm ⟨t, rfl⟩ hd) fun _ => .str z
end
end DL
set_option Elab.async false
set_option linter.all false
set_option maxRecDepth 100000
set_option maxHeartbeats 4000000
/-! DL18: errors of the text's own as values: C(n), x.at, isinstance(x, C). -/
namespace DL
open PySem PySem.Spec PyProof.Rows L2
section
variable {X : Cx} {Cl : Nat → Addr} {W : WX} {K : PySem.W.Frag} {e : Expr} {es : List Expr} {f : FE} {pos p : Pos} {ta : TA}
/-- C(e, ..) that stays -/
def tKeepO (C : Addr) (sp : Sp) (ta : TA) : TE := fun σ H Q => ta σ H fun vs H1 => vs.length ≤ 1000 ∧ ∀ a, H1 a = none → sp (.ref a :: vs) (upd H1 a (exo a C none)) (fun v H2 => v = .non ∧ Q (.ref a) H2) (fun _ _ _ => False)
theorem pe_keepO {CX : CXT} {x : Str} {C fI : Addr} {k : Nat} {fd : FuncData} {ps : List Str} {sp : Sp} (T : OexC X.K C) (iC : PySem.W.findIn X.K (.ref C) "__init__" = some (some (.ref fI))) (tI : PySem.W.typeIn X.K (.ref fI) = some (.type "function"))
    (F1 : FnOk X.prog X.w X.K X.mg X.base CX k fI fd ps sp) (hr : Room (k + 1) X.A) (hb : Binds X.K fd ps []) (hx : Passes CX X (fun _ _ _ => False)) (hg : Gl X x) (hm : X.mg x = some (.ref C)) (ha : PA X (e :: es) ta)
    (hdb : (x == ("__debug__" : Str)) = false) (he : starEach (e :: es) X.env = (false, eval e X.env) :: starEach es X.env) (hpl : (backTo pos (starEach es X.env)).any (·.1) = false) :
    PE X (.Call (.Name x p) (e :: es) [] pos) (tKeepO C sp ta) := by
  constructor
  intro pins s σ H Q I h
  have hcls := T.cls
  obtain ⟨nm, qn, N, bs, bm, sn, sub, ab, col, dd, k0, k1, k2, k3, k5, hC, hbm⟩ := hcls
  refine wpAny_Call_Name_kw (ld_glob I hg hm ?_ hdb)
  have args := ha.run pos pins s σ H _ I h
  refine PySem.W.callWith_K (h₀ := X.base) I.ok.mod.kin T.kC (thn args fun us s1 w => ?_) he hpl
  obtain ⟨vs, H1, I1, r1, hz, q1⟩ := w
  refine ⟨I1.kIn, ?_⟩
  show wpAny _ _ (call (.ref C) us) _ _ _
  cases s1 with
  | mk hp g dr tk os =>
    -- where the new error goes
    have le : hp.objs.size ≤ hp.objs.size + 1 := by omega
    have fresh := I1.hok.fresh le
    have want := q1 _ fresh
    have grow : ∀ b o, hp.get? b = some o → ((hp.push (PySem.W.kdv_tup us)).push (PySem.HandSPX.excO C hp.objs.size)).get? b = some o :=
      fun b o z => Heap.get?_push_of_some _ (Heap.get?_push_of_some _ z)
    have there : ((hp.push (PySem.W.kdv_tup us)).push (PySem.HandSPX.excO C hp.objs.size)).get? (hp.objs.size + 1) = some (PySem.HandSPX.excO C hp.objs.size) := by heap_get
    have J := I1.laid (t' := tk) (a := hp.objs.size + 1) (o := exo (hp.objs.size + 1) C none) grow le (exo_ok there)
    have rr : Vals (V.ref (hp.objs.size + 1) :: vs) (Value.ref (hp.objs.size + 1) :: us) := .cons rfl r1
    have many : (Value.ref (hp.objs.size + 1) :: us).length = ps.length := by rw [← rr.length, F1.len _ _ _ _ want]
    have few : us.length ≤ sizeLine := by
      have z := r1.length
      rw [sizeLine_eq]
      omega
    have bind := hb _ (Value.ref (hp.objs.size + 1) :: us) J.kIn (by rw [List.append_nil]; exact many)
    rw [List.append_nil] at bind
    have run := F1.run _ X.stack _ _ ⟨Value.ref (hp.objs.size + 1) :: us, []⟩ _ _ _ (fun _ _ _ => False) (hr.make C us []) (J.env0.make C us []) bind rr want
    refine wpAny_call (PySem.HandSPX.call_own F.excBase_ValueError (fun Y => PySem.HandSPX.refsVE_contains Y bm hbm) (I1.kIn _ _ hC) (PySem.W.looks_findIn I1.kIn iC) (fun self => PySem.W.bind_fn I1.kIn self tI) few (codeAny_mono run fun r s2 w => ?_))
    cases r with
    | error er => exact hx pins σ _ _ er s2 J w
    | ok fl =>
      cases fl with
      | next => exact w.elim
      | brk => exact w.elim
      | cont => exact w.elim
      | ret u =>
        obtain ⟨v, H2, o2, b2, u2, h2, rv, ev, q2⟩ := w
        subst ev
        refine ⟨rv, ?_⟩
        cases s2 with
        | mk hp2 g2 d2 t2 os2 =>
          exact ⟨.ref (hp.objs.size + 1), H2, J.call' (ch := []) o2 u2 h2 b2 (fun b z => nomatch z), rfl, q2⟩
/-- by data -/
def gNew (C : Addr) (v : Val) : Option Val := match v.d with
  | .int i => some (.s (excD C i))
  | _ => none
def eNew (C : Addr) (f : FE) : FE := e1 (gNew C) f
theorem de_new {c : Nat} {x q : Str} {fI : Addr} {fd : FuncData} {st : Stmt} (T : ExT X.K X.mg x (Cl c) fI) (N : InT X.K q st fI fd) (F1 : FnOk X.prog X.w X.K X.mg X.base (L2.CX X.prog X.w) 1 fI fd ["self", "at"] (spIn X.K)) (hr : Room 2 X.A) (he : DE X Cl W e f)
    (hg : Gl X x := by rfl) (hdb : (x == ("__debug__" : Str)) = false := by decide) (hs : starEach (e :: []) X.env = (false, eval e X.env) :: starEach [] X.env := by rfl) (hpl : (backTo pos (starEach [] X.env)).any (·.1) = false := by rfl) :
    DE X Cl W (.Call (.Name x p) [e] [] pos) (eNew (Cl c) f) :=
  PE.imp (pe_keepO T.oex T.iC N.tI F1 hr N.b passL hg T.g (pa_cons he pa_nil hs) hdb hs hpl) fun σ H Q ⟨Z, ρ, r, I, e, q⟩ => by
    unfold eNew at e
    refine te_bind I e q fun v y H1 _ h1 s1 hv I1 q1 => ?_
    unfold gNew at h1
    split at h1
    · rename_i i hd
      cases h1
      have ey := hv.int_inv I hd
      subst ey
      refine ⟨by show 1 ≤ 1000; decide, fun a na => ⟨a, Cl c, .int i, rfl, T.oex, T.no, upd_same, fun dx nd hne => ⟨rfl, ?_⟩⟩⟩
      have nd' : H1 dx = none := by rw [upd_ne hne] at nd; exact nd
      have za : ¬ Zo Z σ ρ a := fun z => I1.liveZ z na
      have zd : ¬ Zo Z σ ρ dx := fun z => I1.liveZ z nd'
      refine q1 _ _ (.of fun b o z => ?_) ?_
      · have n1 := ne_of_none z nd'
        have n2 := ne_of_none z na
        rw [upd_ne n2, upd_ne n1, upd_ne n2]
        exact z
      · exact .exc (hide_at za upd_same) (hide_at zd (by rw [upd_ne hne, upd_same]))
    · cases h1
/-! ### x.at, isinstance(x, C) -/
/-- the class of a held error, its at -/
def excOf : D → Option (Addr × Int)
  | .dict [(.str _, .int i), (.int (.ofNat C), .none)] => some (C, i)
  | _ => none
@[simp] theorem excOf_exc (C : Addr) (i : Int) : excOf (excD C i) = some (C, i) := rfl
theorem Dp.exc_inv {H : Hp} {x : V} {C : Addr} {i : Int} {d : D} (e : excOf d = some (C, i)) (h : Dp K H x d) : ∃ a dd, x = .ref a ∧ H a = some (exo a C (some dd)) ∧ H dd = some (exd dd [("at", .int i)]) := by
  cases h with
  | exc h1 h2 =>
    cases e
    exact ⟨_, _, rfl, h1, h2⟩
  | @scr a ns h =>
    cases ns with
    | nil => cases e
    | cons n r => cases e
  | _ => cases e
/-- what is known of the classes -/
def gAtD (tb : Addr → Option Bool) (v : Val) : Option Val := (excOf v.d).bind fun p => (tb p.1).map fun _ => .s (.int p.2)
def eAtD (tb : Addr → Option Bool) (f : FE) : FE := e1 (gAtD tb) f
def gIsD (tb : Addr → Option Bool) (v : Val) : Option Val := (excOf v.d).bind fun p => (tb p.1).map fun b => .s (.bool b)
def eIsD (tb : Addr → Option Bool) (f : FE) : FE := e1 (gIsD tb) f
def tAtO (K : PySem.W.Frag) (te : TE) : TE := fun σ H Q => te σ H fun x H1 => ∃ (a C dd : Addr) (v : V), x = .ref a ∧ XfC K C ∧ PySem.W.findIn K (.ref C) "at" = some none ∧ H1 a = some (exo a C (some dd)) ∧ H1 dd = some (exd dd [("at", v)]) ∧ Q v H1
theorem pe_atO {te : TE} (he : PE X e te) (hb : attributeBase e "at" X.env (eval e X.env) = eval e X.env) : PE X (.Attribute e "at" pos) (tAtO X.K te) := by
  constructor
  intro pins s σ H Q I h
  refine attr_of hb (thn (he.run pins s σ H _ I h) fun u s1 hh => ?_)
  obtain ⟨x, H1, I1, rx, a, C, dd, v, ex, T, hno, h1, h2, q⟩ := hh
  subst ex
  have eu : u = Value.ref a := rx
  subst eu
  obtain ⟨t1, ho⟩ := exo_at I1.hok h1
  obtain ⟨mA, hns, hr⟩ := exd_at I1.hok h2
  obtain ⟨od, hod, hl⟩ := lookIn_ns hns
  obtain ⟨w, hw, rw'⟩ := RelO.some_of (v := v) (o := mA "at") (by have z := hr "at"; exact z)
  have J : PySem.W.InstAt s1.heap a _ C (some od) := ⟨ho, rfl, rfl, hod⟩
  exact HandSPX.exc_get I1.kIn J T.ga T.gg T.exC (PySem.W.findObj_own T.hdC hno rfl (by rw [hl, hw])) (handed_of rw') ⟨v, H1, I1.tok _, rw', q⟩
theorem de_atD {tb : Addr → Option Bool} (he : DE X Cl W e f) (ht : ∀ C b, tb C = some b → ErF X.K C) (hb : attributeBase e "at" X.env (eval e X.env) = eval e X.env := by rfl) : DE X Cl W (.Attribute e "at" pos) (eAtD tb f) :=
  PE.imp (pe_atO he hb) fun σ H Q ⟨Z, ρ, r, I, e, q⟩ => by
    unfold eAtD at e
    refine te_bind I e q fun v x H1 _ h1 s1 hv I1 q1 => ?_
    unfold gAtD at h1
    cases ee : excOf v.d with
    | none => rw [ee] at h1; cases h1
    | some p =>
      obtain ⟨C, i⟩ := p
      rw [ee] at h1
      dsimp only [Option.bind] at h1
      cases et : tb C with
      | none => rw [et] at h1; cases h1
      | some b =>
        rw [et] at h1
        cases h1
        have F := ht C b et
        obtain ⟨a, dd, ex, e1, e2⟩ := (hv.dp I).exc_inv ee
        exact ⟨a, C, dd, .int i, ex, F.xf, F.no, hide_sub _ _ e1 rfl, hide_sub _ _ e2 rfl, q1 _ H1 (Same.refl _) (.int i)⟩
def rIsO (K : PySem.W.Frag) : List V → Hp → VK → Prop := fun xs H Q => ∃ (a C dd : Addr) (v c : V) (cv : Value) (b : Bool), xs = [.ref a, c] ∧ H a = some (exo a C (some dd)) ∧ H dd = some (exd dd [("at", v)]) ∧ ExcC K C ∧ (∀ u, RelV c u → u = cv) ∧ PySem.W.kitOne K (.ref C) cv = some b ∧ Q (.bl b) H
theorem call_isO : CallR X (.builtin "isinstance") (rIsO X.K) := fun pins s σ H xs us Q I r h => by
  obtain ⟨a, C, dd, v, c, cv, b, rfl, h1, h2, T, hcv, e, q⟩ := h
  cases r with
  | cons rx rr => cases rr with
    | cons rt rr =>
      cases rr
      cases rx
      have ec := hcv _ rt
      subst ec
      obtain ⟨t1, ho⟩ := exo_at I.hok h1
      obtain ⟨mA, hns, _⟩ := exd_at I.hok h2
      obtain ⟨od, hod, _⟩ := lookIn_ns hns
      have inst : PySem.W.InstAt s.heap a _ C (some od) := ⟨ho, rfl, rfl, hod⟩
      have known : (PySem.W.clsIn X.K C).isSome = true := by
        have z := T.hd
        unfold PySem.W.hasDictIn at z
        cases y : PySem.W.clsIn X.K C with
        | none => rw [y] at z; cases z
        | some _ => rfl
      refine PySem.W.kia_one (PySem.W.kitx_exc known T.hg T.hk T.hs T.ha T.hn T.ht T.hm) I.kIn inst e (fun z => nomatch z) fun tk => ?_
      exact ⟨.bl b, H, I.kept (t' := tk) fun _ _ z => z, rfl, q⟩
theorem de_isD {tb : Addr → Option Bool} {y x : Str} {p2 : Pos} {v : V} {cv : Value} (hx : x = "isinstance") (hm : X.mg x = none) (ha : DE X Cl W e f) (hy : PE X (.Name y p2) (tC v)) (hcv : ∀ u, RelV v u → u = cv) (ht : ∀ C b, tb C = some b → ErF X.K C ∧ PySem.W.kitOne X.K (.ref C) cv = some b) (hg : Gl X x := by rfl)
    (hs : starEach [e, .Name y p2] X.env = (false, eval e X.env) :: starEach [.Name y p2] X.env := by rfl) (hs2 : starEach [.Name y p2] X.env = (false, eval (.Name y p2) X.env) :: starEach [] X.env := by rfl) (hpl : (backTo pos (starEach [.Name y p2] X.env)).any (·.1) = false := by rfl) :
    DE X Cl W (.Call (.Name x p) [e, .Name y p2] [] pos) (eIsD tb f) := by
  subst hx
  refine PE.imp (pe_callB (X := X) call_isO hg hm PyProof.Rows.boot_isinstance (pa_cons ha (pa_cons hy pa_nil hs2) hs) (by decide) (by decide) hs hpl) fun σ H Q ⟨Z, ρ, r, I, e, q⟩ => ?_
  unfold eIsD at e
  refine te_bind I e q fun w x H1 _ h1 s1 hv I1 q1 => ?_
  unfold gIsD at h1
  cases ee : excOf w.d with
  | none => rw [ee] at h1; cases h1
  | some p =>
    obtain ⟨C, i⟩ := p
    rw [ee] at h1
    dsimp only [Option.bind] at h1
    cases et : tb C with
    | none => rw [et] at h1; cases h1
    | some b =>
      rw [et] at h1
      cases h1
      obtain ⟨F, kt⟩ := ht C b et
      obtain ⟨a, dd, ex, e1, e2⟩ := (hv.dp I).exc_inv ee
      subst ex
      exact ⟨a, C, dd, .int i, v, cv, b, rfl, hide_sub _ _ e1 rfl, hide_sub _ _ e2 rfl, F.xc, hcv, kt, q1 _ H1 (Same.refl _) (.bl b)⟩
/-- a table of classes, by their places -/
def mxA (Cl : Nat → Addr) : List (Nat × Bool) → Addr → Option Bool
  | [], _ => none
  | (k, b) :: r, C => if Cl k = C then some b else mxA Cl r C
theorem mxA_spec {P : Nat → Bool → Prop} {R : Addr → Bool → Prop} (hR : ∀ k b, P k b → R (Cl k) b) : ∀ {l : List (Nat × Bool)}, AllL P l → ∀ C b, mxA Cl l C = some b → R C b
  | _, .nil, C, b, e => nomatch e
  | _, .cons (k := k) (b := b') h t, C, b, e => by
    unfold mxA at e
    by_cases hk : Cl k = C
    · rw [if_pos hk] at e
      cases e
      subst hk
      exact hR k b' h
    · rw [if_neg hk] at e
      exact mxA_spec hR t C b e
end
end DL
namespace DL
open PySem PySem.Spec PyProof.Rows L2
/-- the classes of the text by their numbers -/
def clL (l : List Addr) (n : Nat) : Addr := l.getD n 0
/-- what a table by numbers tells of the class that stands at C -/
def mxK (Cl : Nat → Addr) (ks : List Nat) (p : Nat → Bool) (C : Addr) : Option Bool := (ks.find? fun k => decide (Cl k = C)).map p
theorem mxK_spec {Cl : Nat → Addr} {ks : List Nat} {p : Nat → Bool} {R : Addr → Bool → Prop} (h : ∀ k ∈ ks, R (Cl k) (p k)) (C : Addr) (b : Bool) (e : mxK Cl ks p C = some b) : R C b := by
  unfold mxK at e
  cases f : ks.find? fun k => decide (Cl k = C) with
  | none => rw [f] at e; cases e
  | some k =>
    rw [f] at e
    cases e
    have h1 := List.mem_of_find?_eq_some f
    have h2 : Cl k = C := by simpa using List.find?_some f
    exact h2 ▸ h k h1
/-- no two of them stand at one place -/
def clD (Cl : Nat → Addr) : Bool := (List.range 42).all fun i => (List.range 42).all fun j => i == j || Cl i != Cl j
theorem clD_ne {Cl : Nat → Addr} (h : clD Cl = true) {i j : Nat} (hi : i < 42) (hj : j < 42) (e : Cl i = Cl j) : i = j := by
  unfold clD at h
  have h1 := List.all_eq_true.mp h i (List.mem_range.mpr hi)
  have h2 := List.all_eq_true.mp h1 j (List.mem_range.mpr hj)
  rcases Bool.or_eq_true_iff.mp h2 with h3 | h3
  · exact beq_iff_eq.mp h3
  · rw [e] at h3
    exact absurd rfl (bne_iff_ne.mp h3)
theorem mxK_at {Cl : Nat → Addr} (h : clD Cl = true) (p : Nat → Bool) {k : Nat} (hk : k < 42) : mxK Cl (List.range 42) p (Cl k) = some (p k) := by
  unfold mxK
  cases f : (List.range 42).find? fun j => decide (Cl j = Cl k) with
  | none =>
    have z := List.find?_eq_none.mp f k (List.mem_range.mpr hk)
    simp at z
  | some j =>
    have h1 := List.mem_of_find?_eq_some f
    have h2 : Cl j = Cl k := by simpa using List.find?_some f
    rw [clD_ne h (List.mem_range.mp h1) hk h2]
    rfl
theorem kd_of {K : PySem.W.Frag} {Cl : Nat → Addr} {cv : Value} {p : Nat → Bool} (h : ((List.range 42).all fun k => PySem.W.kitOne K (.ref (Cl k)) cv == some (p k)) = true) : ∀ k ∈ List.range 42, PySem.W.kitOne K (.ref (Cl k)) cv = some (p k) := fun k hk => beq_iff_eq.mp (List.all_eq_true.mp h k hk)
end DL
set_option Elab.async false
set_option linter.all false
set_option maxRecDepth 100000
set_option maxHeartbeats 4000000
/-! DL31: a tuple that was given back with a list of its own: read for the moment, until the list is changed. -/
namespace DL
open PySem PySem.Spec PyProof.Rows L2
/-! ### data without lists -/
mutual
def noLst : D → Bool
  | .none => true | .bool _ => true | .int _ => true | .str _ => true
  | .tuple ds => noLsts ds
  | _ => false
def noLsts : List D → Bool
  | [] => true
  | d :: ds => noLst d && noLsts ds
end
theorem noLsts_all : ∀ (ds : List D), noLsts ds = ds.all noLst
  | [] => rfl
  | d :: ds => by
    show (noLst d && noLsts ds) = _
    rw [noLsts_all ds]
    rfl
section
variable {K : PySem.W.Frag} {Z : Addr → Prop} {H : Hp} {p : Addr} {ys : List V}
theorem hideP {b : Addr} {o : HO} (hp : H p = some (.lst ys)) (e : hide H Z b = some o) (n : o ≠ .lst ys) : hide H (ZP Z p) b = some o := by
  obtain ⟨h1, h2⟩ := hide_of e
  refine hide_at (fun z => ?_) h2
  rcases z with z | z
  · exact h1 z
  · rw [z, hp] at h2
    exact n (Option.some.inj h2).symm
mutual
theorem Dp.free (hp : H p = some (.lst ys)) : ∀ {v : V} {d : D}, noLst d = true → Dp K (hide H Z) v d → Dp K (hide H (ZP Z p)) v d
  | _, _, _, .non => .non
  | _, _, _, .bl b => .bl b
  | _, _, _, .int i => .int i
  | _, _, _, .str x => .str x
  | _, _, c, .lst h t => nomatch c
  | _, _, c, .tup h t => by
    refine .tup ?_ (DpAll.free hp c t)
    rcases h with (h | ⟨o, h⟩) | h
    · exact .inl (.inl (hideP hp h fun z => by cases z))
    · exact .inl (.inr ⟨o, hideP hp h fun z => by cases z⟩)
    · exact .inr h
  | _, _, c, .scr h => nomatch c
  | _, _, c, .exc _ _ => nomatch c
theorem DpAll.free (hp : H p = some (.lst ys)) : ∀ {vs : List V} {ds : List D}, noLsts ds = true → DpAll K (hide H Z) vs ds → DpAll K (hide H (ZP Z p)) vs ds
  | _, _, _, .nil => .nil
  | _, _, c, .cons h t => by
    have c' : (noLst _ && noLsts _) = true := c
    rw [Bool.and_eq_true] at c'
    exact .cons (Dp.free hp c'.1 h) (DpAll.free hp c'.2 t)
end
end
section
variable {K : PySem.W.Frag} {Cl : Nat → Addr} {W : WX} {H0 H1 : Hp} {Z : Addr → Prop} {H H' : Hp} {σ : St} {ρ : Rho} {D : Ends}
theorem own_setT {i : Nat} {x : Option V} {p : Addr} {k : Nat} {es : List DL.D} {j : Nat} {a : Addr} (h : OwnAt (σ.set i x) (ρ.set i (.ownT p k es)) j a) : (i = j ∧ a = p) ∨ (i ≠ j ∧ OwnAt σ ρ j a) := by
  by_cases hj : i = j
  · subst hj
    rcases h with ⟨h1, ds, h2⟩ | ⟨k, ds, h2⟩
    · rw [List.getElem?_set, if_pos rfl] at h2
      split at h2
      · cases h2
      · cases h2
    · rw [List.getElem?_set, if_pos rfl] at h2
      split at h2
      · cases h2
        exact .inl ⟨rfl, rfl⟩
      · cases h2
  · unfold OwnAt at h
    rw [List.getElem?_set_ne hj, List.getElem?_set_ne hj] at h
    exact .inr ⟨hj, h⟩
theorem DI.setOwnT (I : DI K Z H1 σ ρ) (s1 : Same H1 H) {i : Nat} {T p : Addr} {k : Nat} {ds : List DL.D} (np : H1 p = none) (lp : H p ≠ none) (t : TupOwn K H (hide H (ZP (Zo Z σ ρ) p)) T p k ds) : DI K Z H (σ.set i (some (.ref T))) (ρ.set i (.ownT p k ds)) := by
  have nz : ¬ Zo Z σ ρ p := fun z => I.liveZ z np
  have no : ∀ j, ¬ OwnAt σ ρ j p := fun j q => nz (.inr ⟨j, q⟩)
  have sub : ∀ b, Zo Z (σ.set i (some (.ref T))) (ρ.set i (.ownT p k ds)) b → ZP (Zo Z σ ρ) p b := fun b hb => by
    rcases hb with hb | ⟨j, q⟩
    · exact .inl (.inl hb)
    · rcases own_setT q with ⟨_, e⟩ | ⟨_, q⟩
      · exact .inr e
      · exact .inl (.inr ⟨j, q⟩)
  have hm : SameD (hide H (ZP (Zo Z σ ρ) p)) (hide H (Zo Z (σ.set i (some (.ref T))) (ρ.set i (.ownT p k ds)))) := hide_mono (Same.refl _) fun b hb => .inl (sub b hb)
  have hm1 : SameD (hide H1 (Zo Z σ ρ)) (hide H (Zo Z (σ.set i (some (.ref T))) (ρ.set i (.ownT p k ds)))) := hide_mono s1 fun b hb => by
    rcases sub b hb with z | rfl
    · exact .inl z
    · exact .inr np
  have I' := I.same s1
  refine ⟨by rw [List.length_set, List.length_set]; exact I.len, fun j l a h1 h2 => ?_, fun a ⟨j, q⟩ => ?_, I'.live, fun j t' e => ?_⟩
  · rcases own_setT h1 with ⟨e1, e2⟩ | ⟨n1, q1⟩
    · rcases own_setT h2 with ⟨e3, e4⟩ | ⟨n2, q2⟩
      · rw [← e1, ← e3]
      · rw [e2] at q2
        exact absurd q2 (no l)
    · rcases own_setT h2 with ⟨e3, e4⟩ | ⟨n2, q2⟩
      · rw [e4] at q1
        exact absurd q1 (no j)
      · exact I.one j l a q1 q2
  · rcases own_setT q with ⟨_, e⟩ | ⟨_, q⟩
    · rw [e]
      exact fun z => nz (.inl z)
    · exact I.out a ⟨j, q⟩
  · by_cases hj : i = j
    · subst hj
      rw [List.getElem?_set, if_pos rfl] at e
      split at e
      · rename_i hl
        cases e
        rw [List.getElem?_set, if_pos rfl, if_pos (by rw [← I.len]; exact hl)]
        exact ⟨T, rfl, t.same hm fun _ z => z⟩
      · cases e
    · rw [List.getElem?_set_ne hj] at e ⊢
      have q := I.slots j t' e
      cases t' with
      | un => trivial
      | dat d =>
        obtain ⟨v, e1, h1⟩ := q
        exact ⟨v, e1, Dp.same hm1 h1⟩
      | own es =>
        obtain ⟨a, ys, e1, e2, h1⟩ := q
        exact ⟨a, ys, e1, s1.at e2, DpAll.same hm1 h1⟩
      | err a dd j => exact ⟨q.1, s1.at q.2⟩
      | ownT a k ds =>
        obtain ⟨T, e1, h1⟩ := q
        exact ⟨T, e1, h1.same hm1 fun _ z => s1.at z⟩
theorem SI.setOwnT (I : SI K H0 Z H1 σ ρ) (s1 : Same H1 H) {i : Nat} {T p : Addr} {k : Nat} {ds : List DL.D} (np : H1 p = none) (lp : H p ≠ none) (t : TupOwn K H (hide H (ZP (Zo Z σ ρ) p)) T p k ds) : SI K H0 Z H (σ.set i (some (.ref T))) (ρ.set i (.ownT p k ds)) := by
  refine ⟨I.di.setOwnT s1 np lp t, I.same.trans s1, fun a ⟨j, q⟩ => ?_⟩
  rcases own_setT q with ⟨_, e⟩ | ⟨_, q⟩
  · rw [e]
    exact I.same.free np
  · exact I.new a ⟨j, q⟩
theorem SI.gone (I : SI K H0 Z H σ ρ) (i : Nat) : SI K H0 Z H σ (ρ.set i .un) := by
  by_cases hi : i < σ.length
  · have q := I.setUn (i := i) (x := σ[i])
    have e : σ.set i σ[i] = σ := List.set_getElem_self hi
    rw [e] at q
    exact q
  · have e : ρ.set i .un = ρ := List.set_eq_of_length_le (by rw [I.di.len]; omega)
    rw [e]
    exact I
/-- the list within is written, and the tuple is not looked at any more -/
theorem SI.writeGone (I : SI K H0 Z H σ ρ) {i : Nat} {p : Addr} {k : Nat} {xs : List V} {es : List DL.D} (hr : ρ[i]? = some (.ownT p k es)) : SI K H0 Z (upd H p (.lst xs)) σ (ρ.set i .un) := by
  have hpo : Owned σ ρ p := ⟨i, .inr ⟨k, es, hr⟩⟩
  obtain ⟨T, _, t⟩ := I.di.slots i _ hr
  obtain ⟨_, ys, _, _, _, _, _, hp, _⟩ := t
  have sub : ∀ {j a}, OwnAt σ (ρ.set i .un) j a → i ≠ j ∧ OwnAt σ ρ j a := fun {j a} ho => by
    by_cases hj : i = j
    · subst hj
      obtain ⟨s, h2, h3⟩ := ho.slot
      rw [List.getElem?_set, if_pos rfl] at h2
      split at h2
      · cases h2
        cases h3
      · cases h2
    · unfold OwnAt at ho
      rw [List.getElem?_set_ne hj] at ho
      exact ⟨hj, ho⟩
  have subZ : ∀ b, Zo Z σ (ρ.set i .un) b → Zo Z σ ρ b := fun b hb => hb.elim .inl fun ⟨j, z⟩ => .inr ⟨j, (sub z).2⟩
  have hm : SameD (hide H (Zo Z σ ρ)) (hide (upd H p (.lst xs)) (Zo Z σ (ρ.set i .un))) := fun b o e _ => by
    obtain ⟨n, e1⟩ := hide_of e
    have nb : b ≠ p := fun z => n (.inr (z ▸ hpo))
    exact hide_at (fun z => n (subZ b z)) (by rw [upd_ne nb]; exact e1)
  have live : ∀ a, H a ≠ none → upd H p (.lst xs) a ≠ none := fun a h z => by
    by_cases e : a = p
    · rw [e, upd_same] at z; cases z
    · rw [upd_ne e] at z; exact h z
  refine ⟨⟨by rw [List.length_set]; exact I.di.len, fun j k a h1 h2 => I.di.one j k a (sub h1).2 (sub h2).2, fun a ⟨j, q⟩ => I.di.out a ⟨j, (sub q).2⟩, fun a z => live a (I.di.live a z), fun j t e => ?_⟩, I.same.over (I.new p hpo) hp, fun a ⟨j, q⟩ => I.new a ⟨j, (sub q).2⟩⟩
  by_cases hj : i = j
  · subst hj
    rw [List.getElem?_set, if_pos rfl] at e
    split at e
    · cases e
      trivial
    · cases e
  · rw [List.getElem?_set_ne hj] at e
    have q := I.di.slots j t e
    cases t with
    | un => trivial
    | dat d =>
      obtain ⟨v, e1, h1⟩ := q
      exact ⟨v, e1, Dp.same hm h1⟩
    | own gs =>
      obtain ⟨a, zs, e1, e2, h1⟩ := q
      have na : a ≠ p := fun z => hj (I.di.one i j p (.inr ⟨k, es, hr⟩) (.inl ⟨by rw [← z]; exact e1, gs, e⟩))
      exact ⟨a, zs, e1, by rw [upd_ne na]; exact e2, DpAll.same hm h1⟩
    | err a dd j =>
      have nd : dd ≠ p := fun z => by
        have q2 := q.2
        rw [z, hp] at q2
        cases q2
      exact ⟨q.1, by rw [upd_ne nd]; exact q.2⟩
    | ownT a k' gs =>
      obtain ⟨T', e1, h1⟩ := q
      have na : a ≠ p := fun z => hj (I.di.one i j p (.inr ⟨k, es, hr⟩) (.inr ⟨k', gs, by rw [← z]; exact e⟩))
      exact ⟨T', e1, h1.same hm fun _ z => by rw [upd_ne na]; exact z⟩
end
section
variable {X : Cx} {Cl : Nat → Addr} {W : WX} {K : PySem.W.Frag} {pos : Pos} {e : Expr} {es : List Expr} {g : FA}
/-- x = f(..), a tuple with a list of its own; rest reads it for the moment -/
noncomputable def fBindX (i : Nat) (F : DF) (n : Nat) (g : FA) (rest : FS) : FS := fun ρ => match g ρ with
  | none => none
  | some (.error e) => some (.exc ρ e.1 e.2)
  | some (.ok vs) => match stAll vs with
    | some as => if as.length = n then match F as with
      | some (.retX ds k) => match ds[k]? with
        | some (.list es) => if (noLsts (ds.set k .none) && noLsts es) = true then anyAd fun a _ => (rest (ρ.set i (.ownT a k ds))).bind (goneO i) else none
        | _ => none
      | some (.exc c i) => some (.exc ρ c i)
      | _ => none else none
    | none => none
theorem dss_bindX {n k i : Nat} {F : DF} {fa : Addr} {fd : FuncData} {ps : List Str} {x y : Str} {p p1 pos0 : Pos} {srest : List Stmt} {rest : FS} (hN : X.N.Nodup) (G : FnOk X.prog X.w X.K X.mg X.base (L2.CX X.prog X.w) k fa fd ps (spD X.K Cl n F)) (tk : Takes X W) (hr : Room k X.A) (hm : X.mg x = some (.ref fa)) (hk : PySem.W.keepIn X.K (.ref fa) = true) (hb : Binds X.K fd ps [])
    (ha : DA X Cl W (e :: es) g) (hrest : DSs X Cl W srest rest)
    (hg : Gl X x := by rfl) (hdb : (x == ("__debug__" : Str)) = false := by decide) (he : starEach (e :: es) X.env = (false, eval e X.env) :: starEach es X.env := by rfl) (hpl : (backTo pos0 (starEach es X.env)).any (·.1) = false := by rfl)
    (hi : X.N[i]? = some y := by rfl) (hx : Loc X.env.scope y := by first | exact .inl rfl | exact .inr rfl) (hf : X.fn y = true ∨ X.env.scope.names.lookup y = some .local := by first | exact .inl rfl | exact .inr rfl)
    (hs : swapsWith (.Call (.Name x p) (e :: es) [] pos0) (some (.Name y p1)) pos.line X.env = pure false := by rfl) :
    DSs X Cl W (.Assign [.Name y p1] (.Call (.Name x p) (e :: es) [] pos0) pos :: srest) (fBindX i F n g rest) :=
  PSs.imp (pss_cons (ps_set hN hi hx (pe_callS (E := WE W) G hr hg hm hk hb (fun σ => passAt tk σ) ha hdb he hpl) hs hf) hrest) fun D σ H ⟨H0, Z, ρ, o, I, e, q⟩ => by
  unfold fBindX at e
  cases e1 : g ρ with
  | none => rw [e1] at e; cases e
  | some r1 =>
    rw [e1] at e
    cases r1 with
    | error er =>
      cases e
      exact ta_step I.di e1 (fun er z => by cases z; exact OOk.err I q) fun vs xs H1 ev s1 hvs I1 => by cases ev
    | ok vs =>
      dsimp only at e
      split at e
      · rename_i as hst
        split at e
        · rename_i hl
          split at e
          · rename_i ds k' eF
            split at e
            · rename_i zs ek
              split at e
              · rename_i hno
                rw [Bool.and_eq_true] at hno
                refine callX_read I.di e1 hst hl eF (.inl ⟨_, _, rfl, fun T p xs ys H1 s1 h1 h2 h3 np h4 => ?_⟩)
                have hlt := (List.getElem?_eq_some_iff.mp h3).1
                obtain ⟨u, hu, hd⟩ := h2.get ek
                rw [h3] at hu
                cases hu
                obtain ⟨_, ws, ea, r1, r2⟩ := Dp.lst_inv hd
                cases ea
                have ew := rd_lst r1 h4
                subst ew
                have t1 : SqT X.K (hide H1 (ZP (Zo Z σ ρ) p)) T xs := by
                  rcases h1 with (h | ⟨o, h⟩) | h
                  · exact .inl (.inl (hideP h4 h fun z => by cases z))
                  · exact .inl (.inr ⟨o, hideP h4 h fun z => by cases z⟩)
                  · exact .inr h
                have t2 : DpAll X.K (hide H1 (ZP (Zo Z σ ρ) p)) (xs.set k' .non) (ds.set k' .none) := DpAll.free h4 hno.1 (DpAll.set .non k' h2)
                have I1 := I.setOwnT s1 (i := i) np (by rw [h4]; intro z; cases z) ⟨xs, ws, zs, t1, t2, h3, ek, h4, DpAll.free h4 hno.2 r2⟩
                have sp := anyAd_spec e p p
                cases er : rest (ρ.set i (.ownT p k' ds)) with
                | none => rw [er] at sp; cases sp
                | some o2 =>
                  rw [er] at sp
                  refine ⟨H0, Z, _, o2, I1, er, ?_⟩
                  cases o2 with
                  | nx ρ2 => cases sp; exact fun σ' H' I' => q _ H' (I'.gone i)
                  | brk ρ2 => cases sp; exact fun σ' H' I' => q _ H' (I'.gone i)
                  | ct ρ2 => cases sp; exact fun σ' H' I' => q _ H' (I'.gone i)
                  | ret d => cases sp; exact q
                  | retF ds => cases sp; exact q
                  | retX ds k => cases sp; exact q
                  | exc _ _ _ => cases sp
              · cases e
            · cases e
          · rename_i c i eF
            cases e
            exact callX_read I.di e1 hst hl eF (.inr ⟨_, _, rfl, OOk.err (e := (c, i)) I q⟩)
          · cases e
        · cases e
      · cases e
/-- x[k].append(E): x's list is its own, and x is not looked at any more -/
def fTApp (i k : Nat) (E : FE) : FS := fun ρ => match ρ[i]?, E ρ with
  | some (.ownT _ k' ds), some (.ok v) => if k' = k then match ds[k]? with
    | some (.list es) => if lineOk (es.length + 1) = true then some (.nx (ρ.set i .un)) else none
    | _ => none else none
  | _, _ => none
theorem ds_tapp {i kx : Nat} {app : Expr} {E : FE} {pos3 : Pos} (hp : PE X app (tBM X.K "list" rAppend (tOp (rIxT X.K) (tVar i) (tC (.int (kx : Nat)))) (tCons (teOf X.K Cl W E) tNil))) (hs3 : swapsWith app none pos3.line X.env = pure false := by rfl) :
    DS X Cl W (.Expr app pos3) (fTApp i kx E) := PS.imp (ps_expr hp hs3) fun D σ H ⟨H0, Z, ρ, o, I, e, q⟩ => by
  unfold fTApp at e
  split at e
  · rename_i p k' ds v hr eE
    split at e
    · rename_i ek
      subst ek
      split at e
      · rename_i es ed
        split at e
        · rename_i hline
          cases e
          obtain ⟨T, q1, xs, ys, es', h1, h2, h3, h4, h5, h6⟩ := I.di.slots i _ hr
          rw [ed] at h4
          cases h4
          have hT : SqT X.K H T xs := SqT.same hide_sub h1
          have hat : atI xs ((k' : Nat) : Int) = some (.ref p) := by
            have hlt := (List.getElem?_eq_some_iff.mp h3).1
            unfold atI ixN
            rw [if_pos (Int.natCast_nonneg _), if_pos (by omega), Int.toNat_natCast]
            exact h3
          refine ⟨_, q1, T, xs, ((k' : Nat) : Int), .ref p, rfl, rfl, hT, hat, .inl ⟨rfl, ys, .inl (.inl h5)⟩, te_step I.di eE (fun er z => nomatch z) fun v' y H3 ev s3 hv I3 => ?_⟩
          refine ⟨p, ys, y, rfl, rfl, s3.at h5, by have := lineOk_ok hline; rw [h6.length]; omega, ?_⟩
          exact q _ _ ((I.same' s3).writeGone hr)
        · cases e
      · cases e
    · cases e
  · cases e
end
end DL
set_option Elab.async false
set_option linter.all false
set_option maxRecDepth 100000
set_option maxHeartbeats 4000000
/-! DL32: max of a list, with a default and without. -/
namespace DL
open PySem PySem.Spec PyProof.Rows L2
def maxI : List Int → Int
  | [] => 0
  | n :: ns => ns.foldl (fun a y => if a < y then y else a) n
theorem maxI_fold : ∀ (ns : List Int) (n : Int), (ns.foldl (fun a y => if a < y then y else a) n ∈ n :: ns) ∧ ∀ y ∈ n :: ns, y ≤ ns.foldl (fun a y => if a < y then y else a) n
  | [], n => ⟨List.mem_cons_self, fun y hy => by rw [List.mem_singleton.mp hy]; exact Int.le_refl _⟩
  | m :: ns, n => by
    obtain ⟨h1, h2⟩ := maxI_fold ns (if n < m then m else n)
    have hc : ((if n < m then m else n) = m ∨ (if n < m then m else n) = n) ∧ n ≤ (if n < m then m else n) ∧ m ≤ (if n < m then m else n) := by
      by_cases h : n < m
      · rw [if_pos h]
        exact ⟨.inl rfl, by omega, by omega⟩
      · rw [if_neg h]
        exact ⟨.inr rfl, by omega, by omega⟩
    rw [List.foldl_cons]
    generalize (if n < m then m else n) = c at h1 h2 hc
    refine ⟨?_, fun y hy => ?_⟩
    · rcases List.mem_cons.mp h1 with e | e
      · rw [e]
        rcases hc.1 with z | z <;> rw [z]
        · exact List.mem_cons_of_mem _ List.mem_cons_self
        · exact List.mem_cons_self
      · exact List.mem_cons_of_mem _ (List.mem_cons_of_mem _ e)
    · have h0 := h2 c List.mem_cons_self
      rcases List.mem_cons.mp hy with z | hy
      · rw [z]; omega
      · rcases List.mem_cons.mp hy with z | hy
        · rw [z]; omega
        · exact h2 y (List.mem_cons_of_mem _ hy)
theorem maxI_mem {ns : List Int} (h : 0 < ns.length) : maxI ns ∈ ns := by
  cases ns with
  | nil => simp at h
  | cons n ns => exact (maxI_fold ns n).1
theorem maxI_ge {ns : List Int} : ∀ y ∈ ns, y ≤ maxI ns := by
  cases ns with
  | nil => intro y hy; cases hy
  | cons n ns => exact (maxI_fold ns n).2
theorem maxI_one {ns : List Int} {m : Int} (h1 : m ∈ ns) (h2 : ∀ y, y ∈ ns → y ≤ m) : m = maxI ns := by
  have a := maxI_ge m h1
  have b := h2 _ (maxI_mem (List.length_pos_of_mem h1))
  omega
@[simp] def bMaxL : List Val → Option Val
  | [v] => match v.d with
    | .list ds => match intsD ds with
      | some ns => if ns.length = 0 then none else some (.s (.int (maxI ns)))
      | none => none
    | _ => none
  | _ => none
section
variable {X : Cx} {Cl : Nat → Addr} {W : WX} {K : PySem.W.Frag} {e : Expr} {f : FE}
theorem cr_maxL : CRD K (rMax K) bMaxL := fun Z σ ρ H0 H xs vs v Q I s hv e q => by
  unfold bMaxL at e
  split at e
  · rename_i u
    obtain ⟨x, rfl, h⟩ := hv.one
    split at e
    · rename_i ds e1
      split at e
      · rename_i ns e2
        split at e
        · cases e
        · rename_i hne
          cases e
          have h1 := Dp.same hide_sub (h.dp I)
          rw [e1] at h1
          obtain ⟨p, ys, rfl, h2, h3⟩ := h1.lst_inv
          rw [intsD_eq e2] at h3
          have e3 := h3.ints
          subst e3
          refine ⟨p, ns, rfl, .inl h2, by omega, fun m m1 m2 => ?_⟩
          rw [maxI_one m1 m2]
          exact q _ H (Same.refl _) (.int _)
      · cases e
    · cases e
  · cases e
theorem reads_ints {h : Heap} : ∀ {vs : List Value} {ns : List Int}, IntsAre vs ns → PySem.ReadsAll h vs (ns.map PyData.int) []
  | _, _, .nil => .nil
  | _, _, .cons m t r => .cons (as := []) (.int m t) (reads_ints r)
def rMaxDf (K : PySem.W.Frag) : List V → List V → Hp → VK → Prop := fun vs zs H Q => ∃ (a : Addr) (ns : List Int) (d : Int), vs = [V.ref a] ∧ zs = [.int d] ∧ SqL K H a (ns.map V.int) ∧ Q (.int (if ns = [] then d else maxI ns)) H
theorem max_of (n : Int) (ns : List Int) : PySem.W.maxOf n ns = maxI (n :: ns) := by
  show ns.foldl (fun a y => if decide (a < y) = true then y else a) n = ns.foldl (fun a y => if a < y then y else a) n
  congr 1
  funext a y
  by_cases h : a < y <;> simp [h]
theorem cr_maxDf (hc : X.calm = true) (hu : X.A.units + 2 < cLine) : CallRK X (.builtin "max") [Str.ofString "default"] (rMaxDf X.K) := by
  intro pins s σ H vs zs us ws Q I r rz h
  obtain ⟨a, ns, d, rfl, rfl, hs, q⟩ := h
  obtain rfl := Vals.ref1 r
  obtain ⟨w1, rfl, e1⟩ := vals1 rz
  obtain ⟨t, rfl⟩ := e1
  obtain ⟨its, rv, hl, _⟩ := I.list hs
  refine PySem.W.max_list_datum_default (α := Int) (xs := ns) (I.ok.hd hc) hl.isList ⟨[], reads_ints rv.ints⟩ (by show X.A.units + 1 + 0 < cLine; omega) (fun e h' tk hk => ?_) fun y ys i v h' tk e hi hv hk => ?_
  · refine ⟨.int d, H, I.kept hk, ⟨t, rfl⟩, ?_⟩
    rw [if_pos e] at q
    exact q
  · subst e
    rw [max_of] at hv
    obtain ⟨as, hv⟩ := hv
    rw [if_neg (by simp)] at q
    have hv' : PySem.Reads h' v (.int (maxI (y :: ys))) as := hv
    cases hv' with
    | int i t => exact ⟨.int _, H, I.kept hk, ⟨_, rfl⟩, q⟩
theorem Room.u2 {k : Nat} {A : Around} (r : Room k A) : A.units + 2 < cLine := by have := r.un; omega
@[simp] def gMaxDf (d : Int) (v : Val) : Option Val := match v.d with
  | .list ds => match intsD ds with
    | some ns => some (.s (.int (if ns = [] then d else maxI ns)))
    | none => none
  | _ => none
theorem de_maxDf {x : Str} {d : Int} {j : Nat} {p pos kp cp : Pos} (hx : x = "max") (hu : X.A.units + 2 < cLine) (hm : X.mg x = none) (he : DE X Cl W e f) (hc : X.calm = true := by rfl) (hg : Gl X x := by rfl)
    (hs : starEach [e] X.env = (false, eval e X.env) :: starEach [] X.env := by rfl) (he2 : backTo pos (starEach [e] X.env) = (false, eval e X.env) :: backTo pos (starEach [] X.env) := by rfl) (hpl : (backTo pos (starEach [e] X.env)).any (·.1) = false := by rfl) :
    DE X Cl W (.Call (.Name x p) [e] [⟨some "default", .Constant (.int d) j cp, kp⟩] pos) (e1 (gMaxDf d) f) := by
  subst hx
  refine PE.imp (pe_callBK (ks := [Str.ofString "default"]) (cr_maxDf hc hu) hg hm (by decide +kernel) (pa_cons he pa_nil hs) (pk_cons pe_int pk_nil) (by decide) (by decide) he2 hpl) fun σ H Q ⟨Z, ρ, r1, I, e, q⟩ => ?_
  refine te_bind I e q fun v x H1 _ h1 s1 hv I1 q1 => ?_
  unfold gMaxDf at h1
  split at h1
  · rename_i ds e1
    split at h1
    · rename_i ns e2
      cases h1
      have h1 := Dp.same hide_sub (hv.dp I)
      rw [e1] at h1
      obtain ⟨p, ys, rfl, h2, h3⟩ := h1.lst_inv
      rw [intsD_eq e2] at h3
      have e3 := h3.ints
      subst e3
      exact ⟨p, ns, d, rfl, rfl, .inl h2, q _ H1 s1 (.int _)⟩
    · cases h1
  · cases h1
end
end DL
set_option Elab.async false
set_option linter.all false
namespace FN
open PySem PySem.Spec PyProof.Rows L2 DL
noncomputable section
def b_law_k92 : FS := fSeq (fSet 1 (eCall FN.d__law_draws 1 (aCons (eV 0) (aNil)))) (fSeq (fSet 2 (eCall FN.d__law_row 2 (aCons (eV 1) (aCons (eC (.int 0)) (aNil))))) (fSeq (fSet 3 (eG bList (aCons (eV 2) (aNil)))) (fSeq (fSet 4 (eCall FN.d_stuff 1 (aCons (eV 2) (aNil)))) (fSeq (fIf (tOrD (tNotD (tV (e1 (gIsi "list") (eV 4)))) (tOrD (tV (e2 gNe (eV 2) (eV 3))) (tOrD (tV (e2 gIn (eC (.int 0)) (eV 4))) (tV (e2 gNe (eV 4) (eCall FN.d__law_stuffed 1 (aCons (eV 3) (aNil)))))))) (fRet (eC (.bool false))) (fNx)) (fSeq (fIf (tV (e2 gNe (eG bLen (aCons (eV 4) (aNil))) (e2 gAdd (e2 gAdd (eG bLen (aCons (eV 2) (aNil))) (eC (.int 1))) (eCall FN.d__law_full 1 (aCons (eV 4) (aNil)))))) (fRet (eC (.bool false))) (fNx)) (fSeq (fSet 5 (eG bList (aCons (eV 4) (aNil)))) (fSeq (fSetO 6 (eCall FN.d_unstuff 1 (aCons (eV 4) (aNil)))) (fSeq (fIf (tOrD (tNotD (tV (e1 (gIsi "list") (eV 6)))) (tOrD (tV (e2 gNe (eV 6) (eV 3))) (tV (e2 gNe (eV 4) (eV 5))))) (fRet (eC (.bool false))) (fNx)) (fSeq (fApp 6 (eC (.int 1))) (fRet (eAndV (e2 gEq (eCall FN.d_unstuff 1 (aCons (eV 4) (aNil))) (eV 3)) (e2 gEq (eCall FN.d_stuff 1 (aCons (eV 3) (aNil))) (eV 5)))))))))))))
def d_law_k92 : DF := mkD 1 7 b_law_k92
end
end FN
set_option Elab.async false
set_option linter.all false
set_option maxRecDepth 100000
set_option maxHeartbeats 4000000
namespace K92
open PySem PySem.Spec PyProof.Rows L2 DL

def topS (i : Nat) : Stmt := PySem.Challenge.pw_spoolbox_k02_stuffing_back.main.body.getD i (.Pass ⟨0, 0, 0, 0⟩)
abbrev s__law_draws : Stmt := topS 8
theorem sc__law_draws : FnScope ["script", "draws", "k", "rest", "turn", "mixed"] ["script"] (defScope s__law_draws) := ⟨rfl, rfl, rfl, by decide +kernel, rfl, by decide +kernel, by decide +kernel⟩
abbrev s__law_at : Stmt := topS 9
theorem sc__law_at : FnScope ["draws", "k", "many"] ["draws", "k", "many"] (defScope s__law_at) := ⟨rfl, rfl, rfl, by decide +kernel, rfl, by decide +kernel, by decide +kernel⟩
abbrev s__law_row : Stmt := topS 12
theorem sc__law_row : FnScope ["draws", "k", "size", "menu", "row", "n", "byte"] ["draws", "k"] (defScope s__law_row) := ⟨rfl, rfl, rfl, by decide +kernel, rfl, by decide +kernel, by decide +kernel⟩
abbrev s_stuff : Stmt := topS 5
theorem sc_stuff : FnScope ["row", "piece", "block", "byte"] ["row"] (defScope s_stuff) := ⟨rfl, rfl, rfl, by decide +kernel, rfl, by decide +kernel, by decide +kernel⟩
abbrev s_unstuff : Stmt := topS 6
theorem sc_unstuff : FnScope ["piece", "row", "at", "size"] ["piece"] (defScope s_unstuff) := ⟨rfl, rfl, rfl, by decide +kernel, rfl, by decide +kernel, by decide +kernel⟩
abbrev s__law_stuffed : Stmt := topS 11
theorem sc__law_stuffed : FnScope ["row", "out", "block", "byte"] ["row"] (defScope s__law_stuffed) := ⟨rfl, rfl, rfl, by decide +kernel, rfl, by decide +kernel, by decide +kernel⟩
abbrev s__law_full : Stmt := topS 13
theorem sc__law_full : FnScope ["piece", "count", "at", "k"] ["piece"] (defScope s__law_full) := ⟨rfl, rfl, rfl, by decide +kernel, rfl, by decide +kernel, by decide +kernel⟩
abbrev s_law : Stmt := topS 14
theorem sc_law : FnScope ["script", "draws", "row", "kept", "piece", "told", "back"] ["script"] (defScope s_law) := ⟨rfl, rfl, rfl, by decide +kernel, rfl, by decide +kernel, by decide +kernel⟩
abbrev s_init : Stmt := inClass (topS 1) 0
theorem sc_init : FnScope ["self", "at"] ["self", "at"] (defScope s_init) := ⟨rfl, rfl, rfl, by decide +kernel, rfl, by decide +kernel, by decide +kernel⟩
structure Txt (K : PySem.W.Frag) (mg : Str → Option Value) (Cl : Nat → Addr) where
  a__law_draws : Addr
  fd__law_draws : FuncData
  F__law_draws : Fun K "_law_draws" "_law_draws" s__law_draws a__law_draws fd__law_draws
  g__law_draws : mg "_law_draws" = some (.ref a__law_draws)
  b__law_draws : Binds K fd__law_draws ["script"] []
  a__law_at : Addr
  fd__law_at : FuncData
  F__law_at : Fun K "_law_at" "_law_at" s__law_at a__law_at fd__law_at
  g__law_at : mg "_law_at" = some (.ref a__law_at)
  b__law_at : Binds K fd__law_at ["draws", "k", "many"] []
  a__law_row : Addr
  fd__law_row : FuncData
  F__law_row : Fun K "_law_row" "_law_row" s__law_row a__law_row fd__law_row
  g__law_row : mg "_law_row" = some (.ref a__law_row)
  b__law_row : Binds K fd__law_row ["draws", "k"] []
  a_stuff : Addr
  fd_stuff : FuncData
  F_stuff : Fun K "stuff" "stuff" s_stuff a_stuff fd_stuff
  g_stuff : mg "stuff" = some (.ref a_stuff)
  b_stuff : Binds K fd_stuff ["row"] []
  a_unstuff : Addr
  fd_unstuff : FuncData
  F_unstuff : Fun K "unstuff" "unstuff" s_unstuff a_unstuff fd_unstuff
  g_unstuff : mg "unstuff" = some (.ref a_unstuff)
  b_unstuff : Binds K fd_unstuff ["piece"] []
  a__law_stuffed : Addr
  fd__law_stuffed : FuncData
  F__law_stuffed : Fun K "_law_stuffed" "_law_stuffed" s__law_stuffed a__law_stuffed fd__law_stuffed
  g__law_stuffed : mg "_law_stuffed" = some (.ref a__law_stuffed)
  b__law_stuffed : Binds K fd__law_stuffed ["row"] []
  a__law_full : Addr
  fd__law_full : FuncData
  F__law_full : Fun K "_law_full" "_law_full" s__law_full a__law_full fd__law_full
  g__law_full : mg "_law_full" = some (.ref a__law_full)
  b__law_full : Binds K fd__law_full ["piece"] []
  a_law : Addr
  fd_law : FuncData
  F_law : Fun K "law" "law" s_law a_law fd_law
  g_law : mg "law" = some (.ref a_law)
  b_law : Binds K fd_law ["script"] []
  z_range : mg "range" = none
  z_min : mg "min" = none
  z_len : mg "len" = none
  z_abs : mg "abs" = none
  z_int : mg "int" = none
  z_list : mg "list" = none
  z_isinstance : mg "isinstance" = none
  t_FULL : Tok
  g_FULL : mg "FULL" = some (.int 255 t_FULL)
  a_init : Addr
  fd_init : FuncData
  n_init : InT K "SpoolboxError.__init__" s_init a_init fd_init
  x_BadStuffing : ExT K mg "BadStuffing" (Cl 4) a_init
section
variable {P : Program} {w : World} {K : PySem.W.Frag} {mg : Str → Option Value} {base : Heap} {Cl : Nat → Addr}
theorem ok_init (T : Txt K mg Cl) : FnOk P w K mg base (L2.CX P w) 1 T.a_init T.fd_init ["self", "at"] (spIn K) := by
  refine T.n_init.F.okX sc_init (fun vs H Q E ⟨a, C, y, e, _⟩ => by rw [e]; rfl) fun cdv A outer s H vs Q E hr h => ?_
  obtain ⟨a, C, y, rfl, h1, h2, h3, q⟩ := h
  refine ⟨_, pss_one (ps_ost (pv 0) (pv 1)), ?_⟩
  exact ⟨y, rfl, .ref a, rfl, a, C, rfl, h1, h2, .inl ⟨h3, fun dx n ne => q dx n ne⟩⟩
theorem ok__law_draws (T : Txt K mg Cl) : FnOk P w K mg base (L2.CX P w) 1 T.a__law_draws T.fd__law_draws ["script"] (spD K Cl 1 FN.d__law_draws) := by
  refine def_ok (k := 0) T.F__law_draws sc__law_draws rfl rfl fun cdv A outer s H E hr => ?_
  have tk := takes_of (X := cxOf (L2.CX P w) P w K mg base ["script", "draws", "k", "rest", "turn", "mixed"] "_law_draws" (defScope s__law_draws) T.a__law_draws cdv A outer s H E) rfl rfl rfl rfl
  have hp : PassesOwn (model P w) (cxOf (L2.CX P w) P w K mg base ["script", "draws", "k", "rest", "turn", "mixed"] "_law_draws" (defScope s__law_draws) T.a__law_draws cdv A outer s H E).A (cxOf (L2.CX P w) P w K mg base ["script", "draws", "k", "rest", "turn", "mixed"] "_law_draws" (defScope s__law_draws) T.a__law_draws cdv A outer s H E).env (cxOf (L2.CX P w) P w K mg base ["script", "draws", "k", "rest", "turn", "mixed"] "_law_draws" (defScope s__law_draws) T.a__law_draws cdv A outer s H E).xe := PassesOwn.leaving
  exact ds_cons (ds_setO (i := 1) sc__law_draws.nd (de_lst (da_nil))) (ds_cons (ds_for hp rfl (di_range1 T.z_range (da_cons (de_callB (call_min2 rfl) cr_min2 T.z_min (by decide +kernel) (da_cons (de_int) (da_cons (de_callB call_len cr_len T.z_len PySem.boot_len (da_cons (de_var (pv 0)) (da_nil))) (da_nil)))) (da_nil))) (dg_name (i := 2) sc__law_draws.nd) (ds_cons (ds_set (i := 3) sc__law_draws.nd (de_callB call_abs cr_abs T.z_abs (by decide +kernel) (da_cons (de_ix (de_var (pv 0)) (de_var (pv 2))) (da_nil)))) (ds_one (ds_if (dt_cmp op_geX r2_geX (de_var (pv 3)) (de_pow (de_int) (de_int)) (nomark _)) (ds_one (ds_for hp rfl (di_range1 T.z_range (da_cons (de_int) (da_nil))) (dg_name (i := 4) sc__law_draws.nd) (ds_one (ds_if (dt_cmp op_gtX r2_gtX (de_var (pv 3)) (de_int) (nomark _)) (ds_cons (ds_app (i := 1) (pe_bm PySem.F.plainAttrs_list PySem.F.slot_list_append PySem.F.type_list_append mt_append (pv 1) (pa_cons (de_mod (de_callTy call_int1 cr_int T.z_int (by decide +kernel) (da_cons (de_var (pv 3)) (da_nil))) (de_int)) pa_nil))) (ds_one (ds_set (i := 3) sc__law_draws.nd (de_div (de_var (pv 3)) (de_int))))) (ds_nil))))) (ds_cons (ds_set (i := 5) sc__law_draws.nd (de_mod (de_callTy call_int1 cr_int T.z_int (by decide +kernel) (da_cons (de_add (de_mul (de_var (pv 3)) (de_int)) (de_mul (de_add (de_var (pv 2)) (de_int)) (de_int))) (da_nil))) (de_int))) (ds_cons (ds_set (i := 5) sc__law_draws.nd (de_mod (de_callTy call_int1 cr_int T.z_int (by decide +kernel) (da_cons (de_add (de_add (de_mul (de_var (pv 5)) (de_int)) (de_mul (de_int) (de_var (pv 2)))) (de_int)) (da_nil))) (de_int))) (ds_cons (ds_app (i := 1) (pe_bm PySem.F.plainAttrs_list PySem.F.slot_list_append PySem.F.type_list_append mt_append (pv 1) (pa_cons (de_mod (de_callTy call_int1 cr_int T.z_int (by decide +kernel) (da_cons (de_var (pv 5)) (da_nil))) (de_int)) pa_nil))) (ds_one (ds_app (i := 1) (pe_bm PySem.F.plainAttrs_list PySem.F.slot_list_append PySem.F.type_list_append mt_append (pv 1) (pa_cons (de_mod (de_callTy call_int1 cr_int T.z_int (by decide +kernel) (da_cons (de_div (de_var (pv 5)) (de_int)) (da_nil))) (de_int)) pa_nil))))))))))) (ds_one (ds_ret (de_var (pv 1)))))
theorem ok__law_at (T : Txt K mg Cl) : FnOk P w K mg base (L2.CX P w) 1 T.a__law_at T.fd__law_at ["draws", "k", "many"] (spD K Cl 3 FN.d__law_at) := by
  refine def_ok (k := 0) T.F__law_at sc__law_at rfl rfl fun cdv A outer s H E hr => ?_
  have tk := takes_of (X := cxOf (L2.CX P w) P w K mg base ["draws", "k", "many"] "_law_at" (defScope s__law_at) T.a__law_at cdv A outer s H E) rfl rfl rfl rfl
  have hp : PassesOwn (model P w) (cxOf (L2.CX P w) P w K mg base ["draws", "k", "many"] "_law_at" (defScope s__law_at) T.a__law_at cdv A outer s H E).A (cxOf (L2.CX P w) P w K mg base ["draws", "k", "many"] "_law_at" (defScope s__law_at) T.a__law_at cdv A outer s H E).env (cxOf (L2.CX P w) P w K mg base ["draws", "k", "many"] "_law_at" (defScope s__law_at) T.a__law_at cdv A outer s H E).xe := PassesOwn.leaving
  exact ds_cons (ds_if (dt_cmp op_ltX r2_ltX (de_var (pv 1)) (de_callB call_len cr_len T.z_len PySem.boot_len (da_cons (de_var (pv 0)) (da_nil))) (nomark _)) (ds_one (ds_ret (de_mod (de_callTy call_int1 cr_int T.z_int (by decide +kernel) (da_cons (de_ix (de_var (pv 0)) (de_var (pv 1))) (da_nil))) (de_var (pv 2))))) (ds_nil)) (ds_one (ds_ret (de_int)))
theorem ok__law_row (T : Txt K mg Cl) : FnOk P w K mg base (L2.CX P w) 2 T.a__law_row T.fd__law_row ["draws", "k"] (spD K Cl 2 FN.d__law_row) := by
  have G__law_at := ok__law_at (P := P) (w := w) (base := base) T
  refine def_ok (k := 1) T.F__law_row sc__law_row rfl rfl fun cdv A outer s H E hr => ?_
  have tk := takes_of (X := cxOf (L2.CX P w) P w K mg base ["draws", "k", "size", "menu", "row", "n", "byte"] "_law_row" (defScope s__law_row) T.a__law_row cdv A outer s H E) rfl rfl rfl rfl
  have hp : PassesOwn (model P w) (cxOf (L2.CX P w) P w K mg base ["draws", "k", "size", "menu", "row", "n", "byte"] "_law_row" (defScope s__law_row) T.a__law_row cdv A outer s H E).A (cxOf (L2.CX P w) P w K mg base ["draws", "k", "size", "menu", "row", "n", "byte"] "_law_row" (defScope s__law_row) T.a__law_row cdv A outer s H E).env (cxOf (L2.CX P w) P w K mg base ["draws", "k", "size", "menu", "row", "n", "byte"] "_law_row" (defScope s__law_row) T.a__law_row cdv A outer s H E).xe := PassesOwn.leaving
  exact ds_cons (ds_set (i := 2) sc__law_row.nd (de_call G__law_at tk (hr.mono (by decide)) T.g__law_at T.F__law_at.kp T.b__law_at (da_cons (de_var (pv 0)) (da_cons (de_var (pv 1)) (da_cons (de_int) (da_nil)))))) (ds_cons (ds_if (dt_cmp (op_eqD hr.units) r2_eq (de_call G__law_at tk (hr.mono (by decide)) T.g__law_at T.F__law_at.kp T.b__law_at (da_cons (de_var (pv 0)) (da_cons (de_var (pv 1)) (da_cons (de_int) (da_nil))))) (de_int) (nomark _)) (ds_one (ds_set (i := 2) sc__law_row.nd (de_add (de_add (de_int) (de_call G__law_at tk (hr.mono (by decide)) T.g__law_at T.F__law_at.kp T.b__law_at (da_cons (de_var (pv 0)) (da_cons (de_add (de_var (pv 1)) (de_int)) (da_cons (de_int) (da_nil)))))) (de_mul (de_int) (de_call G__law_at tk (hr.mono (by decide)) T.g__law_at T.F__law_at.kp T.b__law_at (da_cons (de_var (pv 0)) (da_cons (de_add (de_var (pv 1)) (de_int)) (da_cons (de_int) (da_nil))))))))) (ds_nil)) (ds_cons (ds_set (i := 3) sc__law_row.nd (de_ix (de_lst (da_cons (de_int) (da_cons (de_int) (da_cons (de_int) (da_cons (de_int) (da_nil)))))) (de_call G__law_at tk (hr.mono (by decide)) T.g__law_at T.F__law_at.kp T.b__law_at (da_cons (de_var (pv 0)) (da_cons (de_add (de_var (pv 1)) (de_int)) (da_cons (de_int) (da_nil))))))) (ds_cons (ds_setO (i := 4) sc__law_row.nd (de_lst (da_nil))) (ds_cons (ds_for hp rfl (di_range1 T.z_range (da_cons (de_var (pv 2)) (da_nil))) (dg_name (i := 5) sc__law_row.nd) (ds_cons (ds_set (i := 6) sc__law_row.nd (de_mod (de_callTy call_int1 cr_int T.z_int (by decide +kernel) (da_cons (de_add (de_call G__law_at tk (hr.mono (by decide)) T.g__law_at T.F__law_at.kp T.b__law_at (da_cons (de_var (pv 0)) (da_cons (de_add (de_add (de_var (pv 1)) (de_int)) (de_var (pv 5))) (da_cons (de_int) (da_nil))))) (de_mul (de_mul (de_var (pv 5)) (de_var (pv 5))) (de_add (de_int) (de_call G__law_at tk (hr.mono (by decide)) T.g__law_at T.F__law_at.kp T.b__law_at (da_cons (de_var (pv 0)) (da_cons (de_add (de_var (pv 1)) (de_int)) (da_cons (de_int) (da_nil)))))))) (da_nil))) (de_var (pv 3)))) (ds_cons (ds_if (dt_w (dw_and (dt_cmp op_gtX r2_gtX (de_var (pv 2)) (de_int) (nomark _)) (dw_and1 (dt_cmp op_gtX r2_gtX (de_call G__law_at tk (hr.mono (by decide)) T.g__law_at T.F__law_at.kp T.b__law_at (da_cons (de_var (pv 0)) (da_cons (de_add (de_var (pv 1)) (de_int)) (da_cons (de_int) (da_nil))))) (de_int) (nomark _))))) (ds_cons (ds_set (i := 6) sc__law_row.nd (de_add (de_int) (de_mod (de_callTy call_int1 cr_int T.z_int (by decide +kernel) (da_cons (de_add (de_var (pv 6)) (de_var (pv 5))) (da_nil))) (de_int)))) (ds_one (ds_if (dt_w (dw_and (dt_cmp (op_eqD hr.units) r2_eq (de_call G__law_at tk (hr.mono (by decide)) T.g__law_at T.F__law_at.kp T.b__law_at (da_cons (de_var (pv 0)) (da_cons (de_add (de_var (pv 1)) (de_int)) (da_cons (de_int) (da_nil))))) (de_int) (nomark _)) (dw_and1 (dt_cmp (op_eqD hr.units) r2_eq (de_var (pv 5)) (de_call G__law_at tk (hr.mono (by decide)) T.g__law_at T.F__law_at.kp T.b__law_at (da_cons (de_var (pv 0)) (da_cons (de_add (de_var (pv 1)) (de_int)) (da_cons (de_int) (da_nil))))) (nomark _))))) (ds_one (ds_set (i := 6) sc__law_row.nd (de_int))) (ds_nil)))) (ds_nil)) (ds_one (ds_app (i := 4) (pe_bm PySem.F.plainAttrs_list PySem.F.slot_list_append PySem.F.type_list_append mt_append (pv 4) (pa_cons (de_var (pv 6)) pa_nil))))))) (ds_one (ds_ret (de_var (pv 4))))))))
theorem ok_stuff (T : Txt K mg Cl) : FnOk P w K mg base (L2.CX P w) 1 T.a_stuff T.fd_stuff ["row"] (spD K Cl 1 FN.d_stuff) := by
  refine def_ok (k := 0) T.F_stuff sc_stuff rfl rfl fun cdv A outer s H E hr => ?_
  have tk := takes_of (X := cxOf (L2.CX P w) P w K mg base ["row", "piece", "block", "byte"] "stuff" (defScope s_stuff) T.a_stuff cdv A outer s H E) rfl rfl rfl rfl
  have hp : PassesOwn (model P w) (cxOf (L2.CX P w) P w K mg base ["row", "piece", "block", "byte"] "stuff" (defScope s_stuff) T.a_stuff cdv A outer s H E).A (cxOf (L2.CX P w) P w K mg base ["row", "piece", "block", "byte"] "stuff" (defScope s_stuff) T.a_stuff cdv A outer s H E).env (cxOf (L2.CX P w) P w K mg base ["row", "piece", "block", "byte"] "stuff" (defScope s_stuff) T.a_stuff cdv A outer s H E).xe := PassesOwn.leaving
  exact ds_cons (ds_setO (i := 1) sc_stuff.nd (de_lst (da_nil))) (ds_cons (ds_setO (i := 2) sc_stuff.nd (de_lst (da_nil))) (ds_cons (ds_for hp rfl (di_seq (de_var (pv 0))) (dg_name (i := 3) sc_stuff.nd) (ds_one (ds_if (dt_cmp (op_eqD hr.units) r2_eq (de_var (pv 3)) (de_int) (nomark _)) (ds_cons (ds_ext (i := 1) (pe_bm PySem.F.plainAttrs_list PySem.F.slot_list_extend PySem.F.type_list_extend mt_extR (pv 1) (pa_cons (de_lst (da_cons (de_add (de_callB call_len cr_len T.z_len PySem.boot_len (da_cons (de_var (pv 2)) (da_nil))) (de_int)) (da_star (de_var (pv 2)) (da_nil)))) pa_nil))) (ds_one (ds_setO (i := 2) sc_stuff.nd (de_lst (da_nil))))) (ds_cons (ds_app (i := 2) (pe_bm PySem.F.plainAttrs_list PySem.F.slot_list_append PySem.F.type_list_append mt_append (pv 2) (pa_cons (de_var (pv 3)) pa_nil))) (ds_one (ds_if (dt_cmp (op_eqD hr.units) r2_eq (de_callB call_len cr_len T.z_len PySem.boot_len (da_cons (de_var (pv 2)) (da_nil))) (de_sub (de_globI T.g_FULL) (de_int)) (nomark _)) (ds_cons (ds_ext (i := 1) (pe_bm PySem.F.plainAttrs_list PySem.F.slot_list_extend PySem.F.type_list_extend mt_extR (pv 1) (pa_cons (de_lst (da_cons (de_globI T.g_FULL) (da_star (de_var (pv 2)) (da_nil)))) pa_nil))) (ds_one (ds_setO (i := 2) sc_stuff.nd (de_lst (da_nil))))) (ds_nil))))))) (ds_cons (ds_ext (i := 1) (pe_bm PySem.F.plainAttrs_list PySem.F.slot_list_extend PySem.F.type_list_extend mt_extR (pv 1) (pa_cons (de_lst (da_cons (de_add (de_callB call_len cr_len T.z_len PySem.boot_len (da_cons (de_var (pv 2)) (da_nil))) (de_int)) (da_star (de_var (pv 2)) (da_nil)))) pa_nil))) (ds_one (ds_ret (de_var (pv 1)))))))
theorem ok_unstuff (T : Txt K mg Cl) : FnOk P w K mg base (L2.CX P w) 3 T.a_unstuff T.fd_unstuff ["piece"] (spD K Cl 1 FN.d_unstuff) := by
  have G_init := ok_init (P := P) (w := w) (base := base) T
  refine def_ok (k := 2) T.F_unstuff sc_unstuff rfl rfl fun cdv A outer s H E hr => ?_
  have tk := takes_of (X := cxOf (L2.CX P w) P w K mg base ["piece", "row", "at", "size"] "unstuff" (defScope s_unstuff) T.a_unstuff cdv A outer s H E) rfl rfl rfl rfl
  have hp : PassesOwn (model P w) (cxOf (L2.CX P w) P w K mg base ["piece", "row", "at", "size"] "unstuff" (defScope s_unstuff) T.a_unstuff cdv A outer s H E).A (cxOf (L2.CX P w) P w K mg base ["piece", "row", "at", "size"] "unstuff" (defScope s_unstuff) T.a_unstuff cdv A outer s H E).env (cxOf (L2.CX P w) P w K mg base ["piece", "row", "at", "size"] "unstuff" (defScope s_unstuff) T.a_unstuff cdv A outer s H E).xe := PassesOwn.leaving
  exact ds_cons (ds_if (dt_cmp op_in_seq r2_in (de_int) (de_var (pv 0)) (by rfl)) (ds_one (ds_raise (c := 4) T.x_BadStuffing T.n_init G_init tk (hr.mono (by decide)) (de_index (pe_bm PySem.F.plainAttrs_list PySem.F.slot_list_index PySem.F.type_list_index mt_index (de_var (pv 0)) (pa_cons (de_int) pa_nil))))) (ds_nil)) (ds_cons (ds_if (dt_cmp (op_eqD hr.units) r2_eq (de_callB call_len cr_len T.z_len PySem.boot_len (da_cons (de_var (pv 0)) (da_nil))) (de_int) (nomark _)) (ds_one (ds_raise (c := 4) T.x_BadStuffing T.n_init G_init tk (hr.mono (by decide)) (de_int))) (ds_nil)) (ds_cons (ds_setO (i := 1) sc_unstuff.nd (de_lst (da_nil))) (ds_cons (ds_set (i := 2) sc_unstuff.nd (de_int)) (ds_cons (ds_while hp (dt_cmp op_ltX r2_ltX (de_var (pv 2)) (de_callB call_len cr_len T.z_len PySem.boot_len (da_cons (de_var (pv 0)) (da_nil))) (nomark _)) (ds_cons (ds_set (i := 3) sc_unstuff.nd (de_ix (de_var (pv 0)) (de_var (pv 2)))) (ds_cons (ds_if (dt_cmp op_gtX r2_gtX (de_add (de_var (pv 2)) (de_var (pv 3))) (de_callB call_len cr_len T.z_len PySem.boot_len (da_cons (de_var (pv 0)) (da_nil))) (nomark _)) (ds_one (ds_raise (c := 4) T.x_BadStuffing T.n_init G_init tk (hr.mono (by decide)) (de_var (pv 2)))) (ds_nil)) (ds_cons (ds_ext (i := 1) (pe_bm PySem.F.plainAttrs_list PySem.F.slot_list_extend PySem.F.type_list_extend mt_extR (pv 1) (pa_cons (de_sl (de_var (pv 0)) (do_some (de_add (de_var (pv 2)) (de_int))) (do_some (de_add (de_var (pv 2)) (de_var (pv 3))))) pa_nil))) (ds_cons (ds_aug (i := 2) sc_unstuff.nd (de_var (pv 3)) ip_add) (ds_one (ds_if (dt_cmp op_ltX r2_ltX (de_var (pv 3)) (de_globI T.g_FULL) (nomark _)) (ds_one (ds_app (i := 1) (pe_bm PySem.F.plainAttrs_list PySem.F.slot_list_append PySem.F.type_list_append mt_append (pv 1) (pa_cons (de_int) pa_nil)))) (ds_one (ds_if (dt_cmp (op_eqD hr.units) r2_eq (de_var (pv 2)) (de_callB call_len cr_len T.z_len PySem.boot_len (da_cons (de_var (pv 0)) (da_nil))) (nomark _)) (ds_one (ds_raise (c := 4) T.x_BadStuffing T.n_init G_init tk (hr.mono (by decide)) (de_var (pv 2)))) (ds_nil)))))))))) (ds_cons (ds_pop (i := 1) (pe_bm0 PySem.F.plainAttrs_list PySem.F.slot_list_pop PySem.F.type_list_pop mt_pop (pv 1))) (ds_one (ds_ret (de_var (pv 1)))))))))
theorem ok__law_stuffed (T : Txt K mg Cl) : FnOk P w K mg base (L2.CX P w) 1 T.a__law_stuffed T.fd__law_stuffed ["row"] (spD K Cl 1 FN.d__law_stuffed) := by
  refine def_ok (k := 0) T.F__law_stuffed sc__law_stuffed rfl rfl fun cdv A outer s H E hr => ?_
  have tk := takes_of (X := cxOf (L2.CX P w) P w K mg base ["row", "out", "block", "byte"] "_law_stuffed" (defScope s__law_stuffed) T.a__law_stuffed cdv A outer s H E) rfl rfl rfl rfl
  have hp : PassesOwn (model P w) (cxOf (L2.CX P w) P w K mg base ["row", "out", "block", "byte"] "_law_stuffed" (defScope s__law_stuffed) T.a__law_stuffed cdv A outer s H E).A (cxOf (L2.CX P w) P w K mg base ["row", "out", "block", "byte"] "_law_stuffed" (defScope s__law_stuffed) T.a__law_stuffed cdv A outer s H E).env (cxOf (L2.CX P w) P w K mg base ["row", "out", "block", "byte"] "_law_stuffed" (defScope s__law_stuffed) T.a__law_stuffed cdv A outer s H E).xe := PassesOwn.leaving
  exact ds_cons (ds_set (i := 1) sc__law_stuffed.nd (de_lst (da_nil))) (ds_cons (ds_set (i := 2) sc__law_stuffed.nd (de_lst (da_nil))) (ds_cons (ds_for hp rfl (di_seq (de_add (de_var (pv 0)) (de_lst (da_cons (de_int) (da_nil))))) (dg_name (i := 3) sc__law_stuffed.nd) (ds_cons (ds_if (dt_cmp op_gtX r2_gtX (de_var (pv 3)) (de_int) (nomark _)) (ds_one (ds_set (i := 2) sc__law_stuffed.nd (de_add (de_var (pv 2)) (de_lst (da_cons (de_var (pv 3)) (da_nil)))))) (ds_nil)) (ds_one (ds_if (dt_w (dw_or (dt_cmp (op_eqD hr.units) r2_eq (de_var (pv 3)) (de_int) (nomark _)) (dw_or1 (dt_cmp (op_eqD hr.units) r2_eq (de_callB call_len cr_len T.z_len PySem.boot_len (da_cons (de_var (pv 2)) (da_nil))) (de_int) (nomark _))))) (ds_cons (ds_set (i := 1) sc__law_stuffed.nd (de_add (de_add (de_var (pv 1)) (de_lst (da_cons (de_add (de_callB call_len cr_len T.z_len PySem.boot_len (da_cons (de_var (pv 2)) (da_nil))) (de_int)) (da_nil)))) (de_var (pv 2)))) (ds_one (ds_set (i := 2) sc__law_stuffed.nd (de_lst (da_nil))))) (ds_nil))))) (ds_one (ds_ret (de_var (pv 1))))))
theorem ok__law_full (T : Txt K mg Cl) : FnOk P w K mg base (L2.CX P w) 1 T.a__law_full T.fd__law_full ["piece"] (spD K Cl 1 FN.d__law_full) := by
  refine def_ok (k := 0) T.F__law_full sc__law_full rfl rfl fun cdv A outer s H E hr => ?_
  have tk := takes_of (X := cxOf (L2.CX P w) P w K mg base ["piece", "count", "at", "k"] "_law_full" (defScope s__law_full) T.a__law_full cdv A outer s H E) rfl rfl rfl rfl
  have hp : PassesOwn (model P w) (cxOf (L2.CX P w) P w K mg base ["piece", "count", "at", "k"] "_law_full" (defScope s__law_full) T.a__law_full cdv A outer s H E).A (cxOf (L2.CX P w) P w K mg base ["piece", "count", "at", "k"] "_law_full" (defScope s__law_full) T.a__law_full cdv A outer s H E).env (cxOf (L2.CX P w) P w K mg base ["piece", "count", "at", "k"] "_law_full" (defScope s__law_full) T.a__law_full cdv A outer s H E).xe := PassesOwn.leaving
  exact ds_cons (ds_set (i := 1) sc__law_full.nd (de_int)) (ds_cons (ds_set (i := 2) sc__law_full.nd (de_int)) (ds_cons (ds_for hp rfl (di_range1 T.z_range (da_cons (de_callB call_len cr_len T.z_len PySem.boot_len (da_cons (de_var (pv 0)) (da_nil))) (da_nil))) (dg_name (i := 3) sc__law_full.nd) (ds_one (ds_if (dt_cmp op_ltX r2_ltX (de_var (pv 2)) (de_callB call_len cr_len T.z_len PySem.boot_len (da_cons (de_var (pv 0)) (da_nil))) (nomark _)) (ds_cons (ds_set (i := 1) sc__law_full.nd (de_add (de_var (pv 1)) (de_callTy call_int1 cr_int T.z_int (by decide +kernel) (da_cons (de_cmp (op_eqD hr.units) r2_eq (de_ix (de_var (pv 0)) (de_var (pv 2))) (de_int) (nomark _)) (da_nil))))) (ds_one (ds_set (i := 2) sc__law_full.nd (de_add (de_var (pv 2)) (de_ix (de_var (pv 0)) (de_var (pv 2))))))) (ds_nil)))) (ds_one (ds_ret (de_var (pv 1))))))
theorem ok_law (T : Txt K mg Cl) : FnOk P w K mg base (L2.CX P w) 4 T.a_law T.fd_law ["script"] (spD K Cl 1 FN.d_law_k92) := by
  have G__law_draws := ok__law_draws (P := P) (w := w) (base := base) T
  have G__law_row := ok__law_row (P := P) (w := w) (base := base) T
  have G_stuff := ok_stuff (P := P) (w := w) (base := base) T
  have G__law_stuffed := ok__law_stuffed (P := P) (w := w) (base := base) T
  have G__law_full := ok__law_full (P := P) (w := w) (base := base) T
  have G_unstuff := ok_unstuff (P := P) (w := w) (base := base) T
  refine def_ok (k := 3) T.F_law sc_law rfl rfl fun cdv A outer s H E hr => ?_
  have tk := takes_of (X := cxOf (L2.CX P w) P w K mg base ["script", "draws", "row", "kept", "piece", "told", "back"] "law" (defScope s_law) T.a_law cdv A outer s H E) rfl rfl rfl rfl
  have hp : PassesOwn (model P w) (cxOf (L2.CX P w) P w K mg base ["script", "draws", "row", "kept", "piece", "told", "back"] "law" (defScope s_law) T.a_law cdv A outer s H E).A (cxOf (L2.CX P w) P w K mg base ["script", "draws", "row", "kept", "piece", "told", "back"] "law" (defScope s_law) T.a_law cdv A outer s H E).env (cxOf (L2.CX P w) P w K mg base ["script", "draws", "row", "kept", "piece", "told", "back"] "law" (defScope s_law) T.a_law cdv A outer s H E).xe := PassesOwn.leaving
  exact ds_cons (ds_set (i := 1) sc_law.nd (de_call G__law_draws tk (hr.mono (by decide)) T.g__law_draws T.F__law_draws.kp T.b__law_draws (da_cons (de_var (pv 0)) (da_nil)))) (ds_cons (ds_set (i := 2) sc_law.nd (de_call G__law_row tk (hr.mono (by decide)) T.g__law_row T.F__law_row.kp T.b__law_row (da_cons (de_var (pv 1)) (da_cons (de_int) (da_nil))))) (ds_cons (ds_set (i := 3) sc_law.nd (de_callTy call_list_of cr_list T.z_list (by decide +kernel) (da_cons (de_var (pv 2)) (da_nil)))) (ds_cons (ds_set (i := 4) sc_law.nd (de_call G_stuff tk (hr.mono (by decide)) T.g_stuff T.F_stuff.kp T.b_stuff (da_cons (de_var (pv 2)) (da_nil)))) (ds_cons (ds_if (dt_w (dw_or (dt_not (dt_val (de_isi rfl T.z_isinstance T.z_list (by decide +kernel) (by decide) (de_var (pv 4))))) (dw_or (dt_cmp (op_neD hr.units) r2_ne (de_var (pv 2)) (de_var (pv 3)) (nomark _)) (dw_or (dt_cmp op_in_seq r2_in (de_int) (de_var (pv 4)) (by rfl)) (dw_or1 (dt_cmp (op_neD hr.units) r2_ne (de_var (pv 4)) (de_call G__law_stuffed tk (hr.mono (by decide)) T.g__law_stuffed T.F__law_stuffed.kp T.b__law_stuffed (da_cons (de_var (pv 3)) (da_nil))) (nomark _))))))) (ds_one (ds_ret (de_bl))) (ds_nil)) (ds_cons (ds_if (dt_cmp (op_neD hr.units) r2_ne (de_callB call_len cr_len T.z_len PySem.boot_len (da_cons (de_var (pv 4)) (da_nil))) (de_add (de_add (de_callB call_len cr_len T.z_len PySem.boot_len (da_cons (de_var (pv 2)) (da_nil))) (de_int)) (de_call G__law_full tk (hr.mono (by decide)) T.g__law_full T.F__law_full.kp T.b__law_full (da_cons (de_var (pv 4)) (da_nil)))) (nomark _)) (ds_one (ds_ret (de_bl))) (ds_nil)) (ds_cons (ds_set (i := 5) sc_law.nd (de_callTy call_list_of cr_list T.z_list (by decide +kernel) (da_cons (de_var (pv 4)) (da_nil)))) (ds_cons (ds_setO (i := 6) sc_law.nd (de_call G_unstuff tk (hr.mono (by decide)) T.g_unstuff T.F_unstuff.kp T.b_unstuff (da_cons (de_var (pv 4)) (da_nil)))) (ds_cons (ds_if (dt_w (dw_or (dt_not (dt_val (de_isi rfl T.z_isinstance T.z_list (by decide +kernel) (by decide) (de_var (pv 6))))) (dw_or (dt_cmp (op_neD hr.units) r2_ne (de_var (pv 6)) (de_var (pv 3)) (nomark _)) (dw_or1 (dt_cmp (op_neD hr.units) r2_ne (de_var (pv 4)) (de_var (pv 5)) (nomark _)))))) (ds_one (ds_ret (de_bl))) (ds_nil)) (ds_cons (ds_app (i := 6) (pe_bm PySem.F.plainAttrs_list PySem.F.slot_list_append PySem.F.type_list_append mt_append (pv 6) (pa_cons (de_int) pa_nil))) (ds_one (ds_ret (de_andV (de_cmp (op_eqD hr.units) r2_eq (de_call G_unstuff tk (hr.mono (by decide)) T.g_unstuff T.F_unstuff.kp T.b_unstuff (da_cons (de_var (pv 4)) (da_nil))) (de_var (pv 3)) (nomark _)) (de_one (de_cmp (op_eqD hr.units) r2_eq (de_call G_stuff tk (hr.mono (by decide)) T.g_stuff T.F_stuff.kp T.b_stuff (da_cons (de_var (pv 3)) (da_nil))) (de_var (pv 5)) (nomark _)))))))))))))))
end
theorem all_mk {P : Program} {w : World} {K : PySem.W.Frag} {h : Heap} {mg : Str → Option Value} {fa : Addr} (X : K.In h) (G : h.Ns mainGlobals mg) (hfa : mg "law" = some (.ref fa)) (hl : ∀ ns : List Int, ns.length ≤ 63 → FN.d_law_k92 [scr ns] = some (.ret (.bool true)))
    {f0 : Addr} {od0 an0 : Option Addr} {sl0 : Array (Option Value)} {oc0 kV0 dc0 pm0 cd0 ct0 : Value}
    (a0 : PySem.W.nsIn K mainGlobals "_law_draws" = some (some (.ref f0))) (l0 : K.lookup f0 = some ⟨oc0, od0, .func (PySem.W.fnOf "_law_draws" "_law_draws" (defArgs s__law_draws) (defBody s__law_draws) (defScope s__law_draws) .none kV0 dc0 pm0 an0 cd0 ct0), sl0⟩) (c0 : PySem.W.codeIn K cd0 "_law_draws" = true) (k0 : PySem.W.keepIn K (.ref f0) = true)
    {f1 : Addr} {od1 an1 : Option Addr} {sl1 : Array (Option Value)} {oc1 kV1 dc1 pm1 cd1 ct1 : Value}
    (a1 : PySem.W.nsIn K mainGlobals "_law_at" = some (some (.ref f1))) (l1 : K.lookup f1 = some ⟨oc1, od1, .func (PySem.W.fnOf "_law_at" "_law_at" (defArgs s__law_at) (defBody s__law_at) (defScope s__law_at) .none kV1 dc1 pm1 an1 cd1 ct1), sl1⟩) (c1 : PySem.W.codeIn K cd1 "_law_at" = true) (k1 : PySem.W.keepIn K (.ref f1) = true)
    {f2 : Addr} {od2 an2 : Option Addr} {sl2 : Array (Option Value)} {oc2 kV2 dc2 pm2 cd2 ct2 : Value}
    (a2 : PySem.W.nsIn K mainGlobals "_law_row" = some (some (.ref f2))) (l2 : K.lookup f2 = some ⟨oc2, od2, .func (PySem.W.fnOf "_law_row" "_law_row" (defArgs s__law_row) (defBody s__law_row) (defScope s__law_row) .none kV2 dc2 pm2 an2 cd2 ct2), sl2⟩) (c2 : PySem.W.codeIn K cd2 "_law_row" = true) (k2 : PySem.W.keepIn K (.ref f2) = true)
    {f3 : Addr} {od3 an3 : Option Addr} {sl3 : Array (Option Value)} {oc3 kV3 dc3 pm3 cd3 ct3 : Value}
    (a3 : PySem.W.nsIn K mainGlobals "stuff" = some (some (.ref f3))) (l3 : K.lookup f3 = some ⟨oc3, od3, .func (PySem.W.fnOf "stuff" "stuff" (defArgs s_stuff) (defBody s_stuff) (defScope s_stuff) .none kV3 dc3 pm3 an3 cd3 ct3), sl3⟩) (c3 : PySem.W.codeIn K cd3 "stuff" = true) (k3 : PySem.W.keepIn K (.ref f3) = true)
    {f4 : Addr} {od4 an4 : Option Addr} {sl4 : Array (Option Value)} {oc4 kV4 dc4 pm4 cd4 ct4 : Value}
    (a4 : PySem.W.nsIn K mainGlobals "unstuff" = some (some (.ref f4))) (l4 : K.lookup f4 = some ⟨oc4, od4, .func (PySem.W.fnOf "unstuff" "unstuff" (defArgs s_unstuff) (defBody s_unstuff) (defScope s_unstuff) .none kV4 dc4 pm4 an4 cd4 ct4), sl4⟩) (c4 : PySem.W.codeIn K cd4 "unstuff" = true) (k4 : PySem.W.keepIn K (.ref f4) = true)
    {f5 : Addr} {od5 an5 : Option Addr} {sl5 : Array (Option Value)} {oc5 kV5 dc5 pm5 cd5 ct5 : Value}
    (a5 : PySem.W.nsIn K mainGlobals "_law_stuffed" = some (some (.ref f5))) (l5 : K.lookup f5 = some ⟨oc5, od5, .func (PySem.W.fnOf "_law_stuffed" "_law_stuffed" (defArgs s__law_stuffed) (defBody s__law_stuffed) (defScope s__law_stuffed) .none kV5 dc5 pm5 an5 cd5 ct5), sl5⟩) (c5 : PySem.W.codeIn K cd5 "_law_stuffed" = true) (k5 : PySem.W.keepIn K (.ref f5) = true)
    {f6 : Addr} {od6 an6 : Option Addr} {sl6 : Array (Option Value)} {oc6 kV6 dc6 pm6 cd6 ct6 : Value}
    (a6 : PySem.W.nsIn K mainGlobals "_law_full" = some (some (.ref f6))) (l6 : K.lookup f6 = some ⟨oc6, od6, .func (PySem.W.fnOf "_law_full" "_law_full" (defArgs s__law_full) (defBody s__law_full) (defScope s__law_full) .none kV6 dc6 pm6 an6 cd6 ct6), sl6⟩) (c6 : PySem.W.codeIn K cd6 "_law_full" = true) (k6 : PySem.W.keepIn K (.ref f6) = true)
    {f7 : Addr} {od7 an7 : Option Addr} {sl7 : Array (Option Value)} {oc7 kV7 dc7 pm7 cd7 ct7 : Value}
    (a7 : PySem.W.nsIn K mainGlobals "law" = some (some (.ref f7))) (l7 : K.lookup f7 = some ⟨oc7, od7, .func (PySem.W.fnOf "law" "law" (defArgs s_law) (defBody s_law) (defScope s_law) .none kV7 dc7 pm7 an7 cd7 ct7), sl7⟩) (c7 : PySem.W.codeIn K cd7 "law" = true) (k7 : PySem.W.keepIn K (.ref f7) = true)
    (z_range : PySem.W.nsIn K mainGlobals "range" = some none)
    (z_min : PySem.W.nsIn K mainGlobals "min" = some none)
    (z_len : PySem.W.nsIn K mainGlobals "len" = some none)
    (z_abs : PySem.W.nsIn K mainGlobals "abs" = some none)
    (z_int : PySem.W.nsIn K mainGlobals "int" = some none)
    (z_list : PySem.W.nsIn K mainGlobals "list" = some none)
    (z_isinstance : PySem.W.nsIn K mainGlobals "isinstance" = some none)
    {t_FULL : Tok} (n_FULL : PySem.W.nsIn K mainGlobals "FULL" = some (some (.int 255 t_FULL)))
    {fI : Addr} {odI anI : Option Addr} {slI : Array (Option Value)} {ocI kVI dcI pmI cdI ctI : Value} (lI : K.lookup fI = some ⟨ocI, odI, .func (PySem.W.fnOf "__init__" "SpoolboxError.__init__" (defArgs s_init) (defBody s_init) (defScope s_init) .none kVI dcI pmI anI cdI ctI), slI⟩) (cI : PySem.W.codeIn K cdI "SpoolboxError.__init__" = true) (kI : PySem.W.keepIn K (.ref fI) = true) (tI : PySem.W.typeIn K (.ref fI) = some (.type "function"))
    {C_BadStuffing : Addr} {nm_BadStuffing q_BadStuffing : Str} {N_BadStuffing : Addr} {bs_BadStuffing bm_BadStuffing : List Value} {sn_BadStuffing : List Str} {sub_BadStuffing : List Value} {ab_BadStuffing : Bool} {col_BadStuffing : Option Bool} {dd_BadStuffing : Option Addr} {m0_BadStuffing m1_BadStuffing m2_BadStuffing m3_BadStuffing m5_BadStuffing : Option Value}
    (xa_BadStuffing : PySem.W.nsIn K mainGlobals "BadStuffing" = some (some (.ref C_BadStuffing))) (xl_BadStuffing : K.lookup C_BadStuffing = some (excClassObj nm_BadStuffing q_BadStuffing C_BadStuffing N_BadStuffing bs_BadStuffing bm_BadStuffing true sn_BadStuffing sub_BadStuffing ab_BadStuffing col_BadStuffing dd_BadStuffing m0_BadStuffing m1_BadStuffing m2_BadStuffing m3_BadStuffing m5_BadStuffing "ValueError.__new__")) (xr_BadStuffing : PySem.HandSPX.refsVE bm_BadStuffing = true)
    (xs_BadStuffing : PySem.W.findIn K (.ref C_BadStuffing) "__setattr__" = some (some (.builtin "object.__setattr__"))) (xe_BadStuffing : PySem.W.subIn K (.ref C_BadStuffing) (.type "BaseException") = some true) (xt_BadStuffing : PySem.W.typeIn K (.ref C_BadStuffing) = some (.type "type")) (xk_BadStuffing : PySem.W.keepIn K (.ref C_BadStuffing) = true)
    (xn_BadStuffing : PySem.W.findIn K (.ref C_BadStuffing) "at" = some none) (xi_BadStuffing : PySem.W.findIn K (.ref C_BadStuffing) "__init__" = some (some (.ref fI))) (xg_BadStuffing : PySem.W.findIn K (.ref C_BadStuffing) "__getattribute__" = some (some (.builtin "BaseException.__getattribute__"))) (xh_BadStuffing : PySem.W.findIn K (.ref C_BadStuffing) "__getattr__" = some none) (xd_BadStuffing : PySem.W.hasDictIn K C_BadStuffing = true)
    : ∃ fd : FuncData, (∀ (s : Shared) (v : Value), BindsTo s fd ⟨[v], []⟩ [("script", v)]) ∧ ∀ base : Heap, K.In base → base.Ns mainGlobals mg → FnOk P w K mg base (L2.CX P w) 4 fa fd ["script"] (DL.spLaw K) := by
  have e := hfa.symm.trans (PySem.W.mg_of X G a7)
  cases e
  let T : Txt K mg (fun n => match n with | 4 => C_BadStuffing | _ => 0) := ⟨f0, _, fun_mk l0 c0 k0, PySem.W.mg_of X G a0, (fun_mk (st := s__law_draws) l0 c0 k0).binds (ps := ["script"]) fun _ _ _ _ _ _ us hl => match us, hl with | [_], _ => rfl, f1, _, fun_mk l1 c1 k1, PySem.W.mg_of X G a1, (fun_mk (st := s__law_at) l1 c1 k1).binds (ps := ["draws", "k", "many"]) fun _ _ _ _ _ _ us hl => match us, hl with | [_, _, _], _ => rfl, f2, _, fun_mk l2 c2 k2, PySem.W.mg_of X G a2, (fun_mk (st := s__law_row) l2 c2 k2).binds (ps := ["draws", "k"]) fun _ _ _ _ _ _ us hl => match us, hl with | [_, _], _ => rfl, f3, _, fun_mk l3 c3 k3, PySem.W.mg_of X G a3, (fun_mk (st := s_stuff) l3 c3 k3).binds (ps := ["row"]) fun _ _ _ _ _ _ us hl => match us, hl with | [_], _ => rfl, f4, _, fun_mk l4 c4 k4, PySem.W.mg_of X G a4, (fun_mk (st := s_unstuff) l4 c4 k4).binds (ps := ["piece"]) fun _ _ _ _ _ _ us hl => match us, hl with | [_], _ => rfl, f5, _, fun_mk l5 c5 k5, PySem.W.mg_of X G a5, (fun_mk (st := s__law_stuffed) l5 c5 k5).binds (ps := ["row"]) fun _ _ _ _ _ _ us hl => match us, hl with | [_], _ => rfl, f6, _, fun_mk l6 c6 k6, PySem.W.mg_of X G a6, (fun_mk (st := s__law_full) l6 c6 k6).binds (ps := ["piece"]) fun _ _ _ _ _ _ us hl => match us, hl with | [_], _ => rfl, fa, _, fun_mk l7 c7 k7, PySem.W.mg_of X G a7, (fun_mk (st := s_law) l7 c7 k7).binds (ps := ["script"]) fun _ _ _ _ _ _ us hl => match us, hl with | [_], _ => rfl, PySem.W.mg_none_of X G z_range, PySem.W.mg_none_of X G z_min, PySem.W.mg_none_of X G z_len, PySem.W.mg_none_of X G z_abs, PySem.W.mg_none_of X G z_int, PySem.W.mg_none_of X G z_list, PySem.W.mg_none_of X G z_isinstance, _, PySem.W.mg_of X G n_FULL, fI, _, ⟨fun_mk lI cI kI, tI, (fun_mk (st := s_init) lI cI kI).binds (ps := ["self", "at"]) fun _ _ _ _ _ _ us hl => match us, hl with | [_, _], _ => rfl⟩, ⟨PySem.W.mg_of X G xa_BadStuffing, ⟨⟨_, _, _, _, _, _, _, _, _, _, _, _, _, _, _, xl_BadStuffing, xr_BadStuffing⟩, xs_BadStuffing, xe_BadStuffing, xt_BadStuffing, xk_BadStuffing⟩, xn_BadStuffing, xi_BadStuffing, ⟨xg_BadStuffing, xh_BadStuffing, xe_BadStuffing, xd_BadStuffing⟩⟩⟩
  exact ⟨T.fd_law, fun s v => .of_eq rfl, fun base _ _ => law_sp hl (ok_law T)⟩
end K92
set_option Elab.async false
set_option linter.all false
set_option maxRecDepth 100000
set_option maxHeartbeats 1000000
/-! DM1: reckoning with the functions of data: places, ranges, loops. -/
namespace DL
open PySem PySem.Spec PyProof.Rows L2
/-! ### places -/
theorem atI_of {α : Type} {xs : List α} {i : Int} (h0 : 0 ≤ i) (h1 : i < xs.length) : atI xs i = some (xs[i.toNat]'(by omega)) := by
  unfold atI ixN
  rw [if_pos h0, if_pos h1]
  exact List.getElem?_eq_getElem _
theorem atI_map {α β : Type} (f : α → β) (xs : List α) (i : Int) : atI (xs.map f) i = (atI xs i).map f := by
  unfold atI
  rw [List.length_map]
  cases ixN xs.length i with
  | none => rfl
  | some j => simp
theorem cMod_ok {i j : Int} (h : 0 < j) : cMod i j = true := decide_eq_true h
theorem cDiv_is {i j : Int} (h : 0 < j) (h2 : j < 1073741824) : cDiv i j = true := by
  unfold cDiv
  rw [decide_eq_true h, decide_eq_true h2]
  rfl
theorem cMul_l {i j : Int} (h : -1000000000 < i) (h2 : i < 1000000000) : cMul i j = true := by
  unfold cMul
  rw [decide_eq_true (show -(2 ^ 64) < i by omega), decide_eq_true (show i < 2 ^ 64 by omega)]
  rfl
theorem cMul_r {i j : Int} (h : -1000000000 < j) (h2 : j < 1000000000) : cMul i j = true := by
  unfold cMul
  rw [decide_eq_true (show -(2 ^ 64) < j by omega), decide_eq_true (show j < 2 ^ 64 by omega)]
  exact Bool.or_true _
theorem cPow_is {i j : Int} (h0 : 0 ≤ j) (h1 : j ≤ 1000000) (h2 : -1000000000 < i) (h3 : i < 1000000000) : cPow i j = true := by
  unfold cPow
  rw [decide_eq_true h0, decide_eq_true h1, decide_eq_true (show i.natAbs < 2 ^ 64 by omega)]
  rfl
theorem cShr_ok {i j : Int} (h : 0 ≤ j) : cShr i j = true := decide_eq_true h
theorem cRng_is {j : Int} (h : -1000000000 < j) (h2 : j < 1000000000) : cRng j = true := by
  unfold cRng
  rw [decide_eq_true (show -(2 ^ 62) ≤ j by omega), decide_eq_true (show j < 2 ^ 62 by omega)]
  rfl
theorem lineOk_small {n : Nat} (h : n ≤ 16777216) : lineOk n = true := decide_eq_true h
/-! ### equality of data -/
theorem eqvAll_ints : ∀ (ns ms : List Int), PyData.eqvAll (ns.map PyData.int) (ms.map PyData.int) = decide (ns = ms)
  | [], [] => rfl
  | [], _ :: _ => rfl
  | _ :: _, [] => rfl
  | n :: ns, m :: ms => by
    show (PyData.eqv (.int n) (.int m) && PyData.eqvAll (ns.map PyData.int) (ms.map PyData.int)) = _
    rw [eqvAll_ints ns ms]
    show ((n == m) && decide (ns = ms)) = _
    by_cases h1 : n = m
    · by_cases h2 : ns = ms
      · simp [h1, h2]
      · simp [h1, h2]
    · simp [h1]
theorem canLay_ints : ∀ ns : List Int, PyData.canLayAll0 (ns.map PyData.int) = true
  | [] => rfl
  | n :: ns => canLay_ints ns
theorem depth_ints : ∀ ns : List Int, PyData.depthAll (ns.map PyData.int) = 0
  | [] => rfl
  | n :: ns => by
    show max 0 (PyData.depthAll (ns.map PyData.int)) = 0
    rw [depth_ints ns]
    rfl
@[simp] theorem shaped_int (i : Int) : SeqAt.shaped (.int i) = true := rfl
@[simp] theorem shaped_bool (i : Bool) : SeqAt.shaped (.bool i) = true := rfl
@[simp] theorem shaped_none : SeqAt.shaped .none = true := rfl
@[simp] theorem shaped_ints (ns : List Int) : SeqAt.shaped (.list (ns.map PyData.int)) = true := by
  unfold SeqAt.shaped
  have h1 : PyData.canLay0 (.list (ns.map PyData.int)) = true := canLay_ints ns
  have h2 : PyData.depth (.list (ns.map PyData.int)) = 1 := by
    show PyData.depthAll (ns.map PyData.int) + 1 = 1
    rw [depth_ints ns]
  rw [h1, h2]
  rfl
theorem eqD_refl {d : D} (h : SeqAt.shaped d = true) : eqD d d = some true := by
  unfold eqD
  rw [h]
  show some (PyData.eqv d d) = some true
  rw [SeqAt.eqv_refl d (SeqAt.canLay_of_shaped h)]
@[simp] theorem eqD_int (i j : Int) : eqD (.int i) (.int j) = some (i == j) := rfl
@[simp] theorem eqD_ints (ns ms : List Int) : eqD (.list (ns.map PyData.int)) (.list (ms.map PyData.int)) = some (decide (ns = ms)) := by
  unfold eqD
  rw [shaped_ints, shaped_ints]
  show some (PyData.eqvAll (ns.map PyData.int) (ms.map PyData.int)) = _
  rw [eqvAll_ints]
/-! ### loops -/
/-- a loop that is a fold: the slots are an encoding of a state -/
theorem forL_fold {S α : Type} {g : FG} {body : FS} (enc : S → Rho) (dat : α → D) (step : S → α → S) (Inv : Nat → S → Prop) {xs : List α}
    (h : ∀ i x s, xs[i]? = some x → Inv i s → ∃ ρ1, g (dat x) (enc s) = some ρ1 ∧ body ρ1 = some (.nx (enc (step s x))) ∧ Inv (i + 1) (step s x)) :
    ∀ (n : Nat) (s : S), Inv n s → n ≤ xs.length → forL g body ((xs.drop n).map dat) (enc s) = some (.nx (enc ((xs.drop n).foldl step s))) ∧ Inv xs.length ((xs.drop n).foldl step s) := by
  intro n
  induction hk : xs.length - n generalizing n with
  | zero =>
    intro s hI hn
    have e : n = xs.length := by omega
    subst e
    rw [List.drop_length]
    exact ⟨rfl, hI⟩
  | succ k ih =>
    intro s hI hn
    have hlt : n < xs.length := by omega
    obtain ⟨ρ1, h1, h2, h3⟩ := h n xs[n] s (List.getElem?_eq_getElem hlt) hI
    obtain ⟨h4, h5⟩ := ih (n + 1) (by omega) _ h3 hlt
    rw [List.drop_eq_getElem_cons hlt, List.map_cons, List.foldl_cons]
    refine ⟨?_, h5⟩
    unfold forL
    rw [h1]
    dsimp only
    rw [h2]
    exact h4
/-- .. from the start -/
theorem forL_fold0 {S α : Type} {g : FG} {body : FS} (enc : S → Rho) (dat : α → D) (step : S → α → S) (Inv : Nat → S → Prop) {xs : List α} {s : S} (h0 : Inv 0 s)
    (h : ∀ i x s, xs[i]? = some x → Inv i s → ∃ ρ1, g (dat x) (enc s) = some ρ1 ∧ body ρ1 = some (.nx (enc (step s x))) ∧ Inv (i + 1) (step s x)) :
    forL g body (xs.map dat) (enc s) = some (.nx (enc (xs.foldl step s))) ∧ Inv xs.length (xs.foldl step s) := by
  have q := forL_fold enc dat step Inv h 0 s h0 (Nat.zero_le _)
  rw [List.drop_zero] at q
  exact q
/-- a loop by its invariant alone -/
theorem forL_inv {g : FG} {body : FS} (Inv : Nat → Rho → Prop) {ds : List D} {ρ : Rho} (h0 : Inv 0 ρ)
    (h : ∀ i d ρ, ds[i]? = some d → Inv i ρ → ∃ ρ1 ρ2, g d ρ = some ρ1 ∧ body ρ1 = some (.nx ρ2) ∧ Inv (i + 1) ρ2) : ∃ ρ', forL g body ds ρ = some (.nx ρ') ∧ Inv ds.length ρ' := by
  have go : ∀ (k n : Nat) (ρ : Rho), ds.length - n = k → n ≤ ds.length → Inv n ρ → ∃ ρ', forL g body (ds.drop n) ρ = some (.nx ρ') ∧ Inv ds.length ρ' := by
    intro k
    induction k with
    | zero =>
      intro n ρ hk hn hI
      have e : n = ds.length := by omega
      subst e
      rw [List.drop_length]
      exact ⟨ρ, rfl, hI⟩
    | succ k ih =>
      intro n ρ hk hn hI
      have hlt : n < ds.length := by omega
      obtain ⟨ρ1, ρ2, h1, h2, h3⟩ := h n ds[n] ρ (List.getElem?_eq_getElem hlt) hI
      obtain ⟨ρ', h4, h5⟩ := ih (n + 1) ρ2 (by omega) hlt h3
      refine ⟨ρ', ?_, h5⟩
      rw [List.drop_eq_getElem_cons hlt]
      unfold forL
      rw [h1]
      dsimp only
      rw [h2]
      exact h4
  have q := go _ 0 ρ rfl (Nat.zero_le _) h0
  rw [List.drop_zero] at q
  exact q
/-- a comprehension that keeps every item -/
theorem lcL_map {α : Type} {tt : FT} {fe : FE} {st : D → Option Rho} (dat : α → D) (F : α → D) : ∀ {xs : List α}, (∀ x ∈ xs, ∃ ρ v, st (dat x) = some ρ ∧ tt ρ = some (.ok true) ∧ fe ρ = some (.ok v) ∧ v.st = some (F x)) → lcL tt fe st (xs.map dat) = some (xs.map F)
  | [], _ => rfl
  | x :: xs, h => by
    obtain ⟨ρ, v, h1, h2, h3, h4⟩ := h x List.mem_cons_self
    have ih := lcL_map (tt := tt) (fe := fe) (st := st) dat F (xs := xs) fun y hy => h y (List.mem_cons_of_mem _ hy)
    rw [List.map_cons, List.map_cons]
    unfold lcL
    rw [h1]
    dsimp only
    rw [h2]
    dsimp only
    rw [h3]
    dsimp only
    rw [h4, ih]
    rfl
theorem rangeD_eq (lo : Int) (n : Nat) : rangeD lo n = (List.range n).map fun (i : Nat) => PyData.int (lo + (i : Int)) := rfl
end DL
set_option Elab.async false
set_option linter.all false
set_option maxRecDepth 100000
set_option maxHeartbeats 1000000
/-! DM2: the functions of data, rule by rule. -/
namespace DL
open PySem PySem.Spec PyProof.Rows L2
section
variable {f g : FS} {ρ ρ1 : Rho} {o : Option Out} {n k : Nat} {ds : List D} {d : D} {E F fa fb fc : FE} {t u : FT} {i : Nat} {v a b : Val}
theorem seqN (h1 : f ρ = some (.nx ρ1)) (h2 : g ρ1 = o) : fSeq f g ρ = o := by
  unfold fSeq
  rw [h1]
  exact h2
theorem seqR (h1 : f ρ = some (.ret d)) : fSeq f g ρ = some (.ret d) := by
  unfold fSeq
  rw [h1]
theorem mk_ret (h : f (ds.map .dat ++ List.replicate (k - n) .un) = some (.ret d)) : mkD n k f ds = some (.ret d) := by
  rw [mkD_ap, h]
theorem mk_retF {es : List D} (h : f (ds.map .dat ++ List.replicate (k - n) .un) = some (.retF es)) : mkD n k f ds = some (.retF es) := by
  rw [mkD_ap, h]
theorem mk_exc {c : Nat} {j : Int} {ρ' : Rho} (h : f (ds.map .dat ++ List.replicate (k - n) .un) = some (.exc ρ' c j)) : mkD n k f ds = some (.exc c j) := by
  rw [mkD_ap, h]
theorem mk_nx (h : f (ds.map .dat ++ List.replicate (k - n) .un) = some (.nx ρ1)) : mkD n k f ds = some (.ret .none) := by
  rw [mkD_ap, h]
theorem r_e2 {h : Val → Val → Option Val} (ha : fa ρ = some (.ok a)) (hb : fb ρ = some (.ok b)) (e : h a b = some v) : e2 h fa fb ρ = some (.ok v) := by
  rw [e2_ap]
  unfold bE
  rw [ha]
  dsimp only
  rw [hb]
  dsimp only
  rw [e]
  rfl
theorem r_e1 {h : Val → Option Val} (ha : fa ρ = some (.ok a)) (e : h a = some v) : e1 h fa ρ = some (.ok v) := by
  rw [e1_ap]
  unfold bE
  rw [ha]
  dsimp only
  rw [e]
  rfl
theorem r_set {d : D} (q : E ρ = some (.ok v)) (h : v.st = some d) (e : ρ.set i (.dat d) = ρ1) : fSet i E ρ = some (.nx ρ1) := by
  rw [fSet_ap]
  unfold sE
  rw [q]
  dsimp only
  rw [h, ← e]
  rfl
theorem r_setO (q : E ρ = some (.ok (.f ds))) (e : ρ.set i (.own ds) = ρ1) : fSetO i E ρ = some (.nx ρ1) := by
  rw [fSetO_ap]
  unfold sE
  rw [q, ← e]
theorem r_ift (h : t ρ = some (.ok true)) (e : f ρ = o) : fIf t f g ρ = o := by
  unfold fIf
  rw [h]
  exact e
theorem r_iff (h : t ρ = some (.ok false)) (e : g ρ = o) : fIf t f g ρ = o := by
  unfold fIf
  rw [h]
  exact e
theorem r_ret (q : E ρ = some (.ok (.s d))) : fRet E ρ = some (.ret d) := by
  rw [fRet_ap]
  unfold sE
  rw [q]
theorem r_retF (q : E ρ = some (.ok (.f ds))) : fRet E ρ = some (.retF ds) := by
  rw [fRet_ap]
  unfold sE
  rw [q]
theorem r_retB (q : E ρ = some (.ok (.b ds))) : fRet E ρ = some (.retF ds) := by
  rw [fRet_ap]
  unfold sE
  rw [q]
theorem r_retM (q : E ρ = some (.ok (.m d))) : fRet E ρ = some (.ret d) := by
  rw [fRet_ap]
  unfold sE
  rw [q]
theorem r_tV {x : Bool} (q : E ρ = some (.ok v)) (h : v.d = .bool x) : tV E ρ = some (.ok x) := by
  unfold tV
  rw [q]
  dsimp only
  rw [h]
theorem r_not {x : Bool} (q : t ρ = some (.ok x)) : tNotD t ρ = some (.ok (!x)) := by
  unfold tNotD
  rw [q]
theorem r_notT (q : t ρ = some (.ok true)) : tNotD t ρ = some (.ok false) := r_not q
theorem r_notF (q : t ρ = some (.ok false)) : tNotD t ρ = some (.ok true) := r_not q
theorem r_isi {T : String} (q : fa ρ = some (.ok v)) (n : excV v.d = false := by rfl) : e1 (gIsi T) fa ρ = some (.ok (.s (.bool (isTy T v.d)))) := r_e1 q (by unfold gIsi; rw [n]; rfl)
theorem r_or_t (q : t ρ = some (.ok true)) : tOrD t u ρ = some (.ok true) := by
  unfold tOrD
  rw [q]
theorem r_or_f {x : Bool} (q : t ρ = some (.ok false)) (q2 : u ρ = some (.ok x)) : tOrD t u ρ = some (.ok x) := by
  unfold tOrD
  rw [q]
  exact q2
theorem r_and_t {x : Bool} (q : t ρ = some (.ok true)) (q2 : u ρ = some (.ok x)) : tAndD t u ρ = some (.ok x) := by
  unfold tAndD
  rw [q]
  exact q2
theorem r_and_f (q : t ρ = some (.ok false)) : tAndD t u ρ = some (.ok false) := by
  unfold tAndD
  rw [q]
theorem r_args0 : aNil ρ = some (.ok []) := rfl
theorem r_args {A : FA} {vs : List Val} (q : E ρ = some (.ok v)) (q2 : A ρ = some (.ok vs)) : aCons E A ρ = some (.ok (v :: vs)) := by
  unfold aCons
  rw [q]
  dsimp only
  rw [q2]
theorem r_eG {h : List Val → Option Val} {A : FA} {vs : List Val} (q : A ρ = some (.ok vs)) (e : h vs = some v) : eG h A ρ = some (.ok v) := by
  unfold eG
  rw [q]
  dsimp only
  rw [e]
  rfl
theorem r_call {G : DF} {A : FA} {vs : List Val} {es : List D} {d : D} (q : A ρ = some (.ok vs)) (hs : stAll vs = some es) (hn : vs.length = n) (e : G es = some (.ret d)) : eCall G n A ρ = some (.ok (.s d)) := by
  unfold eCall
  rw [q]
  dsimp only
  rw [if_pos hn, stAll_d hs, e]
  dsimp only
  rw [hs]
theorem r_callF {G : DF} {A : FA} {vs : List Val} {es : List D} {ds : List D} (q : A ρ = some (.ok vs)) (hs : stAll vs = some es) (hn : vs.length = n) (e : G es = some (.retF ds)) : eCall G n A ρ = some (.ok (.f ds)) := by
  unfold eCall
  rw [q]
  dsimp only
  rw [if_pos hn, stAll_d hs, e]
  dsimp only
  rw [hs]
theorem r_callFs {G : DF} {A : FA} {vs : List Val} {es : List D} {ds : List D} (q : A ρ = some (.ok vs)) (hs : vs.map Val.d = es) (hn : vs.length = n) (e : G es = some (.retF ds)) (hd : ds.all scalarD = true) : eCall G n A ρ = some (.ok (.f ds)) := by
  unfold eCall
  rw [q]
  dsimp only
  rw [if_pos hn, hs, e]
  dsimp only
  cases stAll vs with
  | some _ => rfl
  | none =>
    dsimp only
    rw [if_pos hd]
/-- .. whose answer is for the moment only, if an argument is -/
theorem r_callD {G : DF} {A : FA} {vs : List Val} {es : List D} {d : D} (q : A ρ = some (.ok vs)) (hs : vs.map Val.d = es) (hn : vs.length = n) (e : G es = some (.ret d)) : ∃ v, eCall G n A ρ = some (.ok v) ∧ v.d = d := by
  unfold eCall
  rw [q]
  dsimp only
  rw [if_pos hn, hs, e]
  dsimp only
  cases stAll vs with
  | some _ => exact ⟨_, rfl, rfl⟩
  | none => exact ⟨_, rfl, rfl⟩
theorem scalar_ints : ∀ ns : List Int, (ns.map PyData.int).all scalarD = true
  | [] => rfl
  | n :: ns => scalar_ints ns
theorem r_callX {G : DF} {A : FA} {vs : List Val} {es : List D} {c : Nat} {j : Int} (q : A ρ = some (.ok vs)) (hs : stAll vs = some es) (hn : vs.length = n) (e : G es = some (.exc c j)) : eCall G n A ρ = some (.error (c, j)) := by
  unfold eCall
  rw [q]
  dsimp only
  rw [if_pos hn, stAll_d hs, e]
theorem r_v {d : D} (h : ρ[i]? = some (.dat d)) : eV i ρ = some (.ok (.s d)) := by
  unfold eV
  rw [h]
  rfl
theorem r_eq {x : Bool} (ha : fa ρ = some (.ok a)) (hb : fb ρ = some (.ok b)) (e : eqD a.d b.d = some x) : e2 gEq fa fb ρ = some (.ok (.s (.bool x))) := r_e2 ha hb (by unfold gEq; rw [e]; rfl)
theorem r_ne {x : Bool} (ha : fa ρ = some (.ok a)) (hb : fb ρ = some (.ok b)) (e : eqD a.d b.d = some x) : e2 gNe fa fb ρ = some (.ok (.s (.bool (!x)))) := r_e2 ha hb (by unfold gNe; rw [e]; rfl)
theorem r_eqI {i j : Int} (ha : fa ρ = some (.ok (.s (.int i)))) (hb : fb ρ = some (.ok (.s (.int j)))) : e2 gEq fa fb ρ = some (.ok (.s (.bool (i == j)))) := r_eq ha hb rfl
theorem r_neI {i j : Int} (ha : fa ρ = some (.ok (.s (.int i)))) (hb : fb ρ = some (.ok (.s (.int j)))) : e2 gNe fa fb ρ = some (.ok (.s (.bool (!(i == j))))) := r_ne ha hb rfl
theorem r_eqI_t {i j : Int} (ha : fa ρ = some (.ok (.s (.int i)))) (hb : fb ρ = some (.ok (.s (.int j)))) (h : i = j) : tV (e2 gEq fa fb) ρ = some (.ok true) := r_tV (r_eqI ha hb) (by rw [beq_iff_eq.mpr h]; rfl)
theorem r_eqI_f {i j : Int} (ha : fa ρ = some (.ok (.s (.int i)))) (hb : fb ρ = some (.ok (.s (.int j)))) (h : i ≠ j) : tV (e2 gEq fa fb) ρ = some (.ok false) := r_tV (r_eqI ha hb) (by rw [beq_eq_false_iff_ne.mpr h]; rfl)
theorem r_neI_f {i j : Int} (ha : fa ρ = some (.ok (.s (.int i)))) (hb : fb ρ = some (.ok (.s (.int j)))) (h : i = j) : tV (e2 gNe fa fb) ρ = some (.ok false) := r_tV (r_neI ha hb) (by rw [beq_iff_eq.mpr h]; rfl)
theorem r_neI_t {i j : Int} (ha : fa ρ = some (.ok (.s (.int i)))) (hb : fb ρ = some (.ok (.s (.int j)))) (h : i ≠ j) : tV (e2 gNe fa fb) ρ = some (.ok true) := r_tV (r_neI ha hb) (by rw [beq_eq_false_iff_ne.mpr h]; rfl)
theorem r_put {es : List D} {j : Int} {n : Nat} {d : D} (q : E ρ = some (.ok a)) (ho : ρ[i]? = some (.own es)) (q2 : F ρ = some (.ok b)) (hj : a.d = .int j) (hd : b.st = some d) (hn : ixN es.length j = some n) (e : ρ.set i (.own (es.set n d)) = ρ1) : fPut i E F ρ = some (.nx ρ1) := by
  rw [fPut_ap]
  unfold sE
  rw [q2]
  dsimp only
  unfold fOwn
  rw [ho]
  dsimp only
  rw [q]
  dsimp only
  rw [hj, hd]
  dsimp only
  rw [hn, ← e]
  rfl
theorem r_app {es : List D} {d : D} (ho : ρ[i]? = some (.own es)) (q : E ρ = some (.ok v)) (h : v.st = some d) (hl : es.length + 1 ≤ 16777216) (e : ρ.set i (.own (es ++ [d])) = ρ1) : fApp i E ρ = some (.nx ρ1) := by
  rw [fApp_ap]
  unfold fOwn
  rw [ho]
  dsimp only
  unfold sE
  rw [q]
  dsimp only
  rw [h]
  dsimp only
  rw [if_pos (lineOk_small hl), ← e]
theorem r_ext {es us : List D} (ho : ρ[i]? = some (.own es)) (q : E ρ = some (.ok v)) (h : v.items = some us) (hl : es.length + us.length ≤ 16777216) (e : ρ.set i (.own (es ++ us)) = ρ1) : fExt i E ρ = some (.nx ρ1) := by
  rw [fExt_ap]
  unfold fOwn
  rw [ho]
  dsimp only
  unfold sE
  rw [q]
  dsimp only
  rw [h]
  dsimp only
  rw [if_pos (lineOk_small hl), ← e]
end
/-- a comprehension over range(n) that keeps every item -/
theorem eLc_range {vs : List Nat} {st : Rho → D → Option Rho} {a : FA} {tt : FT} {fe : FE} {ρ : Rho} {n : Nat} {F : Nat → D} (h0 : noOwn ρ vs = true) (ha : iRange1 a ρ = some (.ok (rangeD 0 n))) (hl : n ≤ 16777216)
    (h : ∀ k, k < n → ∃ ρ1 v, st (wipeR ρ vs) (.int (k : Int)) = some ρ1 ∧ tt ρ1 = some (.ok true) ∧ fe ρ1 = some (.ok v) ∧ v.st = some (F k)) : eLcG vs st (iRange1 a) tt fe ρ = some (.ok (.f ((List.range n).map F))) := by
  have e : lcL tt fe (st (wipeR ρ vs)) (rangeD 0 n) = some ((List.range n).map F) := by
    rw [rangeD_eq]
    refine lcL_map (fun (i : Nat) => PyData.int (0 + (i : Int))) F fun k hk => ?_
    rw [Int.zero_add]
    exact h k (List.mem_range.mp hk)
  unfold eLcG
  rw [if_pos h0, ha]
  dsimp only
  rw [e]
  dsimp only
  rw [if_pos (lineOk_small (by rw [List.length_map, List.length_range]; exact hl))]
theorem atI_nat {α : Type} {xs : List α} {i : Nat} (h : i < xs.length) : atI xs (i : Int) = some xs[i] := by
  rw [atI_of (Int.natCast_nonneg i) (by omega)]
  simp
end DL
set_option Elab.async false
set_option linter.all false
set_option maxRecDepth 100000
set_option maxHeartbeats 1000000
/-! DM3: rows of numbers as data. -/
namespace DL
open PySem PySem.Spec PyProof.Rows L2
/-- a row of numbers from 0 on, as data -/
def jd (row : List Nat) : List D := row.map fun (n : Nat) => .int (n : Int)
@[simp] theorem jd_nil : jd [] = [] := rfl
theorem jd_cons (n : Nat) (r : List Nat) : jd (n :: r) = .int (n : Int) :: jd r := rfl
theorem jd_app (a b : List Nat) : jd (a ++ b) = jd a ++ jd b := List.map_append
theorem jd_len (r : List Nat) : (jd r).length = r.length := List.length_map ..
theorem jd_ints (r : List Nat) : jd r = (r.map fun (n : Nat) => (n : Int)).map PyData.int := by
  unfold jd
  rw [List.map_map]
  rfl
theorem jd_scalar (r : List Nat) : (jd r).all scalarD = true := by
  rw [jd_ints]
  exact scalar_ints _
theorem jd_inj {a b : List Nat} (h : jd a = jd b) : a = b := by
  induction a generalizing b with
  | nil => cases b with
    | nil => rfl
    | cons _ _ => cases h
  | cons n a ih => cases b with
    | nil => cases h
    | cons m b =>
      rw [jd_cons, jd_cons] at h
      injection h with h1 h2
      injection h1 with h1
      rw [ih h2, Int.ofNat.inj h1]
theorem eqD_jd (a b : List Nat) : eqD (.list (jd a)) (.list (jd b)) = some (decide (a = b)) := by
  rw [jd_ints, jd_ints, eqD_ints]
  congr 1
  apply decide_eq_decide.mpr
  constructor
  · intro h
    apply jd_inj
    rw [jd_ints, jd_ints, h]
  · intro h
    rw [h]
theorem eqD_jd_self (a : List Nat) : eqD (.list (jd a)) (.list (jd a)) = some true := by
  rw [eqD_jd]
  simp
theorem atI_jd {r : List Nat} {i : Nat} (h : i < r.length) : atI (jd r) (i : Int) = some (.int (r[i] : Nat)) := by
  have h' : i < (jd r).length := by rw [jd_len]; exact h
  rw [atI_nat h']
  simp [jd]
theorem jd_at {r : List Nat} {i : Nat} {d : D} (h : (jd r)[i]? = some d) : ∃ hi : i < r.length, d = .int (r[i] : Nat) := by
  obtain ⟨hi, e⟩ := List.getElem?_eq_some_iff.mp h
  have hi' : i < r.length := by rw [jd_len] at hi; exact hi
  refine ⟨hi', ?_⟩
  rw [← e]
  simp [jd]
theorem inD_jd (n : Nat) (r : List Nat) : inD (.int (n : Int)) (jd r) = r.contains n := by
  unfold inD inV
  induction r with
  | nil => rfl
  | cons m r ih =>
    rw [jd_cons, List.map_cons, List.any_cons, ih, List.contains_cons]
    congr 1
    show ((m : Int) == (n : Int)) = _
    by_cases h : n = m
    · rw [beq_iff_eq.mpr h, beq_iff_eq.mpr (by omega)]
    · rw [beq_eq_false_iff_ne.mpr h, beq_eq_false_iff_ne.mpr (by omega)]
theorem stAll_s : ∀ ds : List D, stAll (ds.map Val.s) = some ds
  | [] => rfl
  | d :: ds => by
    rw [List.map_cons]
    unfold stAll
    rw [stAll_s ds]
    rfl
theorem cutL_nat {α : Type} (xs : List α) (i j : Nat) (hj : j ≤ xs.length) (hi : i ≤ j) : cutL xs (some (i : Int)) (some (j : Int)) = (xs.drop i).take (j - i) := by
  unfold cutL
  rw [HT.sIx_nat, HT.sIx_nat, Nat.min_eq_left hj, Nat.min_eq_left (Nat.le_trans hi hj)]
theorem ixN_nat {n i : Nat} (h : i < n) : ixN n (i : Int) = some i := by
  unfold ixN
  rw [if_pos (Int.natCast_nonneg _), if_pos (by omega), Int.toNat_natCast]
section
variable {ρ ρ1 : Rho} {ds us : List D} {d : D} {E fa fb : FE} {A : FA} {vs : List Val} {i : Nat} {v : Val}
theorem r_for {it : FI} {g : FG} {body : FS} {xs : List D} {o : Out} (q : it ρ = some (.ok xs)) (h : forL g body xs ρ = some o) : fFor it g body ρ = some o := by
  unfold fFor
  rw [q]
  exact h
theorem r_seqF {xs : List D} (q : E ρ = some (.ok (.f xs))) : iSeq E ρ = some (.ok xs) := by
  unfold iSeq
  rw [q]
theorem r_seqL {xs : List D} (q : E ρ = some (.ok (.s (.list xs)))) : iSeq E ρ = some (.ok xs) := by
  unfold iSeq
  rw [q]
theorem r_oS {j : Int} (q : E ρ = some (.ok (.s (.int j)))) : oSome E ρ = some (.ok (some j)) := by
  unfold oSome
  rw [q]
  rfl
theorem r_sl {L R : FO} {lo hi : Option Int} {xs : List D} (q : E ρ = some (.ok v)) (hv : v = .s (.list xs) ∨ v = .b xs ∨ v = .f xs) (q1 : L ρ = some (.ok lo)) (q2 : R ρ = some (.ok hi)) : eSl E L R ρ = some (.ok (.f (cutL xs lo hi))) := by
  unfold eSl
  rw [q]
  dsimp only
  rw [q1]
  dsimp only
  rw [q2]
  rcases hv with rfl | rfl | rfl <;> rfl
theorem r_aug {g : Int → Int → Int} {a j : Int} (h : ρ[i]? = some (.dat (.int a))) (q : E ρ = some (.ok (.s (.int j)))) (e : ρ.set i (.dat (.int (g a j))) = ρ1) : fAug i g E ρ = some (.nx ρ1) := by
  unfold fAug
  rw [h]
  dsimp only
  unfold sE
  rw [q, ← e]
  rfl
theorem r_pop {es : List D} (ho : ρ[i]? = some (.own es)) (hn : es ≠ []) (e : ρ.set i (.own es.dropLast) = ρ1) : fPop i ρ = some (.nx ρ1) := by
  rw [fPop_ap]
  unfold fOwn
  rw [ho]
  dsimp only
  rw [if_neg (by simpa using hn), ← e]
theorem r_while {t : FT} {body : FS} {n : Nat} {o : Out} (h : whileL t body n ρ = some o) (hn : n ≤ 1000000000) : fWhile t body ρ = some o := whileL_mono fuel h (by
  have e : fuel = 18446744073709551616 := rfl
  omega)
theorem w_stop {t : FT} {body : FS} {n : Nat} (q : t ρ = some (.ok false)) : whileL t body (n + 1) ρ = some (.nx ρ) := by
  unfold whileL
  rw [q]
theorem w_go {t : FT} {body : FS} {n : Nat} {o : Option Out} (q : t ρ = some (.ok true)) (q2 : body ρ = some (.nx ρ1)) (h : whileL t body n ρ1 = o) : whileL t body (n + 1) ρ = o := by
  unfold whileL
  rw [q]
  dsimp only
  rw [q2]
  exact h
theorem r_range {j : Int} (q : E ρ = some (.ok (.s (.int j)))) (h1 : -1000000000 < j) (h2 : j < 1000000000) : iRange1 (aCons E (aNil)) ρ = some (.ok (rangeD 0 j.toNat)) := by
  unfold iRange1
  rw [r_args q r_args0]
  show (if cRng j = true then some (Except.ok (rangeD 0 j.toNat)) else none) = _
  rw [if_pos (cRng_is h1 h2)]
theorem r_andV_t (q1 : fa ρ = some (.ok (.s (.bool true)))) (q2 : fb ρ = some (.ok v)) : eAndV fa fb ρ = some (.ok v) := by
  rw [eAndV_ap]
  unfold bE
  rw [q1]
  exact q2
theorem r_andV_f (q1 : fa ρ = some (.ok (.s (.bool false)))) : eAndV fa fb ρ = some (.ok (.s (.bool false))) := by
  rw [eAndV_ap]
  unfold bE
  rw [q1]
  rfl
theorem r_b (h : ρ[i]? = some (.own ds)) : eV i ρ = some (.ok (.b ds)) := by
  unfold eV
  rw [h]
theorem r_star {us : List Val} (q : E ρ = some (.ok v)) (h : v.parts = some us) (q2 : A ρ = some (.ok vs)) : aStar E A ρ = some (.ok (us ++ vs)) := by
  unfold aStar
  rw [q]
  dsimp only
  rw [h]
  dsimp only
  rw [q2]
theorem r_lst (q : A ρ = some (.ok vs)) (h : stAll vs = some ds) (hl : vs.length ≤ 16777216) : eLst A ρ = some (.ok (.f ds)) := by
  unfold eLst
  rw [q]
  dsimp only
  rw [if_pos (lineOk_small hl), h]
theorem r_len {es : List D} (q : E ρ = some (.ok v)) (h : v.d = .list es) : eG bLen (aCons E (aNil)) ρ = some (.ok (.s (.int (es.length : Int)))) := by
  refine r_eG (r_args q r_args0) ?_
  unfold bLen
  dsimp only
  rw [h]
  rfl
theorem r_addI {i j : Int} (ha : fa ρ = some (.ok (.s (.int i)))) (hb : fb ρ = some (.ok (.s (.int j)))) : e2 gAdd fa fb ρ = some (.ok (.s (.int (i + j)))) := r_e2 ha hb rfl
theorem r_subI {i j : Int} (ha : fa ρ = some (.ok (.s (.int i)))) (hb : fb ρ = some (.ok (.s (.int j)))) : e2 gSub fa fb ρ = some (.ok (.s (.int (i - j)))) := r_e2 ha hb rfl
theorem r_mulI {i j : Int} (ha : fa ρ = some (.ok (.s (.int i)))) (hb : fb ρ = some (.ok (.s (.int j)))) (h : cMul i j = true) : e2 gMul fa fb ρ = some (.ok (.s (.int (i * j)))) := r_e2 ha hb (by
  show (if cMul i j = true then some (Val.s (.int (i * j))) else none) = _
  rw [if_pos h])
theorem r_modI {i j : Int} (ha : fa ρ = some (.ok (.s (.int i)))) (hb : fb ρ = some (.ok (.s (.int j)))) (h : 0 < j) : e2 gMod fa fb ρ = some (.ok (.s (.int (i % j)))) := r_e2 ha hb (by
  show (if cMod i j = true then some (Val.s (.int (i % j))) else none) = _
  rw [if_pos (cMod_ok h)])
theorem r_divI {i j : Int} (ha : fa ρ = some (.ok (.s (.int i)))) (hb : fb ρ = some (.ok (.s (.int j)))) (h : 0 < j) (h2 : j < 1000000000) : e2 gDiv fa fb ρ = some (.ok (.s (.int (i / j)))) := r_e2 ha hb (by
  show (if cDiv i j = true then some (Val.s (.int (i / j))) else none) = _
  rw [if_pos (cDiv_is h (by omega))])
theorem r_int {i : Int} (ha : fa ρ = some (.ok (.s (.int i)))) : eG bInt (aCons fa (aNil)) ρ = some (.ok (.s (.int i))) := r_eG (r_args ha r_args0) rfl
theorem r_gtI {i j : Int} (ha : fa ρ = some (.ok (.s (.int i)))) (hb : fb ρ = some (.ok (.s (.int j)))) : tV (e2 gGtX fa fb) ρ = some (.ok (decide (j < i))) := r_tV (r_e2 ha hb rfl) rfl
theorem r_ltI {i j : Int} (ha : fa ρ = some (.ok (.s (.int i)))) (hb : fb ρ = some (.ok (.s (.int j)))) : tV (e2 gLtX fa fb) ρ = some (.ok (decide (i < j))) := r_tV (r_e2 ha hb rfl) rfl
theorem r_gtI_t {i j : Int} (ha : fa ρ = some (.ok (.s (.int i)))) (hb : fb ρ = some (.ok (.s (.int j)))) (h : j < i) : tV (e2 gGtX fa fb) ρ = some (.ok true) := by rw [r_gtI ha hb, decide_eq_true h]
theorem r_gtI_f {i j : Int} (ha : fa ρ = some (.ok (.s (.int i)))) (hb : fb ρ = some (.ok (.s (.int j)))) (h : i ≤ j) : tV (e2 gGtX fa fb) ρ = some (.ok false) := by rw [r_gtI ha hb, decide_eq_false (by omega)]
theorem r_ltI_t {i j : Int} (ha : fa ρ = some (.ok (.s (.int i)))) (hb : fb ρ = some (.ok (.s (.int j)))) (h : i < j) : tV (e2 gLtX fa fb) ρ = some (.ok true) := by rw [r_ltI ha hb, decide_eq_true h]
theorem r_ltI_f {i j : Int} (ha : fa ρ = some (.ok (.s (.int i)))) (hb : fb ρ = some (.ok (.s (.int j)))) (h : j ≤ i) : tV (e2 gLtX fa fb) ρ = some (.ok false) := by rw [r_ltI ha hb, decide_eq_false (by omega)]
theorem r_ix {es : List D} {j : Int} (ha : fa ρ = some (.ok (.s (.list es)))) (hb : fb ρ = some (.ok (.s (.int j)))) (h : atI es j = some d) : e2 gIx fa fb ρ = some (.ok (.s d)) := r_e2 ha hb (by
  show (atI es j).map Val.s = _
  rw [h]
  rfl)
theorem r_cat {xs ys : List D} {a b : Val} (ha : fa ρ = some (.ok a)) (hb : fb ρ = some (.ok b)) (h1 : a.items = some xs) (h2 : b.items = some ys) (hn : gAddI a b = none) (hl : xs.length + ys.length ≤ 16777216) : e2 gAdd fa fb ρ = some (.ok (.f (xs ++ ys))) := r_e2 ha hb (by
  unfold gAdd
  rw [hn]
  show gCat a b = _
  unfold gCat
  rw [h1, h2]
  dsimp only
  rw [if_pos (lineOk_small hl)])
theorem r_in0 {n : Nat} {r : List Nat} (ha : fa ρ = some (.ok (.s (.int (n : Int))))) (hb : fb ρ = some (.ok v)) (hv : v.d = .list (jd r)) : tV (e2 gIn fa fb) ρ = some (.ok (r.contains n)) := by
  refine r_tV (v := .s (.bool (r.contains n))) (r_e2 ha hb ?_) rfl
  unfold gIn gInX
  rw [hv]
  show (if (scalarD (.int (n : Int)) && (jd r).all scalarD) = true then some (Val.s (.bool (if false then !inD (.int (n : Int)) (jd r) else inD (.int (n : Int)) (jd r)))) else none) = _
  rw [if_pos (by rw [jd_scalar]; rfl), inD_jd]
  rfl
end
end DL
set_option Elab.async false
set_option linter.all false
set_option maxRecDepth 100000
set_option maxHeartbeats 1000000
/-! DM4: rules for errors, early returns, displays. -/
namespace DL
open PySem PySem.Spec PyProof.Rows L2
section
variable {f g : FS} {ρ ρ1 : Rho} {o : Option Out} {n k : Nat} {ds : List D} {d : D} {E F fa fb fc : FE} {t u : FT} {i : Nat} {v a b : Val} {c : Nat} {j : Int}
theorem seqX (h1 : f ρ = some (.exc ρ1 c j)) : fSeq f g ρ = some (.exc ρ1 c j) := by
  unfold fSeq
  rw [h1]
theorem seqRF (h1 : f ρ = some (.retF ds)) : fSeq f g ρ = some (.retF ds) := by
  unfold fSeq
  rw [h1]
theorem r_raise (q : E ρ = some (.ok (.s (.int j)))) : fRaise c E ρ = some (.exc ρ c j) := by
  rw [fRaise_ap]
  unfold sE
  rw [q]
  rfl
theorem w_exc {t : FT} {body : FS} {n : Nat} (q : t ρ = some (.ok true)) (q2 : body ρ = some (.exc ρ1 c j)) : whileL t body (n + 1) ρ = some (.exc ρ1 c j) := by
  unfold whileL
  rw [q]
  dsimp only
  rw [q2]
theorem r_tryN {h : HF} (q : f ρ = some (.nx ρ1)) : fTry f h ρ = some (.nx ρ1) := by
  unfold fTry
  rw [q]
theorem r_tryR {h : HF} (q : f ρ = some (.ret d)) : fTry f h ρ = some (.ret d) := by
  unfold fTry
  rw [q]
theorem r_tryX {h : HF} (q : f ρ = some (.exc ρ1 c j)) (q2 : h c j ρ1 = o) : fTry f h ρ = o := by
  unfold fTry
  rw [q]
  exact q2
theorem r_has {m : Nat → Option Bool} {k : Nat} {gg : Nat → Addr → Addr → FS} {rest : HF} {o1 o2 : Out} (hm : m c = some true) (h : ∀ a dd, gg c a dd (ρ.set k (.err a dd j)) = some o1) (h2 : goneO k o1 = some o2) : hAs m k gg rest c j ρ = some o2 := by
  unfold hAs
  rw [hm]
  dsimp only
  exact anyAd_of 0 fun a dd => by rw [h a dd]; exact h2
theorem r_hno {m : Nat → Option Bool} {k : Nat} {gg : Nat → Addr → Addr → FS} {rest : HF} (hm : m c = some false) (h : rest c j ρ = o) : hAs m k gg rest c j ρ = o := by
  unfold hAs
  rw [hm]
  exact h
theorem r_tup {A : FA} {vs : List Val} (q : A ρ = some (.ok vs)) (h : stAll vs = some ds) (hl : vs.length ≤ 16777216) : eTup A ρ = some (.ok (.s (.tuple ds))) := by
  unfold eTup
  rw [q]
  dsimp only
  rw [if_pos (lineOk_small hl), h]
theorem r_retE (q : E ρ = some (.error (c, j))) : fRet E ρ = some (.exc ρ c j) := by
  rw [fRet_ap]
  unfold sE
  rw [q]
theorem r_setE (q : E ρ = some (.error (c, j))) : fSet i E ρ = some (.exc ρ c j) := by
  rw [fSet_ap]
  unfold sE
  rw [q]
theorem r_argsE {A : FA} {e : Er} (q : E ρ = some (.error e)) : aCons E A ρ = some (.error e) := by
  unfold aCons
  rw [q]
theorem r_argsE2 {A : FA} {e : Er} (q : E ρ = some (.ok v)) (q2 : A ρ = some (.error e)) : aCons E A ρ = some (.error e) := by
  unfold aCons
  rw [q]
  dsimp only
  rw [q2]
theorem r_tupE {A : FA} {e : Er} (q : A ρ = some (.error e)) : eTup A ρ = some (.error e) := by
  unfold eTup
  rw [q]
end
/-- a loop that returns at a turn -/
theorem forL_ret {g : FG} {body : FS} {o : Out} (Inv : Nat → Rho → Prop) {ds : List D} {ρ : Rho} {m : Nat} (hm : m < ds.length) (h0 : Inv 0 ρ)
    (h : ∀ i d ρ, i < m → ds[i]? = some d → Inv i ρ → ∃ ρ1 ρ2, g d ρ = some ρ1 ∧ body ρ1 = some (.nx ρ2) ∧ Inv (i + 1) ρ2)
    (hr : ∀ d ρ, ds[m]? = some d → Inv m ρ → ∃ ρ1, g d ρ = some ρ1 ∧ body ρ1 = some o) (ho : (∃ d, o = .ret d) ∨ (∃ x, o = .retF x)) : forL g body ds ρ = some o := by
  have go : ∀ (k n : Nat) (ρ : Rho), m - n = k → n ≤ m → Inv n ρ → forL g body (ds.drop n) ρ = some o := by
    intro k
    induction k with
    | zero =>
      intro n ρ hk hn hI
      have e : n = m := by omega
      subst e
      obtain ⟨ρ1, h1, h2⟩ := hr ds[n] ρ (List.getElem?_eq_getElem hm) hI
      rw [List.drop_eq_getElem_cons hm]
      unfold forL
      rw [h1]
      dsimp only
      rw [h2]
      rcases ho with ⟨d, rfl⟩ | ⟨x, rfl⟩ <;> rfl
    | succ k ih =>
      intro n ρ hk hn hI
      have hlt : n < ds.length := by omega
      obtain ⟨ρ1, ρ2, h1, h2, h3⟩ := h n ds[n] ρ (by omega) (List.getElem?_eq_getElem hlt) hI
      rw [List.drop_eq_getElem_cons hlt]
      unfold forL
      rw [h1]
      dsimp only
      rw [h2]
      exact ih (n + 1) ρ2 (by omega) (by omega) h3
  have q := go _ 0 ρ rfl (Nat.zero_le _) h0
  rw [List.drop_zero] at q
  exact q
theorem canLay_jd (r : List Nat) : PyData.canLayAll0 (jd r) = true := by
  rw [jd_ints]
  exact canLay_ints _
theorem depth_jd (r : List Nat) : PyData.depthAll (jd r) = 0 := by
  rw [jd_ints]
  exact depth_ints _
theorem shaped_strList (x : Str) (r : List Nat) (hx : PyData.canLay0 (.str x) = true) : SeqAt.shaped (.tuple [.str x, .list (jd r)]) = true := by
  unfold SeqAt.shaped
  have h1 : PyData.canLay0 (.tuple [.str x, .list (jd r)]) = true := by
    show (PyData.canLay0 (.str x) && (PyData.canLayAll0 (jd r) && true)) = true
    rw [canLay_jd, hx]
    rfl
  have h2 : PyData.depth (.tuple [.str x, .list (jd r)]) = 2 := by
    show max (PyData.depth (.str x)) (max (PyData.depthAll (jd r) + 1) 0) + 1 = 2
    rw [depth_jd]
    rfl
  rw [h1, h2]
  rfl
theorem shaped_strInt (x : Str) (n : Int) (hx : PyData.canLay0 (.str x) = true) : SeqAt.shaped (.tuple [.str x, .int n]) = true := by
  unfold SeqAt.shaped
  have h1 : PyData.canLay0 (.tuple [.str x, .int n]) = true := by
    show (PyData.canLay0 (.str x) && (true && true)) = true
    rw [hx]
    rfl
  have h2 : PyData.depth (.tuple [.str x, .int n]) = 1 := rfl
  rw [h1, h2]
  rfl
end DL
set_option Elab.async false
set_option linter.all false
set_option maxRecDepth 100000
set_option maxHeartbeats 4000000
/-! FL1: what the laws draw with. -/
namespace FL
open PySem PySem.Spec PyProof.Rows L2 DL FN
def atD (ds : List Int) (k many : Int) : Int := if k < ds.length then (ds.getD k.toNat 0) % many else 0
theorem law_at_ok (ds : List Int) (k many : Int) (hk : 0 ≤ k) (hm : 0 < many) : d__law_at [.list (ds.map .int), .int k, .int many] = some (.ret (.int (atD ds k many))) := by
  unfold d__law_at b__law_at atD
  by_cases h : k < ds.length
  · have e := atI_of hk h
    simp [atI_map, e, h, hk, hm, cMod]
  · simp [h, hk, hm]
/-- what is drawn: numbers from 0 to below 65536 -/
def Drawn (ds : List Int) : Prop := ∀ d ∈ ds, 0 ≤ d ∧ d < 65536
theorem drawn_app {ds : List Int} {d : Int} (h : Drawn ds) (h0 : 0 ≤ d) (h1 : d < 65536) : Drawn (ds ++ [d]) := fun x hx => by
  rcases List.mem_append.mp hx with hx | hx
  · exact h x hx
  · rw [List.mem_singleton.mp hx]
    exact ⟨h0, h1⟩
/-- the loop within: the digits of one cell -/
theorem draws_in (s0 s2 s4 s5 : DL.Slot) (ds : List Int) (rest : Int) (hd : Drawn ds) (hl : ds.length ≤ 60 * 63) (h0 : 0 ≤ rest) : ∃ (es : List Int) (r : Int) (s4' : DL.Slot), Drawn es ∧ es.length ≤ ds.length + 60 ∧
    forL (gN 4) (fIf (tV (e2 gGtX (eV 3) (eC (.int 0)))) (fSeq (fApp 1 (e2 gMod (eG bInt (aCons (eV 3) (aNil))) (eC (.int 65536)))) (fSet 3 (e2 gDiv (eV 3) (eC (.int 65536))))) (fNx)) (rangeD 0 60) [s0, .own (ds.map .int), s2, .dat (.int rest), s4, s5]
      = some (.nx [s0, .own (es.map .int), s2, .dat (.int r), s4', s5]) := by
  have key := forL_inv (g := gN 4) (ds := rangeD 0 60) (ρ := [s0, .own (ds.map .int), s2, .dat (.int rest), s4, s5])
    (body := fIf (tV (e2 gGtX (eV 3) (eC (.int 0)))) (fSeq (fApp 1 (e2 gMod (eG bInt (aCons (eV 3) (aNil))) (eC (.int 65536)))) (fSet 3 (e2 gDiv (eV 3) (eC (.int 65536))))) (fNx))
    (fun j ρ => ∃ (es : List Int) (r : Int) (s4 : DL.Slot), ρ = [s0, .own (es.map .int), s2, .dat (.int r), s4, s5] ∧ Drawn es ∧ es.length ≤ ds.length + j ∧ 0 ≤ r ∧ j ≤ 60)
    ⟨ds, rest, s4, rfl, hd, Nat.le_refl _, h0, by decide⟩ (by
      rintro j d ρ hj ⟨es, r, s4, rfl, he, hel, hr, _⟩
      have hj : j < 60 := by simpa [rangeD] using (List.getElem?_eq_some_iff.mp hj).1
      by_cases hpos : 0 < r
      · refine ⟨_, _, rfl, ?_, es ++ [r % 65536], r / 65536, .dat d, rfl, drawn_app he (by omega) (by omega), by simp; omega, by omega, hj⟩
        have hln : lineOk (es.length + 1) = true := lineOk_small (by omega)
        simp [hpos, cMod_ok, cDiv_is, hln]
      · refine ⟨_, _, rfl, ?_, es, r, .dat d, rfl, he, by omega, hr, hj⟩
        simp [hpos])
  obtain ⟨ρ', h1, es, r, s4', rfl, h3, h4, _⟩ := key
  refine ⟨es, r, s4', h3, ?_, h1⟩
  simpa [rangeD] using h4
/-- a turn of the loop over the cells -/
def drawTurn : FS := fSeq (fSet 3 (eG bAbs (aCons (e2 gIx (eV 0) (eV 2)) (aNil)))) (fIf (tV (e2 gGeX (eV 3) (e2 gPow (eC (.int 10)) (eC (.int 18))))) (fFor (iRange1 (aCons (eC (.int 60)) (aNil))) (gN 4) (fIf (tV (e2 gGtX (eV 3) (eC (.int 0)))) (fSeq (fApp 1 (e2 gMod (eG bInt (aCons (eV 3) (aNil))) (eC (.int 65536)))) (fSet 3 (e2 gDiv (eV 3) (eC (.int 65536))))) (fNx))) (fSeq (fSet 5 (e2 gMod (eG bInt (aCons (e2 gAdd (e2 gMul (eV 3) (eC (.int 48271))) (e2 gMul (e2 gAdd (eV 2) (eC (.int 1))) (eC (.int 69621)))) (aNil))) (eC (.int 2147483647)))) (fSeq (fSet 5 (e2 gMod (eG bInt (aCons (e2 gAdd (e2 gAdd (e2 gMul (eV 5) (eC (.int 16807))) (e2 gMul (eC (.int 11)) (eV 2))) (eC (.int 5))) (aNil))) (eC (.int 2147483629)))) (fSeq (fApp 1 (e2 gMod (eG bInt (aCons (eV 5) (aNil))) (eC (.int 65536)))) (fApp 1 (e2 gMod (eG bInt (aCons (e2 gDiv (eV 5) (eC (.int 65536))) (aNil))) (eC (.int 32768))))))))
theorem draws_turn (ks : List (D × D)) (cell i : Int) (s3 s4 s5 : DL.Slot) (ds : List Int) (hd : Drawn ds) (hl : ds.length ≤ 60 * 62) (hat : atI ks i = some (.int cell, .none)) (hex : excL ks = false) :
    ∃ (es : List Int) (s3' s4' s5' : DL.Slot), Drawn es ∧ es.length ≤ ds.length + 60 ∧ drawTurn [.dat (.dict ks), .own (ds.map .int), .dat (.int i), s3, s4, s5] = some (.nx [.dat (.dict ks), .own (es.map .int), .dat (.int i), s3', s4', s5']) := by
  generalize hrest : (if cell < 0 then -cell else cell) = rest
  have h0 : 0 ≤ rest := by rw [← hrest]; split <;> omega
  by_cases hbig : (1000000000000000000 : Int) ≤ rest
  · obtain ⟨es, r, s4', he, hel, h3⟩ := draws_in (.dat (.dict ks)) (.dat (.int i)) s4 s5 ds rest hd (by omega) h0
    refine ⟨es, .dat (.int r), s4', s5, he, hel, ?_⟩
    simp [drawTurn, hat, hex, hrest, hbig, cPow_is, h3, cRng_is]
  · have hln : ∀ m, m ≤ 3790 → lineOk m = true := fun m h => lineOk_small (by omega)
    generalize hm1 : (rest * 48271 + (i + 1) * 69621) % 2147483647 = m1
    generalize hm2 : (m1 * 16807 + 11 * i + 5) % 2147483629 = m2
    refine ⟨ds ++ [m2 % 65536] ++ [m2 / 65536 % 32768], .dat (.int rest), s4, .dat (.int m2), drawn_app (drawn_app hd (by omega) (by omega)) (by omega) (by omega), by simp, ?_⟩
    simp [drawTurn, hat, hex, hrest, hbig, cPow_is, cMul_l, cMul_r, cMod_ok, cDiv_is, hm1, hm2, hln (ds.length + 1) (by omega), hln (ds.length + 1 + 1) (by omega)]
theorem law_draws_ok (ns : List Int) (hl : ns.length ≤ 63) : ∃ ds : List Int, Drawn ds ∧ ds.length ≤ 3780 ∧ d__law_draws [scr ns] = some (.retF (ds.map .int)) := by
  have hmin : (if ((ns.length : Nat) : Int) < 63 then ((ns.length : Nat) : Int) else 63) = (ns.length : Int) := by split <;> omega
  have key := forL_inv (g := gN 2) (ds := rangeD 0 ns.length) (ρ := [.dat (scr ns), .own [], .un, .un, .un, .un]) (body := drawTurn)
    (fun i ρ => ∃ (ds : List Int) (s2 s3 s4 s5 : DL.Slot), ρ = [.dat (scr ns), .own (ds.map .int), s2, s3, s4, s5] ∧ Drawn ds ∧ ds.length ≤ 60 * i ∧ i ≤ ns.length)
    ⟨[], _, _, _, _, rfl, (fun _ h => nomatch h), Nat.zero_le _, Nat.zero_le _⟩ (by
      rintro i d ρ hd ⟨ds, s2, s3, s4, s5, rfl, hdr, hlen, _⟩
      have hi : i < ns.length := by simpa [rangeD] using (List.getElem?_eq_some_iff.mp hd).1
      have ed : d = .int i := by
        rw [rangeD_eq, List.getElem?_map, List.getElem?_range hi] at hd
        cases hd
        simp
      subst ed
      have hat : atI (ns.map fun n => ((PyData.int n, PyData.none) : D × D)) (i : Int) = some (.int ns[i], .none) := by
        rw [atI_nat (j := i) (v := (.int ns[i], .none))]
        rw [List.getElem?_map, List.getElem?_eq_getElem hi]
        rfl
      obtain ⟨es, s3', s4', s5', h1, h2, h3⟩ := draws_turn _ _ i s3 s4 s5 ds hdr (by omega) hat (excL_scr ns)
      exact ⟨_, _, rfl, h3, es, _, _, _, _, rfl, h1, by omega, hi⟩)
  obtain ⟨ρ', h1, ds, s2, s3, s4, s5, rfl, hd, hlen, _⟩ := key
  have hlen' : ds.length ≤ 3780 := by
    have e : (rangeD 0 ns.length).length = ns.length := by simp [rangeD]
    rw [e] at hlen
    omega
  refine ⟨ds, hd, hlen', ?_⟩
  have hr : cRng (ns.length : Int) = true := by simp [cRng]; omega
  unfold drawTurn at h1
  simp [d__law_draws, b__law_draws, hmin, hr, h1, lineOk]
theorem atD_lo (ds : List Int) (k m : Int) (hm : 0 < m) : 0 ≤ atD ds k m := by
  unfold atD
  split
  · exact Int.emod_nonneg _ (by omega)
  · exact Int.le_refl _
theorem atD_hi (ds : List Int) (k m : Int) (hm : 0 < m) : atD ds k m < m := by
  unfold atD
  split
  · exact Int.emod_lt_of_pos _ hm
  · exact hm
theorem r_at {fa fb fc : FE} {ρ : Rho} {ds : List Int} {k m : Int} (h1 : fa ρ = some (.ok (.s (.list (ds.map .int))))) (h2 : fb ρ = some (.ok (.s (.int k)))) (h3 : fc ρ = some (.ok (.s (.int m)))) (hk : 0 ≤ k) (hm : 0 < m) :
    eCall d__law_at 3 (aCons fa (aCons fb (aCons fc (aNil)))) ρ = some (.ok (.s (.int (atD ds k m)))) := r_call (r_args h1 (r_args h2 (r_args h3 r_args0))) rfl rfl (law_at_ok ds k m hk hm)
theorem law_is_integer_ok (d : D) (n : excV d = false := by rfl) : d__law_is_integer [d] = some (.ret (.bool (match d with | .int _ => true | _ => false))) := by
  cases d with
  | dict ks =>
    have n' : excL ks = false := n
    simp [d__law_is_integer, b__law_is_integer, n']
  | _ => simp [d__law_is_integer, b__law_is_integer]
theorem int_call {fa : FE} {ρ : Rho} {i : Int} (q : fa ρ = some (.ok (.s (.int i)))) : tNotD (tV (eCall d__law_is_integer 1 (aCons fa (aNil)))) ρ = some (.ok false) :=
  r_not (x := true) (r_tV (r_call (r_args q r_args0) rfl rfl (law_is_integer_ok (.int i))) rfl)
theorem at_natF (ds : List Int) (k m : Int) (hm : 0 < m) : ∃ n : Nat, (n : Int) = atD ds k m ∧ (n : Int) < m :=
  ⟨(atD ds k m).toNat, Int.toNat_of_nonneg (atD_lo ds k m hm), by rw [Int.toNat_of_nonneg (atD_lo ds k m hm)]; exact atD_hi ds k m hm⟩
end FL
set_option Elab.async false
set_option linter.all false
set_option maxRecDepth 100000
/-! CR2: points 104 and 105 by rows alone. -/
namespace ST
/-- what a block stands for, and its bytes -/
def dec : List (List Nat) → List Nat
  | [] => []
  | b :: bs => b ++ (if b.length < 254 then [0] else []) ++ dec bs
def enc : List (List Nat) → List Nat
  | [] => []
  | b :: bs => (b.length + 1) :: b ++ enc bs
theorem dec_app (a b : List (List Nat)) : dec (a ++ b) = dec a ++ dec b := by
  induction a with
  | nil => rfl
  | cons x a ih => simp [dec, ih]
theorem enc_app (a b : List (List Nat)) : enc (a ++ b) = enc a ++ enc b := by
  induction a with
  | nil => rfl
  | cons x a ih => simp [enc, ih]
def full (bs : List (List Nat)) : Nat := bs.countP fun b => b.length == 254
def Ok (b : List Nat) : Prop := b.length ≤ 254 ∧ ∀ x ∈ b, 0 < x ∧ x < 256
/-- a byte's step: what is out, and the block -/
def stp (s : List Nat × List Nat) (x : Nat) : List Nat × List Nat :=
  if x = 0 then (s.1 ++ (s.2.length + 1) :: s.2, []) else if s.2.length + 1 = 254 then (s.1 ++ 255 :: (s.2 ++ [x]), []) else (s.1, s.2 ++ [x])
def run (row : List Nat) : List Nat × List Nat := row.foldl stp ([], [])
def stuffed (row : List Nat) : List Nat := (run row).1 ++ ((run row).2.length + 1) :: (run row).2
/-- what is known of the state behind a row -/
structure Inv (row : List Nat) (s : List Nat × List Nat) : Prop where
  bs : ∃ bs, s.1 = enc bs ∧ row = dec bs ++ s.2 ∧ ∀ b ∈ bs, Ok b
  len : s.2.length < 254
  ok : ∀ x ∈ s.2, 0 < x ∧ x < 256
  small : s.1.length + s.2.length ≤ 2 * row.length
theorem inv_nil : Inv [] ([], []) := ⟨⟨[], rfl, rfl, (fun _ h => nomatch h)⟩, by decide, (fun _ h => nomatch h), Nat.le_refl _⟩
theorem inv_stp {row : List Nat} {s : List Nat × List Nat} {x : Nat} (I : Inv row s) (hx : x < 256) : Inv (row ++ [x]) (stp s x) := by
  obtain ⟨⟨bs, h1, h2, h3⟩, h4, h5, h6⟩ := I
  unfold stp
  by_cases hz : x = 0
  · rw [if_pos hz]
    refine ⟨⟨bs ++ [s.2], ?_, ?_, ?_⟩, by simp, (fun _ h => nomatch h), ?_⟩
    · rw [enc_app, ← h1]
      simp [enc]
    · rw [dec_app, h2, hz]
      simp [dec, h4]
    · intro b hb
      rcases List.mem_append.mp hb with hb | hb
      · exact h3 b hb
      · rw [List.mem_singleton.mp hb]
        exact ⟨by omega, h5⟩
    · simp
      omega
  · rw [if_neg hz]
    have hok : ∀ y ∈ s.2 ++ [x], 0 < y ∧ y < 256 := by
      intro y hy
      rcases List.mem_append.mp hy with hy | hy
      · exact h5 y hy
      · rw [List.mem_singleton.mp hy]
        omega
    by_cases hf : s.2.length + 1 = 254
    · rw [if_pos hf]
      refine ⟨⟨bs ++ [s.2 ++ [x]], ?_, ?_, ?_⟩, by simp, (fun _ h => nomatch h), ?_⟩
      · rw [enc_app, ← h1]
        simp [enc]
        omega
      · rw [dec_app, h2]
        simp [dec, hf]
      · intro b hb
        rcases List.mem_append.mp hb with hb | hb
        · exact h3 b hb
        · rw [List.mem_singleton.mp hb]
          exact ⟨by simp; omega, hok⟩
      · simp
        omega
    · rw [if_neg hf]
      refine ⟨⟨bs, h1, by rw [h2, List.append_assoc], h3⟩, by simp; omega, hok, ?_⟩
      simp
      omega
theorem inv_run : ∀ (row : List Nat), (∀ x ∈ row, x < 256) → Inv row (run row) := by
  intro row
  have go : ∀ (r pre : List Nat) (s : List Nat × List Nat), (∀ x ∈ r, x < 256) → Inv pre s → Inv (pre ++ r) (r.foldl stp s) := by
    intro r
    induction r with
    | nil => intro pre s _ I; rw [List.append_nil]; exact I
    | cons x r ih =>
      intro pre s h I
      have q := ih (pre ++ [x]) (stp s x) (fun y hy => h y (List.mem_cons_of_mem _ hy)) (inv_stp I (h x List.mem_cons_self))
      rw [List.append_assoc] at q
      exact q
  intro h
  exact go row [] ([], []) h inv_nil
/-- the blocks of the piece of a row -/
theorem blocks (row : List Nat) (h : ∀ x ∈ row, x < 256) : ∃ bs l, stuffed row = enc (bs ++ [l]) ∧ row ++ [0] = dec (bs ++ [l]) ∧ (∀ b ∈ bs ++ [l], Ok b) ∧ l.length < 254 := by
  obtain ⟨⟨bs, h1, h2, h3⟩, h4, h5, h6⟩ := inv_run row h
  refine ⟨bs, (run row).2, ?_, ?_, ?_, h4⟩
  · unfold stuffed
    rw [enc_app, ← h1]
    simp [enc]
  · rw [dec_app]
    conv => lhs; rw [h2]
    simp [dec, h4]
  · intro b hb
    rcases List.mem_append.mp hb with hb | hb
    · exact h3 b hb
    · rw [List.mem_singleton.mp hb]
      exact ⟨by omega, h5⟩
theorem enc_pos {bs : List (List Nat)} (h : ∀ b ∈ bs, Ok b) : ∀ x ∈ enc bs, 0 < x ∧ x < 256 := by
  induction bs with
  | nil => exact fun _ h => nomatch h
  | cons b bs ih =>
    intro x hx
    have hb := h b List.mem_cons_self
    simp only [enc, List.cons_append, List.mem_cons, List.mem_append] at hx
    rcases hx with rfl | hx | hx
    · have := hb.1
      omega
    · exact hb.2 x hx
    · exact ih (fun c hc => h c (List.mem_cons_of_mem _ hc)) x hx
theorem enc_length (bs : List (List Nat)) (h : ∀ b ∈ bs, Ok b) : (enc bs).length = (dec bs).length + full bs := by
  induction bs with
  | nil => rfl
  | cons b bs ih =>
    have hb := (h b List.mem_cons_self).1
    have q := ih fun c hc => h c (List.mem_cons_of_mem _ hc)
    by_cases hf : b.length = 254
    · have e : full (b :: bs) = full bs + 1 := by simp [full, hf]
      simp [enc, dec, e, hf, q]
      omega
    · have e : full (b :: bs) = full bs := by simp [full, hf]
      have hlt : b.length < 254 := by omega
      simp [enc, dec, e, hlt, q]
      omega
theorem enc_le (bs : List (List Nat)) : bs.length ≤ (enc bs).length := by
  induction bs with
  | nil => exact Nat.le_refl _
  | cons b bs ih => simp [enc]; omega
end ST
set_option Elab.async false
set_option linter.all false
namespace FN
open PySem PySem.Spec PyProof.Rows L2 DL
noncomputable section
def b__law_spoilt : FS := fSeq (fSet 2 (eCall FN.d__law_at 3 (aCons (eV 0) (aCons (eC (.int 20)) (aCons (eC (.int 6)) (aNil)))))) (fSeq (fSet 3 (eCall FN.d__law_at 3 (aCons (eV 0) (aCons (eC (.int 21)) (aCons (eG bLen (aCons (eV 1) (aNil))) (aNil)))))) (fSeq (fSet 4 (e2 gIx (eLst (aCons (eCall FN.d__law_at 3 (aCons (eV 0) (aCons (eC (.int 22)) (aCons (eC (.int 256)) (aNil))))) (aCons (eC (.int 255)) (aCons (eC (.int 254)) (aCons (e2 gAnd (eG bLen (aCons (eV 1) (aNil))) (eC (.int 255))) (aNil)))))) (eCall FN.d__law_at 3 (aCons (eV 0) (aCons (eC (.int 23)) (aCons (eC (.int 4)) (aNil))))))) (fSeq (fIf (tV (e2 gEq (eV 2) (eC (.int 0)))) (fRet (e2 gAdd (e2 gAdd (eSl (eV 1) (oNone) (oSome (eV 3))) (eLst (aCons (eV 4) (aNil)))) (eSl (eV 1) (oSome (e2 gAdd (eV 3) (eC (.int 1)))) (oNone)))) (fNx)) (fSeq (fIf (tV (e2 gEq (eV 2) (eC (.int 1)))) (fRet (e2 gAdd (eSl (eV 1) (oNone) (oSome (eV 3))) (eSl (eV 1) (oSome (e2 gAdd (eV 3) (eC (.int 1)))) (oNone)))) (fNx)) (fSeq (fIf (tV (e2 gEq (eV 2) (eC (.int 2)))) (fRet (e2 gAdd (e2 gAdd (eSl (eV 1) (oNone) (oSome (eV 3))) (eLst (aCons (eV 4) (aNil)))) (eSl (eV 1) (oSome (eV 3)) (oNone)))) (fNx)) (fSeq (fIf (tV (e2 gEq (eV 2) (eC (.int 3)))) (fRet (eSl (eV 1) (oNone) (oSome (eV 3)))) (fNx)) (fSeq (fIf (tV (e2 gEq (eV 2) (eC (.int 4)))) (fRet (eLcG [5] (st1 5) (iRange1 (aCons (eCall FN.d__law_at 3 (aCons (eV 0) (aCons (eC (.int 22)) (aCons (eC (.int 13)) (aNil))))) (aNil))) (fun _ => some (.ok true)) (eCall FN.d__law_at 3 (aCons (eV 0) (aCons (e2 gAdd (eC (.int 24)) (eV 5)) (aCons (e2 gIx (eLst (aCons (eC (.int 4)) (aCons (eC (.int 256)) (aNil)))) (eCall FN.d__law_at 3 (aCons (eV 0) (aCons (eC (.int 21)) (aCons (eC (.int 2)) (aNil)))))) (aNil))))))) (fNx)) (fRet (eV 1)))))))))
def d__law_spoilt : DF := mkD 2 6 b__law_spoilt
def b__law_told : FS := fSeq (fTry (fRet (eTup (aCons (eC (.str "row")) (aCons (eCall FN.d_unstuff 1 (aCons (eV 0) (aNil))) (aNil))))) (hAs (mxL [(4, true)]) 1 (fun xc xa xd => fIf (tAndD (tV (eIsX 1 xa xd (mxL [(4, true)] xc))) (tV (eIsX 1 xa xd (mxL [(4, true)] xc)))) (fRet (eTup (aCons (eC (.str "bad")) (aCons (eAt 1 xa xd) (aNil))))) (fNx)) (hNil))) (fRet (eC .none))
def d__law_told : DF := mkD 1 2 b__law_told
def b__law_read : FS := fSeq (fIf (tV (e2 gEq (eG bLen (aCons (eV 0) (aNil))) (eC (.int 0)))) (fRet (eTup (aCons (eC (.str "bad")) (aCons (eC (.int 0)) (aNil))))) (fNx)) (fSeq (fIf (tV (e2 gIn (eC (.int 0)) (eV 0))) (fRet (eTup (aCons (eC (.str "bad")) (aCons (eLM gIndex (eV 0) (eC (.int 0))) (aNil))))) (fNx)) (fSeq (fSet 1 (eLst (aNil))) (fSeq (fSet 2 (eC (.int 0))) (fSeq (fSet 3 (eC (.int 0))) (fSeq (fFor (iRange1 (aCons (eG bLen (aCons (eV 0) (aNil))) (aNil))) (gN 4) (fIf (tV (e2 gLtX (eV 2) (eG bLen (aCons (eV 0) (aNil))))) (fSeq (fSet 3 (e2 gIx (eV 0) (eV 2))) (fSeq (fIf (tV (e2 gGtX (e2 gAdd (eV 2) (eV 3)) (eG bLen (aCons (eV 0) (aNil))))) (fRet (eTup (aCons (eC (.str "bad")) (aCons (eV 2) (aNil))))) (fNx)) (fSeq (fSet 1 (e2 gAdd (eV 1) (eSl (eV 0) (oSome (e2 gAdd (eV 2) (eC (.int 1)))) (oSome (e2 gAdd (eV 2) (eV 3)))))) (fSeq (fIf (tV (e2 gLtX (eV 3) (eC (.int 255)))) (fSet 1 (e2 gAdd (eV 1) (eLst (aCons (eC (.int 0)) (aNil))))) (fNx)) (fSet 2 (e2 gAdd (eV 2) (eV 3))))))) (fNx))) (fSeq (fIf (tV (e2 gEq (eV 3) (eC (.int 255)))) (fRet (eTup (aCons (eC (.str "bad")) (aCons (eG bLen (aCons (eV 0) (aNil))) (aNil))))) (fNx)) (fRet (eTup (aCons (eC (.str "row")) (aCons (eSl (eV 1) (oNone) (oSome (e1 gNeg (eC (.int 1))))) (aNil)))))))))))
def d__law_read : DF := mkD 1 5 b__law_read
def b_law_k03 : FS := fSeq (fSet 1 (eCall FN.d__law_draws 1 (aCons (eV 0) (aNil)))) (fSeq (fSet 2 (eCall FN.d__law_spoilt 2 (aCons (eV 1) (aCons (eCall FN.d__law_stuffed 1 (aCons (eCall FN.d__law_row 2 (aCons (eV 1) (aCons (eC (.int 0)) (aNil)))) (aNil))) (aNil))))) (fSeq (fSet 3 (eG bList (aCons (eV 2) (aNil)))) (fSeq (fSet 4 (eCall FN.d__law_told 1 (aCons (eV 2) (aNil)))) (fSeq (fIf (tOrD (tV (e2 gNe (eV 4) (eCall FN.d__law_read 1 (aCons (eV 3) (aNil))))) (tV (e2 gNe (eV 2) (eV 3)))) (fRet (eC (.bool false))) (fNx)) (fRet (eOrV (e2 gEq (e2 gIx (eV 4) (eC (.int 0))) (eC (.str "bad"))) (e2 gEq (eCall FN.d_stuff 1 (aCons (e2 gIx (eV 4) (eC (.int 1))) (aNil))) (eV 3))))))))
def d_law_k03 : DF := mkD 1 5 b_law_k03
end
end FN
set_option Elab.async false
set_option linter.all false
set_option maxRecDepth 100000
set_option maxHeartbeats 4000000
/-! FL2: stuffing. -/
namespace FL
open PySem PySem.Spec PyProof.Rows L2 DL FN
open ST (stp stuffed enc dec full)
theorem emit {E : FE} {s0 s3 : DL.Slot} {P B : List Nat} {n : Nat} (q : E [s0, .own (jd P), .own (jd B), s3] = some (.ok (.s (.int (n : Int))))) (hl : P.length + B.length + 1 ≤ 10000000) :
    fExt 1 (eLst (aCons E (aStar (eV 2) (aNil)))) [s0, .own (jd P), .own (jd B), s3] = some (.nx [s0, .own (jd (P ++ n :: B)), .own (jd B), s3]) := by
  have h1 : eLst (aCons E (aStar (eV 2) (aNil))) [s0, .own (jd P), .own (jd B), s3] = some (.ok (.f (jd (n :: B)))) := by
    refine r_lst (vs := .s (.int (n : Int)) :: ((jd B).map Val.s ++ [])) (r_args q (r_star (v := .b (jd B)) rfl rfl r_args0)) ?_ ?_
    · rw [List.append_nil]
      exact stAll_s (jd (n :: B))
    · rw [List.append_nil, List.length_cons, List.length_map, jd_len]
      omega
  exact r_ext (es := jd P) rfl h1 rfl (by rw [jd_len, jd_len, List.length_cons]; omega) (by rw [jd_app]; rfl)
noncomputable def stTurn : FS := fIf (tV (e2 gEq (eV 3) (eC (.int 0)))) (fSeq (fExt 1 (eLst (aCons (e2 gAdd (eG bLen (aCons (eV 2) (aNil))) (eC (.int 1))) (aStar (eV 2) (aNil))))) (fSetO 2 (eLst (aNil)))) (fSeq (fApp 2 (eV 3)) (fIf (tV (e2 gEq (eG bLen (aCons (eV 2) (aNil))) (e2 gSub (eC (.int 255)) (eC (.int 1))))) (fSeq (fExt 1 (eLst (aCons (eC (.int 255)) (aStar (eV 2) (aNil))))) (fSetO 2 (eLst (aNil)))) (fNx)))
theorem len2 (s0 s1 s3 : DL.Slot) (B : List Nat) : eG bLen (aCons (eV 2) (aNil)) [s0, s1, .own (jd B), s3] = some (.ok (.s (.int (B.length : Nat)))) := by
  have q := r_len (E := eV 2) (ρ := [s0, s1, .own (jd B), s3]) (v := .b (jd B)) rfl rfl
  rw [jd_len] at q
  exact q
theorem len2s (s0 s1 s3 : DL.Slot) (B : List Nat) : e2 gAdd (eG bLen (aCons (eV 2) (aNil))) (eC (.int 1)) [s0, s1, .own (jd B), s3] = some (.ok (.s (.int ((B.length + 1 : Nat) : Int)))) := by
  have q := r_addI (j := 1) (fb := eC (.int 1)) (len2 s0 s1 s3 B) rfl
  exact q
theorem st_turn (s0 : DL.Slot) (s : List Nat × List Nat) (x : Nat) (hl : s.1.length + s.2.length ≤ 1000000) : stTurn [s0, .own (jd s.1), .own (jd s.2), .dat (.int x)] = some (.nx [s0, .own (jd (stp s x).1), .own (jd (stp s x).2), .dat (.int x)]) := by
  unfold stp stTurn
  by_cases hz : x = 0
  · rw [if_pos hz]
    refine r_ift (r_eqI_t (r_v rfl) rfl (by omega)) ?_
    refine seqN (emit (len2s _ _ _ _) (by omega)) ?_
    exact r_setO (r_lst r_args0 rfl (by decide)) rfl
  · rw [if_neg hz]
    refine r_iff (r_eqI_f (r_v rfl) rfl (by omega)) ?_
    refine seqN (ρ1 := [s0, .own (jd s.1), .own (jd (s.2 ++ [x])), .dat (.int x)]) (r_app (es := jd s.2) rfl (r_v rfl) rfl (by rw [jd_len]; omega) (by rw [jd_app]; rfl)) ?_
    by_cases hf : s.2.length + 1 = 254
    · rw [if_pos hf]
      refine r_ift (r_eqI_t (len2 _ _ _ _) (r_subI rfl rfl) (by rw [List.length_append, List.length_singleton]; omega)) ?_
      refine seqN (emit (n := 255) rfl (by rw [List.length_append, List.length_singleton]; omega)) ?_
      exact r_setO (r_lst r_args0 rfl (by decide)) rfl
    · rw [if_neg hf]
      exact r_iff (r_eqI_f (len2 _ _ _ _) (r_subI rfl rfl) (by rw [List.length_append, List.length_singleton]; omega)) rfl
theorem run_take {row : List Nat} {i : Nat} (hi : i < row.length) : ST.run (row.take (i + 1)) = stp (ST.run (row.take i)) row[i] := by
  rw [List.take_succ_eq_append_getElem hi]
  unfold ST.run
  rw [List.foldl_append]
  rfl
theorem stuff_ok (row : List Nat) (hr : ∀ x ∈ row, x < 256) (hl : row.length ≤ 10000) : d_stuff [.list (jd row)] = some (.retF (jd (stuffed row))) := by
  have inv := fun i => ST.inv_run (row.take i) fun x hx => hr x (List.mem_of_mem_take hx)
  have key := forL_inv (g := gN 3) (ds := jd row) (ρ := [.dat (.list (jd row)), .own (jd []), .own (jd []), .un]) (body := stTurn)
    (fun i ρ => ∃ s3, ρ = [.dat (.list (jd row)), .own (jd (ST.run (row.take i)).1), .own (jd (ST.run (row.take i)).2), s3])
    ⟨_, rfl⟩ (by
      rintro i d ρ hd ⟨s3, rfl⟩
      obtain ⟨hi, rfl⟩ := jd_at hd
      have hs := (inv i).small
      have ht : (row.take i).length ≤ 10000 := by rw [List.length_take]; omega
      refine ⟨_, _, rfl, st_turn _ _ _ (by omega), .dat (.int (row[i] : Nat)), ?_⟩
      rw [run_take hi])
  obtain ⟨ρ', h1, s3, rfl⟩ := key
  rw [jd_len, List.take_length] at h1
  have hs := (ST.inv_run row hr).small
  unfold d_stuff b_stuff
  refine mk_retF ?_
  refine seqN (ρ1 := [.dat (.list (jd row)), .own (jd []), .un, .un]) (r_setO (r_lst r_args0 rfl (by decide)) rfl) ?_
  refine seqN (ρ1 := [.dat (.list (jd row)), .own (jd []), .own (jd []), .un]) (r_setO (r_lst r_args0 rfl (by decide)) rfl) ?_
  refine seqN (r_for (it := iSeq (eV 0)) rfl h1) ?_
  refine seqN (emit (len2s _ _ _ _) (by omega)) ?_
  exact r_retB rfl
/-! ### the law's own stuffing -/
noncomputable def lsTurn : FS := fSeq (fIf (tV (e2 gGtX (eV 3) (eC (.int 0)))) (fSet 2 (e2 gAdd (eV 2) (eLst (aCons (eV 3) (aNil))))) (fNx)) (fIf (tOrD (tV (e2 gEq (eV 3) (eC (.int 0)))) (tV (e2 gEq (eG bLen (aCons (eV 2) (aNil))) (eC (.int 254))))) (fSeq (fSet 1 (e2 gAdd (e2 gAdd (eV 1) (eLst (aCons (e2 gAdd (eG bLen (aCons (eV 2) (aNil))) (eC (.int 1))) (aNil)))) (eV 2))) (fSet 2 (eLst (aNil)))) (fNx))
theorem len2d (s0 s1 s3 : DL.Slot) (B : List Nat) : eG bLen (aCons (eV 2) (aNil)) [s0, s1, .dat (.list (jd B)), s3] = some (.ok (.s (.int (B.length : Nat)))) := by
  have q := r_len (E := eV 2) (ρ := [s0, s1, .dat (.list (jd B)), s3]) (v := .s (.list (jd B))) rfl rfl
  rw [jd_len] at q
  exact q
theorem len2ds (s0 s1 s3 : DL.Slot) (B : List Nat) : e2 gAdd (eG bLen (aCons (eV 2) (aNil))) (eC (.int 1)) [s0, s1, .dat (.list (jd B)), s3] = some (.ok (.s (.int ((B.length + 1 : Nat) : Int)))) := by
  have q := r_addI (j := 1) (fb := eC (.int 1)) (len2d s0 s1 s3 B) rfl
  exact q
theorem ls_emit (s0 s3 : DL.Slot) (P B : List Nat) (hl : P.length + B.length + 1 ≤ 10000000) : fSeq (fSet 1 (e2 gAdd (e2 gAdd (eV 1) (eLst (aCons (e2 gAdd (eG bLen (aCons (eV 2) (aNil))) (eC (.int 1))) (aNil)))) (eV 2))) (fSet 2 (eLst (aNil))) [s0, .dat (.list (jd P)), .dat (.list (jd B)), s3] = some (.nx [s0, .dat (.list (jd (P ++ (B.length + 1) :: B))), .dat (.list (jd [])), s3]) := by
  have h1 : e2 gAdd (eV 1) (eLst (aCons (e2 gAdd (eG bLen (aCons (eV 2) (aNil))) (eC (.int 1))) (aNil))) [s0, .dat (.list (jd P)), .dat (.list (jd B)), s3] = some (.ok (.f (jd P ++ jd [B.length + 1]))) :=
    r_cat (a := .s (.list (jd P))) (b := .f (jd [B.length + 1])) rfl (r_lst (r_args (len2ds _ _ _ _) r_args0) rfl (by simp)) rfl rfl rfl (by rw [jd_len, jd_len, List.length_singleton]; omega)
  have h2 : e2 gAdd (e2 gAdd (eV 1) (eLst (aCons (e2 gAdd (eG bLen (aCons (eV 2) (aNil))) (eC (.int 1))) (aNil)))) (eV 2) [s0, .dat (.list (jd P)), .dat (.list (jd B)), s3] = some (.ok (.f ((jd P ++ jd [B.length + 1]) ++ jd B))) :=
    r_cat (b := .s (.list (jd B))) h1 rfl rfl rfl rfl (by rw [List.length_append, jd_len, jd_len, jd_len, List.length_singleton]; omega)
  refine seqN (ρ1 := [s0, .dat (.list (jd (P ++ (B.length + 1) :: B))), .dat (.list (jd B)), s3]) (r_set h2 rfl ?_) ?_
  · rw [← jd_app, ← jd_app, List.append_assoc]
    rfl
  · exact r_set (r_lst r_args0 rfl (by decide)) rfl rfl
theorem ls_turn (s0 : DL.Slot) (s : List Nat × List Nat) (x : Nat) (hl : s.1.length + s.2.length ≤ 1000000) (h4 : s.2.length < 254) : lsTurn [s0, .dat (.list (jd s.1)), .dat (.list (jd s.2)), .dat (.int x)] = some (.nx [s0, .dat (.list (jd (stp s x).1)), .dat (.list (jd (stp s x).2)), .dat (.int x)]) := by
  unfold stp lsTurn
  by_cases hz : x = 0
  · rw [if_pos hz]
    refine seqN (ρ1 := [s0, .dat (.list (jd s.1)), .dat (.list (jd s.2)), .dat (.int x)]) (r_iff (r_gtI_f (r_v rfl) rfl (by omega)) rfl) ?_
    refine r_ift (r_or_t (r_eqI_t (r_v rfl) rfl (by omega))) ?_
    exact ls_emit _ _ _ _ (by omega)
  · rw [if_neg hz]
    have h1 : e2 gAdd (eV 2) (eLst (aCons (eV 3) (aNil))) [s0, .dat (.list (jd s.1)), .dat (.list (jd s.2)), .dat (.int x)] = some (.ok (.f (jd s.2 ++ jd [x]))) :=
      r_cat (a := .s (.list (jd s.2))) (b := .f (jd [x])) rfl (r_lst (r_args (r_v rfl) r_args0) rfl (by simp)) rfl rfl rfl (by rw [jd_len, jd_len, List.length_singleton]; omega)
    refine seqN (ρ1 := [s0, .dat (.list (jd s.1)), .dat (.list (jd (s.2 ++ [x]))), .dat (.int x)]) (r_ift (r_gtI_t (r_v rfl) rfl (by omega)) (r_set h1 rfl (by rw [jd_app]; rfl))) ?_
    have hL : (s.2 ++ [x]).length = s.2.length + 1 := by simp
    by_cases hf : s.2.length + 1 = 254
    · rw [if_pos hf]
      refine r_ift (r_or_f (r_eqI_f (r_v rfl) rfl (by omega)) (r_eqI_t (len2d _ _ _ _) rfl (by omega))) ?_
      have q := ls_emit s0 (.dat (.int x)) s.1 (s.2 ++ [x]) (by omega)
      have e : (s.2 ++ [x]).length + 1 = 255 := by omega
      rw [e] at q
      exact q
    · rw [if_neg hf]
      exact r_iff (r_or_f (r_eqI_f (r_v rfl) rfl (by omega)) (r_eqI_f (len2d _ _ _ _) rfl (by omega))) rfl
theorem law_stuffed_ok (row : List Nat) (hr : ∀ x ∈ row, x < 256) (hl : row.length ≤ 10000) : d__law_stuffed [.list (jd row)] = some (.ret (.list (jd (stuffed row)))) := by
  have hr0 : ∀ x ∈ row ++ [0], x < 256 := by
    intro x hx
    rcases List.mem_append.mp hx with hx | hx
    · exact hr x hx
    · rw [List.mem_singleton.mp hx]
      decide
  have hl0 : (row ++ [0]).length ≤ 10001 := by rw [List.length_append, List.length_singleton]; omega
  have e : stuffed row = (ST.run (row ++ [0])).1 := by
    unfold stuffed ST.run
    rw [List.foldl_append]
    rfl
  generalize hz : row ++ [0] = row0 at hr0 hl0 e
  have inv := fun i => ST.inv_run (row0.take i) fun x hx => hr0 x (List.mem_of_mem_take hx)
  have key := forL_inv (g := gN 3) (ds := jd row0) (ρ := [.dat (.list (jd row)), .dat (.list (jd [])), .dat (.list (jd [])), .un]) (body := lsTurn)
    (fun i ρ => ∃ s3, ρ = [.dat (.list (jd row)), .dat (.list (jd (ST.run (row0.take i)).1)), .dat (.list (jd (ST.run (row0.take i)).2)), s3])
    ⟨_, rfl⟩ (by
      rintro i d ρ hd ⟨s3, rfl⟩
      obtain ⟨hi, rfl⟩ := jd_at hd
      have hs := (inv i).small
      have ht : (row0.take i).length ≤ 10001 := by rw [List.length_take]; omega
      refine ⟨_, _, rfl, ls_turn _ _ _ (by omega) (inv i).len, .dat (.int (row0[i] : Nat)), ?_⟩
      rw [run_take hi])
  obtain ⟨ρ', h1, s3, rfl⟩ := key
  rw [jd_len, List.take_length] at h1
  rw [e]
  unfold d__law_stuffed b__law_stuffed
  refine mk_ret ?_
  refine seqN (ρ1 := [.dat (.list (jd row)), .dat (.list (jd [])), .un, .un]) (r_set (r_lst r_args0 rfl (by decide)) rfl rfl) ?_
  refine seqN (ρ1 := [.dat (.list (jd row)), .dat (.list (jd [])), .dat (.list (jd [])), .un]) (r_set (r_lst r_args0 rfl (by decide)) rfl rfl) ?_
  have hcat : e2 gAdd (eV 0) (eLst (aCons (eC (.int 0)) (aNil))) [.dat (.list (jd row)), .dat (.list (jd [])), .dat (.list (jd [])), .un] = some (.ok (.f (jd row0))) := by
    have q := r_cat (fa := eV 0) (fb := eLst (aCons (eC (.int 0)) (aNil))) (ρ := [.dat (.list (jd row)), .dat (.list (jd [])), .dat (.list (jd [])), .un]) (a := .s (.list (jd row))) (b := .f (jd [0])) rfl (r_lst (r_args rfl r_args0) rfl (by decide)) rfl rfl rfl (by rw [jd_len, jd_len, List.length_singleton]; omega)
    rw [← jd_app, hz] at q
    exact q
  refine seqN (r_for (r_seqF hcat) h1) ?_
  exact r_ret rfl
/-! ### unstuff -/
noncomputable def usTest : FT := tV (e2 gLtX (eV 2) (eG bLen (aCons (eV 0) (aNil))))
noncomputable def usTurn : FS := fSeq (fSet 3 (e2 gIx (eV 0) (eV 2))) (fSeq (fIf (tV (e2 gGtX (e2 gAdd (eV 2) (eV 3)) (eG bLen (aCons (eV 0) (aNil))))) (fRaise 4 (eV 2)) (fNx)) (fSeq (fExt 1 (eSl (eV 0) (oSome (e2 gAdd (eV 2) (eC (.int 1)))) (oSome (e2 gAdd (eV 2) (eV 3))))) (fSeq (fAug 2 (fun i j => i + j) (eV 3)) (fIf (tV (e2 gLtX (eV 3) (eC (.int 255)))) (fApp 1 (eC (.int 0))) (fIf (tV (e2 gEq (eV 2) (eG bLen (aCons (eV 0) (aNil))))) (fRaise 4 (eV 2)) (fNx))))))
theorem len0 (r : List Nat) (s1 s2 s3 : DL.Slot) : eG bLen (aCons (eV 0) (aNil)) [.dat (.list (jd r)), s1, s2, s3] = some (.ok (.s (.int (r.length : Nat)))) := by
  have q := r_len (E := eV 0) (ρ := [.dat (.list (jd r)), s1, s2, s3]) (v := .s (.list (jd r))) rfl rfl
  rw [jd_len] at q
  exact q
/-- a block, in its piece -/
theorem us_turn (A B C : List Nat) (R : List Nat) (s3 : DL.Slot) (r : List Nat) (er : r = A ++ ((B.length + 1) :: B ++ C)) (hB : B.length ≤ 254) (hC : B.length = 254 → C ≠ []) (hr : r.length ≤ 100000) (hR : R.length ≤ 100000) :
    usTurn [.dat (.list (jd r)), .own (jd R), .dat (.int (A.length : Nat)), s3] = some (.nx [.dat (.list (jd r)), .own (jd (R ++ (B ++ (if B.length < 254 then [0] else [])))), .dat (.int ((A.length + (B.length + 1) : Nat) : Int)), .dat (.int ((B.length + 1 : Nat) : Int))]) := by
  have hlen : r.length = A.length + (B.length + 1) + C.length := by
    rw [er]
    simp
    omega
  have hat : atI (jd r) (A.length : Nat) = some (.int ((B.length + 1 : Nat) : Int)) := by
    rw [atI_jd (by omega)]
    congr 3
    subst er
    simp
  have hcut : cutL (jd r) (some ((A.length + 1 : Nat) : Int)) (some ((A.length + (B.length + 1) : Nat) : Int)) = jd B := by
    rw [cutL_nat _ _ _ (by rw [jd_len]; omega) (by omega)]
    unfold jd
    rw [← List.map_drop, ← List.map_take]
    congr 1
    rw [er, List.drop_append, List.drop_of_length_le (by omega)]
    have e1 : A.length + 1 - A.length = 1 := by omega
    have e2 : A.length + (B.length + 1) - (A.length + 1) = B.length := by omega
    rw [e1, e2]
    simp
  have c1 : ((A.length : Nat) : Int) + 1 = ((A.length + 1 : Nat) : Int) := by omega
  have c2 : ((A.length : Nat) : Int) + ((B.length + 1 : Nat) : Int) = ((A.length + (B.length + 1) : Nat) : Int) := by omega
  unfold usTurn
  refine seqN (ρ1 := [.dat (.list (jd r)), .own (jd R), .dat (.int (A.length : Nat)), .dat (.int ((B.length + 1 : Nat) : Int))]) (r_set (r_ix (r_v rfl) (r_v rfl) hat) rfl rfl) ?_
  refine seqN (r_iff (r_gtI_f (r_addI (r_v rfl) (r_v rfl)) (len0 _ _ _ _) (by omega)) rfl) ?_
  refine seqN (ρ1 := [.dat (.list (jd r)), .own (jd (R ++ B)), .dat (.int (A.length : Nat)), .dat (.int ((B.length + 1 : Nat) : Int))])
    (r_ext (v := .f (jd B)) (us := jd B) (es := jd R) rfl (by
      have q := r_sl (E := eV 0) (L := oSome (e2 gAdd (eV 2) (eC (.int 1)))) (R := oSome (e2 gAdd (eV 2) (eV 3))) (ρ := [.dat (.list (jd r)), .own (jd R), .dat (.int (A.length : Nat)), .dat (.int ((B.length + 1 : Nat) : Int))]) (r_v rfl) (.inl rfl) (r_oS (r_addI (r_v rfl) rfl)) (r_oS (r_addI (r_v rfl) (r_v rfl)))
      rw [c1, c2, hcut] at q
      exact q) rfl (by rw [jd_len, jd_len]; omega) (by rw [jd_app]; rfl)) ?_
  refine seqN (ρ1 := [.dat (.list (jd r)), .own (jd (R ++ B)), .dat (.int ((A.length + (B.length + 1) : Nat) : Int)), .dat (.int ((B.length + 1 : Nat) : Int))]) (r_aug (a := (A.length : Nat)) rfl (r_v rfl) (by rw [← c2]; rfl)) ?_
  by_cases hf : B.length < 254
  · rw [if_pos hf]
    exact r_ift (r_ltI_t (r_v rfl) rfl (by omega)) (r_app (es := jd (R ++ B)) (d := .int ((0 : Nat) : Int)) rfl rfl rfl (by rw [jd_len, List.length_append]; omega) (by rw [← List.append_assoc, jd_app (R ++ B)]; rfl))
  · rw [if_neg hf, List.append_nil]
    have hC' : 0 < C.length := List.length_pos_iff.mpr (hC (by omega))
    exact r_iff (r_ltI_f (r_v rfl) rfl (by omega)) (r_iff (r_eqI_f (r_v rfl) (len0 _ _ _ _) (by omega)) rfl)
theorem us_loop (r : List Nat) (hr : r.length ≤ 100000) (hd : r.length ≤ 100000) : ∀ (suf pre : List (List Nat)) (s3 : DL.Slot), r = enc (pre ++ suf) → (∀ b ∈ pre ++ suf, ST.Ok b) → (∀ b, suf.getLast? = some b → b.length < 254) →
    ∃ s3', whileL usTest usTurn (suf.length + 1) [.dat (.list (jd r)), .own (jd (dec pre)), .dat (.int ((enc pre).length : Nat)), s3] = some (.nx [.dat (.list (jd r)), .own (jd (dec (pre ++ suf))), .dat (.int (r.length : Nat)), s3']) := by
  intro suf
  induction suf with
  | nil =>
    intro pre s3 er _ _
    rw [List.append_nil] at er
    rw [← er, List.append_nil]
    exact ⟨s3, w_stop (r_ltI_f (r_v rfl) (len0 _ _ _ _) (by omega))⟩
  | cons b suf ih =>
    intro pre s3 er hok hlast
    have hb := hok b (List.mem_append_right _ List.mem_cons_self)
    have er' : r = enc pre ++ ((b.length + 1) :: b ++ enc suf) := by
      rw [er, ST.enc_app]
      rfl
    have hlen : r.length = (enc pre).length + (b.length + 1) + (enc suf).length := by
      rw [er']
      simp
      omega
    have hdl : (dec pre).length ≤ 100000 := by
      have q := ST.enc_length pre fun c hc => hok c (List.mem_append_left _ hc)
      omega
    have hC : b.length = 254 → enc suf ≠ [] := by
      intro h e
      cases suf with
      | nil =>
        have := hlast b rfl
        omega
      | cons c suf => simp [enc] at e
    have t := us_turn (enc pre) b (enc suf) (dec pre) s3 r er' hb.1 hC hr hdl
    have ed : dec pre ++ (b ++ (if b.length < 254 then [0] else [])) = dec (pre ++ [b]) := by
      rw [ST.dec_app]
      simp [dec]
    have ee : (enc pre).length + (b.length + 1) = (enc (pre ++ [b])).length := by
      rw [ST.enc_app]
      simp [enc]
    rw [ed, ee] at t
    have ep : pre ++ [b] ++ suf = pre ++ b :: suf := by simp
    obtain ⟨s3', h⟩ := ih (pre ++ [b]) (.dat (.int ((b.length + 1 : Nat) : Int))) (by rw [ep]; exact er) (by rw [ep]; exact hok) (by
      intro c hc
      apply hlast c
      cases suf with
      | nil => cases hc
      | cons d suf => rw [List.getLast?_cons_cons]; exact hc)
    rw [ep] at h
    exact ⟨s3', w_go (r_ltI_t (r_v rfl) (len0 _ _ _ _) (by omega)) t h⟩
theorem unstuff_ok (bs : List (List Nat)) (l : List Nat) (hok : ∀ b ∈ bs ++ [l], ST.Ok b) (hl : l.length < 254) (hr : (enc (bs ++ [l])).length ≤ 100000) : d_unstuff [.list (jd (enc (bs ++ [l])))] = some (.retF (jd (dec (bs ++ [l])).dropLast)) := by
  have hpos := ST.enc_pos hok
  have hle := ST.enc_le (bs ++ [l])
  have hne : dec (bs ++ [l]) ≠ [] := by
    rw [ST.dec_app]
    simp [dec, hl]
  have hz : (enc (bs ++ [l])).contains 0 = false := by
    rw [List.contains_eq_any_beq, List.any_eq_false]
    intro x hx
    have := hpos x hx
    simp
    omega
  have hlen : 0 < (enc (bs ++ [l])).length := by
    rw [List.length_append, List.length_singleton] at hle
    omega
  generalize hR : enc (bs ++ [l]) = r at hr hpos hle hz hlen
  obtain ⟨s3', h⟩ := us_loop r hr hr (bs ++ [l]) [] .un (by rw [List.nil_append, hR]) (by rw [List.nil_append]; exact hok) (by
    intro b hb
    rw [List.getLast?_append] at hb
    cases hb
    exact hl)
  rw [List.nil_append] at h
  unfold d_unstuff b_unstuff
  refine mk_retF ?_
  refine seqN (r_iff (by rw [r_in0 (n := 0) (r := r) rfl (v := .s (.list (jd r))) rfl rfl, hz]) rfl) ?_
  refine seqN (r_iff (r_eqI_f (len0 r .un .un .un) rfl (by omega)) rfl) ?_
  refine seqN (ρ1 := [.dat (.list (jd r)), .own (jd []), .un, .un]) (r_setO (r_lst r_args0 rfl (by decide)) rfl) ?_
  refine seqN (ρ1 := [.dat (.list (jd r)), .own (jd []), .dat (.int 0), .un]) (r_set (v := .s (.int 0)) rfl rfl rfl) ?_
  refine seqN (r_while h (by omega)) ?_
  have hdl : jd (dec (bs ++ [l])) ≠ [] := by
    intro e
    apply hne
    cases h2 : dec (bs ++ [l]) with
    | nil => rfl
    | cons a b => rw [h2] at e; cases e
  refine seqN (ρ1 := [.dat (.list (jd r)), .own (jd (dec (bs ++ [l])).dropLast), .dat (.int (r.length : Nat)), s3']) (r_pop (es := jd (dec (bs ++ [l]))) rfl hdl ?_) ?_
  · have e : (jd (dec (bs ++ [l]))).dropLast = jd (dec (bs ++ [l])).dropLast := by
      unfold jd
      rw [List.map_dropLast]
    rw [e]
    rfl
  exact r_retB rfl
/-! ### the row -/
noncomputable def rwTurn : FS := fSeq (fSet 6 (e2 gMod (eG bInt (aCons (e2 gAdd (eCall d__law_at 3 (aCons (eV 0) (aCons (e2 gAdd (e2 gAdd (eV 1) (eC (.int 3))) (eV 5)) (aCons (eC (.int 65536)) (aNil))))) (e2 gMul (e2 gMul (eV 5) (eV 5)) (e2 gAdd (eC (.int 1)) (eCall d__law_at 3 (aCons (eV 0) (aCons (e2 gAdd (eV 1) (eC (.int 1))) (aCons (eC (.int 9)) (aNil)))))))) (aNil))) (eV 3))) (fSeq (fIf (tAndD (tV (e2 gGtX (eV 2) (eC (.int 200)))) (tV (e2 gGtX (eCall d__law_at 3 (aCons (eV 0) (aCons (e2 gAdd (eV 1) (eC (.int 1))) (aCons (eC (.int 3)) (aNil))))) (eC (.int 0))))) (fSeq (fSet 6 (e2 gAdd (eC (.int 1)) (e2 gMod (eG bInt (aCons (e2 gAdd (eV 6) (eV 5)) (aNil))) (eC (.int 255))))) (fIf (tAndD (tV (e2 gEq (eCall d__law_at 3 (aCons (eV 0) (aCons (e2 gAdd (eV 1) (eC (.int 1))) (aCons (eC (.int 3)) (aNil))))) (eC (.int 1)))) (tV (e2 gEq (eV 5) (eCall d__law_at 3 (aCons (eV 0) (aCons (e2 gAdd (eV 1) (eC (.int 2))) (aCons (eC (.int 600)) (aNil)))))))) (fSet 6 (eC (.int 0))) (fNx))) (fNx)) (fApp 4 (eV 6)))
theorem rw_turn (ds : List Int) (k S m : Int) (R : List Nat) (n : Nat) (s6 : DL.Slot) (hk : 0 ≤ k) (hn : n < 1000) (hm : 0 < m) (hm2 : m ≤ 256) (hR : R.length ≤ 1000) : ∃ (x : Nat) (s6' : DL.Slot), x < 256 ∧
    rwTurn [.dat (.list (ds.map .int)), .dat (.int k), .dat (.int S), .dat (.int m), .own (jd R), .dat (.int (n : Nat)), s6] = some (.nx [.dat (.list (ds.map .int)), .dat (.int k), .dat (.int S), .dat (.int m), .own (jd (R ++ [x])), .dat (.int (n : Nat)), s6']) := by
  have A := fun (s4 s5 s6 : DL.Slot) (q many : Int) (hq : 0 ≤ q) (hmany : 0 < many) => r_at (fa := eV 0) (fb := e2 gAdd (eV 1) (eC (.int q))) (fc := eC (.int many)) (ρ := [.dat (.list (ds.map .int)), .dat (.int k), .dat (.int S), .dat (.int m), s4, s5, s6]) (ds := ds) (k := k + q) (m := many) rfl (r_addI (r_v rfl) rfl) rfl (by omega) hmany
  have B := fun (s4 s6 : DL.Slot) => r_at (fa := eV 0) (fb := e2 gAdd (e2 gAdd (eV 1) (eC (.int 3))) (eV 5)) (fc := eC (.int 65536)) (ρ := [.dat (.list (ds.map .int)), .dat (.int k), .dat (.int S), .dat (.int m), s4, .dat (.int (n : Nat)), s6]) (ds := ds) (k := k + 3 + (n : Nat)) (m := 65536) rfl (r_addI (r_addI (r_v rfl) rfl) (r_v rfl)) rfl (by omega) (by omega)
  have app : ∀ y : Nat, fApp 4 (eV 6) [.dat (.list (ds.map .int)), .dat (.int k), .dat (.int S), .dat (.int m), .own (jd R), .dat (.int (n : Nat)), .dat (.int (y : Nat))] = some (.nx [.dat (.list (ds.map .int)), .dat (.int k), .dat (.int S), .dat (.int m), .own (jd (R ++ [y])), .dat (.int (n : Nat)), .dat (.int (y : Nat))]) := fun y =>
    r_app (es := jd R) rfl (r_v rfl) rfl (by rw [jd_len]; omega) (by rw [jd_app]; rfl)
  generalize hb : (atD ds (k + 3 + (n : Nat)) 65536 + (n : Int) * (n : Int) * (1 + atD ds (k + 1) 9)) % m = b
  have hb0 : 0 ≤ b := by rw [← hb]; exact Int.emod_nonneg _ (by omega)
  have hb1 : b < m := by rw [← hb]; exact Int.emod_lt_of_pos _ hm
  have b9 := atD_lo ds (k + 1) 9 (by omega)
  have b9' := atD_hi ds (k + 1) 9 (by omega)
  have first : fSet 6 (e2 gMod (eG bInt (aCons (e2 gAdd (eCall d__law_at 3 (aCons (eV 0) (aCons (e2 gAdd (e2 gAdd (eV 1) (eC (.int 3))) (eV 5)) (aCons (eC (.int 65536)) (aNil))))) (e2 gMul (e2 gMul (eV 5) (eV 5)) (e2 gAdd (eC (.int 1)) (eCall d__law_at 3 (aCons (eV 0) (aCons (e2 gAdd (eV 1) (eC (.int 1))) (aCons (eC (.int 9)) (aNil)))))))) (aNil))) (eV 3)) [.dat (.list (ds.map .int)), .dat (.int k), .dat (.int S), .dat (.int m), .own (jd R), .dat (.int (n : Nat)), s6] = some (.nx [.dat (.list (ds.map .int)), .dat (.int k), .dat (.int S), .dat (.int m), .own (jd R), .dat (.int (n : Nat)), .dat (.int b)]) := by
    rw [← hb]
    exact r_set (r_modI (r_int (r_addI (B _ _) (r_mulI (r_mulI (r_v rfl) (r_v rfl) (cMul_l (by omega) (by omega))) (r_addI rfl (A _ _ _ 1 9 (by omega) (by omega))) (cMul_r (by omega) (by omega))))) (r_v rfl) hm) rfl rfl
  unfold rwTurn
  by_cases h : 200 < S ∧ 0 < atD ds (k + 1) 3
  · generalize hc : (b + (n : Int)) % 255 = c
    have hc0 : 0 ≤ c := by rw [← hc]; exact Int.emod_nonneg _ (by omega)
    have hc1 : c < 255 := by rw [← hc]; exact Int.emod_lt_of_pos _ (by omega)
    have second : fSet 6 (e2 gAdd (eC (.int 1)) (e2 gMod (eG bInt (aCons (e2 gAdd (eV 6) (eV 5)) (aNil))) (eC (.int 255)))) [.dat (.list (ds.map .int)), .dat (.int k), .dat (.int S), .dat (.int m), .own (jd R), .dat (.int (n : Nat)), .dat (.int b)] = some (.nx [.dat (.list (ds.map .int)), .dat (.int k), .dat (.int S), .dat (.int m), .own (jd R), .dat (.int (n : Nat)), .dat (.int (1 + c))]) := by
      rw [← hc]
      exact r_set (r_addI rfl (r_modI (r_int (r_addI (r_v rfl) (r_v rfl))) rfl (by omega))) rfl rfl
    by_cases h2 : atD ds (k + 1) 3 = 1 ∧ (n : Int) = atD ds (k + 2) 600
    · refine ⟨0, _, by decide, seqN first (seqN (r_ift (r_and_t (r_gtI_t (r_v rfl) rfl h.1) (r_gtI_t (A _ _ _ 1 3 (by omega) (by omega)) rfl h.2)) (seqN second (r_ift (r_and_t (r_eqI_t (A _ _ _ 1 3 (by omega) (by omega)) rfl h2.1) (r_eqI_t (r_v rfl) (A _ _ _ 2 600 (by omega) (by omega)) h2.2)) (r_set (v := .s (.int ((0 : Nat) : Int))) rfl rfl rfl)))) (app 0))⟩
    · refine ⟨(1 + c).toNat, .dat (.int (1 + c)), by omega, seqN first (seqN (r_ift (r_and_t (r_gtI_t (r_v rfl) rfl h.1) (r_gtI_t (A _ _ _ 1 3 (by omega) (by omega)) rfl h.2)) (seqN second (r_iff ?_ rfl))) ?_)⟩
      · by_cases h3 : atD ds (k + 1) 3 = 1
        · exact r_and_t (r_eqI_t (A _ _ _ 1 3 (by omega) (by omega)) rfl h3) (r_eqI_f (r_v rfl) (A _ _ _ 2 600 (by omega) (by omega)) fun e => h2 ⟨h3, e⟩)
        · exact r_and_f (r_eqI_f (A _ _ _ 1 3 (by omega) (by omega)) rfl h3)
      · have q := app (1 + c).toNat
        rw [Int.toNat_of_nonneg (by omega)] at q
        exact q
  · refine ⟨b.toNat, .dat (.int b), by omega, seqN first (seqN (r_iff ?_ rfl) ?_)⟩
    · by_cases h3 : 200 < S
      · exact r_and_t (r_gtI_t (r_v rfl) rfl h3) (r_gtI_f (A _ _ _ 1 3 (by omega) (by omega)) rfl (by
          have : ¬ 0 < atD ds (k + 1) 3 := fun e => h ⟨h3, e⟩
          omega))
      · exact r_and_f (r_gtI_f (r_v rfl) rfl (by omega))
    · have q := app b.toNat
      rw [Int.toNat_of_nonneg (by omega)] at q
      exact q
theorem law_row_ok (ds : List Int) (k : Int) (hk : 0 ≤ k) : ∃ R : List Nat, (∀ x ∈ R, x < 256) ∧ R.length ≤ 1000 ∧ d__law_row [.list (ds.map .int), .int k] = some (.retF (jd R)) := by
  have A := fun (s2 s3 s4 s5 s6 : DL.Slot) (q many : Int) (hq : 0 ≤ q) (hmany : 0 < many) => r_at (fa := eV 0) (fb := e2 gAdd (eV 1) (eC (.int q))) (fc := eC (.int many)) (ρ := [.dat (.list (ds.map .int)), .dat (.int k), s2, s3, s4, s5, s6]) (ds := ds) (k := k + q) (m := many) rfl (r_addI (r_v rfl) rfl) rfl (by omega) hmany
  have A0 := fun (s2 s3 s4 s5 s6 : DL.Slot) (many : Int) (hmany : 0 < many) => r_at (fa := eV 0) (fb := eV 1) (fc := eC (.int many)) (ρ := [.dat (.list (ds.map .int)), .dat (.int k), s2, s3, s4, s5, s6]) (ds := ds) (k := k) (m := many) rfl (r_v rfl) rfl hk hmany
  have a1 := atD_lo ds k 30 (by omega)
  have a2 := atD_hi ds k 30 (by omega)
  have a3 := atD_lo ds (k + 1) 40 (by omega)
  have a4 := atD_hi ds (k + 1) 40 (by omega)
  have a5 := atD_lo ds (k + 2) 3 (by omega)
  have a6 := atD_hi ds (k + 2) 3 (by omega)
  have a7 := atD_lo ds (k + 2) 4 (by omega)
  have a8 := atD_hi ds (k + 2) 4 (by omega)
  have size : ∃ S : Int, 0 ≤ S ∧ S < 1000 ∧ (fIf (tV (e2 gEq (eCall d__law_at 3 (aCons (eV 0) (aCons (eV 1) (aCons (eC (.int 5)) (aNil))))) (eC (.int 4)))) (fSet 2 (e2 gAdd (e2 gAdd (eC (.int 240)) (eCall d__law_at 3 (aCons (eV 0) (aCons (e2 gAdd (eV 1) (eC (.int 1))) (aCons (eC (.int 40)) (aNil)))))) (e2 gMul (eC (.int 254)) (eCall d__law_at 3 (aCons (eV 0) (aCons (e2 gAdd (eV 1) (eC (.int 2))) (aCons (eC (.int 3)) (aNil)))))))) (fNx)) [.dat (.list (ds.map .int)), .dat (.int k), .dat (.int (atD ds k 30)), .un, .un, .un, .un] = some (.nx [.dat (.list (ds.map .int)), .dat (.int k), .dat (.int S), .un, .un, .un, .un]) := by
    by_cases h : atD ds k 5 = 4
    · exact ⟨240 + atD ds (k + 1) 40 + 254 * atD ds (k + 2) 3, by omega, by omega, r_ift (r_eqI_t (A0 _ _ _ _ _ 5 (by omega)) rfl h) (r_set (r_addI (r_addI rfl (A _ _ _ _ _ 1 40 (by omega) (by omega))) (r_mulI rfl (A _ _ _ _ _ 2 3 (by omega) (by omega)) (cMul_l (by omega) (by omega)))) rfl rfl)⟩
    · exact ⟨atD ds k 30, a1, by omega, r_iff (r_eqI_f (A0 _ _ _ _ _ 5 (by omega)) rfl h) rfl⟩
  obtain ⟨S, hS0, hS1, hS⟩ := size
  have menu : ∃ m : Int, 0 < m ∧ m ≤ 256 ∧ atI [PyData.int 2, .int 256, .int 6, .int 256] (atD ds (k + 2) 4) = some (.int m) := by
    generalize atD ds (k + 2) 4 = j at a7 a8
    rcases (show j = 0 ∨ j = 1 ∨ j = 2 ∨ j = 3 by omega) with h | h | h | h <;> subst h
    · exact ⟨2, by decide, by decide, rfl⟩
    · exact ⟨256, by decide, by decide, rfl⟩
    · exact ⟨6, by decide, by decide, rfl⟩
    · exact ⟨256, by decide, by decide, rfl⟩
  obtain ⟨m, hm, hm2, hme⟩ := menu
  have key := forL_inv (g := gN 5) (ds := rangeD 0 S.toNat) (ρ := [.dat (.list (ds.map .int)), .dat (.int k), .dat (.int S), .dat (.int m), .own (jd []), .un, .un]) (body := rwTurn)
    (fun i ρ => ∃ (R : List Nat) (s5 s6 : DL.Slot), ρ = [.dat (.list (ds.map .int)), .dat (.int k), .dat (.int S), .dat (.int m), .own (jd R), s5, s6] ∧ R.length = i ∧ i ≤ S.toNat ∧ ∀ x ∈ R, x < 256)
    ⟨[], _, _, rfl, rfl, Nat.zero_le _, (fun _ h => nomatch h)⟩ (by
      rintro i d ρ hd ⟨R, s5, s6, rfl, hR, _, hx⟩
      have hi : i < S.toNat := by simpa [rangeD] using (List.getElem?_eq_some_iff.mp hd).1
      have ed : d = .int (i : Nat) := by
        rw [rangeD_eq, List.getElem?_map, List.getElem?_range hi] at hd
        cases hd
        simp
      subst ed
      obtain ⟨x, s6', hx1, hx2⟩ := rw_turn ds k S m R i s6 hk (by omega) hm hm2 (by omega)
      refine ⟨_, _, rfl, hx2, R ++ [x], _, _, rfl, by simp [hR], hi, fun y hy => ?_⟩
      rcases List.mem_append.mp hy with hy | hy
      · exact hx y hy
      · rw [List.mem_singleton.mp hy]
        exact hx1)
  obtain ⟨ρ', h1, R, s5, s6, rfl, hR, hle, hx⟩ := key
  refine ⟨R, hx, ?_, ?_⟩
  · have e : (rangeD 0 S.toNat).length = S.toNat := by simp [rangeD]
    omega
  unfold d__law_row b__law_row
  refine mk_retF ?_
  refine seqN (ρ1 := [.dat (.list (ds.map .int)), .dat (.int k), .dat (.int (atD ds k 30)), .un, .un, .un, .un]) (r_set (A0 _ _ _ _ _ 30 (by omega)) rfl rfl) ?_
  refine seqN hS ?_
  refine seqN (ρ1 := [.dat (.list (ds.map .int)), .dat (.int k), .dat (.int S), .dat (.int m), .un, .un, .un]) (r_set (v := .s (.int m)) (r_e2 (a := .f [.int 2, .int 256, .int 6, .int 256]) (r_lst (r_args rfl (r_args rfl (r_args rfl (r_args rfl r_args0)))) rfl (by decide)) (A _ _ _ _ _ 2 4 (by omega) (by omega)) (by
    show (atI [PyData.int 2, .int 256, .int 6, .int 256] (atD ds (k + 2) 4)).map Val.s = _
    rw [hme]
    rfl)) rfl rfl) ?_
  refine seqN (ρ1 := [.dat (.list (ds.map .int)), .dat (.int k), .dat (.int S), .dat (.int m), .own (jd []), .un, .un]) (r_setO (r_lst r_args0 rfl (by decide)) rfl) ?_
  refine seqN (r_for (r_range (r_v rfl) (by omega) (by omega)) h1) ?_
  exact r_retB rfl
end FL
set_option Elab.async false
set_option linter.all false
set_option maxRecDepth 100000
set_option maxHeartbeats 4000000
/-! K92m: k02 over the shared functions. -/
namespace K92
open PySem PySem.Spec PyProof.Rows L2 DL FN FL
open ST (stp stuffed enc dec full)
def fuTurn : FS := fIf (tV (e2 gLtX (eV 2) (eG bLen (aCons (eV 0) (aNil))))) (fSeq (fSet 1 (e2 gAdd (eV 1) (eG bInt (aCons (e2 gEq (e2 gIx (eV 0) (eV 2)) (eC (.int 255))) (aNil))))) (fSet 2 (e2 gAdd (eV 2) (e2 gIx (eV 0) (eV 2))))) (fNx)
theorem fu_turn (r : List Nat) (c a x : Nat) (s3 : DL.Slot) (h : a < r.length) (hx : r[a]? = some x) : fuTurn [.dat (.list (jd r)), .dat (.int (c : Nat)), .dat (.int (a : Nat)), s3] = some (.nx [.dat (.list (jd r)), .dat (.int ((c + (if x = 255 then 1 else 0) : Nat) : Int)), .dat (.int ((a + x : Nat) : Int)), s3]) := by
  have hat : atI (jd r) (a : Nat) = some (.int (x : Nat)) := by
    rw [atI_jd h]
    rw [List.getElem?_eq_getElem h] at hx
    cases hx
    rfl
  have e1 : (a : Int) + (x : Int) = ((a + x : Nat) : Int) := by omega
  unfold fuTurn
  refine r_ift (r_ltI_t (r_v rfl) (len0 _ _ _ _) (by omega)) ?_
  have q := r_eqI (fa := e2 gIx (eV 0) (eV 2)) (fb := eC (.int 255)) (ρ := [.dat (.list (jd r)), .dat (.int (c : Nat)), .dat (.int (a : Nat)), s3]) (r_ix (r_v rfl) (r_v rfl) hat) rfl
  have q2 : eG bInt (aCons (e2 gEq (e2 gIx (eV 0) (eV 2)) (eC (.int 255))) (aNil)) [.dat (.list (jd r)), .dat (.int (c : Nat)), .dat (.int (a : Nat)), s3] = some (.ok (.s (.int ((if x = 255 then 1 else 0 : Nat) : Int)))) := by
    by_cases hx : x = 255
    · rw [beq_iff_eq.mpr (show (x : Int) = 255 by omega)] at q
      rw [if_pos hx]
      exact r_eG (r_args q r_args0) rfl
    · rw [beq_eq_false_iff_ne.mpr (show (x : Int) ≠ 255 by omega)] at q
      rw [if_neg hx]
      exact r_eG (r_args q r_args0) rfl
  refine seqN (ρ1 := [.dat (.list (jd r)), .dat (.int ((c + (if x = 255 then 1 else 0) : Nat) : Int)), .dat (.int (a : Nat)), s3]) (r_set (r_addI (r_v rfl) q2) rfl (by rw [Int.natCast_add]; rfl)) ?_
  exact r_set (r_addI (r_v rfl) (r_ix (r_v rfl) (r_v rfl) hat)) rfl (by rw [e1]; rfl)
theorem law_full_ok (bs : List (List Nat)) (hok : ∀ b ∈ bs, ST.Ok b) (hr : (enc bs).length ≤ 100000) : d__law_full [.list (jd (enc bs))] = some (.ret (.int (full bs : Nat))) := by
  have hle := ST.enc_le bs
  have key := forL_inv (g := gN 3) (ds := rangeD 0 (enc bs).length) (ρ := [.dat (.list (jd (enc bs))), .dat (.int ((0 : Nat) : Int)), .dat (.int ((0 : Nat) : Int)), .un]) (body := fuTurn)
    (fun i ρ => ∃ s3, ρ = [.dat (.list (jd (enc bs))), .dat (.int (full (bs.take i) : Nat)), .dat (.int ((enc (bs.take i)).length : Nat)), s3])
    ⟨_, rfl⟩ (by
      rintro i d ρ hd ⟨s3, rfl⟩
      by_cases hi : i < bs.length
      · have et : bs.take (i + 1) = bs.take i ++ [bs[i]] := List.take_succ_eq_append_getElem hi
        have eb : bs = bs.take i ++ bs[i] :: bs.drop (i + 1) := by
          rw [← List.drop_eq_getElem_cons hi, List.take_append_drop]
        have ee : enc bs = enc (bs.take i) ++ ((bs[i].length + 1) :: bs[i] ++ enc (bs.drop (i + 1))) := by
          conv => lhs; rw [eb]
          rw [ST.enc_app]
          rfl
        have hlt : (enc (bs.take i)).length < (enc bs).length := by
          conv => rhs; rw [ee]
          simp
        have hx : (enc bs)[(enc (bs.take i)).length]? = some (bs[i].length + 1) := by
          rw [ee, List.getElem?_append_right (Nat.le_refl _)]
          simp
        refine ⟨_, _, rfl, fu_turn _ _ _ _ _ hlt hx, .dat d, ?_⟩
        have e1 : full (bs.take i) + (if bs[i].length + 1 = 255 then 1 else 0) = full (bs.take (i + 1)) := by
          rw [et]
          unfold full
          rw [List.countP_append]
          by_cases hf : bs[i].length = 254
          · simp [hf]
          · simp [hf]
        have e2 : (enc (bs.take i)).length + (bs[i].length + 1) = (enc (bs.take (i + 1))).length := by
          rw [et, ST.enc_app]
          simp [enc]
        rw [e1, e2]
      · have e1 : bs.take i = bs := List.take_of_length_le (by omega)
        have e2 : bs.take (i + 1) = bs := List.take_of_length_le (by omega)
        rw [e1, e2]
        exact ⟨_, _, rfl, r_iff (r_ltI_f (r_v rfl) (len0 _ _ _ _) (by omega)) rfl, .dat d, rfl⟩)
  obtain ⟨ρ', h1, s3, rfl⟩ := key
  have e : (rangeD 0 (enc bs).length).length = (enc bs).length := by simp [rangeD]
  rw [e, List.take_of_length_le hle] at h1
  generalize enc bs = r at h1 hr hle
  unfold d__law_full b__law_full
  refine mk_ret ?_
  refine seqN (ρ1 := [.dat (.list (jd r)), .dat (.int ((0 : Nat) : Int)), .un, .un]) (r_set (v := .s (.int 0)) rfl rfl rfl) ?_
  refine seqN (ρ1 := [.dat (.list (jd r)), .dat (.int ((0 : Nat) : Int)), .dat (.int ((0 : Nat) : Int)), .un]) (r_set (v := .s (.int 0)) rfl rfl rfl) ?_
  refine seqN (r_for (r_range (len0 _ _ _ _) (by omega) (by omega)) (by rw [Int.toNat_natCast]; exact h1)) ?_
  exact r_ret rfl
/-! ### the row -/
theorem law_true : ∀ ns : List Int, ns.length ≤ 63 → d_law_k92 [scr ns] = some (.ret (.bool true)) := by
  intro ns hl
  obtain ⟨ds, _, _, hd⟩ := law_draws_ok ns hl
  obtain ⟨R, hR, hRl, hrow⟩ := law_row_ok ds 0 (by omega)
  have hst := stuff_ok R hR (by omega)
  have hls := law_stuffed_ok R hR (by omega)
  obtain ⟨bs, l, e1, e2, hok, hlt⟩ := ST.blocks R hR
  have hsmall := (ST.inv_run R hR).small
  have hlen : (stuffed R).length ≤ 100000 := by
    unfold stuffed
    rw [List.length_append, List.length_cons]
    omega
  have hun := unstuff_ok bs l hok hlt (by rw [← e1]; exact hlen)
  have hfu := law_full_ok (bs ++ [l]) hok (by rw [← e1]; exact hlen)
  have hel := ST.enc_length (bs ++ [l]) hok
  have hpos := ST.enc_pos hok
  rw [← e1] at hun hfu hel hpos
  rw [← e2, List.dropLast_concat] at hun
  rw [← e2, List.length_append, List.length_singleton] at hel
  have hz : (stuffed R).contains 0 = false := by
    rw [List.contains_eq_any_beq, List.any_eq_false]
    intro x hx
    have := hpos x hx
    simp
    omega
  generalize stuffed R = P at hst hls hlen hun hfu hel hpos hz
  generalize full (bs ++ [l]) = F at hfu hel
  have lenR := fun (ρ : Rho) (i : Nat) (h : ρ[i]? = some (.dat (.list (jd R)))) => r_len (E := eV i) (ρ := ρ) (r_v h) rfl
  have lenP := fun (ρ : Rho) (i : Nat) (h : ρ[i]? = some (.dat (.list (jd P)))) => r_len (E := eV i) (ρ := ρ) (r_v h) rfl
  rw [jd_len] at lenR lenP
  unfold d_law_k92
  refine mk_ret ?_
  show b_law_k92 [.dat (scr ns), .un, .un, .un, .un, .un, .un] = _
  unfold b_law_k92
  refine seqN (ρ1 := [.dat (scr ns), .dat (.list (ds.map .int)), .un, .un, .un, .un, .un]) (r_set (r_callF (r_args (r_v rfl) r_args0) rfl rfl hd) rfl rfl) ?_
  refine seqN (ρ1 := [.dat (scr ns), .dat (.list (ds.map .int)), .dat (.list (jd R)), .un, .un, .un, .un]) (r_set (r_callF (r_args (r_v rfl) (r_args rfl r_args0)) rfl rfl hrow) rfl rfl) ?_
  refine seqN (ρ1 := [.dat (scr ns), .dat (.list (ds.map .int)), .dat (.list (jd R)), .dat (.list (jd R)), .un, .un, .un]) (r_set (v := .f (jd R)) (r_eG (r_args (r_v rfl) r_args0) rfl) rfl rfl) ?_
  refine seqN (ρ1 := [.dat (scr ns), .dat (.list (ds.map .int)), .dat (.list (jd R)), .dat (.list (jd R)), .dat (.list (jd P)), .un, .un]) (r_set (r_callF (r_args (r_v rfl) r_args0) rfl rfl hst) rfl rfl) ?_
  refine seqN (r_iff (r_or_f (r_notT (r_tV (r_isi (r_v rfl)) rfl)) (r_or_f (r_tV (r_ne (r_v rfl) (r_v rfl) (eqD_jd_self _)) rfl) (r_or_f (by rw [r_in0 (n := 0) (r := P) rfl (r_v rfl) rfl, hz]) (r_tV (r_ne (r_v rfl) (r_call (r_args (r_v rfl) r_args0) rfl rfl hls) (eqD_jd_self _)) rfl)))) rfl) ?_
  refine seqN (r_iff (r_neI_f (lenP _ _ rfl) (r_addI (r_addI (lenR _ _ rfl) rfl) (r_call (r_args (r_v rfl) r_args0) rfl rfl hfu)) (by omega)) rfl) ?_
  refine seqN (ρ1 := [.dat (scr ns), .dat (.list (ds.map .int)), .dat (.list (jd R)), .dat (.list (jd R)), .dat (.list (jd P)), .dat (.list (jd P)), .un]) (r_set (v := .f (jd P)) (r_eG (r_args (r_v rfl) r_args0) rfl) rfl rfl) ?_
  refine seqN (ρ1 := [.dat (scr ns), .dat (.list (ds.map .int)), .dat (.list (jd R)), .dat (.list (jd R)), .dat (.list (jd P)), .dat (.list (jd P)), .own (jd R)]) (r_setO (r_callF (r_args (r_v rfl) r_args0) rfl rfl hun) rfl) ?_
  refine seqN (r_iff (r_or_f (r_notT (r_tV (r_isi (r_b rfl)) rfl)) (r_or_f (r_tV (r_ne (r_b rfl) (r_v rfl) (eqD_jd_self _)) rfl) (r_tV (r_ne (r_v rfl) (r_v rfl) (eqD_jd_self _)) rfl))) rfl) ?_
  refine seqN (ρ1 := [.dat (scr ns), .dat (.list (ds.map .int)), .dat (.list (jd R)), .dat (.list (jd R)), .dat (.list (jd P)), .dat (.list (jd P)), .own (jd (R ++ [1]))]) (r_app (es := jd R) (d := .int ((1 : Nat) : Int)) rfl rfl rfl (by rw [jd_len]; omega) (by rw [jd_app]; rfl)) ?_
  refine r_ret ?_
  have q1 := r_eq (fa := eCall d_unstuff 1 (aCons (eV 4) (aNil))) (fb := eV 3) (ρ := [.dat (scr ns), .dat (.list (ds.map .int)), .dat (.list (jd R)), .dat (.list (jd R)), .dat (.list (jd P)), .dat (.list (jd P)), .own (jd (R ++ [1]))]) (r_callF (r_args (r_v rfl) r_args0) rfl rfl hun) (r_v rfl) (eqD_jd_self _)
  have q2 := r_eq (fa := eCall d_stuff 1 (aCons (eV 3) (aNil))) (fb := eV 5) (ρ := [.dat (scr ns), .dat (.list (ds.map .int)), .dat (.list (jd R)), .dat (.list (jd R)), .dat (.list (jd P)), .dat (.list (jd P)), .own (jd (R ++ [1]))]) (r_callF (r_args (r_v rfl) r_args0) rfl rfl hst) (r_v rfl) (eqD_jd_self _)
  exact r_andV_t q1 q2
end K92
set_option Elab.async false
open PySem PySem.W PyProof.Rows
set_option maxRecDepth 100000 in
set_option maxHeartbeats 0 in
theorem PySem.Challenge.cw_spoolbox_k02_stuffing_back_holds : PySem.Challenge.rw_spoolbox_k02_stuffing_back.Holds := by
  w_on; o_law; k_head; (case hw => w_witness2)
  k_fill
  refine L2.walk_of (l := PySem.Challenge.rw_spoolbox_k02_stuffing_back) (n := 63) (k := 4) (x := "script") (CX := fun w => L2.CX PySem.Challenge.rw_spoolbox_k02_stuffing_back.prog w) (sp := fun w => DL.spLaw _) rfl (by decide) rfl ⟨rfl, by decide, by decide⟩ (fun w h Y => PySem.W.kIn_of Y) ?F (fun _ _ a ns hl _ hS => ⟨a, ns, rfl, hS, hl, fun _ => rfl⟩) (fun _ _ _ _ _ h => DL.cx_none h)
  case F =>
    intro w mg fa h KX G hmg
    refine' K92.all_mk KX G hmg K92.law_true ?a0 ?l0 ?c0 ?k0 ?a1 ?l1 ?c1 ?k1 ?a2 ?l2 ?c2 ?k2 ?a3 ?l3 ?c3 ?k3 ?a4 ?l4 ?c4 ?k4 ?a5 ?l5 ?c5 ?k5 ?a6 ?l6 ?c6 ?k6 ?a7 ?l7 ?c7 ?k7 ?z_range ?z_min ?z_len ?z_abs ?z_int ?z_list ?z_isinstance ?n_FULL ?lI ?cI ?kI ?tI ?xa_BadStuffing ?xl_BadStuffing ?xr_BadStuffing ?xs_BadStuffing ?xe_BadStuffing ?xt_BadStuffing ?xk_BadStuffing ?xn_BadStuffing ?xi_BadStuffing ?xg_BadStuffing ?xh_BadStuffing ?xd_BadStuffing
    (case xa_BadStuffing => k_is)
    (case xi_BadStuffing => k_is)
    (case xl_BadStuffing => k_is)
    (case xr_BadStuffing => decide +kernel)
    (case a0 => k_is)
    (case l0 => k_is)
    (case c0 => k_is)
    (case k0 => k_is)
    (case a1 => k_is)
    (case l1 => k_is)
    (case c1 => k_is)
    (case k1 => k_is)
    (case a2 => k_is)
    (case l2 => k_is)
    (case c2 => k_is)
    (case k2 => k_is)
    (case a3 => k_is)
    (case l3 => k_is)
    (case c3 => k_is)
    (case k3 => k_is)
    (case a4 => k_is)
    (case l4 => k_is)
    (case c4 => k_is)
    (case k4 => k_is)
    (case a5 => k_is)
    (case l5 => k_is)
    (case c5 => k_is)
    (case k5 => k_is)
    (case a6 => k_is)
    (case l6 => k_is)
    (case c6 => k_is)
    (case k6 => k_is)
    (case a7 => k_is)
    (case l7 => k_is)
    (case c7 => k_is)
    (case k7 => k_is)
    (case z_range => k_is)
    (case z_min => k_is)
    (case z_len => k_is)
    (case z_abs => k_is)
    (case z_int => k_is)
    (case z_list => k_is)
    (case z_isinstance => k_is)
    (case n_FULL => k_is)
    (case lI => k_is)
    (case cI => k_is)
    (case kI => k_is)
    (case tI => k_is)
    (case xs_BadStuffing => k_is)
    (case xe_BadStuffing => k_is)
    (case xt_BadStuffing => k_is)
    (case xk_BadStuffing => k_is)
    (case xn_BadStuffing => k_is)
    (case xg_BadStuffing => k_is)
    (case xh_BadStuffing => k_is)
    (case xd_BadStuffing => k_is)
