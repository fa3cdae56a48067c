import PyProof.Rows.All
import Wide.All
import OpenK.AllK
import Wide.FinOn
import PyProof.EqAt
import PyProof.EqKinds
import PyProof.TupleCall
import HandS.ForMost
import HandS.ForExc
import HandS.ExcInit
import HandS.TryMany
import HandS.Flow
import HandS.Lambda
import HandS.TupSets
import HandS.Star
import HandS.Conv
import HandS.IsInst
import HandS.ExcField
import HandS.ExcIs
import KE.KExcIs
import KE.KTryMore
import KE.GoesEnum
import KE.GoesMore
import HandS.Iter
import HandS.Text
import HandS.Style
import HandS.Deep
import KE.SortData
import KE.DataCmp
import PyProof.ReprRoads
import PyProof.ReprLen
import PyProof.StrBlock2
import PyProof.Rows.StrMul
import KE.GoesEnumKw
import PyProof.Rows.CallKw2
import KE.DatumOrd
import HandS.SortKw
import KE.SortKeyHeap
import HandS.EndTab
import HandS.SuiteRaise
import HandS.ExcInitHot
import PyProof.SetRoads
import HandS.CallSlots
import HandS.Defaults
import HandS.ForDict
import PyProof.AssignAttr
import HandS.SetFor
import HandS.Strs
import KE.KDictZip
import KE.KDictCopyH
import KE.KDictSum
import HandS.WideBits
import PyProof.Rows.StrDouble
import PySem.Challenge.RW_spoolbox_k46_sound_leaves
set_option Elab.async false
set_option linter.all false
set_option maxRecDepth 100000
set_option maxHeartbeats 4000000
namespace DL
open PySem PySem.Spec PyProof.Rows L2
abbrev D := PyData
abbrev St := L2.St
@[simp] def ntb : HO → Bool
  | .tbl _ => false
  | _ => true
def yb (H H' : Hp) : Prop := ∀ b o, H b = some o → ntb o = true → H' b = some o
def LQ : List (Nat × Str) := [(1000, "in_order" ++ ".<locals>." ++ "<lambda>"), (1001, "witness" ++ ".<locals>." ++ "<lambda>"), (1002, "file_of" ++ ".<locals>." ++ "<lambda>"), (1003, "rebuilt" ++ ".<locals>." ++ "<lambda>")]
def xX (Cl : Nat → Addr) (H : Hp) : Prop := ∀ p ∈ LQ, Cl p.1 ≠ 0 → LamX.TabS H (Cl p.1) p.2
def NoT (Cl : Nat → Addr) : Prop := Cl 1000 = 0 ∧ Cl 1001 = 0 ∧ Cl 1002 = 0 ∧ Cl 1003 = 0
theorem xX.none {Cl : Nat → Addr} (h : NoT Cl) (H : Hp) : xX Cl H := fun p hp n => by
  obtain ⟨h0, h1, h2, h3⟩ := h
  simp only [LQ, List.mem_cons, List.not_mem_nil, or_false] at hp
  rcases hp with rfl | rfl | rfl | rfl
  · exact absurd h0 n
  · exact absurd h1 n
  · exact absurd h2 n
  · exact absurd h3 n
structure Same (Cl : Nat → Addr) (H H' : Hp) : Prop where
  d : yb H H'
  tb : xX Cl H → xX Cl H'
  live : ∀ b, H b ≠ none → H' b ≠ none
  nf : ∀ b o xs, H' b = some (.frz o (.lst xs)) → H b = some (.frz o (.lst xs))
section
variable {Cl : Nat → Addr}
theorem yb.refl (H : Hp) : yb H H := fun _ _ h _ => h
theorem yb.trans {H H1 H2 : Hp} (a : yb H H1) (b : yb H1 H2) : yb H H2 := fun c o h n => b c o (a c o h n) n
theorem Same.refl (H : Hp) : Same Cl H H := ⟨.refl H, fun h => h, fun _ h => h, fun _ _ _ h => h⟩
theorem Same.trans {H H1 H2 : Hp} (a : Same Cl H H1) (b : Same Cl H1 H2) : Same Cl H H2 := ⟨a.d.trans b.d, fun h => b.tb (a.tb h), fun c h => b.live c (a.live c h), fun c o xs h => a.nf c o xs (b.nf c o xs h)⟩
theorem Same.of {H H' : Hp} (e : ∀ b o, H b = some o → H' b = some o) (nf : ∀ b o xs, H' b = some (.frz o (.lst xs)) → H b = some (.frz o (.lst xs))) : Same Cl H H' := ⟨fun b o h _ => e b o h, fun t p hp n => (t p hp n).ext e, fun b h z => (by
  cases q : H b with
  | none => exact h q
  | some o => rw [e b o q] at z; cases z), nf⟩
theorem Same.at {H H' : Hp} (s : Same Cl H H') {b : Addr} {o : HO} (h : H b = some o) (n : ntb o = true := by rfl) : H' b = some o := s.d b o h n
theorem Same.free {H H' : Hp} (s : Same Cl H H') {l : Addr} (h : H' l = Option.none) : H l = Option.none := by
  cases q : H l with
  | none => rfl
  | some o => exact absurd h (s.live l (by rw [q]; intro z; cases z))
theorem yb.seq {K : PySem.W.Frag} {H H' : Hp} {a : Addr} {xs : List V} (e : yb H H') (h : SqL K H a xs) : SqL K H' a xs := by
  rcases h with (h | ⟨o, h⟩) | h
  · exact .inl (.inl (e _ _ h rfl))
  · exact .inl (.inr ⟨o, e _ _ h rfl⟩)
  · exact .inr h
theorem Same.seq {K : PySem.W.Frag} {H H' : Hp} {a : Addr} {xs : List V} (e : Same Cl H H') (h : SqL K H a xs) : SqL K H' a xs := e.d.seq h
end
open Classical in
noncomputable def hide (H : Hp) (Z : Addr → Prop) : Hp := fun b => if Z b then none else H b
theorem yf {H : Hp} {Z : Addr → Prop} {b : Addr} {o : HO} (h : hide H Z b = some o) : ¬ Z b ∧ H b = some o := by
  unfold hide at h
  split at h
  · cases h
  · rename_i n
    exact ⟨n, h⟩
theorem vc {H : Hp} {Z : Addr → Prop} {b : Addr} {o : HO} (n : ¬ Z b) (h : H b = some o) : hide H Z b = some o := by
  unfold hide
  rw [if_neg n]
  exact h
theorem jc {H H' : Hp} {Z Z' : Addr → Prop} (s : yb H H') (z : ∀ b, Z' b → Z b ∨ H b = none) : yb (hide H Z) (hide H' Z') := fun b o h nt => by
  obtain ⟨n, e⟩ := yf h
  refine vc (fun q => ?_) (s b o e nt)
  rcases z b q with z1 | z1
  · exact n z1
  · rw [e] at z1; cases z1
theorem kf {Cl : Nat → Addr} {H H' : Hp} {Z Z' : Addr → Prop} (s : Same Cl H H') (z : ∀ b, Z' b → Z b ∨ H b = none) : yb (hide H Z) (hide H' Z') := jc s.d z
theorem qd {H : Hp} {Z : Addr → Prop} : yb (hide H Z) H := fun b o h _ => (yf h).2
theorem Rd.same {H H' : Hp} {a : Addr} {u : HO} (s : yb H H') (h : Rd H a u) (n : ntb u = true := by rfl) : Rd H' a u := by
  rcases h with h | ⟨o, h⟩
  · exact .inl (s _ _ h n)
  · exact .inr ⟨o, s _ _ h rfl⟩
theorem SqT.same {K : PySem.W.Frag} {H H' : Hp} {a : Addr} {xs : List V} (s : yb H H') (h : SqT K H a xs) : SqT K H' a xs := by
  rcases h with (h | ⟨o, h⟩) | h
  · exact .inl (.inl (s _ _ h rfl))
  · exact .inl (.inr ⟨o, s _ _ h rfl⟩)
  · exact .inr h
abbrev yO (ns : List Int) : D := .dict (ns.map fun n => (.int n, .none))
abbrev ycx (C : Addr) (i : Int) : D := .dict [(.str "at", .int i), (.int (C : Nat), .none)]
def zaV : List (D × D) → Bool
  | (.str _, _) :: _ => true
  | _ => false
@[simp] def wbP : D → Bool
  | .dict ks => zaV ks
  | _ => false
@[simp] theorem ya9 (ns : List Int) : zaV (ns.map fun n => ((.int n, .none) : D × D)) = false := by cases ns <;> rfl
mutual
inductive Dp (K : PySem.W.Frag) (H : Hp) : V → D → Prop
  | non : Dp K H .non .none
  | bl (b : Bool) : Dp K H (.bl b) (.bool b)
  | int (i : Int) : Dp K H (.int i) (.int i)
  | str (x : Str) : Dp K H (.str x) (.str x)
  | lst {a : Addr} {xs : List V} {ds : List D} : Rd H a (.lst xs) → DpAll K H xs ds → Dp K H (.ref a) (.list ds)
  | tup {a : Addr} {xs : List V} {ds : List D} : SqT K H a xs → DpAll K H xs ds → Dp K H (.ref a) (.tuple ds)
  | yO {a : Addr} {ns : List Int} : SqL K H a (ns.map V.int) → Dp K H (.ref a) (.dict (ns.map fun n => (.int n, .none)))
  | exc {a dd C : Addr} {i : Int} : H a = some (exo a C (some dd)) → H dd = some (exd dd [("at", .int i)]) → Dp K H (.ref a) (.dict [(.str "at", .int i), (.int (C : Nat), .none)])
inductive DpAll (K : PySem.W.Frag) (H : Hp) : List V → List D → Prop
  | nil : DpAll K H [] []
  | cons {v : V} {vs : List V} {d : D} {ds : List D} : Dp K H v d → DpAll K H vs ds → DpAll K H (v :: vs) (d :: ds)
end
mutual
theorem Dp.up {K : PySem.W.Frag} {H : Hp} : ∀ {v : V} {d : D}, d.canLay0 = true → Dp K H v d → L2.Dp K H v d
  | _, _, _, .non => .non
  | _, _, _, .bl b => .bl b
  | _, _, _, .int i => .int i
  | _, _, _, .str x => .str x
  | _, _, c, .lst h t => .lst (.inl h) (DpAll.up c t)
  | _, _, c, .tup h t => .tup h (DpAll.up c t)
  | _, _, c, .yO h => nomatch c
  | _, _, c, .exc _ _ => nomatch c
theorem DpAll.up {K : PySem.W.Frag} {H : Hp} : ∀ {vs : List V} {ds : List D}, PyData.canLayAll0 ds = true → DpAll K H vs ds → L2.DpAll K H vs ds
  | _, _, _, .nil => .nil
  | _, _, c, .cons h t => by
    have c' := Bool.and_eq_true_iff.mp c
    exact .cons (Dp.up c'.1 h) (DpAll.up c'.2 t)
end
mutual
theorem Dp.same {K : PySem.W.Frag} {H H' : Hp} (s : yb H H') : ∀ {v : V} {d : D}, Dp K H v d → Dp K H' v d
  | _, _, .non => .non
  | _, _, .bl b => .bl b
  | _, _, .int i => .int i
  | _, _, .str x => .str x
  | _, _, .lst h t => .lst (Rd.same s h) (DpAll.same s t)
  | _, _, .tup h t => .tup (SqT.same s h) (DpAll.same s t)
  | _, _, .yO h => .yO (s.seq h)
  | _, _, .exc h1 h2 => .exc (s _ _ h1 rfl) (s _ _ h2 rfl)
theorem DpAll.same {K : PySem.W.Frag} {H H' : Hp} (s : yb H H') : ∀ {vs : List V} {ds : List D}, DpAll K H vs ds → DpAll K H' vs ds
  | _, _, .nil => .nil
  | _, _, .cons h t => .cons (Dp.same s h) (DpAll.same s t)
end
section
variable {K : PySem.W.Frag} {H : Hp}
theorem DpAll.length : ∀ {vs : List V} {ds : List D}, DpAll K H vs ds → vs.length = ds.length
  | _, _, .nil => rfl
  | _, _, .cons _ t => by rw [List.length_cons, List.length_cons, DpAll.length t]
theorem DpAll.get : ∀ {vs : List V} {ds : List D} {i : Nat} {d : D}, DpAll K H vs ds → ds[i]? = some d → ∃ v, vs[i]? = some v ∧ Dp K H v d
  | _, _, _, _, .nil, e => by simp at e
  | _, _, 0, _, .cons h _, e => by simp at e; subst e; exact ⟨_, rfl, h⟩
  | _, _, i + 1, d, .cons _ t, e => by
    obtain ⟨u, h1, h2⟩ := DpAll.get (i := i) (d := d) t (by simpa using e)
    exact ⟨u, by simpa using h1, h2⟩
theorem DpAll.append : ∀ {xs ys : List V} {ds es : List D}, DpAll K H xs ds → DpAll K H ys es → DpAll K H (xs ++ ys) (ds ++ es)
  | _, _, _, _, .nil, s => s
  | _, _, _, _, .cons r t, s => .cons r (DpAll.append t s)
theorem DpAll.take : ∀ {xs : List V} {ds : List D} (n : Nat), DpAll K H xs ds → DpAll K H (xs.take n) (ds.take n)
  | _, _, 0, _ => .nil
  | _, _, _ + 1, .nil => .nil
  | _, _, n + 1, .cons r t => .cons r (DpAll.take n t)
theorem DpAll.drop : ∀ {xs : List V} {ds : List D} (n : Nat), DpAll K H xs ds → DpAll K H (xs.drop n) (ds.drop n)
  | _, _, 0, r => r
  | _, _, _ + 1, .nil => .nil
  | _, _, n + 1, .cons _ t => DpAll.drop n t
theorem DpAll.set {x : V} {d : D} (r : Dp K H x d) : ∀ {xs : List V} {ds : List D} (i : Nat), DpAll K H xs ds → DpAll K H (xs.set i x) (ds.set i d)
  | _, _, _, .nil => .nil
  | _, _, 0, .cons _ t => .cons r t
  | _, _, i + 1, .cons q t => .cons q (DpAll.set r i t)
theorem DpAll.dropLast {xs : List V} {ds : List D} (h : DpAll K H xs ds) : DpAll K H xs.dropLast ds.dropLast := by
  rw [List.dropLast_eq_take, List.dropLast_eq_take, DpAll.length h]
  exact DpAll.take _ h
theorem Dp.int_inv {v : V} {i : Int} (h : Dp K H v (.int i)) : v = .int i := by cases h; rfl
theorem Dp.str_inv {v : V} {x : Str} (h : Dp K H v (.str x)) : v = .str x := by cases h; rfl
theorem Dp.waj {v : V} {b : Bool} (h : Dp K H v (.bool b)) : v = .bl b := by cases h; rfl
theorem Dp.vbs {v : V} (h : Dp K H v .none) : v = .non := by cases h; rfl
theorem Dp.lst_inv {v : V} {ds : List D} (h : Dp K H v (.list ds)) : ∃ a xs, v = .ref a ∧ Rd H a (.lst xs) ∧ DpAll K H xs ds := by
  cases h with
  | lst h t => exact ⟨_, _, rfl, h, t⟩
theorem Dp.wx {v : V} {ds : List D} (h : Dp K H v (.tuple ds)) : ∃ a xs, v = .ref a ∧ SqT K H a xs ∧ DpAll K H xs ds := by
  cases h with
  | tup h t => exact ⟨_, _, rfl, h, t⟩
theorem DpAll.ints : ∀ {vs : List V} {ns : List Int}, DpAll K H vs (ns.map PyData.int) → vs = ns.map V.int
  | _, [], h => by cases h; rfl
  | _, n :: ns, h => by
    cases h with
    | cons a b =>
      rw [Dp.int_inv a, DpAll.ints b]
      rfl
theorem DpAll.of_ints : ∀ (ns : List Int), DpAll K H (ns.map V.int) (ns.map PyData.int)
  | [] => .nil
  | n :: ns => .cons (.int n) (DpAll.of_ints ns)
end
@[simp] def wj : D → Bool
  | .none => true | .bool _ => true | .int _ => true | .str _ => true
  | _ => false
theorem Dp.scalar {K : PySem.W.Frag} {H H' : Hp} {v : V} {d : D} (s : wj d = true) (h : Dp K H v d) : Dp K H' v d := by
  cases h with
  | non => exact .non
  | bl b => exact .bl b
  | int i => exact .int i
  | str x => exact .str x
  | lst _ _ => cases s
  | tup _ _ => cases s
  | yO _ => cases s
  | exc _ _ => cases s
theorem DpAll.scalar {K : PySem.W.Frag} {H H' : Hp} : ∀ {vs : List V} {ds : List D}, ds.all wj = true → DpAll K H vs ds → DpAll K H' vs ds
  | _, _, _, .nil => .nil
  | _, _, s, .cons h t => by
    rw [List.all_cons, Bool.and_eq_true] at s
    exact .cons (Dp.scalar s.1 h) (DpAll.scalar s.2 t)
inductive Cell where
  | set (ks : List (List Int)) | lst (ds : List D) | dic (ps : List (List Int × D))
def xC (Cl : Nat → Addr) : Bool := Cl 2000 == 0
def vF (b : Bool) (a : Addr) (L : List (Addr × List Int)) : HO := .ext fun h => (∃ o es ep t, h.get? a = some o ∧ o.data = .set es ep t) ∧ ∀ (P : Program) (w : World), w.params.followText "set-order" = b → SetT0 P w h a L
def wA (L : List (List Int × Addr × V)) (xs : List (List Int × Addr × Value)) : Prop := Paired (fun p q => p.1 = q.1 ∧ p.2.1 = q.2.1 ∧ RelV p.2.2 q.2.2) L xs
def kg (a : Addr) (L : List (List Int × Addr × V)) : HO := .ext fun h => (a == sysModules) = false ∧ ∃ (xs : List (List Int × Addr × Value)) (o : Obj) (es : Array DictEntry) (ep : Nat), wA L xs ∧ h.get? a = some o ∧ o.ExactDict ∧ o.data = .dict es ep ∧
  (∀ (P : Program) (w : World), es.toList = xs.map (entryOfKey (tupleKind (intKind P w)))) ∧ (xs.map (·.1)).Nodup
inductive qm (K : PySem.W.Frag) (Hs : Hp) : List (List Int × Addr × V) → List (List Int × D) → Prop
  | nil : qm K Hs [] []
  | cons {k : List Int} {b : Addr} {v : V} {d : D} {L : List (List Int × Addr × V)} {ps : List (List Int × D)} : SqT K Hs b (k.map V.int) → Dp K Hs v d → qm K Hs L ps → qm K Hs ((k, b, v) :: L) ((k, d) :: ps)
theorem qm.same {K : PySem.W.Frag} {Hs Hs' : Hp} (s : yb Hs Hs') : ∀ {L : List (List Int × Addr × V)} {ps : List (List Int × D)}, qm K Hs L ps → qm K Hs' L ps
  | _, _, .nil => .nil
  | _, _, .cons t h r => .cons (SqT.same s t) (Dp.same s h) (qm.same s r)
theorem jaP (a : Addr) (L : List (List Int × Addr × V)) (q : Str) : kg a L ≠ LamX.CodeO a q := fun z => by
  unfold kg LamX.CodeO at z
  have e := HO.ext.inj z
  have hg : (⟨Array.replicate (a + 1) { cls := .none, dict := none, data := .fields #[.none, .str q 0] }, {}⟩ : Heap).get? a = some { cls := .none, dict := none, data := .fields #[.none, .str q 0] } := by
    unfold Heap.get?
    dsimp only
    rw [Array.getElem?_replicate, if_pos (Nat.lt_succ_self a)]
  have k := cast (congrFun e _).symm ⟨_, _, _, hg, rfl, rfl⟩
  obtain ⟨_, xs, o, es, ep, _, h1, _, h2, _⟩ := k
  rw [hg] at h1
  cases h1
  cases h2
def qu (K : PySem.W.Frag) (Cl : Nat → Addr) (Hs : Hp) (a : Addr) (u : HO) : Cell → Prop
  | .dic ps => ∃ L, u = kg a L ∧ qm K Hs L ps
  | .set ks => ∃ L, u = vF (xC Cl) a L ∧ (∀ p ∈ L, SqT K Hs p.1 (p.2.map V.int)) ∧ (∀ k, k ∈ L.map (·.2) ↔ k ∈ ks) ∧ L.length ≤ ks.length
  | .lst ds => ∃ xs, u = .lst xs ∧ DpAll K Hs xs ds
theorem qu.same {K : PySem.W.Frag} {Cl : Nat → Addr} {Hs Hs' : Hp} {a : Addr} {u : HO} {c : Cell} (s : yb Hs Hs') (h : qu K Cl Hs a u c) : qu K Cl Hs' a u c := by
  cases c with
  | set ks =>
    obtain ⟨L, h1, h2, h3⟩ := h
    exact ⟨L, h1, fun p hp => SqT.same s (h2 p hp), h3⟩
  | lst ds =>
    obtain ⟨xs, h1, h2⟩ := h
    exact ⟨xs, h1, DpAll.same s h2⟩
  | dic ps =>
    obtain ⟨L, h1, h2⟩ := h
    exact ⟨L, h1, h2.same s⟩
theorem zbx (b : Bool) (a : Addr) (L : List (Addr × List Int)) (q : Str) : vF b a L ≠ LamX.CodeO a q := fun z => by
  unfold vF LamX.CodeO at z
  have e := HO.ext.inj z
  have hg : (⟨Array.replicate (a + 1) { cls := .none, dict := none, data := .fields #[.none, .str q 0] }, {}⟩ : Heap).get? a = some { cls := .none, dict := none, data := .fields #[.none, .str q 0] } := by
    unfold Heap.get?
    dsimp only
    rw [Array.getElem?_replicate, if_pos (Nat.lt_succ_self a)]
  have k := cast (congrFun e _).symm ⟨_, _, _, hg, rfl, rfl⟩
  obtain ⟨⟨o, es, ep, t, h1, h2⟩, _⟩ := k
  rw [hg] at h1
  cases h1
  cases h2
theorem qu.nt {K : PySem.W.Frag} {Cl : Nat → Addr} {Hs : Hp} {a : Addr} {u : HO} {c : Cell} (h : qu K Cl Hs a u c) : (∀ ps, u ≠ .tbl ps) ∧ ∀ q, u ≠ LamX.CodeO a q := by
  cases c with
  | set ks =>
    obtain ⟨L, rfl, h2, h3⟩ := h
    exact ⟨fun ps z => (by unfold vF at z; cases z), fun q => zbx (xC Cl) a L q⟩
  | lst ds =>
    obtain ⟨xs, rfl, h2⟩ := h
    exact ⟨fun ps z => (by cases z), fun q z => (by unfold LamX.CodeO at z; cases z)⟩
  | dic ps =>
    obtain ⟨L, rfl, h2⟩ := h
    exact ⟨fun ps z => (by unfold kg at z; cases z), fun q => jaP a L q⟩
theorem qu.nfz {K : PySem.W.Frag} {Cl : Nat → Addr} {Hs : Hp} {a : Addr} {u : HO} {c : Cell} (h : qu K Cl Hs a u c) : ∀ o v, u ≠ .frz o v := by
  cases c with
  | set ks =>
    obtain ⟨L, rfl, h2, h3⟩ := h
    exact fun o v z => (by unfold vF at z; cases z)
  | lst ds =>
    obtain ⟨xs, rfl, h2⟩ := h
    exact fun o v z => (by cases z)
  | dic ps =>
    obtain ⟨L, rfl, h2⟩ := h
    exact fun o v z => (by unfold kg at z; cases z)
theorem qu.ntb {K : PySem.W.Frag} {Cl : Nat → Addr} {Hs : Hp} {a : Addr} {u : HO} {c : Cell} (h : qu K Cl Hs a u c) : ntb u = true := by
  have n := h.nt.1
  cases u <;> first | rfl | exact absurd rfl (n _)
theorem Same.wc {Cl : Nat → Addr} {K : PySem.W.Frag} {H H' Hs : Hp} {a : Addr} {u : HO} {c : Cell} (s : Same Cl H H') (h : qu K Cl Hs a u c) (e : H a = some u) : H' a = some u := s.d a u e h.ntb
def zae : Nat → List Str
  | 3000 => ["size", "piece", "total", "number", "kind", "stamp", "ticks", "skip", "rows", "tags", "spots", "named"]
  | 3001 => ["walk", "found", "contents", "stuck"]
  | _ => []
inductive OF where
  | dat (d : D) | dic (ps : List (Int × D)) | sub (k : Nat) (fs : List OF)
inductive xh (K : PySem.W.Frag) (Hs : Hp) : List (Key × V) → List (Int × D) → Prop
  | nil : xh K Hs [] []
  | cons {k : Int} {v : V} {d : D} {kvs : List (Key × V)} {ps : List (Int × D)} : Dp K Hs v d → xh K Hs kvs ps → xh K Hs ((.inl k, v) :: kvs) ((k, d) :: ps)
theorem xh.same {K : PySem.W.Frag} {Hs Hs' : Hp} (s : yb Hs Hs') : ∀ {kvs : List (Key × V)} {ps : List (Int × D)}, xh K Hs kvs ps → xh K Hs' kvs ps
  | _, _, .nil => .nil
  | _, _, .cons h t => .cons (Dp.same s h) (xh.same s t)
def vaj (K : PySem.W.Frag) (Hs : Hp) (v : V) : OF → Prop
  | .dat d => Dp K Hs v d
  | .dic ps => ∃ n kvs, v = .ref n ∧ Hs n = some (.dK kvs) ∧ xh K Hs kvs ps
  | .sub _ _ => False
def wa8 (K : PySem.W.Frag) (Cl : Nat → Addr) (Hs : Hp) (v : V) : OF → Prop
  | .dat d => Dp K Hs v d
  | .dic ps => ∃ n kvs, v = .ref n ∧ Hs n = some (.dK kvs) ∧ xh K Hs kvs ps
  | .sub k fs => ∃ b dx vs, v = .ref b ∧ Hs b = some (.ins (Cl k) dx ((zae k).zip vs)) ∧ vs.length = (zae k).length ∧ fs.length = (zae k).length ∧ ∀ (j : Nat) x, fs[j]? = some x → ∃ u, vs[j]? = some u ∧ vaj K Hs u x
theorem vaj.same {K : PySem.W.Frag} {Hs Hs' : Hp} {v : V} {x : OF} (m : yb Hs Hs') (h : vaj K Hs v x) : vaj K Hs' v x := by
  cases x with
  | dat d => exact Dp.same m h
  | dic ps =>
    obtain ⟨n, kvs, f1, f2, f3⟩ := h
    exact ⟨n, kvs, f1, m _ _ f2 rfl, f3.same m⟩
  | sub k fs => exact h
theorem vaj.up {K : PySem.W.Frag} {Cl : Nat → Addr} {Hs : Hp} {v : V} {x : OF} (h : vaj K Hs v x) : wa8 K Cl Hs v x := by
  cases x with
  | dat d => exact h
  | dic ps => exact h
  | sub k fs => exact h.elim
structure jaV (K : PySem.W.Frag) (Cl : Nat → Addr) (Hs : Hp) (a : Addr) (k : Nat) (fs : List OF) : Prop where
  go : ∃ (dx : Addr) (vs : List V), Hs a = some (.ins (Cl k) dx ((zae k).zip vs)) ∧ vs.length = (zae k).length ∧ fs.length = (zae k).length ∧ ∀ (j : Nat) x, fs[j]? = some x → ∃ v, vs[j]? = some v ∧ wa8 K Cl Hs v x
def kF (K : PySem.W.Frag) (Cl : Nat → Addr) (Hs : Hp) (o : Option (Option V)) (k : Nat) (fs : List OF) : Prop := ∃ a, o = some (some (.ref a)) ∧ jaV K Cl Hs a k fs
theorem jaV.same {K : PySem.W.Frag} {Cl : Nat → Addr} {Hs Hs' : Hp} {a : Addr} {k : Nat} {fs : List OF} (m : yb Hs Hs') (q : jaV K Cl Hs a k fs) : jaV K Cl Hs' a k fs := by
  obtain ⟨dx, vs, e1, e2, e3, e4⟩ := q
  refine ⟨dx, vs, m _ _ e1 rfl, e2, e3, fun j x hx => ?_⟩
  obtain ⟨v, hv, hf⟩ := e4 j x hx
  refine ⟨v, hv, ?_⟩
  cases x with
  | dat d => exact Dp.same m hf
  | dic ps =>
    obtain ⟨n, kvs, f1, f2, f3⟩ := hf
    exact ⟨n, kvs, f1, m _ _ f2 rfl, f3.same m⟩
  | sub k2 fs2 =>
    obtain ⟨b, dx2, vs2, f1, f2, f3, f4, f5⟩ := hf
    exact ⟨b, dx2, vs2, f1, m _ _ f2 rfl, f3, f4, fun j2 x2 h2 => (f5 j2 x2 h2).imp fun u q => ⟨q.1, q.2.same m⟩⟩
theorem kF.same {K : PySem.W.Frag} {Cl : Nat → Addr} {Hs Hs' : Hp} {o : Option (Option V)} {k : Nat} {fs : List OF} (m : yb Hs Hs') (q : kF K Cl Hs o k fs) : kF K Cl Hs' o k fs := by
  obtain ⟨a, e, q⟩ := q
  exact ⟨a, e, q.same m⟩
inductive Slot where
  | un | dat (d : D) | own (ds : List D) | err (a dd : Addr) (i : Int) | ownT (a : Addr) (k : Nat) (ds : List D) | wc (a : Addr) (c : Cell) | pin (a : Addr) | ob (k : Nat) (fs : List OF)
abbrev ya := List Slot
def zg (σ : St) (ρ : ya) (i : Nat) (a : Addr) : Prop := (σ[i]? = some (some (.ref a)) ∧ ∃ ds, ρ[i]? = some (.own ds)) ∨ (∃ k ds, ρ[i]? = some (.ownT a k ds)) ∨ ∃ c, ρ[i]? = some (.wc a c)
def Slot.yz : Slot → Prop
  | .own _ => True
  | .ownT _ _ _ => True
  | .wc _ _ => True
  | _ => False
structure yau (K : PySem.W.Frag) (H Hs : Hp) (T a : Addr) (k : Nat) (ds : List D) : Prop where
  go : ∃ (xs ys : List V) (es : List D), SqT K Hs T xs ∧ DpAll K Hs (xs.set k .non) (ds.set k .none) ∧ xs[k]? = some (.ref a) ∧ ds[k]? = some (.list es) ∧ H a = some (.lst ys) ∧ DpAll K Hs ys es
def vg (σ : St) (ρ : ya) (a : Addr) : Prop := ∃ i, zg σ ρ i a
def Zo (Z : Addr → Prop) (σ : St) (ρ : ya) : Addr → Prop := fun b => Z b ∨ vg σ ρ b
def zaD (K : PySem.W.Frag) (Cl : Nat → Addr) (H Hs : Hp) (o : Option (Option V)) : Slot → Prop
  | .un => True
  | .dat d => ∃ v, o = some (some v) ∧ Dp K Hs v d
  | .own ds => ∃ a xs, o = some (some (.ref a)) ∧ H a = some (.lst xs) ∧ DpAll K Hs xs ds
  | .err a dd i => o = some (some (.ref a)) ∧ H dd = some (.xd [(("at" : Str), .int i)])
  | .ownT a k ds => ∃ T, o = some (some (.ref T)) ∧ yau K H Hs T a k ds
  | .wc a c => o = some (some (.ref a)) ∧ ∃ u, H a = some u ∧ qu K Cl Hs a u c
  | .pin a => o = some (some (.ref a))
  | .ob k fs => kF K Cl Hs o k fs
structure DI (K : PySem.W.Frag) (Cl : Nat → Addr) (Z : Addr → Prop) (H : Hp) (σ : St) (ρ : ya) : Prop where
  len : ρ.length = σ.length
  one : ∀ i j a, zg σ ρ i a → zg σ ρ j a → i = j
  out : ∀ a, vg σ ρ a → ¬ Z a
  live : ∀ a, Z a → H a ≠ none
  slots : ∀ (i : Nat) s, ρ[i]? = some s → zaD K Cl H (hide H (Zo Z σ ρ)) (σ[i]?) s
  tb : xX Cl H
section
variable {K : PySem.W.Frag} {Cl : Nat → Addr} {Z : Addr → Prop} {H H' : Hp} {σ : St} {ρ : ya}
theorem DI.jay (I : DI K Cl Z H σ ρ) {a : Addr} (h : vg σ ρ a) : H a ≠ none := by
  obtain ⟨i, ⟨h1, ds, h2⟩ | ⟨k, ds, h2⟩ | ⟨c, h2⟩⟩ := h
  · obtain ⟨b, xs, e, hb, _⟩ := I.slots i _ h2
    rw [h1] at e
    cases e
    rw [hb]
    intro z; cases z
  · obtain ⟨T, e, ⟨xs, ys, es, _, _, _, _, hb, _⟩⟩ := I.slots i _ h2
    rw [hb]
    intro z; cases z
  · obtain ⟨_, u, hb, _⟩ := I.slots i _ h2
    rw [hb]
    intro z; cases z
theorem DI.yy (I : DI K Cl Z H σ ρ) {a : Addr} (h : Zo Z σ ρ a) : H a ≠ none := by
  rcases h with h | h
  · exact I.live a h
  · exact I.jay h
theorem yau.same {Hs Hs' : Hp} {T a : Addr} {k : Nat} {ds : List DL.D} (m : yb Hs Hs') (h : ∀ ys, H a = some (.lst ys) → H' a = some (.lst ys)) (t : yau K H Hs T a k ds) : yau K H' Hs' T a k ds := by
  obtain ⟨xs, ys, es, h1, h2, h3, h4, h5, h6⟩ := t
  exact ⟨xs, ys, es, SqT.same m h1, DpAll.same m h2, h3, h4, h _ h5, DpAll.same m h6⟩
theorem DI.same (I : DI K Cl Z H σ ρ) (s : Same Cl H H') : DI K Cl Z H' σ ρ := by
  refine ⟨I.len, I.one, I.out, fun a h => s.live a (I.live a h), fun i sl e => ?_, s.tb I.tb⟩
  · have q := I.slots i sl e
    have m : yb (hide H (Zo Z σ ρ)) (hide H' (Zo Z σ ρ)) := kf s fun b h => .inl h
    cases sl with
    | un => trivial
    | dat d =>
      obtain ⟨v, e1, h⟩ := q
      exact ⟨v, e1, Dp.same m h⟩
    | own ds =>
      obtain ⟨a, xs, e1, e2, h⟩ := q
      exact ⟨a, xs, e1, s.at e2, DpAll.same m h⟩
    | err a dd j => exact ⟨q.1, s.at q.2⟩
    | ownT a k ds =>
      obtain ⟨T, e1, h⟩ := q
      exact ⟨T, e1, h.same m fun _ z => s.at z⟩
    | pin a => exact q
    | ob k fs => exact kF.same m q
    | wc a c =>
      obtain ⟨e1, u, e2, h⟩ := q
      exact ⟨e1, u, s.wc h e2, h.same m⟩
end
inductive Val where
  | s (d : D) | m (d : D) | b (ds : List D) | f (ds : List D)
@[simp] def Val.d : Val → D
  | .s d => d
  | .m d => d
  | .b ds => .list ds
  | .f ds => .list ds
abbrev Er := Nat × Int
abbrev FE := ya → Option (Except Er Val)
def ZP (Z : Addr → Prop) (p : Addr) : Addr → Prop := fun b => Z b ∨ b = p
def zu (K : PySem.W.Frag) (Z : Addr → Prop) (σ : St) (ρ : ya) (H H1 : Hp) (x : V) : Val → Prop
  | .s d => Dp K (hide H1 (Zo Z σ ρ)) x d
  | .m d => Dp K (hide H1 Z) x d
  | .b ds => ∃ p xs, x = .ref p ∧ vg σ ρ p ∧ H1 p = some (.lst xs) ∧ DpAll K (hide H1 (Zo Z σ ρ)) xs ds
  | .f ds => ∃ p xs, x = .ref p ∧ H p = none ∧ H1 p = some (.lst xs) ∧ DpAll K (hide H1 (ZP (Zo Z σ ρ) p)) xs ds
def yK (Cl : Nat → Addr) (W : WX) (σ : St) (H : Hp) (e : Er) : Prop :=
  ∀ dd H', Same Cl H H' → H' dd = some (.xd [(("at" : Str), .int e.2)]) → W (.ref (Cl e.1)) (some dd) σ H'
def ROk (K : PySem.W.Frag) (Cl : Nat → Addr) (W : WX) (Z : Addr → Prop) (σ : St) (ρ : ya) (H : Hp) (Q : VK) : Except Er Val → Prop
  | .ok v => ∀ x H', Same Cl H H' → zu K Z σ ρ H H' x v → Q x H'
  | .error e => yK Cl W σ H e
def kr (K : PySem.W.Frag) (Cl : Nat → Addr) (W : WX) (f : FE) : TE := fun σ H Q => ∃ Z ρ r, DI K Cl Z H σ ρ ∧ f ρ = some r ∧ ROk K Cl W Z σ ρ H Q r
def DE (X : Cx) (Cl : Nat → Addr) (W : WX) (e : Expr) (f : FE) : Prop := PE X e (kr X.K Cl W f)
theorem PE.imp {X : Cx} {e : Expr} {t t' : TE} (h : PE X e t) (i : ∀ σ H Q, t' σ H Q → t σ H Q) : PE X e t' := ⟨fun pins s σ H Q I q => h.run pins s σ H Q I (i σ H Q q)⟩
theorem PT.imp {X : Cx} {e : Expr} {t t' : TT} (h : PT X e t) (i : ∀ σ H Q, t' σ H Q → t σ H Q) : PT X e t' := ⟨fun pins s σ H Q I q => h.run pins s σ H Q I (i σ H Q q)⟩
theorem PW.imp {X : Cx} {e : Expr} {t t' : TT} (h : PW X e t) (i : ∀ σ H Q, t' σ H Q → t σ H Q) : PW X e t' := ⟨fun wh pins s σ H Q I q => h.run wh pins s σ H Q I (i σ H Q q)⟩
theorem PA.imp {X : Cx} {e : List Expr} {t t' : TA} (h : PA X e t) (i : ∀ σ H Q, t' σ H Q → t σ H Q) : PA X e t' := ⟨fun pos pins s σ H Q I q => h.run pos pins s σ H Q I (i σ H Q q)⟩
theorem PS.imp {X : Cx} {e : Stmt} {t t' : TS} (h : PS X e t) (i : ∀ D σ H, t' D σ H → t D σ H) : PS X e t' := ⟨fun pins s σ H D I q => h.run pins s σ H D I (i D σ H q)⟩
theorem PSs.imp {X : Cx} {e : List Stmt} {t t' : TS} (h : PSs X e t) (i : ∀ D σ H, t' D σ H → t D σ H) : PSs X e t' := ⟨fun pins s σ H D I q => h.run pins s σ H D I (i D σ H q)⟩
section
variable {K : PySem.W.Frag} {Cl : Nat → Addr} {W : WX} {Z : Addr → Prop} {H H' H1 H2 : Hp} {σ : St} {ρ : ya} {Q : VK}
theorem zu.same {x : V} {v : Val} (s : Same Cl H1 H2) (h : zu K Z σ ρ H H1 x v) : zu K Z σ ρ H H2 x v := by
  cases v with
  | s d => exact Dp.same (kf s fun _ h => .inl h) h
  | m d => exact Dp.same (kf s fun _ h => .inl h) h
  | b ds =>
    obtain ⟨p, xs, e, n, h1, h2⟩ := h
    exact ⟨p, xs, e, n, s.at h1, DpAll.same (kf s fun _ h => .inl h) h2⟩
  | f ds =>
    obtain ⟨p, xs, e, n, h1, h2⟩ := h
    exact ⟨p, xs, e, n, s.at h1, DpAll.same (kf s fun _ h => .inl h) h2⟩
theorem zu.back {x : V} {v : Val} (s : Same Cl H H1) (h : zu K Z σ ρ H1 H2 x v) : zu K Z σ ρ H H2 x v := by
  cases v with
  | s d => exact h
  | m d => exact h
  | b ds => exact h
  | f ds =>
    obtain ⟨p, xs, e, n, h1, h2⟩ := h
    exact ⟨p, xs, e, s.free n, h1, h2⟩
theorem zu.dp {x : V} {v : Val} (I : DI K Cl Z H σ ρ) (h : zu K Z σ ρ H H1 x v) : Dp K (hide H1 Z) x v.d := by
  cases v with
  | s d => exact Dp.same (jc (yb.refl _) fun _ h => .inl (.inl h)) h
  | m d => exact h
  | b ds =>
    obtain ⟨p, xs, rfl, n, h1, h2⟩ := h
    exact .lst (Rd.of (vc (I.out p n) h1)) (DpAll.same (jc (yb.refl _) fun _ h => .inl (.inl h)) h2)
  | f ds =>
    obtain ⟨p, xs, rfl, n, h1, h2⟩ := h
    have np : ¬ Z p := fun z => I.live p z n
    exact .lst (Rd.of (vc np h1)) (DpAll.same (jc (yb.refl _) fun _ h => .inl (.inl (.inl h))) h2)
@[simp] def Val.st : Val → Option D
  | .s d => some d
  | .m d => if wj d = true then some d else none
  | .b _ => none
  | .f ds => some (.list ds)
theorem zu.stab {x : V} {v : Val} {d : D} (I : DI K Cl Z H σ ρ) (e : v.st = some d) (h : zu K Z σ ρ H H1 x v) : Dp K (hide H1 (Zo Z σ ρ)) x d := by
  cases v with
  | s d' => cases e; exact h
  | m d' =>
    simp only [Val.st] at e
    split at e
    · rename_i sc
      cases e
      exact Dp.scalar sc h
    · cases e
  | b ds => cases e
  | f ds =>
    cases e
    obtain ⟨p, xs, rfl, n, h1, h2⟩ := h
    have np : ¬ Zo Z σ ρ p := fun z => I.yy z n
    exact .lst (Rd.of (vc np h1)) (DpAll.same (jc (yb.refl _) fun _ h => .inl (.inl h)) h2)
theorem yK.same {e : Er} (s : Same Cl H H1) (h : yK Cl W σ H e) : yK Cl W σ H1 e := fun dd H' s' => h dd H' (s.trans s')
theorem ROk.from {r : Except Er Val} (s : Same Cl H H1) (h : ROk K Cl W Z σ ρ H Q r) : ROk K Cl W Z σ ρ H1 Q r := by
  cases r with
  | error e => exact yK.same s h
  | ok v => exact fun x H' s' hv => h x H' (s.trans s') (hv.back s)
end
@[simp] def bE (f : FE) (k : Val → FE) (ρ : ya) : Option (Except Er Val) := match f ρ with
  | none => none
  | some (.error e) => some (.error e)
  | some (.ok v) => k v ρ
@[simp] def ok (d : D) : Option (Except Er Val) := some (.ok (.s d))
theorem vH {K : PySem.W.Frag} {Cl : Nat → Addr} {W : WX} {Z : Addr → Prop} {H : Hp} {σ : St} {ρ : ya} {Q Q1 : VK} {f : FE} {k : Val → FE} {r : Except Er Val} (I : DI K Cl Z H σ ρ) (h : bE f k ρ = some r) (q : ROk K Cl W Z σ ρ H Q r)
    (go : ∀ v x H1, f ρ = some (.ok v) → k v ρ = some r → Same Cl H H1 → zu K Z σ ρ H H1 x v → DI K Cl Z H1 σ ρ → ROk K Cl W Z σ ρ H1 Q r → Q1 x H1) : kr K Cl W f σ H Q1 := by
  unfold bE at h
  cases e : f ρ with
  | none => rw [e] at h; cases h
  | some r1 =>
    rw [e] at h
    cases r1 with
    | error er =>
      cases h
      exact ⟨Z, ρ, .error er, I, e, q⟩
    | ok v => exact ⟨Z, ρ, .ok v, I, e, fun x H1 s hv => go v x H1 e h s hv (I.same s) (q.from s)⟩
theorem ROk.scalar {K : PySem.W.Frag} {Cl : Nat → Addr} {W : WX} {Z : Addr → Prop} {H : Hp} {σ : St} {ρ : ya} {Q : VK} {d : D} {v : V} (q : ROk K Cl W Z σ ρ H Q (.ok (.s d))) (h : ∀ H', Dp K H' v d) : Q v H := q v H (Same.refl _) (h _)
section
variable {X : Cx} {Cl : Nat → Addr} {W : WX} {a b c e : Expr} {es : List Expr} {fa fb fc f : FE} {pos : Pos}
@[simp] def eC (d : D) (ρ : ya) : Option (Except Er Val) := ok d
theorem vaM {v : V} {d : D} (h : PE X e (tC v)) (hv : ∀ H, Dp X.K H v d) : DE X Cl W e (eC d) :=
  PE.imp h fun σ H Q ⟨Z, ρ, r, I, e, q⟩ => by cases e; exact q.scalar hv
theorem wb {i : Int} {j pos} : DE X Cl W (.Constant (.int i) j pos) (eC (.int i)) := vaM pe_int fun _ => .int i
theorem zP {j pos} : DE X Cl W (.Constant .none j pos) (eC .none) := vaM pe_non fun _ => .non
theorem jP {x : Str} {i : Int} {t : Tok} (hm : X.mg x = some (.int i t)) (hg : Gl X x := by rfl) (hd : (x == ("__debug__" : Str)) = false := by decide) : DE X Cl W (.Name x pos) (eC (.int i)) := vaM (pe_glob (v := .int i) hg hm ⟨t, rfl⟩ hd) fun _ => .int i
@[simp] def eV (i : Nat) (ρ : ya) : Option (Except Er Val) := match ρ[i]? with
  | some (.dat d) => ok d
  | some (.own ds) => some (.ok (.b ds))
  | some (.ownT _ _ ds) => some (.ok (.m (.tuple ds)))
  | _ => none
theorem yau.read {K : PySem.W.Frag} {Z : Addr → Prop} {H : Hp} {σ : St} {ρ : ya} {T a : Addr} {k : Nat} {ds : List D} (I : DI K Cl Z H σ ρ) (o : vg σ ρ a) (t : yau K H (hide H (Zo Z σ ρ)) T a k ds) : Dp K (hide H Z) (.ref T) (.tuple ds) := by
  obtain ⟨xs, ys, es, h1, h2, h3, h4, h5, h6⟩ := t
  have m : yb (hide H (Zo Z σ ρ)) (hide H Z) := jc (yb.refl _) fun _ h => .inl (.inl h)
  refine .tup (SqT.same m h1) ?_
  have hl : Dp K (hide H Z) (.ref a) (.list es) := .lst (Rd.of (vc (I.out a o) h5)) (DpAll.same m h6)
  have q := DpAll.set hl k (DpAll.same m h2)
  rw [List.set_set, List.set_set] at q
  obtain ⟨hk, e3⟩ := List.getElem?_eq_some_iff.mp h3
  obtain ⟨hk2, e4⟩ := List.getElem?_eq_some_iff.mp h4
  have r3 : xs.set k (.ref a) = xs := by rw [← e3]; exact List.set_getElem_self hk
  have r4 : ds.set k (.list es) = ds := by rw [← e4]; exact List.set_getElem_self hk2
  rw [r3, r4] at q
  exact q
theorem ja {i : Nat} {x : Str} (h : PE X (.Name x pos) (tVar i)) : DE X Cl W (.Name x pos) (eV i) := PE.imp h fun σ H Q ⟨Z, ρ, r, I, e, q⟩ => by
  unfold eV at e
  split at e
  · rename_i d hd
    cases e
    obtain ⟨v, hv, hp⟩ := I.slots i _ hd
    exact ⟨v, hv, q v H (Same.refl _) hp⟩
  · rename_i ds hd
    cases e
    obtain ⟨p, xs, hv, hp, hds⟩ := I.slots i _ hd
    exact ⟨_, hv, q _ H (Same.refl _) ⟨p, xs, rfl, ⟨i, .inl ⟨hv, ds, hd⟩⟩, hp, hds⟩⟩
  · rename_i a k ds hd
    cases e
    obtain ⟨T, hv, t⟩ := I.slots i _ hd
    exact ⟨_, hv, q _ H (Same.refl _) (t.read I ⟨i, .inr (.inl ⟨k, ds, hd⟩)⟩)⟩
  · cases e
def wU (K : PySem.W.Frag) (r : R2) (g : Val → Val → Option Val) : Prop := ∀ (Cl : Nat → Addr) (Z : Addr → Prop) (σ : St) (ρ : ya) (H0 H : Hp) (x y : V) (a b v : Val) (Q : VK), DI K Cl Z H0 σ ρ → Same Cl H0 H → zu K Z σ ρ H0 H x a → zu K Z σ ρ H0 H y b → g a b = some v →
  (∀ z H', Same Cl H H' → zu K Z σ ρ H0 H' z v → Q z H') → r x y H Q
def e2 (g : Val → Val → Option Val) (fa fb : FE) : FE := bE fa fun a => bE fb fun b _ => (g a b).map .ok
theorem qba {r : R2} {g : Val → Val → Option Val} (h : PE X e (tOp r (kr X.K Cl W fa) (kr X.K Cl W fb))) (hr : wU X.K r g) : DE X Cl W e (e2 g fa fb) := PE.imp h fun σ H Q ⟨Z, ρ, r1, I, e, q⟩ => by
  refine vH I e q fun v x H1 _ h1 s1 hv I1 q1 => vH I1 h1 q1 fun u y H2 _ h2 s2 hu I2 q2 => ?_
  cases hg : g v u with
  | none => rw [hg] at h2; cases h2
  | some w =>
    rw [hg] at h2
    cases h2
    exact hr Cl Z σ ρ H H2 x y v u w Q I (s1.trans s2) (hv.same s2) (hu.back s1) hg fun z H' s' hz => q z H' (s1.trans (s2.trans s')) hz
theorem jah {op : Operator} {r : R2} {g : Val → Val → Option Val} (ho : OpR X (binaryOp op) r) (hr : wU X.K r g) (ha : DE X Cl W a fa) (hb : DE X Cl W b fb) : DE X Cl W (.BinOp a op b pos) (e2 g fa fb) := qba (pe_op ho ha hb) hr
theorem ybG {op : CmpOp} {r : R2} {g : Val → Val → Option Val} (ho : OpR X (compareOp op) r) (hr : wU X.K r g) (ha : DE X Cl W a fa) (hb : DE X Cl W b fb) (hm : behindInMarks op b = false) : DE X Cl W (.Compare a [op] [b] pos) (e2 g fa fb) := qba (pe_cmpR ho ha hb hm) hr
theorem wU.or {K : PySem.W.Frag} {r r' : R2} {g g' : Val → Val → Option Val} (h : wU K r g) (h' : wU K r' g') : wU K (fun x y H Q => r x y H Q ∨ r' x y H Q) (fun a b => (g a b).or (g' a b)) := fun Cl Z σ ρ H0 H x y a b v Q I s ha hb e q => by
  have e : (g a b).or (g' a b) = some v := e
  cases hg : g a b with
  | some w =>
    rw [hg] at e
    cases e
    exact .inl (h Cl Z σ ρ H0 H x y a b _ Q I s ha hb hg q)
  | none =>
    rw [hg] at e
    exact .inr (h' Cl Z σ ρ H0 H x y a b _ Q I s ha hb e q)
@[simp] def gI (F : Int → Int → D) (a b : Val) : Option Val := match a.d, b.d with
  | .int i, .int j => some (.s (F i j))
  | _, _ => none
@[simp] def gIc (C : Int → Int → Bool) (F : Int → Int → D) (a b : Val) : Option Val := match a.d, b.d with
  | .int i, .int j => if C i j = true then some (.s (F i j)) else none
  | _, _ => none
variable {K : PySem.W.Frag} {Cl : Nat → Addr}
theorem zu.int_inv {Z : Addr → Prop} {σ : St} {ρ : ya} {H0 H : Hp} {x : V} {a : Val} {i : Int} (I : DI K Cl Z H0 σ ρ) (h : zu K Z σ ρ H0 H x a) (e : a.d = .int i) : x = .int i := by
  have q := h.dp I
  rw [e] at q
  exact q.int_inv
theorem zu.str_inv {Z : Addr → Prop} {σ : St} {ρ : ya} {H0 H : Hp} {x : V} {a : Val} {i : Str} (I : DI K Cl Z H0 σ ρ) (h : zu K Z σ ρ H0 H x a) (e : a.d = .str i) : x = .str i := by
  have q := h.dp I
  rw [e] at q
  exact q.str_inv
theorem zu.waj {Z : Addr → Prop} {σ : St} {ρ : ya} {H0 H : Hp} {x : V} {a : Val} {i : Bool} (I : DI K Cl Z H0 σ ρ) (h : zu K Z σ ρ H0 H x a) (e : a.d = .bool i) : x = .bl i := by
  have q := h.dp I
  rw [e] at q
  exact q.waj
theorem waM {g : Int → Int → V} {F : Int → Int → D} (h : ∀ i j H, Dp K H (g i j) (F i j)) : wU K (rI0 g) (gI F) := fun Cl Z σ ρ H0 H x y a b v Q I s ha hb e q => by
  unfold gI at e
  split at e
  · rename_i i j e1 e2
    cases e
    exact ⟨i, j, ha.int_inv I e1, hb.int_inv I e2, q _ H (Same.refl _) (h i j _)⟩
  · cases e
theorem vaP {C : Int → Int → Prop} {c : Int → Int → Bool} {g : Int → Int → V} {F : Int → Int → D} (hc : ∀ i j, c i j = true → C i j) (h : ∀ i j H, Dp K H (g i j) (F i j)) : wU K (rI C g) (gIc c F) := fun Cl Z σ ρ H0 H x y a b v Q I s ha hb e q => by
  unfold gIc at e
  split at e
  · rename_i i j e1 e2
    split at e
    · rename_i hcc
      cases e
      exact ⟨i, j, ha.int_inv I e1, hb.int_inv I e2, hc i j hcc, q _ H (Same.refl _) (h i j _)⟩
    · cases e
  · cases e
def yaV (i j : Int) : Bool := decide (0 < j) && decide (j < 1073741824)
def xbx (i j : Int) : Bool := decide (0 < j)
def vay (i j : Int) : Bool := (decide (-(2 ^ 64) < i) && decide (i < 2 ^ 64)) || (decide (-(2 ^ 64) < j) && decide (j < 2 ^ 64))
def yaM (i j : Int) : Bool := decide (0 ≤ j) && (decide (j ≤ 1000000) && decide (i.natAbs < 2 ^ 64))
def xcx (i j : Int) : Bool := decide (0 ≤ j)
@[simp] def xK (a b : Val) : Option Val := (gIc vay fun i j => .int (i * j)) a b
@[simp] def yay (a b : Val) : Option Val := (gIc yaV fun i j => .int (i / j)) a b
@[simp] def zW (a b : Val) : Option Val := (gIc xbx fun i j => .int (i % j)) a b
@[simp] def xbP (a b : Val) : Option Val := (gIc yaM fun i j => .int (i ^ j.toNat)) a b
@[simp] def zba (a b : Val) : Option Val := (gIc yaM fun i j => .int (i * 2 ^ j.toNat)) a b
@[simp] def xaM (a b : Val) : Option Val := (gIc xcx fun i j => .int (i / 2 ^ j.toNat)) a b
@[simp] def gSub (a b : Val) : Option Val := (gI fun i j => .int (i - j)) a b
@[simp] def va8 (a b : Val) : Option Val := (gI fun i j => .int (i + j)) a b
@[simp] def z7 (a b : Val) : Option Val := (gI fun i j => .int (Builtin.bitAnd i j)) a b
@[simp] def gOr (a b : Val) : Option Val := (gI fun i j => .int (Builtin.bitOr i j)) a b
@[simp] def jba (a b : Val) : Option Val := (gI fun i j => .int (Builtin.bitXor i j)) a b
@[simp] def gLt (a b : Val) : Option Val := (gI fun i j => .bool (decide (i < j))) a b
@[simp] def gLe (a b : Val) : Option Val := (gI fun i j => .bool (decide (i ≤ j))) a b
@[simp] def gGt (a b : Val) : Option Val := (gI fun i j => .bool (decide (j < i))) a b
@[simp] def gGe (a b : Val) : Option Val := (gI fun i j => .bool (decide (j ≤ i))) a b
theorem qbt (i j : Int) (h : yaM i j = true) : CPow i j := by
  simp only [yaM, Bool.and_eq_true, decide_eq_true_eq] at h
  exact ⟨h.1, h.2.1, h.2.2⟩
theorem qb8 (i j : Int) (h : vay i j = true) : CMul i j := by
  simp only [vay, Bool.and_eq_true, Bool.or_eq_true, decide_eq_true_eq] at h
  exact h
theorem zb8 (i j : Int) (h : yaV i j = true) : CDiv i j := by
  simp only [yaV, Bool.and_eq_true, decide_eq_true_eq] at h
  exact h
theorem yH (ha : DE X Cl W a fa) (hb : DE X Cl W b fb) : DE X Cl W (.BinOp a .Sub b pos) (e2 gSub fa fb) := jah op_sub (waM fun i j _ => .int _) ha hb
theorem xaj (ha : DE X Cl W a fa) (hb : DE X Cl W b fb) : DE X Cl W (.BinOp a .Mult b pos) (e2 xK fa fb) := jah op_mul (vaP qb8 fun i j _ => .int _) ha hb
theorem xbG (ha : DE X Cl W a fa) (hb : DE X Cl W b fb) : DE X Cl W (.BinOp a .FloorDiv b pos) (e2 yay fa fb) := jah op_fdiv (vaP zb8 fun i j _ => .int _) ha hb
theorem xau (ha : DE X Cl W a fa) (hb : DE X Cl W b fb) : DE X Cl W (.BinOp a .Mod b pos) (e2 zW fa fb) := jah op_mod (vaP (fun _ _ h => of_decide_eq_true h) fun i j _ => .int _) ha hb
theorem jcf (ha : DE X Cl W a fa) (hb : DE X Cl W b fb) : DE X Cl W (.BinOp a .Pow b pos) (e2 xbP fa fb) := jah op_pow (vaP qbt fun i j _ => .int _) ha hb
theorem wcf (ha : DE X Cl W a fa) (hb : DE X Cl W b fb) : DE X Cl W (.BinOp a .LShift b pos) (e2 zba fa fb) := jah op_shl (vaP qbt fun i j _ => .int _) ha hb
theorem vcf (ha : DE X Cl W a fa) (hb : DE X Cl W b fb) : DE X Cl W (.BinOp a .BitAnd b pos) (e2 z7 fa fb) := jah op_and (waM fun i j _ => .int _) ha hb
@[simp] def xay (a : Val) : Option Val := match a.d with
  | .int i => some (.s (.int (-i)))
  | _ => none
def e1 (g : Val → Option Val) (fa : FE) : FE := bE fa fun a _ => (g a).map .ok
theorem kbG (ha : DE X Cl W a fa) : DE X Cl W (.UnaryOp .USub a pos) (e1 xay fa) := PE.imp (pe_un un_neg ha) fun σ H Q ⟨Z, ρ, r1, I, e, q⟩ => by
  refine vH I e q fun v x H1 _ h1 s1 hv I1 q1 => ?_
  unfold xay at h1
  split at h1
  · rename_i i e1
    cases h1
    exact ⟨i, hv.int_inv I e1, q _ H1 s1 (.int _)⟩
  · cases h1
@[simp] def Val.items : Val → Option (List D)
  | .s (.list ds) => some ds
  | .m (.list ds) => if ds.all wj = true then some ds else none
  | .b ds => some ds
  | .f ds => some ds
  | _ => none
theorem zu.items {Z : Addr → Prop} {σ : St} {ρ : ya} {H0 H : Hp} {x : V} {a : Val} {ds : List D} (I : DI K Cl Z H0 σ ρ) (e : a.items = some ds) (h : zu K Z σ ρ H0 H x a) : ∃ p xs, x = .ref p ∧ Rd H p (.lst xs) ∧ DpAll K (hide H (Zo Z σ ρ)) xs ds := by
  cases a with
  | s d =>
    cases d with
    | list ys =>
      cases e
      obtain ⟨p, xs, rfl, h1, h2⟩ := Dp.lst_inv (show Dp K (hide H (Zo Z σ ρ)) x (.list ds) from h)
      exact ⟨p, xs, rfl, Rd.same qd h1, h2⟩
    | _ => cases e
  | m d =>
    cases d with
    | list ys =>
      simp only [Val.items] at e
      split at e
      · rename_i sc
        cases e
        obtain ⟨p, xs, rfl, h1, h2⟩ := Dp.lst_inv (show Dp K (hide H Z) x (.list ds) from h)
        exact ⟨p, xs, rfl, Rd.same qd h1, DpAll.scalar sc h2⟩
      · cases e
    | _ => cases e
  | b ys =>
    cases e
    obtain ⟨p, xs, rfl, n, h1, h2⟩ := h
    exact ⟨p, xs, rfl, Rd.of h1, h2⟩
  | f ys =>
    cases e
    obtain ⟨p, xs, rfl, n, h1, h2⟩ := h
    exact ⟨p, xs, rfl, Rd.of h1, DpAll.same (jc (yb.refl _) fun _ h => .inl (.inl h)) h2⟩
theorem Rd.lstM {pins : List (Addr × Obj)} {σ : St} {H : Hp} {s : Shared} {l : Addr} {xs : List V} (I : Inv X pins σ H s) (hH : Rd H l (.lst xs)) : xs.length ≤ sizeLine ∧ ∃ (its : List Value) (n : Nat), Vals xs its ∧ xs.length = its.length ∧ s.heap.get? l = some { cls := .type "list", data := .seq its.toArray n } := by
  obtain ⟨z, its, n, r, e⟩ := (show ObjOk X.prog X.w H s.heap l (.lst xs) from hH.ok I.hok)
  exact ⟨z, its, n, r, r.length, e⟩
def wbY : R2 := fun x y H Q => ∃ l b xs zs, x = .ref l ∧ y = .ref b ∧ Rd H l (.lst xs) ∧ Rd H b (.lst zs) ∧ xs.length + zs.length ≤ sizeLine ∧ ∀ p, H p = none → Q (.ref p) (upd H p (.lst (xs ++ zs)))
theorem kbs : OpR X (binaryOp .Add) wbY := by
  intro pins s σ H x y v u Q I rx ry h
  obtain ⟨l, b, xs, zs, rfl, rfl, hH, hB, hz, q⟩ := h
  cases rx
  cases ry
  obtain ⟨z, its, n, r, hl, e⟩ := Rd.lstM I hH
  obtain ⟨z2, its2, n2, r2, hl2, e2⟩ := Rd.lstM I hB
  refine PySem.P.add_list e e2 ?_ (by rw [List.size_toArray, List.size_toArray]; omega)
  have ea : its.toArray ++ its2.toArray = (its ++ its2).toArray := by simp
  rw [ea]
  exact ⟨.ref _, _, I.lnew (t' := s.toks) (r.append r2) (by rw [List.length_append]; omega), rfl, q _ I.fresh⟩
theorem qP {H : Hp} {p : Addr} {o : HO} (h : H p = none) : yb H (upd H p o) := fun b x e _ => by
  rw [upd_ne (ne_of_none e h)]
  exact e
theorem zl {Cl : Nat → Addr} {H : Hp} {p : Addr} {o : HO} (h : H p = none) (hn : ∀ o' xs, o ≠ .frz o' (.lst xs) := by first | (intro _ _ z; cases z) | (intro _ _ z; unfold vF at z; cases z) | (intro _ _ z; unfold SetO at z; cases z)) : Same Cl H (upd H p o) := .of (fun b x e => by
  rw [upd_ne (ne_of_none e h)]
  exact e) fun b o' xs e => by
  by_cases z : b = p
  · rw [z, upd_same] at e
    exact absurd (Option.some.inj e) (hn _ _)
  · rw [upd_ne z] at e
    exact e
theorem zu.new {Z : Addr → Prop} {σ : St} {ρ : ya} {H0 H : Hp} {p : Addr} {xs : List V} {ds : List D} (s : Same Cl H0 H) (n : H p = none) (h : DpAll K (hide H (Zo Z σ ρ)) xs ds) : zu K Z σ ρ H0 (upd H p (.lst xs)) (.ref p) (.f ds) :=
  ⟨p, xs, rfl, s.free n, upd_same, DpAll.same (jc (qP n) fun b hb => by
    rcases hb with hb | rfl
    · exact .inl hb
    · exact .inr n) h⟩
def vj (n : Nat) : Bool := decide (n ≤ 16777216)
theorem js {n : Nat} (h : vj n = true) : n ≤ sizeLine := by
  rw [sizeLine_eq]
  exact of_decide_eq_true h
@[simp] def wba (a b : Val) : Option Val := match a.items, b.items with
  | some xs, some ys => if vj (xs.length + ys.length) = true then some (.f (xs ++ ys)) else none
  | _, _ => none
theorem jbG : wU K wbY wba := fun Cl Z σ ρ H0 H x y a b v Q I s ha hb e q => by
  unfold wba at e
  split at e
  · rename_i ds es e1 e2
    split at e
    · rename_i hl
      cases e
      obtain ⟨l, xs, rfl, h1, h2⟩ := ha.items I e1
      obtain ⟨m, ys, rfl, h3, h4⟩ := hb.items I e2
      refine ⟨l, m, xs, ys, rfl, rfl, h1, h3, by rw [h2.length, h4.length]; exact js hl, fun p np => ?_⟩
      exact q _ _ (zl np) (zu.new s np (h2.append h4))
    · cases e
  · cases e
@[simp] def xcX (a b : Val) : Option Val := match a.d, b.d with
  | .str x, .str y => if vj (x.length + y.length) = true then some (.s (.str (x ++ y))) else none
  | _, _ => none
@[simp] def kc (a b : Val) : Option Val := (va8 a b).or (wba a b)
theorem vk (ha : DE X Cl W a fa) (hb : DE X Cl W b fb) : DE X Cl W (.BinOp a .Add b pos) (e2 kc fa fb) := jah (op_add.or kbs) ((waM fun i j _ => .int _).or jbG) ha hb
def kX (a b : D) : Option Bool := if (SeqAt.shaped a && SeqAt.shaped b) = true then some (PyData.eqv a b) else none
@[simp] def zr (a b : Val) : Option Val := (kX a.d b.d).map fun k => .s (.bool k)
@[simp] def gNe (a b : Val) : Option Val := (kX a.d b.d).map fun k => .s (.bool (!k))
theorem qO : wU K (rEqD K) zr := fun Cl Z σ ρ H0 H x y a b v Q I s ha hb e q => by
  unfold zr kX at e
  split at e
  · rename_i sh
    cases e
    obtain ⟨s1, s2⟩ := Bool.and_eq_true_iff.mp sh
    exact ⟨a.d, b.d, (Dp.same qd (ha.dp I)).up (SeqAt.canLay_of_shaped s1), (Dp.same qd (hb.dp I)).up (SeqAt.canLay_of_shaped s2), s1, s2, q _ H (Same.refl _) (.bl _)⟩
  · cases e
theorem ya8 : wU K (rNeD K) gNe := fun Cl Z σ ρ H0 H x y a b v Q I s ha hb e q => by
  unfold gNe kX at e
  split at e
  · rename_i sh
    cases e
    obtain ⟨s1, s2⟩ := Bool.and_eq_true_iff.mp sh
    exact ⟨a.d, b.d, (Dp.same qd (ha.dp I)).up (SeqAt.canLay_of_shaped s1), (Dp.same qd (hb.dp I)).up (SeqAt.canLay_of_shaped s2), s1, s2, q _ H (Same.refl _) (.bl _)⟩
  · cases e
@[simp] def isNone : D → Bool
  | .none => true
  | _ => false
theorem Dp.isNone {H : Hp} {x : V} {d : D} (h : Dp K H x d) : decide (x = .non) = isNone d := by
  cases h <;> rfl
@[simp] def kaM (a b : Val) : Option Val := if isNone b.d = true then some (.s (.bool (isNone a.d))) else none
@[simp] def jH (a b : Val) : Option Val := if isNone b.d = true then some (.s (.bool (!isNone a.d))) else none
theorem ja1 {d : D} (h : isNone d = true) : d = .none := by cases d <;> first | rfl | cases h
theorem ycf : wU K (fun x y H Q => y = .non ∧ Q (.bl (decide (x = .non))) H) kaM := fun Cl Z σ ρ H0 H x y a b v Q I s ha hb e q => by
  unfold kaM at e
  split at e
  · rename_i h
    cases e
    have q1 := hb.dp I
    rw [ja1 h] at q1
    refine ⟨q1.vbs, ?_⟩
    rw [(ha.dp I).isNone]
    exact q _ H (Same.refl _) (.bl _)
  · cases e
theorem zaI : wU K (fun x y H Q => y = .non ∧ Q (.bl (!decide (x = .non))) H) jH := fun Cl Z σ ρ H0 H x y a b v Q I s ha hb e q => by
  unfold jH at e
  split at e
  · rename_i h
    cases e
    have q1 := hb.dp I
    rw [ja1 h] at q1
    refine ⟨q1.vbs, ?_⟩
    rw [(ha.dp I).isNone]
    exact q _ H (Same.refl _) (.bl _)
  · cases e
theorem Dp.flat {H : Hp} {x : V} {d : D} (h : Dp K H x d) (s : wj d = true) : flatV x = true := by
  cases h <;> first | rfl | cases s
def toV : D → V
  | .bool b => .bl b
  | .int i => .int i
  | .str x => .str x
  | _ => .non
theorem Dp.toV {H : Hp} {x : V} {d : D} (h : Dp K H x d) (s : wj d = true) : x = toV d := by
  cases h <;> first | rfl | cases s
theorem DpAll.toV {H : Hp} : ∀ {xs : List V} {ds : List D}, DpAll K H xs ds → ds.all wj = true → xs = ds.map toV ∧ xs.all flatV = true
  | _, _, .nil, _ => ⟨rfl, rfl⟩
  | _, _, .cons h t, s => by
    rw [List.all_cons, Bool.and_eq_true] at s
    obtain ⟨e1, e2⟩ := DpAll.toV t s.2
    have e3 := Dp.toV h s.1
    have e4 := Dp.flat h s.1
    subst e3
    refine ⟨by rw [List.map_cons, ← e1], ?_⟩
    rw [List.all_cons, e4, e2]
    rfl
def inD (x : D) (ds : List D) : Bool := inV (toV x) (ds.map toV)
@[simp] def kbP : D → Option (List D)
  | .list ds => some ds
  | .tuple ds => some ds
  | _ => none
@[simp] def xcf (neg : Bool) (a b : Val) : Option Val := match kbP b.d with
  | some ds => if (wj a.d && ds.all wj) = true then some (.s (.bool (if neg then !inD a.d ds else inD a.d ds))) else none
  | none => none
@[simp] def gIn (a b : Val) : Option Val := xcf false a b
@[simp] def xcJ (a b : Val) : Option Val := xcf true a b
@[simp] def gS (F : Str → Str → D) (a b : Val) : Option Val := match a.d, b.d with
  | .str i, .str j => some (.s (F i j))
  | _, _ => none
theorem qbQ {g : Str → Str → V} {F : Str → Str → D} (h : ∀ i j H, Dp K H (g i j) (F i j)) : wU K (fun x y H Q => ∃ i j, x = .str i ∧ y = .str j ∧ Q (g i j) H) (gS F) := fun Cl Z σ ρ H0 H x y a b v Q I s ha hb e q => by
  unfold gS at e
  split at e
  · rename_i i j e1 e2
    cases e
    exact ⟨i, j, ha.str_inv I e1, hb.str_inv I e2, q _ H (Same.refl _) (h i j _)⟩
  · cases e
end
abbrev FA := ya → Option (Except Er (List Val))
def vv (K : PySem.W.Frag) (Z : Addr → Prop) (σ : St) (ρ : ya) (H H1 : Hp) (xs : List V) (vs : List Val) : Prop := Paired (zu K Z σ ρ H H1) xs vs
def RAk (K : PySem.W.Frag) (Cl : Nat → Addr) (W : WX) (Z : Addr → Prop) (σ : St) (ρ : ya) (H : Hp) (Q : List V → Hp → Prop) : Except Er (List Val) → Prop
  | .ok vs => ∀ xs H', Same Cl H H' → vv K Z σ ρ H H' xs vs → Q xs H'
  | .error e => yK Cl W σ H e
def kaV (K : PySem.W.Frag) (Cl : Nat → Addr) (W : WX) (f : FA) : TA := fun σ H Q => ∃ Z ρ r, DI K Cl Z H σ ρ ∧ f ρ = some r ∧ RAk K Cl W Z σ ρ H Q r
def DA (X : Cx) (Cl : Nat → Addr) (W : WX) (es : List Expr) (f : FA) : Prop := PA X es (kaV X.K Cl W f)
theorem jt {K : PySem.W.Frag} {Cl : Nat → Addr} {W : WX} {Z : Addr → Prop} {H : Hp} {σ : St} {ρ : ya} {Q1 : VK} {f : FE} {r : Except Er Val} (I : DI K Cl Z H σ ρ) (h : f ρ = some r) (he : ∀ e, r = .error e → yK Cl W σ H e)
    (go : ∀ v x H1, r = .ok v → Same Cl H H1 → zu K Z σ ρ H H1 x v → DI K Cl Z H1 σ ρ → Q1 x H1) : kr K Cl W f σ H Q1 := by
  refine ⟨Z, ρ, r, I, h, ?_⟩
  cases r with
  | error e => exact he e rfl
  | ok v => exact fun x H1 s hv => go v x H1 rfl s hv (I.same s)
theorem kH {K : PySem.W.Frag} {Cl : Nat → Addr} {W : WX} {Z : Addr → Prop} {H : Hp} {σ : St} {ρ : ya} {Q1 : List V → Hp → Prop} {f : FA} {r : Except Er (List Val)} (I : DI K Cl Z H σ ρ) (h : f ρ = some r) (he : ∀ e, r = .error e → yK Cl W σ H e)
    (go : ∀ vs xs H1, r = .ok vs → Same Cl H H1 → vv K Z σ ρ H H1 xs vs → DI K Cl Z H1 σ ρ → Q1 xs H1) : kaV K Cl W f σ H Q1 := by
  refine ⟨Z, ρ, r, I, h, ?_⟩
  cases r with
  | error e => exact he e rfl
  | ok vs => exact fun x H1 s hv => go vs x H1 rfl s hv (I.same s)
section
variable {K : PySem.W.Frag} {Cl : Nat → Addr}  {Z : Addr → Prop} {σ : St} {ρ : ya} {H0 H H1 H2 : Hp}
theorem vv.same : ∀ {xs : List V} {vs : List Val}, Same Cl H1 H2 → vv K Z σ ρ H0 H1 xs vs → vv K Z σ ρ H0 H2 xs vs
  | _, _, _, .nil => .nil
  | _, _, s, .cons h t => .cons (h.same s) (vv.same s t)
theorem vv.back : ∀ {xs : List V} {vs : List Val}, Same Cl H0 H → vv K Z σ ρ H H1 xs vs → vv K Z σ ρ H0 H1 xs vs
  | _, _, _, .nil => .nil
  | _, _, s, .cons h t => .cons (h.back s) (vv.back s t)
theorem vv.dp (I : DI K Cl Z H0 σ ρ) : ∀ {xs : List V} {vs : List Val}, vv K Z σ ρ H0 H1 xs vs → DpAll K (hide H1 Z) xs (vs.map Val.d)
  | _, _, .nil => .nil
  | _, _, .cons h t => .cons (h.dp I) (vv.dp I t)
@[simp] def km : List Val → Option (List D)
  | [] => some []
  | v :: vs => match v.st, km vs with
    | some d, some ds => some (d :: ds)
    | _, _ => none
theorem vv.stab (I : DI K Cl Z H0 σ ρ) : ∀ {xs : List V} {vs : List Val} {ds : List D}, km vs = some ds → vv K Z σ ρ H0 H1 xs vs → DpAll K (hide H1 (Zo Z σ ρ)) xs ds
  | _, _, _, e, .nil => by cases e; exact .nil
  | _, _, ds, e, .cons h t => by
    simp only [km] at e
    split at e
    · rename_i d es e1 e2
      cases e
      exact .cons (h.stab I e1) (vv.stab I e2 t)
    · cases e
theorem waD : ∀ {vs : List Val} {ds : List D}, km vs = some ds → ds.length = vs.length
  | [], _, e => by cases e; rfl
  | v :: vs, ds, e => by
    simp only [km] at e
    split at e
    · rename_i d es e1 e2
      cases e
      rw [List.length_cons, List.length_cons, waD e2]
    · cases e
end
@[simp] def za (ρ : ya) : Option (Except Er (List Val)) := some (.ok [])
@[simp] def qa (f : FE) (g : FA) (ρ : ya) : Option (Except Er (List Val)) := match f ρ with
  | none => none
  | some (.error e) => some (.error e)
  | some (.ok v) => match g ρ with
    | none => none
    | some (.error e) => some (.error e)
    | some (.ok vs) => some (.ok (v :: vs))
section
variable {X : Cx} {Cl : Nat → Addr} {W : WX} {a b c e : Expr} {es : List Expr} {fa fb fc f : FE} {g : FA} {p pos : Pos}
theorem kb : DA X Cl W [] za := PA.imp pa_nil fun σ H Q ⟨Z, ρ, r, I, e, q⟩ => by
  cases e
  exact q [] H (Same.refl _) .nil
theorem va (ha : DE X Cl W e f) (hr : DA X Cl W es g) (hs : starEach (e :: es) X.env = (false, eval e X.env) :: starEach es X.env := by rfl) : DA X Cl W (e :: es) (qa f g) := PA.imp (pa_cons ha hr hs) fun σ H Q ⟨Z, ρ, r, I, e, q⟩ => by
  unfold qa at e
  cases e1 : f ρ with
  | none => rw [e1] at e; cases e
  | some r1 =>
    refine jt I e1 (fun er z => ?_) fun v x H1 ev s1 hv I1 => ?_
    · rw [e1, z] at e
      cases e
      exact q
    · subst ev
      rw [e1] at e
      cases e2 : g ρ with
      | none => rw [e2] at e; cases e
      | some r2 =>
        refine kH I1 e2 (fun er z => ?_) fun vs xs H2 ev s2 hvs I2 => ?_
        · rw [e2, z] at e
          cases e
          exact yK.same s1 q
        · subst ev
          rw [e2] at e
          cases e
          exact q (x :: xs) H2 (s1.trans s2) (.cons (hv.same s2) (hvs.back s1))
@[simp] def Val.parts : Val → Option (List Val)
  | .s (.list ds) => some (ds.map .s)
  | .s (.tuple ds) => some (ds.map .s)
  | .m (.list ds) => some (ds.map .m)
  | .m (.tuple ds) => some (ds.map .m)
  | .b ds => some (ds.map .s)
  | .f ds => some (ds.map .s)
  | _ => none
theorem vaD {K : PySem.W.Frag} {Z : Addr → Prop} {σ : St} {ρ : ya} {H0 H1 : Hp} : ∀ {xs : List V} {ds : List D}, DpAll K (hide H1 (Zo Z σ ρ)) xs ds → vv K Z σ ρ H0 H1 xs (ds.map .s)
  | _, _, .nil => .nil
  | _, _, .cons h t => .cons h (vaD t)
theorem yba {K : PySem.W.Frag} {Z : Addr → Prop} {σ : St} {ρ : ya} {H0 H1 : Hp} : ∀ {xs : List V} {ds : List D}, DpAll K (hide H1 Z) xs ds → vv K Z σ ρ H0 H1 xs (ds.map .m)
  | _, _, .nil => .nil
  | _, _, .cons h t => .cons h (yba t)
theorem zu.parts {K : PySem.W.Frag} {Z : Addr → Prop} {σ : St} {ρ : ya} {H0 H : Hp} {x : V} {v : Val} {vs : List Val} (I : DI K Cl Z H0 σ ρ) (h : zu K Z σ ρ H0 H x v) (e : v.parts = some vs) :
    ∃ p xs, x = .ref p ∧ (SqT K H p xs ∨ SqL K H p xs) ∧ vv K Z σ ρ H0 H xs vs := by
  cases v with
  | s d =>
    cases d with
    | list ds =>
      cases e
      obtain ⟨p, xs, rfl, h1, h2⟩ := Dp.lst_inv (show Dp K (hide H (Zo Z σ ρ)) x (.list ds) from h)
      exact ⟨p, xs, rfl, .inr (.inl (Rd.same qd h1)), vaD h2⟩
    | tuple ds =>
      cases e
      obtain ⟨p, xs, rfl, h1, h2⟩ := Dp.wx (show Dp K (hide H (Zo Z σ ρ)) x (.tuple ds) from h)
      exact ⟨p, xs, rfl, .inl (SqT.same qd h1), vaD h2⟩
    | _ => cases e
  | m d =>
    cases d with
    | list ds =>
      cases e
      obtain ⟨p, xs, rfl, h1, h2⟩ := Dp.lst_inv (show Dp K (hide H Z) x (.list ds) from h)
      exact ⟨p, xs, rfl, .inr (.inl (Rd.same qd h1)), yba h2⟩
    | tuple ds =>
      cases e
      obtain ⟨p, xs, rfl, h1, h2⟩ := Dp.wx (show Dp K (hide H Z) x (.tuple ds) from h)
      exact ⟨p, xs, rfl, .inl (SqT.same qd h1), yba h2⟩
    | _ => cases e
  | b ds =>
    cases e
    obtain ⟨p, xs, rfl, n, h1, h2⟩ := h
    exact ⟨p, xs, rfl, .inr (SqL.of h1), vaD h2⟩
  | f ds =>
    cases e
    obtain ⟨p, xs, rfl, n, h1, h2⟩ := h
    exact ⟨p, xs, rfl, .inr (SqL.of h1), vaD (DpAll.same (jc (yb.refl _) fun _ h => .inl (.inl h)) h2)⟩
theorem vv.append {K : PySem.W.Frag} {Z : Addr → Prop} {σ : St} {ρ : ya} {H0 H1 : Hp} : ∀ {xs ys : List V} {vs ws : List Val}, vv K Z σ ρ H0 H1 xs vs → vv K Z σ ρ H0 H1 ys ws → vv K Z σ ρ H0 H1 (xs ++ ys) (vs ++ ws)
  | _, _, _, _, .nil, s => s
  | _, _, _, _, .cons r t, s => .cons r (vv.append t s)
@[simp] def kbx (f : FE) (g : FA) (ρ : ya) : Option (Except Er (List Val)) := match f ρ with
  | none => none
  | some (.error e) => some (.error e)
  | some (.ok v) => match v.parts with
    | none => none
    | some us => match g ρ with
      | none => none
      | some (.error e) => some (.error e)
      | some (.ok vs) => some (.ok (us ++ vs))
def CRD (K : PySem.W.Frag) (r : List V → Hp → VK → Prop) (g : List Val → Option Val) : Prop := ∀ (Cl : Nat → Addr) (Z : Addr → Prop) (σ : St) (ρ : ya) (H0 H : Hp) (xs : List V) (vs : List Val) (v : Val) (Q : VK), DI K Cl Z H0 σ ρ → Same Cl H0 H → vv K Z σ ρ H0 H xs vs → g vs = some v →
  (∀ z H', Same Cl H H' → zu K Z σ ρ H0 H' z v → Q z H') → r xs H Q
@[simp] def eG (h : List Val → Option Val) (g : FA) (ρ : ya) : Option (Except Er Val) := match g ρ with
  | none => none
  | some (.error e) => some (.error e)
  | some (.ok vs) => (h vs).map .ok
theorem wbH {r : List V → Hp → VK → Prop} {h : List Val → Option Val} (hp : PE X e (tCB r (kaV X.K Cl W g))) (hr : CRD X.K r h) : DE X Cl W e (eG h g) := PE.imp hp fun σ H Q ⟨Z, ρ, r1, I, e, q⟩ => by
  unfold eG at e
  cases e1 : g ρ with
  | none => rw [e1] at e; cases e
  | some r2 =>
    refine kH I e1 (fun er z => ?_) fun vs xs H1 ev s1 hvs I1 => ?_
    · rw [e1, z] at e
      cases e
      exact q
    · subst ev
      rw [e1] at e
      dsimp only at e
      cases e2 : h vs with
      | none => rw [e2] at e; cases e
      | some v =>
        rw [e2] at e
        cases e
        exact hr Cl Z σ ρ H H1 xs vs v Q I s1 hvs e2 fun z H' s' hz => q z H' (s1.trans s') hz
theorem vu {id : String} {x : Str} {r : List V → Hp → VK → Prop} {h : List Val → Option Val} (hc : CallR X (.builtin id) r) (hr : CRD X.K r h) (hm : X.mg x = none) (hv : bootBuiltins x = some (.builtin id)) (ha : DA X Cl W (e :: es) g) (hg : Gl X x := by rfl) (hn : x ≠ "__name__" := by decide) (hdb : (x == ("__debug__" : Str)) = false := by decide)
    (he : starEach (e :: es) X.env = (false, eval e X.env) :: starEach es X.env := by rfl) (hpl : (backTo pos (starEach es X.env)).any (·.1) = false := by rfl) : DE X Cl W (.Call (.Name x p) (e :: es) [] pos) (eG h g) :=
  wbH (pe_callB hc hg hm hv ha hn hdb he hpl) hr
theorem qy {id : String} {x : Str} {r : List V → Hp → VK → Prop} {h : List Val → Option Val} (hc : CallR X (.type id) r) (hr : CRD X.K r h) (hm : X.mg x = none) (hv : bootBuiltins x = some (.type id)) (ha : DA X Cl W (e :: es) g) (hg : Gl X x := by rfl) (hn : x ≠ "__name__" := by decide) (hdb : (x == ("__debug__" : Str)) = false := by decide)
    (he : starEach (e :: es) X.env = (false, eval e X.env) :: starEach es X.env := by rfl) (hpl : (backTo pos (starEach es X.env)).any (·.1) = false := by rfl) : DE X Cl W (.Call (.Name x p) (e :: es) [] pos) (eG h g) :=
  wbH (pe_callTy hc hg hm hv ha hn hdb he hpl) hr
theorem vv.one {K : PySem.W.Frag} {Z : Addr → Prop} {σ : St} {ρ : ya} {H0 H1 : Hp} {xs : List V} {v : Val} (h : vv K Z σ ρ H0 H1 xs [v]) : ∃ x, xs = [x] ∧ zu K Z σ ρ H0 H1 x v := by
  cases h with
  | cons h t => cases t; exact ⟨_, rfl, h⟩
theorem vv.two {K : PySem.W.Frag} {Z : Addr → Prop} {σ : St} {ρ : ya} {H0 H1 : Hp} {xs : List V} {v u : Val} (h : vv K Z σ ρ H0 H1 xs [v, u]) : ∃ x y, xs = [x, y] ∧ zu K Z σ ρ H0 H1 x v ∧ zu K Z σ ρ H0 H1 y u := by
  cases h with
  | cons h t =>
    cases t with
    | cons h2 t2 => cases t2; exact ⟨_, _, rfl, h, h2⟩
variable {K : PySem.W.Frag} {Cl : Nat → Addr}
@[simp] def xba : D → Option Nat
  | .str x => if vj x.length = true then some x.length else none
  | .list ds => some ds.length
  | .tuple ds => some ds.length
  | .dict ks => if zaV ks = true then none else some ks.length
  | _ => none
@[simp] def wg : List Val → Option Val
  | [v] => (xba v.d).map fun n => .s (.int n)
  | _ => none
theorem Dp.qcy {H : Hp} {x : V} {d : D} {n : Nat} (h : Dp K H x d) (e : xba d = some n) : LenV K x H n := by
  cases h with
  | str x =>
    simp only [xba] at e
    split at e
    · rename_i hl
      cases e
      exact ⟨js hl, rfl⟩
    · cases e
  | lst h t => cases e; exact .inl ⟨_, .inl h, t.length.symm⟩
  | tup h t => cases e; exact .inr ⟨_, h, t.length.symm⟩
  | @yO a ns h =>
    simp only [xba] at e
    rw [ya9, if_neg Bool.false_ne_true] at e
    cases e
    exact .inl ⟨_, h, by rw [List.length_map, List.length_map]⟩
  | exc _ _ => cases e
  | _ => cases e
theorem qM : CRD K (fun xs H Q => ∃ x n, xs = [x] ∧ LenV K x H n ∧ Q (.int n) H) wg := fun Cl Z σ ρ H0 H xs vs v Q I s hv e q => by
  unfold wg at e
  split at e
  · rename_i u
    obtain ⟨x, rfl, h⟩ := hv.one
    cases e1 : xba u.d with
    | none => rw [e1] at e; cases e
    | some n =>
      rw [e1] at e
      cases e
      exact ⟨x, n, rfl, (Dp.same qd (h.dp I)).qcy e1, q _ H (Same.refl _) (.int _)⟩
  · cases e
@[simp] def zU : List Val → Option Val
  | [v] => match v.d with
    | .int i => some (.s (.int i))
    | .bool b => some (.s (.int (if b then 1 else 0)))
    | _ => none
  | _ => none
theorem zav : CRD K (fun xs H Q => (∃ i, xs = [.int i] ∧ Q (.int i) H) ∨ ∃ k, xs = [.bl k] ∧ Q (.int (if k then 1 else 0)) H) zU := fun Cl Z σ ρ H0 H xs vs v Q I s hv e q => by
  unfold zU at e
  split at e
  · rename_i u
    obtain ⟨x, rfl, h⟩ := hv.one
    split at e
    · rename_i i e1
      cases e
      exact .inl ⟨i, by rw [h.int_inv I e1], q _ H (Same.refl _) (.int _)⟩
    · rename_i i e1
      cases e
      exact .inr ⟨i, by rw [h.waj I e1], q _ H (Same.refl _) (.int _)⟩
    · cases e
  · cases e
@[simp] def qby : List Val → Option Val
  | [v] => match v.d with
    | .int i => some (.s (.int (if i < 0 then -i else i)))
    | _ => none
  | _ => none
theorem jcg : CRD K (fun xs H Q => ∃ i, xs = [.int i] ∧ Q (.int (if i < 0 then -i else i)) H) qby := fun Cl Z σ ρ H0 H xs vs v Q I s hv e q => by
  unfold qby at e
  split at e
  · rename_i u
    obtain ⟨x, rfl, h⟩ := hv.one
    split at e
    · rename_i i e1
      cases e
      exact ⟨i, by rw [h.int_inv I e1], q _ H (Same.refl _) (.int _)⟩
    · cases e
  · cases e
@[simp] def kba : List Val → Option Val
  | [v, u] => match v.d, u.d with
    | .int i, .int j => some (.s (.int (if j < i then j else i)))
    | _, _ => none
  | _ => none
theorem wbt : CRD K (fun xs H Q => ∃ i j, xs = [.int i, .int j] ∧ Q (.int (if j < i then j else i)) H) kba := fun Cl Z σ ρ H0 H xs vs v Q I s hv e q => by
  unfold kba at e
  split at e
  · rename_i u w
    obtain ⟨x, y, rfl, h, h2⟩ := hv.two
    split at e
    · rename_i i j e1 e2
      cases e
      exact ⟨i, j, by rw [h.int_inv I e1, h2.int_inv I e2], q _ H (Same.refl _) (.int _)⟩
    · cases e
  · cases e
@[simp] def zcy : List Val → Option Val
  | [v, u] => match v.d, u.d with
    | .int i, .int j => some (.s (.int (if j > i then j else i)))
    | _, _ => none
  | _ => none
@[simp] def Val.seq : Val → Option (List D)
  | .s (.tuple ds) => some ds
  | .m (.tuple ds) => if ds.all wj = true then some ds else none
  | v => v.items
theorem zu.seq {Z : Addr → Prop} {σ : St} {ρ : ya} {H0 H : Hp} {x : V} {a : Val} {ds : List D} (I : DI K Cl Z H0 σ ρ) (e : a.seq = some ds) (h : zu K Z σ ρ H0 H x a) : ∃ p xs, x = .ref p ∧ (SqL K H p xs ∨ SqT K H p xs) ∧ DpAll K (hide H (Zo Z σ ρ)) xs ds := by
  have go : a.items = some ds → ∃ p xs, x = .ref p ∧ (SqL K H p xs ∨ SqT K H p xs) ∧ DpAll K (hide H (Zo Z σ ρ)) xs ds := fun e => by
    obtain ⟨p, xs, e1, e2, e3⟩ := h.items I e
    exact ⟨p, xs, e1, .inl (.inl e2), e3⟩
  unfold Val.seq at e
  split at e
  · rename_i ys
    cases e
    obtain ⟨p, xs, rfl, h1, h2⟩ := Dp.wx (show Dp K (hide H (Zo Z σ ρ)) x (.tuple ds) from h)
    exact ⟨p, xs, rfl, .inr (SqT.same qd h1), h2⟩
  · rename_i ys
    split at e
    · rename_i sc
      cases e
      obtain ⟨p, xs, rfl, h1, h2⟩ := Dp.wx (show Dp K (hide H Z) x (.tuple ds) from h)
      exact ⟨p, xs, rfl, .inr (SqT.same qd h1), DpAll.scalar sc h2⟩
    · cases e
  · exact go e
@[simp] def ky : List Val → Option Val
  | [v] => v.seq.map .f
  | _ => none
theorem jav : CRD K (fun xs H Q => ∃ p ys, xs = [.ref p] ∧ (SqL K H p ys ∨ SqT K H p ys) ∧ ∀ l, H l = none → Q (.ref l) (upd H l (.lst ys))) ky := fun Cl Z σ ρ H0 H xs vs v Q I s hv e q => by
  unfold ky at e
  split at e
  · rename_i u
    obtain ⟨x, rfl, h⟩ := hv.one
    cases e1 : u.seq with
    | none => rw [e1] at e; cases e
    | some ds =>
      rw [e1] at e
      cases e
      obtain ⟨p, ys, rfl, h1, h2⟩ := h.seq I e1
      exact ⟨p, ys, rfl, h1, fun l nl => q _ _ (zl nl) (zu.new s nl h2)⟩
  · cases e
def xaP : List D → Option (List Int)
  | [] => some []
  | .int i :: r => (xaP r).map (i :: ·)
  | _ => none
@[simp] def kcZ : List Val → Option Val
  | [v] => match v.d with
    | .list ds => (xaP ds).map fun ns => .s (.int ns.sum)
    | _ => none
  | _ => none
@[simp] def tyN : D → String
  | .none => "NoneType" | .bool _ => "bool" | .int _ => "int" | .str _ => "str" | .list _ => "list" | .tuple _ => "tuple" | .dict _ => "list"
@[simp] def zbQ (T : String) (d : D) : Bool := T == tyN d || (T == "int" && tyN d == "bool")
@[simp] def qaW (T : String) (v : Val) : Option Val := if wbP v.d = true then none else some (.s (.bool (zbQ T v.d)))
theorem wb8 {T : String} {d : D} (h : T = "bool" ∨ T = "int" ∨ T = "str" ∨ T = "list" ∨ T = "tuple") : PySem.W.kitOne K (.type (tyN d)) (.type T) = some (zbQ T d) := by
  refine kit_ty ?_
  rcases h with rfl | rfl | rfl | rfl | rfl <;> cases d <;> first | decide +kernel | rfl
theorem Dp.tyx {H : Hp} {x : V} {d : D} (n : ¬ wbP d = true) (h : Dp K H x d) : TyX K H x (.type (tyN d)) := by
  cases h with
  | non => exact .base .non
  | bl b => exact .base (.bl b)
  | int i => exact .base (.int i)
  | str x => exact .base (.str x)
  | lst h t =>
    rcases h with h | ⟨o, h⟩
    · exact .base (.lst h)
    · exact .base (.frz h)
  | tup h t =>
    rcases h with (h | ⟨o, h⟩) | ⟨o, its, n, h, c, _⟩
    · exact .base (.tup h)
    · exact .fTuple h
    · exact .kTuple h c
  | yO h =>
    rcases h with (h | ⟨o, h⟩) | ⟨o, its, n, h, c, _⟩
    · exact .base (.lst h)
    · exact .base (.frz h)
    · exact .kList h c
  | exc _ _ => exact absurd rfl n
theorem vbH {T : String} {y : Str} {q : Pos} {x : Str} (hx : x = "isinstance") (hm : X.mg x = none) (hy : X.mg y = none) (hT : bootBuiltins y = some (.type T)) (hk : T = "bool" ∨ T = "int" ∨ T = "str" ∨ T = "list" ∨ T = "tuple") (ha : DE X Cl W e f) (hg : Gl X x := by rfl) (hgy : Gl X y := by rfl) (hn : y ≠ "__name__" := by decide) (hdb : (y == ("__debug__" : Str)) = false := by decide)
    (hs : starEach [e, .Name y q] X.env = (false, eval e X.env) :: starEach [.Name y q] X.env := by rfl) (hs2 : starEach [.Name y q] X.env = (false, eval (.Name y q) X.env) :: starEach [] X.env := by rfl) (hpl : (backTo pos (starEach [.Name y q] X.env)).any (·.1) = false := by rfl) :
    DE X Cl W (.Call (.Name x p) [e, .Name y q] [] pos) (e1 (qaW T) f) := by
  subst hx
  refine PE.imp (pe_callB call_isi hg hm PyProof.Rows.boot_isinstance (pa_cons ha (pa_cons (pe_bltn (v := .ty T) hgy hy hT rfl hn hdb) pa_nil hs2) hs) (by decide) (by decide) hs hpl) fun σ H Q ⟨Z, ρ, r1, I, e, q⟩ => ?_
  refine vH I e q fun v x H1 _ h1 s1 hv I1 q1 => ?_
  unfold qaW at h1
  split at h1
  · cases h1
  rename_i n
  cases h1
  exact ⟨x, .ty T, _, _, _, rfl, .ty T, (Dp.same qd (hv.dp I)).tyx n, wb8 hk, q _ H1 s1 (.bl _)⟩
@[simp] def zv (g : FA) (ρ : ya) : Option (Except Er Val) := match g ρ with
  | none => none
  | some (.error e) => some (.error e)
  | some (.ok vs) => if vj vs.length = true then match km vs with
    | some ds => some (.ok (.f ds))
    | none => some (.ok (.m (.list (vs.map Val.d)))) else none
@[simp] def ve (g : FA) (ρ : ya) : Option (Except Er Val) := match g ρ with
  | none => none
  | some (.error e) => some (.error e)
  | some (.ok vs) => if vj vs.length = true then match km vs with
    | some ds => some (.ok (.s (.tuple ds)))
    | none => some (.ok (.m (.tuple (vs.map Val.d)))) else none
theorem Paired.len {α β : Type} {F : α → β → Prop} {l₁ : List α} {l₂ : List β} (h : Paired F l₁ l₂) : l₁.length = l₂.length := Paired.length h
theorem wav (h : DA X Cl W es g) : DE X Cl W (.List es pos) (zv g) := PE.imp (pe_lst h) fun σ H Q ⟨Z, ρ, r1, I, e, q⟩ => by
  unfold zv at e
  cases e1 : g ρ with
  | none => rw [e1] at e; cases e
  | some r2 =>
    refine kH I e1 (fun er z => ?_) fun vs xs H1 ev s1 hvs I1 => ?_
    · rw [e1, z] at e
      cases e
      exact q
    · subst ev
      rw [e1] at e
      dsimp only at e
      split at e
      · rename_i hl
        refine ⟨by rw [Paired.len hvs]; exact js hl, fun p np => ?_⟩
        cases e2 : km vs with
        | some ds =>
          rw [e2] at e
          cases e
          exact q _ _ (s1.trans (zl np)) (zu.new s1 np (hvs.stab I e2))
        | none =>
          rw [e2] at e
          cases e
          have nz : ¬ Z p := fun z => I1.live p z np
          refine q _ _ (s1.trans (zl np)) ?_
          exact .lst (Rd.of (vc nz upd_same)) (DpAll.same (jc (qP np) fun _ h => .inl h) (hvs.dp I))
      · cases e
theorem vn {x1} (h : DA X Cl W es g) : DE X Cl W (.Tuple es x1 pos) (ve g) := PE.imp (pe_tup h) fun σ H Q ⟨Z, ρ, r1, I, e, q⟩ => by
  unfold ve at e
  cases e1 : g ρ with
  | none => rw [e1] at e; cases e
  | some r2 =>
    refine kH I e1 (fun er z => ?_) fun vs xs H1 ev s1 hvs I1 => ?_
    · rw [e1, z] at e
      cases e
      exact q
    · subst ev
      rw [e1] at e
      dsimp only at e
      split at e
      · rename_i hl
        refine ⟨by rw [Paired.len hvs]; exact js hl, fun p np => ?_⟩
        cases e2 : km vs with
        | some ds =>
          rw [e2] at e
          cases e
          have nz : ¬ Zo Z σ ρ p := fun z => I1.yy z np
          refine q _ _ (s1.trans (zl np)) ?_
          exact .tup (SqT.of (vc nz upd_same)) (DpAll.same (jc (qP np) fun _ h => .inl h) (hvs.stab I e2))
        | none =>
          rw [e2] at e
          cases e
          have nz : ¬ Z p := fun z => I1.live p z np
          refine q _ _ (s1.trans (zl np)) ?_
          exact .tup (SqT.of (vc nz upd_same)) (DpAll.same (jc (qP np) fun _ h => .inl h) (hvs.dp I))
      · cases e
theorem Dp.vb8 {H : Hp} {x : V} {ks : List (D × D)} (n : ¬ zaV ks = true) (h : Dp K H x (.dict ks)) : ∃ (a : Addr) (ns : List Int), x = .ref a ∧ ks = (ns.map fun n => (.int n, .none)) ∧ SqL K H a (ns.map V.int) := by
  cases h with
  | yO h => exact ⟨_, _, rfl, rfl, h⟩
  | exc _ _ => exact absurd rfl n
theorem SqL.jk {H H' : Hp} {a : Addr} {xs : List V} (s : yb H H') (h : SqL K H a xs) : SqL K H' a xs := s.seq h
def strAt (x : Str) (i : Int) : Option D := (atI x.cps.toList i).map fun c => .str ⟨#[c]⟩
@[simp] def ze (a b : Val) : Option Val := match b.d with
  | .int i => match a with
    | .s (.list ds) => (atI ds i).map .s
    | .s (.tuple ds) => (atI ds i).map .s
    | .s (.str x) => if vj x.length = true then (strAt x i).map .s else none
    | .s (.dict ks) => if zaV ks = true then none else (atI ks i).map fun p => .s p.1
    | .m (.list ds) => (atI ds i).map .m
    | .m (.tuple ds) => (atI ds i).map .m
    | .b ds => (atI ds i).map .s
    | .f ds => (atI ds i).map .s
    | _ => none
  | _ => none
theorem kay {H : Hp} {xs : List V} {ds : List D} {i : Int} {d : D} (h : DpAll K H xs ds) (e : atI ds i = some d) : ∃ v, atI xs i = some v ∧ Dp K H v d := by
  unfold atI at e ⊢
  rw [h.length]
  cases e1 : ixN ds.length i with
  | none => rw [e1] at e; cases e
  | some j =>
    rw [e1] at e
    obtain ⟨v, h1, h2⟩ := h.get (show ds[j]? = some d from e)
    exact ⟨v, h1, h2⟩
theorem qcr : wU K (rIx K) ze := fun Cl Z σ ρ H0 H x y a b v Q I s ha hb e q => by
  unfold ze at e
  split at e
  · rename_i i e1
    have ey := hb.int_inv I e1
    subst ey
    have L : ∀ {Hh : Hp} {ds : List D} {d : D}, yb Hh H → Dp K Hh x (.list ds) → atI ds i = some d → (∀ z, Dp K Hh z d → Q z H) → rIx K x (.int i) H Q := fun {Hh ds d} sh h e q => by
      obtain ⟨p, xs, rfl, h1, h2⟩ := h.lst_inv
      obtain ⟨z, e2, hz⟩ := kay h2 e
      exact .inl ⟨p, xs, i, z, rfl, rfl, .inl (Rd.same sh h1), e2, q z hz⟩
    have T : ∀ {Hh : Hp} {ds : List D} {d : D}, yb Hh H → Dp K Hh x (.tuple ds) → atI ds i = some d → (∀ z, Dp K Hh z d → Q z H) → rIx K x (.int i) H Q := fun {Hh ds d} sh h e q => by
      obtain ⟨p, xs, rfl, h1, h2⟩ := h.wx
      obtain ⟨z, e2, hz⟩ := kay h2 e
      exact .inr (.inl ⟨p, xs, i, z, rfl, rfl, SqT.same sh h1, e2, q z hz⟩)
    split at e
    · rename_i ds
      cases e2 : atI ds i with
      | none => rw [e2] at e; cases e
      | some d => rw [e2] at e; cases e; exact L qd (show Dp K (hide H (Zo Z σ ρ)) x (.list ds) from ha) e2 fun z hz => q z H (Same.refl _) hz
    · rename_i ds
      cases e2 : atI ds i with
      | none => rw [e2] at e; cases e
      | some d => rw [e2] at e; cases e; exact T qd (show Dp K (hide H (Zo Z σ ρ)) x (.tuple ds) from ha) e2 fun z hz => q z H (Same.refl _) hz
    · rename_i t
      split at e
      · rename_i hl
        unfold strAt at e
        cases e2 : atI t.cps.toList i with
        | none => rw [e2] at e; cases e
        | some c =>
          rw [e2] at e
          cases e
          exact .inr (.inr ⟨t, i, c, (show Dp K (hide H (Zo Z σ ρ)) x (.str t) from ha).str_inv, rfl, js hl, e2, q _ H (Same.refl _) (.str _)⟩)
      · cases e
    · rename_i ks
      split at e
      · cases e
      rename_i nx
      cases e2 : atI ks i with
      | none => rw [e2] at e; cases e
      | some p =>
        rw [e2] at e
        cases e
        obtain ⟨a, ns, rfl, rfl, h1⟩ := (show Dp K (hide H (Zo Z σ ρ)) x (.dict ks) from ha).vb8 nx
        have e3 : atI (ns.map V.int) i = some (toV p.1) ∧ ∃ n, p.1 = .int n := by
          unfold atI at e2 ⊢
          rw [List.length_map] at e2 ⊢
          cases e4 : ixN ns.length i with
          | none => rw [e4] at e2; cases e2
          | some j =>
            rw [e4] at e2
            have e5 : (ns.map fun n => ((PyData.int n, PyData.none) : D × D))[j]? = some p := e2
            show (ns.map V.int)[j]? = _ ∧ _
            rw [List.getElem?_map] at e5 ⊢
            cases e6 : ns[j]? with
            | none => rw [e6] at e5; cases e5
            | some n =>
              rw [e6] at e5
              cases e5
              exact ⟨rfl, n, rfl⟩
        obtain ⟨e4, n, en⟩ := e3
        refine .inl ⟨a, _, i, _, rfl, rfl, SqL.jk qd h1, e4, q _ H (Same.refl _) ?_⟩
        show Dp K _ (toV p.1) p.1
        rw [en]
        exact .int n
    · rename_i ds
      cases e2 : atI ds i with
      | none => rw [e2] at e; cases e
      | some d => rw [e2] at e; cases e; exact L qd (show Dp K (hide H Z) x (.list ds) from ha) e2 fun z hz => q z H (Same.refl _) hz
    · rename_i ds
      cases e2 : atI ds i with
      | none => rw [e2] at e; cases e
      | some d => rw [e2] at e; cases e; exact T qd (show Dp K (hide H Z) x (.tuple ds) from ha) e2 fun z hz => q z H (Same.refl _) hz
    · rename_i ds
      cases e2 : atI ds i with
      | none => rw [e2] at e; cases e
      | some d =>
        rw [e2] at e
        cases e
        obtain ⟨p, xs, rfl, n, h1, h2⟩ := ha
        obtain ⟨z, e3, hz⟩ := kay h2 e2
        exact .inl ⟨p, xs, i, z, rfl, rfl, SqL.of h1, e3, q z H (Same.refl _) hz⟩
    · rename_i ds
      cases e2 : atI ds i with
      | none => rw [e2] at e; cases e
      | some d =>
        rw [e2] at e
        cases e
        obtain ⟨p, xs, rfl, n, h1, h2⟩ := ha
        obtain ⟨z, e3, hz⟩ := kay h2 e2
        exact .inl ⟨p, xs, i, z, rfl, rfl, SqL.of h1, e3, q z H (Same.refl _) (Dp.same (jc (yb.refl _) fun _ h => .inl (.inl h)) hz)⟩
    · cases e
  · cases e
theorem yk (ha : DE X Cl W a fa) (hb : DE X Cl W b fb) (hs : PlainIx b := by exact fun _ _ => rfl) : DE X Cl W (.Subscript a b pos) (e2 ze fa fb) := qba (pe_ix ix_seq ha hb hs) qcr
abbrev FO := ya → Option (Except Er (Option Int))
def jcy (K : PySem.W.Frag) (Cl : Nat → Addr) (W : WX) (f : FO) : TO := fun σ H Q => ∃ Z ρ r, DI K Cl Z H σ ρ ∧ f ρ = some r ∧ match r with
  | .ok o => ∀ H', Same Cl H H' → Q o H'
  | .error e => yK Cl W σ H e
@[simp] def qx (ρ : ya) : Option (Except Er (Option Int)) := some (.ok none)
@[simp] def xp (f : FE) (ρ : ya) : Option (Except Er (Option Int)) := match f ρ with
  | none => none
  | some (.error e) => some (.error e)
  | some (.ok v) => match v.d with
    | .int i => some (.ok (some i))
    | _ => none
def DO (X : Cx) (Cl : Nat → Addr) (W : WX) (e : Option Expr) (f : FO) : Prop := PO X e (jcy X.K Cl W f)
theorem PO.imp {e : Option Expr} {t t' : TO} (h : PO X e t) (i : ∀ σ H Q, t' σ H Q → t σ H Q) : PO X e t' := ⟨fun pins s σ H Q I q => h.run pins s σ H Q I (i σ H Q q)⟩
theorem j7 : DO X Cl W none qx := PO.imp po_none fun σ H Q ⟨Z, ρ, r, I, e, q⟩ => by cases e; exact q H (Same.refl _)
theorem yR (h : DE X Cl W e f) : DO X Cl W (some e) (xp f) := PO.imp (po_some h) fun σ H Q ⟨Z, ρ, r, I, e, q⟩ => by
  unfold xp at e
  cases e1 : f ρ with
  | none => rw [e1] at e; cases e
  | some r1 =>
    refine jt I e1 (fun er z => ?_) fun v x H1 ev s1 hv I1 => ?_
    · rw [e1, z] at e
      cases e
      exact q
    · subst ev
      rw [e1] at e
      dsimp only at e
      split at e
      · rename_i i e2
        cases e
        exact ⟨i, hv.int_inv I e2, q H1 s1⟩
      · cases e
def wae {α : Type} (xs : List α) (lo hi : Option Int) : List α := (xs.drop (HT.sIx xs.length 0 lo)).take (HT.sIx xs.length xs.length hi - HT.sIx xs.length 0 lo)
theorem zaW {H : Hp} {xs : List V} {ds : List D} {lo hi : Option Int} (h : DpAll K H xs ds) : DpAll K H (cutV xs lo hi) (wae ds lo hi) := by
  unfold cutV wae
  rw [h.length]
  exact (h.drop _).take _
def whole (n : Nat) (lo hi : Option Int) : Bool := decide (HT.sIx n 0 lo = 0 ∧ HT.sIx n n hi = n)
@[simp] def gSl (v : Val) (lo hi : Option Int) : Option Val := match v with
  | .s (.tuple ds) => if whole ds.length lo hi = true then none else some (.s (.tuple (wae ds lo hi)))
  | .m (.tuple ds) => if whole ds.length lo hi = true then none else some (.m (.tuple (wae ds lo hi)))
  | v => match v.items with
    | some ds => some (.f (wae ds lo hi))
    | none => none
@[simp] def qH (f : FE) (l h : FO) (ρ : ya) : Option (Except Er Val) := match f ρ with
  | none => none
  | some (.error e) => some (.error e)
  | some (.ok v) => match l ρ with
    | none => none
    | some (.error e) => some (.error e)
    | some (.ok lo) => match h ρ with
      | none => none
      | some (.error e) => some (.error e)
      | some (.ok hi) => (gSl v lo hi).map .ok
theorem waq {lo hi : Option Expr} {l h : FO} {p2 : Pos} (he : DE X Cl W e f) (hl : DO X Cl W lo l) (hh : DO X Cl W hi h) : DE X Cl W (.Subscript e (.Slice lo hi none p2) pos) (qH f l h) := PE.imp (pe_slice (sl_list.or sl_tup) he hl hh) fun σ H Q ⟨Z, ρ, r, I, e, q⟩ => by
  unfold qH at e
  cases e1 : f ρ with
  | none => rw [e1] at e; cases e
  | some r1 =>
    refine jt I e1 (fun er z => ?_) fun v x H1 ev s1 hv I1 => ?_
    · rw [e1, z] at e
      cases e
      exact q
    · subst ev
      rw [e1] at e
      dsimp only at e
      cases e2 : l ρ with
      | none => rw [e2] at e; cases e
      | some r2 =>
        refine ⟨Z, ρ, r2, I1, e2, ?_⟩
        cases r2 with
        | error er =>
          rw [e2] at e
          cases e
          exact yK.same s1 q
        | ok o1 =>
          rw [e2] at e
          dsimp only at e
          intro H2 s2
          have I2 := I1.same s2
          cases e3 : h ρ with
          | none => rw [e3] at e; cases e
          | some r3 =>
            refine ⟨Z, ρ, r3, I2, e3, ?_⟩
            cases r3 with
            | error er =>
              rw [e3] at e
              cases e
              exact yK.same (s1.trans s2) q
            | ok o2 =>
              rw [e3] at e
              dsimp only at e
              intro H3 s3
              have hv3 := hv.same (s2.trans s3)
              have I3 := I2.same s3
              have s13 := s1.trans (s2.trans s3)
              cases e4 : gSl v o1 o2 with
              | none => rw [e4] at e; cases e
              | some w =>
                rw [e4] at e
                cases e
                unfold gSl at e4
                split at e4
                · rename_i ds
                  split at e4
                  · cases e4
                  · rename_i hw
                    cases e4
                    obtain ⟨p, xs, rfl, h1, h2⟩ := Dp.wx (show Dp X.K (hide H3 (Zo Z σ ρ)) x (.tuple ds) from hv3)
                    refine .inr ⟨p, xs, rfl, SqT.same qd h1, fun z => hw (decide_eq_true (by rw [h2.length] at z; exact z)), fun a na => ?_⟩
                    have nz : ¬ Zo Z σ ρ a := fun z => I3.yy z na
                    refine q _ _ (s13.trans (zl na)) ?_
                    exact .tup (SqT.of (vc nz upd_same)) (DpAll.same (jc (qP na) fun _ h => .inl h) (zaW h2))
                · rename_i ds
                  split at e4
                  · cases e4
                  · rename_i hw
                    cases e4
                    obtain ⟨p, xs, rfl, h1, h2⟩ := Dp.wx (show Dp X.K (hide H3 Z) x (.tuple ds) from hv3)
                    refine .inr ⟨p, xs, rfl, SqT.same qd h1, fun z => hw (decide_eq_true (by rw [h2.length] at z; exact z)), fun a na => ?_⟩
                    have nz : ¬ Z a := fun z => I3.live a z na
                    refine q _ _ (s13.trans (zl na)) ?_
                    exact .tup (SqT.of (vc nz upd_same)) (DpAll.same (jc (qP na) fun _ h => .inl h) (zaW h2))
                · split at e4
                  · rename_i ds e5
                    cases e4
                    obtain ⟨p, xs, rfl, h1, h2⟩ := hv3.items I e5
                    refine .inl ⟨p, xs, rfl, .inl h1, fun a na => ?_⟩
                    exact q _ _ (s13.trans (zl na)) (zu.new s13 na (zaW h2))
                  · cases e4
abbrev FT := ya → Option (Except Er Bool)
def RTk (Cl : Nat → Addr) (W : WX) (σ : St) (H : Hp) (Q : Bool → Hp → Prop) : Except Er Bool → Prop
  | .ok b => ∀ H', Same Cl H H' → Q b H'
  | .error e => yK Cl W σ H e
def kas (K : PySem.W.Frag) (Cl : Nat → Addr) (W : WX) (f : FT) : TT := fun σ H Q => ∃ Z ρ r, DI K Cl Z H σ ρ ∧ f ρ = some r ∧ RTk Cl W σ H Q r
def DT (X : Cx) (Cl : Nat → Addr) (W : WX) (e : Expr) (f : FT) : Prop := PT X e (kas X.K Cl W f)
def DW (X : Cx) (Cl : Nat → Addr) (W : WX) (e : Expr) (f : FT) : Prop := PW X e (kas X.K Cl W f)
@[simp] def tV (f : FE) (ρ : ya) : Option (Except Er Bool) := match f ρ with
  | none => none
  | some (.error e) => some (.error e)
  | some (.ok v) => match v.d with
    | .bool b => some (.ok b)
    | _ => none
theorem xa8 {Z : Addr → Prop} {H : Hp} {σ : St} {ρ : ya} {Q : Bool → Hp → Prop} {r : Except Er Bool} (I : DI K Cl Z H σ ρ) (e : tV f ρ = some r) (q : RTk Cl W σ H Q r) :
    kr K Cl W f σ H fun x H1 => ∃ k, x = .bl k ∧ Q k H1 := by
  unfold tV at e
  cases e1 : f ρ with
  | none => rw [e1] at e; cases e
  | some r1 =>
    refine jt I e1 (fun er z => ?_) fun v x H1 ev s1 hv I1 => ?_
    · rw [e1, z] at e
      cases e
      exact q
    · subst ev
      rw [e1] at e
      dsimp only at e
      split at e
      · rename_i i e2
        cases e
        exact ⟨i, hv.waj I e2, q H1 s1⟩
      · cases e
theorem ybH (h : DE X Cl W e f) (he : ∀ whole, isTrue e X.env whole = (do let v ← whole; standAt e.pos; holding [v] (truthy v)) := by intro _; rfl) : DT X Cl W e (tV f) := PT.imp (pt_val h he) fun σ H Q ⟨Z, ρ, r, I, e, q⟩ => xa8 I e q
theorem qh {op : CmpOp} {r : R2} {g : Val → Val → Option Val} (ho : OpR X (compareOp op) r) (hr : wU X.K r g) (ha : DE X Cl W a fa) (hb : DE X Cl W b fb) (hm : behindInMarks op b = false) : DT X Cl W (.Compare a [op] [b] pos) (tV (e2 g fa fb)) := PT.imp (pt_cmpR ho ha hb hm) fun σ H Q ⟨Z, ρ, r1, I, e, q⟩ => by
  have h := xa8 (W := W) (Cl := Cl) I e q
  obtain ⟨Z', ρ', r', I', e', q'⟩ := h
  refine vH I' e' q' fun v x H1 _ h1 s1 hv I1 q1 => vH I1 h1 q1 fun u y H2 _ h2 s2 hu I2 q2 => ?_
  cases hg : g v u with
  | none => rw [hg] at h2; cases h2
  | some w =>
    rw [hg] at h2
    cases h2
    exact hr Cl Z' σ ρ' H H2 x y v u w _ I' (s1.trans s2) (hv.same s2) (hu.back s1) hg fun z H' s' hz => q' z H' (s1.trans (s2.trans s')) hz
@[simp] def wu (f g : FT) (ρ : ya) : Option (Except Er Bool) := match f ρ with
  | some (.ok true) => g ρ
  | r => r
@[simp] def ju (f g : FT) (ρ : ya) : Option (Except Er Bool) := match f ρ with
  | some (.ok false) => g ρ
  | r => r
@[simp] def kK (f : FT) (ρ : ya) : Option (Except Er Bool) := match f ρ with
  | some (.ok b) => some (.ok (!b))
  | r => r
theorem qz {Z : Addr → Prop} {H : Hp} {σ : St} {ρ : ya} {Q1 : Bool → Hp → Prop} {f : FT} {r : Except Er Bool} (I : DI K Cl Z H σ ρ) (h : f ρ = some r) (he : ∀ e, r = .error e → yK Cl W σ H e)
    (go : ∀ b H1, r = .ok b → Same Cl H H1 → DI K Cl Z H1 σ ρ → Q1 b H1) : kas K Cl W f σ H Q1 := by
  refine ⟨Z, ρ, r, I, h, ?_⟩
  cases r with
  | error e => exact he e rfl
  | ok b => exact fun H1 s => go b H1 rfl s (I.same s)
variable {ta tb : FT} {rest : List Expr}
theorem w7 (ha : DT X Cl W a ta) : DW X Cl W (.BoolOp .And [a] pos) ta := pw_and1 ha
theorem kaP (ha : DT X Cl W a ta) : DW X Cl W (.BoolOp .Or [a] pos) ta := pw_or1 ha
theorem qad (ha : DT X Cl W a ta) (hb : DW X Cl W (.BoolOp .And (b :: rest) pos) tb) : DW X Cl W (.BoolOp .And (a :: b :: rest) pos) (wu ta tb) := PW.imp (pw_and ha hb) fun σ H Q ⟨Z, ρ, r, I, e, q⟩ => by
  unfold wu at e
  cases e1 : ta ρ with
  | none => rw [e1] at e; cases e
  | some r1 =>
    refine qz I e1 (fun er z => ?_) fun b H1 ev s1 I1 => ?_
    · rw [e1, z] at e
      cases e
      exact q
    · subst ev
      rw [e1] at e
      cases b with
      | true =>
        rw [if_pos rfl]
        refine ⟨Z, ρ, r, I1, e, ?_⟩
        cases r with
        | error er => exact yK.same s1 q
        | ok b => exact fun H2 s2 => q H2 (s1.trans s2)
      | false =>
        cases e
        exact q H1 s1
theorem qaQ (ha : DT X Cl W a ta) (hb : DW X Cl W (.BoolOp .Or (b :: rest) pos) tb) : DW X Cl W (.BoolOp .Or (a :: b :: rest) pos) (ju ta tb) := PW.imp (pw_or ha hb) fun σ H Q ⟨Z, ρ, r, I, e, q⟩ => by
  unfold ju at e
  cases e1 : ta ρ with
  | none => rw [e1] at e; cases e
  | some r1 =>
    refine qz I e1 (fun er z => ?_) fun b H1 ev s1 I1 => ?_
    · rw [e1, z] at e
      cases e
      exact q
    · subst ev
      rw [e1] at e
      cases b with
      | false =>
        rw [if_neg Bool.false_ne_true]
        refine ⟨Z, ρ, r, I1, e, ?_⟩
        cases r with
        | error er => exact yK.same s1 q
        | ok b => exact fun H2 s2 => q H2 (s1.trans s2)
      | true =>
        cases e
        exact q H1 s1
theorem kaj (h : DW X Cl W e ta) : DT X Cl W e ta := PW.pt h
theorem xbH (ha : DT X Cl W a ta) : DT X Cl W (.UnaryOp .Not a pos) (kK ta) := PT.imp (pt_not ha) fun σ H Q ⟨Z, ρ, r, I, e, q⟩ => by
  unfold kK at e
  cases e1 : ta ρ with
  | none => rw [e1] at e; cases e
  | some r1 =>
    refine qz I e1 (fun er z => ?_) fun b H1 ev s1 I1 => ?_
    · rw [e1, z] at e
      cases e
      exact q
    · subst ev
      rw [e1] at e
      cases e
      exact q H1 s1
@[simp] def eIf (t : FT) (f g : FE) (ρ : ya) : Option (Except Er Val) := match t ρ with
  | none => none
  | some (.error e) => some (.error e)
  | some (.ok true) => f ρ
  | some (.ok false) => g ρ
@[simp] def eT (t : FT) (ρ : ya) : Option (Except Er Val) := match t ρ with
  | none => none
  | some (.error e) => some (.error e)
  | some (.ok b) => ok (.bool b)
def waI (f g : FE) : FE := bE f fun v ρ => match v.d with
  | .bool true => g ρ
  | .bool false => ok (.bool false)
  | _ => none
def wcy (f g : FE) : FE := bE f fun v ρ => match v.d with
  | .bool false => g ρ
  | .bool true => ok (.bool true)
  | _ => none
@[simp] def zcr (v : Val) : Option Val := match v.d with
  | .bool b => some (.s (.bool (!b)))
  | _ => none
theorem vcg {op} (h : DE X Cl W a fa) : DE X Cl W (.BoolOp op [a] pos) fa := pe_one h
theorem yb8 (ha : DE X Cl W a fa) (hb : DE X Cl W (.BoolOp .And (b :: rest) pos) fb) : DE X Cl W (.BoolOp .And (a :: b :: rest) pos) (waI fa fb) := PE.imp (pe_and ha hb) fun σ H Q ⟨Z, ρ, r, I, e, q⟩ => by
  refine vH I e q fun v x H1 _ h1 s1 hv I1 q1 => ?_
  split at h1
  · rename_i e1
    exact ⟨true, hv.waj I e1, ⟨Z, ρ, r, I1, h1, q1⟩⟩
  · rename_i e1
    cases h1
    exact ⟨false, hv.waj I e1, q1 _ H1 (Same.refl _) (.bl _)⟩
  · cases h1
end
inductive Out where
  | nx (ρ : ya) | ret (d : D) | retF (ds : List D) | retX (ds : List D) (k : Nat) | brk (ρ : ya) | ct (ρ : ya) | exc (ρ : ya) (c : Nat) (i : Int)
abbrev FS := ya → Option Out
structure SI (K : PySem.W.Frag) (Cl : Nat → Addr) (H0 : Hp) (Z : Addr → Prop) (H : Hp) (σ : St) (ρ : ya) : Prop where
  di : DI K Cl Z H σ ρ
  same : Same Cl H0 H
  new : ∀ a, vg σ ρ a → H0 a = none
def z6 (K : PySem.W.Frag) (Cl : Nat → Addr) (W : WX) (H0 : Hp) (Z : Addr → Prop) (D : Ends) : Out → Prop
  | .nx ρ => ∀ σ H, SI K Cl H0 Z H σ ρ → D.nx σ H
  | .brk ρ => ∀ σ H, SI K Cl H0 Z H σ ρ → D.bk σ H
  | .ct ρ => ∀ σ H, SI K Cl H0 Z H σ ρ → D.ct σ H
  | .ret d => ∀ v H, Same Cl H0 H → Dp K (hide H Z) v d → D.rt v H
  | .retF ds => ∀ p xs H, Same Cl H0 H → H0 p = none → H p = some (.lst xs) → DpAll K (hide H (ZP Z p)) xs ds → D.rt (.ref p) H
  | .retX ds k => ∀ T p xs ys H, Same Cl H0 H → SqT K (hide H Z) T xs → DpAll K (hide H Z) xs ds → xs[k]? = some (.ref p) → H0 p = none → H p = some (.lst ys) → D.rt (.ref T) H
  | .exc ρ c i => ∀ dd σ H, SI K Cl H0 Z H σ ρ → H dd = some (.xd [(("at" : Str), .int i)]) → W (.ref (Cl c)) (some dd) σ H
def xas (K : PySem.W.Frag) (Cl : Nat → Addr) (W : WX) (f : FS) : TS := fun D σ H => ∃ H0 Z ρ o, SI K Cl H0 Z H σ ρ ∧ f ρ = some o ∧ z6 K Cl W H0 Z D o
def DS (X : Cx) (Cl : Nat → Addr) (W : WX) (st : Stmt) (f : FS) : Prop := PS X st (xas X.K Cl W f)
def xO (X : Cx) (Cl : Nat → Addr) (W : WX) (st : List Stmt) (f : FS) : Prop := PSs X st (xas X.K Cl W f)
section
variable {K : PySem.W.Frag} {Cl : Nat → Addr} {W : WX} {H0 H1 : Hp} {Z : Addr → Prop} {H H' : Hp} {σ : St} {ρ : ya} {D : Ends}
theorem SI.jk (I : SI K Cl H0 Z H σ ρ) (s : Same Cl H H') : SI K Cl H0 Z H' σ ρ := ⟨I.di.same s, I.same.trans s, I.new⟩
theorem SI.rebase (I : SI K Cl H1 Z H σ ρ) (s : Same Cl H0 H1) : SI K Cl H0 Z H σ ρ := ⟨I.di, s.trans I.same, fun a h => s.free (I.new a h)⟩
theorem z6.rebase {o : Out} (s : Same Cl H0 H1) (h : z6 K Cl W H0 Z D o) : z6 K Cl W H1 Z D o := by
  cases o with
  | nx ρ => exact fun σ H I => h σ H (I.rebase s)
  | brk ρ => exact fun σ H I => h σ H (I.rebase s)
  | ct ρ => exact fun σ H I => h σ H (I.rebase s)
  | ret d => exact fun v H q e => h v H (s.trans q) e
  | retF ds => exact fun p xs H q n e1 e2 => h p xs H (s.trans q) (s.free n) e1 e2
  | retX ds k => exact fun T p xs ys H q e1 e2 e3 n e4 => h T p xs ys H (s.trans q) e1 e2 e3 (s.free n) e4
  | exc ρ c i => exact fun dd σ H I e => h dd σ H (I.rebase s) e
theorem z6.err {e : Er} (I : SI K Cl H0 Z H σ ρ) (h : z6 K Cl W H0 Z D (.exc ρ e.1 e.2)) : yK Cl W σ H e := fun dd H' s hd => h dd σ H' (I.jk s) hd
theorem xX.over {H4 : Hp} {L : Addr} {acc zs : List V} (t : xX Cl H4) (hL : H4 L = some (.lst acc)) : xX Cl (upd H4 L (.lst zs)) := fun p hp n => by
  have nP : ∀ {b : Addr} {o : HO}, H4 b = some o → (∀ ys, o ≠ .lst ys) → b ≠ L := fun {b o} e n z => by
    rw [z, hL] at e
    exact n _ (Option.some.inj e).symm
  obtain ⟨ps, h1, h2, h3⟩ := t p hp n
  refine ⟨ps, by rw [upd_ne (nP h1 fun _ z => by cases z)]; exact h1, h2, fun pos cv hc => ?_⟩
  obtain ⟨c, e1, e2⟩ := h3 pos cv hc
  exact ⟨c, e1, by rw [upd_ne (nP e2 fun _ z => by unfold LamX.CodeO at z; cases z)]; exact e2⟩
theorem Same.over {H1 H4 : Hp} {L : Addr} {acc zs : List V} (s : Same Cl H1 H4) (nL : H1 L = none) (hL : H4 L = some (.lst acc)) : Same Cl H1 (upd H4 L (.lst zs)) := by
  have ne : ∀ {b : Addr}, H1 b ≠ none → b ≠ L := fun {b} e z => e (by rw [z]; exact nL)
  exact ⟨fun b o e n => by rw [upd_ne (ne (by rw [e]; intro z; cases z))]; exact s.d b o e n, fun t => (s.tb t).over hL, fun b e => (by rw [upd_ne (ne e)]; exact s.live b e), fun b o xs e => (by
    by_cases z : b = L
    · rw [z, upd_same] at e
      cases e
    · rw [upd_ne z] at e
      exact s.nf b o xs e)⟩
theorem zg.slot {i : Nat} {a : Addr} (h : zg σ ρ i a) : ∃ s : Slot, ρ[i]? = some s ∧ s.yz := by
  rcases h with ⟨_, ds, h2⟩ | ⟨k, ds, h2⟩ | ⟨c, h2⟩
  · exact ⟨_, h2, trivial⟩
  · exact ⟨_, h2, trivial⟩
  · exact ⟨_, h2, trivial⟩
theorem jw {i : Nat} {x : Option V} {s : Slot} (hs : ¬ s.yz) {j : Nat} {a : Addr} (h : zg (σ.set i x) (ρ.set i s) j a) : zg σ ρ j a := by
  by_cases hj : i = j
  · subst hj
    have no : ∀ t : Slot, t.yz → (ρ.set i s)[i]? ≠ some t := fun t ht h2 => by
      rw [List.getElem?_set, if_pos rfl] at h2
      split at h2
      · rw [Option.some.inj h2] at hs
        exact hs ht
      · cases h2
    rcases h with ⟨_, ds, h2⟩ | ⟨k, ds, h2⟩ | ⟨c, h2⟩
    · exact absurd h2 (no (.own ds) trivial)
    · exact absurd h2 (no (.ownT a k ds) trivial)
    · exact absurd h2 (no (.wc a c) trivial)
  · unfold zg at h ⊢
    rw [List.getElem?_set_ne hj, List.getElem?_set_ne hj] at h
    exact h
theorem DI.vby (I : DI K Cl Z H σ ρ) {i : Nat} {x : Option V} {s : Slot} (hs : ¬ s.yz) (h : ∀ Hs, yb (hide H (Zo Z σ ρ)) Hs → zaD K Cl H Hs (some x) s) : DI K Cl Z H (σ.set i x) (ρ.set i s) := by
  have sub : ∀ a, vg (σ.set i x) (ρ.set i s) a → vg σ ρ a := fun a ⟨j, q⟩ => ⟨j, jw hs q⟩
  have hm : yb (hide H (Zo Z σ ρ)) (hide H (Zo Z (σ.set i x) (ρ.set i s))) := jc (yb.refl _) fun b hb => .inl (hb.elim .inl fun z => .inr (sub b z))
  refine ⟨by rw [List.length_set, List.length_set]; exact I.len, fun j k a h1 h2 => I.one j k a (jw hs h1) (jw hs h2), fun a q => I.out a (sub a q), I.live, fun j t e => ?_, I.tb⟩
  by_cases hj : i = j
  · subst hj
    rw [List.getElem?_set, if_pos rfl] at e
    split at e
    · rename_i hl
      cases e
      rw [List.getElem?_set, if_pos rfl, if_pos (by rw [← I.len]; exact hl)]
      exact h _ hm
    · cases e
  · rw [List.getElem?_set_ne hj] at e ⊢
    have q := I.slots j t e
    cases t with
    | un => trivial
    | dat d =>
      obtain ⟨v, e1, h1⟩ := q
      exact ⟨v, e1, Dp.same hm h1⟩
    | own ds =>
      obtain ⟨a, xs, e1, e2, h1⟩ := q
      exact ⟨a, xs, e1, e2, DpAll.same hm h1⟩
    | err a dd j => exact q
    | ownT a k ds =>
      obtain ⟨T, e1, h1⟩ := q
      exact ⟨T, e1, h1.same hm fun _ z => z⟩
    | pin a => exact q
    | ob k fs => exact kF.same hm q
    | wc a c =>
      obtain ⟨e1, u, e2, h1⟩ := q
      exact ⟨e1, u, e2, h1.same hm⟩
theorem DI.jx (I : DI K Cl Z H σ ρ) {i : Nat} {v : V} {d : DL.D} (h : Dp K (hide H (Zo Z σ ρ)) v d) : DI K Cl Z H (σ.set i (some v)) (ρ.set i (.dat d)) :=
  I.vby (fun z => nomatch z) fun Hs s => ⟨v, rfl, Dp.same s h⟩
theorem DI.vaq (I : DI K Cl Z H σ ρ) {i : Nat} {x : Option V} : DI K Cl Z H (σ.set i x) (ρ.set i .un) := I.vby (fun z => nomatch z) fun _ _ => trivial
theorem SI.jx (I : SI K Cl H0 Z H σ ρ) {i : Nat} {v : V} {d : DL.D} (h : Dp K (hide H (Zo Z σ ρ)) v d) : SI K Cl H0 Z H (σ.set i (some v)) (ρ.set i (.dat d)) :=
  ⟨I.di.jx h, I.same, fun a ⟨j, q⟩ => I.new a ⟨j, jw (s := .dat d) (fun z => nomatch z) q⟩⟩
theorem SI.vaq (I : SI K Cl H0 Z H σ ρ) {i : Nat} {x : Option V} : SI K Cl H0 Z H (σ.set i x) (ρ.set i .un) :=
  ⟨I.di.vaq, I.same, fun a ⟨j, q⟩ => I.new a ⟨j, jw (s := .un) (fun z => nomatch z) q⟩⟩
theorem xai {i : Nat} {p : Addr} {es : List DL.D} {j : Nat} {a : Addr} (h : zg (σ.set i (some (.ref p))) (ρ.set i (.own es)) j a) : (i = j ∧ a = p) ∨ (i ≠ j ∧ zg σ ρ j a) := by
  by_cases hj : i = j
  · subst hj
    rcases h with ⟨h1, ds, h2⟩ | ⟨k, ds, h2⟩ | ⟨c, h2⟩
    · rw [List.getElem?_set, if_pos rfl] at h1
      split at h1
      · cases h1
        exact .inl ⟨rfl, rfl⟩
      · cases h1
    · rw [List.getElem?_set, if_pos rfl] at h2
      split at h2
      · cases h2
      · cases h2
    · rw [List.getElem?_set, if_pos rfl] at h2
      split at h2
      · cases h2
      · cases h2
  · unfold zg at h
    rw [List.getElem?_set_ne hj, List.getElem?_set_ne hj] at h
    exact .inr ⟨hj, h⟩
theorem DI.kaD (I : DI K Cl Z H1 σ ρ) (s1 : Same Cl H1 H) {i : Nat} {p : Addr} {xs : List V} {ds : List DL.D} (np : H1 p = none) (hp : H p = some (.lst xs)) (h : DpAll K (hide H (ZP (Zo Z σ ρ) p)) xs ds) : DI K Cl Z H (σ.set i (some (.ref p))) (ρ.set i (.own ds)) := by
  have nz : ¬ Zo Z σ ρ p := fun z => I.yy z np
  have no : ∀ j, ¬ zg σ ρ j p := fun j q => nz (.inr ⟨j, q⟩)
  have sub : ∀ b, Zo Z (σ.set i (some (.ref p))) (ρ.set i (.own ds)) b → ZP (Zo Z σ ρ) p b := fun b hb => by
    rcases hb with hb | ⟨j, q⟩
    · exact .inl (.inl hb)
    · rcases xai q with ⟨_, e⟩ | ⟨_, q⟩
      · exact .inr e
      · exact .inl (.inr ⟨j, q⟩)
  have hm : yb (hide H (ZP (Zo Z σ ρ) p)) (hide H (Zo Z (σ.set i (some (.ref p))) (ρ.set i (.own ds)))) := jc (yb.refl _) fun b hb => .inl (sub b hb)
  have hm1 : yb (hide H1 (Zo Z σ ρ)) (hide H (Zo Z (σ.set i (some (.ref p))) (ρ.set i (.own ds)))) := kf s1 fun b hb => by
    rcases sub b hb with z | rfl
    · exact .inl z
    · exact .inr np
  have I' := I.same s1
  refine ⟨by rw [List.length_set, List.length_set]; exact I.len, fun j k a h1 h2 => ?_, fun a ⟨j, q⟩ => ?_, I'.live, fun j t e => ?_, I'.tb⟩
  · rcases xai h1 with ⟨e1, e2⟩ | ⟨n1, q1⟩
    · rcases xai h2 with ⟨e3, e4⟩ | ⟨n2, q2⟩
      · rw [← e1, ← e3]
      · rw [e2] at q2
        exact absurd q2 (no k)
    · rcases xai h2 with ⟨e3, e4⟩ | ⟨n2, q2⟩
      · rw [e4] at q1
        exact absurd q1 (no j)
      · exact I.one j k a q1 q2
  · rcases xai q with ⟨_, e⟩ | ⟨_, q⟩
    · rw [e]
      exact fun z => nz (.inl z)
    · exact I.out a ⟨j, q⟩
  · by_cases hj : i = j
    · subst hj
      rw [List.getElem?_set, if_pos rfl] at e
      split at e
      · rename_i hl
        cases e
        rw [List.getElem?_set, if_pos rfl, if_pos (by rw [← I.len]; exact hl)]
        exact ⟨p, xs, rfl, hp, DpAll.same hm h⟩
      · cases e
    · rw [List.getElem?_set_ne hj] at e ⊢
      have q := I.slots j t e
      cases t with
      | un => trivial
      | dat d =>
        obtain ⟨v, e1, h1⟩ := q
        exact ⟨v, e1, Dp.same hm1 h1⟩
      | own es =>
        obtain ⟨a, ys, e1, e2, h1⟩ := q
        exact ⟨a, ys, e1, s1.at e2, DpAll.same hm1 h1⟩
      | err a dd j => exact ⟨q.1, s1.at q.2⟩
      | ownT a k ds =>
        obtain ⟨T, e1, h1⟩ := q
        exact ⟨T, e1, h1.same hm1 fun _ z => s1.at z⟩
      | pin a => exact q
      | ob k fs => exact kF.same hm1 q
      | wc a c =>
        obtain ⟨e1, u, e2, h1⟩ := q
        exact ⟨e1, u, s1.wc h1 e2, h1.same hm1⟩
theorem SI.kaD (I : SI K Cl H0 Z H1 σ ρ) (s1 : Same Cl H1 H) {i : Nat} {p : Addr} {xs : List V} {ds : List DL.D} (np : H1 p = none) (hp : H p = some (.lst xs)) (h : DpAll K (hide H (ZP (Zo Z σ ρ) p)) xs ds) : SI K Cl H0 Z H (σ.set i (some (.ref p))) (ρ.set i (.own ds)) := by
  refine ⟨I.di.kaD s1 np hp h, I.same.trans s1, fun a ⟨j, q⟩ => ?_⟩
  rcases xai q with ⟨_, e⟩ | ⟨_, q⟩
  · rw [e]
    exact I.same.free np
  · exact I.new a ⟨j, q⟩
theorem SI.write (I : SI K Cl H0 Z H σ ρ) {i : Nat} {p : Addr} {xs : List V} {ds es : List DL.D} (hi : σ[i]? = some (some (.ref p))) (hr : ρ[i]? = some (.own es)) (h : DpAll K (hide H (Zo Z σ ρ)) xs ds) : SI K Cl H0 Z (upd H p (.lst xs)) σ (ρ.set i (.own ds)) := by
  have hil : i < ρ.length := (List.getElem?_eq_some_iff.mp hr).1
  have yB : ∀ j a, zg σ (ρ.set i (.own ds)) j a ↔ zg σ ρ j a := fun j a => by
    by_cases hj : i = j
    · subst hj
      constructor
      · rintro (⟨h1, _⟩ | ⟨k, d, h2⟩ | ⟨c, h2⟩)
        · exact .inl ⟨h1, es, hr⟩
        · rw [List.getElem?_set, if_pos rfl, if_pos hil] at h2
          cases h2
        · rw [List.getElem?_set, if_pos rfl, if_pos hil] at h2
          cases h2
      · rintro (⟨h1, _⟩ | ⟨k, d, h2⟩ | ⟨c, h2⟩)
        · exact .inl ⟨h1, ds, by rw [List.getElem?_set, if_pos rfl, if_pos hil]⟩
        · rw [hr] at h2
          cases h2
        · rw [hr] at h2
          cases h2
    · unfold zg
      rw [List.getElem?_set_ne hj]
  have jbb : ∀ b, Zo Z σ (ρ.set i (.own ds)) b ↔ Zo Z σ ρ b := fun b => by
    constructor
    · rintro (z | ⟨j, q⟩)
      · exact .inl z
      · exact .inr ⟨j, (yB j b).mp q⟩
    · rintro (z | ⟨j, q⟩)
      · exact .inl z
      · exact .inr ⟨j, (yB j b).mpr q⟩
  have hpo : vg σ ρ p := ⟨i, .inl ⟨hi, es, hr⟩⟩
  have hm : yb (hide H (Zo Z σ ρ)) (hide (upd H p (.lst xs)) (Zo Z σ (ρ.set i (.own ds)))) := fun b o e _ => by
    obtain ⟨n, e1⟩ := yf e
    have nb : b ≠ p := fun z => n (.inr (z ▸ hpo))
    exact vc (fun z => n ((jbb b).mp z)) (by rw [upd_ne nb]; exact e1)
  have live : ∀ a, H a ≠ none → upd H p (.lst xs) a ≠ none := fun a h z => by
    by_cases e : a = p
    · rw [e, upd_same] at z; cases z
    · rw [upd_ne e] at z; exact h z
  refine ⟨⟨by rw [List.length_set]; exact I.di.len, fun j k a h1 h2 => I.di.one j k a ((yB j a).mp h1) ((yB k a).mp h2), fun a ⟨j, q⟩ => I.di.out a ⟨j, (yB j a).mp q⟩, fun a z => live a (I.di.live a z), fun j t e => ?_, ?_⟩, ?_, fun a ⟨j, q⟩ => I.new a ⟨j, (yB j a).mp q⟩⟩
  · by_cases hj : i = j
    · subst hj
      rw [List.getElem?_set, if_pos rfl, if_pos hil] at e
      cases e
      exact ⟨p, xs, hi, upd_same, DpAll.same hm h⟩
    · rw [List.getElem?_set_ne hj] at e
      have q := I.di.slots j t e
      cases t with
      | un => trivial
      | dat d =>
        obtain ⟨v, e1, h1⟩ := q
        exact ⟨v, e1, Dp.same hm h1⟩
      | own gs =>
        obtain ⟨a, ys, e1, e2, h1⟩ := q
        have na : a ≠ p := fun z => hj (I.di.one i j p (.inl ⟨hi, es, hr⟩) (.inl ⟨by rw [← z]; exact e1, gs, e⟩))
        exact ⟨a, ys, e1, by rw [upd_ne na]; exact e2, DpAll.same hm h1⟩
      | err a dd j =>
        obtain ⟨p', xs', ep, hp', _⟩ := I.di.slots i _ hr
        rw [hi] at ep
        cases ep
        have nd : dd ≠ p := fun z => by
          have q2 := q.2
          rw [z, hp'] at q2
          cases q2
        exact ⟨q.1, by rw [upd_ne nd]; exact q.2⟩
      | ownT a k gs =>
        obtain ⟨T, e1, h1⟩ := q
        have na : a ≠ p := fun z => hj (I.di.one i j p (.inl ⟨hi, es, hr⟩) (.inr (.inl ⟨k, gs, by rw [← z]; exact e⟩)))
        exact ⟨T, e1, h1.same hm fun _ z => by rw [upd_ne na]; exact z⟩
      | pin a => exact q
      | ob k fs => 
        exact kF.same hm q
      | wc a c =>
        obtain ⟨e1, u, e2, h1⟩ := q
        have na : a ≠ p := fun z => hj (I.di.one i j p (.inl ⟨hi, es, hr⟩) (.inr (.inr ⟨c, by rw [← z]; exact e⟩)))
        exact ⟨e1, u, by rw [upd_ne na]; exact e2, h1.same hm⟩
  · obtain ⟨p', xs', ep, hp', _⟩ := I.di.slots i _ hr
    rw [hi] at ep
    cases ep
    exact I.di.tb.over hp'
  · obtain ⟨p', xs', ep, hp', _⟩ := I.di.slots i _ hr
    rw [hi] at ep
    cases ep
    exact I.same.over (I.new p hpo) hp'
end
section
variable {X : Cx} {Cl : Nat → Addr} {W : WX} {e e' : Expr} {f f' : FE} {st : Stmt} {sts sts' : List Stmt} {pos : Pos} {K : PySem.W.Frag}
@[simp] def sE (f : FE) (k : Val → FS) (ρ : ya) : Option Out := match f ρ with
  | none => none
  | some (.error e) => some (.exc ρ e.1 e.2)
  | some (.ok v) => k v ρ
theorem qI {H0 : Hp} {Z : Addr → Prop} {H : Hp} {σ : St} {ρ : ya} {D : Ends} {k : Val → FS} {o : Out} {Q1 : VK} (I : SI K Cl H0 Z H σ ρ) (h : sE f k ρ = some o) (q : z6 K Cl W H0 Z D o)
    (go : ∀ v x H1, f ρ = some (.ok v) → k v ρ = some o → Same Cl H H1 → zu K Z σ ρ H H1 x v → SI K Cl H0 Z H1 σ ρ → Q1 x H1) : kr K Cl W f σ H Q1 := by
  unfold sE at h
  cases e : f ρ with
  | none => rw [e] at h; cases h
  | some r1 =>
    rw [e] at h
    refine jt I.di e (fun er z => ?_) fun v x H1 ev s1 hv I1 => ?_
    · subst z
      cases h
      exact z6.err I q
    · subst ev
      exact go v x H1 e h s1 hv (I.jk s1)
@[simp] def zh (ρ : ya) : Option Out := some (.nx ρ)
@[simp] def ka (f g : FS) (ρ : ya) : Option Out := match f ρ with
  | some (.nx ρ') => g ρ'
  | r => r
theorem yu : xO X Cl W [] zh := PSs.imp pss_nil fun D σ H ⟨H0, Z, ρ, o, I, e, q⟩ => by cases e; exact q σ H I
theorem we {f : FS} (h : DS X Cl W st f) : xO X Cl W [st] f := pss_one h
theorem vd {f g : FS} (h1 : DS X Cl W st f) (h2 : xO X Cl W sts g) : xO X Cl W (st :: sts) (ka f g) := PSs.imp (pss_cons h1 h2) fun D σ H ⟨H0, Z, ρ, o, I, e, q⟩ => by
  unfold ka at e
  cases e1 : f ρ with
  | none => rw [e1] at e; cases e
  | some o1 =>
    rw [e1] at e
    refine ⟨H0, Z, ρ, o1, I, e1, ?_⟩
    cases o1 with
    | nx ρ' => exact fun σ' H' I' => ⟨H0, Z, ρ', o, I', e, q⟩
    | brk ρ' => cases e; exact q
    | ct ρ' => cases e; exact q
    | ret d => cases e; exact q
    | retF ds => cases e; exact q
    | retX ds k => cases e; exact q
    | exc ρ' c i => cases e; exact q
@[simp] def vc0 (ρ : ya) : Option Out := some (.brk ρ)
@[simp] def fCt (ρ : ya) : Option Out := some (.ct ρ)
theorem xbo : DS X Cl W (.Continue pos) fCt := PS.imp ps_continue fun D σ H ⟨H0, Z, ρ, o, I, e, q⟩ => by cases e; exact q σ H I
@[simp] def yav (i : Nat) (g : FS) (ρ : ya) : Option Out := match ρ[i]? with
  | some (.own ds) => g (ρ.set i (.dat (.list ds)))
  | _ => g ρ
theorem SI.share {H0 : Hp} {Z : Addr → Prop} {H : Hp} {σ : St} {ρ : ya} {i : Nat} {ds : List D} (I : SI K Cl H0 Z H σ ρ) (h : ρ[i]? = some (.own ds)) : SI K Cl H0 Z H σ (ρ.set i (.dat (.list ds))) := by
  obtain ⟨p, xs, e1, e2, h1⟩ := I.di.slots i _ h
  have sub : ∀ {j a}, zg σ (ρ.set i (.dat (.list ds))) j a → i ≠ j ∧ zg σ ρ j a := fun {j a} ho => by
    by_cases hj : i = j
    · subst hj
      obtain ⟨s, h2, h3⟩ := ho.slot
      rw [List.getElem?_set, if_pos rfl] at h2
      split at h2
      · cases h2
        cases h3
      · cases h2
    · unfold zg at ho
      rw [List.getElem?_set_ne hj] at ho
      exact ⟨hj, ho⟩
  have hm : yb (hide H (Zo Z σ ρ)) (hide H (Zo Z σ (ρ.set i (.dat (.list ds))))) := jc (yb.refl _) fun b hb => .inl (hb.elim .inl fun ⟨j, z⟩ => .inr ⟨j, (sub z).2⟩)
  have np : ¬ Zo Z σ (ρ.set i (.dat (.list ds))) p := fun z => z.elim (I.di.out p ⟨i, .inl ⟨e1, ds, h⟩⟩) fun ⟨j, z⟩ => (sub z).1 (I.di.one i j p (.inl ⟨e1, ds, h⟩) (sub z).2)
  refine ⟨⟨by rw [List.length_set]; exact I.di.len, fun j k a h1 h2 => I.di.one j k a (sub h1).2 (sub h2).2, fun a ⟨j, z⟩ => I.di.out a ⟨j, (sub z).2⟩, I.di.live, fun j t e => ?_, I.di.tb⟩, I.same, fun a ⟨j, z⟩ => I.new a ⟨j, (sub z).2⟩⟩
  by_cases hj : i = j
  · subst hj
    rw [List.getElem?_set, if_pos rfl] at e
    split at e
    · cases e
      exact ⟨_, e1, .lst (Rd.of (vc np e2)) (DpAll.same hm h1)⟩
    · cases e
  · rw [List.getElem?_set_ne hj] at e
    have q := I.di.slots j t e
    cases t with
    | un => trivial
    | dat d =>
      obtain ⟨v, e1, h1⟩ := q
      exact ⟨v, e1, Dp.same hm h1⟩
    | own gs =>
      obtain ⟨a, ys, e1, e2, h1⟩ := q
      exact ⟨a, ys, e1, e2, DpAll.same hm h1⟩
    | err a dd j => exact q
    | ownT a k gs =>
      obtain ⟨T, e1, h1⟩ := q
      exact ⟨T, e1, h1.same hm fun _ z => z⟩
    | pin a => exact q
    | ob k fs => exact kF.same hm q
    | wc a c =>
      obtain ⟨e1, u, e2, h1⟩ := q
      exact ⟨e1, u, e2, h1.same hm⟩
theorem vbI {i : Nat} {g : FS} (h : xO X Cl W sts g) : xO X Cl W sts (yav i g) := PSs.imp h fun D σ H ⟨H0, Z, ρ, o, I, e, q⟩ => by
  unfold yav at e
  split at e
  · rename_i ds hd
    exact ⟨H0, Z, _, o, I.share hd, e, q⟩
  · exact ⟨H0, Z, ρ, o, I, e, q⟩
def je (i : Nat) (f : FE) : FS := sE f fun v ρ => v.st.map fun d => .nx (ρ.set i (.dat d))
def yl (i : Nat) (f : FE) : FS := sE f fun v ρ => match v with
  | .f ds => some (.nx (ρ.set i (.own ds)))
  | _ => none
theorem ybb {i : Nat} {D : Ends} {σ : St} {H : Hp} (h : xas K Cl W (je i f) D σ H) : tAsg (kr K Cl W f) (gName i) D σ H := by
  obtain ⟨H0, Z, ρ, o, I, e, q⟩ := h
  refine qI I e q fun v x H1 _ h1 s1 hv I1 => ?_
  cases e1 : v.st with
  | none => rw [e1] at h1; cases h1
  | some d =>
    rw [e1] at h1
    cases h1
    exact q _ _ (I1.jx (hv.stab I.di e1))
theorem ybI {i : Nat} {D : Ends} {σ : St} {H : Hp} (h : xas K Cl W (yl i f) D σ H) : tAsg (kr K Cl W f) (gName i) D σ H := by
  obtain ⟨H0, Z, ρ, o, I, e, q⟩ := h
  refine qI I e q fun v x H1 _ h1 s1 hv I1 => ?_
  split at h1
  · cases h1
    obtain ⟨p, xs, rfl, n, e2, h2⟩ := hv
    exact q _ _ (I.kaD s1 n e2 h2)
  · cases h1
theorem xu {i : Nat} {x : Str} {pos' : Pos} (hN : X.N.Nodup) (he : DE X Cl W e f) (hi : X.N[i]? = some x := by rfl) (hx : Loc X.env.scope x := by first | exact .inl rfl | exact .inr rfl) (hs : swapsWith e (some (.Name x pos')) pos.line X.env = pure false := by rfl) (hf : X.fn x = true ∨ X.env.scope.names.lookup x = some .local := by first | exact .inl rfl | exact .inr rfl) :
    DS X Cl W (.Assign [.Name x pos'] e pos) (je i f) := PS.imp (ps_set hN hi hx he hs hf) fun D σ H h => ybb h
theorem y7 {i : Nat} {x : Str} {pos' : Pos} (hN : X.N.Nodup) (he : DE X Cl W e f) (hi : X.N[i]? = some x := by rfl) (hx : Loc X.env.scope x := by first | exact .inl rfl | exact .inr rfl) (hs : swapsWith e (some (.Name x pos')) pos.line X.env = pure false := by rfl) (hf : X.fn x = true ∨ X.env.scope.names.lookup x = some .local := by first | exact .inl rfl | exact .inr rfl) :
    DS X Cl W (.Assign [.Name x pos'] e pos) (yl i f) := PS.imp (ps_set hN hi hx he hs hf) fun D σ H h => ybI h
def jb0 (f : FE) : FS := sE f fun _ ρ => some (.nx ρ)
def zd (f : FE) : FS := sE f fun v _ => match v with
  | .s d => some (.ret d)
  | .m d => some (.ret d)
  | .b ds => some (.retF ds)
  | .f ds => some (.retF ds)
theorem jr (he : DE X Cl W e f) : DS X Cl W (.Return (some e) pos) (zd f) := PS.imp (ps_ret he) fun D σ H ⟨H0, Z, ρ, o, I, e, q⟩ => by
  refine qI I e q fun v x H1 _ h1 s1 hv I1 => ?_
  cases v with
  | s d => cases h1; exact q x H1 I1.same (Dp.same (jc (yb.refl _) fun _ h => .inl (.inl h)) hv)
  | m d => cases h1; exact q x H1 I1.same hv
  | b ds =>
    cases h1
    obtain ⟨p, xs, rfl, n, h2, h3⟩ := hv
    refine q p xs H1 I1.same (I.new p n) h2 (DpAll.same (jc (yb.refl _) fun b hb => .inl ?_) h3)
    rcases hb with hb | rfl
    · exact .inl hb
    · exact .inr n
  | f ds =>
    cases h1
    obtain ⟨p, xs, rfl, n, h2, h3⟩ := hv
    refine q p xs H1 I1.same (I.same.free n) h2 (DpAll.same (jc (yb.refl _) fun b hb => .inl ?_) h3)
    rcases hb with hb | rfl
    · exact .inl (.inl hb)
    · exact .inr rfl
@[simp] def wcY (ρ : ya) : Option Out := some (.ret .none)
@[simp] def qg (t : FT) (f g : FS) (ρ : ya) : Option Out := match t ρ with
  | none => none
  | some (.error e) => some (.exc ρ e.1 e.2)
  | some (.ok true) => f ρ
  | some (.ok false) => g ρ
theorem zx {c : Expr} {a b : List Stmt} {t : FT} {f g : FS} (hc : DT X Cl W c t) (ha : xO X Cl W a f) (hb : xO X Cl W b g) : DS X Cl W (.If c a b pos) (qg t f g) := PS.imp (ps_if hc ha hb) fun D σ H ⟨H0, Z, ρ, o, I, e, q⟩ => by
  unfold qg at e
  cases e1 : t ρ with
  | none => rw [e1] at e; cases e
  | some r1 =>
    refine qz I.di e1 (fun er z => ?_) fun b H1 ev s1 I1 => ?_
    · subst z
      rw [e1] at e
      cases e
      exact z6.err I q
    · subst ev
      rw [e1] at e
      cases b with
      | true =>
        rw [if_pos rfl]
        exact ⟨H0, Z, ρ, o, I.jk s1, e, q⟩
      | false =>
        rw [if_neg Bool.false_ne_true]
        exact ⟨H0, Z, ρ, o, I.jk s1, e, q⟩
@[simp] def zak (i : Nat) (g : Int → Int → Int) (f : FE) (ρ : ya) : Option Out := match ρ[i]? with
  | some (.dat (.int a)) => sE f (fun v ρ => match v.d with
    | .int b => some (.nx (ρ.set i (.dat (.int (g a b)))))
    | _ => none) ρ
  | _ => none
theorem xbb {i : Nat} {x : Str} {op : Operator} {g : Int → Int → Int} {pos' : Pos} (hN : X.N.Nodup) (he : DE X Cl W e f) (ho : PIp X op (ipI g)) (hi : X.N[i]? = some x := by rfl) (hx : Loc X.env.scope x := by first | exact .inl rfl | exact .inr rfl) (hf : X.fn x = true ∨ X.env.scope.names.lookup x = some .local := by first | exact .inl rfl | exact .inr rfl) :
    DS X Cl W (.AugAssign (.Name x pos') op e pos) (zak i g f) := PS.imp (ps_aug hN hi hx he ho hf) fun D σ H ⟨H0, Z, ρ, o, I, e, q⟩ => by
  unfold zak at e
  split at e
  · rename_i a ha
    obtain ⟨v, e1, h1⟩ := I.di.slots i _ ha
    have e2 := h1.int_inv
    subst e2
    refine ⟨_, e1, qI I e q fun v x H1 _ h1 s1 hv I1 => ?_⟩
    split at h1
    · rename_i b hb
      cases h1
      exact ⟨a, b, rfl, hv.int_inv I.di hb, q _ _ (I1.jx (.int _))⟩
    · cases h1
  · cases e
theorem kb9 {H0 : Hp} {Z : Addr → Prop} {H : Hp} {σ : St} {ρ : ya} {i : Nat} {ds : List D} (I : SI K Cl H0 Z H σ ρ) (h : ρ[i]? = some (.own ds)) : ∃ p xs, σ[i]? = some (some (.ref p)) ∧ H p = some (.lst xs) ∧ DpAll K (hide H (Zo Z σ ρ)) xs ds := I.di.slots i _ h
@[simp] def qat (i : Nat) (k : List D → FS) (ρ : ya) : Option Out := match ρ[i]? with
  | some (.own ds) => k ds ρ
  | _ => none
def zy (i : Nat) (f : FE) : FS := qat i fun ds => sE f fun v ρ => match v.st with
  | some d => if vj (ds.length + 1) = true then some (.nx (ρ.set i (.own (ds ++ [d])))) else none
  | none => none
theorem yaE {i : Nat} {c : Expr} (hp : PE X c (tBM X.K "list" rAppend (tVar i) (tCons (kr X.K Cl W f) tNil))) (hs : swapsWith c none pos.line X.env = pure false := by rfl) : DS X Cl W (.Expr c pos) (zy i f) := PS.imp (ps_expr hp hs) fun D σ H ⟨H0, Z, ρ, o, I, e, q⟩ => by
  unfold zy qat at e
  split at e
  · rename_i ds hd
    obtain ⟨p, xs, e1, e2, h1⟩ := kb9 I hd
    refine ⟨_, e1, .inl ⟨rfl, xs, .inl (.inl e2)⟩, qI I e q fun v x H1 _ h2 s1 hv I1 => ?_⟩
    split at h2
    · rename_i d vw
      split at h2
      · rename_i hl
        cases h2
        have h3 := DpAll.same (kf s1 fun _ h => .inl h) h1
        refine ⟨p, xs, x, rfl, rfl, s1.at e2, by have := js hl; rw [h1.length]; omega, ?_⟩
        exact q _ _ (I1.write e1 hd (h3.append (.cons (hv.stab I.di vw) .nil)))
      · cases h2
    · cases h2
  · cases e
def x7 (i : Nat) (f : FE) : FS := qat i fun ds => sE f fun v ρ => match v.items with
  | some es => if vj (ds.length + es.length) = true then some (.nx (ρ.set i (.own (ds ++ es)))) else none
  | none => none
def ycy (i : Nat) : FS := qat i fun ds ρ => if ds.isEmpty = true then none else some (.nx (ρ.set i (.own ds.dropLast)))
def xcy (i : Nat) (fk fe : FE) : FS := sE fe fun v => qat i fun ds => sE fk fun k ρ => match k.d, v.st with
  | .int j, some d => (ixN ds.length j).map fun n => .nx (ρ.set i (.own (ds.set n d)))
  | _, _ => none
theorem kbb {Z : Addr → Prop} {H : Hp} {σ : St} {ρ : ya} {i : Nat} {x : Option V} {d : D} : yb (hide H (Zo Z σ ρ)) (hide H (Zo Z (σ.set i x) (ρ.set i (.dat d)))) :=
  jc (yb.refl _) fun b hb => .inl (hb.elim .inl fun ⟨j, z⟩ => .inr ⟨j, jw (s := .dat d) (fun z => nomatch z) z⟩)
abbrev FG := D → ya → Option ya
def kcy (K : PySem.W.Frag) (Cl : Nat → Addr) (g : FG) : TG := fun v σ H Q => ∃ H0 Z ρ d ρ', SI K Cl H0 Z H σ ρ ∧ Dp K (hide H (Zo Z σ ρ)) v d ∧ g d ρ = some ρ' ∧ ∀ σ', SI K Cl H0 Z H σ' ρ' → Q σ' H
def DG (X : Cx) (Cl : Nat → Addr) (tg : Expr) (g : FG) : Prop := PG X tg (kcy X.K Cl g)
theorem PG.imp {tg : Expr} {t t' : TG} (h : PG X tg t) (i : ∀ v σ H Q, t' v σ H Q → t v σ H Q) : PG X tg t' := ⟨fun pins s σ H v u Q I r q => h.run pins s σ H v u Q I r (i v σ H Q q)⟩
def gN (i : Nat) : FG := fun d ρ => some (ρ.set i (.dat d))
theorem xR {i : Nat} {x : Str} (hN : X.N.Nodup) (hi : X.N[i]? = some x := by rfl) (hx : Loc X.env.scope x := by first | exact .inl rfl | exact .inr rfl) (hf : X.fn x = true ∨ X.env.scope.names.lookup x = some .local := by first | exact .inl rfl | exact .inr rfl) : DG X Cl (.Name x pos) (gN i) :=
  PG.imp (pg_name hN hi hx hf) fun v σ H Q ⟨H0, Z, ρ, d, ρ', I, h, e, q⟩ => by
    cases e
    exact q _ (I.jx h)
abbrev FGs := List D → ya → Option ya
def vcr (K : PySem.W.Frag) (Cl : Nat → Addr) (g : FGs) : TGs := fun vs σ H Q => ∃ H0 Z ρ ds ρ', SI K Cl H0 Z H σ ρ ∧ DpAll K (hide H (Zo Z σ ρ)) vs ds ∧ g ds ρ = some ρ' ∧ ∀ σ', SI K Cl H0 Z H σ' ρ' → Q σ' H
def DGs (X : Cx) (Cl : Nat → Addr) (tgs : List Expr) (g : FGs) : Prop := PGs X tgs (vcr X.K Cl g)
theorem PGs.imp {tg : List Expr} {t t' : TGs} (h : PGs X tg t) (i : ∀ v σ H Q, t' v σ H Q → t v σ H Q) : PGs X tg t' := ⟨fun pins s σ H v u Q I r q => h.run pins s σ H v u Q I r (i v σ H Q q)⟩
def ki : FGs := fun ds ρ => match ds with
  | [] => some ρ
  | _ => none
def xb (i : Nat) (g : FGs) : FGs := fun ds ρ => match ds with
  | d :: r => g r (ρ.set i (.dat d))
  | [] => none
theorem xW : DGs X Cl [] ki := PGs.imp pgs_nil fun vs σ H Q ⟨H0, Z, ρ, ds, ρ', I, h, e, q⟩ => by
  cases ds with
  | nil => cases e; cases h; exact ⟨rfl, q σ I⟩
  | cons _ _ => cases e
theorem vp {i : Nat} {x : Str} {g : FGs} {es : List Expr} (hN : X.N.Nodup) (hr : DGs X Cl es g) (hi : X.N[i]? = some x := by rfl) (hx : Loc X.env.scope x := by first | exact .inl rfl | exact .inr rfl) (hf : X.fn x = true ∨ X.env.scope.names.lookup x = some .local := by first | exact .inl rfl | exact .inr rfl)
    (hs : (assignEach (.Name x pos :: es) X.env).map (·.2) = assign (.Name x pos) X.env :: (assignEach es X.env).map (·.2) := by rfl) : DGs X Cl (.Name x pos :: es) (xb i g) :=
  PGs.imp (pgs_cons (pg_name hN hi hx hf) hr hs) fun vs σ H Q ⟨H0, Z, ρ, ds, ρ', I, h, e, q⟩ => by
    cases ds with
    | nil => cases e
    | cons d r =>
      cases h with
      | @cons v vr _ _ a b =>
        exact ⟨v, vr, rfl, ⟨H0, Z, ρ.set i (.dat d), r, ρ', I.jx a, DpAll.same kbb b, e, q⟩⟩
def gT (n : Nat) (g : FGs) : FG := fun d ρ => match d with
  | .tuple ds => if ds.length = n then g ds ρ else none
  | _ => none
theorem jad {es : List Expr} {k : Nat} {g : FGs} {n : Nat} (hc : X.calm = true) (h : DGs X Cl es g) (hn : (assignEach es X.env).length = n := by rfl) (vw : (assignEach es X.env).findIdx? (·.1) = none := by rfl) : DG X Cl (.Tuple es k pos) (gT n g) :=
  PG.imp (pg_tup hc h hn vw) fun v σ H Q ⟨H0, Z, ρ, d, ρ', I, hd, e, q⟩ => by
    unfold gT at e
    split at e
    · rename_i ds
      split at e
      · rename_i hl
        obtain ⟨a, xs, rfl, h1, h2⟩ := hd.wx
        exact ⟨a, xs, rfl, SqT.same qd h1, by rw [h2.length]; exact hl, ⟨H0, Z, ρ, ds, ρ', I, h2, e, q⟩⟩
      · cases e
    · cases e
end
abbrev FI := ya → Option (Except Er (List D))
def zbc (K : PySem.W.Frag) (Hs : Hp) (J : It) (ds : List D) : Prop := ∀ (Z' : Addr → Prop) (H' : Hp), yb Hs (hide H' Z') → (∀ b, Z' b → H' b ≠ none) →
  (∀ i, i < ds.length → J.go i H') ∧ (∀ i, ds.length ≤ i → J.stop i H') ∧ ∀ i x H'' d, J.yld i H' x H'' → ds[i]? = some d → (∀ Cl, Same Cl H' H'') ∧ Dp K (hide H'' Z') x d
def RIk (K : PySem.W.Frag) (Cl : Nat → Addr) (W : WX) (Z : Addr → Prop) (σ : St) (ρ : ya) (H : Hp) (R : It → Hp → Prop) : Except Er (List D) → Prop
  | .ok ds => ∀ J H1, Same Cl H H1 → zbc K (hide H1 (Zo Z σ ρ)) J ds → R J H1
  | .error e => yK Cl W σ H e
def zci (K : PySem.W.Frag) (Cl : Nat → Addr) (W : WX) (f : FI) : TI := fun σ H R => ∃ Z ρ r, DI K Cl Z H σ ρ ∧ f ρ = some r ∧ RIk K Cl W Z σ ρ H R r
def DIt (X : Cx) (Cl : Nat → Addr) (W : WX) (tg e : Expr) (f : FI) : Prop := PI X tg e (zci X.K Cl W f)
theorem PI.imp {X : Cx} {tg e : Expr} {t t' : TI} (h : PI X tg e t) (i : ∀ σ H Q, t' σ H Q → t σ H Q) : PI X tg e t' := ⟨fun pins s σ H Q I q => h.run pins s σ H Q I (i σ H Q q)⟩
theorem PI.or {X : Cx} {tg e : Expr} {t t' : TI} (h : PI X tg e t) (h' : PI X tg e t') : PI X tg e (fun σ H R => t σ H R ∨ t' σ H R) := ⟨fun pins s σ H Q I q => q.elim (h.run pins s σ H Q I) (h'.run pins s σ H Q I)⟩
section
variable {X : Cx} {Cl : Nat → Addr} {W : WX} {e tg : Expr} {es : List Expr} {f : FE} {g : FA} {p pos : Pos} {K : PySem.W.Frag}
def signs (x : Str) : List D := x.cps.toList.map fun c => .str ⟨#[c]⟩
@[simp] def jn (f : FE) (ρ : ya) : Option (Except Er (List D)) := match f ρ with
  | none => none
  | some (.error e) => some (.error e)
  | some (.ok v) => match v with
    | .s (.list ds) => some (.ok ds)
    | .s (.tuple ds) => some (.ok ds)
    | .s (.str x) => some (.ok (signs x))
    | .f ds => some (.ok ds)
    | _ => none
theorem xbt {Hs : Hp} {a : Addr} {xs : List V} {ds : List D} (h1 : Rd Hs a (.lst xs)) (h2 : DpAll K Hs xs ds) : zbc K Hs (Itl K a) ds := fun Z' H' s _ => by
  have q : SqL K H' a xs := .inl (Rd.same (s.trans qd) h1)
  refine ⟨fun i hi => ⟨xs, xs[i]'(by rw [h2.length]; exact hi), q, List.getElem?_eq_getElem _⟩, fun i hi => ⟨xs, q, by rw [h2.length]; exact hi⟩, fun i x H'' d y hd => ?_⟩
  obtain ⟨rfl, y⟩ := y
  obtain ⟨v, e1, e2⟩ := h2.get hd
  have e3 := y xs q
  rw [e1] at e3
  cases e3
  exact ⟨fun _ => Same.refl _, Dp.same s e2⟩
theorem jci {Hs : Hp} {a : Addr} {xs : List V} {ds : List D} (h1 : SqT K Hs a xs) (h2 : DpAll K Hs xs ds) : zbc K Hs (Itt K a) ds := fun Z' H' s _ => by
  have q : SqT K H' a xs := SqT.same (s.trans qd) h1
  refine ⟨fun i hi => ⟨xs, xs[i]'(by rw [h2.length]; exact hi), q, List.getElem?_eq_getElem _⟩, fun i hi => ⟨xs, q, by rw [h2.length]; exact hi⟩, fun i x H'' d y hd => ?_⟩
  obtain ⟨rfl, y⟩ := y
  obtain ⟨v, e1, e2⟩ := h2.get hd
  have e3 := y xs q
  rw [e1] at e3
  cases e3
  exact ⟨fun _ => Same.refl _, Dp.same s e2⟩
theorem wci {Hs : Hp} {x : Str} : zbc K Hs (Its x) (signs x) := fun Z' H' s _ => by
  have hl : (signs x).length = x.cps.size := by simp [signs]
  refine ⟨fun i hi => ?_, fun i hi => ?_, fun i v H'' d y hd => ?_⟩
  · rw [hl] at hi
    exact hi
  · rw [hl] at hi
    exact hi
  · obtain ⟨rfl, c, hc, rfl⟩ := y
    refine ⟨fun _ => Same.refl _, ?_⟩
    have e2 : (signs x)[i]? = some (.str ⟨#[c]⟩) := by
      unfold signs
      rw [List.getElem?_map, Array.getElem?_toList, hc]
      rfl
    rw [hd] at e2
    cases e2
    exact .str _
theorem jbc {Hs : Hp} {lo : Int} {n : Nat} : zbc K Hs (Itr lo n) ((List.range n).map fun (i : Nat) => .int (lo + (i : Int))) := fun Z' H' s _ => by
  refine ⟨fun i hi => (by simpa using hi : i < n), fun i hi => (by simpa using hi : n ≤ i), fun i v H'' d y hd => ?_⟩
  obtain ⟨rfl, rfl⟩ := y
  refine ⟨fun _ => Same.refl _, ?_⟩
  rw [List.getElem?_map] at hd
  cases e : (List.range n)[i]? with
  | none => rw [e] at hd; cases hd
  | some j =>
    rw [e] at hd
    obtain ⟨hi, e1⟩ := List.getElem?_eq_some_iff.mp e
    rw [List.getElem_range] at e1
    subst e1
    cases hd
    exact .int _
def kaH (ds : List D) : List D := ds.zipIdx.map fun p => .tuple [.int (p.2 : Int), p.1]
theorem jak (he : DE X Cl W e f) : DIt X Cl W tg e (jn f) := PI.imp (DL.PI.or (pi_list he) (DL.PI.or (pi_tup he) (pi_str he))) fun σ H R ⟨Z, ρ, r, I, e, q⟩ => by
  unfold jn at e
  cases e1 : f ρ with
  | none => rw [e1] at e; cases e
  | some r1 =>
    rw [e1] at e
    cases r1 with
    | error er =>
      cases e
      exact .inl ⟨Z, ρ, _, I, e1, q⟩
    | ok v =>
      dsimp only at e
      split at e
      · rename_i ds
        cases e
        refine .inl ⟨Z, ρ, _, I, e1, fun x H1 s hv => ?_⟩
        obtain ⟨a, xs, rfl, h1, h2⟩ := Dp.lst_inv (show Dp X.K (hide H1 (Zo Z σ ρ)) x (.list ds) from hv)
        exact ⟨a, rfl, ⟨xs, .inl (Rd.same qd h1)⟩, q _ H1 s (xbt h1 h2)⟩
      · rename_i ds
        cases e
        refine .inr (.inl ⟨Z, ρ, _, I, e1, fun x H1 s hv => ?_⟩)
        obtain ⟨a, xs, rfl, h1, h2⟩ := Dp.wx (show Dp X.K (hide H1 (Zo Z σ ρ)) x (.tuple ds) from hv)
        exact ⟨a, rfl, ⟨xs, SqT.same qd h1⟩, q _ H1 s (jci h1 h2)⟩
      · rename_i y
        cases e
        refine .inr (.inr ⟨Z, ρ, _, I, e1, fun x H1 s hv => ?_⟩)
        exact ⟨y, (show Dp X.K (hide H1 (Zo Z σ ρ)) x (.str y) from hv).str_inv, q _ H1 s wci⟩
      · rename_i ds
        cases e
        refine .inl ⟨Z, ρ, _, I, e1, fun x H1 s hv => ?_⟩
        obtain ⟨a, xs, rfl, n, h1, h2⟩ := hv
        have np : ¬ Zo Z σ ρ a := fun z => I.yy z n
        exact ⟨a, rfl, ⟨xs, SqL.of h1⟩, q _ H1 s (xbt (Rd.of (vc np h1)) (DpAll.same (jc (yb.refl _) fun _ h => .inl (.inl h)) h2))⟩
      · cases e
def vi (lo : Int) (n : Nat) : List D := (List.range n).map fun (i : Nat) => .int (lo + (i : Int))
def qY (j : Int) : Bool := decide (-(2 ^ 62) ≤ j) && decide (j < 2 ^ 62)
theorem waW {j : Int} (h : qY j = true) : -(2 ^ 62) ≤ j ∧ j < 2 ^ 62 := by
  simp only [qY, Bool.and_eq_true, decide_eq_true_eq] at h
  exact h
@[simp] def zz (g : FA) (ρ : ya) : Option (Except Er (List D)) := match g ρ with
  | none => none
  | some (.error e) => some (.error e)
  | some (.ok vs) => match vs with
    | [v] => match v.d with
      | .int j => if qY j = true then some (.ok (vi 0 j.toNat)) else none
      | _ => none
    | _ => none
@[simp] def kR (g : FA) (ρ : ya) : Option (Except Er (List D)) := match g ρ with
  | none => none
  | some (.error e) => some (.error e)
  | some (.ok vs) => match vs with
    | [v, u] => match v.d, u.d with
      | .int i, .int j => if (qY i && qY j) = true then some (.ok (vi i (j - i).toNat)) else none
      | _, _ => none
    | _ => none
theorem wad {a : Expr} (hm : X.mg "range" = none) (ha : DA X Cl W [a] g) (hg : Gl X "range" := by rfl) (hs : starEach [a] X.env = [(false, eval a X.env)] := by rfl) : DIt X Cl W tg (.Call (.Name "range" p) [a] [] pos) (zz g) :=
  PI.imp (pi_range1 hg hm ha hs) fun σ H R ⟨Z, ρ, r, I, e, q⟩ => by
    unfold zz at e
    cases e1 : g ρ with
    | none => rw [e1] at e; cases e
    | some r1 =>
      rw [e1] at e
      refine kH I e1 (fun er z => ?_) fun vs xs H1 ev s1 hvs I1 => ?_
      · subst z
        cases e
        exact q
      · subst ev
        dsimp only at e
        split at e
        · rename_i v
          obtain ⟨x, rfl, h⟩ := hvs.one
          split at e
          · rename_i j ej
            split at e
            · rename_i hc
              cases e
              obtain ⟨h1, h2⟩ := waW hc
              exact ⟨j, by rw [h.int_inv I ej], h1, h2, q _ H1 s1 jbc⟩
            · cases e
          · cases e
        · cases e
theorem va2 {a b : Expr} (hm : X.mg "range" = none) (ha : DA X Cl W [a, b] g) (hg : Gl X "range" := by rfl) (hs : starEach [a, b] X.env = [(false, eval a X.env), (false, eval b X.env)] := by rfl) (hs2 : starEach [b] X.env = [(false, eval b X.env)] := by rfl) :
    DIt X Cl W tg (.Call (.Name "range" p) [a, b] [] pos) (kR g) :=
  PI.imp (pi_range2 hg hm ha hs hs2) fun σ H R ⟨Z, ρ, r, I, e, q⟩ => by
    unfold kR at e
    cases e1 : g ρ with
    | none => rw [e1] at e; cases e
    | some r1 =>
      rw [e1] at e
      refine kH I e1 (fun er z => ?_) fun vs xs H1 ev s1 hvs I1 => ?_
      · subst z
        cases e
        exact q
      · subst ev
        dsimp only at e
        split at e
        · rename_i v u
          obtain ⟨x, y, rfl, h, h'⟩ := hvs.two
          split at e
          · rename_i i j ei ej
            split at e
            · rename_i hc
              cases e
              obtain ⟨c1, c2⟩ := Bool.and_eq_true_iff.mp hc
              obtain ⟨h1, h2⟩ := waW c1
              obtain ⟨h3, h4⟩ := waW c2
              exact ⟨i, j, by rw [h.int_inv I ei, h'.int_inv I ej], ⟨h1, h2, h3, h4⟩, q _ H1 s1 jbc⟩
            · cases e
          · cases e
        · cases e
@[simp] def ycK (g : FA) (ρ : ya) : Option (Except Er (List D)) := match g ρ with
  | none => none
  | some (.error e) => some (.error e)
  | some (.ok vs) => match vs with
    | [.s (.list ds)] => some (.ok (kaH ds))
    | [.f ds] => some (.ok (kaH ds))
    | _ => none
def forL (g : FG) (body : FS) : List D → FS
  | [], ρ => some (.nx ρ)
  | d :: ds, ρ => match g d ρ with
    | none => none
    | some ρ1 => match body ρ1 with
      | some (.nx ρ2) => forL g body ds ρ2
      | some (.ct ρ2) => forL g body ds ρ2
      | some (.brk ρ2) => some (.nx ρ2)
      | r => r
@[simp] def jm (it : FI) (g : FG) (body : FS) (ρ : ya) : Option Out := match it ρ with
  | none => none
  | some (.error e) => some (.exc ρ e.1 e.2)
  | some (.ok ds) => forL g body ds ρ
open Classical in
noncomputable def wi (H : Hp) (σ : St) (ρ : ya) : Hp := fun b => if vg σ ρ b then none else H b
theorem jaN {H : Hp} {σ : St} {ρ : ya} {b : Addr} {o : HO} (h : wi H σ ρ b = some o) : ¬ vg σ ρ b ∧ H b = some o := by
  unfold wi at h
  split at h
  · cases h
  · rename_i n
    exact ⟨n, h⟩
theorem qD {H : Hp} {σ : St} {ρ : ya} {b : Addr} {o : HO} (n : ¬ vg σ ρ b) (h : H b = some o) : wi H σ ρ b = some o := by
  unfold wi
  rw [if_neg n]
  exact h
theorem SI.based {H0 : Hp} {Z : Addr → Prop} {H : Hp} {σ : St} {ρ : ya} (I : SI K Cl H0 Z H σ ρ) : Same Cl H0 (wi H σ ρ) ∧ SI K Cl (wi H σ ρ) Z H σ ρ := by
  have nu : ∀ {b : Addr} {o : HO}, H b = some o → (∀ ys, o ≠ .lst ys) → ((∃ ps, o = .tbl ps) ∨ ∃ q, o = LamX.CodeO b q) → ¬ vg σ ρ b := fun {b o} e n n2 z => by
    have q : (∃ ys, H b = some (.lst ys)) ∨ ∃ u, H b = some u ∧ (∀ ps, u ≠ .tbl ps) ∧ ∀ q, u ≠ LamX.CodeO b q := by
      obtain ⟨i, ⟨h1, ds, h2⟩ | ⟨k, ds, h2⟩ | ⟨c, h2⟩⟩ := z
      · obtain ⟨p, xs, ep, hp, _⟩ := I.di.slots i _ h2
        rw [h1] at ep
        cases ep
        exact .inl ⟨xs, hp⟩
      · obtain ⟨T, _, ⟨xs, ys, es, _, _, _, _, hb, _⟩⟩ := I.di.slots i _ h2
        exact .inl ⟨ys, hb⟩
      · obtain ⟨_, u, hb, h⟩ := I.di.slots i _ h2
        exact .inr ⟨u, hb, h.nt⟩
    rcases q with ⟨ys, q⟩ | ⟨u, q, q1, q2⟩
    · rw [q] at e
      exact n ys (Option.some.inj e).symm
    · rw [q] at e
      cases e
      rcases n2 with ⟨ps, n2⟩ | ⟨r, n2⟩
      · exact q1 ps n2
      · exact q2 r n2
  have s1 : Same Cl H0 (wi H σ ρ) := by
    refine ⟨fun b o e n => qD (fun z => by rw [I.new b z] at e; cases e) (I.same.d b o e n), fun t q hq n => ?_, fun b e z => ?_, fun b o xs e => ?_⟩
    · obtain ⟨ps, h1, h2, h3⟩ := I.same.tb t q hq n
      refine ⟨ps, qD (nu h1 (fun _ z => by cases z) (.inl ⟨ps, rfl⟩)) h1, h2, fun pos cv hc => ?_⟩
      obtain ⟨c, e1, e2⟩ := h3 pos cv hc
      exact ⟨c, e1, qD (nu e2 (fun _ z => by unfold LamX.CodeO at z; cases z) (.inr ⟨_, rfl⟩)) e2⟩
    · have n : ¬ vg σ ρ b := fun z => e (I.new b z)
      unfold DL.wi at z
      rw [if_neg n] at z
      exact I.same.live b e z
    · exact I.same.nf b o xs (jaN e).2
  have s2 : Same Cl (wi H σ ρ) H := .of (fun b o e => (jaN e).2) fun b o xs e => qD (fun z => by
    obtain ⟨i, ⟨h1, ds, h2⟩ | ⟨k, ds, h2⟩ | ⟨c, h2⟩⟩ := z
    · obtain ⟨p, ys, ep, hp, _⟩ := I.di.slots i _ h2
      rw [h1] at ep
      cases ep
      rw [hp] at e
      cases e
    · obtain ⟨T, _, ⟨zs, ys, es, _, _, _, _, hb, _⟩⟩ := I.di.slots i _ h2
      rw [hb] at e
      cases e
    · obtain ⟨_, u, hb, h⟩ := I.di.slots i _ h2
      rw [hb] at e
      exact h.nfz _ _ (Option.some.inj e)) e
  refine ⟨s1, I.di, s2, fun a h => ?_⟩
  unfold DL.wi
  rw [if_pos h]
theorem SI.kept {Z : Addr → Prop} {H H' : Hp} {σ σ' : St} {ρ ρ' : ya} (I : SI K Cl (wi H σ ρ) Z H' σ' ρ') : yb (hide H (Zo Z σ ρ)) (hide H' (Zo Z σ' ρ')) := fun b o e nt => by
  obtain ⟨n, e1⟩ := yf e
  have e2 := qD (fun z => n (.inr z)) e1
  refine vc (fun z => z.elim (fun z => n (.inl z)) fun z => ?_) (I.same.d b o e2 nt)
  rw [I.new b z] at e2
  cases e2
theorem jY {it : FI} {g : FG} {body : List Stmt} {fb : FS} (hp : PassesOwn (model X.prog X.w) X.A X.env X.xe) (hc : X.calm = true) (hi : DIt X Cl W tg e it) (hg : DG X Cl tg g) (hb : xO X Cl W body fb)
    (hs : ∀ x, foldedSetIterable e X.env x = pure x := by intro _; rfl) : DS X Cl W (.For tg e body [] pos) (jm it g fb) := PS.imp (ps_for hp hc hi hg hb hs) fun D σ H ⟨H0, Z, ρ, o, I, e, q⟩ => by
  unfold jm at e
  cases e1 : it ρ with
  | none => rw [e1] at e; cases e
  | some r1 =>
    rw [e1] at e
    refine ⟨Z, ρ, r1, I.di, e1, ?_⟩
    cases r1 with
    | error er =>
      cases e
      exact z6.err I q
    | ok ds =>
      dsimp only at e
      intro J H1 s1 hJ
      have I1 := I.jk s1
      obtain ⟨b0, I2⟩ := I1.based
      have q2 := q.rebase b0
      refine ⟨fun i m σ' H' => ∃ ρ', SI X.K Cl (wi H1 σ ρ) Z H' σ' ρ' ∧ forL g fb (ds.drop i) ρ' = some o ∧ m = ds.length - i ∧ i ≤ ds.length, ⟨_, ρ, I2, e, rfl, Nat.zero_le _⟩, fun i m σ' H' => ?_⟩
      rintro ⟨ρ', I', e', rfl, hi⟩
      obtain ⟨go, stop, yld⟩ := hJ (Zo Z σ' ρ') H' I'.kept (fun b z => I'.di.yy z)
      by_cases hlt : i < ds.length
      · refine .inr ⟨go i hlt, fun σ3 H3 => ∃ ρ3, SI X.K Cl (wi H1 σ ρ) Z H3 σ3 ρ3 ∧ forL g fb (ds.drop (i + 1)) ρ3 = some o, fun σ3 H3 ⟨ρ3, I3, e3⟩ => ⟨ds.length - (i + 1), by omega, ρ3, I3, e3, rfl, hlt⟩, fun x H'' y => ?_⟩
        have hd : ds[i]? = some ds[i] := List.getElem?_eq_getElem hlt
        obtain ⟨s2, hx⟩ := yld i x H'' _ y hd
        rw [List.drop_eq_getElem_cons hlt] at e'
        unfold forL at e'
        cases eg : g ds[i] ρ' with
        | none => rw [eg] at e'; cases e'
        | some ρ1 =>
          rw [eg] at e'
          dsimp only at e'
          refine ⟨_, Z, ρ', ds[i], ρ1, I'.jk (s2 _), hx, eg, fun σ1 I1' => ?_⟩
          cases eb : fb ρ1 with
          | none => rw [eb] at e'; cases e'
          | some ob =>
            rw [eb] at e'
            refine ⟨_, Z, ρ1, ob, I1', eb, ?_⟩
            cases ob with
            | nx ρ2 => exact fun σ3 H3 I3 => ⟨ρ2, I3, e'⟩
            | ct ρ2 => exact fun σ3 H3 I3 => ⟨ρ2, I3, e'⟩
            | brk ρ2 => cases e'; exact fun σ3 H3 I3 => q2 σ3 H3 I3
            | ret d => cases e'; exact q2
            | retF ds => cases e'; exact q2
            | retX ds k => cases e'; exact q2
            | exc ρ2 c i => cases e'; exact q2
      · have hie : i = ds.length := by omega
        subst hie
        rw [List.drop_length] at e'
        cases e'
        exact .inl ⟨stop _ (Nat.le_refl _), q2 σ' H' I'⟩
def jy (t : FT) (body : FS) : Nat → FS
  | 0, _ => none
  | n + 1, ρ => match t ρ with
    | none => none
    | some (.error e) => some (.exc ρ e.1 e.2)
    | some (.ok false) => some (.nx ρ)
    | some (.ok true) => match body ρ with
      | some (.nx ρ2) => jy t body n ρ2
      | some (.ct ρ2) => jy t body n ρ2
      | some (.brk ρ2) => some (.nx ρ2)
      | r => r
theorem zat {t : FT} {body : FS} : ∀ {n : Nat} {ρ : ya} {o : Out} (m : Nat), jy t body n ρ = some o → n ≤ m → jy t body m ρ = some o
  | 0, _, _, _, h, _ => by cases h
  | n + 1, ρ, o, m, h, hm => by
    obtain ⟨k, rfl⟩ : ∃ k, m = k + 1 := ⟨m - 1, by omega⟩
    unfold jy at h ⊢
    cases e : t ρ with
    | none => rw [e] at h; cases h
    | some r =>
      rw [e] at h
      cases r with
      | error er => exact h
      | ok b =>
        cases b with
        | false => exact h
        | true =>
          dsimp only at h ⊢
          cases eb : body ρ with
          | none => rw [eb] at h; cases h
          | some ob =>
            rw [eb] at h
            cases ob with
            | nx ρ2 => exact zat k h (by omega)
            | ct ρ2 => exact zat k h (by omega)
            | brk ρ2 => exact h
            | ret d => exact h
            | retF ds => exact h
            | retX ds k => exact h
            | exc ρ2 c i => exact h
def fuel : Nat := 2 ^ 64
def wak (t : FT) (body : FS) : FS := jy t body fuel
theorem wbc {c : Expr} {t : FT} {body : List Stmt} {fb : FS} (hp : PassesOwn (model X.prog X.w) X.A X.env X.xe) (hc : DT X Cl W c t) (hb : xO X Cl W body fb) : DS X Cl W (.While c body [] pos) (wak t fb) := PS.imp (ps_while hp hc hb) fun D σ H ⟨H0, Z, ρ, o, I, e, q⟩ => by
  refine ⟨fun m σ' H' => ∃ ρ', SI X.K Cl H0 Z H' σ' ρ' ∧ jy t fb m ρ' = some o, ⟨fuel, ρ, I, e⟩, fun m σ' H' => ?_⟩
  rintro ⟨ρ', I', e'⟩
  cases m with
  | zero => cases e'
  | succ n =>
    unfold jy at e'
    cases et : t ρ' with
    | none => rw [et] at e'; cases e'
    | some r1 =>
      rw [et] at e'
      refine qz I'.di et (fun er z => ?_) fun b H1 ev s1 I1 => ?_
      · subst z
        cases e'
        exact z6.err I' q
      · subst ev
        cases b with
        | false =>
          rw [if_neg Bool.false_ne_true]
          cases e'
          exact q σ' H1 (I'.jk s1)
        | true =>
          rw [if_pos rfl]
          dsimp only at e'
          refine ⟨fun σ3 H3 => ∃ ρ3, SI X.K Cl H0 Z H3 σ3 ρ3 ∧ jy t fb n ρ3 = some o, fun σ3 H3 h => ⟨n, Nat.lt_succ_self n, h⟩, ?_⟩
          cases eb : fb ρ' with
          | none => rw [eb] at e'; cases e'
          | some ob =>
            rw [eb] at e'
            refine ⟨H0, Z, ρ', ob, I'.jk s1, eb, ?_⟩
            cases ob with
            | nx ρ2 => exact fun σ3 H3 I3 => ⟨ρ2, I3, e'⟩
            | ct ρ2 => exact fun σ3 H3 I3 => ⟨ρ2, I3, e'⟩
            | brk ρ2 => cases e'; exact fun σ3 H3 I3 => q σ3 H3 I3
            | ret d => cases e'; exact q
            | retF ds => cases e'; exact q
            | retX ds k => cases e'; exact q
            | exc ρ2 c i => cases e'; exact q
inductive zbz where
  | ret (d : D) | retF (ds : List D) | retX (ds : List D) (k : Nat) | exc (c : Nat) (i : Int)
abbrev DF := List D → Option zbz
def DOk (K : PySem.W.Frag) (Cl : Nat → Addr) (Z : Addr → Prop) (H : Hp) (Q : VK) (E : XK) : zbz → Prop
  | .ret d => ∀ v H', Same Cl H H' → Dp K (hide H' Z) v d → Q v H'
  | .retF ds => ∀ p xs H', Same Cl H H' → H p = none → H' p = some (.lst xs) → DpAll K (hide H' (ZP Z p)) xs ds → Q (.ref p) H'
  | .retX ds k => ∀ T p xs ys H', Same Cl H H' → SqT K (hide H' Z) T xs → DpAll K (hide H' Z) xs ds → xs[k]? = some (.ref p) → H p = none → H' p = some (.lst ys) → Q (.ref T) H'
  | .exc c i => ∀ dd H', Same Cl H H' → H' dd = some (.xd [(("at" : Str), .int i)]) → E (.ref (Cl c)) (some dd) H'
structure waz (Cl : Nat → Addr) (Z : Addr → Prop) (H : Hp) : Prop where
  lv : ∀ b, Z b → H b ≠ none
  tb : xX Cl H
def xH (K : PySem.W.Frag) (Cl : Nat → Addr) (n : Nat) (F : DF) : Sp := fun vs H Q E => ∃ Z ds o, waz Cl Z H ∧ DpAll K (hide H Z) vs ds ∧ ds.length = n ∧ F ds = some o ∧ DOk K Cl Z H Q E o
def qj (n k : Nat) (f : FS) : DF := fun ds => match f (ds.map .dat ++ List.replicate (k - n) .un) with
  | some (.nx _) => some (.ret .none)
  | some (.ret d) => some (.ret d)
  | some (.retF ds) => some (.retF ds)
  | some (.retX ds k) => some (.retX ds k)
  | some (.exc _ c i) => some (.exc c i)
  | _ => none
theorem vba {σ : St} {ds : List D} {m i : Nat} {a : Addr} (ho : zg σ (ds.map .dat ++ List.replicate m .un) i a) : False := by
  obtain ⟨s, h2, h3⟩ := ho.slot
  rw [List.getElem?_append] at h2
  split at h2
  · rw [List.getElem?_map] at h2
    cases e : ds[i]? with
    | none => rw [e] at h2; cases h2
    | some d => rw [e] at h2; cases h2; cases h3
  · rw [List.getElem?_replicate] at h2
    split at h2
    · cases h2; cases h3
    · cases h2
theorem DI.start {Z : Addr → Prop} {H : Hp} {vs : List V} {ds : List D} {m : Nat} (live : waz Cl Z H) (h : DpAll K (hide H Z) vs ds) : DI K Cl Z H (vs.map some ++ List.replicate m none) (ds.map .dat ++ List.replicate m .un) := by
  have no : ∀ i a, ¬ zg (vs.map some ++ List.replicate m none) (ds.map .dat ++ List.replicate m .un) i a := fun i a ho => vba ho
  have hl := h.length
  refine ⟨by simp [hl], fun i j a h1 => absurd h1 (no i a), fun a ⟨i, z⟩ => absurd z (no i a), live.lv, fun i s e => ?_, live.tb⟩
  have hm : yb (hide H Z) (hide H (Zo Z (vs.map some ++ List.replicate m none) (ds.map .dat ++ List.replicate m .un))) := jc (yb.refl _) fun b hb => .inl (hb.elim id fun ⟨j, z⟩ => absurd z (no j b))
  rw [List.getElem?_append] at e
  split at e
  · rename_i hi
    rw [List.length_map] at hi
    rw [List.getElem?_map] at e
    cases e1 : ds[i]? with
    | none => rw [e1] at e; cases e
    | some d =>
      rw [e1] at e
      cases e
      obtain ⟨v, e2, e3⟩ := h.get e1
      refine ⟨v, ?_, Dp.same hm e3⟩
      rw [List.getElem?_append_left (by rw [List.length_map, hl]; exact hi), List.getElem?_map, e2]
      rfl
  · rw [List.getElem?_replicate] at e
    split at e
    · cases e; trivial
    · cases e
theorem xF {P : Program} {w : World} {mg : Str → Option Value} {base : Heap} {x qual : Str} {st : Stmt} {fa : Addr} {fd : FuncData} {N ps : List Str} {k n m : Nat} {fb : FS} (F : Fun K x qual st fa fd) (S : FnScope N ps (defScope st)) (hn : ps.length = n) (hm : N.length = m)
    (h : ∀ (cdv : Value) (A : Around) (outer : List Env) (s : Shared) (H : Hp) (E : XK), Room k (A.deeper (envOfC qual (defScope st) s.heap.objs.size fa cdv)) →
      xO (cxOf (L2.CX P w) P w K mg base N qual (defScope st) fa cdv A outer s H E) Cl (fun cls d _ H' => E cls d H') (defBody st) fb) : FnOk P w K mg base (L2.CX P w) (k + 1) fa fd ps (xH K Cl n (qj n m fb)) := by
  refine F.okX S (fun vs H Q E ⟨Z, ds, o, _, h1, h2, _⟩ => by rw [h1.length, h2, hn]) (fun cdv A outer s H vs Q E hr hsp => ⟨_, h cdv A outer s H E hr, ?_⟩)
  obtain ⟨Z, ds, o, live, h1, h2, e, q⟩ := hsp
  unfold qj at e
  have vw : L2.start N vs = vs.map some ++ List.replicate (m - n) none := by
    unfold L2.start
    rw [hm, h1.length, h2]
  rw [vw]
  cases eb : fb (ds.map .dat ++ List.replicate (m - n) .un) with
  | none => rw [eb] at e; cases e
  | some ob =>
    rw [eb] at e
    have I := DI.start (m := m - n) live h1
    have noO : ∀ a, vg (vs.map some ++ List.replicate (m - n) none) (ds.map .dat ++ List.replicate (m - n) .un) a → H a = none := fun a ⟨i, ho⟩ => (vba ho).elim
    refine ⟨H, Z, _, ob, ⟨I, Same.refl _, noO⟩, eb, ?_⟩
    cases ob with
    | nx ρ => cases e; exact fun σ' H' I' => q .non H' I'.same .non
    | ret d => cases e; exact q
    | retF es => cases e; exact q
    | retX ds k => cases e; exact q
    | exc ρ c i => cases e; exact fun dd σ' H' I' hd => q dd H' I'.same hd
    | brk ρ => cases e
    | ct ρ => cases e
@[simp] def jb (F : DF) (n : Nat) (g : FA) (ρ : ya) : Option (Except Er Val) := match g ρ with
  | none => none
  | some (.error e) => some (.error e)
  | some (.ok vs) => if vs.length = n then match F (vs.map Val.d) with
    | none => none
    | some (.exc c i) => some (.error (c, i))
    | some (.ret d) => match km vs with
      | some _ => some (.ok (.s d))
      | none => some (.ok (.m d))
    | some (.retX ds _) => match km vs with
      | some _ => some (.ok (.s (.tuple ds)))
      | none => some (.ok (.m (.tuple ds)))
    | some (.retF ds) => match km vs with
      | some _ => some (.ok (.f ds))
      | none => if ds.all wj = true then some (.ok (.f ds)) else some (.ok (.m (.list ds))) else none
theorem yai : ∀ {vs : List Val} {ds : List D}, km vs = some ds → vs.map Val.d = ds
  | [], _, e => by cases e; rfl
  | v :: vs, ds, e => by
    simp only [km] at e
    split at e
    · rename_i d es e1 e2
      cases e
      rw [List.map_cons, yai e2]
      congr 1
      cases v with
      | s d' => cases e1; rfl
      | m d' =>
        simp only [Val.st] at e1
        split at e1
        · cases e1; rfl
        · cases e1
      | b ds => cases e1
      | f ds => cases e1; rfl
    · cases e
theorem qi {n k : Nat} {F : DF} {fa : Addr} {fd : FuncData} {ps : List Str} {x : Str} (G : FnOk X.prog X.w X.K X.mg X.base (L2.CX X.prog X.w) k fa fd ps (xH X.K Cl n F)) (tk : Takes X W) (hr : Room k X.A) (hm : X.mg x = some (.ref fa)) (hk : PySem.W.keepIn X.K (.ref fa) = true) (hb : Binds X.K fd ps [])
    (ha : DA X Cl W (e :: es) g) (hg : Gl X x := by rfl) (hdb : (x == ("__debug__" : Str)) = false := by decide) (he : starEach (e :: es) X.env = (false, eval e X.env) :: starEach es X.env := by rfl) (hpl : (backTo pos (starEach es X.env)).any (·.1) = false := by rfl) :
    DE X Cl W (.Call (.Name x p) (e :: es) [] pos) (jb F n g) := PE.imp (pe_callS (E := WE W) G hr hg hm hk hb (fun σ => passAt tk σ) ha hdb he hpl) fun σ H Q ⟨Z, ρ, r, I, e, q⟩ => by
  unfold jb at e
  cases e1 : g ρ with
  | none => rw [e1] at e; cases e
  | some r1 =>
    rw [e1] at e
    refine kH I e1 (fun er z => ?_) fun vs xs H1 ev s1 hvs I1 => ?_
    · subst z
      cases e
      exact q
    · subst ev
      dsimp only at e
      split at e
      · rename_i hn
        cases eF : F (vs.map Val.d) with
        | none => rw [eF] at e; cases e
        | some o =>
          rw [eF] at e
          cases es : km vs with
          | some ds =>
            have ed := yai es
            refine ⟨Zo Z σ ρ, ds, o, ⟨fun b z => I1.yy z, I1.tb⟩, hvs.stab I es, by rw [waD es]; exact hn, by rw [← ed]; exact eF, ?_⟩
            cases o with
            | exc c i => cases e; exact fun dd H' s hd => q dd H' (s1.trans s) hd
            | ret d =>
              rw [es] at e
              cases e
              exact fun v H' s hd => q v H' (s1.trans s) hd
            | retX gs k =>
              rw [es] at e
              cases e
              exact fun T p xs ys H' s h1 h2 _ _ _ => q _ H' (s1.trans s) (.tup h1 h2)
            | retF gs =>
              rw [es] at e
              cases e
              exact fun p xs H' s n h2 h3 => q _ H' (s1.trans s) ⟨p, xs, rfl, s1.free n, h2, h3⟩
          | none =>
            refine ⟨Z, vs.map Val.d, o, ⟨fun b z => I1.live b z, I1.tb⟩, hvs.dp I, by rw [List.length_map]; exact hn, eF, ?_⟩
            cases o with
            | exc c i => cases e; exact fun dd H' s hd => q dd H' (s1.trans s) hd
            | ret d =>
              rw [es] at e
              cases e
              exact fun v H' s hd => q v H' (s1.trans s) hd
            | retX gs k =>
              rw [es] at e
              cases e
              exact fun T p xs ys H' s h1 h2 _ _ _ => q _ H' (s1.trans s) (.tup h1 h2)
            | retF gs =>
              rw [es] at e
              dsimp only at e
              split at e
              · rename_i sc
                cases e
                exact fun p xs H' s n h2 h3 => q _ H' (s1.trans s) ⟨p, xs, rfl, s1.free n, h2, DpAll.scalar sc h3⟩
              · cases e
                intro p xs H' s n h2 h3
                have np : ¬ Z p := fun z => I1.live p z n
                exact q _ H' (s1.trans s) (.lst (Rd.of (vc np h2)) (DpAll.same (jc (yb.refl _) fun _ h => .inl (.inl h)) h3))
      · cases e
end
section
variable {X : Cx} {Cl : Nat → Addr} {W : WX} {K : PySem.W.Frag}
abbrev W0 : WX := fun _ _ _ _ => False
@[simp] def noOwn (ρ : ya) (vs : List Nat) : Bool := vs.all fun v => match ρ[v]? with
  | some (.own _) => false
  | some (.ownT _ _ _) => false
  | some (.wc _ _) => false
  | _ => true
@[simp] def vm (ρ : ya) : List Nat → ya
  | [] => ρ
  | v :: vs => (vm ρ vs).set v .un
def lcL (tt : FT) (fe : FE) (st : D → Option ya) : List D → Option (List D)
  | [] => some []
  | d :: r => match st d with
    | none => none
    | some ρ => match tt ρ with
      | some (.ok true) => match fe ρ with
        | some (.ok v) => match v.st with
          | some y => (lcL tt fe st r).map (y :: ·)
          | none => none
        | _ => none
      | some (.ok false) => lcL tt fe st r
      | _ => none
@[simp] def jI (vs : List Nat) (st : ya → D → Option ya) (it : FI) (tt : FT) (fe : FE) (ρ : ya) : Option (Except Er Val) := if noOwn ρ vs = true then match it ρ with
  | none => none
  | some (.error e) => some (.error e)
  | some (.ok ds) => match lcL tt fe (st (vm ρ vs)) ds with
    | some es => if vj es.length = true then some (.ok (.f es)) else none
    | none => none else none
theorem q8 {σ : St} {ρ : ya} {i : Nat} {a : Addr} : ∀ {vs : List Nat}, zg (wipe σ vs) (vm ρ vs) i a → i ∉ vs ∧ zg σ ρ i a
  | [], h => ⟨by simp, h⟩
  | v :: vs, h => by
    unfold wipe vm at h
    have q := q8 (jw (s := .un) (fun z => nomatch z) h)
    refine ⟨fun m => ?_, q.2⟩
    rcases List.mem_cons.mp m with e | m
    · subst e
      obtain ⟨s, h2, h3⟩ := h.slot
      rw [List.getElem?_set, if_pos rfl] at h2
      split at h2
      · cases h2; cases h3
      · cases h2
    · exact q.1 m
theorem xaE {ρ : ya} {i : Nat} : ∀ {vs : List Nat}, i ∉ vs → (vm ρ vs)[i]? = ρ[i]?
  | [], _ => rfl
  | v :: vs, h => by
    have h1 : v ≠ i := fun e => h (by rw [e]; exact List.mem_cons_self)
    unfold vm
    rw [List.getElem?_set_ne h1]
    exact xaE fun m => h (List.mem_cons_of_mem _ m)
theorem kaE {σ : St} {i : Nat} : ∀ {vs : List Nat}, i ∉ vs → (wipe σ vs)[i]? = σ[i]?
  | [], _ => rfl
  | v :: vs, h => by
    have h1 : v ≠ i := fun e => h (by rw [e]; exact List.mem_cons_self)
    unfold wipe
    rw [List.getElem?_set_ne h1]
    exact kaE fun m => h (List.mem_cons_of_mem _ m)
theorem qaF (ρ : ya) : ∀ vs : List Nat, (vm ρ vs).length = ρ.length
  | [] => rfl
  | v :: vs => by unfold vm; rw [List.length_set, qaF ρ vs]
theorem wbz {σ : St} {ρ : ya} {i : Nat} {a : Addr} {vs : List Nat} (h : noOwn ρ vs = true) (o : zg σ ρ i a) : zg (wipe σ vs) (vm ρ vs) i a := by
  have hn : i ∉ vs := fun m => by
    have q := List.all_eq_true.mp h i m
    rcases o with ⟨_, es, h2⟩ | ⟨_, es, h2⟩ | ⟨_, h2⟩
    · rw [h2] at q
      cases q
    · rw [h2] at q
      cases q
    · rw [h2] at q
      cases q
  unfold zg at o ⊢
  rw [kaE hn, xaE hn]
  exact o
theorem DI.blk {Z : Addr → Prop} {H1 H : Hp} {σ : St} {ρ : ya} {vs : List Nat} {L : Addr} {acc : List V} (I : DI K Cl Z H1 σ ρ) (hn : noOwn ρ vs = true) (s : Same Cl H1 H) (nL : H1 L = none) (hL : H L = some (.lst acc)) : DI K Cl (ZP Z L) H (wipe σ vs) (vm ρ vs) := by
  have I' := I.same s
  have hm : yb (hide H1 (Zo Z σ ρ)) (hide H (Zo (ZP Z L) (wipe σ vs) (vm ρ vs))) := kf s fun b hb => by
    rcases hb with (hb | rfl) | ⟨j, q⟩
    · exact .inl (.inl hb)
    · exact .inr nL
    · exact .inl (.inr ⟨j, (q8 q).2⟩)
  refine ⟨by rw [qaF, wipe_length]; exact I.len, fun i j a h1 h2 => I.one i j a (q8 h1).2 (q8 h2).2, fun a ⟨j, q⟩ z => ?_, fun a z => ?_, fun i t e => ?_, I'.tb⟩
  · have q2 := (q8 q).2
    rcases z with z | rfl
    · exact I.out a ⟨j, q2⟩ z
    · exact I.jay ⟨j, q2⟩ nL
  · rcases z with z | rfl
    · exact I'.live a z
    · rw [hL]
      intro z; cases z
  · by_cases hi : i ∈ vs
    · have q : ∀ {vs : List Nat}, i ∈ vs → (vm ρ vs)[i]? = some t → t = .un := by
        intro vs
        induction vs with
        | nil => intro m; cases m
        | cons v vs ih =>
          intro m e
          unfold vm at e
          by_cases hv : v = i
          · subst hv
            rw [List.getElem?_set, if_pos rfl] at e
            split at e
            · exact (Option.some.inj e).symm
            · cases e
          · rw [List.getElem?_set_ne hv] at e
            rcases List.mem_cons.mp m with z | m
            · exact absurd z.symm hv
            · exact ih m e
      rw [q hi e]
      trivial
    · rw [xaE hi] at e
      rw [kaE hi]
      have q := I.slots i t e
      cases t with
      | un => trivial
      | dat d =>
        obtain ⟨v, e1, h1⟩ := q
        exact ⟨v, e1, Dp.same hm h1⟩
      | own ds =>
        obtain ⟨a, xs, e1, e2, h1⟩ := q
        exact ⟨a, xs, e1, s.at e2, DpAll.same hm h1⟩
      | err a dd j => exact ⟨q.1, s.at q.2⟩
      | ownT a k gs =>
        obtain ⟨T, e1, h1⟩ := q
        exact ⟨T, e1, h1.same hm fun _ z => s.at z⟩
      | pin a => exact q
      | ob k fs => exact kF.same hm q
      | wc a c =>
        obtain ⟨e1, u, e2, h1⟩ := q
        exact ⟨e1, u, s.wc h1 e2, h1.same hm⟩
structure LcT (K : PySem.W.Frag) (vs : List Nat) (g : TG) (st : ya → D → Option ya) : Prop where
  go : ∀ (Cl : Nat → Addr) (Z : Addr → Prop) (σ : St) (ρ ρ' : ya) (H : Hp) (v : V) (d : D) (Q : St → Hp → Prop), DI K Cl Z H (wipe σ vs) (vm ρ vs) → Dp K (hide H (Zo Z (wipe σ vs) (vm ρ vs))) v d → st (vm ρ vs) d = some ρ' →
    (∀ σ', wipe σ' vs = wipe σ vs → DI K Cl Z H σ' ρ' → yb (hide H (Zo Z (wipe σ vs) (vm ρ vs))) (hide H (Zo Z σ' ρ')) → (∀ b, Zo Z (wipe σ vs) (vm ρ vs) b → Zo Z σ' ρ' b) → Q σ' H) → g v (wipe σ vs) H Q
theorem kbt {vs : List Nat} {g : TG} {st : ya → D → Option ya} {it : FI} {tt : FT} {fe : FE} {σ : St} {H : Hp} {Q : VK} (T : LcT K vs g st) (h : kr K Cl W (jI vs st it tt fe) σ H Q) : tLc (zci K Cl W it) g (kas K Cl W0 tt) (kr K Cl W0 fe) vs σ H Q := by
  obtain ⟨Z, ρ, r, I, e, q⟩ := h
  unfold jI at e
  split at e
  · rename_i hno
    cases e1 : it ρ with
    | none => rw [e1] at e; cases e
    | some r1 =>
      rw [e1] at e
      refine ⟨Z, ρ, r1, I, e1, ?_⟩
      cases r1 with
      | error er => cases e; exact q
      | ok ds =>
        dsimp only at e
        intro J H1 s1 hJ L nL
        have I1 := I.same s1
        cases e2 : lcL tt fe (st (vm ρ vs)) ds with
        | none => rw [e2] at e; cases e
        | some es =>
          rw [e2] at e
          dsimp only at e
          split at e
          · rename_i hline
            cases e
            have hln := js hline
            refine ⟨fun i m H' => ∃ acc as rest, H' L = some (.lst acc) ∧ Same Cl H1 H' ∧ DpAll K (hide H' (ZP (Zo Z σ ρ) L)) acc as ∧ lcL tt fe (st (vm ρ vs)) (ds.drop i) = some rest ∧ as ++ rest = es ∧ m = ds.length - i ∧ i ≤ ds.length,
              ⟨_, [], [], es, upd_same, zl nL, .nil, e2, rfl, rfl, Nat.zero_le _⟩, fun i m H' => ?_⟩
            rintro ⟨acc, as, rest, hL, s2, hacc, er, ea, rfl, hi⟩
            have hk : yb (hide H1 (Zo Z σ ρ)) (hide H' (ZP (Zo Z σ ρ) L)) := kf s2 fun b hb => by
              rcases hb with hb | rfl
              · exact .inl hb
              · exact .inr nL
            have hlive : ∀ b, ZP (Zo Z σ ρ) L b → H' b ≠ none := fun b hb => by
              rcases hb with hb | rfl
              · exact (I1.same s2).yy hb
              · rw [hL]; intro z; cases z
            obtain ⟨go, stop, yld⟩ := hJ (ZP (Zo Z σ ρ) L) H' hk hlive
            by_cases hlt : i < ds.length
            · refine .inr ⟨go i hlt, fun H3 => ∃ acc as rest, H3 L = some (.lst acc) ∧ Same Cl H1 H3 ∧ DpAll K (hide H3 (ZP (Zo Z σ ρ) L)) acc as ∧ lcL tt fe (st (vm ρ vs)) (ds.drop (i + 1)) = some rest ∧ as ++ rest = es,
                fun H3 ⟨acc, as, rest, b1, b2, b3, b4, b5⟩ => ⟨ds.length - (i + 1), by omega, acc, as, rest, b1, b2, b3, b4, b5, rfl, hlt⟩, fun x H'' y => ?_⟩
              have hd : ds[i]? = some ds[i] := List.getElem?_eq_getElem hlt
              obtain ⟨s3', hx⟩ := yld i x H'' _ y hd
              have s3 := s3' Cl
              rw [List.drop_eq_getElem_cons hlt] at er
              unfold lcL at er
              cases est : st (vm ρ vs) ds[i] with
              | none => rw [est] at er; cases er
              | some ρ' =>
                rw [est] at er
                dsimp only at er
                have B := I1.blk (vs := vs) hno (s2.trans s3) nL (s3.at hL)
                have zeq : ∀ b, Zo (ZP Z L) (wipe σ vs) (vm ρ vs) b → ZP (Zo Z σ ρ) L b := fun b hb => by
                  rcases hb with (hb | hb) | ⟨j, z⟩
                  · exact .inl (.inl hb)
                  · exact .inr hb
                  · exact .inl (.inr ⟨j, (q8 z).2⟩)
                have zeq2 : ∀ b, ZP (Zo Z σ ρ) L b → Zo (ZP Z L) (wipe σ vs) (vm ρ vs) b := fun b hb => by
                  rcases hb with (hb | ⟨j, z⟩) | hb
                  · exact .inl (.inl hb)
                  · exact .inr ⟨j, wbz hno z⟩
                  · exact .inl (.inr hb)
                refine T.go Cl (ZP Z L) σ ρ ρ' H'' x ds[i] _ B (Dp.same (jc (yb.refl _) fun b hb => .inl (zeq b hb)) hx) est fun σ' hw B' hs' hz' => ⟨hw, ?_⟩
                have up4 : ∀ H4, Same Cl H'' H4 → Same Cl H1 H4 := fun H4 s4 => s2.trans (s3.trans s4)
                have acc4 : ∀ H4, Same Cl H'' H4 → DpAll K (hide H4 (ZP (Zo Z σ ρ) L)) acc as := fun H4 s4 => DpAll.same (kf (s3.trans s4) fun _ h => .inl h) hacc
                cases ett : tt ρ' with
                | none => rw [ett] at er; cases er
                | some rt =>
                  rw [ett] at er
                  cases rt with
                  | error _ => cases er
                  | ok b =>
                    refine qz B' ett (fun er z => by cases z) fun b1 H3 eb s4 B3 => ?_
                    cases eb
                    cases b with
                    | false =>
                      dsimp only at er
                      rw [if_neg Bool.false_ne_true]
                      exact ⟨acc, as, rest, s4.at (s3.at hL), up4 _ s4, acc4 _ s4, er, ea⟩
                    | true =>
                      dsimp only at er
                      rw [if_pos rfl]
                      cases efe : fe ρ' with
                      | none => rw [efe] at er; cases er
                      | some rf =>
                        rw [efe] at er
                        cases rf with
                        | error _ => cases er
                        | ok v =>
                          dsimp only at er
                          refine jt B3 efe (fun er z => by cases z) fun v1 y H4 ev s5 hv B4 => ?_
                          cases ev
                          cases est : v.st with
                          | none => rw [est] at er; cases er
                          | some yd =>
                            rw [est] at er
                            dsimp only at er
                            cases el : lcL tt fe (st (vm ρ vs)) (ds.drop (i + 1)) with
                            | none => rw [el] at er; cases er
                            | some rest' =>
                              rw [el] at er
                              cases er
                              have s45 := s4.trans s5
                              have hL4 := s45.at (s3.at hL)
                              have hy := hv.stab B3 est
                              have hacc4 := acc4 _ s45
                              refine ⟨acc, hL4, ?_, ?_⟩
                              · have h1 := hacc4.length
                                have h2 := congrArg List.length ea
                                rw [List.length_append, List.length_cons] at h2
                                omega
                              · have hin : ∀ {H5 : Hp} , (∀ b, b ≠ L → H5 b = H4 b) → yb (hide H4 (ZP (Zo Z σ ρ) L)) (hide H5 (ZP (Zo Z σ ρ) L)) := fun {H5} k b o e _ => by
                                  obtain ⟨n, e1⟩ := yf e
                                  exact vc n (by rw [k b fun z => n (.inr z)]; exact e1)
                                have k5 : ∀ b, b ≠ L → upd H4 L (.lst (acc ++ [y])) b = H4 b := fun b hb => upd_ne hb
                                have hy2 : Dp K (hide H4 (ZP (Zo Z σ ρ) L)) y yd := Dp.same (jc (yb.refl _) fun b hb => .inl (hz' b (zeq2 b hb))) hy
                                refine ⟨acc ++ [y], as ++ [yd], rest', upd_same, (up4 _ s45).over nL hL4, DpAll.append (DpAll.same (hin k5) hacc4) (.cons (Dp.same (hin k5) hy2) .nil), rfl, by rw [← ea, List.append_assoc]; rfl⟩
            · have hie : i = ds.length := by omega
              subst hie
              rw [List.drop_length] at er
              cases er
              rw [List.append_nil] at ea
              subst ea
              exact .inl ⟨stop _ (Nat.le_refl _), q _ H' (s1.trans s2) ⟨L, acc, rfl, s1.free nL, hL, hacc⟩⟩
          · cases e
  · cases e
def st1 (i : Nat) : ya → D → Option ya := fun ρ d => some (ρ.set i (.dat d))
theorem zca {Z : Addr → Prop} {σ : St} {ρ : ya} {i : Nat} {x : Option V} {d : D} (hn : ∀ s, ρ[i]? = some s → ¬ s.yz) (b : Addr) (h : Zo Z σ ρ b) : Zo Z (σ.set i x) (ρ.set i (.dat d)) b := by
  rcases h with h | ⟨j, h1⟩
  · exact .inl h
  · have hj : i ≠ j := fun e => by
      obtain ⟨s, e1, e2⟩ := h1.slot
      exact hn s (e ▸ e1) e2
    refine .inr ⟨j, ?_⟩
    unfold zg at h1 ⊢
    rw [List.getElem?_set_ne hj, List.getElem?_set_ne hj]
    exact h1
theorem vbc {ρ : ya} {i : Nat} : ∀ {vs : List Nat}, i ∈ vs → ∀ s, (vm ρ vs)[i]? = some s → ¬ s.yz
  | v :: vs, m, s, e => by
    unfold vm at e
    by_cases hv : v = i
    · subst hv
      rw [List.getElem?_set, if_pos rfl] at e
      split at e
      · cases e
        exact fun z => nomatch z
      · cases e
    · rw [List.getElem?_set_ne hv] at e
      rcases List.mem_cons.mp m with z | m
      · exact absurd z.symm hv
      · exact vbc m s e
theorem jbR {i : Nat} : LcT K [i] (gName i) (st1 i) := ⟨fun Cl Z σ ρ ρ' H v d Q B hd e q => by
  cases e
  refine q _ ?_ (B.jx hd) kbb (zca (vbc (by simp)))
  show (((σ.set i none).set i (some v)).set i none) = σ.set i none
  rw [List.set_set, List.set_set]⟩
theorem xbI {σ : St} {H : Hp} {Q : Bool → Hp → Prop} (h : kas K Cl W (fun _ => some (.ok true)) σ H Q) : tYes σ H Q := by
  obtain ⟨Z, ρ, r, I, e, q⟩ := h
  cases e
  exact q H (Same.refl _)
theorem PTs.imp {X : Cx} {ifs : List Expr} {t t' : TT} (h : PTs X ifs t) (i : ∀ σ H Q, t' σ H Q → t σ H Q) : PTs X ifs t' := ⟨fun pins s σ H Q I q => h.run pins s σ H Q I (i σ H Q q)⟩
def DTs (X : Cx) (Cl : Nat → Addr) (W : WX) (ifs : List Expr) (f : FT) : Prop := PTs X ifs (kas X.K Cl W f)
theorem vaW : DTs X Cl W [] (fun _ => some (.ok true)) := PTs.imp pts_nil fun σ H Q h => xbI h
variable {elt tg iter : Expr} {ifs : List Expr} {scope : Scope} {own : List (Str × Nat)} {pos : Pos} {it : FI} {g : TG} {tt : FT} {fe : FE} {vs : List Nat} {st : ya → D → Option ya}
theorem xb0 (hc : X.calm = true) (hN : X.N.Nodup) (T : LcT X.K vs g st) (hi : DIt X Cl W tg iter it) (ok : BlkOk X.N X.env.scope scope own)
    (hg : ∀ (s : Shared) (H : Hp) (C : Addr) (cl : List (Str × Addr)) (fp : List Addr), PG (X.blk s H scope (compEnvC scope cl C X.env) fp) tg g) (ht : ∀ (s : Shared) (H : Hp) (C : Addr) (cl : List (Str × Addr)) (fp : List Addr), DTs (X.blk s H scope (compEnvC scope cl C X.env) fp) Cl W0 ifs tt)
    (he : ∀ (s : Shared) (H : Hp) (C : Addr) (cl : List (Str × Addr)) (fp : List Addr), DE (X.blk s H scope (compEnvC scope cl C X.env) fp) Cl W0 elt fe) (hv : own.map (·.2) = vs := by rfl) (hs : ∀ x, foldedSetIterable iter X.env x = pure x := by intro _; rfl) :
    DE X Cl W (.ListComp elt [⟨tg, iter, ifs, 0⟩] scope pos) (jI vs st it tt fe) := PE.imp (pe_lc (tt := kas X.K Cl W0 tt) (te := kr X.K Cl W0 fe) hc hN hi ok hg ht he hs) fun σ H Q h => by
  rw [hv]
  exact kbt T h
theorem wbR {i : Nat} {y : Str} {py spos : Pos} (hc : X.calm = true) (hN : X.N.Nodup) (T : LcT X.K vs g st) (hi : DIt X Cl W tg iter it) (ok : BlkOk X.N X.env.scope scope own)
    (hg : ∀ (s : Shared) (H : Hp) (C : Addr) (cl : List (Str × Addr)) (fp : List Addr), PG (X.blk s H scope (compEnvC scope cl C X.env) fp) tg g) (ht : ∀ (s : Shared) (H : Hp) (C : Addr) (cl : List (Str × Addr)) (fp : List Addr), DTs (X.blk s H scope (compEnvC scope cl C X.env) fp) Cl W0 ifs tt)
    (he : ∀ (s : Shared) (H : Hp) (C : Addr) (cl : List (Str × Addr)) (fp : List Addr), DE (X.blk s H scope (compEnvC scope cl C X.env) fp) Cl W0 elt fe) (hsw : swapsWith (.ListComp elt [⟨tg, iter, ifs, 0⟩] scope pos) (some (.Name y py)) spos.line X.env = pure true) (hy : X.N[i]? = some y := by rfl) (hyl : X.env.scope.names.lookup y = some .local := by rfl) (hv : own.map (·.2) = vs := by rfl) (hs : ∀ x, foldedSetIterable iter X.env x = pure x := by intro _; rfl) :
    DS X Cl W (.Assign [.Name y py] (.ListComp elt [⟨tg, iter, ifs, 0⟩] scope pos) spos) (je i (jI vs st it tt fe)) := PS.imp (ps_setLc (tt := kas X.K Cl W0 tt) (te := kr X.K Cl W0 fe) hc hN hy hyl hsw hi ok hg ht he hs) fun D σ H h => by
  have h1 := ybb h
  rw [hv]
  exact kbt T h1
end
section
variable {X : Cx} {Cl : Nat → Addr} {W : WX} {K : PySem.W.Frag} {e : Expr} {f : FE} {pos : Pos}
@[simp] def yv (a b : Val) : Option Val := (gI (fun i j => .bool (decide (i < j))) a b).or (gS (fun i j => .bool (decide (i.cps.toList < j.cps.toList))) a b)
@[simp] def kbc (a b : Val) : Option Val := (gI (fun i j => .bool (decide (i ≤ j))) a b).or (gS (fun i j => .bool (!decide (j.cps.toList < i.cps.toList))) a b)
@[simp] def kn (a b : Val) : Option Val := (gI (fun i j => .bool (decide (j < i))) a b).or (gS (fun i j => .bool (decide (j.cps.toList < i.cps.toList))) a b)
@[simp] def vW (a b : Val) : Option Val := (gI (fun i j => .bool (decide (j ≤ i))) a b).or (gS (fun i j => .bool (!decide (i.cps.toList < j.cps.toList))) a b)
def rX (g : Int → Int → V) (h : Str → Str → V) : R2 := fun x y H Q => rI0 g x y H Q ∨ (∃ i j, x = .str i ∧ y = .str j ∧ Q (h i j) H)
theorem kav : OpR X (compareOp .Lt) (rX (fun i j => .bl (decide (i < j))) fun i j => .bl (decide (i.cps.toList < j.cps.toList))) := op_lt.or op_lt_str
theorem qaw : OpR X (compareOp .Gt) (rX (fun i j => .bl (decide (j < i))) fun i j => .bl (decide (j.cps.toList < i.cps.toList))) := op_gt.or op_gt_str
theorem waR : OpR X (compareOp .GtE) (rX (fun i j => .bl (decide (j ≤ i))) fun i j => .bl (!decide (i.cps.toList < j.cps.toList))) := op_ge.or op_ge_str
theorem zaw : wU K (rX (fun i j => .bl (decide (i < j))) fun i j => .bl (decide (i.cps.toList < j.cps.toList))) yv := (waM fun i j _ => .bl _).or (qbQ (g := fun i j => .bl (decide (i.cps.toList < j.cps.toList))) fun i j _ => .bl _)
theorem jaw : wU K (rX (fun i j => .bl (decide (j < i))) fun i j => .bl (decide (j.cps.toList < i.cps.toList))) kn := (waM fun i j _ => .bl _).or (qbQ (g := fun i j => .bl (decide (j.cps.toList < i.cps.toList))) fun i j _ => .bl _)
theorem vaR : wU K (rX (fun i j => .bl (decide (j ≤ i))) fun i j => .bl (!decide (i.cps.toList < j.cps.toList))) vW := (waM fun i j _ => .bl _).or (qbQ (g := fun i j => .bl (!decide (i.cps.toList < j.cps.toList))) fun i j _ => .bl _)
def vA (g : FG) (f : FE) : FS := sE f fun v ρ => match v.st with
  | some d => (g d ρ).map .nx
  | none => none
theorem waw {tg : Expr} {g : FG} (hg : DG X Cl tg g) (he : DE X Cl W e f) (hs : swapsWithSole [tg] e pos.line X.env = pure false := by rfl) (hw : swappedStores [tg] e X.env = pure none := by rfl)
    (h1 : (assignEach [tg] X.env).map (·.2) = [assign tg X.env] := by rfl) : DS X Cl W (.Assign [tg] e pos) (vA g f) := PS.imp (ps_asg he hg hs hw h1) fun D σ H ⟨H0, Z, ρ, o, I, e, q⟩ => by
  refine qI I e q fun v x H1 _ h2 s1 hv I1 => ?_
  cases e1 : v.st with
  | none => rw [e1] at h2; cases h2
  | some d =>
    rw [e1] at h2
    dsimp only at h2
    cases e2 : g d ρ with
    | none => rw [e2] at h2; cases h2
    | some ρ' =>
      rw [e2] at h2
      cases h2
      exact ⟨_, Z, ρ, d, ρ', I1, hv.stab I.di e1, e2, fun σ' I' => q _ _ I'⟩
def zcz (x : D) (ds : List D) : Option Nat := ds.findIdx? fun d => eqV (toV d) (toV x)
@[simp] def qcL (a b : Val) : Option Val := match a.d with
  | .list ds => if (wj b.d && ds.all wj) = true then (zcz b.d ds).map fun j => .s (.int (j : Int)) else none
  | _ => none
def eLM (g : Val → Val → Option Val) (fa fb : FE) : FE := bE fa fun a ρ => match a.d with
  | .list _ => bE fb (fun b _ => (g a b).map .ok) ρ
  | _ => none
section
variable {g : Val → Val → Option Val} {h : Val → Option Val} {fa fb fe : FE} {i : Nat} {ρ : ya} {d : D} {gs : FGs} {tg : FG}
@[simp] theorem xcr : e2 g fa fb ρ = bE fa (fun a => bE fb fun b _ => (g a b).map .ok) ρ := rfl
@[simp] theorem kcr : e1 h fa ρ = bE fa (fun a _ => (h a).map .ok) ρ := rfl
@[simp] theorem jcL : eLM g fa fb ρ = bE fa (fun a ρ => match a.d with
  | .list _ => bE fb (fun b _ => (g a b).map .ok) ρ
  | _ => none) ρ := rfl
@[simp] theorem qbS : waI fa fb ρ = bE fa (fun v ρ => match v.d with
  | .bool true => fb ρ
  | .bool false => ok (.bool false)
  | _ => none) ρ := rfl
@[simp] theorem qcJ : wcy fa fb ρ = bE fa (fun v ρ => match v.d with
  | .bool false => fb ρ
  | .bool true => ok (.bool true)
  | _ => none) ρ := rfl
@[simp] theorem qbu : je i fa ρ = sE fa (fun v ρ => v.st.map fun d => .nx (ρ.set i (.dat d))) ρ := rfl
@[simp] theorem zbS : yl i fa ρ = sE fa (fun v ρ => match v with
  | .f ds => some (.nx (ρ.set i (.own ds)))
  | _ => none) ρ := rfl
@[simp] theorem jcz : jb0 fa ρ = sE fa (fun _ ρ => some (.nx ρ)) ρ := rfl
@[simp] theorem zaJ : zd fa ρ = sE fa (fun v _ => match v with
  | .s d => some (.ret d)
  | .m d => some (.ret d)
  | .b ds => some (.retF ds)
  | .f ds => some (.retF ds)) ρ := rfl
@[simp] theorem wca : zy i fa ρ = qat i (fun ds => sE fa fun v ρ => match v.st with
  | some d => if vj (ds.length + 1) = true then some (.nx (ρ.set i (.own (ds ++ [d])))) else none
  | none => none) ρ := rfl
@[simp] theorem zcJ : x7 i fa ρ = qat i (fun ds => sE fa fun v ρ => match v.items with
  | some es => if vj (ds.length + es.length) = true then some (.nx (ρ.set i (.own (ds ++ es)))) else none
  | none => none) ρ := rfl
@[simp] theorem jcJ : ycy i ρ = qat i (fun ds ρ => if ds.isEmpty = true then none else some (.nx (ρ.set i (.own ds.dropLast)))) ρ := rfl
@[simp] theorem wcJ : xcy i fa fe ρ = sE fe (fun v => qat i fun ds => sE fa fun k ρ => match k.d, v.st with
  | .int j, some d => (ixN ds.length j).map fun n => .nx (ρ.set i (.own (ds.set n d)))
  | _, _ => none) ρ := rfl
@[simp] theorem ycY : gN i d ρ = some (ρ.set i (.dat d)) := rfl
@[simp] theorem wcz : ki [] ρ = some ρ := rfl
@[simp] theorem xcu {r : List D} : xb i gs (d :: r) ρ = gs r (ρ.set i (.dat d)) := rfl
@[simp] theorem xcY {n : Nat} {ds : List D} : gT n gs (.tuple ds) ρ = if ds.length = n then gs ds ρ else none := rfl
@[simp] theorem qbd {n k : Nat} {f : FS} {ds : List D} : qj n k f ds = match f (ds.map .dat ++ List.replicate (k - n) .un) with
  | some (.nx _) => some (.ret .none)
  | some (.ret d) => some (.ret d)
  | some (.retF ds) => some (.retF ds)
  | some (.retX ds k) => some (.retX ds k)
  | some (.exc _ c i) => some (.exc c i)
  | _ => none := rfl
@[simp] theorem wcL : st1 i ρ d = some (ρ.set i (.dat d)) := rfl
@[simp] theorem zbu : vA tg fa ρ = sE fa (fun v ρ => match v.st with
  | some d => (tg d ρ).map .nx
  | none => none) ρ := rfl
end
def zbA (K : PySem.W.Frag) : Sp := fun vs H Q _ => ∃ (a : Addr) (ns : List Int), vs = [.ref a] ∧ SqL K H a (ns.map V.int) ∧ ns.length ≤ 63 ∧ ∀ H', Q (.bl true) H'
theorem xci {Cl : Nat → Addr} {P : Program} {w : World} {mg : Str → Option Value} {base : Heap} {CX : CXT} {k : Nat} {fa : Addr} {fd : FuncData} {ps : List Str} {F : DF} (h : ∀ ns : List Int, ns.length ≤ 63 → F [yO ns] = some (.ret (.bool true))) (G : FnOk P w K mg base CX k fa fd ps (xH K Cl 1 F)) (hz : NoT Cl := by exact ⟨rfl, rfl, rfl, rfl⟩) : FnOk P w K mg base CX k fa fd ps (zbA K) :=
  G.imp fun vs H Q E ⟨a, ns, e, hs, hl, q⟩ => by
    subst e
    refine ⟨fun _ => False, [yO ns], _, ⟨fun _ z => z.elim, .none hz _⟩, .cons (.yO (SqL.jk (fun b o e _ => vc id e) hs)) .nil, rfl, h ns hl, fun v H' s hv => ?_⟩
    rw [hv.waj]
    exact q H'
theorem vca {P : Program} {w : World} {outer : List Env} {H : Hp} {s s' : Shared} {e : Value} (h : L2.CX P w outer H s (fun _ _ _ => False) e s') : False := by
  obtain ⟨_, _, _, _, _, _, _, _, _, _, _, _, z⟩ := h
  exact z
end
structure ExT (K : PySem.W.Frag) (mg : Str → Option Value) (x : Str) (C fI : Addr) : Prop where
  g : mg x = some (.ref C)
  oex : OexC K C
  no : PySem.W.findIn K (.ref C) "at" = some none
  iC : PySem.W.findIn K (.ref C) "__init__" = some (some (.ref fI))
  xf : XfC K C
structure InT (K : PySem.W.Frag) (q : Str) (st : Stmt) (fI : Addr) (fd : FuncData) : Prop where
  F : Fun K "__init__" q st fI fd
  tI : PySem.W.typeIn K (.ref fI) = some (.type "function")
  b : Binds K fd ["self", "at"] []
def yaD (K : PySem.W.Frag) : Sp := fun vs H Q _ => ∃ (a C : Addr) (y : V), vs = [.ref a, y] ∧ OexC K C ∧ PySem.W.findIn K (.ref C) "at" = some none ∧ H a = some (exo a C none) ∧
  ∀ dx, H dx = none → dx ≠ a → Q .non (upd (upd H dx (exd dx [("at", y)])) a (exo a C (some dx)))
section
variable {X : Cx} {Cl : Nat → Addr} {W : WX} {K : PySem.W.Frag} {e : Expr} {f : FE} {pos : Pos}
def zm (c : Nat) (f : FE) : FS := sE f fun v ρ => match v.d with
  | .int i => some (.exc ρ c i)
  | _ => none
@[simp] theorem ybJ {c : Nat} {ρ : ya} : zm c f ρ = sE f (fun v ρ => match v.d with
  | .int i => some (.exc ρ c i)
  | _ => none) ρ := rfl
theorem yW {c : Nat} {x q : Str} {fI : Addr} {fd : FuncData} {st : Stmt} {p pos' : Pos} (T : ExT X.K X.mg x (Cl c) fI) (N : InT X.K q st fI fd) (F1 : FnOk X.prog X.w X.K X.mg X.base (L2.CX X.prog X.w) 1 fI fd ["self", "at"] (yaD X.K)) (tk : Takes X W) (hr : Room 2 X.A) (he : DE X Cl W e f)
    (hc : X.calm = true := by rfl) (hg : Gl X x := by rfl) (hdb : (x == ("__debug__" : Str)) = false := by decide) (hs : starEach (e :: []) X.env = (false, eval e X.env) :: starEach [] X.env := by rfl) (hpl : (backTo pos (starEach [] X.env)).any (·.1) = false := by rfl) :
    DS X Cl W (.Raise (some (.Call (.Name x p) [e] [] pos)) none pos') (zm c f) :=
  PS.imp (ps_raise hc tk (pmk_oex (dvs := []) (ds := []) T.oex T.iC N.tI F1 hr N.b .nil passL hg T.g (pa_cons he pa_nil hs) hdb hs hpl)) fun D σ H ⟨H0, Z, ρ, o, I, e, q⟩ => by
    refine qI I e q fun v y H1 _ h1 s1 hv I1 => ?_
    split at h1
    · rename_i i ei
      cases h1
      have ey := hv.int_inv I.di ei
      subst ey
      refine ⟨by show 1 ≤ 1000; decide, fun a na => ⟨a, Cl c, .int i, rfl, T.oex, T.no, upd_same, fun dx nd hne => ⟨rfl, dx, [("at", .int i)], ?_, ?_, ?_, ?_⟩⟩⟩
      · exact upd_same
      · rw [upd_ne hne, upd_same]
      · rw [upd_ne hne] at nd
        exact nd
      · rw [upd_ne hne] at nd
        refine q dx σ _ (I1.jk (.of (fun b o e => ?_) fun b o xs e => ?_)) upd_same
        · have n1 := ne_of_none e nd
          have n2 := ne_of_none e na
          rw [upd_ne n1, del_ne n2, upd_ne n2, upd_ne n1, upd_ne n2]
          exact e
        by_cases b1 : b = dx
        · rw [b1, upd_same] at e
          cases e
        rw [upd_ne b1] at e
        by_cases b2 : b = a
        · rw [b2, del_same] at e
          cases e
        rw [del_ne b2, upd_ne b2, upd_ne b1, upd_ne b2] at e
        exact e
    · cases h1
structure yF (X : Cx) (pins : List (Addr × Obj)) (a : Addr) (B : Heap) (sI : Shared) (σ : St) (H : Hp) (cls : Value) (d : Option Addr) (s : Shared) : Prop where
  inv : Inv X pins σ H sI
  ground : ∀ b o, sI.heap.get? b = some o → b ∉ frs X.stack → B.get? b = some o
  slots : sI.heap.UpToSlots s.heap
  fly : HandSPX.FlyingZ B (X.env :: X.outer) a (Zc cls d) s.heap
  free : H a = none
  os : s.os = sI.os
  bare : AllBare s.gens
def x6 (X : Cx) (hds : List ExceptHandler) (D : Ends) (wish : WX) : Prop := ∀ (pins : List (Addr × Obj)) (a : Addr) (B : Heap) (sI : Shared) (σ : St) (H : Hp) (cls : Value) (d : Option Addr) (s : Shared), yF X pins a B sI σ H cls d s → wish cls d σ H →
  wpAny (model X.prog X.w) X.A (handleBy (.ref a) X.env hds) (SP X pins D) X.xe s
theorem yF.now {pins : List (Addr × Obj)} {a : Addr} {B : Heap} {sI : Shared} {σ : St} {H : Hp} {cls : Value} {d : Option Addr} {s : Shared} (c : yF X pins a B sI σ H cls d s) : Inv X pins σ H s := c.inv.landed c.ground c.fly.1 c.slots c.os c.bare
theorem yF.out {pins : List (Addr × Obj)} {a : Addr} {B : Heap} {sI : Shared} {σ : St} {H : Hp} {cls : Value} {d : Option Addr} {s : Shared} (c : yF X pins a B sI σ H cls d s) (hf : X.env.frame = some X.env.locals) : a ≠ X.env.locals ∧ a ∉ X.fs := by
  obtain ⟨ob, fv, hob, _, hdat⟩ := c.fly.there
  have apart : a ∉ frs (X.env :: X.outer) := fun m => by
    obtain ⟨_, o2, e2, nf⟩ := c.fly.2.2.1.mem m
    rw [hob] at e2
    cases e2
    exact nf _ hdat
  refine ⟨fun z => apart (List.mem_filterMap.mpr ⟨X.env, List.mem_cons_self, by rw [hf, z]⟩), fun m => ?_⟩
  obtain ⟨en, men, q⟩ := List.mem_filterMap.mp m
  exact apart (List.mem_filterMap.mpr ⟨en, List.mem_cons_of_mem _ men, q⟩)
theorem wbo {D : Ends} (hs : X.stack = X.env :: X.outer) (hf : X.env.frame = some X.env.locals) (tk : Takes X W) : x6 X [] D W := fun pins a B sI σ H cls d s c hw => by
  refine wpAny_handleBy_nil ?_
  obtain ⟨_, _, _, ob, fv, T, _, _, hob, _, hdat, h1, _⟩ := id c.fly
  unfold PySem.passOn
  have fin : wpAny (model X.prog X.w) X.A (setFlight (.ref a) X.env.frame) (fun _ s4 => wpAny (model X.prog X.w) X.A (throw (.ref a) : Sem Flow) (SP X pins D) X.xe s4) X.xe s := by
    rw [hf]
    refine HandSPX.setFlight_upZ c.fly fun h4 held more => wpAny_throw (tk _ _ ?_)
    exact ⟨a, B, sI, pins, σ, H, cls, d, rfl, c.inv, c.ground, c.slots.trans more, .inr (.inr (by rw [hs]; exact held)), c.free, c.os, c.bare, hw⟩
  refine wpAny_bind (wpAny_field hob hdat h1 ?_)
  rw [if_neg (show ¬ ((Value.ref T == Value.none) = true) by simp)]
  first
    | exact wpAny_bind (wpAny_pure (wpAny_bind fin))
    | exact wpAny_bind fin
def jbY (test : Value → Bool → Prop) (yes : Addr → Value → Option Addr → TS) (D : Ends) (rest : WX) : WX := fun cls d σ H => ∃ b, test cls b ∧ (b = true → ∀ a, H a = none → yes a cls d D σ H) ∧ (b = false → rest cls d σ H)
theorem yF.suite {pins : List (Addr × Obj)} {a : Addr} {B : Heap} {sI : Shared} {σ : St} {H : Hp} {cls : Value} {d : Option Addr} {s : Shared} (c : yF X pins a B sI σ H cls d s) (hf : X.env.frame = some X.env.locals) :
    ∃ oe, s.heap.get? a = some oe ∧ Zc cls d oe ∧ (∃ vs, oe.data = .fields vs) ∧ Inv (X.suite a ((a, oe) :: (X.pn ++ pins))) [] σ H s := by
  obtain ⟨ob, fv, hob, hz, hdat⟩ := c.fly.there
  obtain ⟨n1, n2⟩ := c.out hf
  exact ⟨ob, hob, hz, ⟨fv, hdat⟩, c.now.suite hob hdat c.free n1 n2⟩
theorem yF.again {pins : List (Addr × Obj)} {a : Addr} {B : Heap} {sI : Shared} {σ : St} {H : Hp} {cls : Value} {d : Option Addr} {s : Shared} {h4 : Heap} (c : yF X pins a B sI σ H cls d s) (fl : HandSPX.FlyingZ B (X.env :: X.outer) a (Zc cls d) h4) (up : s.heap.UpToSlots h4) : yF X pins a B sI σ H cls d { s with heap := h4 } :=
  ⟨c.inv, c.ground, c.slots.trans up, fl, c.free, c.os, c.bare⟩
theorem vbo {D : Ends} {x : Str} {c : Value} {b0 : Stmt} {suite : List Stmt} {np pos' : Pos} {hds : List ExceptHandler} {rest : WX} {ts : Addr → Value → Option Addr → TS} (ok : X.Ok) (hf : X.env.frame = some X.env.locals) (hc : Names X x c)
    (hsu : ∀ (a : Addr) (oe : Obj) (cls : Value) (d : Option Addr) (pn : List (Addr × Obj)), Zc cls d oe → (∃ vs, oe.data = .fields vs) → PSs (X.suite a ((a, oe) :: pn)) (b0 :: suite) (ts a cls d)) (hr : x6 X hds D rest) :
    x6 X (.ExceptHandler (some (.Name x np)) none (b0 :: suite) pos' :: hds) D (jbY (fun cls b => PySem.W.exmOne X.K cls c = some b) ts D rest) := fun pins a B sI σ H cls d s ca ⟨b, hb, yes, no⟩ => by
  obtain ⟨ob, hob, hz, hdat, S⟩ := ca.suite hf
  refine wpAny_handleBy_cons (codeAny_handlers_test ?_) (by intro q; cases q)
  have look : PySem.W.Looks (model X.prog X.w) s.heap (typeOf (.ref a)) cls := fun A Q E s' k q => wpAny_typeOf_ref (k _ _ hob) (by rw [hz.1]; exact q)
  have here := PySem.W.exm_one (M := model X.prog X.w) ca.now.kIn look hb
  have named : ∀ {Q : Value → Shared → Prop} {E : Value → Shared → Prop}, Q c s → wpAny (model X.prog X.w) (X.A.mark (some (.ref a))) (eval (.Name x np) X.env) Q E s := fun {Q E} q => by
    obtain ⟨hg, hdbg, hm | ⟨hm, hv, hnn⟩⟩ := hc
    · exact ld_glob (X := X.suite a ((a, ob) :: (X.pn ++ pins))) S hg hm q hdbg
    · exact ld_blt (X := X.suite a ((a, ob) :: (X.pn ++ pins))) S hg hm hv q hnn hdbg
  refine named (here.here ?_)
  cases b with
  | false => exact hr pins a B sI σ H cls d s ca (no rfl)
  | true =>
    refine codeAny_handlers_suite (HandSPX.lands_againZ ca.fly fun h4 fl up => ?_)
    have ca4 := ca.again fl up
    obtain ⟨ob4, _, hz4, hdat4, S4⟩ := ca4.suite hf
    refine wpAny_mono ((hsu a ob4 cls d (X.pn ++ pins) hz4 hdat4).run [] _ _ H _ S4 (yes rfl a ca.free)) (fun fl s6 r => ?_) (fun _ _ z => z.elim)
    cases fl with
    | next => obtain ⟨σ6, H6, S6, q6⟩ := r; exact ⟨σ6, H6, S6.unsuite ok, q6⟩
    | brk => obtain ⟨σ6, H6, S6, q6⟩ := r; exact ⟨σ6, H6, S6.unsuite ok, q6⟩
    | cont => obtain ⟨σ6, H6, S6, q6⟩ := r; exact ⟨σ6, H6, S6.unsuite ok, q6⟩
    | ret u => obtain ⟨v6, σ6, H6, S6, r6, q6⟩ := r; exact ⟨v6, σ6, H6, S6.unsuite ok, r6, q6⟩
theorem zbG {body : List Stmt} {h0 : ExceptHandler} {hds : List ExceptHandler} {tb : WX → TS} {wish : Ends → WX} (hs : X.stack = X.env :: X.outer) (hf : X.env.frame = some X.env.locals)
    (hb : ∀ (W : WX) (pn : List (Addr × Obj)) (xe : Value → Shared → Prop), Takes (X.tr pn xe) W → PassesOwn (model X.prog X.w) X.A X.env xe → PSs (X.tr pn xe) body (tb W)) (hc : ∀ D, X.Ok → x6 X (h0 :: hds) D (wish D)) :
    PS X (.Try body (h0 :: hds) [] [] pos) (fun D σ H => tb (wish D) D σ H) := by
  refine ⟨fun pins s σ H D I h => ?_⟩
  have ok := I.ok
  have top : X.A.frames = some (X.env :: X.outer) := by rw [ok.frames, hs]
  refine wpAny_Try_except (wpAny_mono ((hb (wish D) (X.pn ++ pins) (fun e s₁ => wpAny (model X.prog X.w) X.A (noteFrame e X.env) (fun _ s₂ => wpAny (model X.prog X.w) X.A (setFlight e none) (fun _ s₃ =>
    wpAny (model X.prog X.w) X.A (handleBy e X.env (h0 :: hds)) (SP X pins D) X.xe s₃) X.xe s₂) X.xe s₁) (fun u s' xx => ?_) PassesOwn.looking).run [] s σ H D (I.toTry _) h) (fun fl s1 r => ?_) (fun _ _ z => z))
  · obtain ⟨a, B, sI, pins', σ', H', cls, d, rfl, J', nb, up, sky, na, os, ag, w⟩ := xx
    have J : Inv X pins σ' H' sI := J'.ofTry ok
    refine Sky.land Zc.steady top hf (by rw [← hs]; exact sky) fun h3 fl3 up3 => ?_
    exact hc D ok pins a B sI σ' H' cls d { s' with heap := h3 } ⟨J, nb, up.trans up3, fl3, na, os, ag⟩ w
  · cases fl with
    | next => obtain ⟨σ6, H6, J6, q⟩ := r; exact wpAny_execs_nil ⟨σ6, H6, J6.ofTry ok, q⟩
    | brk => obtain ⟨σ6, H6, J6, q⟩ := r; exact ⟨σ6, H6, J6.ofTry ok, q⟩
    | cont => obtain ⟨σ6, H6, J6, q⟩ := r; exact ⟨σ6, H6, J6.ofTry ok, q⟩
    | ret u => obtain ⟨v6, σ6, H6, J6, r6, q⟩ := r; exact ⟨v6, σ6, H6, J6.ofTry ok, r6, q⟩
end
section
variable {X : Cx} {Cl : Nat → Addr} {W : WX} {K : PySem.W.Frag} {pos : Pos}
structure ErF (K : PySem.W.Frag) (C : Addr) : Prop where
  xf : XfC K C
  no : PySem.W.findIn K (.ref C) "at" = some none
  xc : ExcC K C
abbrev HF := Nat → Int → ya → Option Out
def jbx (k : Nat) : Out → Option Out
  | .nx ρ => some (.nx (ρ.set k .un))
  | .brk ρ => some (.brk (ρ.set k .un))
  | .ct ρ => some (.ct (ρ.set k .un))
  | .ret d => some (.ret d)
  | .retF ds => some (.retF ds)
  | .retX ds k => some (.retX ds k)
  | .exc _ _ _ => none
noncomputable def xaH (F : Addr → Addr → Option Out) : Option Out := open Classical in if h : ∃ o, ∀ a dd, F a dd = some o then some (Classical.choose h) else none
theorem vbP {F : Addr → Addr → Option Out} {o : Out} (a0 : Addr) (h : ∀ a dd, F a dd = some o) : xaH F = some o := by
  unfold xaH
  have hh : ∃ o, ∀ a dd, F a dd = some o := ⟨o, h⟩
  rw [dif_pos hh]
  have q := Classical.choose_spec hh a0 a0
  rw [h a0 a0] at q
  exact q.symm
theorem wbx {F : Addr → Addr → Option Out} {o : Out} (h : xaH F = some o) : ∀ a dd, F a dd = some o := by
  unfold xaH at h
  split at h
  · rename_i hh
    cases h
    exact Classical.choose_spec hh
  · cases h
def zaM : HF := fun c i ρ => some (.exc ρ c i)
def jae (m : Nat → Option Bool) (g : FS) (rest : HF) : HF := fun c i ρ => match m c with
  | some true => match g ρ with
    | some (.exc _ _ _) => none
    | o => o
  | some false => rest c i ρ
  | none => none
def yas (fb : FS) (h : HF) : FS := fun ρ => match fb ρ with
  | some (.exc ρ1 c i) => h c i ρ1
  | o => o
def HOk (K : PySem.W.Frag) (Cl : Nat → Addr) (W : WX) (h : HF) (wish : Ends → WX) : Prop := ∀ (D : Ends) (H0 : Hp) (Z : Addr → Prop) (o : Out) (c : Nat) (i : Int) (ρ : ya) (σ : St) (H : Hp) (dd : Addr), h c i ρ = some o → SI K Cl H0 Z H σ ρ → H dd = some (.xd [(("at" : Str), .int i)]) → z6 K Cl W H0 Z D o → wish D (.ref (Cl c)) (some dd) σ H
def DHs (X : Cx) (Cl : Nat → Addr) (W : WX) (hds : List ExceptHandler) (h : HF) : Prop := ∃ wish : Ends → WX, (∀ D, X.Ok → x6 X hds D (wish D)) ∧ HOk X.K Cl W h wish
theorem waV (hs : X.stack = X.env :: X.outer) (hf : X.env.frame = some X.env.locals) (tk : Takes X W) : DHs X Cl W [] zaM :=
  ⟨fun _ => W, fun D _ => wbo hs hf tk, fun D H0 Z o c i ρ σ H dd e I hd q => by cases e; exact q dd σ H I hd⟩
theorem ybs {x : Str} {N : Nat → Prop} {C : Value} {b0 : Stmt} {suite : List Stmt} {np pos' : Pos} {hds : List ExceptHandler} {rest : HF} {m : Nat → Option Bool} {g : FS} (hf : X.env.frame = some X.env.locals) (hc : Names X x C) (hm : ∀ c b, m c = some b → N c ∧ PySem.W.exmOne X.K (.ref (Cl c)) C = some b)
    (hsu : ∀ (a : Addr) (oe : Obj) (pn : List (Addr × Obj)), xO (X.suite a ((a, oe) :: pn)) Cl W0 (b0 :: suite) g) (hr : DHs X Cl W hds rest) :
    DHs X Cl W (.ExceptHandler (some (.Name x np)) none (b0 :: suite) pos' :: hds) (jae m g rest) := by
  obtain ⟨wr, h1, h2⟩ := hr
  refine ⟨_, fun D ok => vbo (ts := fun _ _ _ => xas X.K Cl W0 g) ok hf hc (fun a oe cls d pn hz hdat => ⟨fun pins s σ H D I q => (hsu a oe pn).run pins s σ H D I q⟩) (h1 D ok), fun D H0 Z o c i ρ σ H dd e I hd q => ?_⟩
  unfold jae at e
  cases e1 : m c with
  | none => rw [e1] at e; cases e
  | some b =>
    rw [e1] at e
    obtain ⟨hlt, hb⟩ := hm c b e1
    refine ⟨b, hb, fun hb1 a na => ?_, fun hb0 => ?_⟩
    · subst hb1
      dsimp only at e
      cases e2 : g ρ with
      | none => rw [e2] at e; cases e
      | some o2 =>
        rw [e2] at e
        refine ⟨H0, Z, _, o2, I, e2, ?_⟩
        cases o2 with
        | nx ρ2 => cases e; exact q
        | brk ρ2 => cases e; exact q
        | ct ρ2 => cases e; exact q
        | ret d => cases e; exact q
        | retF ds => cases e; exact q
        | retX ds k => cases e; exact q
        | exc _ _ _ => cases e
    · subst hb0
      exact h2 D H0 Z o c i ρ σ H dd e I hd q
theorem qbG {body : List Stmt} {h0 : ExceptHandler} {hds : List ExceptHandler} {fb : FS} {h : HF} (hs : X.stack = X.env :: X.outer) (hf : X.env.frame = some X.env.locals)
    (hb : ∀ (W' : WX) (pn : List (Addr × Obj)) (xe : Value → Shared → Prop), Takes (X.tr pn xe) W' → PassesOwn (model X.prog X.w) X.A X.env xe → xO (X.tr pn xe) Cl W' body fb) (hh : DHs X Cl W (h0 :: hds) h) :
    DS X Cl W (.Try body (h0 :: hds) [] [] pos) (yas fb h) := by
  obtain ⟨wish, h1, h2⟩ := hh
  refine PS.imp (zbG (tb := fun W' => xas X.K Cl W' fb) hs hf hb h1) fun D σ H ⟨H0, Z, ρ, o, I, e, q⟩ => ?_
  unfold yas at e
  cases e1 : fb ρ with
  | none => rw [e1] at e; cases e
  | some o1 =>
    rw [e1] at e
    refine ⟨H0, Z, ρ, o1, I, e1, ?_⟩
    cases o1 with
    | exc ρ1 c i => exact fun dd σ' H' I' hd => h2 D H0 Z o c i ρ1 σ' H' dd e I' hd q
    | nx ρ2 => cases e; exact q
    | brk ρ2 => cases e; exact q
    | ct ρ2 => cases e; exact q
    | ret d => cases e; exact q
    | retF ds => cases e; exact q
    | retX ds k => cases e; exact q
end
def mxL : List (Nat × Bool) → Nat → Option Bool
  | [], _ => none
  | (k, b) :: r, c => if k = c then some b else mxL r c
inductive AllL (P : Nat → Bool → Prop) : List (Nat × Bool) → Prop
  | nil : AllL P []
  | cons {k : Nat} {b : Bool} {r : List (Nat × Bool)} : P k b → AllL P r → AllL P ((k, b) :: r)
theorem yaj {P : Nat → Bool → Prop} : ∀ {l : List (Nat × Bool)}, AllL P l → ∀ c b, mxL l c = some b → P c b
  | _, .nil, c, b, e => nomatch e
  | _, .cons (k := k) (b := b') h t, c, b, e => by
    unfold mxL at e
    by_cases hk : k = c
    · rw [if_pos hk] at e
      cases e
      exact hk ▸ h
    · rw [if_neg hk] at e
      exact yaj t c b e
end DL
namespace FN
open PySem PySem.Spec PyProof.Rows L2 DL
noncomputable section
def zbi : D := .tuple [.int 0, .int 498536548, .int 997073096, .int 651767980, .int 1994146192, .int 1802195444, .int 1303535960, .int 1342533948, .int 3988292384, .int 4027552580, .int 3604390888, .int 3412177804, .int 2607071920, .int 2262029012, .int 2685067896, .int 3183342108]
def xZ : FS := ka (yl 1 (zv (za))) (ka (jm (zz (qa (eG kba (qa (eC (.int 63)) (qa (eG wg (qa (eV 0) (za))) (za)))) (za))) (gN 2) (ka (je 3 (eG qby (qa (e2 ze (eV 0) (eV 2)) (za)))) (qg (tV (e2 vW (eV 3) (e2 xbP (eC (.int 10)) (eC (.int 18))))) (jm (zz (qa (eC (.int 60)) (za))) (gN 4) (qg (tV (e2 kn (eV 3) (eC (.int 0)))) (ka (zy 1 (e2 zW (eG zU (qa (eV 3) (za))) (eC (.int 65536)))) (je 3 (e2 yay (eV 3) (eC (.int 65536))))) (zh))) (ka (je 5 (e2 zW (eG zU (qa (e2 kc (e2 xK (eV 3) (eC (.int 48271))) (e2 xK (e2 kc (eV 2) (eC (.int 1))) (eC (.int 69621)))) (za))) (eC (.int 2147483647)))) (ka (je 5 (e2 zW (eG zU (qa (e2 kc (e2 kc (e2 xK (eV 5) (eC (.int 16807))) (e2 xK (eC (.int 11)) (eV 2))) (eC (.int 5))) (za))) (eC (.int 2147483629)))) (ka (zy 1 (e2 zW (eG zU (qa (eV 5) (za))) (eC (.int 65536)))) (zy 1 (e2 zW (eG zU (qa (e2 yay (eV 5) (eC (.int 65536))) (za))) (eC (.int 32768)))))))))) (zd (eV 1)))
def yZ : DF := qj 1 6 xZ
def jbi : FS := zd (zv (qa (e2 z7 (eV 0) (eC (.int 255))) (qa (e2 z7 (e2 xaM (eV 0) (eC (.int 8))) (eC (.int 255))) (qa (e2 z7 (e2 xaM (eV 0) (eC (.int 16))) (eC (.int 255))) (qa (e2 z7 (e2 xaM (eV 0) (eC (.int 24))) (eC (.int 255))) (za))))))
def z0 : DF := qj 1 1 jbi
def xm : FS := ka (qg (tV (e2 yv (eV 1) (eG wg (qa (eV 0) (za))))) (zd (e2 zW (eG zU (qa (e2 ze (eV 0) (eV 1)) (za))) (eV 2))) (zh)) (zd (eC (.int 0)))
def jf : DF := qj 3 3 xm
end
noncomputable section
def qbp : FS := ka (qg (ju (tV (e2 yv (eV 0) (eC (.int 0)))) (tV (e2 vW (eV 0) (eC (.int 1099511627776))))) (zm 1 (eC (.int 0))) (zh)) (ka (yl 1 (zv (za))) (ka (wak (tV (e2 vW (eV 0) (eC (.int 128)))) (ka (zy 1 (e2 kc (e2 z7 (eV 0) (eC (.int 127))) (eC (.int 128)))) (je 0 (e2 xaM (eV 0) (eC (.int 7)))))) (ka (zy 1 (eV 0)) (zd (eV 1)))))
def ko : DF := qj 1 2 qbp
def qC : FS := ka (jm (kR (qa (eV 1) (qa (e2 kc (eV 1) (eC (.int 6))) (za)))) (gN 2) (ka (qg (tV (e2 vW (eV 2) (eG wg (qa (eV 0) (za))))) (zm 3 (eG wg (qa (eV 0) (za)))) (zh)) (qg (tV (e2 yv (e2 ze (eV 0) (eV 2)) (eC (.int 128)))) (zd (e2 kc (eV 2) (eC (.int 1)))) (zh)))) (zd (e2 kc (eV 1) (eC (.int 6))))
def xo : DF := qj 2 3 qC
def jB : FS := ka (je 2 (jb FN.xo 2 (qa (eV 0) (qa (eV 1) (za))))) (ka (je 3 (eC (.int 0))) (ka (jm (kR (qa (eV 1) (qa (eV 2) (za)))) (gN 4) (zak 3 (fun i j => i + j) (e2 zba (e2 z7 (e2 ze (eV 0) (eV 4)) (eC (.int 127))) (e2 xK (eC (.int 7)) (e2 gSub (eV 4) (eV 1)))))) (ka (qg (ju (tV (e2 vW (e2 ze (eV 0) (e2 gSub (eV 2) (eC (.int 1)))) (eC (.int 128)))) (tV (e2 vW (eV 3) (eC (.int 1099511627776))))) (zm 1 (eV 1)) (zh)) (ka (qg (wu (tV (e2 kn (e2 gSub (eV 2) (eV 1)) (eC (.int 1)))) (tV (e2 zr (e2 ze (eV 0) (e2 gSub (eV 2) (eC (.int 1)))) (eC (.int 0))))) (zm 2 (eV 1)) (zh)) (zd (ve (qa (eV 3) (qa (eV 2) (za)))))))))
def jv : DF := qj 2 5 jB
def waS : FS := ka (je 2 (eC (.int 0))) (ka (jm (zz (qa (eC (.int 6)) (za))) (gN 3) (ka (qg (tV (e2 vW (e2 kc (eV 1) (eV 3)) (eG wg (qa (eV 0) (za))))) (zd (ve (qa (eC (.str "truncated")) (qa (eG wg (qa (eV 0) (za))) (za))))) (zh)) (ka (je 2 (e2 kc (eV 2) (e2 zba (e2 z7 (e2 ze (eV 0) (e2 kc (eV 1) (eV 3))) (eC (.int 127))) (e2 xK (eC (.int 7)) (eV 3))))) (qg (tV (e2 yv (e2 ze (eV 0) (e2 kc (eV 1) (eV 3))) (eC (.int 128)))) (ka (qg (tV (e2 kn (e2 xaM (eV 2) (eC (.int 40))) (eC (.int 0)))) (zd (ve (qa (eC (.str "range")) (qa (eV 1) (za))))) (zh)) (ka (qg (wu (tV (e2 kn (eV 3) (eC (.int 0)))) (tV (e2 zr (e2 ze (eV 0) (e2 kc (eV 1) (eV 3))) (eC (.int 0))))) (zd (ve (qa (eC (.str "loose")) (qa (eV 1) (za))))) (zh)) (zd (ve (qa (eV 2) (qa (e2 kc (e2 kc (eV 1) (eV 3)) (eC (.int 1))) (za))))))) (zh))))) (zd (ve (qa (eC (.str "range")) (qa (eV 1) (za))))))
end
end FN
namespace DL
open PySem PySem.Spec PyProof.Rows L2
section
variable {X : Cx} {W : WX} {Cl : Nat → Addr}
theorem yF.grow {pins : List (Addr × Obj)} {a : Addr} {B : Heap} {sI : Shared} {σ : St} {H : Hp} {cls : Value} {d : Option Addr} {s : Shared} {h2 : Heap} (c : yF X pins a B sI σ H cls d s) (kp : ∀ b o, s.heap.get? b = some o → h2.get? b = some o) : yF X pins a B sI σ H cls d { s with heap := h2 } := by
  obtain ⟨f1, f2, f3, oe, ws, T, oT, ts, he, hz, hd, h1, hn, hne, hT, hdT, h3⟩ := c.fly
  exact ⟨c.inv, c.ground, c.slots.trans (Heap.UpToSlots.of_keeps kp), ⟨fun b o q => kp b o (f1 b o q), f2, f3.of_keeps fun b o q _ => ⟨o, kp b o q, rfl⟩, oe, ws, T, oT, ts, kp _ _ he, hz, hd, h1, hn, hne, kp _ _ hT, hdT, h3⟩, c.free, c.os, c.bare⟩
def zbY (X : Cx) (t : Expr) (test : Value → Bool → Prop) : Prop := ∀ (pins : List (Addr × Obj)) (a : Addr) (B : Heap) (sI : Shared) (σ : St) (H : Hp) (cls : Value) (d : Option Addr) (s : Shared) (b : Bool) (Q : Bool → Shared → Prop) (E : Value → Shared → Prop),
  X.env.frame = some X.env.locals → yF X pins a B sI σ H cls d s → test cls b → (∀ h2, (∀ q o, s.heap.get? q = some o → h2.get? q = some o) → Q b { s with heap := h2 }) →
  wpAny (model X.prog X.w) (X.A.mark (some (.ref a))) (eval t X.env) (fun c s1 => wpAny (model X.prog X.w) (X.A.mark (some (.ref a))) (excMatches (.ref a) c) Q E s1) E s
theorem vaV {pins pn : List (Addr × Obj)} {a : Addr} {σ : St} {H : Hp} {s : Shared} {x : Str} {c : Value} {p : Pos} {Q : Value → Shared → Prop} {E : Value → Shared → Prop} (S : Inv (X.suite a pn) pins σ H s) (hc : Names X x c) (q : Q c s) : wpAny (model X.prog X.w) (X.A.mark (some (.ref a))) (eval (.Name x p) X.env) Q E s := by
  obtain ⟨hg, hdbg, hm | ⟨hm, hv, hnn⟩⟩ := hc
  · exact ld_glob (X := X.suite a pn) S hg hm q hdbg
  · exact ld_blt (X := X.suite a pn) S hg hm hv q hnn hdbg
theorem vbx {x1 x2 x3 : Str} {c1 c2 c3 : Value} {p1 p2 p3 tpos : Pos} {kk : Nat} (n1 : Names X x1 c1) (n2 : Names X x2 c2) (n3 : Names X x3 c3) :
    zbY X (.Tuple [.Name x1 p1, .Name x2 p2, .Name x3 p3] kk tpos) (fun cls b => PySem.W.exmAny X.K cls [c1, c2, c3] = some b) := fun pins a B sI σ H cls d s b Q E hf ca hb q => by
  obtain ⟨ob, hob, hz, hdat, S⟩ := ca.suite hf
  have look : PySem.W.Looks (model X.prog X.w) s.heap (typeOf (.ref a)) cls := fun A Q E s' k q => wpAny_typeOf_ref (k _ _ hob) (by rw [hz.1]; exact q)
  refine wpAny_Tuple ?_
  refine wpAny_items_cons (vaV S n1 ?_)
  refine wpAny_items_cons (vaV S n2 ?_)
  refine wpAny_items_cons (vaV S n3 ?_)
  refine wpAny_items_nil ⟨by size_fits, ?_⟩
  have kp : ∀ q o, s.heap.get? q = some o → (s.heap.push { cls := .type "tuple", data := .seq [c1, c2, c3].toArray }).get? q = some o := fun _ _ z => Heap.get?_push_of_some _ z
  exact (PySem.W.exm_tup3 (M := model X.prog X.w) ((ca.now.kIn).keeps kp) (look.keeps kp) (Heap.get?_push_size s.heap rfl) hb).here (q _ kp)
theorem ybo {D : Ends} {t : Expr} {test : Value → Bool → Prop} {b0 : Stmt} {suite : List Stmt} {pos' : Pos} {hds : List ExceptHandler} {rest : WX} {ts : Addr → Value → Option Addr → TS} (ok : X.Ok) (hf : X.env.frame = some X.env.locals) (ht : zbY X t test)
    (hsu : ∀ (a : Addr) (oe : Obj) (cls : Value) (d : Option Addr) (pn : List (Addr × Obj)), Zc cls d oe → (∃ vs, oe.data = .fields vs) → PSs (X.suite a ((a, oe) :: pn)) (b0 :: suite) (ts a cls d)) (hr : x6 X hds D rest) :
    x6 X (.ExceptHandler (some t) none (b0 :: suite) pos' :: hds) D (jbY test ts D rest) := fun pins a B sI σ H cls d s ca ⟨b, hb, yes, no⟩ => by
  refine wpAny_handleBy_cons (codeAny_handlers_test (ht pins a B sI σ H cls d s b _ _ hf ca hb fun h2 kp => ?_)) (by intro q; cases q)
  have ca2 := ca.grow kp
  cases b with
  | false => exact hr pins a B sI σ H cls d _ ca2 (no rfl)
  | true =>
    refine codeAny_handlers_suite (HandSPX.lands_againZ ca2.fly fun h4 fl up => ?_)
    have ca4 := ca2.again fl up
    obtain ⟨ob4, _, hz4, hdat4, S4⟩ := ca4.suite hf
    refine wpAny_mono ((hsu a ob4 cls d (X.pn ++ pins) hz4 hdat4).run [] _ _ H _ S4 (yes rfl a ca.free)) (fun fl s6 r => ?_) (fun _ _ z => z.elim)
    cases fl with
    | next => obtain ⟨σ6, H6, S6, q6⟩ := r; exact ⟨σ6, H6, S6.unsuite ok, q6⟩
    | brk => obtain ⟨σ6, H6, S6, q6⟩ := r; exact ⟨σ6, H6, S6.unsuite ok, q6⟩
    | cont => obtain ⟨σ6, H6, S6, q6⟩ := r; exact ⟨σ6, H6, S6.unsuite ok, q6⟩
    | ret u => obtain ⟨v6, σ6, H6, S6, r6, q6⟩ := r; exact ⟨v6, σ6, H6, S6.unsuite ok, r6, q6⟩
theorem jaM {K : PySem.W.Frag} {cls c1 c2 c3 : Value} {b1 b2 b3 : Bool} (h1 : PySem.W.exmOne K cls c1 = some b1) (h2 : PySem.W.exmOne K cls c2 = some b2) (h3 : PySem.W.exmOne K cls c3 = some b3) : PySem.W.exmAny K cls [c1, c2, c3] = some (b1 || (b2 || b3)) := by
  simp [PySem.W.exmAny, h1, h2, h3]
theorem ybP {x1 x2 x3 : Str} {p1 p2 p3 tpos : Pos} {kk : Nat} {N : Nat → Prop} {C1 C2 C3 : Value} {b0 : Stmt} {suite : List Stmt} {pos' : Pos} {hds : List ExceptHandler} {rest : HF} {m : Nat → Option Bool} {g : FS} (hf : X.env.frame = some X.env.locals) (n1 : Names X x1 C1) (n2 : Names X x2 C2) (n3 : Names X x3 C3)
    (hm : ∀ c b, m c = some b → N c ∧ PySem.W.exmAny X.K (.ref (Cl c)) [C1, C2, C3] = some b)
    (hsu : ∀ (a : Addr) (oe : Obj) (pn : List (Addr × Obj)), xO (X.suite a ((a, oe) :: pn)) Cl W0 (b0 :: suite) g) (hr : DHs X Cl W hds rest) :
    DHs X Cl W (.ExceptHandler (some (.Tuple [.Name x1 p1, .Name x2 p2, .Name x3 p3] kk tpos)) none (b0 :: suite) pos' :: hds) (jae m g rest) := by
  obtain ⟨wr, h1, h2⟩ := hr
  refine ⟨_, fun D ok => ybo (ts := fun _ _ _ => xas X.K Cl W0 g) ok hf (vbx n1 n2 n3) (fun a oe cls d pn hz hdat => ⟨fun pins s σ H D I q => (hsu a oe pn).run pins s σ H D I q⟩) (h1 D ok), fun D H0 Z o c i ρ σ H dd e I hd q => ?_⟩
  unfold jae at e
  cases e1 : m c with
  | none => rw [e1] at e; cases e
  | some b =>
    rw [e1] at e
    obtain ⟨hlt, hb⟩ := hm c b e1
    refine ⟨b, hb, fun hb1 a na => ?_, fun hb0 => ?_⟩
    · subst hb1
      dsimp only at e
      cases e2 : g ρ with
      | none => rw [e2] at e; cases e
      | some o2 =>
        rw [e2] at e
        refine ⟨H0, Z, _, o2, I, e2, ?_⟩
        cases o2 with
        | nx ρ2 => cases e; exact q
        | brk ρ2 => cases e; exact q
        | ct ρ2 => cases e; exact q
        | ret d => cases e; exact q
        | retF ds => cases e; exact q
        | retX ds k => cases e; exact q
        | exc _ _ _ => cases e
    · subst hb0
      exact h2 D H0 Z o c i ρ σ H dd e I hd q
end
section
variable {X : Cx} {Cl : Nat → Addr} {W : WX} {e : Expr} {p pos : Pos} {g : FA}
@[simp] def ka9 (g : FA) (ρ : ya) : Option (Except Er (List D)) := match g ρ with
  | none => none
  | some (.error e) => some (.error e)
  | some (.ok vs) => match vs with
    | [.s (.list ds)] => some (.ok (kaH ds))
    | [.f ds] => some (.ok (kaH ds))
    | [.s (.tuple ds)] => some (.ok (kaH ds))
    | _ => none
end
end DL
namespace FN
open PySem PySem.Spec PyProof.Rows L2 DL
noncomputable section
def waY : FS := ka (je 1 (ve (qa (eC (.int 4)) (qa (eC (.int 4294967295)) (qa (eC (.int 4294967295)) (qa (eC (.int 15)) (qa (eC (.int 16777215)) (qa (eC (.int 1099511627775)) (qa (eC (.int 16777215)) (qa (eC (.int 1)) (za))))))))))) (ka (jm (ka9 (qa (eV 1) (za))) (gT 2 (xb 2 (xb 3 (ki)))) (qg (ju (tV (e2 yv (e2 ze (eV 0) (eV 2)) (eC (.int 0)))) (tV (e2 kn (e2 ze (eV 0) (eV 2)) (eV 3)))) (zm 1 (eV 2)) (zh))) (qg (tV (e2 kn (eG wg (qa (e2 ze (eV 0) (eC (.int 8))) (za))) (eC (.int 1024)))) (zm 1 (eC (.int 8))) (zh)))
def qaY : DF := qj 1 4 waY
def yI : FS := ka (yas (vA (gT 2 (xb 3 (xb 4 (ki)))) (jb FN.jv 2 (qa (eV 0) (qa (eV 1) (za))))) (jae (mxL [(1, true), (2, true), (3, true)]) (zd (ve (qa (eC .none) (qa (eV 1) (za))))) (zaM))) (ka (qg (tV (e2 kn (eV 3) (eV 2))) (zd (ve (qa (eC .none) (qa (eV 1) (za))))) (zh)) (zd (ve (qa (eV 3) (qa (eV 4) (za))))))
def vy : DF := qj 3 5 yI
end
end FN
namespace DL
open PySem PySem.Spec PyProof.Rows L2
section
variable {X : Cx} {Cl : Nat → Addr} {W : WX} {K : PySem.W.Frag} {pos : Pos}
end
variable {K : PySem.W.Frag} {Cl : Nat → Addr}
@[simp] def ycJ : List Val → Option Val
  | [v] => v.items.map fun ds => .s (.tuple ds)
  | _ => none
section
variable {X : Cx} {Cl : Nat → Addr} {W : WX} {K : PySem.W.Frag} {pos : Pos} {e : Expr} {es : List Expr} {g : FA}
end
section
variable {X : Cx} {Cl : Nat → Addr} {W : WX} {K : PySem.W.Frag} {pos : Pos} {a b : Expr} {fa fb : FE}
@[simp] def ybx (a b : Val) : Option Val := match a, b with
  | .s (.tuple xs), .s (.tuple ys) => if (!xs.isEmpty && !ys.isEmpty && vj (xs.length + ys.length)) = true then some (.s (.tuple (xs ++ ys))) else none
  | _, _ => none
theorem kb7 : wU K (rCatT K) ybx := fun Cl Z σ ρ H0 H x y a b v Q I s ha hb e q => by
  unfold ybx at e
  split at e
  · rename_i xs ys
    split at e
    · rename_i hl
      cases e
      simp only [Bool.and_eq_true, Bool.not_eq_true'] at hl
      obtain ⟨p, us, rfl, h1, h2⟩ := Dp.wx (show Dp K (hide H (Zo Z σ ρ)) x (.tuple xs) from ha)
      obtain ⟨r, ws, rfl, h3, h4⟩ := Dp.wx (show Dp K (hide H (Zo Z σ ρ)) y (.tuple ys) from hb)
      have n1 : us ≠ [] := fun z => by
        have := h2.length
        rw [z] at this
        have e0 : xs = [] := List.length_eq_zero_iff.mp this.symm
        rw [e0] at hl
        exact absurd hl.1.1 (by simp)
      have n2 : ws ≠ [] := fun z => by
        have := h4.length
        rw [z] at this
        have e0 : ys = [] := List.length_eq_zero_iff.mp this.symm
        rw [e0] at hl
        exact absurd hl.1.2 (by simp)
      refine ⟨p, r, us, ws, rfl, rfl, SqT.same qd h1, SqT.same qd h3, n1, by rw [h2.length, h4.length]; exact js hl.2, fun z => absurd z n2, fun _ l nl => q _ _ (zl nl) ?_⟩
      have n0 : H0 l = none := s.free nl
      have nz : ¬ Zo Z σ ρ l := fun z => I.yy z n0
      exact .tup (SqT.of (vc nz upd_same)) (DpAll.same (jc (qP nl) fun _ z => .inl z) (h2.append h4))
    · cases e
  · cases e
@[simp] def qaI (a b : Val) : Option Val := (kc a b).or (ybx a b)
theorem xbs (ha : DE X Cl W a fa) (hb : DE X Cl W b fb) : DE X Cl W (.BinOp a .Add b pos) (e2 qaI fa fb) := jah ((op_add.or kbs).or op_catT) (((waM fun i j _ => .int _).or jbG).or kb7) ha hb
end
section
variable {X : Cx} {Cl : Nat → Addr} {W : WX} {K : PySem.W.Frag} {pos : Pos} {a b c : Expr} {fa fb fc : FE}
def wbG : List Nat → List D → ya → ya
  | i :: is, d :: ds, ρ => wbG is ds (ρ.set i (.dat d))
  | _, _, ρ => ρ
def stT (is : List Nat) : ya → D → Option ya := fun ρ d => match d with
  | .tuple ds => if ds.length = is.length then some (wbG is ds ρ) else none
  | _ => none
end
section
variable {X : Cx} {Cl : Nat → Addr} {W : WX} {K : PySem.W.Frag} {pos apos : Pos} {o e : Expr} {fo fe : FE}
@[simp] def kcf : List Val → Option Val
  | [v] => match v.d with
    | .str x => if x.length = 1 then some (.s (.int (x.cps.getD 0 0 : Nat))) else none
    | _ => none
  | _ => none
end
section
variable {K : PySem.W.Frag} {Cl : Nat → Addr}
@[simp] def zcZ (a b : Val) : Option Val := match a.d, b.d with
  | .bool x, .bool y => some (.s (.bool (decide (x = y))))
  | _, _ => none
@[simp] def kcX (a b : Val) : Option Val := match a.d, b.d with
  | .bool x, .bool y => some (.s (.bool (!decide (x = y))))
  | _, _ => none
end
section
variable {X : Cx} {Cl : Nat → Addr} {W : WX} {e tg : Expr} {es : List Expr} {f : FE} {g : FA} {p pos : Pos} {K : PySem.W.Frag}
def xcq (lo : Int) (n : Nat) : List D := (List.range n).map fun (i : Nat) => .int (lo - (i : Int))
@[simp] def jb8 (g : FA) (ρ : ya) : Option (Except Er (List D)) := match g ρ with
  | none => none
  | some (.error e) => some (.error e)
  | some (.ok vs) => match vs with
    | [v, u, w] => match v.d, u.d, w.d with
      | .int i, .int j, .int k => if (qY i && (qY j && k == -1)) = true then some (.ok (xcq i (i - j).toNat)) else none
      | _, _, _ => none
    | _ => none
def qcg (ds es : List D) : List D := (ds.zip es).map fun p => .tuple [p.1, p.2]
@[simp] def jaI : Val → Option (List D)
  | .s (.list ds) => some ds
  | .f ds => some ds
  | _ => none
theorem zu.lst {Z : Addr → Prop} {σ : St} {ρ : ya} {H H1 : Hp} {x : V} {v : Val} {ds : List D} (I : DI K Cl Z H σ ρ) (h : zu K Z σ ρ H H1 x v) (e : jaI v = some ds) : ∃ a xs, x = .ref a ∧ Rd (hide H1 (Zo Z σ ρ)) a (.lst xs) ∧ DpAll K (hide H1 (Zo Z σ ρ)) xs ds := by
  unfold jaI at e
  split at e
  · cases e
    obtain ⟨a, xs, rfl, h1, h2⟩ := Dp.lst_inv (show Dp K (hide H1 (Zo Z σ ρ)) x (.list ds) from h)
    exact ⟨a, xs, rfl, h1, h2⟩
  · cases e
    obtain ⟨a, xs, rfl, n, h1, h2⟩ := h
    have np : ¬ Zo Z σ ρ a := fun z => I.yy z n
    have sm : yb (hide H1 (ZP (Zo Z σ ρ) a)) (hide H1 (Zo Z σ ρ)) := jc (yb.refl _) fun _ h => .inl (.inl h)
    exact ⟨a, xs, rfl, Rd.of (vc np h1), DpAll.same sm h2⟩
  · cases e
@[simp] def vbY (g : FA) (ρ : ya) : Option (Except Er (List D)) := match g ρ with
  | none => none
  | some (.error e) => some (.error e)
  | some (.ok vs) => match vs with
    | [v, u] => match jaI v, jaI u with
      | some ds, some es => some (.ok (qcg ds es))
      | _, _ => none
    | _ => none
@[simp] def jcZ (a b : Val) : Option Val := match b.d with
  | .list ds => if (SeqAt.shaped a.d && SeqAt.shaped (.list ds)) = true then some (.s (.bool (ds.any fun z => PyData.eqv z a.d))) else none
  | _ => none
@[simp] def ycI (a b : Val) : Option Val := match b.d with
  | .list ds => if (SeqAt.shaped a.d && SeqAt.shaped (.list ds)) = true then some (.s (.bool (!ds.any fun z => PyData.eqv z a.d))) else none
  | _ => none
end
section
variable {X : Cx} {Cl : Nat → Addr} {W : WX} {K : PySem.W.Frag}
def jaq (ds : List D) : List D := ds.mergeSort (PySem.W.dataLe false id)
structure jaD (ds : List D) : Prop where
  al : PySem.W.AllAlike ds
  so : PySem.W.Sortable ds
  dp : ∀ d ∈ ds, PyData.depth d ≤ 50
  ln : ds.length ≤ 16777216
  ly : PyData.canLayAll0 ds = true
theorem yaP : ∀ {ds : List D}, PyData.canLayAll0 ds = true → ∀ d ∈ ds, PyData.canLay0 d = true
  | [], _, d, h => nomatch h
  | e :: ds, h, d, hd => by
    have h' : (PyData.canLay0 e && PyData.canLayAll0 ds) = true := h
    rw [Bool.and_eq_true] at h'
    rcases List.mem_cons.mp hd with rfl | hd
    · exact h'.1
    · exact yaP h'.2 d hd
theorem DpAll.zip : ∀ {H : Hp} {xs : List V} {ds : List D}, DpAll K H xs ds → ∀ x d, (x, d) ∈ xs.zip ds → Dp K H x d
  | _, _, _, .nil, x, d, h => nomatch h
  | _, _, _, .cons h t, x, d, hm => by
    rcases List.mem_cons.mp hm with e | hm
    · cases e
      exact h
    · exact t.zip x d hm
theorem DpAll.unzip : ∀ {H : Hp} (bs : List (V × D)), (∀ b ∈ bs, Dp K H b.1 b.2) → DpAll K H (bs.map (·.1)) (bs.map (·.2))
  | _, [], _ => .nil
  | _, b :: bs, h => .cons (h b List.mem_cons_self) (DpAll.unzip bs fun c hc => h c (List.mem_cons_of_mem _ hc))
theorem zbt : ∀ {xs : List V} {ds : List D}, xs.length = ds.length → (xs.zip ds).map (·.2) = ds
  | [], [], _ => rfl
  | x :: xs, d :: ds, h => by
    rw [List.zip_cons_cons, List.map_cons, zbt (by simpa using h)]
  | [], _ :: _, h => by simp at h
  | _ :: _, [], h => by simp at h
theorem xaV : ∀ {xs : List V} {ds : List D} {us : List Value} {R : Value → V × D → Prop}, Vals xs us → xs.length = ds.length → (∀ u x d, RelV x u → (x, d) ∈ xs.zip ds → R u (x, d)) → PySem.W.EachIs R us (xs.zip ds)
  | [], [], _, R, .nil, _, _ => .nil
  | x :: xs, d :: ds, _, R, .cons r rr, hl, h => .cons (h _ _ _ r List.mem_cons_self) (xaV rr (by simpa using hl) fun u y e ry hm => h u y e ry (List.mem_cons_of_mem _ hm))
  | [], _ :: _, _, _, _, h, _ => by simp at h
  | _ :: _, [], _, _, _, h, _ => by simp at h
theorem wa1 : ∀ {bs : List (V × D)} {us : List Value}, PySem.W.EachIs (fun u b => RelV b.1 u) us bs → Vals (bs.map (·.1)) us
  | _, _, .nil => .nil
  | _, _, .cons h t => .cons h (wa1 t)
open Classical in
noncomputable def kcq : List Val → Option Val
  | [v] => match v.items with
    | some ds => if jaD ds then some (.f (jaq ds)) else none
    | none => none
  | _ => none
end
section
variable {P : Program} {w : World} {K : PySem.W.Frag} {Cl : Nat → Addr} {mg : Str → Option Value} {base : Heap}
def FnG (P : Program) (w : World) (K : PySem.W.Frag) (mg : Str → Option Value) (base : Heap) (CX : CXT) (k : Nat) (f : Addr) (fd : FuncData) (ps : List Str) (sp : Sp) : Prop :=
  ∀ (A : Around) (o : List Env) (s : Shared) (H : Hp) (ar : Args) (us : List Value) (vs : List V) (Q : VK) (E : XK), Room k A → A.guards = some [] → Env0 P w K mg base A o s H →
    BindsTo s fd ar (ps.zip us) → Vals vs us → sp vs H Q E → codeAny (model P w) A (.call (.ref f) ar) (CR CX o P w H s Q E) s
end
structure qbH (d : D) : Prop where
  ly : PyData.canLay0 d = true
  sh : PyData.showable d = true
  ln : (PyData.shown d).length ≤ 16777216
  dp : PyData.depth d ≤ 50
section
variable {X : Cx} {K : PySem.W.Frag} {Cl : Nat → Addr}
@[simp] def wcZ : D → Bool
  | .list _ => true
  | .tuple _ => true
  | _ => false
end
section
variable {P : Program} {w : World} {K : PySem.W.Frag} {Cl : Nat → Addr} {mg : Str → Option Value} {base : Heap} 
theorem FnG.imp {CX : CXT} {k : Nat} {f : Addr} {fd : FuncData} {ps : List Str} {sp sp' : Sp} (F : FnG P w K mg base CX k f fd ps sp) (h : ∀ vs H Q E, sp' vs H Q E → sp vs H Q E) : FnG P w K mg base CX k f fd ps sp' :=
  fun A o s H ar us vs Q E r g e b v p => F A o s H ar us vs Q E r g e b v (h _ _ _ _ p)
theorem zbH {X : Cx} {N : List Str} {n m : Nat} {fb : FS} {bd : List Stmt} {vs : List V} {H : Hp} {Q : VK} {E : XK} (eK : X.K = K) (hm : N.length = m) (h : xO X Cl (fun cls d _ H' => E cls d H') bd fb) (sp : xH K Cl n (qj n m fb) vs H Q E) :
    ∃ t, PSs X bd t ∧ t { nx := fun _ H' => Q .non H', rt := Q } (L2.start N vs) H := by
  subst eK
  refine ⟨_, h, ?_⟩
  obtain ⟨Z, ds, o, live, h1, h2, e, q⟩ := sp
  unfold qj at e
  have vw : L2.start N vs = vs.map some ++ List.replicate (m - n) none := by
    unfold L2.start
    rw [hm, h1.length, h2]
  rw [vw]
  cases eb : fb (ds.map .dat ++ List.replicate (m - n) .un) with
  | none => rw [eb] at e; cases e
  | some ob =>
    rw [eb] at e
    have I := DI.start (m := m - n) live h1
    have noO : ∀ a, vg (vs.map some ++ List.replicate (m - n) none) (ds.map .dat ++ List.replicate (m - n) .un) a → H a = none := fun a ⟨i, ho⟩ => (vba ho).elim
    refine ⟨H, Z, _, ob, ⟨I, Same.refl _, noO⟩, eb, ?_⟩
    cases ob with
    | nx ρ => cases e; exact fun σ' H' I' => q .non H' I'.same .non
    | ret d => cases e; exact q
    | retF es => cases e; exact q
    | retX ds k => cases e; exact q
    | exc ρ c i => cases e; exact fun dd σ' H' I' hd => q dd H' I'.same hd
    | brk ρ => cases e
    | ct ρ => cases e
end
section
variable {X : Cx} {Cl : Nat → Addr} {W : WX} {K : PySem.W.Frag} {a b e : Expr} {fa fb f : FE} {pos : Pos}
@[simp] def qcY (i : Nat) (f : FE) (ρ : ya) : Option Out := match ρ[i]? with
  | some (.dat (.str a)) => sE f (fun v ρ => match v.d with
    | .str b => if vj (a.length + b.length) = true then some (.nx (ρ.set i (.dat (.str (a ++ b))))) else none
    | _ => none) ρ
  | _ => none
end
section
variable {X : Cx} {Cl : Nat → Addr} {W : WX} {K : PySem.W.Frag}
@[simp] def vcZ (i : Nat) (vs : List Nat) (st : ya → D → Option ya) (tt : FT) (fe : FE) (ρ : ya) : Option (Except Er Val) := if noOwn ρ vs = true then match ρ[i]? with
  | some (.own ds) => match lcL tt fe (st (vm ρ vs)) ds with
    | some es => if vj es.length = true then some (.ok (.f es)) else none
    | none => none
  | _ => none else none
variable {elt tg iter : Expr} {ifs : List Expr} {scope : Scope} {own : List (Str × Nat)} {pos : Pos} {g : TG} {tt : FT} {fe : FE} {vs : List Nat} {st : ya → D → Option ya} {i0 : Nat}
end
section
variable {X : Cx} {K : PySem.W.Frag} {Cl : Nat → Addr}
@[simp] def ycZ (a b : Val) : Option Val := match a.d, b.d with
  | .str i, .str j => some (.s (.bool (decide (i = j))))
  | _, _ => none
@[simp] def xcZ (a b : Val) : Option Val := match a.d, b.d with
  | .str i, .str j => some (.s (.bool (!decide (i = j))))
  | _, _ => none
end
section
variable {X : Cx} {K : PySem.W.Frag} {Cl : Nat → Addr}
end
def jbt (k : Int) (a e it : Addr) (i : Nat) (h : Heap) : Prop := (∃ old, IsEnum h e it (k + (i : Int)) old) ∧ h.IsListIter it a i ∧ e ≠ it
theorem jbt.cell {k : Int} {a e it : Addr} {i : Nat} {h : Heap} (c : jbt k a e it i h) {b : Addr} (m : b = e ∨ b = it) : ∃ o, h.get? b = some o ∧ ∀ v, o.data ≠ .cell v := by
  obtain ⟨⟨old, q⟩, ⟨o, q1, q2, q3⟩, _⟩ := c
  rcases m with rfl | rfl
  · exact ⟨_, q, fun v z => nomatch z⟩
  · exact ⟨o, q1, fun v z => by rw [q3] at z; cases z⟩
section
variable {M : Model} {A : Around} {E : Value → Shared → Prop} {s : Shared} {env : Env}
end
def kcx (k : Int) (ds : List D) : List D := ds.zipIdx.map fun p => .tuple [.int (k + (p.2 : Int)), p.1]
section
variable {X : Cx} {Cl : Nat → Addr} {W : WX} {e : Expr} {p pos : Pos} {g : FA}
@[simp] def jbH (k : Int) (g : FA) (ρ : ya) : Option (Except Er (List D)) := match g ρ with
  | some (.ok vs) => match vs with
    | [.s (.list ds)] => some (.ok (kcx k ds))
    | _ => none
  | _ => none
end
section
variable {X : Cx} {Cl : Nat → Addr} {W : WX} {K : PySem.W.Frag} {pos : Pos}
def ycg (y x : Str) : Bool := !(Builtin.Str.occurrences y x 0 y.length 1).isEmpty
@[simp] def qc0 (a b : Val) : Option Val := match a.d, b.d with
  | .str i, .str j => some (.s (.bool (ycg j i)))
  | _, _ => none
@[simp] def xcI (a b : Val) : Option Val := match a.d, b.d with
  | .str i, .str j => some (.s (.bool (!ycg j i)))
  | _, _ => none
end
end DL
namespace FN
open PySem PySem.Spec PyProof.Rows L2 DL
noncomputable section
def zbp : FS := ka (je 1 (eG wg (qa (jb FN.ko 1 (qa (eG wg (qa (eV 0) (za))) (za))) (za)))) (ka (jm (jn (eV 0)) (gN 2) (jm (jn (eV 2)) (gN 3) (zak 1 (fun i j => i + j) (e2 kc (eG wg (qa (jb FN.ko 1 (qa (eG wg (qa (eV 3) (za))) (za))) (za))) (eG wg (qa (eV 3) (za))))))) (zd (eV 1)))
def jbp : DF := qj 1 4 zbp
def vbN : FS := ka (qg (ju (tV (e2 yv (eG wg (qa (eV 0) (za))) (eC (.int 1)))) (tV (e2 kn (eG wg (qa (eV 0) (za))) (eC (.int 16))))) (zd (eC (.bool false))) (zh)) (ka (jm (jn (eV 0)) (gN 1) (qg (ju (tV (e2 yv (eV 1) (eC (.str "a")))) (tV (e2 kn (eV 1) (eC (.str "z"))))) (zd (eC (.bool false))) (zh))) (zd (eC (.bool true))))
def ja4 : DF := qj 1 2 vbN
def ybN : FS := ka (qg (tV (e2 kn (eG wg (qa (eV 0) (za))) (eV 1))) (zd (eC (.bool false))) (zh)) (ka (jm (jn (eV 0)) (gN 2) (qg (ju (tV (e2 yv (eV 2) (eC (.str " ")))) (ju (tV (e2 kn (eV 2) (eC (.str "~")))) (tV (e2 zr (eG kcf (qa (eV 2) (za))) (eC (.int 37)))))) (zd (eC (.bool false))) (zh))) (zd (eC (.bool true))))
def wa4 : DF := qj 2 3 ybN
def wbC : FS := ka (je 1 (eC (.str ""))) (ka (jm (jn (eV 0)) (gT 2 (xb 2 (xb 3 (ki)))) (ka (qg (ju (kK (tV (jb FN.ja4 1 (qa (eV 2) (za))))) (kK (tV (jb FN.wa4 2 (qa (eV 3) (qa (eC (.int 100)) (za))))))) (zd (eC (.bool false))) (zh)) (ka (qg (tV (e2 kbc (eV 2) (eV 1))) (zd (eC (.bool false))) (zh)) (je 1 (eV 2))))) (zd (e2 kbc (jb FN.jbp 1 (qa (eV 0) (za))) (eC (.int 1024)))))
def vbC : DF := qj 1 4 wbC
def wbi : FS := ka (qg (tV (e2 kn (eG wg (qa (eV 0) (za))) (eC (.int 200)))) (zd (eC (.bool false))) (zh)) (ka (jm (jn (eV 0)) (gN 1) (qg (ju (tV (e2 yv (eV 1) (eC (.int 0)))) (tV (e2 kn (eV 1) (eC (.int 255))))) (zd (eC (.bool false))) (zh))) (zd (eC (.bool true))))
def vbi : DF := qj 1 2 wbi
def wbp : FS := ka (qg (tV (e2 kn (eG wg (qa (eV 0) (za))) (eC (.int 300)))) (zd (eC (.bool false))) (zh)) (ka (je 1 (eC (.int 0))) (ka (je 2 (eC (.bool false))) (ka (jm (jn (eV 0)) (gT 4 (xb 3 (xb 4 (xb 5 (xb 6 (ki)))))) (ka (qg (ju (tV (e2 yv (eV 3) (eV 1))) (tV (e2 kn (eV 3) (eC (.int 1099511627775))))) (zd (eC (.bool false))) (zh)) (ka (qg (ju (tV (e2 yv (eV 4) (eC (.int 1)))) (tV (e2 kn (eV 4) (eC (.int 16777215))))) (zd (eC (.bool false))) (zh)) (ka (qg (ju (kK (tV (jb FN.vbi 1 (qa (eV 5) (za))))) (wu (tV (eV 6)) (kK (tV (eV 2))))) (zd (eC (.bool false))) (zh)) (ka (je 1 (e2 kc (eV 3) (eV 4))) (je 2 (eC (.bool true)))))))) (zd (eC (.bool true))))))
def vbp : DF := qj 1 7 wbp
def ybC : FS := ka (vA (gT 3 (xb 1 (xb 2 (xb 3 (ki))))) (eV 0)) (zd (waI (jb FN.wa4 2 (qa (eV 1) (qa (eC (.int 32)) (za)))) (waI (jb FN.ja4 1 (qa (eV 2) (za))) (jb FN.vbp 1 (qa (eV 3) (za))))))
def xbC : DF := qj 1 4 ybC
def vaK : FS := ka (vA (gT 4 (xb 1 (xb 2 (xb 3 (xb 4 (ki)))))) (eV 0)) (ka (qg (ju (tV (e2 yv (eV 1) (eC (.int 1)))) (tV (e2 kn (eV 1) (eC (.int 90000))))) (zd (eC (.bool false))) (zh)) (ka (qg (ju (tV (e2 yv (eV 2) (eC (.int 0)))) (tV (e2 kn (eV 2) (eC (.int 1099511627775))))) (zd (eC (.bool false))) (zh)) (ka (qg (tV (e2 kn (eG wg (qa (eV 3) (za))) (eC (.int 15)))) (zd (eC (.bool false))) (zh)) (ka (jm (jn (eV 3)) (gN 5) (qg (kK (tV (jb FN.xbC 1 (qa (eV 5) (za))))) (zd (eC (.bool false))) (zh))) (zd (jb FN.vbC 1 (qa (eV 4) (za))))))))
def yaK : DF := qj 1 6 vaK
end
noncomputable section
def qV : FS := ka (vA (gT 2 (xb 4 (xb 5 (ki)))) (jb FN.vy 3 (qa (eV 0) (qa (eV 1) (qa (eV 3) (za)))))) (ka (qg (ju (tV (e2 kaM (eV 4) (eC .none))) (tV (e2 yv (eV 4) (eV 2)))) (zm 18 (eC (.int 0))) (zh)) (zd (ve (qa (eV 4) (qa (eV 5) (za))))))
def zB : DF := qj 4 6 qV
def vbW : FS := zd (jI [1] (st1 1) (jn (eV 0)) (fun _ => some (.ok true)) (eG kcf (qa (eV 1) (za))))
def ybi : DF := qj 1 2 vbW
end
noncomputable section
end
noncomputable section
def wal : FS := ka (je 2 (eG kba (qa (eG wg (qa (eV 0) (za))) (qa (eG wg (qa (eV 1) (za))) (za))))) (ka (je 3 (eC (.int 0))) (ka (wak (wu (tV (e2 yv (eV 3) (eV 2))) (tV (e2 zr (e2 ze (eV 0) (eV 3)) (e2 ze (eV 1) (eV 3))))) (zak 3 (fun i j => i + j) (eC (.int 1)))) (ka (je 4 (eC (.int 0))) (ka (wak (wu (tV (e2 yv (eV 4) (e2 gSub (eV 2) (eV 3)))) (tV (e2 zr (e2 ze (eV 0) (e2 gSub (e1 xay (eC (.int 1))) (eV 4))) (e2 ze (eV 1) (e2 gSub (e1 xay (eC (.int 1))) (eV 4)))))) (zak 4 (fun i j => i + j) (eC (.int 1)))) (zd (ve (qa (eV 3) (qa (eV 4) (qa (qH (eV 1) (xp (eV 3)) (xp (e2 gSub (eG wg (qa (eV 1) (za))) (eV 4)))) (za))))))))))
def jG : DF := qj 2 5 wal
def va4 : FS := ka (vA (gT 3 (xb 2 (xb 3 (xb 4 (ki))))) (eV 1)) (ka (qg (tV (e2 kn (e2 kc (eV 2) (eV 3)) (eG wg (qa (eV 0) (za))))) (zm 17 (eC (.int 0))) (zh)) (ka (je 5 (e2 kc (e2 kc (qH (eV 0) (qx) (xp (eV 2))) (eV 4)) (qH (eV 0) (xp (e2 gSub (eG wg (qa (eV 0) (za))) (eV 3))) (qx)))) (ka (qg (tV (e2 gNe (jb FN.jG 2 (qa (eV 0) (qa (eV 5) (za)))) (ve (qa (eV 2) (qa (eV 3) (qa (eV 4) (za))))))) (zm 17 (eC (.int 1))) (zh)) (zd (eV 5)))))
end
end FN
namespace DL
open PySem PySem.Spec PyProof.Rows L2
section
variable {X : Cx} {Cl : Nat → Addr} {W : WX} {K : PySem.W.Frag} {e : Expr} {es : List Expr} {f : FE} {pos p : Pos} {ta : TA}
def excOf : D → Option (Addr × Int)
  | .dict [(.str _, .int i), (.int (.ofNat C), .none)] => some (C, i)
  | _ => none
@[simp] theorem jcu (C : Addr) (i : Int) : excOf (ycx C i) = some (C, i) := rfl
end
end DL
namespace DL
open PySem PySem.Spec PyProof.Rows L2
end DL
namespace DL
open PySem PySem.Spec PyProof.Rows L2
mutual
def zaQ : D → Bool
  | .none => true | .bool _ => true | .int _ => true | .str _ => true
  | .tuple ds => vav ds
  | _ => false
def vav : List D → Bool
  | [] => true
  | d :: ds => zaQ d && vav ds
end
section
variable {K : PySem.W.Frag} {Cl : Nat → Addr} {Z : Addr → Prop} {H : Hp} {p : Addr} {ys : List V}
theorem xbY {b : Addr} {o : HO} (hp : H p = some (.lst ys)) (e : hide H Z b = some o) (n : o ≠ .lst ys) : hide H (ZP Z p) b = some o := by
  obtain ⟨h1, h2⟩ := yf e
  refine vc (fun z => ?_) h2
  rcases z with z | z
  · exact h1 z
  · rw [z, hp] at h2
    exact n (Option.some.inj h2).symm
mutual
theorem Dp.free (hp : H p = some (.lst ys)) : ∀ {v : V} {d : D}, zaQ d = true → Dp K (hide H Z) v d → Dp K (hide H (ZP Z p)) v d
  | _, _, _, .non => .non
  | _, _, _, .bl b => .bl b
  | _, _, _, .int i => .int i
  | _, _, _, .str x => .str x
  | _, _, c, .lst h t => nomatch c
  | _, _, c, .tup h t => by
    refine .tup ?_ (DpAll.free hp c t)
    rcases h with (h | ⟨o, h⟩) | h
    · exact .inl (.inl (xbY hp h fun z => by cases z))
    · exact .inl (.inr ⟨o, xbY hp h fun z => by cases z⟩)
    · exact .inr h
  | _, _, c, .yO h => nomatch c
  | _, _, c, .exc _ _ => nomatch c
theorem DpAll.free (hp : H p = some (.lst ys)) : ∀ {vs : List V} {ds : List D}, vav ds = true → DpAll K (hide H Z) vs ds → DpAll K (hide H (ZP Z p)) vs ds
  | _, _, _, .nil => .nil
  | _, _, c, .cons h t => by
    have c' : (zaQ _ && vav _) = true := c
    rw [Bool.and_eq_true] at c'
    exact .cons (Dp.free hp c'.1 h) (DpAll.free hp c'.2 t)
end
end
section
variable {K : PySem.W.Frag} {Cl : Nat → Addr}  {W : WX} {H0 H1 : Hp} {Z : Addr → Prop} {H H' : Hp} {σ : St} {ρ : ya} {D : Ends}
theorem SI.gone (I : SI K Cl H0 Z H σ ρ) (i : Nat) : SI K Cl H0 Z H σ (ρ.set i .un) := by
  by_cases hi : i < σ.length
  · have q := I.vaq (i := i) (x := σ[i])
    have e : σ.set i σ[i] = σ := List.set_getElem_self hi
    rw [e] at q
    exact q
  · have e : ρ.set i .un = ρ := List.set_eq_of_length_le (by rw [I.di.len]; omega)
    rw [e]
    exact I
end
section
variable {X : Cx} {Cl : Nat → Addr} {W : WX} {K : PySem.W.Frag}  {pos : Pos} {e : Expr} {es : List Expr} {g : FA}
end
def xcg : List Int → Int
  | [] => 0
  | n :: ns => ns.foldl (fun a y => if a < y then y else a) n
@[simp] def zcY : List Val → Option Val
  | [v] => match v.d with
    | .list ds => match xaP ds with
      | some ns => if ns.length = 0 then none else some (.s (.int (xcg ns)))
      | none => none
    | _ => none
  | _ => none
section
variable {X : Cx} {Cl : Nat → Addr} {W : WX} {K : PySem.W.Frag} {e : Expr} {f : FE}
theorem Room.u2 {k : Nat} {A : Around} (r : Room k A) : A.units + 2 < cLine := by have := r.un; omega
@[simp] def kcg (d : Int) (v : Val) : Option Val := match v.d with
  | .list ds => match xaP ds with
    | some ns => some (.s (.int (if ns = [] then d else xcg ns)))
    | none => none
  | _ => none
end
section
variable {X : Cx} {K : PySem.W.Frag}
end
section
variable {P : Program} {w : World} {A : Around} {E : Value → Shared → Prop} {env : Env}
end
structure jcY (x : Str) (e : Expr) (k : D → Option D) : Prop where
  run : ∀ {P : Program} {w : World} {A : Around} {E : Value → Shared → Prop} {env : Env} {s : Shared} {m : Str → Option Value} {u : Value} {d kd : D} {as : List Addr} {Q : Value → Shared → Prop}, env.scope.kind = .function → env.kindOf x = some .local → s.heap.Ns env.locals m → m x = some u → Reads s.heap u d as → k d = some kd →
    (∀ v h' tk, (∀ b o, s.heap.get? b = some o → h'.get? b = some o) → Reads h' v kd [] → Q v { s with heap := h', toks := tk }) → wpAny (model P w) A (eval e env) Q E s
def kI (i : Nat) : D → Option D
  | .tuple ds => match ds[i]? with
    | some d => if wj d = true then some d else none
    | none => none
  | _ => none
structure zc0 (scope : Scope) (x : Str) : Prop where
  kind : scope.kind = .function
  co : scope.isCoroutine = false
  gen : scope.isGenerator = false
  cell : ∀ y ∈ scope.names, y.2 ≠ .cell
  loc : scope.names.lookup x = some .local
  free : ∀ y ∈ scope.names, y.2 ≠ .free
section
variable {P : Program} {w : World} {A : Around}
end
structure kbY (P : Addr) (q : Str) (H H1 : Hp) : Prop where
  old : ∀ b o, H b = some o → b ≠ P → H1 b = some o
  tab : LamX.TabS H1 P q
  nf : ∀ b o xs, H1 b = some (.frz o (.lst xs)) → H b = some (.frz o (.lst xs))
  was : ∃ ps, H P = some (.tbl ps)
theorem kbY.same {Cl : Nat → Addr} {P : Addr} {q : Str} {H H1 : Hp} (t : kbY P q H H1) (hu : ∀ p ∈ LQ, Cl p.1 = P → p.2 = q) : Same Cl H H1 := by
  obtain ⟨ps, hP⟩ := t.was
  have nP : ∀ {b : Addr} {o : HO}, H b = some o → (∀ ps, o ≠ .tbl ps) → b ≠ P := fun {b o} e n z => by
    rw [z, hP] at e
    exact n ps (Option.some.inj e).symm
  refine ⟨fun b o e n => t.old b o e (nP e fun ps z => by rw [z] at n; cases n), fun T p hp n => ?_, fun b e => ?_, t.nf⟩
  · by_cases hb : Cl p.1 = P
    · rw [hu p hp hb, hb]
      exact t.tab
    · obtain ⟨ps', h1, h2, h3⟩ := T p hp n
      refine ⟨ps', t.old _ _ h1 hb, h2, fun pos cv hc => ?_⟩
      obtain ⟨c, e1, e2⟩ := h3 pos cv hc
      exact ⟨c, e1, t.old _ _ e2 (nP e2 fun ps => LamX.codeO_ne ps)⟩
  · by_cases hb : b = P
    · obtain ⟨ps', h1, _⟩ := t.tab
      rw [hb, h1]
      intro z; cases z
    · cases q : H b with
      | none => exact absurd q e
      | some o =>
        rw [t.old b o q hb]
        intro z; cases z
section
variable {X : Cx} {pins : List (Addr × Obj)} {σ : St} {H : Hp} {s : Shared}
end
def kk (k : D → Option D) (d : D) : D := (k d).getD .none
structure kcI (k : D → Option D) (ds : List D) : Prop where
  ok : ∀ d ∈ ds, (k d).isSome = true
  al : PySem.W.AllAlike (ds.map (kk k))
  so : PySem.W.Sortable (ds.map (kk k))
  dp : ∀ d ∈ ds, PyData.depth (kk k d) ≤ 50
  ln : ds.length ≤ 16777216
  ly : PyData.canLayAll0 ds = true
section
variable {X : Cx} {Cl : Nat → Addr} {W : WX}
end
structure jc0 (K : PySem.W.Frag) (x qual : Str) (st : Stmt) (f : Addr) (fd : FuncData) (cd : Value) : Prop where
  ex : ∃ (oc : Value) (od : Option Addr) (kV doc pm : Value) (an : Option Addr) (ct : Value) (osl : Array (Option Value)),
    fd = PySem.W.fnOf x qual (defArgs st) (defBody st) (defScope st) .none kV doc pm an cd ct ∧ K.lookup f = some ⟨oc, od, .func fd, osl⟩ ∧ PySem.W.codeIn K cd qual = true
section
variable {P : Program} {w : World} {K : PySem.W.Frag} {mg : Str → Option Value} {base : Heap} {Cl : Nat → Addr}
end
theorem qu.vcy {K : PySem.W.Frag} {Cl : Nat → Addr} {Hs : Hp} {a : Addr} {u : HO} {c : Cell} (h : qu K Cl Hs a u c) : ∀ fs, u ≠ .xd fs := fun fs z => by
  cases c with
  | set ks =>
    obtain ⟨L, rfl, _, _⟩ := h
    cases z
  | lst ds =>
    obtain ⟨xs, rfl, _⟩ := h
    cases z
  | dic ps =>
    obtain ⟨L, rfl, _⟩ := h
    cases z
def noSeq : HO → Bool
  | .tup _ => false
  | .frz _ _ => false
  | _ => true
theorem qu.noSeq {K : PySem.W.Frag} {Cl : Nat → Addr} {Hs : Hp} {a : Addr} {u : HO} {c : Cell} (h : qu K Cl Hs a u c) : DL.noSeq u = true := by
  cases c with
  | set ks =>
    obtain ⟨L, rfl, _, _⟩ := h
    rfl
  | lst ds =>
    obtain ⟨xs, rfl, _⟩ := h
    rfl
  | dic ps =>
    obtain ⟨L, rfl, _⟩ := h
    rfl
section
variable {K : PySem.W.Frag} {Z O : Addr → Prop} {H : Hp}
theorem qbZ {b : Addr} {o : HO} (hO : ∀ a, O a → ∃ u, H a = some u ∧ noSeq u = true) (e : hide H Z b = some o) (n : noSeq o = false) : hide H (fun b => Z b ∨ O b) b = some o := by
  obtain ⟨h1, h2⟩ := yf e
  refine vc (fun z => ?_) h2
  rcases z with z | z
  · exact h1 z
  · obtain ⟨u, q, q2⟩ := hO b z
    rw [q] at h2
    cases h2
    rw [n] at q2
    cases q2
mutual
theorem Dp.ka8 (hO : ∀ a, O a → ∃ u, H a = some u ∧ noSeq u = true) : ∀ {v : V} {d : D}, zaQ d = true → Dp K (hide H Z) v d → Dp K (hide H (fun b => Z b ∨ O b)) v d
  | _, _, _, .non => .non
  | _, _, _, .bl b => .bl b
  | _, _, _, .int i => .int i
  | _, _, _, .str x => .str x
  | _, _, c, .lst h t => nomatch c
  | _, _, c, .tup h t => by
    refine .tup ?_ (DpAll.ka8 hO c t)
    rcases h with (h | ⟨o, h⟩) | h
    · exact .inl (.inl (qbZ hO h rfl))
    · exact .inl (.inr ⟨o, qbZ hO h rfl⟩)
    · exact .inr h
  | _, _, c, .yO h => nomatch c
  | _, _, c, .exc _ _ => nomatch c
theorem DpAll.ka8 (hO : ∀ a, O a → ∃ u, H a = some u ∧ noSeq u = true) : ∀ {vs : List V} {ds : List D}, vav ds = true → DpAll K (hide H Z) vs ds → DpAll K (hide H (fun b => Z b ∨ O b)) vs ds
  | _, _, _, .nil => .nil
  | _, _, c, .cons h t => by
    have c' : (zaQ _ && vav _) = true := c
    rw [Bool.and_eq_true] at c'
    exact .cons (Dp.ka8 hO c'.1 h) (DpAll.ka8 hO c'.2 t)
end
end
section
variable {X : Cx} {Cl : Nat → Addr} {W : WX} {e : Expr} {es : List Expr} {g : FA} {p pos : Pos}
end
section
variable {X : Cx} {Cl : Nat → Addr} {W : WX} {K : PySem.W.Frag}
end
section
variable {P : Program} {w : World} {K : PySem.W.Frag} {mg : Str → Option Value} {base : Heap}
theorem okN {x qual : Str} {st : Stmt} {f : Addr} {fd : FuncData} {N ps : List Str} {k : Nat} {sp : Sp} (F : Fun K x qual st f fd) (S : FnScope N ps (defScope st)) (len : ∀ vs H Q E, sp vs H Q E → vs.length = ps.length)
    (h : ∀ (cdv : Value) (A : Around) (outer : List Env) (s : Shared) (H : Hp) (vs : List V) (Q : VK) (E : XK), Room k (A.deeper (envOfC qual (defScope st) s.heap.objs.size f cdv)) → sp vs H Q E →
      ∃ t, PSs (cxOf (L2N.CX P w) P w K mg base N qual (defScope st) f cdv A outer s H E) (defBody st) t ∧ t { nx := fun _ H' => Q .non H', rt := Q } (L2.start N vs) H) : FnOk P w K mg base (L2N.CX P w) (k + 1) f fd ps sp := by
  obtain ⟨oc, od, kV, doc, pm, an, cdv, ct, osl, e, lk, hcd⟩ := F.ex
  subst e
  exact fn_of lk hcd S len (h cdv)
end
section
variable {X : Cx} {e : Expr} {es : List Expr} {ta : TA} {p pos : Pos}
theorem jbQ {CX : CXT} {x : Str} {C fI : Addr} {k : Nat} {fd : FuncData} {ps : List Str} {sp : Sp} {ds : List Value} {dvs : List V} (T : OexC X.K C) (iC : PySem.W.findIn X.K (.ref C) "__init__" = some (some (.ref fI))) (tI : PySem.W.typeIn X.K (.ref fI) = some (.type "function"))
    (F1 : FnOk X.prog X.w X.K X.mg X.base CX k fI fd ps sp) (hr : Room (k + 1) X.A) (hb : Binds X.K fd ps ds) (hd : Vals dvs ds) (hx : Passes CX X (fun _ _ _ => False)) (hg : Gl X x) (hm : X.mg x = some (.ref C)) (ha : PA X (e :: es) ta)
    (hdb : (x == ("__debug__" : Str)) = false := by decide) (he : starEach (e :: es) X.env = (false, eval e X.env) :: starEach es X.env := by rfl) (hpl : (backTo pos (starEach es X.env)).any (·.1) = false := by rfl) :
    L2N.PMk X (.Call (.Name x p) (e :: es) [] pos) (tMkO C sp dvs ta) := fun pins s σ H Q I h => by
  obtain ⟨_, _, _, _, bm, _, _, _, _, _, _, _, _, _, _, own, refs⟩ := T.cls
  refine wpAny_Call_Name_kw (ld_glob I hg hm (PySem.W.callWith_K (h₀ := X.base) I.ok.mod.kin T.kC (thn (ha.run pos pins s σ H _ I h) fun us s1 got => ?_) he hpl) hdb)
  obtain ⟨vs, H1, J, rv, few, fits⟩ := got
  refine ⟨J.kIn, ?_⟩
  obtain ⟨hp, gs, dr, tk, os⟩ := s1
  have above : hp.objs.size ≤ hp.objs.size + 1 := Nat.le_succ _
  have want := fits (hp.objs.size + 1) (J.hok.fresh above)
  have old : ∀ b o, hp.get? b = some o → ((hp.push (PySem.W.kdv_tup us)).push (PySem.HandSPX.excO C hp.objs.size)).get? b = some o := fun b o z => Heap.get?_push_of_some _ (Heap.get?_push_of_some _ z)
  have there : ((hp.push (PySem.W.kdv_tup us)).push (PySem.HandSPX.excO C hp.objs.size)).get? (hp.objs.size + 1) = some (PySem.HandSPX.excO C hp.objs.size) := by heap_get
  have J2 : Inv X pins σ (upd H1 (hp.objs.size + 1) (exo (hp.objs.size + 1) C none)) ⟨(hp.push (PySem.W.kdv_tup us)).push (PySem.HandSPX.excO C hp.objs.size), gs, dr, tk, os⟩ := J.laid (t' := tk) old above (exo_ok there)
  have rel : Vals (V.ref (hp.objs.size + 1) :: (vs ++ dvs)) (Value.ref (hp.objs.size + 1) :: (us ++ ds)) := .cons rfl (rv.append hd)
  have ln : (Value.ref (hp.objs.size + 1) :: us ++ ds).length = ps.length := (rel.length.symm.trans (F1.len _ _ _ _ want) : _)
  have short : us.length ≤ sizeLine := by
    have := Paired.length rv
    rw [sizeLine_eq]
    omega
  show wpAny _ _ (call (.ref C) us) _ _ _
  refine wpAny_call (PySem.HandSPX.call_own F.excBase_ValueError (fun Y => PySem.HandSPX.refsVE_contains Y bm refs) (J.kIn _ _ own) (PySem.W.looks_findIn J.kIn iC) (fun self => PySem.W.bind_fn J.kIn self tI) short (codeAny_mono (F1.run _ X.stack _ _ ⟨Value.ref (hp.objs.size + 1) :: us, []⟩ (Value.ref (hp.objs.size + 1) :: (us ++ ds)) _ _ (fun _ _ _ => False) (hr.make C us []) (J2.env0.make C us []) (hb _ (Value.ref (hp.objs.size + 1) :: us) J2.kIn ln) rel want) fun res s' got => ?_))
  match res, got with
  | .error er, got => exact hx pins σ _ _ er s' J2 got
  | .ok (.ret u), ⟨v, H2, o2, bare, un, ok2, ru, ev, d, fs, ea, ed, hd1, q⟩ =>
    subst ev
    obtain ⟨h2, g2, d2, t2, os'⟩ := s'
    obtain ⟨t0, G, J3, kG, ge, hoe, na⟩ := mk_end0 (d2 := d2) (t2 := t2) J above old un ok2 o2 bare ea ed hd1
    exact ⟨ru, hp.objs.size + 1, _, _, ⟨G, g2, d2, t2, os'⟩, _, .ref C, some d, rfl, J3, kG, ge, hoe, ⟨rfl, rfl, fun vs z => by cases z; rfl⟩, rfl, rfl, na, rfl, bare, raises_own T.exC T.tyC, q⟩
end
section
variable {X : Cx} {Cl : Nat → Addr} {W : WX} {K : PySem.W.Frag} {e : Expr} {es : List Expr} {f : FE} {g : FA} {p pos : Pos}
theorem qbb {n k : Nat} {F : DF} {fa : Addr} {fd : FuncData} {ps : List Str} {x : Str} (G : FnOk X.prog X.w X.K X.mg X.base (L2N.CX X.prog X.w) k fa fd ps (xH X.K Cl n F)) (tk : L2N.Takes X W) (hr : Room k X.A) (hm : X.mg x = some (.ref fa)) (hk : PySem.W.keepIn X.K (.ref fa) = true) (hb : Binds X.K fd ps [])
    (ha : DA X Cl W (e :: es) g) (hg : Gl X x := by rfl) (hdb : (x == ("__debug__" : Str)) = false := by decide) (he : starEach (e :: es) X.env = (false, eval e X.env) :: starEach es X.env := by rfl) (hpl : (backTo pos (starEach es X.env)).any (·.1) = false := by rfl) :
    DE X Cl W (.Call (.Name x p) (e :: es) [] pos) (jb F n g) := PE.imp (pe_callS (E := WE W) G hr hg hm hk hb (fun σ => L2N.passAt tk σ) ha hdb he hpl) fun σ H Q ⟨Z, ρ, r, I, e, q⟩ => by
  unfold jb at e
  cases e1 : g ρ with
  | none => rw [e1] at e; cases e
  | some r1 =>
    rw [e1] at e
    refine kH I e1 (fun er z => ?_) fun vs xs H1 ev s1 hvs I1 => ?_
    · subst z
      cases e
      exact q
    · subst ev
      dsimp only at e
      split at e
      · rename_i hn
        cases eF : F (vs.map Val.d) with
        | none => rw [eF] at e; cases e
        | some o =>
          rw [eF] at e
          cases es : km vs with
          | some ds =>
            have ed := yai es
            refine ⟨Zo Z σ ρ, ds, o, ⟨fun b z => I1.yy z, I1.tb⟩, hvs.stab I es, by rw [waD es]; exact hn, by rw [← ed]; exact eF, ?_⟩
            cases o with
            | exc c i => cases e; exact fun dd H' s hd => q dd H' (s1.trans s) hd
            | ret d =>
              rw [es] at e
              cases e
              exact fun v H' s hd => q v H' (s1.trans s) hd
            | retX gs k =>
              rw [es] at e
              cases e
              exact fun T p xs ys H' s h1 h2 _ _ _ => q _ H' (s1.trans s) (.tup h1 h2)
            | retF gs =>
              rw [es] at e
              cases e
              exact fun p xs H' s n h2 h3 => q _ H' (s1.trans s) ⟨p, xs, rfl, s1.free n, h2, h3⟩
          | none =>
            refine ⟨Z, vs.map Val.d, o, ⟨fun b z => I1.live b z, I1.tb⟩, hvs.dp I, by rw [List.length_map]; exact hn, eF, ?_⟩
            cases o with
            | exc c i => cases e; exact fun dd H' s hd => q dd H' (s1.trans s) hd
            | ret d =>
              rw [es] at e
              cases e
              exact fun v H' s hd => q v H' (s1.trans s) hd
            | retX gs k =>
              rw [es] at e
              cases e
              exact fun T p xs ys H' s h1 h2 _ _ _ => q _ H' (s1.trans s) (.tup h1 h2)
            | retF gs =>
              rw [es] at e
              dsimp only at e
              split at e
              · rename_i sc
                cases e
                exact fun p xs H' s n h2 h3 => q _ H' (s1.trans s) ⟨p, xs, rfl, s1.free n, h2, DpAll.scalar sc h3⟩
              · cases e
                intro p xs H' s n h2 h3
                have np : ¬ Z p := fun z => I1.live p z n
                exact q _ H' (s1.trans s) (DL.Dp.lst (Rd.of (vc np h2)) (DpAll.same (jc (yb.refl _) fun _ h => .inl (.inl h)) h3))
      · cases e
theorem jaQ {c : Nat} {D : Ends} {σ : St} {H H0 : Hp} {Z : Addr → Prop} {ρ : ya} {i : Int} (oex : OexC K (Cl c)) (no : PySem.W.findIn K (.ref (Cl c)) "at" = some none) (I : SI K Cl H0 Z H σ ρ) (q : z6 K Cl W H0 Z D (.exc ρ c i)) :
    tMkO (Cl c) (yaD K) [] (fun σ H Q => Q [.int i] H) σ H (fun cls d H' => W cls d σ H') := by
  refine ⟨by show 1 ≤ 1000; decide, fun a na => ⟨a, Cl c, .int i, rfl, oex, no, upd_same, fun dx nd hne => ⟨rfl, dx, [("at", .int i)], ?_, ?_, ?_, ?_⟩⟩⟩
  · exact upd_same
  · rw [upd_ne hne, upd_same]
  · rw [upd_ne hne] at nd
    exact nd
  · rw [upd_ne hne] at nd
    refine q dx σ _ (I.jk (.of (fun b o e => ?_) fun b o xs e => ?_)) upd_same
    · have n1 := ne_of_none e nd
      have n2 := ne_of_none e na
      rw [upd_ne n1, del_ne n2, upd_ne n2, upd_ne n1, upd_ne n2]
      exact e
    by_cases b1 : b = dx
    · rw [b1, upd_same] at e
      cases e
    rw [upd_ne b1] at e
    by_cases b2 : b = a
    · rw [b2, del_same] at e
      cases e
    rw [del_ne b2, upd_ne b2, upd_ne b1, upd_ne b2] at e
    exact e
theorem xa1 {c : Nat} {x q : Str} {fI : Addr} {fd : FuncData} {st : Stmt} {p pos' : Pos} (T : ExT X.K X.mg x (Cl c) fI) (N : InT X.K q st fI fd) (F1 : FnOk X.prog X.w X.K X.mg X.base (L2.CX X.prog X.w) 1 fI fd ["self", "at"] (yaD X.K)) (tk : L2N.Takes X W) (hr : Room 2 X.A) (he : DE X Cl W e f)
    (hc : X.calm = true := by rfl) (hg : Gl X x := by rfl) (hdb : (x == ("__debug__" : Str)) = false := by decide) (hs : starEach (e :: []) X.env = (false, eval e X.env) :: starEach [] X.env := by rfl) (hpl : (backTo pos (starEach [] X.env)).any (·.1) = false := by rfl) :
    DS X Cl W (.Raise (some (.Call (.Name x p) [e] [] pos)) none pos') (zm c f) :=
  PS.imp (L2N.ps_raise hc tk (jbQ (dvs := []) (ds := []) T.oex T.iC N.tI F1 hr N.b .nil passL hg T.g (pa_cons he pa_nil hs) hdb hs hpl)) fun D σ H ⟨H0, Z, ρ, o, I, e, q⟩ => by
    refine qI I e q fun v y H1 _ h1 s1 hv I1 => ?_
    split at h1
    · rename_i i ei
      cases h1
      have ey := hv.int_inv I.di ei
      subst ey
      exact jaQ T.oex T.no (I1.jk (Same.refl _)) q
    · cases h1
end
section
variable {P : Program} {w : World} {K : PySem.W.Frag} {mg : Str → Option Value} {base : Heap} {Cl : Nat → Addr}
theorem xb8 {x qual : Str} {st : Stmt} {fa : Addr} {fd : FuncData} {N ps : List Str} {k n m : Nat} {fb : FS} (F : Fun K x qual st fa fd) (S : FnScope N ps (defScope st)) (hn : ps.length = n) (hm : N.length = m)
    (h : ∀ (cdv : Value) (A : Around) (outer : List Env) (s : Shared) (H : Hp) (E : XK), Room k (A.deeper (envOfC qual (defScope st) s.heap.objs.size fa cdv)) →
      xO (cxOf (L2N.CX P w) P w K mg base N qual (defScope st) fa cdv A outer s H E) Cl (fun cls d _ H' => E cls d H') (defBody st) fb) : FnOk P w K mg base (L2N.CX P w) (k + 1) fa fd ps (xH K Cl n (qj n m fb)) :=
  okN F S (fun vs H Q E ⟨Z, ds, o, _, h1, h2, _⟩ => by rw [h1.length, h2, hn]) fun cdv A outer s H vs Q E hr hsp => zbH rfl hm (h cdv A outer s H E hr) hsp
def qF (F : DF) : DF := fun ds => match F ds with
  | some (.exc _ _) => none
  | o => o
theorem FnOk.toN {k n : Nat} {F : DF} {fa : Addr} {fd : FuncData} {ps : List Str} (G : FnOk P w K mg base (L2.CX P w) k fa fd ps (xH K Cl n F)) : FnOk P w K mg base (L2N.CX P w) k fa fd ps (xH K Cl n (qF F)) := by
  refine ⟨fun vs H Q E ⟨Z, ds, o, h0, h1, h2, h3, h4⟩ => ?_, fun A outer s H args us vs Q E hr e0 hb r ⟨Z, ds, o, h0, h1, h2, h3, h4⟩ => ?_⟩
  · have e : F ds = some o := by
      unfold qF at h3
      split at h3
      · cases h3
      · exact h3
    have q : xH K Cl n F vs H (fun _ _ => True) (fun _ _ _ => True) := ⟨Z, ds, o, h0, h1, h2, e, by cases o <;> (simp only [DOk]; intros; trivial)⟩
    exact G.len vs H _ _ q
  · have e : F ds = some o ∧ ∀ c i, o ≠ .exc c i := by
      unfold qF at h3
      split at h3
      · cases h3
      · rename_i hne
        exact ⟨h3, fun c i z => hne c i (by rw [h3, z])⟩
    have q : xH K Cl n F vs H Q (fun _ _ _ => False) := ⟨Z, ds, o, h0, h1, h2, e.1, by
      cases o with
      | exc c i => exact absurd rfl (e.2 c i)
      | ret d => exact h4
      | retF d => exact h4
      | retX d k => exact h4⟩
    refine codeAny_mono (G.run A outer s H args us vs Q _ hr e0 hb r q) fun r s' hq => ?_
    cases r with
    | error er =>
      obtain ⟨_, _, _, _, _, _, _, _, _, _, _, _, z⟩ := hq
      exact z.elim
    | ok fl => cases fl <;> exact hq
end
section
variable {P : Program} {w : World} {K : PySem.W.Frag} {mg : Str → Option Value} {base : Heap} {Cl : Nat → Addr}
theorem qch {q : Str} {st : Stmt} {fI : Addr} {fd : FuncData} (N : InT K q st fI fd) (S : FnScope ["self", "at"] ["self", "at"] (defScope st)) (hbd : ∀ (cdv : Value) (A : Around) (outer : List Env) (s : Shared) (H : Hp) (E : XK) (p : Addr × Obj), PSs (L2H.cxH (L2.CX P w) P w K mg base ["self", "at"] q (defScope st) fI cdv A outer s H E p) (defBody st) (tOst K "at" (tVar 0) (tVar 1))) : L2H.FnH P w K mg base (L2.CX P w) 1 fI fd ["self", "at"] (yaD K) := by
  obtain ⟨oc, od, kV, doc, pm, an, cdv, ct, osl, e, lk, hcd⟩ := N.F.ex
  subst e
  refine L2H.fn_ofH lk hcd S (fun vs H Q E ⟨a, C, y, e, _⟩ => by rw [e]; rfl) fun A outer s H vs Q E p hp hr h => ?_
  obtain ⟨a, C, y, rfl, h1, h2, h3, q⟩ := h
  refine ⟨_, hbd _ _ _ _ _ _ _, ?_⟩
  exact ⟨y, rfl, .ref a, rfl, a, C, rfl, h1, h2, .inl ⟨h3, fun dx n ne => q dx n ne⟩⟩
end
section
variable {X : Cx} {Cl : Nat → Addr} {W : WX}
def yaq (m : Nat → Option Bool) (f : FS) (y : Nat) (i : Int) : FS := fun ρ => match f ρ with
  | some (.exc ρ' k j) => match m k with
    | some true => some (.exc ρ' y i)
    | some false => some (.exc ρ' k j)
    | none => none
  | o => o
theorem kb8 {body : List Stmt} {f : FS} {m : Nat → Option Bool} {c y : Nat} {i : Int} {j : Nat} {xn yn q : Str} {fI : Addr} {fd : FuncData} {st : Stmt} {np pos' pos rp cp ip p5 p6 : Pos} {jj : Nat} (hs : X.stack = X.env :: X.outer) (hf : X.env.frame = some X.env.locals) (hc : Names X xn (.ref (Cl c)))
    (hpa : ∀ hd : Option Value, PassesOwnAt (model X.prog X.w) (X.A.mark hd) X.A X.env X.xe) (tk : L2.Takes X W) (T : ExT X.K X.mg yn (Cl y) fI) (N : InT X.K q st fI fd) (FH : L2H.FnH X.prog X.w X.K X.mg X.base (L2.CX X.prog X.w) 1 fI fd ["self", "at"] (yaD X.K)) (hr : Room 2 X.A)
    (hm : ∀ k b, m k = some b → PySem.W.exmOne X.K (.ref (Cl k)) (.ref (Cl c)) = some b) (hg : Gl X yn) (hdb : (yn == ("__debug__" : Str)) = false)
    (hb : ∀ (W1 : WX) (pn : List (Addr × Obj)) (xe : Value → Shared → Prop), L2N.Takes (X.tr pn xe) W1 → xO (X.tr pn xe) Cl W1 body f) :
    DS X Cl W (.Try body [.ExceptHandler (some (.Name xn np)) none [.Raise (some (.Call (.Name yn p5) [.Constant (.int i) j ip] [] cp)) (some (.Constant .none jj rp)) p6] pos'] [] [] pos) (yaq m f y i) :=
  PS.imp (L2H.ps_try_onlyX (c := .ref (Cl c)) (Wout := W) (ts := fun a cls d D σ H => tMkO (Cl y) (yaD X.K) [] (fun σ H Q => Q [.int i] H) σ H (fun cls d H' => W cls d σ H')) (tb := fun W1 => xas X.K Cl W1 f) hs hf hc hpa tk (fun W1 pn xe t1 _ _ => hb W1 pn xe t1)
    (fun a oe cls d pn _ _ t2 hot => pss_one (L2H.ps_raiseHN hot t2 (L2H.pmk5_oexH T.oex T.iC N.tI FH (L2H.roomH_mark hr _) hot N.b passL hg T.g (pa_cons pe_int pa_nil) hdb)))) fun D σ H ⟨H0, Z, ρ, o, I, e, q⟩ => by
    unfold yaq at e
    cases eb : f ρ with
    | none => rw [eb] at e; cases e
    | some ob =>
      rw [eb] at e
      refine ⟨H0, Z, ρ, ob, I, eb, ?_⟩
      cases ob with
      | nx ρ' => cases e; exact q
      | brk ρ' => cases e; exact q
      | ct ρ' => cases e; exact q
      | ret d => cases e; exact q
      | retF ds => cases e; exact q
      | retX ds k => cases e; exact q
      | exc ρ' k z =>
        dsimp only at e
        cases em : m k with
        | none => rw [em] at e; cases e
        | some b =>
          rw [em] at e
          intro dd σ1 H1 I1 hd
          refine ⟨b, hm k b em, fun hb a na => ?_, fun hb => ?_⟩
          · subst hb
            cases e
            exact jaQ T.oex T.no I1 q
          · subst hb
            cases e
            exact q dd σ1 H1 I1 hd
end
end DL
namespace FN
open PySem PySem.Spec PyProof.Rows L2 DL
noncomputable section
def jbj : FS := ka (vA (gT 3 (xb 2 (xb 3 (xb 4 (ki))))) (eV 1)) (ka (qg (tV (e2 kn (e2 kc (eV 2) (eV 3)) (eG wg (qa (eV 0) (za))))) (zm 17 (eC (.int 0))) (zh)) (ka (je 5 (e2 kc (e2 kc (qH (eV 0) (qx) (xp (eV 2))) (eV 4)) (qH (eV 0) (xp (e2 gSub (eG wg (qa (eV 0) (za))) (eV 3))) (qx)))) (ka (qg (tV (e2 gNe (jb (qF FN.jG) 2 (qa (eV 0) (qa (eV 5) (za)))) (ve (qa (eV 2) (qa (eV 3) (qa (eV 4) (za))))))) (zm 17 (eC (.int 1))) (zh)) (zd (eV 5)))))
def wbj : DF := qj 2 6 jbj
def xN : FS := ka (vA (gT 2 (xb 2 (xb 3 (ki)))) (jb FN.zB 4 (qa (eV 0) (qa (eC (.int 0)) (qa (eC (.int 0)) (qa (eC (.int 1099511627775)) (za))))))) (ka (vA (gT 2 (xb 4 (xb 3 (ki)))) (jb FN.zB 4 (qa (eV 0) (qa (eV 3) (qa (eC (.int 0)) (qa (eC (.int 1099511627775)) (za))))))) (yaq (mxL [(17, true)]) (zd (jb FN.wbj 2 (qa (eV 1) (qa (ve (qa (eV 2) (qa (eV 4) (qa (qH (eV 0) (xp (eV 3)) (qx)) (za))))) (za))))) 18 0))
def xaC : DF := qj 2 5 xN
def z9 : FS := ka (je 2 (eG ky (qa (eV 0) (za)))) (ka (qg (tV (e2 jH (eV 1) (eC .none))) (je 2 (jb FN.xaC 2 (qa (eV 0) (qa (eV 1) (za))))) (zh)) (ka (qg (tV (e2 kn (eG wg (qa (eV 2) (za))) (eC (.int 200)))) (zm 18 (eC (.int 0))) (zh)) (zd (eV 2))))
end
noncomputable section
def vce : FS := zd (e2 kc (jb FN.ko 1 (qa (eG wg (qa (eV 0) (za))) (za))) (jb FN.ybi 1 (qa (eV 0) (za))))
def kaJ : DF := qj 1 1 vce
def ybp : FS := ka (vA (gT 4 (xb 1 (xb 2 (xb 3 (xb 4 (ki)))))) (eV 0)) (ka (yl 5 (jb FN.ybi 1 (qa (eC (.str "spool")) (za)))) (ka (jm (jn (ve (qa (eC (.int 1)) (qa (eV 1) (qa (eV 2) (qa (eG wg (qa (eV 3) (za))) (za))))))) (gN 6) (x7 5 (jb FN.ko 1 (qa (eV 6) (za))))) (ka (jm (jn (eV 3)) (gT 3 (xb 7 (xb 8 (xb 9 (ki))))) (x7 5 (e2 kc (e2 kc (jb FN.kaJ 1 (qa (eV 7) (za))) (jb FN.kaJ 1 (qa (eV 8) (za)))) (jb FN.ko 1 (qa (eG wg (qa (eV 9) (za))) (za)))))) (zd (eV 5)))))
def xbp : DF := qj 1 10 ybp
def kbp : FS := ka (vA (gT 4 (xb 2 (xb 2 (xb 3 (xb 4 (ki)))))) (eV 0)) (ka (qg (kK (tV (eV 4))) (zd (eG ky (qa (eV 3) (za)))) (zh)) (ka (vA (gT 3 (xb 5 (xb 6 (xb 7 (ki))))) (jb FN.jG 2 (qa (eV 1) (qa (eV 3) (za))))) (zd (e2 kc (e2 kc (jb FN.ko 1 (qa (eV 5) (za))) (jb FN.ko 1 (qa (eV 6) (za)))) (eV 7)))))
def qbq : DF := qj 2 8 kbp
def xbi : FS := ka (vA (gT 3 (xb 2 (xb 3 (xb 4 (ki))))) (eV 1)) (ka (qg (tV (e2 kn (e2 kc (eV 2) (eV 3)) (eG wg (qa (eV 0) (za))))) (zm 17 (eC (.int 0))) (zh)) (ka (yl 5 (e2 kc (e2 kc (qH (eV 0) (qx) (xp (eV 2))) (eV 4)) (qH (eV 0) (xp (e2 gSub (eG wg (qa (eV 0) (za))) (eV 3))) (qx)))) (ka (qg (tV (e2 gNe (jb FN.jG 2 (qa (eV 0) (qa (eV 5) (za)))) (ve (qa (eV 2) (qa (eV 3) (qa (eV 4) (za))))))) (zm 17 (eC (.int 1))) (zh)) (zd (eV 5)))))
def kbi : DF := qj 2 6 xbi
def wO : FS := ka (vA (gT 3 (xb 2 (xb 3 (xb 4 (ki))))) (eV 1)) (ka (qg (tV (e2 kn (e2 kc (eV 2) (eV 3)) (eG wg (qa (eV 0) (za))))) (zm 17 (eC (.int 0))) (zh)) (ka (yl 5 (e2 kc (e2 kc (qH (eV 0) (qx) (xp (eV 2))) (eV 4)) (qH (eV 0) (xp (e2 gSub (eG wg (qa (eV 0) (za))) (eV 3))) (qx)))) (ka (qg (tV (e2 gNe (jb (qF FN.jG) 2 (qa (eV 0) (qa (eV 5) (za)))) (ve (qa (eV 2) (qa (eV 3) (qa (eV 4) (za))))))) (zm 17 (eC (.int 1))) (zh)) (zd (eV 5)))))
def qt : DF := qj 2 6 wO
def xU : FS := ka (vA (gT 2 (xb 2 (xb 3 (ki)))) (jb FN.zB 4 (qa (eV 0) (qa (eC (.int 0)) (qa (eC (.int 0)) (qa (eC (.int 1099511627775)) (za))))))) (ka (vA (gT 2 (xb 4 (xb 3 (ki)))) (jb FN.zB 4 (qa (eV 0) (qa (eV 3) (qa (eC (.int 0)) (qa (eC (.int 1099511627775)) (za))))))) (yaq (mxL [(17, true)]) (zd (jb FN.qt 2 (qa (eV 1) (qa (ve (qa (eV 2) (qa (eV 4) (qa (qH (eV 0) (xp (eV 3)) (qx)) (za))))) (za))))) 18 0))
def yo : DF := qj 2 5 xU
def kag : FS := ka (yl 2 (eG ky (qa (eV 0) (za)))) (ka (qg (tV (e2 jH (eV 1) (eC .none))) (yl 2 (jb FN.yo 2 (qa (eV 0) (qa (eV 1) (za))))) (zh)) (ka (qg (tV (e2 kn (eG wg (qa (eV 2) (za))) (eC (.int 200)))) (zm 18 (eC (.int 0))) (zh)) (zd (eV 2))))
def zk : DF := qj 2 3 kag
def qbj : FS := ka (yl 1 (jb FN.ko 1 (qa (eG wg (qa (eV 0) (za))) (za)))) (ka (jm (jn (eV 0)) (gN 2) (jm (jn (eV 2)) (gN 3) (x7 1 (jb FN.ko 1 (qa (eV 3) (za)))))) (zd (eV 1)))
def zbj : DF := qj 1 4 qbj
def kbC : FS := zd (e2 kc (jb FN.ko 1 (qa (eV 0) (za))) (jb FN.z0 1 (qa (eV 1) (za))))
def qbD : DF := qj 2 2 kbC
def zbq : FS := ka (yl 1 (jb FN.ko 1 (qa (eG wg (qa (eV 0) (za))) (za)))) (ka (jm (jn (eV 0)) (gT 2 (xb 2 (xb 3 (ki)))) (x7 1 (e2 kc (jb FN.kaJ 1 (qa (eV 2) (za))) (jb FN.kaJ 1 (qa (eV 3) (za)))))) (zd (eV 1)))
def jbq : DF := qj 1 4 zbq
end
end FN
namespace DL
open PySem PySem.Spec PyProof.Rows L2
section
variable {P : Program} {w : World} {A : Around} {E : Value → Shared → Prop} {s : Shared} {a : Addr} {L : List (Addr × List Int)} {es : Array (Int × Value)} {ep : Nat} {t : SetTable}
abbrev Wy (m : Nat) (h : Int) (n : Nat) : SetTable.Probe := nth m (runAt m (SetTable.bits h % (m + 1)) (SetTable.bits h)) n
theorem qak (m : Nat) (h : Int) (c q : Nat) : nth m (Wy m h c) q = Wy m h (c + q) := (nth_add m c _ q).symm
theorem wbQ (m : Nat) (h : Int) (n : Nat) : (Wy m h n).dummy = none := by
  have z : ∀ (n : Nat) (p : SetTable.Probe), p.dummy = none → (nth m p n).dummy = none := fun n => by
    induction n with
    | zero => exact fun p e => e
    | succ n ih => exact fun p e => ih _ (by unfold adv; split <;> exact e)
  exact z n _ rfl
theorem qbI (R : SetTR P w s.heap a L es ep t) {x : Addr} {k : List Int} (hx : IsT P w s.heap k x) (hu : A.units < cLine) {N : Nat} (n1 : N < 10 * SetTable.turns t.mask) (n2 : (Wy t.mask (thash P w k) N).j ∉ t.place.toList)
    (n3 : ∀ c, c < N → (Wy t.mask (thash P w k) c).j ∈ t.place.toList) {Q : SetFound → Shared → Prop} (yes : ∀ i, k ∈ L.map (·.2) → Q (.there (some i)) s) (no : k ∉ L.map (·.2) → ∀ j, Q (.free j false) s) :
    ∀ (f c : Nat) (st : Option SetTable.Probe), st.getD (t.probeStart (thash P w k)) = Wy t.mask (thash P w k) c → c ≤ N → N - c < f →
      (∀ (i : Nat) e, L[i]? = some e → e.2 = k → ∃ d, c ≤ d ∧ d < N ∧ t.place.toList[i]? = some (Wy t.mask (thash P w k) d).j) → wpAny (model P w) A (setSearchFrom a (.ref x) (thash P w k) false f st) Q E s := by
  intro f
  induction f with
  | zero => exact fun c st _ _ h => absurd h (Nat.not_lt_zero _)
  | succ f ih =>
    intro c st vw hc hf ahead
    have hashOf : ∀ (i : Nat) e, L[i]? = some e → (es[i]?.map (·.1)).getD 0 = thash P w e.2 := fun i e h => by rw [R.entry h]; rfl
    obtain ⟨ob, o1, o2, o3⟩ := R.ob
    have spec := go_spec t R.tab.ris R.tab.dm (fun i => (es[i]?.map (·.1)).getD 0) (thash P w k) (10 * SetTable.turns t.mask) (N - c) (Wy t.mask (thash P w k) c) (wbQ _ _ _) (by omega)
      (fun q hq => by rw [qak]; exact n3 _ (by omega)) (by rw [qak, Nat.add_sub_cancel' hc]; exact n2)
    rw [setSearchFrom_succ]
    refine wpAny_bind (wpAny_setState_of o1 o3 R.fits (wp_if_neg R.gw ?_))
    try refine wpAny_bind (wpAny_pure ?_)
    rcases spec with ⟨q, i, hq, hi, hh, first, hgo⟩ | ⟨none', hgo⟩
    · have hgo : t.probe (fun i => (es[i]?.map (·.1)).getD 0) (thash P w k) (st.getD (t.probeStart (thash P w k))) = _ := (congrArg _ vw).trans hgo
      rw [hgo, qak, qak]
      rw [qak] at hi
      dsimp only
      have il : i < L.length := by
        have z1 := (List.getElem?_eq_some_iff.mp hi).1
        have z2 := R.tab.sz
        rw [Array.length_toList, z2, List.length_map] at z1
        exact z1
      have hp : L[i]? = some L[i] := List.getElem?_eq_getElem il
      generalize L[i] = e at hp
      have em : e ∈ L := List.mem_of_getElem? hp
      have live := slot_live R.tab.ris hi
      have rest : wpAny (model P w) A (searchRest a (.ref x) (thash P w k) false f es t (Wy t.mask (thash P w k) (c + q)).j i (Wy t.mask (thash P w k) (c + (q + 1)))) Q E s := by
        unfold searchRest
        rw [R.entry hp]
        refine wpAny_bind (wpAny_holding (wpAny_eqBool_tuple hu (R.tup e em) hx (wpAny_bind (wpAny_setState_of o1 o3 R.fits (wp_if_neg (by simp) ?_)))))
        try refine wpAny_bind (wpAny_pure ?_)
        rw [sameMem]
        simp only [if_true, live, R.entry hp]
        refine wpAny_bind (wpAny_isSame_ref_self (wpAny_bind (wpAny_pure ?_)))
        simp only [if_true]
        by_cases ek : e.2 = k
        · exact wp_if_pos (by simp [ek]) (wpAny_pure (yes i (List.mem_map.mpr ⟨e, em, ek⟩)))
        · refine wp_if_neg (by simp [ek]) (ih (c + (q + 1)) (some _) rfl (by omega) (by omega) fun i2 e2 h2 k2 => ?_)
          obtain ⟨d, d1, d2, d3⟩ := ahead i2 e2 h2 k2
          refine ⟨d, ?_, d2, d3⟩
          rcases Nat.lt_trichotomy d (c + q) with z | z | z
          · refine absurd ((hashOf i2 e2 h2).trans (congrArg (thash P w) k2)) (first (d - c) i2 (by omega) ?_)
            rw [qak, Nat.add_sub_cancel' d1]
            exact d3
          · rw [z] at d3
            have l2 := slot_live R.tab.ris d3
            rw [live] at l2
            injection l2 with l2
            rw [← l2, hp] at h2
            cases h2
            exact absurd k2 ek
          · omega
      by_cases hl : t.led = true
      · exact wp_if_neg (by simp [hl]) (by first | exact rest | exact wpAny_bind (wpAny_pure rest))
      · refine wp_if_pos (by simp [hl]) (wpAny_bind (seen_tup hx (fun y hy => ?_) (wp_if_neg (by decide) (by first | exact rest | exact wpAny_bind (wpAny_pure rest)))))
        obtain ⟨e1, g1, g2⟩ := List.mem_map.mp hy
        have g3 : e1 ∈ es.toList := by
          have z : e1 ∈ es ∧ e1.1 = thash P w k := by simpa using g1
          simpa using z.1
        rw [R.rows] at g3
        obtain ⟨p2, g4, g5⟩ := List.mem_map.mp g3
        exact ⟨p2.2, p2.1, by rw [← g2, ← g5], R.tup p2 g4⟩
    · have hgo : t.probe (fun i => (es[i]?.map (·.1)).getD 0) (thash P w k) (st.getD (t.probeStart (thash P w k))) = _ := (congrArg _ vw).trans hgo
      rw [hgo]
      refine wpAny_pure (no (fun hm => ?_) _)
      obtain ⟨e, e1, e2⟩ := List.mem_map.mp hm
      obtain ⟨i, il, ei⟩ := List.getElem_of_mem e1
      have hi : L[i]? = some e := by rw [List.getElem?_eq_getElem il, ei]
      obtain ⟨d, d1, d2, d3⟩ := ahead i e hi e2
      refine none' (d - c) i (by omega) ?_ ((hashOf i e hi).trans (congrArg (thash P w) e2))
      rw [qak, Nat.add_sub_cancel' d1]
      exact d3
theorem qb9 (R : SetTR P w s.heap a L es ep t) {x : Addr} {k : List Int} (hx : IsT P w s.heap k x) (hu : A.units < cLine) {Q : Option Nat → Shared → Prop} (h : ∀ r : Option Nat, r.isSome = decide (k ∈ L.map (·.2)) → Q r s) : wpAny (model P w) A (setFind a (.ref x) (thash P w k)) Q E s := by
  obtain ⟨ob, o1, o2, o3⟩ := R.ob
  have room := R.room
  obtain ⟨N, n1, n2, n3⟩ := R.tab.first (by rw [List.length_map]; omega) (thash P w k)
  have big : 10 * SetTable.turns t.mask ≤ 1420 := by
    unfold SetTable.turns
    rcases R.tab.mok with e | e | e <;> omega
  have one : setFindIn a (.ref x) (thash P w k) 100000 = setFindIn a (.ref x) (thash P w k) (99999 + 1) := rfl
  unfold setFind
  rw [one]
  unfold setFindIn
  refine wpAny_bind (wpAny_setState_of o1 o3 R.fits (wp_if_neg (by simp [byScan, Value.scannable]) ?_))
  try refine wpAny_bind (wpAny_pure ?_)
  refine wpAny_bind (qbI R hx hu n1 n2 n3 (fun i hm => wpAny_pure (h _ (by rw [decide_eq_true hm]; rfl))) (fun hm j => wpAny_pure (h _ (by rw [decide_eq_false hm]; rfl))) 100000 0 none rfl (Nat.zero_le _) (by omega) fun i e hp hk => ?_)
  have il : i < t.place.toList.length := by
    rw [Array.length_toList, R.tab.sz, List.length_map]
    exact (List.getElem?_eq_some_iff.mp hp).1
  have hj := List.getElem?_eq_getElem il
  obtain ⟨d, d1, d2⟩ := R.tab.before n2 (by rw [List.getElem?_map, hp, ← hk]; rfl) hj
  exact ⟨d, Nat.zero_le _, d1, hj.trans (congrArg some d2.symm)⟩
end
theorem vbQ {P P' : Program} {w w' : World} {h : Heap} {a : Addr} {L : List (Addr × List Int)} (e : w.params.followText "set-order" = w'.params.followText "set-order") (R : SetT0 P w h a L) : SetT0 P' w' h a L := by
  obtain ⟨es, ep, t, q1, q2, q3, q4, q5, q6, q7⟩ := R.ex
  exact ⟨es, ep, t, q1, q2, q3, q4, q5, by rw [← e]; exact q6, q7⟩
section
variable {X : Cx} {b : Bool}
theorem zbb {H : Hp} {h : Heap} {a : Addr} {L : List (Addr × List Int)} (hb : X.w.params.followText "set-order" = b) (R : SetT0 X.prog X.w h a L) : ObjOk X.prog X.w H h a (vF b a L) := by
  have ⟨es, ep, t, ⟨o, ho, ho2⟩, q⟩ := R.ex
  refine ⟨⟨⟨o, es, ep, t, ho, ho2.2⟩, fun P' w' e => vbQ (by rw [hb, e]) R⟩, ⟨o, ho⟩, fun h1 h2 z k => ⟨?_, fun P' w' e => ?_⟩⟩
  · obtain ⟨o1, es1, ep1, t1, z1, z2⟩ := z.1
    exact ⟨o1, es1, ep1, t1, k o1 z1, z2⟩
  · have ⟨es1, ep1, t1, ⟨o1, z1, z2⟩, z3⟩ := (z.2 P' w' e).ex
    exact ⟨es1, ep1, t1, ⟨o1, k o1 z1, z2⟩, z3⟩
theorem qaN {pins : List (Addr × Obj)} {σ : St} {H : Hp} {s : Shared} {a : Addr} {L : List (Addr × List Int)} (I : Inv X pins σ H s) (hb : X.w.params.followText "set-order" = b) (ha : H a = some (vF b a L)) (ht : ∀ p ∈ L, SqT X.K H p.1 (p.2.map V.int)) : ∃ es ep t, SetTR X.prog X.w s.heap a L es ep t :=
  SetT0.full ((I.hok a _ ha).1.2 X.prog X.w hb) fun p hp => I.isT (ht p hp)
def jcr (b : Bool) : List V → Hp → VK → Prop := fun xs H Q => xs = [] ∧ ∀ p, H p = none → Q (.ref p) (upd H p (vF b p []))
theorem zb9 (hb : X.w.params.followText "set-order" = b) : CallR X (.type "set") (jcr b) := fun pins s σ H xs us Q I r h => by
  obtain ⟨rfl, q⟩ := h
  cases r
  refine setR_new fun _ => ⟨.ref _, _, I.laid (t' := s.toks) (fun c u e => Heap.get?_push_of_some _ e) (Nat.le_refl _) (zbb (L := []) hb ?_), rfl, q _ (I.hok.fresh (Nat.le_refl _))⟩
  exact (setTR_fresh (P := X.prog) (Heap.get?_push_size _ rfl)).t0
def zbZ (X : Cx) (neg : Bool) : V → V → Hp → VK → Prop := fun x y H Q => ∃ (t : Addr) (k : List Int) (b : Bool) (a : Addr) (L : List (Addr × List Int)), x = .ref t ∧ SqT X.K H t (k.map V.int) ∧ y = .ref a ∧ X.w.params.followText "set-order" = b ∧ H a = some (vF b a L) ∧
  (∀ p ∈ L, SqT X.K H p.1 (p.2.map V.int)) ∧ Q (.bl (decide (k ∈ L.map (·.2)) != neg)) H
theorem SetTR.ty {P : Program} {w : World} {s : Shared} {a : Addr} {L : List (Addr × List Int)} {es : Array (Int × Value)} {ep : Nat} {t : SetTable} (R : SetTR P w s.heap a L es ep t) : s.TypeIs (.ref a) "set" := by
  obtain ⟨o, h1, h2, _⟩ := R.ob
  exact ⟨o, h1, h2.1⟩
theorem zby {s : Shared} {t a : Addr} {k : List Int} {L : List (Addr × List Int)} {es : Array (Int × Value)} {ep : Nat} {tb : SetTable} {A : Around} {E : Value → Shared → Prop} {Q : Bool → Shared → Prop} (R : SetTR X.prog X.w s.heap a L es ep tb) (hx : IsT X.prog X.w s.heap k t)
    (hu : A.units + 8 < cLine) (h : Q (decide (k ∈ L.map (·.2))) { s with toks := s.toks + (k.length + 1) }) : wpAny (model X.prog X.w) A (contains (.ref a) (.ref t)) Q E s := by
  have hT := SetTR.ty R
  have ne : (some (Value.builtin "set.__contains__") == some Value.none) = true → False := fun z => by rw [beq_builtin_none] at z; cases z
  unfold contains
  try with_reducible refine wpAny_holding ?_
  refine wpAny_bind (wpAny_specialOf hT PySem.F.slot_set_contains.lookup (wp_if_neg ne (wpAny_bind (wpAny_callSpecialUnlessNone?_slot (name := Str.ofString "__contains__") hT PySem.F.slot_set_contains ?_))))
  refine wpAny_call_entry PySem.F.slot_set_contains hT entry_set_contains ?_ (PySem.F.args_set_contains_2 _ _)
  unfold Builtin.«frozenset.__contains__» Builtin.Frozenset.oneOther Builtin.Frozenset.addrOf Builtin.Frozenset.withSetAsKey setContains
  simp only [List.isEmpty_nil, bind_assoc]
  refine wpAny_bind (wpAny_pure (wpAny_bind (wpAny_pure (wpAny_bind (wpAny_tryCatch (wpAny_holding (wpAny_bind (wpAny_pyHash_tuple ?_ hx ?_))))))))
  · show A.units + 1 < cLine
    omega
  · refine wpAny_bind (qb9 (s := { s with toks := s.toks + (k.length + 1) }) R hx ?_ fun r hr => ?_)
    · show A.units + 1 < cLine
      omega
    · refine wpAny_pure ?_
      show wpAny _ _ (ret (Value.bool r.isSome)) _ _ _
      rw [hr]
      exact wpAny_pure ⟨_, rfl, wpAny_truthy_bool h⟩
theorem jby (hu : X.A.units + 8 < cLine) : OpR X (compareOp .NotIn) (zbZ X true) := fun pins s σ H x y v u Q I rx ry h => by
  obtain ⟨t, k, b, a, L, rfl, ht, rfl, hb, ha, hL, q⟩ := h
  cases rx
  cases ry
  obtain ⟨es, ep, tb, R⟩ := qaN I hb ha hL
  show wpAny _ _ (do return Value.bool (!(← contains (.ref a) (.ref t)))) _ _ s
  refine wpAny_bind (zby R (I.isT ht) hu ?_)
  generalize hm : decide (k ∈ L.map (·.2)) = m at q ⊢
  exact wpAny_pure ⟨V.bl (!m), H, I.tok _, rfl, by simpa using q⟩
def jbZ (X : Cx) : V → List V → Hp → VK → Prop := fun x xs H Q => ∃ (t : Addr) (k : List Int) (b : Bool) (a : Addr) (L : List (Addr × List Int)), xs = [.ref t] ∧ SqT X.K H t (k.map V.int) ∧ x = .ref a ∧ X.w.params.followText "set-order" = b ∧ H a = some (vF b a L) ∧
  (∀ p ∈ L, SqT X.K H p.1 (p.2.map V.int)) ∧ L.length + 1 < 64 ∧ ∀ L', (k ∈ L.map (·.2) → L' = L) → (k ∉ L.map (·.2) → L'.Perm ((t, k) :: L)) → Q .non (upd H a (vF b a L'))
theorem jb9 (hu : X.A.units + 8 < cLine) : MtR X "set.add" (jbZ X) := fun pins s σ H x xs v us Q I rx rxs h => by
  obtain ⟨t, k, b, a, L, rfl, ht, rfl, hb, ha, hL, hf, q⟩ := h
  cases rx
  rw [Vals.ref1 rxs]
  obtain ⟨es, ep, tb, R⟩ := qaN I hb ha hL
  refine wpAny_call_entry PySem.F.slot_set_add (SetTR.ty R) PySem.F.entry_set_add ?_ (PySem.F.args_set_add_2 _ _)
  unfold Builtin.«set.add» Builtin.Frozenset.oneOther Builtin.Frozenset.addrOf setAdd
  simp only [List.isEmpty_nil, bind_assoc]
  refine wpAny_bind (wpAny_pure (wpAny_bind (wpAny_pure (wpAny_bind (wpAny_holding (wpAny_bind (wpAny_pyHash_tuple (by show X.A.units + 1 < cLine; omega) (I.isT ht) ?_)))))))
  refine add_at (s := { s with toks := s.toks + (k.length + 1) }) R (I.isT ht) (by show X.A.units + 1 < cLine; omega) hf fun b' h' L' es' ep' t' sb R' c1 c2 => ?_
  refine wpAny_pure ⟨_, rfl, .non, _, I.write (e := a) (t' := s.toks + (k.length + 1)) (by rw [ha]; trivial) (.inl rfl) (fun c u hc hu => (sb.2 c hc).trans hu) ?_ (zbb hb R'.t0), rfl, q L' c1 c2⟩
  obtain ⟨o, ho, _⟩ := R'.ob
  exact ⟨o, ho⟩
def wcr (X : Cx) (to te : TE) : TE := fun σ H Q => to σ H fun x H1 => (∃ b a L, x = V.ref a ∧ X.w.params.followText "set-order" = b ∧ H1 a = some (vF b a L) ∧ ∀ p ∈ L, SqT X.K H1 p.1 (p.2.map V.int)) ∧ te σ H1 fun y H2 => jbZ X x [y] H2 Q
theorem wb9 {o e : Expr} {to te : TE} {apos cpos : Pos} (hu : X.A.units + 8 < cLine) (ho : PE X o to) (he : PE X e te) (m : M1 X o "add" apos e cpos) : PE X (.Call (.Attribute o "add" apos) [e] [] cpos) (wcr X to te) := ⟨fun pins s σ H Q I h => by
  refine wpAny_Call_method m.base m.few m.line PySem.F.plainAttrs_set PySem.F.slot_set_add PySem.F.type_set_add (thn (ho.run pins s σ H _ I h) fun u s1 ⟨x, H1, I1, rx, ⟨b, a, L, ex, hb, ha, hL⟩, q1⟩ => ?_)
  subst ex
  obtain rfl : u = Value.ref a := rx
  obtain ⟨es, ep, tb, R⟩ := qaN I1 hb ha hL
  obtain ⟨oo, g1, g2, _⟩ := R.ob
  refine ⟨SetTR.ty R, fun c z => by cases z; exact ⟨oo, g1, g2.2.1⟩, ?_⟩
  rw [m.trees]
  exact Calls.callWith_builtin rfl (Calls.evalArgs_plain (Calls.spliced_cons (thn (he.run pins s1 σ H1 _ I1 q1) fun iv s2 ⟨y, H2, I2, ry, q2⟩ => Calls.spliced_nil (jb9 hu pins s2 σ H2 (.ref a) [y] (.ref a) [iv] Q I2 rfl (.cons ry .nil) q2))))⟩
end
section
variable {K : PySem.W.Frag} {Cl : Nat → Addr} {W : WX} {H0 H1 : Hp} {Z : Addr → Prop} {H H' : Hp} {σ : St} {ρ : ya} {D : Ends}
theorem v7 {i : Nat} {x : Option V} {p : Addr} {c : Cell} {j : Nat} {a : Addr} (h : zg (σ.set i x) (ρ.set i (.wc p c)) j a) : (i = j ∧ a = p) ∨ (i ≠ j ∧ zg σ ρ j a) := by
  by_cases hj : i = j
  · subst hj
    rcases h with ⟨h1, ds, h2⟩ | ⟨k, ds, h2⟩ | ⟨c', h2⟩
    all_goals
      rw [List.getElem?_set, if_pos rfl] at h2
      split at h2
      · cases h2 <;> exact .inl ⟨rfl, rfl⟩
      · cases h2
  · unfold zg at h
    rw [List.getElem?_set_ne hj, List.getElem?_set_ne hj] at h
    exact .inr ⟨hj, h⟩
theorem SI.waQ (I : SI K Cl H0 Z H1 σ ρ) (s1 : Same Cl H1 H) {i : Nat} {p : Addr} {u : HO} {c : Cell} (np : H1 p = none) (hp : H p = some u) (h : qu K Cl (hide H (ZP (Zo Z σ ρ) p)) p u c) : SI K Cl H0 Z H (σ.set i (some (.ref p))) (ρ.set i (.wc p c)) := by
  have nz : ¬ Zo Z σ ρ p := fun z => I.di.yy z np
  have no : ∀ j, ¬ zg σ ρ j p := fun j q => nz (.inr ⟨j, q⟩)
  have sub : ∀ b, Zo Z (σ.set i (some (.ref p))) (ρ.set i (.wc p c)) b → ZP (Zo Z σ ρ) p b := fun b hb => by
    rcases hb with hb | ⟨j, q⟩
    · exact .inl (.inl hb)
    · rcases v7 q with ⟨_, e⟩ | ⟨_, q⟩
      · exact .inr e
      · exact .inl (.inr ⟨j, q⟩)
  have hm : yb (hide H (ZP (Zo Z σ ρ) p)) (hide H (Zo Z (σ.set i (some (.ref p))) (ρ.set i (.wc p c)))) := jc (yb.refl _) fun b hb => .inl (sub b hb)
  have hm1 : yb (hide H1 (Zo Z σ ρ)) (hide H (Zo Z (σ.set i (some (.ref p))) (ρ.set i (.wc p c)))) := kf s1 fun b hb => by
    rcases sub b hb with z | rfl
    · exact .inl z
    · exact .inr np
  have I' := I.di.same s1
  refine ⟨⟨by rw [List.length_set, List.length_set]; exact I.di.len, fun j l a h1 h2 => ?_, fun a ⟨j, q⟩ => ?_, I'.live, fun j t' e => ?_, I'.tb⟩, I.same.trans s1, fun a ⟨j, q⟩ => ?_⟩
  · rcases v7 h1 with ⟨e1, e2⟩ | ⟨n1, q1⟩
    · rcases v7 h2 with ⟨e3, e4⟩ | ⟨n2, q2⟩
      · rw [← e1, ← e3]
      · rw [e2] at q2
        exact absurd q2 (no l)
    · rcases v7 h2 with ⟨e3, e4⟩ | ⟨n2, q2⟩
      · rw [e4] at q1
        exact absurd q1 (no j)
      · exact I.di.one j l a q1 q2
  · rcases v7 q with ⟨_, e⟩ | ⟨_, q⟩
    · rw [e]
      exact fun z => nz (.inl z)
    · exact I.di.out a ⟨j, q⟩
  · by_cases hj : i = j
    · subst hj
      rw [List.getElem?_set, if_pos rfl] at e
      split at e
      · rename_i hl
        cases e
        rw [List.getElem?_set, if_pos rfl, if_pos (by rw [← I.di.len]; exact hl)]
        exact ⟨rfl, u, hp, h.same hm⟩
      · cases e
    · rw [List.getElem?_set_ne hj] at e ⊢
      have q := I.di.slots j t' e
      cases t' with
      | un => trivial
      | dat d =>
        obtain ⟨v, e1, h1⟩ := q
        exact ⟨v, e1, Dp.same hm1 h1⟩
      | own es =>
        obtain ⟨a, ys, e1, e2, h1⟩ := q
        exact ⟨a, ys, e1, s1.at e2, DpAll.same hm1 h1⟩
      | err a dd j => exact ⟨q.1, s1.at q.2⟩
      | ownT a k ds =>
        obtain ⟨T, e1, h1⟩ := q
        exact ⟨T, e1, h1.same hm1 fun _ z => s1.at z⟩
      | pin a => exact q
      | ob k fs => exact kF.same hm1 q
      | wc a c' =>
        obtain ⟨e1, v, e2, h1⟩ := q
        exact ⟨e1, v, s1.wc h1 e2, h1.same hm1⟩
  · rcases v7 q with ⟨_, e⟩ | ⟨_, q⟩
    · rw [e]
      exact I.same.free np
    · exact I.new a ⟨j, q⟩
theorem xX.vaI {H4 : Hp} {L : Addr} {u u' : HO} (t : xX Cl H4) (hL : H4 L = some u) (n1 : ∀ ps, u ≠ .tbl ps) (n2 : ∀ q, u ≠ LamX.CodeO L q) : xX Cl (upd H4 L u') := fun p hp n => by
  obtain ⟨ps, h1, h2, h3⟩ := t p hp n
  have a1 : Cl p.1 ≠ L := fun z => by
    rw [z, hL] at h1
    exact n1 _ (Option.some.inj h1)
  refine ⟨ps, by rw [upd_ne a1]; exact h1, h2, fun pos cv hc => ?_⟩
  obtain ⟨c, e1, e2⟩ := h3 pos cv hc
  have a2 : c ≠ L := fun z => by
    rw [z, hL] at e2
    exact n2 _ (Option.some.inj e2)
  exact ⟨c, e1, by rw [upd_ne a2]; exact e2⟩
theorem Same.vaI {H1 H4 : Hp} {L : Addr} {u u' : HO} (s : Same Cl H1 H4) (nL : H1 L = none) (hL : H4 L = some u) (n1 : ∀ ps, u ≠ .tbl ps) (n2 : ∀ q, u ≠ LamX.CodeO L q) (n3 : ∀ o v, u' ≠ .frz o v) : Same Cl H1 (upd H4 L u') := by
  have ne : ∀ {b : Addr}, H1 b ≠ none → b ≠ L := fun {b} e z => e (by rw [z]; exact nL)
  exact ⟨fun b o e n => by rw [upd_ne (ne (by rw [e]; intro z; cases z))]; exact s.d b o e n, fun t => (s.tb t).vaI hL n1 n2, fun b e => (by rw [upd_ne (ne e)]; exact s.live b e), fun b o xs e => (by
    by_cases z : b = L
    · rw [z, upd_same] at e
      exact absurd (Option.some.inj e) (n3 _ _)
    · rw [upd_ne z] at e
      exact s.nf b o xs e)⟩
theorem SI.zaN (I : SI K Cl H0 Z H σ ρ) {i : Nat} {p : Addr} {u' : HO} {c c' : Cell} (hr : ρ[i]? = some (.wc p c)) (h : qu K Cl (hide H (Zo Z σ ρ)) p u' c') : SI K Cl H0 Z (upd H p u') σ (ρ.set i (.wc p c')) := by
  have hil : i < ρ.length := (List.getElem?_eq_some_iff.mp hr).1
  obtain ⟨hi, u, hu, hc⟩ := I.di.slots i _ hr
  obtain ⟨n1, n2⟩ := hc.nt
  have yB : ∀ j a, zg σ (ρ.set i (.wc p c')) j a ↔ zg σ ρ j a := fun j a => by
    by_cases hj : i = j
    · subst hj
      unfold zg
      rw [List.getElem?_set, if_pos rfl, if_pos hil, hr]
      constructor
      · rintro (⟨h1, ds, h2⟩ | ⟨k, d, h2⟩ | ⟨c2, h2⟩)
        · cases h2
        · cases h2
        · cases h2
          exact .inr (.inr ⟨c, rfl⟩)
      · rintro (⟨h1, ds, h2⟩ | ⟨k, d, h2⟩ | ⟨c2, h2⟩)
        · cases h2
        · cases h2
        · cases h2
          exact .inr (.inr ⟨c', rfl⟩)
    · unfold zg
      rw [List.getElem?_set_ne hj]
  have jbb : ∀ b, Zo Z σ (ρ.set i (.wc p c')) b ↔ Zo Z σ ρ b := fun b => by
    constructor
    · rintro (z | ⟨j, q⟩)
      · exact .inl z
      · exact .inr ⟨j, (yB j b).mp q⟩
    · rintro (z | ⟨j, q⟩)
      · exact .inl z
      · exact .inr ⟨j, (yB j b).mpr q⟩
  have me : zg σ ρ i p := .inr (.inr ⟨c, hr⟩)
  have hpo : vg σ ρ p := ⟨i, me⟩
  have hm : yb (hide H (Zo Z σ ρ)) (hide (upd H p u') (Zo Z σ (ρ.set i (.wc p c')))) := fun b o e _ => by
    obtain ⟨n, e1⟩ := yf e
    have nb : b ≠ p := fun z => n (.inr (z ▸ hpo))
    exact vc (fun z => n ((jbb b).mp z)) (by rw [upd_ne nb]; exact e1)
  have live : ∀ a, H a ≠ none → upd H p u' a ≠ none := fun a h z => by
    by_cases e : a = p
    · rw [e, upd_same] at z; cases z
    · rw [upd_ne e] at z; exact h z
  refine ⟨⟨by rw [List.length_set]; exact I.di.len, fun j k a h1 h2 => I.di.one j k a ((yB j a).mp h1) ((yB k a).mp h2), fun a ⟨j, q⟩ => I.di.out a ⟨j, (yB j a).mp q⟩, fun a z => live a (I.di.live a z), fun j t e => ?_, I.di.tb.vaI hu n1 n2⟩, I.same.vaI (I.new p hpo) hu n1 n2 h.nfz, fun a ⟨j, q⟩ => I.new a ⟨j, (yB j a).mp q⟩⟩
  by_cases hj : i = j
  · subst hj
    rw [List.getElem?_set, if_pos rfl, if_pos hil] at e
    cases e
    exact ⟨hi, u', upd_same, h.same hm⟩
  · rw [List.getElem?_set_ne hj] at e
    have q := I.di.slots j t e
    cases t with
    | un => trivial
    | dat d =>
      obtain ⟨v, e1, h1⟩ := q
      exact ⟨v, e1, Dp.same hm h1⟩
    | own gs =>
      obtain ⟨a, ys, e1, e2, h1⟩ := q
      have na : a ≠ p := fun z => hj (I.di.one i j p me (.inl ⟨by rw [← z]; exact e1, gs, e⟩))
      exact ⟨a, ys, e1, by rw [upd_ne na]; exact e2, DpAll.same hm h1⟩
    | err a dd j =>
      have nd : dd ≠ p := fun z => by
        have q2 := q.2
        rw [z, hu] at q2
        have e3 := Option.some.inj q2
        exact hc.vcy _ e3
      exact ⟨q.1, by rw [upd_ne nd]; exact q.2⟩
    | ownT a k gs =>
      obtain ⟨T, e1, h1⟩ := q
      have na : a ≠ p := fun z => hj (I.di.one i j p me (.inr (.inl ⟨k, gs, by rw [← z]; exact e⟩)))
      exact ⟨T, e1, h1.same hm fun _ z => by rw [upd_ne na]; exact z⟩
    | pin a => exact q
    | ob k fs => exact kF.same hm q
    | wc a c2 =>
      obtain ⟨e1, v, e2, h1⟩ := q
      have na : a ≠ p := fun z => hj (I.di.one i j p me (.inr (.inr ⟨c2, by rw [← z]; exact e⟩)))
      exact ⟨e1, v, by rw [upd_ne na]; exact e2, h1.same hm⟩
end
section
variable {X : Cx} {Cl : Nat → Addr} {W : WX} {e : Expr} {fe : FE} {pos : Pos}
theorem Room.u8 {k : Nat} {A : Around} (r : Room k A) : A.units + 8 < cLine := by have := r.un; omega
theorem wby {K : PySem.W.Frag} {H0 : Hp} {Z : Addr → Prop} {D : Ends} {i : Nat} {o o2 : Out} (h : jbx i o2 = some o) (q : z6 K Cl W H0 Z D o) : z6 K Cl W H0 Z D o2 := by
  cases o2 with
  | nx ρ2 => cases h; exact fun σ' H' I' => q _ H' (I'.gone i)
  | brk ρ2 => cases h; exact fun σ' H' I' => q _ H' (I'.gone i)
  | ct ρ2 => cases h; exact fun σ' H' I' => q _ H' (I'.gone i)
  | ret d => cases h; exact q
  | retF ds => cases h; exact q
  | retX ds k => cases h; exact q
  | exc _ _ _ => cases h
def yj : D → Option (List Int)
  | .tuple ds => ds.mapM fun d => match d with
    | .int i => some i
    | _ => none
  | _ => none
theorem qa2 : ∀ {ds : List D} {k : List Int}, (ds.mapM fun d => match d with
    | .int i => some i
    | _ => none) = some k → ds = k.map PyData.int
  | [], k, h => by cases h; rfl
  | d :: ds, k, h => by
    rw [List.mapM_cons] at h
    cases d with
    | int i =>
      cases e : (ds.mapM fun d => match d with
          | .int i => some i
          | _ => none) with
      | none => rw [e] at h; cases h
      | some k' =>
        rw [e] at h
        cases h
        rw [qa2 e]
        rfl
    | _ => cases h
theorem ybQ {d : D} {k : List Int} (h : yj d = some k) : d = .tuple (k.map PyData.int) := by
  cases d with
  | tuple ds => rw [qa2 (show _ = some k from h)]
  | _ => cases h
theorem Dp.yj {K : PySem.W.Frag} {H : Hp} {x : V} {d : D} {k : List Int} (h : Dp K H x d) (e : DL.yj d = some k) : ∃ t, x = .ref t ∧ SqT K H t (k.map V.int) := by
  rw [ybQ e] at h
  obtain ⟨t, xs, rfl, h1, h2⟩ := h.wx
  rw [DpAll.ints h2] at h1
  exact ⟨t, rfl, h1⟩
def qaz (neg : Bool) (i : Nat) (fe : FE) : FE := fun ρ => match ρ[i]? with
  | some (.wc _ (.set ks)) => bE fe (fun v _ => (yj v.d).map fun k => .ok (.s (.bool (decide (k ∈ ks) != neg)))) ρ
  | _ => none
theorem xbQ {neg : Bool} {i : Nat} {σ : St} {H : Hp} {Q : VK} (hb : X.w.params.followText "set-order" = xC Cl) (h : kr X.K Cl W (qaz neg i fe) σ H Q) : tOp (zbZ X neg) (kr X.K Cl W fe) (tVar i) σ H Q := by
  obtain ⟨Z, ρ, r1, I, e, q⟩ := h
  unfold qaz at e
  split at e
  · rename_i a ks hd
    refine vH I e q fun v x H1 _ h1 s1 hv I1 q1 => ?_
    obtain ⟨e1, u, e2, L, rfl, hL, hk, hl⟩ := I1.slots i _ hd
    refine ⟨_, e1, ?_⟩
    cases ek : yj v.d with
    | none => rw [ek] at h1; cases h1
    | some k =>
      rw [ek] at h1
      cases h1
      obtain ⟨t, rfl, ht⟩ := Dp.yj (hv.dp I) ek
      refine ⟨t, k, _, a, L, rfl, SqT.same qd ht, rfl, hb, e2, fun p hp => SqT.same qd (hL p hp), ?_⟩
      have em : decide (k ∈ L.map (·.2)) = decide (k ∈ ks) := decide_eq_decide.mpr (hk k)
      rw [em]
      exact q1 _ H1 (Same.refl _) (.bl _)
  · cases e
theorem zbI {i : Nat} {y : Str} {p0 : Pos} (hr : X.A.units + 8 < cLine) (hb : X.w.params.followText "set-order" = xC Cl) (he : DE X Cl W e fe) (hv : PE X (.Name y p0) (tVar i)) (hm : behindInMarks .NotIn (.Name y p0) = false := by rfl) : DT X Cl W (.Compare e [.NotIn] [.Name y p0] pos) (tV (qaz true i fe)) :=
  PT.imp (pt_cmpR (jby hr) he hv hm) fun _ _ _ ⟨_, _, _, I, e, q⟩ => xbQ hb (xa8 I e q)
def kaq (i : Nat) (fe : FE) : FS := fun ρ => match ρ[i]? with
  | some (.wc a (.set ks)) => sE fe (fun v ρ => match v.st with
    | some d => match yj d with
      | some k => if ks.length + 1 < 64 then some (.nx (ρ.set i (.wc a (.set (if k ∈ ks then ks else ks ++ [k]))))) else none
      | none => none
    | none => none) ρ
  | _ => none
theorem vb9 {i : Nat} {y : Str} {p0 apos cpos : Pos} (hr : X.A.units + 8 < cLine) (hb : X.w.params.followText "set-order" = xC Cl) (he : DE X Cl W e fe) (hv : PE X (.Name y p0) (tVar i)) (m : M1 X (.Name y p0) "add" apos e cpos)
    (hs : swapsWith (.Call (.Attribute (.Name y p0) "add" apos) [e] [] cpos) none pos.line X.env = pure false := by rfl) : DS X Cl W (.Expr (.Call (.Attribute (.Name y p0) "add" apos) [e] [] cpos) pos) (kaq i fe) :=
  PS.imp (ps_expr (wb9 hr hv he m) hs) fun D σ H ⟨H0, Z, ρ, o, I, e, q⟩ => by
  unfold kaq at e
  split at e
  · rename_i a ks hd
    obtain ⟨e1, u, e2, L, rfl, hL, hk, hl⟩ := I.di.slots i _ hd
    refine ⟨_, e1, ⟨_, a, L, rfl, hb, e2, fun p hp => SqT.same qd (hL p hp)⟩, qI I e q fun v x H1 _ h1 s1 hv I1 => ?_⟩
    split at h1
    · rename_i d vw
      split at h1
      · rename_i k ek
        split at h1
        · rename_i hlt
          cases h1
          obtain ⟨e1', u', e2', L2, eu, hL2, hk2, hl2⟩ := I1.di.slots i _ hd
          have e3 := s1.wc (K := X.K) (Hs := hide H (Zo Z σ ρ)) (c := .set ks) ⟨L, rfl, hL, hk, hl⟩ e2
          have hL' : ∀ p ∈ L, SqT X.K (hide H1 (Zo Z σ ρ)) p.1 (p.2.map V.int) := fun p hp => SqT.same (kf s1 fun _ h => .inl h) (hL p hp)
          obtain ⟨t, rfl, ht⟩ := Dp.yj (hv.stab I.di vw) ek
          refine ⟨t, k, _, a, L, rfl, SqT.same qd ht, rfl, hb, e3, fun p hp => SqT.same qd (hL' p hp), by omega, fun L3 c1 c2 => ?_⟩
          refine q _ _ (I1.zaN hd ?_)
          by_cases hm : k ∈ ks
          · rw [if_pos hm, c1 ((hk k).mpr hm)]
            exact ⟨L, rfl, hL', hk, hl⟩
          · have pm := c2 fun z => hm ((hk k).mp z)
            rw [if_neg hm]
            refine ⟨L3, rfl, fun p hp => ?_, fun k' => ?_, ?_⟩
            · rcases List.mem_cons.mp (pm.mem_iff.mp hp) with rfl | hp
              · exact ht
              · exact hL' p hp
            · rw [(pm.map (·.2)).mem_iff, List.map_cons, List.mem_cons, List.mem_append, List.mem_singleton, hk k']
              exact or_comm
            · rw [pm.length_eq, List.length_cons, List.length_append, List.length_singleton]
              omega
        · cases h1
      · cases h1
    · cases h1
  · cases e
def vaQ (ds : List D) : Option (List (List Int)) := ds.mapM yj
theorem DpAll.vaQ {K : PySem.W.Frag} {H : Hp} : ∀ {xs : List V} {ds : List D} {ks : List (List Int)}, DpAll K H xs ds → DL.vaQ ds = some ks → ∃ L : List (Addr × List Int), xs = L.map (fun p => V.ref p.1) ∧ L.map (·.2) = ks ∧ ∀ p ∈ L, SqT K H p.1 (p.2.map V.int)
  | _, _, ks, .nil, h => by
    cases h
    exact ⟨[], rfl, rfl, fun _ h => nomatch h⟩
  | _, _, ks, .cons (d := d) (ds := ds) a b, h => by
    unfold DL.vaQ at h
    rw [List.mapM_cons] at h
    cases e1 : DL.yj d with
    | none => rw [e1] at h; cases h
    | some k =>
      cases e2 : ds.mapM DL.yj with
      | none => rw [e1, e2] at h; cases h
      | some ks' =>
        rw [e1, e2] at h
        cases h
        obtain ⟨t, rfl, ht⟩ := Dp.yj a e1
        obtain ⟨L, rfl, rfl, hL⟩ := DpAll.vaQ b e2
        refine ⟨(t, k) :: L, rfl, rfl, fun p hp => ?_⟩
        rcases List.mem_cons.mp hp with rfl | hp
        · exact ht
        · exact hL p hp
noncomputable def zch (i : Nat) (fe : FE) (rest : FS) : FS := sE fe fun v ρ => match v.st with
  | some (.list ds) => match vaQ ds with
    | some ks => if ks.length < 64 then xaH fun a _ => (rest (ρ.set i (.wc a (.set ks)))).bind (jbx i) else none
    | none => none
  | _ => none
end
abbrev TF := List D → Option (List D)
def tfD (F : TF) : DF := fun ds => (F ds).map .retF
section
variable {K : PySem.W.Frag} {Cl : Nat → Addr} {W : WX} {Z Z1 : Addr → Prop} {H0 H H' : Hp} {σ : St} {ρ : ya}
theorem DI.hid (I : DI K Cl Z H σ ρ) (s : Same Cl H H') {S : Addr → Prop} (n : ∀ a, S a → H a = none) (l : ∀ a, S a → H' a ≠ none) : DI K Cl (fun a => Z a ∨ S a) H' σ ρ := by
  have I' := I.same s
  have hm : yb (hide H (Zo Z σ ρ)) (hide H' (Zo (fun a => Z a ∨ S a) σ ρ)) := kf s fun b hb => by
    rcases hb with (hb | hb) | hb
    · exact .inl (.inl hb)
    · exact .inr (n b hb)
    · exact .inl (.inr hb)
  refine ⟨I.len, I.one, fun a o z => z.elim (I.out a o) fun z => I.jay o (n a z), fun a z => z.elim (I'.live a) (l a), fun i t e => ?_, I'.tb⟩
  have q := I.slots i t e
  cases t with
  | un => trivial
  | dat d =>
    obtain ⟨v, e1, h1⟩ := q
    exact ⟨v, e1, Dp.same hm h1⟩
  | own ds =>
    obtain ⟨a, xs, e1, e2, h1⟩ := q
    exact ⟨a, xs, e1, s.at e2, DpAll.same hm h1⟩
  | err a dd j => exact ⟨q.1, s.at q.2⟩
  | ownT a k gs =>
    obtain ⟨T, e1, h1⟩ := q
    exact ⟨T, e1, h1.same hm fun _ z => s.at z⟩
  | pin a => exact q
  | ob k fs => exact kF.same hm q
  | wc a c =>
    obtain ⟨e1, u, e2, h1⟩ := q
    exact ⟨e1, u, s.wc h1 e2, h1.same hm⟩
theorem DI.less (I : DI K Cl Z1 H σ ρ) (h : ∀ a, Z a → Z1 a) : DI K Cl Z H σ ρ := by
  have hm : yb (hide H (Zo Z1 σ ρ)) (hide H (Zo Z σ ρ)) := jc (yb.refl _) fun b hb => .inl (hb.elim (fun z => .inl (h b z)) .inr)
  refine ⟨I.len, I.one, fun a o z => I.out a o (h a z), fun a z => I.live a (h a z), fun i t e => ?_, I.tb⟩
  have q := I.slots i t e
  cases t with
  | un => trivial
  | dat d =>
    obtain ⟨v, e1, h1⟩ := q
    exact ⟨v, e1, Dp.same hm h1⟩
  | own ds =>
    obtain ⟨a, xs, e1, e2, h1⟩ := q
    exact ⟨a, xs, e1, e2, DpAll.same hm h1⟩
  | err a dd j => exact q
  | ownT a k gs =>
    obtain ⟨T, e1, h1⟩ := q
    exact ⟨T, e1, h1.same hm fun _ z => z⟩
  | pin a => exact q
  | ob k fs => exact kF.same hm q
  | wc a c =>
    obtain ⟨e1, u, e2, h1⟩ := q
    exact ⟨e1, u, e2, h1.same hm⟩
theorem SI.less (I : SI K Cl H0 Z1 H σ ρ) (h : ∀ a, Z a → Z1 a) : SI K Cl H0 Z H σ ρ := ⟨I.di.less h, I.same, I.new⟩
theorem SI.hid (I : SI K Cl H0 Z H σ ρ) (s : Same Cl H H') {S : Addr → Prop} (n : ∀ a, S a → H a = none) (l : ∀ a, S a → H' a ≠ none) : SI K Cl H0 (fun a => Z a ∨ S a) H' σ ρ := ⟨I.di.hid s n l, I.same.trans s, I.new⟩
theorem SI.qaE (I : SI K Cl H0 Z H σ ρ) {q : Addr} {ys zs : List V} (hz : Z q) (h0 : H0 q = none) (hq : H q = some (.lst ys)) : SI K Cl H0 Z (upd H q (.lst zs)) σ ρ := by
  have hm : yb (hide H (Zo Z σ ρ)) (hide (upd H q (.lst zs)) (Zo Z σ ρ)) := fun b o e _ => by
    obtain ⟨n, e1⟩ := yf e
    exact vc n (by rw [upd_ne fun z => n (.inl (by rw [z]; exact hz))]; exact e1)
  have no : ∀ a, vg σ ρ a → a ≠ q := fun a o z => I.di.out a o (by rw [z]; exact hz)
  refine ⟨⟨I.di.len, I.di.one, I.di.out, fun a z => ?_, fun i t e => ?_, I.di.tb.over hq⟩, I.same.over h0 hq, I.new⟩
  · by_cases e : a = q
    · rw [e, upd_same]
      intro z; cases z
    · rw [upd_ne e]
      exact I.di.live a z
  · have k := I.di.slots i t e
    cases t with
    | un => trivial
    | dat d =>
      obtain ⟨v, e1, h1⟩ := k
      exact ⟨v, e1, Dp.same hm h1⟩
    | own ds =>
      obtain ⟨a, xs, e1, e2, h1⟩ := k
      exact ⟨a, xs, e1, by rw [upd_ne (no a ⟨i, .inl ⟨e1, ds, e⟩⟩)]; exact e2, DpAll.same hm h1⟩
    | err a dd j =>
      have nd : dd ≠ q := fun z => by
        have k2 := k.2
        rw [z, hq] at k2
        cases k2
      exact ⟨k.1, by rw [upd_ne nd]; exact k.2⟩
    | ownT a k' gs =>
      obtain ⟨T, e1, h1⟩ := k
      exact ⟨T, e1, h1.same hm fun _ z => by rw [upd_ne (no a ⟨i, .inr (.inl ⟨k', gs, e⟩)⟩)]; exact z⟩
    | pin a => exact k
    | ob k fs => exact kF.same hm k
    | wc a c =>
      obtain ⟨e1, u, e2, h1⟩ := k
      exact ⟨e1, u, by rw [upd_ne (no a ⟨i, .inr (.inr ⟨c, e⟩)⟩)]; exact e2, h1.same hm⟩
end
section
variable {X : Cx} {Cl : Nat → Addr} {W : WX} {K : PySem.W.Frag}
variable {elt tg iter : Expr} {scope : Scope} {own : List (Str × Nat)} {pos rpos : Pos} {it : FI} {g : TG} {fe : FE} {vs : List Nat} {st : ya → D → Option ya}
end
def mkT (n k : Nat) (f : ya → Option (List D)) : TF := fun ds => f (ds.map .dat ++ List.replicate (k - n) .un)
theorem pss_never {X : Cx} {st : List Stmt} : PSs X st (fun _ _ _ => False) := ⟨fun _ _ _ _ _ _ h => h.elim⟩
section
variable {X : Cx} {Cl : Nat → Addr} {W : WX} {e : Expr} {es : List Expr} {g : FA} {f2 : FE} {t3 : FT} {rest : FS}
end
section
variable {X : Cx} {Cl : Nat → Addr} {pos : Pos}
def vbt (n : Nat) (gi g : FGs) : FGs := fun ds ρ => match ds with
  | .tuple is :: r => if is.length = n then match gi is ρ with
    | some ρ1 => g r ρ1
    | none => none else none
  | _ => none
end
section
variable {X : Cx} {K : PySem.W.Frag} {Cl : Nat → Addr} {W : WX} {H0 H1 : Hp} {Z : Addr → Prop} {H H' : Hp} {σ : St} {ρ : ya}
theorem SI.wch (I : SI K Cl H0 Z H σ ρ) {i : Nat} {s' : Slot} (ow : ∀ j a, zg σ (ρ.set i s') j a ↔ zg σ ρ j a) (h : zaD K Cl H (hide H (Zo Z σ ρ)) (σ[i]?) s') : SI K Cl H0 Z H σ (ρ.set i s') := by
  have own : ∀ a, vg σ (ρ.set i s') a ↔ vg σ ρ a := fun a => ⟨fun ⟨j, q⟩ => ⟨j, (ow j a).mp q⟩, fun ⟨j, q⟩ => ⟨j, (ow j a).mpr q⟩⟩
  have zo : Zo Z σ (ρ.set i s') = Zo Z σ ρ := funext fun b => propext ⟨fun z => z.imp id (own b).mp, fun z => z.imp id (own b).mpr⟩
  refine ⟨⟨by rw [List.length_set]; exact I.di.len, fun j k a h1 h2 => I.di.one j k a ((ow j a).mp h1) ((ow k a).mp h2), fun a q => I.di.out a ((own a).mp q), I.di.live, fun j t e => ?_, I.di.tb⟩, I.same, fun a q => I.new a ((own a).mp q)⟩
  rw [zo]
  by_cases hj : i = j
  · subst hj
    rw [List.getElem?_set, if_pos rfl] at e
    split at e
    · cases e
      exact h
    · cases e
  · rw [List.getElem?_set_ne hj] at e
    exact I.di.slots j t e
variable {tg : Expr} {x : Str} {pos p0 : Pos}
end
theorem yaQ : ∀ {ns : List Str} {vs : List V} {j : Nat} {f : Str} {v : V}, ns.Nodup → ns[j]? = some f → vs[j]? = some v → (ns.zip vs).lookup f = some v
  | [], _, _, _, _, _, h, _ => by simp at h
  | n :: ns, [], _, _, _, _, _, h => by simp at h
  | n :: ns, x :: vs, 0, f, v, _, h1, h2 => by
    simp at h1 h2
    subst h1 h2
    rw [List.zip_cons_cons, List.lookup_cons]
    simp
  | n :: ns, x :: vs, j + 1, f, v, nd, h1, h2 => by
    rw [List.nodup_cons] at nd
    have h1 : ns[j]? = some f := by simpa using h1
    have h2 : vs[j]? = some v := by simpa using h2
    have ne : (f == n) = false := by
      rw [beq_eq_false_iff_ne]
      intro z
      rw [← z] at nd
      exact nd.1 (List.mem_of_getElem? h1)
    rw [List.zip_cons_cons, List.lookup_cons, ne]
    exact yaQ nd.2 h1 h2
def jaE : List (Int × D) → Int → Option D
  | [], _ => none
  | (k, d) :: ps, n => if k = n then some d else jaE ps n
theorem xh.get {K : PySem.W.Frag} {Hs : Hp} {n : Int} : ∀ {kvs : List (Key × V)} {ps : List (Int × D)}, xh K Hs kvs ps → Dp K Hs ((valV kvs (Sum.inl n : Key)).getD .non) ((jaE ps n).getD .none)
  | _, _, .nil => .non
  | _, _, .cons (k := k) (v := v) (d := d) (kvs := kvs) (ps := ps) h t => by
    have ih := xh.get (n := n) t
    unfold valV at ih ⊢
    unfold jaE
    by_cases z : k = n
    · subst z
      rw [if_pos rfl, List.find?_cons_of_pos (by simp)]
      exact h
    · rw [if_neg z, List.find?_cons_of_neg (by simp [z])]
      exact ih
section
variable {X : Cx} {Cl : Nat → Addr} {W : WX} {K : PySem.W.Frag} {f : Str} {e o : Expr} {es : List Expr} {fe : FE} {g : FA} {pos apos cpos : Pos}
abbrev MF := List OF → DF
end
section
variable {Cl : Nat → Addr} {K : PySem.W.Frag}
end
section
variable {X : Cx} {CX : CXT} {k : Nat} {g C : Addr} {fd : FuncData} {ps : List Str} {sp : Sp} {E : St → XK} {m : Str} {pos apos : Pos} {e o : Expr} {es : List Expr} {ta : TE} {t : TA}
end
section
variable {X : Cx} {Cl : Nat → Addr} {W : WX} {o e : Expr} {es : List Expr} {g : FA} {pos apos : Pos}
end
structure WS where
  size : Int
  qar : List Int
  total : Int
  number : Int
  kind : Int
  wah : Int
  zaz : Int
  skip : Int
  rows : List D
  tags : List D
  zY : List D
  named : List (Int × D)
def WS.of (s : WS) : List OF := [.dat (.int s.size), .dat (.list (s.qar.map .int)), .dat (.int s.total), .dat (.int s.number), .dat (.int s.kind), .dat (.int s.wah), .dat (.int s.zaz), .dat (.int s.skip), .dat (.list s.rows), .dat (.list s.tags), .dat (.list s.zY), .dic s.named]
structure j6 where
  dx : Addr
  q : Addr
  r : Addr
  n : Addr
def kh (a : Addr) (w : j6) : Addr → Prop := fun b => b = a ∨ b = w.dx ∨ b = w.q ∨ b = w.r ∨ b = w.n
def yby (w : j6) (s : WS) (vr vt : V) : List V := [.int s.size, .ref w.q, .int s.total, .int s.number, .int s.kind, .int s.wah, .int s.zaz, .int s.skip, vr, vt, .ref w.r, .ref w.n]
structure WA (K : PySem.W.Frag) (Cl : Nat → Addr) (H Hs : Hp) (a : Addr) (w : j6) (s : WS) : Prop where
  o : ∃ vr vt, H a = some (.ins (Cl 3000) w.dx ((zae 3000).zip (yby w s vr vt))) ∧ Dp K Hs vr (.list s.rows) ∧ Dp K Hs vt (.list s.tags)
  d : H w.dx = some (.own a)
  p : H w.q = some (.lst (s.qar.map V.int))
  sp : ∃ xs, H w.r = some (.lst xs) ∧ DpAll K Hs xs s.zY
  nm : ∃ kvs, H w.n = some (.dK kvs) ∧ xh K Hs kvs s.named
  qr : w.q ≠ w.r
def zar : HO → Bool
  | .ins _ _ _ => true | .own _ => true | .lst _ => true | .dK _ => true
  | _ => false
section
variable {K : PySem.W.Frag} {Cl : Nat → Addr} {W : WX} {H H' H0 Hs Hs' : Hp} {a : Addr} {w w' : j6} {s s' : WS} {Z : Addr → Prop} {σ σ' : St} {ρ ρ' : ya} {iw : Nat}
theorem WA.at_ (h : WA K Cl H Hs a w s) {b : Addr} (hb : kh a w b) : ∃ u, H b = some u ∧ zar u = true := by
  obtain ⟨vr, vt, h1, _, _⟩ := h.o
  obtain ⟨xs, h2, _⟩ := h.sp
  obtain ⟨kvs, h3, _⟩ := h.nm
  rcases hb with rfl | rfl | rfl | rfl | rfl
  · exact ⟨_, h1, rfl⟩
  · exact ⟨_, h.d, rfl⟩
  · exact ⟨_, h.p, rfl⟩
  · exact ⟨_, h2, rfl⟩
  · exact ⟨_, h3, rfl⟩
theorem WA.same (h : WA K Cl H Hs a w s) (h1 : ∀ b, kh a w b → H' b = H b) (m : yb Hs Hs') : WA K Cl H' Hs' a w s := by
  obtain ⟨vr, vt, e1, e2, e3⟩ := h.o
  obtain ⟨xs, e4, e5⟩ := h.sp
  obtain ⟨kvs, e6, e7⟩ := h.nm
  exact ⟨⟨vr, vt, by rw [h1 a (.inl rfl)]; exact e1, Dp.same m e2, Dp.same m e3⟩, by rw [h1 _ (.inr (.inl rfl))]; exact h.d, by rw [h1 _ (.inr (.inr (.inl rfl)))]; exact h.p, ⟨xs, by rw [h1 _ (.inr (.inr (.inr (.inl rfl))))]; exact e4, DpAll.same m e5⟩, ⟨kvs, by rw [h1 _ (.inr (.inr (.inr (.inr rfl))))]; exact e6, e7.same m⟩, h.qr⟩
theorem jar {u : HO} (h : zar u = true) : ntb u = true := by cases u <;> first | rfl | cases h
theorem WA.kept (h : WA K Cl H Hs a w s) (sm : Same Cl H H') {b : Addr} (hb : kh a w b) : H' b = H b := by
  obtain ⟨u, e, k⟩ := h.at_ hb
  rw [e, sm.at e (jar k)]
def ZA (Z : Addr → Prop) (a : Addr) (w : j6) : Addr → Prop := fun b => Z b ∨ kh a w b
open Classical in
noncomputable def vae (H0 H : Hp) (a : Addr) (w : j6) : Hp := fun b => if kh a w b then H b else H0 b
theorem zI {b : Addr} (h : kh a w b) : vae H0 H a w b = H b := by unfold vae; rw [if_pos h]
theorem xi {b : Addr} (h : ¬ kh a w b) : vae H0 H a w b = H0 b := by unfold vae; rw [if_neg h]
structure xk (K : PySem.W.Frag) (Cl : Nat → Addr) (H0 : Hp) (Z : Addr → Prop) (H : Hp) (σ : St) (ρ : ya) (iw : Nat) (a : Addr) (w : j6) (s : WS) : Prop where
  si : SI K Cl (vae H0 H a w) (ZA Z a w) H σ (ρ.set iw (.pin a))
  wa : WA K Cl H (hide H (Zo (ZA Z a w) σ (ρ.set iw (.pin a)))) a w s
  h0 : ∀ b, kh a w b → H0 b = none
  nz : ∀ b, kh a w b → ¬ Z b
  un : ρ[iw]? = some .un
theorem xk.mix (S : xk K Cl H0 Z H σ ρ iw a w s) : Same Cl H0 (vae H0 H a w) := by
  have ne : ∀ {b : Addr}, H0 b ≠ none → ¬ kh a w b := fun {b} e z => e (S.h0 b z)
  refine .of (fun b o e => by rw [xi (ne (by rw [e]; intro z; cases z))]; exact e) fun b o xs e => ?_
  by_cases h : kh a w b
  · obtain ⟨u, e2, k⟩ := S.wa.at_ h
    rw [zI h, e2] at e
    cases e
    cases k
  · rw [xi h] at e
    exact e
theorem xk.base (S : xk K Cl H0 Z H σ ρ iw a w s) : Same Cl H0 H := S.mix.trans S.si.same
theorem xk.var (S : xk K Cl H0 Z H σ ρ iw a w s) : σ[iw]? = some (some (.ref a)) := by
  have hi : iw < ρ.length := (List.getElem?_eq_some_iff.mp S.un).1
  exact S.si.di.slots iw (.pin a) (by rw [List.getElem?_set, if_pos rfl, if_pos hi])
theorem xk.same (S : xk K Cl H0 Z H σ ρ iw a w s) (sm : Same Cl H H') : xk K Cl H0 Z H' σ ρ iw a w s := by
  have e : vae H0 H' a w = vae H0 H a w := funext fun b => by
    by_cases h : kh a w b
    · rw [zI h, zI h, S.wa.kept sm h]
    · rw [xi h, xi h]
  exact ⟨by rw [e]; exact S.si.jk sm, S.wa.same (fun b hb => S.wa.kept sm hb) (kf sm fun _ h => .inl h), S.h0, S.nz, S.un⟩
theorem xk.step (S : xk K Cl H0 Z H σ ρ iw a w s) (I : SI K Cl (wi H σ (ρ.set iw (.pin a))) (ZA Z a w) H' σ' ρ') (hp : ρ'[iw]? = some (.pin a)) : xk K Cl H0 Z H' σ' (ρ'.set iw .un) iw a w s := by
  have hi : iw < ρ'.length := (List.getElem?_eq_some_iff.mp hp).1
  have back : (ρ'.set iw .un).set iw (.pin a) = ρ' := by
    obtain ⟨h1, h2⟩ := List.getElem?_eq_some_iff.mp hp
    rw [List.set_set, ← h2, List.set_getElem_self h1]
  have no : ∀ b, kh a w b → ¬ vg σ (ρ.set iw (.pin a)) b := fun b hb z => S.si.di.out b z (.inr hb)
  have kept : ∀ b, kh a w b → H' b = H b := fun b hb => by
    obtain ⟨u, e, k⟩ := S.wa.at_ hb
    rw [e, I.same.at (qD (no b hb) e) (jar k)]
  have e : vae H0 H' a w = vae H0 H a w := funext fun b => by
    by_cases h : kh a w b
    · rw [zI h, zI h, kept b h]
    · rw [xi h, xi h]
  refine ⟨?_, ?_, S.h0, S.nz, by rw [List.getElem?_set, if_pos rfl, if_pos hi]⟩
  · rw [back, e]
    exact I.rebase S.si.based.1
  · rw [back]
    exact S.wa.same kept I.kept
structure After (Cl : Nat → Addr) (H : Hp) (a : Addr) (w : j6) (H' : Hp) (w' : j6) : Prop where
  s : Same Cl (hide H (kh a w)) H'
  tb : xX Cl H → xX Cl H'
  new : ∀ b, kh a w' b → kh a w b ∨ H b = none
theorem After.live (f : After Cl H a w H' w') {b : Addr} (n : ¬ kh a w b) (e : H b ≠ none) : H' b ≠ none := f.s.live b (by unfold hide; rw [if_neg n]; exact e)
theorem After.keep (f : After Cl H a w H' w') {b : Addr} {o : HO} (n : ¬ kh a w b) (e : H b = some o) (t : ntb o = true) : H' b = some o := f.s.at (vc n e) t
theorem xk.waE (S : xk K Cl H0 Z H σ ρ iw a w s) (f : After Cl H a w H' w') : yb (hide H (Zo (ZA Z a w) σ (ρ.set iw (.pin a)))) (hide H' (Zo (ZA Z a w') σ (ρ.set iw (.pin a)))) := fun b o e t => by
  obtain ⟨n, e1⟩ := yf e
  refine vc (fun z => ?_) (f.keep (fun z => n (.inl (.inr z))) e1 t)
  rcases z with (z | z) | z
  · exact n (.inl (.inl z))
  · rcases f.new b z with z | z
    · exact n (.inl (.inr z))
    · rw [z] at e1
      cases e1
  · exact n (.inr z)
theorem xk.after (S : xk K Cl H0 Z H σ ρ iw a w s) (f : After Cl H a w H' w') (wa' : WA K Cl H' (hide H' (Zo (ZA Z a w') σ (ρ.set iw (.pin a)))) a w' s') : xk K Cl H0 Z H' σ ρ iw a w' s' := by
  have m := S.waE f
  have noA : ∀ b, vg σ (ρ.set iw (.pin a)) b → ¬ kh a w b := fun b o z => S.si.di.out b o (.inr z)
  have xby : ∀ b, vg σ (ρ.set iw (.pin a)) b → ¬ kh a w' b := fun b o z => by
    rcases f.new b z with z | z
    · exact noA b o z
    · exact S.si.di.jay o z
  have h0' : ∀ b, kh a w' b → H0 b = none := fun b z => by
    rcases f.new b z with z | z
    · exact S.h0 b z
    · exact S.base.free z
  have nz' : ∀ b, kh a w' b → ¬ Z b := fun b z y => by
    rcases f.new b z with z | z
    · exact S.nz b z y
    · exact S.si.di.live b (.inl y) z
  have jaz : ∀ {b : Addr} {o : HO}, vg σ (ρ.set iw (.pin a)) b → H b = some o → ntb o = true → H' b = some o := fun {b o} ob e t => f.keep (noA b ob) e t
  refine ⟨⟨⟨S.si.di.len, S.si.di.one, fun b o z => ?_, fun b z => ?_, fun i t e => ?_, f.tb S.si.di.tb⟩, ?_, fun b o => ?_⟩, wa', h0', nz', S.un⟩
  · rcases z with z | z
    · exact S.si.di.out b o (.inl z)
    · exact xby b o z
  · rcases z with z | z
    · exact f.live (fun y => S.nz b y z) (S.si.di.live b (.inl z))
    · obtain ⟨u, e, _⟩ := wa'.at_ z
      rw [e]
      intro y
      cases y
  · have k := S.si.di.slots i t e
    cases t with
    | un => trivial
    | dat d =>
      obtain ⟨v, e1, h1⟩ := k
      exact ⟨v, e1, Dp.same m h1⟩
    | own ds =>
      obtain ⟨b, xs, e1, e2, h1⟩ := k
      exact ⟨b, xs, e1, jaz ⟨i, .inl ⟨e1, ds, e⟩⟩ e2 rfl, DpAll.same m h1⟩
    | err b dd j =>
      refine ⟨k.1, f.keep (fun z => ?_) k.2 rfl⟩
      obtain ⟨u, e3, k3⟩ := S.wa.at_ z
      have k2 := k.2
      rw [e3] at k2
      cases k2
      cases k3
    | ownT b k' gs =>
      obtain ⟨T, e1, h1⟩ := k
      exact ⟨T, e1, h1.same m fun ys z => jaz ⟨i, .inr (.inl ⟨k', gs, e⟩)⟩ z rfl⟩
    | pin b => exact k
    | ob k' fs =>
      exact kF.same m k
    | wc b c =>
      obtain ⟨e1, u, e2, h1⟩ := k
      exact ⟨e1, u, jaz ⟨i, .inr (.inr ⟨c, e⟩)⟩ e2 h1.ntb, h1.same m⟩
  · refine ⟨fun b o e t => ?_, fun _ => f.tb S.si.di.tb, fun b e => ?_, fun b o xs e => ?_⟩
    · by_cases h : kh a w' b
      · rw [zI h] at e
        exact e
      · rw [xi h] at e
        have n : ¬ kh a w b := fun z => by rw [S.h0 b z] at e; cases e
        exact f.keep n (S.si.same.d b o (by rw [xi n]; exact e) t) t
    · by_cases h : kh a w' b
      · rw [zI h] at e
        exact e
      · rw [xi h] at e
        exact f.live (fun y => e (S.h0 b y)) (S.base.live b e)
    · have n : ¬ kh a w' b := fun z => by
        obtain ⟨u, e2, k⟩ := wa'.at_ z
        rw [e2] at e
        cases e
        cases k
      obtain ⟨n1, e1⟩ := yf (f.s.nf b o xs e)
      have e3 := S.si.same.nf b o xs e1
      rw [xi n1] at e3
      rw [xi n]
      exact e3
  · rw [xi (xby b o)]
    have q := S.si.new b o
    rw [xi (noA b o)] at q
    exact q
structure RTW (K : PySem.W.Frag) (Cl : Nat → Addr) (H0 : Hp) (Z : Addr → Prop) (H : Hp) (a : Addr) (w : j6) (s : WS) : Prop where
  same : Same Cl H0 H
  tb : xX Cl H
  wa : WA K Cl H (hide H (ZA Z a w)) a w s
  h0 : ∀ b, kh a w b → H0 b = none
  nz : ∀ b, kh a w b → ¬ Z b
theorem xk.rt (S : xk K Cl H0 Z H σ ρ iw a w s) : RTW K Cl H0 Z H a w s := ⟨S.base, S.si.di.tb, S.wa.same (fun _ _ => rfl) (jc (yb.refl _) fun _ h => .inl (.inl h)), S.h0, S.nz⟩
def OkW (K : PySem.W.Frag) (Cl : Nat → Addr) (W : WX) (H0 : Hp) (Z : Addr → Prop) (iw : Nat) (a : Addr) (D : Ends) : WS × Out → Prop
  | (s, .nx ρ) => ∀ σ H w, xk K Cl H0 Z H σ ρ iw a w s → D.nx σ H
  | (s, .brk ρ) => ∀ σ H w, xk K Cl H0 Z H σ ρ iw a w s → D.bk σ H
  | (s, .ct ρ) => ∀ σ H w, xk K Cl H0 Z H σ ρ iw a w s → D.ct σ H
  | (s, .ret d) => ∀ v H w, RTW K Cl H0 Z H a w s → Dp K (hide H (ZA Z a w)) v d → D.rt v H
  | (s, .retF ds) => ∀ p xs H w, RTW K Cl H0 Z H a w s → H0 p = none → ¬ kh a w p → H p = some (.lst xs) → DpAll K (hide H (ZP (ZA Z a w) p)) xs ds → D.rt (.ref p) H
  | (_, .retX _ _) => False
  | (s, .exc ρ c i) => ∀ dd σ H w, xk K Cl H0 Z H σ ρ iw a w s → H dd = some (.xd [(("at" : Str), .int i)]) → W (.ref (Cl c)) (some dd) σ H
abbrev FW := WS → ya → Option (WS × Out)
open Classical in
noncomputable def ybZ (iw : Nat) (a : Addr) : Out → Option Out
  | .nx ρ => if ρ[iw]? = some (.pin a) then some (.nx (ρ.set iw .un)) else none
  | .brk ρ => if ρ[iw]? = some (.pin a) then some (.brk (ρ.set iw .un)) else none
  | .ct ρ => if ρ[iw]? = some (.pin a) then some (.ct (ρ.set iw .un)) else none
  | .exc ρ c i => if ρ[iw]? = some (.pin a) then some (.exc (ρ.set iw .un) c i) else none
  | .ret d => some (.ret d)
  | .retF ds => some (.retF ds)
  | .retX _ _ => none
section
variable {X : Cx} {st : Stmt} {sts : List Stmt} {f : FS} {g h : FW}
end
end
section
variable {K : PySem.W.Frag} {Cl : Nat → Addr} {W : WX} {H H' H0 Hs Hs' : Hp} {a : Addr} {w w' : j6} {s s' : WS} {Z : Addr → Prop} {σ σ' : St} {ρ ρ' : ya} {iw : Nat}
theorem vaE {i : Nat} {s s' : Slot} (hs : ρ[i]? = some s) (n : ¬ s.yz) (n' : ¬ s'.yz) (j : Nat) (b : Addr) : zg σ (ρ.set i s') j b ↔ zg σ ρ j b := by
  by_cases hj : i = j
  · subst hj
    have hl : i < ρ.length := (List.getElem?_eq_some_iff.mp hs).1
    constructor
    · intro h
      obtain ⟨t, h1, h2⟩ := h.slot
      rw [List.getElem?_set, if_pos rfl, if_pos hl] at h1
      cases h1
      exact absurd h2 n'
    · intro h
      obtain ⟨t, h1, h2⟩ := h.slot
      rw [hs] at h1
      cases h1
      exact absurd h2 n
  · unfold zg
    rw [List.getElem?_set_ne hj]
theorem WA.ob (h : WA K Cl H Hs a w s) (e : ∀ b, kh a w b → Hs' b = H b) (m : yb Hs Hs') : jaV K Cl Hs' a 3000 s.of := by
  obtain ⟨vr, vt, e1, e2, e3⟩ := h.o
  obtain ⟨xs, e4, e5⟩ := h.sp
  obtain ⟨kvs, e6, e7⟩ := h.nm
  have hl : ∀ {b : Addr} {xs : List V}, kh a w b → H b = some (.lst xs) → Rd Hs' b (.lst xs) := fun {b xs} hb q => Rd.of (by rw [e b hb]; exact q)
  refine ⟨w.dx, yby w s vr vt, by rw [e a (.inl rfl)]; exact e1, rfl, rfl, fun j x hx => ?_⟩
  match j, hx with
  | 0, hx => cases hx; exact ⟨_, rfl, .int _⟩
  | 1, hx =>
    cases hx
    exact ⟨_, rfl, .lst (hl (.inr (.inr (.inl rfl))) h.p) (DpAll.of_ints _)⟩
  | 2, hx => cases hx; exact ⟨_, rfl, .int _⟩
  | 3, hx => cases hx; exact ⟨_, rfl, .int _⟩
  | 4, hx => cases hx; exact ⟨_, rfl, .int _⟩
  | 5, hx => cases hx; exact ⟨_, rfl, .int _⟩
  | 6, hx => cases hx; exact ⟨_, rfl, .int _⟩
  | 7, hx => cases hx; exact ⟨_, rfl, .int _⟩
  | 8, hx => cases hx; exact ⟨_, rfl, Dp.same m e2⟩
  | 9, hx => cases hx; exact ⟨_, rfl, Dp.same m e3⟩
  | 10, hx =>
    cases hx
    exact ⟨_, rfl, .lst (hl (.inr (.inr (.inr (.inl rfl)))) e4) (DpAll.same m e5)⟩
  | 11, hx =>
    cases hx
    exact ⟨_, rfl, w.n, kvs, rfl, by rw [e _ (.inr (.inr (.inr (.inr rfl))))]; exact e6, e7.same m⟩
  | j + 12, hx => cases hx
theorem xk.view (S : xk K Cl H0 Z H σ ρ iw a w s) : DI K Cl Z H σ (ρ.set iw (.ob 3000 s.of)) := by
  have hi : iw < ρ.length := (List.getElem?_eq_some_iff.mp S.un).1
  have hp : (ρ.set iw (.pin a))[iw]? = some (.pin a) := by rw [List.getElem?_set, if_pos rfl, if_pos hi]
  have I := S.si.less (Z := Z) fun b h => .inl h
  have nz : ∀ b, kh a w b → ¬ Zo Z σ (ρ.set iw (.pin a)) b := fun b hb z => z.elim (S.nz b hb) fun z => S.si.di.out b z (.inr hb)
  have q := I.wch (i := iw) (s' := .ob 3000 s.of) (fun j b => vaE (s := .pin a) (s' := .ob 3000 s.of) hp (show ¬ Slot.yz (.pin a) from fun z => z) (show ¬ Slot.yz (.ob 3000 s.of) from fun z => z) j b) ⟨a, S.var, S.wa.ob (fun b hb => ?_) (jc (yb.refl _) fun b hb => ?_)⟩
  · rw [List.set_set] at q
    exact q.di
  · obtain ⟨u, e, _⟩ := S.wa.at_ hb
    rw [e]
    exact vc (nz b hb) e
  · exact .inl (hb.elim (fun z => .inl (.inl z)) .inr)
theorem xk.err {e : Er} {D : Ends} (S : xk K Cl H0 Z H σ ρ iw a w s) (h : OkW K Cl W H0 Z iw a D (s, .exc ρ e.1 e.2)) : yK Cl W σ H e := fun dd H' sm hd => h dd σ H' w (S.same sm) hd
section
variable {X : Cx} {c : Expr} {sa sb : List Stmt} {pos : Pos} {t : FT} {f g : FW}
end
theorem xk.based (S : xk K Cl H0 Z H σ ρ iw a w s) : Same Cl H0 (hide (wi H σ (ρ.set iw (.pin a))) (kh a w)) ∧ xk K Cl (hide (wi H σ (ρ.set iw (.pin a))) (kh a w)) Z H σ ρ iw a w s := by
  obtain ⟨b0, I2⟩ := S.si.based
  have nA : ∀ {b : Addr}, H0 b ≠ none → ¬ kh a w b := fun {b} e z => e (S.h0 b z)
  have nt : ∀ {b : Addr} {o : HO}, wi H σ (ρ.set iw (.pin a)) b = some o → ((∃ ps, o = .tbl ps) ∨ ∃ q, o = LamX.CodeO b q) → ¬ kh a w b := fun {b o} e k z => by
    obtain ⟨u, e2, k2⟩ := S.wa.at_ z
    rw [(jaN e).2] at e2
    cases e2
    rcases k with ⟨ps, rfl⟩ | ⟨q, rfl⟩
    · cases k2
    · unfold LamX.CodeO at k2
      cases k2
  have s0 := S.mix.trans b0
  refine ⟨⟨fun b o e t => vc (nA (by rw [e]; intro z; cases z)) (s0.d b o e t), fun t q hq n => ?_, fun b e z => ?_, fun b o xs e => s0.nf b o xs (yf e).2⟩, ?_, S.wa, fun b h => ?_, S.nz, S.un⟩
  · obtain ⟨ps, h1, h2, h3⟩ := s0.tb t q hq n
    refine ⟨ps, vc (nt h1 (.inl ⟨ps, rfl⟩)) h1, h2, fun pos cv hc => ?_⟩
    obtain ⟨c, e1, e2⟩ := h3 pos cv hc
    exact ⟨c, e1, vc (nt e2 (.inr ⟨_, rfl⟩)) e2⟩
  · have q := s0.live b e
    unfold hide at z
    rw [if_neg (nA e)] at z
    exact q z
  · have e : vae (hide (wi H σ (ρ.set iw (.pin a))) (kh a w)) H a w = wi H σ (ρ.set iw (.pin a)) := funext fun b => by
      by_cases h : kh a w b
      · obtain ⟨u, e, _⟩ := S.wa.at_ h
        rw [zI h, e, qD (fun z => S.si.di.out b z (.inr h)) e]
      · rw [xi h]
        unfold hide
        rw [if_neg h]
    rw [e]
    exact I2
  · unfold hide
    rw [if_pos h]
theorem xk.rebase {H1 : Hp} (S : xk K Cl H1 Z H σ ρ iw a w s) (sm : Same Cl H0 H1) : xk K Cl H0 Z H σ ρ iw a w s := by
  have h0 : ∀ b, kh a w b → H0 b = none := fun b h => sm.free (S.h0 b h)
  refine ⟨⟨S.si.di, ⟨fun b o e t => ?_, fun _ => S.si.di.tb, fun b e => ?_, fun b o xs e => (by
    have n : ¬ kh a w b := fun z => by
      obtain ⟨u, e2, k⟩ := S.wa.at_ z
      rw [e2] at e
      cases e
      cases k
    have e3 := S.si.same.nf b o xs e
    rw [xi n] at e3
    rw [xi n]
    exact sm.nf b o xs e3)⟩, fun b o => ?_⟩, S.wa, h0, S.nz, S.un⟩
  · by_cases h : kh a w b
    · rw [zI h] at e
      exact e
    · rw [xi h] at e
      exact S.si.same.d b o (by rw [xi h]; exact sm.d b o e t) t
  · by_cases h : kh a w b
    · rw [zI h] at e
      exact e
    · rw [xi h] at e
      exact S.si.same.live b (by rw [xi h]; exact sm.live b e)
  · have n : ¬ kh a w b := fun z => S.si.di.out b o (.inr z)
    have q := S.si.new b o
    rw [xi n] at q ⊢
    exact sm.free q
theorem RTW.rebase {H1 : Hp} (S : RTW K Cl H1 Z H a w s) (sm : Same Cl H0 H1) : RTW K Cl H0 Z H a w s := ⟨sm.trans S.same, S.tb, S.wa, fun b h => sm.free (S.h0 b h), S.nz⟩
theorem OkW.rebase {H1 : Hp} {D : Ends} {r : WS × Out} (sm : Same Cl H0 H1) (h : OkW K Cl W H0 Z iw a D r) : OkW K Cl W H1 Z iw a D r := by
  obtain ⟨s, o⟩ := r
  cases o with
  | nx ρ => exact fun σ H w S => h σ H w (S.rebase sm)
  | brk ρ => exact fun σ H w S => h σ H w (S.rebase sm)
  | ct ρ => exact fun σ H w S => h σ H w (S.rebase sm)
  | ret d => exact fun v H w R hd => h v H w (R.rebase sm) hd
  | retF ds => exact fun p xs H w R np nA hp hd => h p xs H w (R.rebase sm) (sm.free np) nA hp hd
  | retX ds k => exact h
  | exc ρ c i => exact fun dd σ H w S hd => h dd σ H w (S.rebase sm) hd
theorem xk.kept (S : xk K Cl (hide (wi H σ (ρ.set iw (.pin a))) (kh a w)) Z H' σ' ρ' iw a w' s') : yb (hide H (Zo (ZA Z a w) σ (ρ.set iw (.pin a)))) (hide H' (Zo (ZA Z a w') σ' (ρ'.set iw (.pin a)))) := fun b o e nt => by
  obtain ⟨n, e1⟩ := yf e
  have e2 : hide (wi H σ (ρ.set iw (.pin a))) (kh a w) b = some o := vc (fun z => n (.inl (.inr z))) (qD (fun z => n (.inr z)) e1)
  have nA : ¬ kh a w' b := fun z => by rw [S.h0 b z] at e2; cases e2
  refine vc (fun z => ?_) (S.si.same.d b o (by rw [xi nA]; exact e2) nt)
  rcases z with (z | z) | z
  · exact n (.inl (.inl z))
  · exact nA z
  · have q := S.si.new b z
    rw [xi nA, e2] at q
    cases q
section
variable {X : Cx} {tg e : Expr} {body : List Stmt} {pos : Pos} {it : FI} {g : FG} {fb : FW}
end
end
def wbb (xs : List D) : Bool := xs.all fun d => match d with
  | .int _ => true
  | _ => false
def vbb : D → Bool
  | .tuple _ => true
  | _ => false
def yaI (s : WS) (xs : List D) : Bool := wbb xs && (decide (xs.length ≠ s.qar.length) && !(xs.isEmpty && s.zY.isEmpty))
def kby (s : WS) : D → Bool
  | .list xs => yaI s xs
  | d => wj d
def qbz (s : WS) (d : D) : Bool := s.zY.all vbb && match d with
  | .tuple ds => ds.all (kby s)
  | d => wj d
section
variable {K : PySem.W.Frag} {Cl : Nat → Addr} {W : WX} {H H' H0 Hs Hs' : Hp} {a : Addr} {w w' : j6} {s s' : WS} {Z Y : Addr → Prop} {σ σ' : St} {ρ ρ' : ya} {iw : Nat}
theorem free_at (h : WA K Cl H Hs a w s) {b : Addr} {xs : List V} {ds : List D} (hb : H b = some (.lst xs)) (hd : DpAll K Hs' xs ds) (hf : yaI s ds = true) (ht : s.zY.all vbb = true) : ¬ kh a w b := fun z => by
  unfold yaI at hf
  rw [Bool.and_eq_true, Bool.and_eq_true, decide_eq_true_eq, Bool.not_eq_true', Bool.and_eq_false_iff] at hf
  obtain ⟨h1, h2, h3⟩ := hf
  have hl := hd.length
  rcases z with rfl | rfl | rfl | rfl | rfl
  · obtain ⟨vr, vt, e, _⟩ := h.o
    rw [e] at hb
    cases hb
  · rw [h.d] at hb
    cases hb
  · rw [h.p] at hb
    cases hb
    rw [List.length_map] at hl
    exact h2 hl.symm
  · obtain ⟨ys, e, hy⟩ := h.sp
    rw [e] at hb
    cases hb
    have hl2 := hy.length
    generalize s.zY = sp at hy hl2 h3 ht
    cases hd with
    | nil =>
      cases hy
      rcases h3 with h3 | h3 <;> cases h3
    | cons a1 a2 =>
      cases hy with
      | cons b1 b2 =>
        rename_i v vs d ds' d2 ds2
        unfold wbb at h1
        rw [List.all_cons, Bool.and_eq_true] at h1 ht
        cases d <;> first | cases h1.1 | skip
        cases d2 <;> first | cases ht.1 | skip
        rw [a1.int_inv] at b1
        cases b1
  · obtain ⟨kvs, e, _⟩ := h.nm
    rw [e] at hb
    cases hb
theorem yb9 (h : WA K Cl H Hs a w s) {b : Addr} {xs : List V} {ds : List D} (hb : Rd (hide H Y) b (.lst xs)) (hd : DpAll K (hide H Y) xs ds) (hf : yaI s ds = true) (ht : s.zY.all vbb = true) : Rd (hide H fun b => Y b ∨ kh a w b) b (.lst xs) := by
  rcases hb with hb | ⟨o, hb⟩
  · obtain ⟨n, e⟩ := yf hb
    exact .inl (vc (fun z => z.elim n (free_at h e hd hf ht)) e)
  · obtain ⟨n, e⟩ := yf hb
    refine .inr ⟨o, vc (fun z => z.elim n fun z => ?_) e⟩
    obtain ⟨u, e2, k⟩ := h.at_ z
    rw [e] at e2
    cases e2
    cases k
theorem kbQ {xs : List V} {ds : List D} (hl : wbb ds = true) (hd : DpAll K Hs xs ds) : DpAll K Hs' xs ds := DpAll.scalar (by
  rw [List.all_eq_true]
  intro d hd
  unfold wbb at hl
  have q := List.all_eq_true.mp hl d hd
  cases d <;> first | rfl | cases q) hd
theorem wbI (h : WA K Cl H Hs a w s) {v : V} {d : D} (hd : Dp K (hide H Y) v d) (hf : kby s d = true) (ht : s.zY.all vbb = true) : Dp K (hide H fun b => Y b ∨ kh a w b) v d := by
  cases d with
  | list ds =>
    obtain ⟨b, xs, rfl, r1, r2⟩ := hd.lst_inv
    have hf : yaI s ds = true := hf
    have hl : wbb ds = true := by
      unfold yaI at hf
      rw [Bool.and_eq_true] at hf
      exact hf.1
    exact .lst (yb9 h r1 r2 hf ht) (kbQ hl r2)
  | none => exact Dp.scalar rfl hd
  | bool b => exact Dp.scalar rfl hd
  | int i => exact Dp.scalar rfl hd
  | str x => exact Dp.scalar rfl hd
  | tuple ds => cases hf
  | dict ks => cases hf
theorem xaQ (h : WA K Cl H Hs a w s) (ht : s.zY.all vbb = true) : ∀ {xs : List V} {ds : List D}, DpAll K (hide H Y) xs ds → ds.all (kby s) = true → DpAll K (hide H fun b => Y b ∨ kh a w b) xs ds
  | _, _, .nil, _ => .nil
  | _, _, .cons q1 q2, hf => by
    rw [List.all_cons, Bool.and_eq_true] at hf
    exact .cons (wbI h q1 hf.1 ht) (xaQ h ht q2 hf.2)
theorem xb9 (h : WA K Cl H Hs a w s) {v : V} {d : D} (hd : Dp K (hide H Y) v d) (hf : qbz s d = true) : Dp K (hide H fun b => Y b ∨ kh a w b) v d := by
  unfold qbz at hf
  rw [Bool.and_eq_true] at hf
  obtain ⟨ht, hf⟩ := hf
  cases d with
  | tuple ds =>
    obtain ⟨T, xs, rfl, r1, r2⟩ := hd.wx
    refine .tup ?_ (xaQ h ht r2 hf)
    have nk : ∀ {o : HO}, H T = some o → zar o = false → ¬ kh a w T := fun {o} e k z => by
      obtain ⟨u, e2, k2⟩ := h.at_ z
      rw [e] at e2
      cases e2
      rw [k] at k2
      cases k2
    rcases r1 with (r1 | ⟨o, r1⟩) | r1
    · obtain ⟨n, e⟩ := yf r1
      exact .inl (.inl (vc (fun z => z.elim n (nk e rfl)) e))
    · obtain ⟨n, e⟩ := yf r1
      exact .inl (.inr ⟨o, vc (fun z => z.elim n (nk e rfl)) e⟩)
    · exact .inr r1
  | none => exact Dp.scalar rfl hd
  | bool b => exact Dp.scalar rfl hd
  | int i => exact Dp.scalar rfl hd
  | str x => exact Dp.scalar rfl hd
  | list ds => cases hf
  | dict ks => cases hf
theorem xk.xbZ (S : xk K Cl H0 Z H σ ρ iw a w s) : (ρ.set iw (.pin a))[iw]? = some (.pin a) := by rw [List.getElem?_set, if_pos rfl, if_pos (List.getElem?_eq_some_iff.mp S.un).1]
theorem xk.kbZ (S : xk K Cl H0 Z H σ ρ iw a w s) (b : Addr) : vg σ (ρ.set iw (.ob 3000 s.of)) b ↔ vg σ (ρ.set iw (.pin a)) b := by
  have e : ρ.set iw (.ob 3000 s.of) = (ρ.set iw (.pin a)).set iw (.ob 3000 s.of) := by rw [List.set_set]
  rw [e]
  exact ⟨fun ⟨j, q⟩ => ⟨j, (vaE (s := .pin a) (s' := .ob 3000 s.of) S.xbZ (show ¬ Slot.yz (.pin a) from fun z => z) (show ¬ Slot.yz (.ob 3000 s.of) from fun z => z) j b).mp q⟩, fun ⟨j, q⟩ => ⟨j, (vaE (s := .pin a) (s' := .ob 3000 s.of) S.xbZ (show ¬ Slot.yz (.pin a) from fun z => z) (show ¬ Slot.yz (.ob 3000 s.of) from fun z => z) j b).mpr q⟩⟩
theorem xk.free (S : xk K Cl H0 Z H σ ρ iw a w s) {v : V} {d : D} (hd : Dp K (hide H (Zo Z σ (ρ.set iw (.ob 3000 s.of)))) v d) (hf : qbz s d = true) : Dp K (hide H (Zo (ZA Z a w) σ (ρ.set iw (.pin a)))) v d :=
  Dp.same (jc (yb.refl _) fun b hb => .inl (by
    rcases hb with (hb | hb) | hb
    · exact .inl (.inl hb)
    · exact .inr hb
    · exact .inl (.inr ((S.kbZ b).mpr hb)))) (xb9 S.wa hd hf)
theorem xk.jx (S : xk K Cl H0 Z H σ ρ iw a w s) {j : Nat} {v : V} {d : D} (hj : iw ≠ j) (hd : Dp K (hide H (Zo (ZA Z a w) σ (ρ.set iw (.pin a)))) v d) : xk K Cl H0 Z H (σ.set j (some v)) (ρ.set j (.dat d)) iw a w s := by
  have e : (ρ.set j (.dat d)).set iw (.pin a) = (ρ.set iw (.pin a)).set j (.dat d) := List.set_comm _ _ (Ne.symm hj)
  have I := S.si.jx (i := j) hd
  have m : yb (hide H (Zo (ZA Z a w) σ (ρ.set iw (.pin a)))) (hide H (Zo (ZA Z a w) (σ.set j (some v)) ((ρ.set iw (.pin a)).set j (.dat d)))) := jc (yb.refl _) fun b hb => .inl (hb.imp id fun ⟨k, q⟩ => ⟨k, jw (s := .dat d) (fun z => nomatch z) q⟩)
  exact ⟨by rw [e]; exact I, by rw [e]; exact S.wa.same (fun _ _ => rfl) m, S.h0, S.nz, by rw [List.getElem?_set_ne (Ne.symm hj)]; exact S.un⟩
section
variable {X : Cx} {e : Expr} {f : FE} {pos : Pos}
end
open Classical in
noncomputable def pinned {β : Type} (iw : Nat) (g : ya → Option β) (ρ : ya) : Option β := if h : ∃ o, ∀ a, g (ρ.set iw (.pin a)) = some o then some h.choose else none
abbrev WF := WS → List D → Option (WS × zbz)
theorem xk.start {rest : List V} {ds : List D} {m : Nat} (live : waz Cl (ZA Z a w) H) (wa : WA K Cl H (hide H (ZA Z a w)) a w s) (nz : ∀ b, kh a w b → ¬ Z b) (h : DpAll K (hide H (ZA Z a w)) rest ds) : xk K Cl (hide H (kh a w)) Z H (some (.ref a) :: (rest.map some ++ List.replicate m none)) (.un :: (ds.map .dat ++ List.replicate m .un)) 0 a w s := by
  have e : vae (hide H (kh a w)) H a w = H := funext fun b => by
    by_cases z : kh a w b
    · rw [zI z]
    · rw [xi z]
      unfold hide
      rw [if_neg z]
  have no : ∀ i b, ¬ zg (some (.ref a) :: (rest.map some ++ List.replicate m none)) (.pin a :: (ds.map .dat ++ List.replicate m .un)) i b := fun i b ho => by
    obtain ⟨t, h2, h3⟩ := ho.slot
    cases i with
    | zero => cases h2; cases h3
    | succ i =>
      have h2 : (ds.map Slot.dat ++ List.replicate m .un)[i]? = some t := h2
      rw [List.getElem?_append] at h2
      split at h2
      · rw [List.getElem?_map] at h2
        cases e : ds[i]? with
        | none => rw [e] at h2; cases h2
        | some d => rw [e] at h2; cases h2; cases h3
      · rw [List.getElem?_replicate] at h2
        split at h2
        · cases h2; cases h3
        · cases h2
  have hl := h.length
  have hm : yb (hide H (ZA Z a w)) (hide H (Zo (ZA Z a w) (some (.ref a) :: (rest.map some ++ List.replicate m none)) (.pin a :: (ds.map .dat ++ List.replicate m .un)))) := jc (yb.refl _) fun b hb => .inl (hb.elim id fun ⟨j, z⟩ => absurd z (no j b))
  refine ⟨?_, wa.same (fun _ _ => rfl) hm, fun b z => by unfold hide; rw [if_pos z], nz, rfl⟩
  rw [e]
  refine ⟨⟨by simp [hl], fun i j b h1 => absurd h1 (no i b), fun b ⟨i, z⟩ => absurd z (no i b), live.lv, fun i t e => ?_, live.tb⟩, Same.refl _, fun b ⟨i, z⟩ => absurd z (no i b)⟩
  cases i with
  | zero =>
    cases e
    exact rfl
  | succ i =>
    have e : (ds.map Slot.dat ++ List.replicate m .un)[i]? = some t := e
    show zaD K Cl H _ ((rest.map some ++ List.replicate m none)[i]?) t
    rw [List.getElem?_append] at e
    split at e
    · rename_i hi
      rw [List.length_map] at hi
      rw [List.getElem?_map] at e
      cases e1 : ds[i]? with
      | none => rw [e1] at e; cases e
      | some d =>
        rw [e1] at e
        cases e
        obtain ⟨v, e2, e3⟩ := h.get e1
        refine ⟨v, ?_, Dp.same hm e3⟩
        rw [List.getElem?_append_left (by rw [List.length_map, hl]; exact hi), List.getElem?_map, e2]
        rfl
    · rw [List.getElem?_replicate] at e
      split at e
      · cases e; trivial
      · cases e
theorem RTW.after {w0 : j6} (R : RTW K Cl (hide H (kh a w0)) Z H' a w s) : After Cl H a w0 H' w := ⟨R.same, fun _ => R.tb, fun b hb => by
  have q := R.h0 b hb
  unfold hide at q
  split at q
  · rename_i z
    exact .inl z
  · exact .inr q⟩
end
section
variable {K : PySem.W.Frag} {Cl : Nat → Addr} {W : WX} {H H' H0 Hs Hs' : Hp} {a : Addr} {w w' : j6} {s s' : WS} {Z Y : Addr → Prop} {σ σ' : St} {ρ ρ' : ya} {iw : Nat}
theorem zeq : ZA (Zo Z σ ρ) a w = Zo (ZA Z a w) σ ρ := funext fun b => propext ⟨fun h => by
  rcases h with (h | h) | h
  · exact .inl (.inl h)
  · exact .inr h
  · exact .inl (.inr h), fun h => by
  rcases h with (h | h) | h
  · exact .inl (.inl h)
  · exact .inr h
  · exact .inl (.inr h)⟩
section
variable {X : Cx} {o e : Expr} {es : List Expr} {g : FA} {pos cpos apos : Pos}
end
def ws0 : WS := ⟨0, [], 0, 0, -1, 0, 0, 0, [], [], [], []⟩
structure wc0 (Cl : Nat → Addr) (H H' : Hp) (x dx : Addr) (w : j6) (pr pt : Addr) : Prop where
  edx : w.dx = dx
  o : H' x = some (.ins (Cl 3000) dx ((zae 3000).zip (yby w ws0 (.ref pr) (.ref pt))))
  d : H' dx = some (.own x)
  p : H' w.q = some (.lst [])
  r : H' w.r = some (.lst [])
  n : H' w.n = some (.dK [])
  hpr : H' pr = some (.lst [])
  hpt : H' pt = some (.lst [])
  nq : H w.q = none
  nr : H w.r = none
  nn : H w.n = none
  npr : H pr = none
  npt : H pt = none
  ap : w.q ≠ w.r ∧ pr ≠ w.q ∧ pr ≠ w.r ∧ pt ≠ w.q ∧ pt ≠ w.r
  keep : ∀ b o, H b = some o → b ≠ x → H' b = some o
  nf : ∀ b o xs, H' b = some (.frz o (.lst xs)) → H b = some (.frz o (.lst xs))
section
variable {X : Cx} {srest : List Stmt} {rest : FW} {pos p pos0 p1 : Pos}
end
end
section
variable {K : PySem.W.Frag} {Cl : Nat → Addr} {W : WX} {H H' H0 H1 H2 Hs Hs' : Hp} {a : Addr} {w w' : j6} {s s' : WS} {Z Y : Addr → Prop} {σ σ' : St} {ρ ρ' : ya} {iw : Nat}
theorem xk.nk (S : xk K Cl H0 Z H σ ρ iw a w s) (sm : Same Cl H H1) {x : Addr} {u : HO} (hu : ∀ o v, u ≠ .frz o v) : ∀ b o xs, kh a w b → upd H1 x u b ≠ some (.frz o (.lst xs)) := fun b o xs h e => by
  by_cases z : b = x
  · rw [z, upd_same] at e
    exact hu _ _ (Option.some.inj e)
  · rw [upd_ne z, S.wa.kept sm h] at e
    obtain ⟨u2, e2, k⟩ := S.wa.at_ h
    rw [e2] at e
    cases e
    cases k
theorem xk.put (S : xk K Cl H0 Z H σ ρ iw a w s) (sm : Same Cl H H1) (nk : ∀ b o xs, kh a w b → H2 b ≠ some (.frz o (.lst xs))) (h2 : ∀ b, ¬ kh a w b → H2 b = H1 b) (new : ∀ b, kh a w' b → kh a w b ∨ H b = none) : After Cl H a w H2 w' := by
  have k1 : ∀ {b : Addr} {o : HO}, H1 b = some o → ((∃ ps, o = .tbl ps) ∨ ∃ q, o = LamX.CodeO b q) → ¬ kh a w b := fun {b o} e k z => by
    obtain ⟨u, e2, k2⟩ := S.wa.at_ z
    rw [S.wa.kept sm z, e2] at e
    cases e
    rcases k with ⟨ps, rfl⟩ | ⟨q, rfl⟩
    · cases k2
    · unfold LamX.CodeO at k2
      cases k2
  have tb : xX Cl H → xX Cl H2 := fun t q hq n => by
    obtain ⟨ps, e1, e2, e3⟩ := sm.tb t q hq n
    refine ⟨ps, by rw [h2 _ (k1 e1 (.inl ⟨ps, rfl⟩))]; exact e1, e2, fun pos cv hc => ?_⟩
    obtain ⟨c, e4, e5⟩ := e3 pos cv hc
    exact ⟨c, e4, by rw [h2 _ (k1 e5 (.inr ⟨_, rfl⟩))]; exact e5⟩
  refine ⟨⟨fun b o e t => ?_, fun _ => tb S.si.di.tb, fun b e => ?_, fun b o xs e => ?_⟩, tb, new⟩
  · obtain ⟨n, e1⟩ := yf e
    rw [h2 b n]
    exact sm.at e1 t
  · unfold hide at e
    split at e
    · exact absurd rfl e
    · rename_i n
      rw [h2 b n]
      exact sm.live b e
  · by_cases h : kh a w b
    · exact absurd e (nk b o xs h)
    · exact vc h (sm.nf b o xs (by rw [← h2 b h]; exact e))
def WS.jW (s : WS) : Nat → List D → Option WS
  | 8, l => some { s with rows := l }
  | 9, l => some { s with tags := l }
  | _, _ => none
section
variable {X : Cx} {o e : Expr} {f : Str} {fe : FE} {pos pos' apos cpos : Pos}
end
end
def vb0 : D → Bool
  | .tuple es => es.all wj
  | _ => false
def kaQ (ps : List (Int × D)) (k : Int) (d : D) : List (Int × D) := if (ps.any fun p => decide (p.1 = k)) = true then ps.map (fun p => if p.1 = k then (p.1, d) else p) else ps ++ [(k, d)]
section
variable {K : PySem.W.Frag} {Cl : Nat → Addr} {W : WX} {H H' H0 H1 H2 Hs Hs' : Hp} {a : Addr} {w w' : j6} {s s' : WS} {Z Y : Addr → Prop} {σ σ' : St} {ρ ρ' : ya} {iw : Nat}
theorem xh.len : ∀ {kvs : List (Key × V)} {ps : List (Int × D)}, xh K Hs kvs ps → kvs.length = ps.length
  | _, _, .nil => rfl
  | _, _, .cons _ t => by rw [List.length_cons, List.length_cons, xh.len t]
theorem xh.any {k : Int} : ∀ {kvs : List (Key × V)} {ps : List (Int × D)}, xh K Hs kvs ps → (kvs.any fun kv => decide (kv.1 = (Sum.inl k : Key))) = ps.any fun p => decide (p.1 = k)
  | _, _, .nil => rfl
  | _, _, .cons (k := j) _ t => by
    rw [List.any_cons, List.any_cons, xh.any t]
    congr 1
    exact decide_eq_decide.mpr ⟨fun h => Sum.inl.inj h, fun h => congrArg Sum.inl h⟩
theorem xh.snoc {k : Int} {v : V} {d : D} (h : Dp K Hs v d) : ∀ {kvs : List (Key × V)} {ps : List (Int × D)}, xh K Hs kvs ps → xh K Hs (kvs ++ [(Sum.inl k, v)]) (ps ++ [(k, d)])
  | _, _, .nil => .cons h .nil
  | _, _, .cons q t => .cons q (xh.snoc h t)
theorem xh.repl {k : Int} {v : V} {d : D} (h : Dp K Hs v d) : ∀ {kvs : List (Key × V)} {ps : List (Int × D)}, xh K Hs kvs ps → xh K Hs (kvs.map fun kv => if kv.1 = (Sum.inl k : Key) then (kv.1, v) else kv) (ps.map fun p => if p.1 = k then (p.1, d) else p)
  | _, _, .nil => .nil
  | _, _, .cons (k := j) q t => by
    rw [List.map_cons, List.map_cons]
    by_cases z : j = k
    · subst z
      rw [if_pos rfl, if_pos rfl]
      exact .cons h (xh.repl h t)
    · rw [if_neg (fun y => z (Sum.inl.inj y)), if_neg z]
      exact .cons q (xh.repl h t)
theorem xh.put {k : Int} {v : V} {d : D} {kvs : List (Key × V)} {ps : List (Int × D)} (q : xh K Hs kvs ps) (h : Dp K Hs v d) : xh K Hs (putK kvs (Sum.inl k : Key) v) (kaQ ps k d) := by
  unfold putK kaQ
  rw [q.any]
  split
  · exact q.repl h
  · exact q.snoc h
theorem qca {B : Addr → Prop} (hB : ∀ b, B b → ∃ u, H b = some u ∧ zar u = true) {v : V} {d : D} (hd : Dp K (hide H Y) v d) (hs : vb0 d = true) : Dp K (hide H fun b => Y b ∨ B b) v d := by
  cases d with
  | tuple es =>
    obtain ⟨T, xs, rfl, r1, r2⟩ := hd.wx
    have nk : ∀ {o : HO}, H T = some o → zar o = false → ¬ B T := fun {o} e k z => by
      obtain ⟨u, e2, k2⟩ := hB T z
      rw [e] at e2
      cases e2
      rw [k] at k2
      cases k2
    refine .tup ?_ (DpAll.scalar hs r2)
    rcases r1 with (r1 | ⟨o, r1⟩) | r1
    · obtain ⟨n, e⟩ := yf r1
      exact .inl (.inl (vc (fun z => z.elim n (nk e rfl)) e))
    · obtain ⟨n, e⟩ := yf r1
      exact .inl (.inr ⟨o, vc (fun z => z.elim n (nk e rfl)) e⟩)
    · exact .inr r1
  | _ => cases hs
theorem xk.app {i : Int} (S : xk K Cl H0 Z H σ ρ iw a w s) : xk K Cl H0 Z (upd H w.q (.lst (s.qar.map V.int ++ [.int i]))) σ ρ iw a w { s with qar := s.qar ++ [i] } := by
  obtain ⟨vr, vt, e1, e2, e3⟩ := S.wa.o
  have af := S.put (H1 := H) (H2 := upd H w.q (.lst (s.qar.map V.int ++ [.int i]))) (w' := w) (Same.refl _) (S.nk (Same.refl _) fun _ _ z => nomatch z) (fun b n => upd_ne (fun z => n (.inr (.inr (.inl z))))) (fun b h => .inl h)
  have m := S.waE af
  have ne : ∀ {b : Addr} {o : HO}, H b = some o → (∀ l, o ≠ .lst l) → b ≠ w.q := fun {b o} h n z => by
    rw [z, S.wa.p] at h
    exact n _ (Option.some.inj h).symm
  obtain ⟨xs, e4, e5⟩ := S.wa.sp
  obtain ⟨kvs, e6, e7⟩ := S.wa.nm
  refine S.after af ⟨⟨vr, vt, ?_, Dp.same m e2, Dp.same m e3⟩, ?_, ?_, ⟨xs, ?_, DpAll.same m e5⟩, ⟨kvs, ?_, e7.same m⟩, S.wa.qr⟩
  · rw [upd_ne (ne e1 fun _ z => by cases z)]
    exact e1
  · rw [upd_ne (ne S.wa.d fun _ z => by cases z)]
    exact S.wa.d
  · rw [upd_same]
    show _ = some (HO.lst ((s.qar ++ [i]).map V.int))
    rw [List.map_append]
    rfl
  · rw [upd_ne S.wa.qr.symm]
    exact e4
  · rw [upd_ne (ne e6 fun _ z => by cases z)]
    exact e6
theorem xk.putAt {j : Nat} {x : V} {d : D} {xs : List V} (S : xk K Cl H0 Z H σ ρ iw a w s) (hr : H w.r = some (.lst xs)) (hx : Dp K (hide H (Zo (ZA Z a w) σ (ρ.set iw (.pin a)))) x d) : xk K Cl H0 Z (upd H w.r (.lst (xs.set j x))) σ ρ iw a w { s with zY := s.zY.set j d } := by
  obtain ⟨vr, vt, e1, e2, e3⟩ := S.wa.o
  have af := S.put (H1 := H) (H2 := upd H w.r (.lst (xs.set j x))) (w' := w) (Same.refl _) (S.nk (Same.refl _) fun _ _ z => nomatch z) (fun b n => upd_ne (fun z => n (.inr (.inr (.inr (.inl z)))))) (fun b h => .inl h)
  have m := S.waE af
  obtain ⟨ys, e4, e5⟩ := S.wa.sp
  rw [hr] at e4
  cases e4
  have ne : ∀ {b : Addr} {o : HO}, H b = some o → (∀ l, o ≠ .lst l) → b ≠ w.r := fun {b o} h n z => by
    rw [z, hr] at h
    exact n _ (Option.some.inj h).symm
  obtain ⟨kvs, e6, e7⟩ := S.wa.nm
  refine S.after af ⟨⟨vr, vt, ?_, Dp.same m e2, Dp.same m e3⟩, ?_, ?_, ⟨_, upd_same, DpAll.set (Dp.same m hx) j (DpAll.same m e5)⟩, ⟨kvs, ?_, e7.same m⟩, S.wa.qr⟩
  · rw [upd_ne (ne e1 fun _ z => by cases z)]
    exact e1
  · rw [upd_ne (ne S.wa.d fun _ z => by cases z)]
    exact S.wa.d
  · rw [upd_ne S.wa.qr]
    exact S.wa.p
  · rw [upd_ne (ne e6 fun _ z => by cases z)]
    exact e6
theorem xk.tup (S : xk K Cl H0 Z H σ ρ iw a w s) {v : V} {d : D} (hd : Dp K (hide H (Zo Z σ (ρ.set iw (.ob 3000 s.of)))) v d) (hs : vb0 d = true) : Dp K (hide H (Zo (ZA Z a w) σ (ρ.set iw (.pin a)))) v d :=
  Dp.same (jc (yb.refl _) fun b hb => .inl (by
    rcases hb with (hb | hb) | hb
    · exact .inl (.inl hb)
    · exact .inr hb
    · exact .inl (.inr ((S.kbZ b).mpr hb)))) (qca (B := kh a w) (fun b hb => S.wa.at_ hb) hd hs)
section
variable {X : Cx} {o e i : Expr} {fe fk : FE} {pos pos' apos cpos : Pos}
end
end
theorem qbc : ∀ {ns : List Str} {vs : List V} {f : Str} {y : V}, f ∉ ns → vs.length = ns.length → putF f y (ns.zip vs) = (ns ++ [f]).zip (vs ++ [y])
  | [], [], f, y, _, _ => rfl
  | [], _ :: _, _, _, _, h => nomatch h
  | _ :: _, [], _, _, _, h => nomatch h
  | n :: ns, v :: vs, f, y, h1, h2 => by
    show (if n = f then (n, y) :: ns.zip vs else (n, v) :: putF f y (ns.zip vs)) = _
    rw [if_neg (fun z => h1 (by rw [z]; exact List.mem_cons_self)), qbc (fun z => h1 (List.mem_cons_of_mem _ z)) (Nat.succ.inj h2)]
    rfl
structure Par (C : Addr) (H H' : Hp) (x dx : Addr) (ns : List Str) (vs : List V) (ls : List (Addr × HO)) : Prop where
  o : H' x = some (.ins C dx (ns.zip vs))
  hx : H x = some (.ins C dx [])
  ln : vs.length = ns.length
  hl : ∀ p ∈ ls, H' p.1 = some p.2 ∧ H p.1 = none
  nd : (ls.map (·.1)).Nodup
  keep : ∀ b o, H b = some o → b ≠ x → H' b = some o
  nf : ∀ b o xs, H' b = some (.frz o (.lst xs)) → H b = some (.frz o (.lst xs))
section
variable {K : PySem.W.Frag} {C : Addr} {H H' : Hp} {x dx p : Addr} {ns : List Str} {vs : List V} {ls : List (Addr × HO)} {f : Str} {v : V} {o : HO} {D : Ends}
theorem Par.ne (S : Par C H H' x dx ns vs ls) {q : Addr × HO} (h : q ∈ ls) : q.1 ≠ x := fun z => by
  have := (S.hl q h).2
  rw [z, S.hx] at this
  cases this
theorem Par.val (S : Par C H H' x dx ns vs ls) (n : f ∉ ns) : Par C H (upd H' x (.ins C dx (putF f v (ns.zip vs)))) x dx (ns ++ [f]) (vs ++ [v]) ls :=
  ⟨by rw [upd_same, qbc n S.ln], S.hx, by rw [List.length_append, List.length_append, S.ln]; rfl, fun q h => ⟨by rw [upd_ne (S.ne h)]; exact (S.hl q h).1, (S.hl q h).2⟩, S.nd, fun b o e n => (by rw [upd_ne n]; exact S.keep b o e n), fun b o xs e => (by
    by_cases z : b = x
    · rw [z, upd_same] at e
      cases e
    · rw [upd_ne z] at e
      exact S.nf b o xs e)⟩
theorem Par.ob (S : Par C H H' x dx ns vs ls) (np : H' p = none) (no : ∀ o' v', o ≠ .frz o' v') : Par C H (upd H' p o) x dx ns vs (ls ++ [(p, o)]) := by
  have nx : x ≠ p := ne_of_none S.o np
  have nH : H p = none := by
    cases e : H p with
    | none => rfl
    | some u =>
      by_cases z : p = x
      · exact absurd z.symm nx
      · rw [S.keep p u e z] at np
        cases np
  refine ⟨by rw [upd_ne nx]; exact S.o, S.hx, S.ln, fun q h => ?_, ?_, fun b o e n => (by rw [upd_ne (ne_of_none e nH)]; exact S.keep b o e n), fun b o' xs e => (by
    by_cases z : b = p
    · rw [z, upd_same] at e
      exact absurd (Option.some.inj e) (no _ _)
    · rw [upd_ne z] at e
      exact S.nf b o' xs e)⟩
  · rcases List.mem_append.mp h with h | h
    · refine ⟨?_, (S.hl q h).2⟩
      rw [upd_ne (ne_of_none (S.hl q h).1 np)]
      exact (S.hl q h).1
    · cases List.mem_singleton.mp h
      exact ⟨upd_same, nH⟩
  · rw [List.map_append, List.nodup_append]
    refine ⟨S.nd, List.nodup_cons.mpr ⟨List.not_mem_nil, List.nodup_nil⟩, fun a ha b hb => ?_⟩
    obtain ⟨q, hq, rfl⟩ := List.mem_map.mp ha
    cases List.mem_singleton.mp hb
    exact ne_of_none (S.hl q hq).1 np
end
section
variable {K : PySem.W.Frag} {Cl : Nat → Addr} {vs : List V} {H : Hp} {Q : VK} {E : XK} {D : Ends}
end
section
variable {X : Cx} {Cl : Nat → Addr} {W : WX} {st : Stmt}
end
section
variable {X : Cx} {Cl : Nat → Addr} {W : WX} {a b c : Expr} {g : FA} {pos : Pos} {K : PySem.W.Frag} {H : Hp} {Z : Addr → Prop} {σ : St} {ρ : ya}
end
section
variable {X : Cx} {Cl : Nat → Addr} {W : WX} {e : Expr} {es : List Expr} {g : FA} {f2 : FE} {t1 t3 : FT} {rest : FS}
end
def jaW (K : PySem.W.Frag) (k : Nat) (H H' : Hp) (v : V) (d : D) : Prop := ∃ (T : Addr) (ys : List V) (ds : List D) (q : Addr) (zs : List V) (ws : List D), v = V.ref T ∧ d = .tuple ds ∧ SqT K H' T ys ∧ ys[k]? = some (V.ref q) ∧ ds[k]? = some (.list ws) ∧ H q = none ∧ H' q = some (.lst zs) ∧ zs.length = ws.length
abbrev TY := List D → Option D
section
variable {K : PySem.W.Frag} {Cl : Nat → Addr} {H H0 H1 H2 : Hp} {k : Nat} {v : V} {d : D}
theorem jaW.same (t : jaW K k H0 H1 v d) (s : Same Cl H1 H2) : jaW K k H0 H2 v d := by
  obtain ⟨T, ys, ds, q, zs, ws, e1, e2, h1, h2, h3, h4, h5, h6⟩ := t
  exact ⟨T, ys, ds, q, zs, ws, e1, e2, SqT.same s.d h1, h2, h3, h4, s.at h5, h6⟩
theorem jaW.from (t : jaW K k H1 H2 v d) (s : Same Cl H0 H1) : jaW K k H0 H2 v d := by
  obtain ⟨T, ys, ds, q, zs, ws, e1, e2, h1, h2, h3, h4, h5, h6⟩ := t
  exact ⟨T, ys, ds, q, zs, ws, e1, e2, h1, h2, h3, s.free h4, h5, h6⟩
end
def mkY (n m : Nat) (f : ya → Option D) : TY := fun ds => f (ds.map .dat ++ List.replicate (m - n) .un)
section
variable {K : PySem.W.Frag} {Cl : Nat → Addr}
theorem qbR {vs : List V} {ds : List D} {m : Nat} {i : Nat} {a : Addr} (ho : zg (vs.map some ++ List.replicate m none) (ds.map .dat ++ List.replicate m .un) i a) : False := by
  obtain ⟨s, h2, h3⟩ := ho.slot
  rw [List.getElem?_append] at h2
  split at h2
  · rw [List.getElem?_map] at h2
    cases e : ds[i]? with
    | none => rw [e] at h2; cases h2
    | some d => rw [e] at h2; cases h2; cases h3
  · rw [List.getElem?_replicate] at h2
    split at h2
    · cases h2; cases h3
    · cases h2
theorem SI.start {Z : Addr → Prop} {H : Hp} {vs : List V} {ds : List D} {m : Nat} (live : waz Cl Z H) (h : DpAll K (hide H Z) vs ds) : SI K Cl H Z H (vs.map some ++ List.replicate m none) (ds.map .dat ++ List.replicate m .un) :=
  ⟨DI.start live h, Same.refl _, fun b ⟨i, o⟩ => (qbR o).elim⟩
end
def jbz (k : Nat) (fa fb : FE) : ya → Option D := fun ρ => match fa ρ, fb ρ with
  | some (.ok (.s (.tuple xs))), some (.ok (.f ws)) => if (decide (xs.length = k) && (decide (0 < k) && vj (k + 1))) = true then some (.tuple (xs ++ [.list ws])) else none
  | _, _ => none
section
variable {X : Cx} {Cl : Nat → Addr} {W : WX} {a b : Expr} {fa fb : FE}
end
section
variable {K : PySem.W.Frag} {Cl : Nat → Addr} {Hs : Hp}
theorem xh.at {n : Int} {d : D} : ∀ {kvs : List (Key × V)} {ps : List (Int × D)}, xh K Hs kvs ps → jaE ps n = some d → ∃ (v : V) (j : Nat), valV kvs (Sum.inl n : Key) = some v ∧ kvs[j]? = some ((Sum.inl n : Key), v) ∧ ps[j]? = some (n, d) ∧ Dp K Hs v d
  | _, _, .nil, e => by cases e
  | _, _, .cons (k := k) (v := v) (d := d0) (kvs := kvs) (ps := ps) h t, e => by
    unfold jaE at e
    by_cases z : k = n
    · subst z
      rw [if_pos rfl] at e
      cases e
      exact ⟨v, 0, valV_pos (p := ((Sum.inl k : Key), v)) rfl, rfl, rfl, h⟩
    · rw [if_neg z] at e
      obtain ⟨v2, j, h1, h2, h3, h4⟩ := xh.at t e
      exact ⟨v2, j + 1, by rw [valV_neg (p := ((Sum.inl k : Key), v)) (fun y => z (Sum.inl.inj y))]; exact h1, by simpa using h2, by simpa using h3, h4⟩
theorem xh.keys : ∀ {kvs : List (Key × V)} {ps : List (Int × D)}, xh K Hs kvs ps → kvs.map (·.1) = (ps.map (·.1)).map Sum.inl
  | _, _, .nil => rfl
  | _, _, .cons h t => by
    rw [List.map_cons, List.map_cons, List.map_cons, xh.keys t]
theorem SI.ycr {H0 H : Hp} {Z : Addr → Prop} {σ : St} {ρ : ya} (I : SI K Cl H0 Z H σ ρ) {q : Addr} {ys zs : List (Key × V)} (hz : Z q) (h0 : H0 q = none) (hq : H q = some (.dK ys)) : SI K Cl H0 Z (upd H q (.dK zs)) σ ρ := by
  have hm : yb (hide H (Zo Z σ ρ)) (hide (upd H q (.dK zs)) (Zo Z σ ρ)) := fun b o e _ => by
    obtain ⟨n, e1⟩ := yf e
    exact vc n (by rw [upd_ne fun z => n (.inl (by rw [z]; exact hz))]; exact e1)
  have no : ∀ a, vg σ ρ a → a ≠ q := fun a o z => I.di.out a o (by rw [z]; exact hz)
  have n1 : ∀ ps, (HO.dK ys) ≠ .tbl ps := fun ps z => nomatch z
  have n2 : ∀ s, (HO.dK ys) ≠ LamX.CodeO q s := fun s z => by unfold LamX.CodeO at z; cases z
  refine ⟨⟨I.di.len, I.di.one, I.di.out, fun a z => ?_, fun i t e => ?_, I.di.tb.vaI hq n1 n2⟩, I.same.vaI h0 hq n1 n2 (fun _ _ z => nomatch z), I.new⟩
  · by_cases e : a = q
    · rw [e, upd_same]
      intro z; cases z
    · rw [upd_ne e]
      exact I.di.live a z
  · have k := I.di.slots i t e
    cases t with
    | un => trivial
    | dat d =>
      obtain ⟨v, e1, h1⟩ := k
      exact ⟨v, e1, Dp.same hm h1⟩
    | own ds =>
      obtain ⟨a, xs, e1, e2, h1⟩ := k
      exact ⟨a, xs, e1, by rw [upd_ne (no a ⟨i, .inl ⟨e1, ds, e⟩⟩)]; exact e2, DpAll.same hm h1⟩
    | err a dd j =>
      have nd : dd ≠ q := fun z => by
        have k2 := k.2
        rw [z, hq] at k2
        cases k2
      exact ⟨k.1, by rw [upd_ne nd]; exact k.2⟩
    | ownT a k' gs =>
      obtain ⟨T, e1, h1⟩ := k
      exact ⟨T, e1, h1.same hm fun _ z => by rw [upd_ne (no a ⟨i, .inr (.inl ⟨k', gs, e⟩)⟩)]; exact z⟩
    | pin a => exact k
    | ob k fs => exact kF.same hm k
    | wc a c =>
      obtain ⟨e1, u, e2, h1⟩ := k
      exact ⟨e1, u, by rw [upd_ne (no a ⟨i, .inr (.inr ⟨c, e⟩)⟩)]; exact e2, h1.same hm⟩
end
section
variable {X : Cx} {Cl : Nat → Addr} {W : WX} {tg iter c1 ke ke2 ae : Expr} {it : FI} {g : FG} {t1 : FT} {fk : FE} {ga : FA} {F : TY}
end
section
variable {P : Program} {w : World} {A : Around} {E : Value → Shared → Prop} {s : Shared}
end
section
variable {X : Cx} {Cl : Nat → Addr} {W : WX} {e : Expr} {fe : FE}
end
structure RS where
  ws : WS
  found : List D
  cont : List (Int × D)
structure qU where
  dx : Addr
  a : Addr
  w : j6
  f : Addr
  c : Addr
  k : Addr
def zbR (r : Addr) (x : qU) : Addr → Prop := fun b => b = r ∨ b = x.dx ∨ b = x.f ∨ b = x.c ∨ b = x.k
def inR (r : Addr) (x : qU) : Addr → Prop := fun b => zbR r x b ∨ kh x.a x.w b
def qa9 (x : qU) : List V := [.ref x.a, .ref x.f, .ref x.c, .ref x.k]
structure RA (K : PySem.W.Frag) (Cl : Nat → Addr) (H Hs : Hp) (r : Addr) (x : qU) (s : RS) : Prop where
  o : H r = some (.ins (Cl 3001) x.dx ((zae 3001).zip (qa9 x)))
  d : H x.dx = some (.own r)
  wa : WA K Cl H Hs x.a x.w s.ws
  f : ∃ xs, H x.f = some (.lst xs) ∧ DpAll K Hs xs s.found
  c : ∃ kvs, H x.c = some (.dK kvs) ∧ xh K Hs kvs s.cont
  k : H x.k = some (.lst [])
  ap : ∀ b, zbR r x b → ¬ kh x.a x.w b
  fk : x.f ≠ x.k
def ZR (Z : Addr → Prop) (r : Addr) (x : qU) : Addr → Prop := fun b => Z b ∨ inR r x b
structure xav (Cl : Nat → Addr) (H : Hp) (r : Addr) (x : qU) (H' : Hp) (x' : qU) : Prop where
  s : Same Cl (hide H (inR r x)) H'
  tb : xX Cl H → xX Cl H'
  new : ∀ b, inR r x' b → inR r x b ∨ H b = none
section
variable {K : PySem.W.Frag} {Cl : Nat → Addr} {H H' H0 H1 H2 Hs Hs' : Hp} {r : Addr} {x x' : qU} {s s' : RS} {Z Y : Addr → Prop} {σ σ' : St} {ρ ρ' : ya}
theorem RA.at_ (h : RA K Cl H Hs r x s) {b : Addr} (hb : inR r x b) : ∃ u, H b = some u ∧ zar u = true := by
  obtain ⟨xs, h2, _⟩ := h.f
  obtain ⟨kvs, h3, _⟩ := h.c
  rcases hb with (rfl | rfl | rfl | rfl | rfl) | hb
  · exact ⟨_, h.o, rfl⟩
  · exact ⟨_, h.d, rfl⟩
  · exact ⟨_, h2, rfl⟩
  · exact ⟨_, h3, rfl⟩
  · exact ⟨_, h.k, rfl⟩
  · exact h.wa.at_ hb
theorem RA.same (h : RA K Cl H Hs r x s) (h1 : ∀ b, inR r x b → H' b = H b) (m : yb Hs Hs') : RA K Cl H' Hs' r x s := by
  obtain ⟨xs, e1, e2⟩ := h.f
  obtain ⟨kvs, e3, e4⟩ := h.c
  exact ⟨by rw [h1 _ (.inl (.inl rfl))]; exact h.o, by rw [h1 _ (.inl (.inr (.inl rfl)))]; exact h.d, h.wa.same (fun b hb => h1 b (.inr hb)) m, ⟨xs, by rw [h1 _ (.inl (.inr (.inr (.inl rfl))))]; exact e1, DpAll.same m e2⟩,
    ⟨kvs, by rw [h1 _ (.inl (.inr (.inr (.inr (.inl rfl)))))]; exact e3, e4.same m⟩, by rw [h1 _ (.inl (.inr (.inr (.inr (.inr rfl)))))]; exact h.k, h.ap, h.fk⟩
theorem RA.kept (h : RA K Cl H Hs r x s) (sm : Same Cl H H') {b : Addr} (hb : inR r x b) : H' b = H b := by
  obtain ⟨u, e, k⟩ := h.at_ hb
  rw [e, sm.at e (jar k)]
theorem RA.up (h : RA K Cl H (hide H Y) r x s) (sm : Same Cl H H') : RA K Cl H' (hide H' Y) r x s := h.same (fun b hb => h.kept sm hb) (kf sm fun _ h => .inl h)
theorem Same.hidden {S : Addr → Prop} (sm : Same Cl H0 H) (n : ∀ b, S b → H0 b = none) (k : ∀ b, S b → ∃ u, H b = some u ∧ zar u = true) : Same Cl H0 (hide H S) := by
  have nS : ∀ {b : Addr}, H0 b ≠ none → ¬ S b := fun {b} e z => e (n b z)
  have nt : ∀ {b : Addr} {o : HO}, H b = some o → ((∃ ps, o = .tbl ps) ∨ ∃ q, o = LamX.CodeO b q) → ¬ S b := fun {b o} e k2 z => by
    obtain ⟨u, e2, k3⟩ := k b z
    rw [e] at e2
    cases e2
    rcases k2 with ⟨ps, rfl⟩ | ⟨q, rfl⟩
    · cases k3
    · unfold LamX.CodeO at k3
      cases k3
  refine ⟨fun b o e t => vc (nS (by rw [e]; intro z; cases z)) (sm.d b o e t), fun t q hq m => ?_, fun b e z => ?_, fun b o xs e => sm.nf b o xs (yf e).2⟩
  · obtain ⟨ps, h1, h2, h3⟩ := sm.tb t q hq m
    refine ⟨ps, vc (nt h1 (.inl ⟨ps, rfl⟩)) h1, h2, fun pos cv hc => ?_⟩
    obtain ⟨c, e1, e2⟩ := h3 pos cv hc
    exact ⟨c, e1, vc (nt e2 (.inr ⟨_, rfl⟩)) e2⟩
  · unfold hide at z
    rw [if_neg (nS e)] at z
    exact sm.live b e z
end
abbrev FC := D → List (Int × D) → Option (List D)
section
variable {K : PySem.W.Frag} {Cl : Nat → Addr}
end
section
variable {X : Cx} {Cl : Nat → Addr} {W : WX} {c1 ke e0 : Expr} {t1 : FT} {fk : FE} {fin : FS} {tr : Stmt}
end
abbrev RF := RS → List D → Option (RS × List D)
theorem qci : (zae 3001).Nodup := by decide +kernel
section
variable {K : PySem.W.Frag} {Cl : Nat → Addr} {H H' H0 H1 H2 Hs Hs' : Hp} {r : Addr} {x x' : qU} {s s' : RS} {Z Y Y' : Addr → Prop} {σ σ' : St} {ρ ρ' : ya}
theorem RA.mv (h : RA K Cl H (hide H Y) r x s) (sm : Same Cl H H') (y : ∀ b, Y' b → Y b ∨ H b = none) : RA K Cl H' (hide H' Y') r x s := h.same (fun b hb => h.kept sm hb) (kf sm y)
theorem RA.look (h : RA K Cl H Hs r x s) {j : Nat} {f : Str} {v : V} (h1 : (zae 3001)[j]? = some f) (h2 : (qa9 x)[j]? = some v) : ((zae 3001).zip (qa9 x)).lookup f = some v := yaQ qci h1 h2
structure RB (K : PySem.W.Frag) (Cl : Nat → Addr) (H0 : Hp) (Z : Addr → Prop) (H : Hp) (σ : St) (ρ : ya) (r : Addr) (x : qU) (s : RS) : Prop where
  si : SI K Cl (hide H0 (inR r x)) (ZR Z r x) H σ ρ
  ra : RA K Cl H (hide H (Zo (ZR Z r x) σ ρ)) r x s
  nz : ∀ b, inR r x b → ¬ Z b
  me : ρ[0]? = some (.pin r)
theorem RB.up (B : RB K Cl H0 Z H σ ρ r x s) (sm : Same Cl H H') : RB K Cl H0 Z H' σ ρ r x s := ⟨B.si.jk sm, B.ra.up sm, B.nz, B.me⟩
theorem RB.var (B : RB K Cl H0 Z H σ ρ r x s) : σ[0]? = some (some (.ref r)) := B.si.di.slots 0 _ B.me
theorem RB.jx (B : RB K Cl H0 Z H σ ρ r x s) {i : Nat} {v : V} {d : DL.D} (hi : i ≠ 0) (h : Dp K (hide H (Zo (ZR Z r x) σ ρ)) v d) : RB K Cl H0 Z H (σ.set i (some v)) (ρ.set i (.dat d)) r x s :=
  ⟨B.si.jx h, B.ra.mv (Same.refl _) fun b hb => .inl (hb.imp id fun ⟨j, q⟩ => ⟨j, jw (s := .dat d) (fun z => nomatch z) q⟩), B.nz, by rw [List.getElem?_set_ne hi]; exact B.me⟩
theorem RB.kaD (B : RB K Cl H0 Z H σ ρ r x s) {i : Nat} {p : Addr} {xs : List V} {ds : List DL.D} (hi : i ≠ 0) (np : H p = none) (h : DpAll K (hide (upd H p (.lst xs)) (ZP (Zo (ZR Z r x) σ ρ) p)) xs ds) : RB K Cl H0 Z (upd H p (.lst xs)) (σ.set i (some (.ref p))) (ρ.set i (.own ds)) r x s := by
  have sm : Same Cl H (upd H p (.lst xs)) := zl np
  refine ⟨B.si.kaD sm np upd_same h, B.ra.mv sm fun b hb => ?_, B.nz, by rw [List.getElem?_set_ne hi]; exact B.me⟩
  rcases hb with hb | ⟨j, hb⟩
  · exact .inl (.inl hb)
  · by_cases hj : i = j
    · subst hj
      obtain ⟨h1, ds', h2⟩ | ⟨k, ds', h2⟩ | ⟨c, h2⟩ := hb
      · have hlt : i < (σ.set i (some (.ref p))).length := (List.getElem?_eq_some_iff.mp h1).1
        rw [List.length_set] at hlt
        rw [List.getElem?_set, if_pos rfl, if_pos hlt] at h1
        cases h1
        exact .inr np
      · rw [List.getElem?_set, if_pos rfl] at h2
        split at h2 <;> cases h2
      · rw [List.getElem?_set, if_pos rfl] at h2
        split at h2 <;> cases h2
    · unfold zg at hb
      rw [List.getElem?_set_ne hj, List.getElem?_set_ne hj] at hb
      exact .inl (.inr ⟨j, hb⟩)
theorem RB.out (B : RB K Cl H0 Z H σ ρ r x s) {b : Addr} (o : vg σ ρ b) : ¬ inR r x b := fun z => B.si.di.out b o (.inr z)
end
section
variable {X : Cx} {Cl : Nat → Addr} {W : WX} {H H0 : Hp} {r : Addr} {x : qU} {s s' : RS} {Z : Addr → Prop} {σ : St} {ρ : ya}
end
section
variable {K : PySem.W.Frag} {Cl : Nat → Addr} {W : WX} {H H' H0 H1 : Hp} {r : Addr} {x : qU} {s s' : RS} {Z Y : Addr → Prop} {σ σ' : St} {ρ ρ' : ya} {D : Ends}
theorem RB.step (B : RB K Cl H0 Z H σ ρ r x s) (I : SI K Cl (wi H σ ρ) (ZR Z r x) H' σ' ρ') (hp : ρ'[0]? = some (.pin r)) : RB K Cl H0 Z H' σ' ρ' r x s := by
  obtain ⟨b0, I2⟩ := B.si.based
  refine ⟨I.rebase b0, B.ra.same (fun b hb => ?_) I.kept, B.nz, hp⟩
  obtain ⟨u, e, k⟩ := B.ra.at_ hb
  rw [e]
  exact I.same.at (qD (fun z => B.out z hb) e) (jar k)
theorem RB.ts {f : FS} (B : RB K Cl H0 Z H σ ρ r x s) (e : f ρ = some (.nx ρ')) (hp : ρ'[0]? = some (.pin r)) (k : ∀ σ' H', RB K Cl H0 Z H' σ' ρ' r x s → D.nx σ' H') : xas K Cl W f D σ H :=
  ⟨_, _, ρ, .nx ρ', B.si.based.2, e, fun σ' H' I => k σ' H' (B.step I hp)⟩
theorem RB.zeq (r : Addr) (x : qU) (Z : Addr → Prop) (σ : St) (ρ : ya) : Zo (ZR Z r x) σ ρ = ZA (fun b => Zo Z σ ρ b ∨ zbR r x b) x.a x.w := funext fun b => propext ⟨fun h => by
  rcases h with (h | h | h) | h
  · exact .inl (.inl (.inl h))
  · exact .inl (.inr h)
  · exact .inr h
  · exact .inl (.inl (.inr h)), fun h => by
  rcases h with ((h | h) | h) | h
  · exact .inl (.inl h)
  · exact .inr h
  · exact .inl (.inr (.inl h))
  · exact .inl (.inr (.inr h))⟩
theorem vad {q : Addr} {u : HO} (h : Y q) : yb (hide H Y) (hide (upd H q u) Y) := fun b o e _ => by
  obtain ⟨n, e1⟩ := yf e
  exact vc n (by rw [upd_ne fun z => n (by rw [z]; exact h)]; exact e1)
theorem RB.found (B : RB K Cl H0 Z H σ ρ r x s) {v : V} {d : DL.D} {xs : List V} (hx : H x.f = some (.lst xs)) (hxs : DpAll K (hide H (Zo (ZR Z r x) σ ρ)) xs s.found) (hd : Dp K (hide H (Zo (ZR Z r x) σ ρ)) v d) : RB K Cl H0 Z (upd H x.f (.lst (xs ++ [v]))) σ ρ r x { s with found := s.found ++ [d] } := by
  have A := B.ra
  have inf : inR r x x.f := .inl (.inr (.inr (.inl rfl)))
  have m : yb (hide H (Zo (ZR Z r x) σ ρ)) (hide (upd H x.f (.lst (xs ++ [v]))) (Zo (ZR Z r x) σ ρ)) := vad (.inl (.inr inf))
  have nI : r ≠ x.f := fun z => by
    have := A.o
    rw [z, hx] at this
    cases this
  have nD : x.dx ≠ x.f := fun z => by
    have := A.d
    rw [z, hx] at this
    cases this
  obtain ⟨kvs, c1, c2⟩ := A.c
  have nC : x.c ≠ x.f := fun z => by
    rw [z, hx] at c1
    cases c1
  refine ⟨B.si.qaE (.inr inf) (by unfold hide; rw [if_pos inf]) hx, ⟨by rw [upd_ne nI]; exact A.o, by rw [upd_ne nD]; exact A.d, A.wa.same (fun b hb => upd_ne fun z => A.ap x.f (.inr (.inr (.inl rfl))) (by rw [← z]; exact hb)) m, ⟨_, upd_same, (DpAll.same m hxs).append (.cons (Dp.same m hd) .nil)⟩, ⟨kvs, by rw [upd_ne nC]; exact c1, c2.same m⟩, by rw [upd_ne (Ne.symm A.fk)]; exact A.k, A.ap, A.fk⟩, B.nz, B.me⟩
theorem RB.cont (B : RB K Cl H0 Z H σ ρ r x s) {v : V} {k : Int} {d : DL.D} {kvs : List (Key × V)} (hx : H x.c = some (.dK kvs)) (hk : xh K (hide H (Zo (ZR Z r x) σ ρ)) kvs s.cont) (hd : Dp K (hide H (Zo (ZR Z r x) σ ρ)) v d) : RB K Cl H0 Z (upd H x.c (.dK (putK kvs (Sum.inl k : Key) v))) σ ρ r x { s with cont := kaQ s.cont k d } := by
  have A := B.ra
  have inc : inR r x x.c := .inl (.inr (.inr (.inr (.inl rfl))))
  have m : yb (hide H (Zo (ZR Z r x) σ ρ)) (hide (upd H x.c (.dK (putK kvs (Sum.inl k : Key) v))) (Zo (ZR Z r x) σ ρ)) := vad (.inl (.inr inc))
  have nI : r ≠ x.c := fun z => by
    have := A.o
    rw [z, hx] at this
    cases this
  have nD : x.dx ≠ x.c := fun z => by
    have := A.d
    rw [z, hx] at this
    cases this
  have nK : x.k ≠ x.c := fun z => by
    have := A.k
    rw [z, hx] at this
    cases this
  obtain ⟨xs, f1, f2⟩ := A.f
  have nF : x.f ≠ x.c := fun z => by
    rw [z, hx] at f1
    cases f1
  refine ⟨B.si.ycr (.inr inc) (by unfold hide; rw [if_pos inc]) hx, ⟨by rw [upd_ne nI]; exact A.o, by rw [upd_ne nD]; exact A.d, A.wa.same (fun b hb => upd_ne fun z => A.ap x.c (.inr (.inr (.inr (.inl rfl)))) (by rw [← z]; exact hb)) m, ⟨xs, by rw [upd_ne nF]; exact f1, DpAll.same m f2⟩, ⟨_, upd_same, (c2_put m hk hd)⟩, by rw [upd_ne nK]; exact A.k, A.ap, A.fk⟩, B.nz, B.me⟩
where c2_put {H1 Hs : Hp} (m : yb Hs H1) (hk : xh K Hs kvs s.cont) (hd : Dp K Hs v d) : xh K H1 (putK kvs (Sum.inl k : Key) v) (kaQ s.cont k d) := (hk.same m).put (Dp.same m hd)
end
section
variable {X : Cx} {Cl : Nat → Addr} {W : WX} {H H0 : Hp} {r : Addr} {x : qU} {s s' : RS} {Z : Addr → Prop} {σ : St} {ρ ρ' : ya} {Q : VK} {E : St → XK}
end
section
variable {X : Cx} {Cl : Nat → Addr} {W : WX} {E1 E2 E3 : St → XK} {F1 : MF} {F2 : WF} {FCn : FC} {g1 g2 : FA} {s2 s3 : FS} {t1 : FT} {fl fu ff fk fc : FE} {e1 e4 e5 e6 e10 c1 : Expr} {st2 st9 : Stmt}
end
section
variable {K : PySem.W.Frag} {Cl : Nat → Addr} {H : Hp} {r : Addr} {x : qU} {s : RS} {Z : Addr → Prop}
theorem RB.start {rest : List V} {ds : List D} {m : Nat} (live : waz Cl (ZR Z r x) H) (ra : RA K Cl H (hide H (ZR Z r x)) r x s) (nz : ∀ b, inR r x b → ¬ Z b) (h : DpAll K (hide H (ZR Z r x)) rest ds) : RB K Cl H Z H (some (.ref r) :: (rest.map some ++ List.replicate m none)) (.pin r :: (ds.map .dat ++ List.replicate m .un)) r x s := by
  have no : ∀ i b, ¬ zg (some (.ref r) :: (rest.map some ++ List.replicate m none)) (.pin r :: (ds.map .dat ++ List.replicate m .un)) i b := fun i b ho => by
    obtain ⟨t, h2, h3⟩ := ho.slot
    cases i with
    | zero => cases h2; cases h3
    | succ i =>
      have h2 : (ds.map Slot.dat ++ List.replicate m .un)[i]? = some t := h2
      rw [List.getElem?_append] at h2
      split at h2
      · rw [List.getElem?_map] at h2
        cases e : ds[i]? with
        | none => rw [e] at h2; cases h2
        | some d => rw [e] at h2; cases h2; cases h3
      · rw [List.getElem?_replicate] at h2
        split at h2
        · cases h2; cases h3
        · cases h2
  have hl := h.length
  have hm : yb (hide H (ZR Z r x)) (hide H (Zo (ZR Z r x) (some (.ref r) :: (rest.map some ++ List.replicate m none)) (.pin r :: (ds.map .dat ++ List.replicate m .un)))) := jc (yb.refl _) fun b hb => .inl (hb.elim id fun ⟨j, z⟩ => absurd z (no j b))
  have base : Same Cl (hide H (inR r x)) H := ⟨fun b o e _ => (yf e).2, fun _ => live.tb, fun b e z => e (by unfold hide; rw [z]; split <;> rfl), fun b o xs e => vc (fun z => by
    obtain ⟨u, e2, k⟩ := ra.at_ z
    rw [e] at e2
    cases e2
    cases k) e⟩
  refine ⟨⟨⟨by simp [hl], fun i j b h1 => absurd h1 (no i b), fun b ⟨i, z⟩ => absurd z (no i b), live.lv, fun i t e => ?_, live.tb⟩, base, fun b ⟨i, z⟩ => absurd z (no i b)⟩, ra.same (fun _ _ => rfl) hm, nz, rfl⟩
  cases i with
  | zero =>
    cases e
    exact rfl
  | succ i =>
    have e : (ds.map Slot.dat ++ List.replicate m .un)[i]? = some t := e
    show zaD K Cl H _ ((rest.map some ++ List.replicate m none)[i]?) t
    rw [List.getElem?_append] at e
    split at e
    · rename_i hi
      rw [List.length_map] at hi
      rw [List.getElem?_map] at e
      cases e1 : ds[i]? with
      | none => rw [e1] at e; cases e
      | some d =>
        rw [e1] at e
        cases e
        obtain ⟨v, e2, e3⟩ := h.get e1
        refine ⟨v, ?_, Dp.same hm e3⟩
        rw [List.getElem?_append_left (by rw [List.length_map, hl]; exact hi), List.getElem?_map, e2]
        rfl
    · rw [List.getElem?_replicate] at e
      split at e
      · cases e; trivial
      · cases e
end
structure RL (K : PySem.W.Frag) (Cl : Nat → Addr) (Hb : Hp) (Z : Addr → Prop) (H : Hp) (σ : St) (ρ : ya) (r : Addr) (x : qU) (s : RS) : Prop where
  si : SI K Cl Hb (ZR Z r x) H σ ρ
  ra : RA K Cl H (hide H (Zo (ZR Z r x) σ ρ)) r x s
  nz : ∀ b, inR r x b → ¬ Z b
  me : ρ[0]? = some (.pin r)
  h0 : ∀ b, inR r x b → Hb b = none
section
variable {K : PySem.W.Frag} {Cl : Nat → Addr} {W : WX} {H H' Hb Hc H1 : Hp} {r : Addr} {x x' : qU} {s s' : RS} {Z Y : Addr → Prop} {σ σ' : St} {ρ ρ' : ya} {D : Ends}
theorem RL.up (B : RL K Cl Hb Z H σ ρ r x s) (sm : Same Cl H H') : RL K Cl Hb Z H' σ ρ r x s := ⟨B.si.jk sm, B.ra.up sm, B.nz, B.me, B.h0⟩
theorem RL.var (B : RL K Cl Hb Z H σ ρ r x s) : σ[0]? = some (some (.ref r)) := B.si.di.slots 0 _ B.me
theorem RL.out (B : RL K Cl Hb Z H σ ρ r x s) {b : Addr} (o : vg σ ρ b) : ¬ inR r x b := fun z => B.si.di.out b o (.inr z)
theorem RL.jx (B : RL K Cl Hb Z H σ ρ r x s) {i : Nat} {v : V} {d : DL.D} (hi : i ≠ 0) (h : Dp K (hide H (Zo (ZR Z r x) σ ρ)) v d) : RL K Cl Hb Z H (σ.set i (some v)) (ρ.set i (.dat d)) r x s :=
  ⟨B.si.jx h, B.ra.mv (Same.refl _) fun b hb => .inl (hb.imp id fun ⟨j, q⟩ => ⟨j, jw (s := .dat d) (fun z => nomatch z) q⟩), B.nz, by rw [List.getElem?_set_ne hi]; exact B.me, B.h0⟩
theorem xav.live (f : xav Cl H r x H' x') {b : Addr} (n : ¬ inR r x b) (e : H b ≠ none) : H' b ≠ none := f.s.live b (by unfold hide; rw [if_neg n]; exact e)
theorem xav.keep (f : xav Cl H r x H' x') {b : Addr} {o : HO} (n : ¬ inR r x b) (e : H b = some o) (t : ntb o = true) : H' b = some o := f.s.at (vc n e) t
theorem RL.waE (S : RL K Cl Hb Z H σ ρ r x s) (f : xav Cl H r x H' x') : yb (hide H (Zo (ZR Z r x) σ ρ)) (hide H' (Zo (ZR Z r x') σ ρ)) := fun b o e t => by
  obtain ⟨n, e1⟩ := yf e
  refine vc (fun z => ?_) (f.keep (fun z => n (.inl (.inr z))) e1 t)
  rcases z with (z | z) | z
  · exact n (.inl (.inl z))
  · rcases f.new b z with z | z
    · exact n (.inl (.inr z))
    · rw [z] at e1
      cases e1
  · exact n (.inr z)
theorem RL.after (S : RL K Cl Hb Z H σ ρ r x s) (f : xav Cl H r x H' x') (ra' : RA K Cl H' (hide H' (Zo (ZR Z r x') σ ρ)) r x' s') : RL K Cl Hb Z H' σ ρ r x' s' := by
  have m := S.waE f
  have noA : ∀ b, vg σ ρ b → ¬ inR r x b := fun b o z => S.si.di.out b o (.inr z)
  have xby : ∀ b, vg σ ρ b → ¬ inR r x' b := fun b o z => by
    rcases f.new b z with z | z
    · exact noA b o z
    · exact S.si.di.jay o z
  have h0' : ∀ b, inR r x' b → Hb b = none := fun b z => by
    rcases f.new b z with z | z
    · exact S.h0 b z
    · exact S.si.same.free z
  have nz' : ∀ b, inR r x' b → ¬ Z b := fun b z y => by
    rcases f.new b z with z | z
    · exact S.nz b z y
    · exact S.si.di.live b (.inl y) z
  have jaz : ∀ {b : Addr} {o : HO}, vg σ ρ b → H b = some o → ntb o = true → H' b = some o := fun {b o} ob e t => f.keep (noA b ob) e t
  refine ⟨⟨⟨S.si.di.len, S.si.di.one, fun b o z => ?_, fun b z => ?_, fun i t e => ?_, f.tb S.si.di.tb⟩, ?_, fun b o => S.si.new b o⟩, ra', nz', S.me, h0'⟩
  · rcases z with z | z
    · exact S.si.di.out b o (.inl z)
    · exact xby b o z
  · rcases z with z | z
    · exact f.live (fun y => S.nz b y z) (S.si.di.live b (.inl z))
    · obtain ⟨u, e, _⟩ := ra'.at_ z
      rw [e]
      intro y
      cases y
  · have k := S.si.di.slots i t e
    cases t with
    | un => trivial
    | dat d =>
      obtain ⟨v, e1, h1⟩ := k
      exact ⟨v, e1, Dp.same m h1⟩
    | own ds =>
      obtain ⟨b, xs, e1, e2, h1⟩ := k
      exact ⟨b, xs, e1, jaz ⟨i, .inl ⟨e1, ds, e⟩⟩ e2 rfl, DpAll.same m h1⟩
    | err b dd j =>
      refine ⟨k.1, f.keep (fun z => ?_) k.2 rfl⟩
      obtain ⟨u, e3, k3⟩ := S.ra.at_ z
      have k2 := k.2
      rw [e3] at k2
      cases k2
      cases k3
    | ownT b k' gs =>
      obtain ⟨T, e1, h1⟩ := k
      exact ⟨T, e1, h1.same m fun ys z => jaz ⟨i, .inr (.inl ⟨k', gs, e⟩)⟩ z rfl⟩
    | pin b => exact k
    | ob k' fs => exact kF.same m k
    | wc b c =>
      obtain ⟨e1, u, e2, h1⟩ := k
      exact ⟨e1, u, jaz ⟨i, .inr (.inr ⟨c, e⟩)⟩ e2 h1.ntb, h1.same m⟩
  · refine ⟨fun b o e t => ?_, fun _ => f.tb S.si.di.tb, fun b e => ?_, fun b o xs e => ?_⟩
    · have n : ¬ inR r x b := fun z => by rw [S.h0 b z] at e; cases e
      exact f.keep n (S.si.same.d b o e t) t
    · exact f.live (fun y => e (S.h0 b y)) (S.si.same.live b e)
    · obtain ⟨n1, e1⟩ := yf (f.s.nf b o xs e)
      exact S.si.same.nf b o xs e1
theorem RL.based (S : RL K Cl Hb Z H σ ρ r x s) : Same Cl Hb (hide (wi H σ ρ) (inR r x)) ∧ RL K Cl (hide (wi H σ ρ) (inR r x)) Z H σ ρ r x s := by
  obtain ⟨b0, I2⟩ := S.si.based
  have wk : ∀ b, inR r x b → ∃ u, wi H σ ρ b = some u ∧ zar u = true := fun b hb => by
    obtain ⟨u, e, k⟩ := S.ra.at_ hb
    exact ⟨u, qD (fun z => S.out z hb) e, k⟩
  refine ⟨b0.hidden S.h0 wk, ⟨I2.di, ⟨fun b o e t => I2.same.d b o (yf e).2 t, fun _ => I2.di.tb, fun b e => I2.same.live b fun z => e (by unfold hide; rw [z]; split <;> rfl), fun b o xs e => vc (fun z => ?_) (I2.same.nf b o xs e)⟩, fun b o => ?_⟩, S.ra, S.nz, S.me, fun b z => by unfold hide; rw [if_pos z]⟩
  · obtain ⟨u, e2, k⟩ := S.ra.at_ z
    rw [e] at e2
    cases e2
    cases k
  · unfold hide
    split
    · rfl
    · exact I2.new b o
theorem RL.rebase (S : RL K Cl Hc Z H σ ρ r x s) (sm : Same Cl Hb Hc) : RL K Cl Hb Z H σ ρ r x s := ⟨S.si.rebase sm, S.ra, S.nz, S.me, fun b z => sm.free (S.h0 b z)⟩
theorem RL.kept (S : RL K Cl (hide (wi H σ ρ) (inR r x)) Z H' σ' ρ' r x' s') : yb (hide H (Zo (ZR Z r x) σ ρ)) (hide H' (Zo (ZR Z r x') σ' ρ')) := fun b o e nt => by
  obtain ⟨n, e1⟩ := yf e
  have e2 : hide (wi H σ ρ) (inR r x) b = some o := vc (fun z => n (.inl (.inr z))) (qD (fun z => n (.inr z)) e1)
  refine vc (fun z => ?_) (S.si.same.d b o e2 nt)
  rcases z with (z | z) | z
  · exact n (.inl (.inl z))
  · rw [S.h0 b z] at e2
    cases e2
  · rw [S.si.new b z] at e2
    cases e2
theorem RL.write (S : RL K Cl Hb Z H σ ρ r x s) {i : Nat} {p : Addr} {xs : List V} {ds es : List DL.D} (hi0 : i ≠ 0) (hi : σ[i]? = some (some (.ref p))) (hr : ρ[i]? = some (.own es)) (h : DpAll K (hide H (Zo (ZR Z r x) σ ρ)) xs ds) : RL K Cl Hb Z (upd H p (.lst xs)) σ (ρ.set i (.own ds)) r x s := by
  have hil : i < ρ.length := (List.getElem?_eq_some_iff.mp hr).1
  have op : vg σ ρ p := ⟨i, .inl ⟨hi, es, hr⟩⟩
  have sub : ∀ b, Zo (ZR Z r x) σ (ρ.set i (.own ds)) b → Zo (ZR Z r x) σ ρ b := fun b hb => by
    rcases hb with hb | ⟨j, hb⟩
    · exact .inl hb
    · by_cases hj : i = j
      · subst hj
        rcases hb with ⟨h1, _⟩ | ⟨k, d, h2⟩ | ⟨c, h2⟩
        · exact .inr ⟨i, .inl ⟨h1, es, hr⟩⟩
        · rw [List.getElem?_set, if_pos rfl, if_pos hil] at h2
          cases h2
        · rw [List.getElem?_set, if_pos rfl, if_pos hil] at h2
          cases h2
      · unfold zg at hb
        rw [List.getElem?_set_ne hj] at hb
        exact .inr ⟨j, hb⟩
  refine ⟨S.si.write hi hr h, S.ra.same (fun b hb => upd_ne fun z => S.out op (by rw [← z]; exact hb)) fun b o e t => ?_, S.nz, by rw [List.getElem?_set_ne hi0]; exact S.me, S.h0⟩
  obtain ⟨n, e1⟩ := yf e
  exact vc (fun z => n (sub b z)) (by rw [upd_ne fun z => n (by rw [z]; exact .inr op)]; exact e1)
theorem RL.zeq (r : Addr) (x : qU) (Z : Addr → Prop) (σ : St) (ρ : ya) : ZR (Zo Z σ ρ) r x = Zo (ZR Z r x) σ ρ := funext fun b => propext ⟨fun h => by
  rcases h with (h | h) | h
  · exact .inl (.inl h)
  · exact .inr h
  · exact .inl (.inr h), fun h => by
  rcases h with (h | h) | h
  · exact .inl (.inl h)
  · exact .inr h
  · exact .inl (.inr h)⟩
end
section
variable {X : Cx} {Cl : Nat → Addr} {W : WX} {H Hb : Hp} {r : Addr} {x : qU} {s s' : RS} {Z : Addr → Prop} {σ : St} {ρ ρ' : ya} {Q : VK} {E : St → XK}
end
section
variable {X : Cx} {Cl : Nat → Addr} {W : WX} {H Hb : Hp} {r : Addr} {x : qU} {s s' : RS} {Z : Addr → Prop} {σ : St} {ρ ρ' : ya} {E : St → XK} {D : Ends}
end
def RS.of (s : RS) : List OF := [.sub 3000 s.ws.of, .dat (.list s.found), .dic s.cont, .dat (.list [])]
def rs0 : RS := ⟨ws0, [], []⟩
structure yc0 (Cl : Nat → Addr) (H H' : Hp) (r dx : Addr) (x : qU) : Prop where
  edx : x.dx = dx
  ra : ∀ (K : PySem.W.Frag) (Y : Addr → Prop), (∀ b, Y b → H b ≠ none ∨ inR r x b) → RA K Cl H' (hide H' Y) r x rs0
  new : ∀ b, inR r x b → b = r ∨ b = dx ∨ H b = none
  keep : ∀ b o, H b = some o → b ≠ r → H' b = some o
  nf : ∀ b o xs, H' b = some (.frz o (.lst xs)) → H b = some (.frz o (.lst xs))
section
variable {K : PySem.W.Frag} {Cl : Nat → Addr} {vs : List V} {H : Hp} {Q : VK} {E : XK} {E' : XK}
end
theorem wa8.down {K : PySem.W.Frag} {Cl : Nat → Addr} {Hs : Hp} {v : V} {x : OF} (h : wa8 K Cl Hs v x) (n : ∀ k fs, x ≠ .sub k fs) : vaj K Hs v x := by
  cases x with
  | dat d => exact h
  | dic ps => exact h
  | sub k fs => exact absurd rfl (n k fs)
theorem WS.plain {s : WS} {j : Nat} {x : OF} (h : s.of[j]? = some x) : ∀ k fs, x ≠ .sub k fs := by
  have m := List.mem_of_getElem? h
  unfold WS.of at m
  intro k fs e
  subst e
  simp at m
section
variable {K : PySem.W.Frag} {Cl : Nat → Addr} {W : WX} {H H' Hs Hs' : Hp} {r : Addr} {x : qU} {s : RS}
theorem RA.ob (h : RA K Cl H Hs r x s) (e : ∀ b, inR r x b → Hs' b = H b) (m : yb Hs Hs') : jaV K Cl Hs' r 3001 s.of := by
  obtain ⟨dw, vs, w1, w2, w3, w4⟩ := h.wa.ob (Hs' := Hs') (fun b hb => e b (.inr hb)) m
  obtain ⟨xs, f1, f2⟩ := h.f
  obtain ⟨kvs, c1, c2⟩ := h.c
  refine ⟨x.dx, qa9 x, by rw [e r (.inl (.inl rfl))]; exact h.o, rfl, rfl, fun j y hy => ?_⟩
  match j, hy with
  | 0, hy =>
    cases hy
    exact ⟨_, rfl, x.a, dw, vs, rfl, w1, w2, w3, fun j2 y2 h2 => (w4 j2 y2 h2).imp fun u q => ⟨q.1, q.2.down (WS.plain h2)⟩⟩
  | 1, hy =>
    cases hy
    exact ⟨_, rfl, .lst (Rd.of (by rw [e x.f (.inl (.inr (.inr (.inl rfl))))]; exact f1)) (DpAll.same m f2)⟩
  | 2, hy =>
    cases hy
    exact ⟨_, rfl, x.c, kvs, rfl, by rw [e x.c (.inl (.inr (.inr (.inr (.inl rfl)))))]; exact c1, c2.same m⟩
  | 3, hy =>
    cases hy
    exact ⟨_, rfl, .lst (Rd.of (by rw [e x.k (.inl (.inr (.inr (.inr (.inr rfl)))))]; exact h.k)) .nil⟩
  | j + 4, hy => cases hy
end
section
variable {X : Cx} {Cl : Nat → Addr} {W : WX} {f g : Str} {e o : Expr} {pos apos cpos p1 : Pos}
end
section
variable {X : Cx} {Cl : Nat → Addr} {W : WX} {E1 : XK} {E2 E3 : St → XK} {F2 : RF} {F3 : MF} {g : FA} {e1 e2 e3 : Expr} {z1 : Str} {p1 p2 p3 p4 : Pos}
end
section
variable {K : PySem.W.Frag} {Cl : Nat → Addr} {W : WX} {H0 : Hp} {Z Z1 : Addr → Prop} {D : Ends}
theorem z6.more {o : Out} (h : ∀ a, Z a → Z1 a) (q : z6 K Cl W H0 Z D o) : z6 K Cl W H0 Z1 D o := by
  cases o with
  | nx ρ => exact fun σ H I => q σ H (I.less h)
  | brk ρ => exact fun σ H I => q σ H (I.less h)
  | ct ρ => exact fun σ H I => q σ H (I.less h)
  | ret d => exact fun v H s hd => q v H s (Dp.same (jc (yb.refl _) fun b hb => .inl (h b hb)) hd)
  | retF ds => exact fun p xs H s n hp hd => q p xs H s n hp (DpAll.same (jc (yb.refl _) fun b hb => .inl (hb.imp (h b) id)) hd)
  | retX ds k => exact fun T p xs ys H s h1 h2 h3 h4 h5 => q T p xs ys H s (SqT.same (jc (yb.refl _) fun b hb => .inl (h b hb)) h1) (DpAll.same (jc (yb.refl _) fun b hb => .inl (h b hb)) h2) h3 h4 h5
  | exc ρ c i => exact fun dd σ H I hd => q dd σ H (I.less h) hd
end
section
variable {X : Cx} {Cl : Nat → Addr} {W : WX} {e : Expr} {es : List Expr} {g : FA} {t1 : FT} {rest : FS}
end
section
variable {K : PySem.W.Frag} {Cl : Nat → Addr} {W : WX} {Z : Addr → Prop} {H : Hp} {σ : St} {ρ : ya}
theorem DI.qaE (I : DI K Cl Z H σ ρ) {q : Addr} {ys zs : List V} (hz : Z q) (hq : H q = some (.lst ys)) : DI K Cl Z (upd H q (.lst zs)) σ ρ := by
  have hm : yb (hide H (Zo Z σ ρ)) (hide (upd H q (.lst zs)) (Zo Z σ ρ)) := vad (.inl hz)
  have no : ∀ a, vg σ ρ a → a ≠ q := fun a o z => I.out a o (by rw [z]; exact hz)
  refine ⟨I.len, I.one, I.out, fun a z => ?_, fun i t e => ?_, I.tb.over hq⟩
  · by_cases e : a = q
    · rw [e, upd_same]
      intro z; cases z
    · rw [upd_ne e]
      exact I.live a z
  · have k := I.slots i t e
    cases t with
    | un => trivial
    | dat d =>
      obtain ⟨v, e1, h1⟩ := k
      exact ⟨v, e1, Dp.same hm h1⟩
    | own ds =>
      obtain ⟨a, xs, e1, e2, h1⟩ := k
      exact ⟨a, xs, e1, by rw [upd_ne (no a ⟨i, .inl ⟨e1, ds, e⟩⟩)]; exact e2, DpAll.same hm h1⟩
    | err a dd j =>
      have nd : dd ≠ q := fun z => by
        have k2 := k.2
        rw [z, hq] at k2
        cases k2
      exact ⟨k.1, by rw [upd_ne nd]; exact k.2⟩
    | ownT a k' gs =>
      obtain ⟨T, e1, h1⟩ := k
      exact ⟨T, e1, h1.same hm fun _ z => by rw [upd_ne (no a ⟨i, .inr (.inl ⟨k', gs, e⟩)⟩)]; exact z⟩
    | pin a => exact k
    | ob k fs => exact kF.same hm k
    | wc a c =>
      obtain ⟨e1, u, e2, h1⟩ := k
      exact ⟨e1, u, by rw [upd_ne (no a ⟨i, .inr (.inr ⟨c, e⟩)⟩)]; exact e2, h1.same hm⟩
end
section
variable {X : Cx} {Cl : Nat → Addr} {W : WX} {elt tg iter tg1 iter1 : Expr} {ifs ifs1 : List Expr} {scope : Scope} {own : List (Str × Nat)} {pos : Pos} {it it1 : FI} {g g1 : TG} {tt tt1 : FT} {fe : FE} {vs vs1 : List Nat} {st st1 : ya → D → Option ya}
end
def qcz : List Int → Int
  | [] => 0
  | n :: ns => ns.foldl min n
@[simp] def vcY : List Val → Option Val
  | [v] => match v.d with
    | .list ds => match xaP ds with
      | some ns => if ns.length = 0 then none else some (.s (.int (qcz ns)))
      | none => none
    | _ => none
  | _ => none
section
variable {X : Cx} {Cl : Nat → Addr} {W : WX} {K : PySem.W.Frag} {e : Expr} {f : FE}
end
section
variable {X : Cx} {Cl : Nat → Addr} {W : WX} {K : PySem.W.Frag}
end
structure vbz (K : PySem.W.Frag) (H Hh : Hp) (R : Addr) (qs : List Addr) (dss : List (List D)) : Prop where
  r : H R = some (.lst (qs.map V.ref))
  l : qs.length = dss.length
  q : ∀ (k : Nat) a, qs[k]? = some a → ∃ ys row, H a = some (.lst ys) ∧ dss[k]? = some row ∧ DpAll K Hh ys row
section
variable {K : PySem.W.Frag} {Cl : Nat → Addr}
theorem vbz.same {H H' Hh Hh' : Hp} {R : Addr} {qs : List Addr} {dss : List (List D)} (h : vbz K H Hh R qs dss) (s : Same Cl H H') (m : yb Hh Hh') : vbz K H' Hh' R qs dss := ⟨s.at h.r, h.l, fun k a e => by
  obtain ⟨ys, row, h1, h2, h3⟩ := h.q k a e
  exact ⟨ys, row, s.at h1, h2, DpAll.same m h3⟩⟩
end
section
variable {X : Cx} {Cl : Nat → Addr} {W : WX} {elt tg0 iter0 tg iter c1 ke kk2 ae ixe e1 e2 e4 : Expr} {s1 : Stmt} {it0 it : FI} {g0 : TG} {st0 : ya → D → Option ya} {vs : List Nat} {fe : FE} {g : FG} {f1 : FS} {t1 : FT} {fk fk2 fl ix ea eb ec : FE} {F : FC}
end
section
variable {P : Program} {w : World} {K : PySem.W.Frag} {mg : Str → Option Value} {base : Heap} {N : List Str} {q : Str} {sc : Scope} {fa : Addr} {cdv : Value} {A : Around} {outer : List Env} {s : Shared} {H : Hp} {E : XK} {Cl : Nat → Addr} {b : List Stmt}
theorem tkS {f : FS} (h : Takes (cxOf (L2.CX P w) P w K mg base N q sc fa cdv A outer s H E) (fun cls d _ H' => E cls d H') → PassesOwn (model P w) (cxOf (L2.CX P w) P w K mg base N q sc fa cdv A outer s H E).A (cxOf (L2.CX P w) P w K mg base N q sc fa cdv A outer s H E).env (cxOf (L2.CX P w) P w K mg base N q sc fa cdv A outer s H E).xe → xO (cxOf (L2.CX P w) P w K mg base N q sc fa cdv A outer s H E) Cl (fun cls d _ H' => E cls d H') b f) : xO (cxOf (L2.CX P w) P w K mg base N q sc fa cdv A outer s H E) Cl (fun cls d _ H' => E cls d H') b f := h (takes_of rfl rfl rfl rfl) PassesOwn.leaving
theorem tkP {t : TS} (h : Takes (cxOf (L2.CX P w) P w K mg base N q sc fa cdv A outer s H E) (fun cls d _ H' => E cls d H') → PassesOwn (model P w) (cxOf (L2.CX P w) P w K mg base N q sc fa cdv A outer s H E).A (cxOf (L2.CX P w) P w K mg base N q sc fa cdv A outer s H E).env (cxOf (L2.CX P w) P w K mg base N q sc fa cdv A outer s H E).xe → PSs (cxOf (L2.CX P w) P w K mg base N q sc fa cdv A outer s H E) b t) : PSs (cxOf (L2.CX P w) P w K mg base N q sc fa cdv A outer s H E) b t := h (takes_of rfl rfl rfl rfl) PassesOwn.leaving
end
section
variable {prog : Program} {w : World} {A : Around} {E : Value → Shared → Prop} {s : Shared}
end
section
variable {prog : Program} {w : World} {A : Around} {E : Value → Shared → Prop} {s : Shared}
end
def yci (ds es : List D) : List D := kaH (qcg ds es)
section
variable {X : Cx} {Cl : Nat → Addr} {W : WX} {p p2 pos pos2 : Pos} {g : FA}
@[simp] def kcK (g : FA) (ρ : ya) : Option (Except Er (List D)) := match g ρ with
  | none => none
  | some (.error e) => some (.error e)
  | some (.ok vs) => match vs with
    | [v, u] => match jaI v, jaI u with
      | some ds, some es => some (.ok (yci ds es))
      | _, _ => none
    | _ => none
end
section
variable {X : Cx} {Cl : Nat → Addr} {W : WX} {elt tg0 iter0 tg iter c1 ixe ae : Expr} {it0 it : FI} {g0 : TG} {st0 : ya → D → Option ya} {vs : List Nat} {fe : FE} {g : FG} {t1 : FT} {ix fa : FE}
end
structure ybz (K : PySem.W.Frag) (k : Nat) (H H' Hh : Hp) (p q : Addr) (x : V) (d : D) : Prop where
  go : ∃ (T0 T : Addr) (u v : V) (a b : D) (ys : List V) (ds : List D) (zs : List V) (ws : List D), x = V.ref T0 ∧ d = .tuple [a, b, .tuple ds] ∧ SqT K Hh T0 [u, v, .ref T] ∧ Dp K Hh u a ∧ Dp K Hh v b ∧ SqT K Hh T ys ∧ DpAll K Hh ys ds ∧ ys[k]? = some (V.ref q) ∧ ds[k]? = some (.list ws) ∧ H' q = some (.lst zs) ∧ DpAll K Hh zs ws
  ne : q ≠ p
  new : H q = none
section
variable {K : PySem.W.Frag} {Cl : Nat → Addr}
theorem ybz.to {k : Nat} {H0 H1 H2 Hh1 Hh2 : Hp} {p q : Addr} {x : V} {d : DL.D} (t : ybz K k H0 H1 Hh1 p q x d) (m : yb Hh1 Hh2) (h : ∀ zs, H1 q = some (.lst zs) → H2 q = some (.lst zs)) : ybz K k H0 H2 Hh2 p q x d := by
  obtain ⟨⟨T0, T, u, v, a, b, ys, ds, zs, ws, e1, e2, h1, h2, h3, h4, h5, h6, h7, h8, h9⟩, ne, nw⟩ := t
  exact ⟨⟨T0, T, u, v, a, b, ys, ds, zs, ws, e1, e2, SqT.same m h1, Dp.same m h2, Dp.same m h3, SqT.same m h4, DpAll.same m h5, h6, h7, h _ h8, DpAll.same m h9⟩, ne, nw⟩
end
section
variable {X : Cx} {Cl : Nat → Addr} {tg iter e0 ae : Expr} {it : FI} {g : FG} {f0 : FE} {ga : FA} {F : DF} {hf0 : HF}
end
structure TK (H H' : Hp) : Prop where
  t : ∀ b ys, H b = some (.tup ys) → H' b = some (.tup ys)
  f : ∀ b o ys, H b = some (.frz o (.tup ys)) → H' b = some (.frz o (.tup ys))
theorem TK.refl (H : Hp) : TK H H := ⟨fun _ _ h => h, fun _ _ _ h => h⟩
theorem TK.same {Cl : Nat → Addr} {H H1 H2 : Hp} (t : TK H H1) (s : Same Cl H1 H2) : TK H H2 := ⟨fun b ys h => s.d _ _ (t.t b ys h) rfl, fun b o ys h => s.d _ _ (t.f b o ys h) rfl⟩
theorem TK.qaE {H H1 : Hp} {q : Addr} {zs ws : List V} (t : TK H H1) (hq : H1 q = some (.lst zs)) : TK H (upd H1 q (.lst ws)) :=
  ⟨fun b ys h => by
    have := t.t b ys h
    rw [upd_ne fun z => by rw [z, hq] at this; cases this]
    exact this, fun b o ys h => by
    have := t.f b o ys h
    rw [upd_ne fun z => by rw [z, hq] at this; cases this]
    exact this⟩
theorem SqT.view {K : PySem.W.Frag} {H2 H' : Hp} {Z1 Z2 : Addr → Prop} {T : Addr} {ys : List V} (h : SqT K (hide H2 Z1) T ys) (tk : TK H2 H') (hz : ∀ b, Z2 b → Z1 b ∨ ∃ zs, H2 b = some (.lst zs)) : SqT K (hide H' Z2) T ys := by
  have nz : ∀ {o : HO}, hide H2 Z1 T = some o → (∀ zs, o ≠ .lst zs) → ¬ Z2 T := fun {o} h n z => by
    obtain ⟨n1, h1⟩ := yf h
    rcases hz T z with z | ⟨zs, z⟩
    · exact n1 z
    · rw [z] at h1
      exact n zs (Option.some.inj h1).symm
  rcases h with (h | ⟨o, h⟩) | h
  · exact .inl (.inl (vc (nz h fun zs z => nomatch z) (tk.t _ _ (yf h).2)))
  · exact .inl (.inr ⟨o, vc (nz h fun zs z => nomatch z) (tk.f _ _ _ (yf h).2)⟩)
  · exact .inr h
theorem DpAll.one {K : PySem.W.Frag} {H H' : Hp} {k : Nat} {q : Addr} {ys : List V} {ds ws : List D} (h : DpAll K H ys ds) (hy : ys[k]? = some (.ref q)) (hd : ds[k]? = some (.list ws)) (hs : (ds.set k .none).all wj = true) (hq : Dp K H' (.ref q) (.list ws)) : DpAll K H' ys ds := by
  have h1 : DpAll K H' (ys.set k .non) (ds.set k .none) := DpAll.scalar hs (DpAll.set .non k h)
  have h2 := DpAll.set hq k h1
  rw [List.set_set, List.set_set] at h2
  obtain ⟨l1, e1⟩ := List.getElem?_eq_some_iff.mp hy
  obtain ⟨l2, e2⟩ := List.getElem?_eq_some_iff.mp hd
  have r1 : ys.set k (.ref q) = ys := by rw [← e1]; exact List.set_getElem_self l1
  have r2 : ds.set k (.list ws) = ds := by rw [← e2]; exact List.set_getElem_self l2
  rw [r1, r2] at h2
  exact h2
section
variable {X : Cx} {Cl : Nat → Addr} {W : WX} {e : Expr} {es : List Expr} {g : FA} {f2 : FE} {t3 t4 t5 : FT} {rest : FS}
end
def xw (L : List (List Int × Addr × V)) (k : List Int) : Option V := (L.find? fun x => decide (x.1 = k)).map (·.2.2)
def putL (L : List (List Int × Addr × V)) (k : List Int) (b : Addr) (v : V) : List (List Int × Addr × V) :=
  if (xw L k).isSome then L.map fun x => if x.1 = k then (x.1, x.2.1, v) else x else L ++ [(k, b, v)]
theorem wA.val {L : List (List Int × Addr × V)} {xs : List (List Int × Addr × Value)} (r : wA L xs) (k : List Int) : RelO (xw L k) ((atKey xs k).map (·.2)) := by
  unfold wA at r
  induction r with
  | nil => trivial
  | @cons p q ps qs h t ih =>
    unfold xw atKey at ih ⊢
    obtain ⟨h1, h2, h3⟩ := h
    rw [List.find?_cons, List.find?_cons, ← h1]
    by_cases e : p.1 = k
    · rw [decide_eq_true e]
      exact h3
    · rw [decide_eq_false e]
      exact ih
theorem wA.set {k : List Int} {v : V} {u : Value} (ru : RelV v u) : ∀ {L : List (List Int × Addr × V)} {xs : List (List Int × Addr × Value)}, wA L xs → wA (L.map fun x => if x.1 = k then (x.1, x.2.1, v) else x) (xs.map (putAt k u))
  | _, _, .nil => .nil
  | p :: _, q :: _, .cons h t => .cons (by
    obtain ⟨h1, h2, h3⟩ := h
    unfold putAt
    dsimp only
    rw [← h1]
    by_cases e : p.1 = k
    · rw [if_pos e, if_pos e]
      exact ⟨rfl, h2, ru⟩
    · rw [if_neg e, if_neg e]
      exact ⟨h1, h2, h3⟩) (wA.set ru t)
theorem wA.snoc {k : List Int} {b : Addr} {v : V} {u : Value} (ru : RelV v u) : ∀ {L : List (List Int × Addr × V)} {xs : List (List Int × Addr × Value)}, wA L xs → wA (L ++ [(k, b, v)]) (xs ++ [(k, b, u)])
  | _, _, .nil => .cons ⟨rfl, rfl, ru⟩ .nil
  | _, _, .cons h t => .cons h (wA.snoc ru t)
theorem wA.put {L : List (List Int × Addr × V)} {xs : List (List Int × Addr × Value)} (r : wA L xs) (k : List Int) (b : Addr) {v : V} {u : Value} (ru : RelV v u) : wA (putL L k b v) (storedH xs k b u) := by
  have e : (xw L k).isSome = (atKey xs k).isSome := by
    have q := (r.val k).isSome_eq
    rw [Option.isSome_map] at q
    exact q
  unfold putL storedH
  rw [e]
  split
  · exact r.set ru
  · exact r.snoc ru
theorem wA.len {L : List (List Int × Addr × V)} {xs : List (List Int × Addr × Value)} (r : wA L xs) : L.length = xs.length := Paired.length r
section
variable {X : Cx}
theorem ybc {H : Hp} {h : Heap} {a : Addr} {L : List (List Int × Addr × V)} {xs : List (List Int × Addr × Value)} (ha : (a == sysModules) = false) (r : wA L xs) (dd : h.DictOfH (tupleKind (intKind X.prog X.w)) a xs) : ObjOk X.prog X.w H h a (kg a L) := by
  obtain ⟨o, es, ep, h1, h2, h3, h4, _, h5⟩ := dd
  exact ⟨⟨ha, xs, o, es, ep, r, h1, h2, h3, fun P w => h4, h5⟩, ⟨o, h1⟩, fun g1 g2 ⟨z1, xs', o', es', ep', z2, z3, z4⟩ k => ⟨z1, xs', o', es', ep', z2, k _ z3, z4⟩⟩
theorem wW {pins : List (Addr × Obj)} {σ : St} {H : Hp} {s : Shared} {a : Addr} {L : List (List Int × Addr × V)} (I : Inv X pins σ H s) (hd : H a = some (kg a L)) (ht : ∀ p ∈ L, SqT X.K H p.2.1 (p.1.map V.int)) :
    (a == sysModules) = false ∧ ∃ xs, wA L xs ∧ s.heap.DictOfH (tupleKind (intKind X.prog X.w)) a xs := by
  obtain ⟨z1, xs, o, es, ep, r, h1, h2, h3, h4, h5⟩ := (I.hok a _ hd).1
  refine ⟨z1, xs, r, o, es, ep, h1, h2, h3, h4 _ _, fun x hx => ?_, h5⟩
  have all : ∀ {l : List (List Int × Addr × V)} {m : List (List Int × Addr × Value)}, wA l m → (∀ p ∈ l, SqT X.K H p.2.1 (p.1.map V.int)) → ∀ x ∈ m, (tupleKind (intKind X.prog X.w)).is s.heap x.1 x.2.1 := by
    intro l m q
    unfold wA at q
    induction q with
    | nil => intro _ x hx; exact nomatch hx
    | @cons p q ps qs h t ih =>
      intro hl x hx
      rcases List.mem_cons.mp hx with e | hx
      · subst e
        have z := I.isT (hl p List.mem_cons_self)
        rw [h.1, h.2.1] at z
        exact z
      · exact ih (fun p hp => hl p (List.mem_cons_of_mem _ hp)) x hx
  exact all r ht x hx
def jca : TE := fun _ H Q => ∀ p, H p = none → Q (.ref p) (upd H p (kg p []))
theorem zaF {pos : Pos} : PE X (.Dict [] [] pos) jca := ⟨fun pins s σ H Q I h =>
  wpAny_Dict_empty ⟨.ref s.heap.objs.size, _, I.laid (a := s.heap.objs.size) (o := kg s.heap.objs.size []) (t' := s.toks) (fun _ _ q => Heap.get?_push_of_some _ q) (Nat.le_refl _)
    (ybc (xs := []) (beq_eq_false_iff_ne.mpr (Ne.symm (Nat.ne_of_lt I.big))) .nil (Heap.DictOfH.new s.heap)), rfl, h _ (I.hok.fresh (Nat.le_refl _))⟩⟩
def jaF (X : Cx) (neg : Bool) : V → V → Hp → VK → Prop := fun x y H Q => ∃ (t : Addr) (k : List Int) (a : Addr) (L : List (List Int × Addr × V)), x = .ref t ∧ SqT X.K H t (k.map V.int) ∧ y = .ref a ∧ H a = some (kg a L) ∧ (∀ p ∈ L, SqT X.K H p.2.1 (p.1.map V.int)) ∧ Q (.bl ((xw L k).isSome != neg)) H
theorem vbR (hu : X.A.units + 1 < cLine) : OpR X (compareOp .In) (jaF X false) := fun pins s σ H x y v u Q I rx ry h => by
  obtain ⟨t, k, a, L, rfl, ht, rfl, ha, hL, q⟩ := h
  cases rx
  cases ry
  obtain ⟨hs, xs, r, dd⟩ := wW I ha hL
  refine wpAny_in_heap (tupleKind_room_in1 hu) (I.isT ht) hs dd ?_
  have e := (r.val k).isSome_eq
  rw [Option.isSome_map] at e
  rw [← e]
  exact ⟨.bl (xw L k).isSome, H, I.tok _, rfl, by simpa using q⟩
theorem kbo (hu : X.A.units + 1 < cLine) : OpR X (compareOp .NotIn) (jaF X true) := fun pins s σ H x y v u Q I rx ry h => by
  obtain ⟨t, k, a, L, rfl, ht, rfl, ha, hL, q⟩ := h
  cases rx
  cases ry
  obtain ⟨hs, xs, r, dd⟩ := wW I ha hL
  refine wpAny_notIn_heap (tupleKind_room_in1 hu) (I.isT ht) hs dd ?_
  have e := (r.val k).isSome_eq
  rw [Option.isSome_map] at e
  rw [← e]
  exact ⟨.bl (!(xw L k).isSome), H, I.tok _, rfl, by simpa using q⟩
def xaI (X : Cx) (td ty : TE) : TE := fun σ H Q => td σ H fun x H1 => ty σ H1 fun y H2 => ∃ (t : Addr) (k : List Int) (a : Addr) (L : List (List Int × Addr × V)) (v : V), y = .ref t ∧ SqT X.K H2 t (k.map V.int) ∧ x = .ref a ∧ H2 a = some (kg a L) ∧ (∀ p ∈ L, SqT X.K H2 p.2.1 (p.1.map V.int)) ∧ xw L k = some v ∧ Q v H2
theorem ya2 {o i : Expr} {td ty : TE} {pos : Pos} (hu : X.A.units + 1 < cLine) (ho : PE X o td) (hi : PE X i ty) (hs : NoSl i) : PE X (.Subscript o i pos) (xaI X td ty) := by
  refine ⟨fun pins s σ H Q I h => ?_⟩
  refine subD_of PySem.F.slot_dict_getitem.lookup hs (thn (ho.run pins s σ H _ I h) fun u s1 ⟨x, H1, I1, rx, q1⟩ => thn (hi.run pins s1 σ H1 _ I1 q1) fun iv s2 ⟨y, H2, I2, ry, t, k, a, L, v, ey, ht, ex, ha, hL, hv, q2⟩ => ?_)
  subst ex
  subst ey
  obtain rfl : u = Value.ref a := rx
  obtain rfl : iv = Value.ref t := ry
  obtain ⟨_, xs, r, dd⟩ := wW I2 ha hL
  refine ⟨dd.typeIs, ?_⟩
  have rv := r.val k
  rw [hv] at rv
  obtain ⟨w', hw, rw'⟩ := RelO.some_of rv
  obtain ⟨p, hp, hp2⟩ := Option.map_eq_some_iff.mp hw
  refine wpAny_getItem_heap (tupleKind_room_in1 hu) (I2.isT ht) dd hp ?_
  rw [hp2]
  exact ⟨v, H2, I2.tok _, rw', q2⟩
def ybR (X : Cx) (td ty : TE) : TE := fun σ H Q => td σ H fun x H1 => ∃ (a : Addr), x = .ref a ∧ (∃ L, H1 a = some (kg a L) ∧ ∀ p ∈ L, SqT X.K H1 p.2.1 (p.1.map V.int)) ∧ ty σ H1 fun y H2 => ∃ (t : Addr) (k : List Int) (L : List (List Int × Addr × V)), y = .ref t ∧ SqT X.K H2 t (k.map V.int) ∧ H2 a = some (kg a L) ∧ (∀ p ∈ L, SqT X.K H2 p.2.1 (p.1.map V.int)) ∧ Q ((xw L k).getD .non) H2
theorem xbz {o e : Expr} {td ty : TE} {apos cpos : Pos} (hu : X.A.units + 1 < cLine) (ho : PE X o td) (he : PE X e ty) (m : M1 X o "get" apos e cpos) : PE X (.Call (.Attribute o "get" apos) [e] [] cpos) (ybR X td ty) := by
  refine ⟨fun pins s σ H Q I h => ?_⟩
  refine wpAny_Call_method m.base m.few m.line PySem.F.plainAttrs_dict PySem.F.slot_dict_get PySem.F.type_dict_get (thn (ho.run pins s σ H _ I h) fun u s1 ⟨x, H1, I1, rx, a, ex, ⟨L1, d1, d2⟩, q1⟩ => ?_)
  subst ex
  obtain rfl : u = Value.ref a := rx
  obtain ⟨_, xs1, r1, dd1⟩ := wW I1 d1 d2
  refine ⟨dd1.typeIs, fun b q => ?_, ?_⟩
  · cases q
    obtain ⟨ob, _, _, h1, h2, _⟩ := dd1
    exact ⟨ob, h1, h2.2.1⟩
  rw [m.trees]
  refine Calls.callWith_builtin rfl (Calls.evalArgs_plain (Calls.spliced_cons (thn (he.run pins s1 σ H1 _ I1 q1) fun iv s2 ⟨y, H2, I2, ry, t, k, L, ey, ht, ha, hL, q2⟩ => Calls.spliced_nil ?_)))
  subst ey
  obtain rfl : iv = Value.ref t := ry
  obtain ⟨hd, xs, r, dd⟩ := wW I2 ha hL
  exact call_meetsIn PySem.F.slot_dict_get dd.typeIs PySem.F.entry_dict_get (PySem.F.args_dict_get_2 _ _) (meetsH_dict_get (tupleKind (intKind X.prog X.w)) a t hd) ⟨tupleKind_room_in1 hu, k, xs, I2.isT ht, dd, (xw L k).getD .non, H2, I2.tok _, (r.val k).getD rfl, q2⟩
def kaI (X : Cx) (td ty tv : TE) : TS := fun D σ H => tv σ H fun v H1 => td σ H1 fun x H2 => ty σ H2 fun y H3 => ∃ (t : Addr) (k : List Int) (a : Addr) (L : List (List Int × Addr × V)), y = .ref t ∧ SqT X.K H3 t (k.map V.int) ∧ x = .ref a ∧ H3 a = some (kg a L) ∧ (∀ p ∈ L, SqT X.K H3 p.2.1 (p.1.map V.int)) ∧ L.length < sizeLine ∧ D.nx σ (upd H3 a (kg a (putL L k t v)))
theorem xa2 {o i value : Expr} {td ty tv : TE} {pos pos' : Pos} (hu : X.A.units + 1 < cLine) (ho : PE X o td) (hi : PE X i ty) (hv : PE X value tv) (hs : swapsWith value (some (.Subscript o i pos')) pos.line X.env = pure false) :
    PS X (.Assign [.Subscript o i pos'] value pos) (kaI X td ty tv) := by
  refine ⟨fun pins s σ H D I h => ?_⟩
  refine wpAny_Assign_Subscript (thn (hv.run pins s σ H _ I h) fun r s1 ⟨v, H1, I1, rv, q1⟩ => thn (ho.run pins s1 σ H1 _ I1 q1) fun u s2 ⟨x, H2, I2, rx, q2⟩ => thn (hi.run pins s2 σ H2 _ I2 q2) fun iv s3 ⟨y, H3, I3, ry, t, k, a, L, ey, ht, ex, ha, hL, hl, q3⟩ => ?_) hs
  subst ex
  subst ey
  obtain rfl : u = Value.ref a := rx
  obtain rfl : iv = Value.ref t := ry
  obtain ⟨hd, xs, rr, dd⟩ := wW I3 ha hL
  refine wpAny_setItem_heap (hsz := by rw [← rr.len]; omega) (tupleKind_room_in1 hu) (I3.isT ht) dd fun h' dd' hs' => ?_
  obtain ⟨q, _, _, hq, _⟩ := id dd'
  exact ⟨σ, _, d_write I3 (by rw [ha]; exact True.intro) hs' ⟨q, hq⟩ (ybc hd (rr.put k t rv) dd'), q3⟩
def keyD (k : List Int) : D := .tuple (k.map .int)
def xbR (K : PySem.W.Frag) : List V → Hp → VK → Prop := fun vs H Q => ∃ (a : Addr) (L : List (List Int × Addr × V)), vs = [V.ref a] ∧ H a = some (kg a L) ∧ (∀ p ∈ L, SqT K H p.2.1 (p.1.map V.int)) ∧ jaD (L.map fun p => keyD p.1) ∧
  ∀ (ys : List V) (p : Addr), (∀ H', (∀ x ∈ L, Dp K H' (.ref x.2.1) (keyD x.1)) → DpAll K H' ys (jaq (L.map fun p => keyD p.1))) → ys.length = L.length → H p = none → Q (.ref p) (upd H p (.lst ys))
theorem xbc : ∀ {xs : List V} {us : List Value}, xs.length = us.length → (∀ (i : Nat) x u, xs[i]? = some x → us[i]? = some u → RelV x u) → Vals xs us
  | [], [], _, _ => .nil
  | x :: xs, u :: us, hl, h => .cons (h 0 x u rfl rfl) (xbc (by simpa using hl) fun i y w e1 e2 => h (i + 1) y w (by simpa using e1) (by simpa using e2))
  | [], _ :: _, h, _ => by simp at h
  | _ :: _, [], h, _ => by simp at h
theorem wA.at : ∀ {L : List (List Int × Addr × V)} {xs : List (List Int × Addr × Value)}, wA L xs → ∀ (i : Nat) p y, L[i]? = some p → xs[i]? = some y → p.1 = y.1 ∧ p.2.1 = y.2.1
  | _, _, .nil, i, p, y, h, _ => by simp at h
  | _, _, .cons h t, 0, p, y, e1, e2 => by
    cases e1
    cases e2
    exact ⟨h.1, h.2.1⟩
  | _, _, .cons h t, i + 1, p, y, e1, e2 => wA.at t i p y (by simpa using e1) (by simpa using e2)
theorem kbI {K : PySem.W.Frag} {H : Hp} {b : Addr} {k : List Int} (h : SqT K H b (k.map V.int)) : Dp K H (.ref b) (keyD k) := .tup h (DpAll.of_ints k)
theorem kbz (hcalm : X.calm = true) (hr : Room 0 X.A) : CallR X (.builtin "sorted") (xbR X.K) := by
  intro pins s σ H vs us Q I r h
  obtain ⟨a, L, rfl, ha, ht, so, q⟩ := h
  rw [Vals.ref1 r]
  obtain ⟨lo, xs, rr, dd⟩ := wW I ha ht
  obtain ⟨es, ep, hraw, hsz, hent⟩ := dd.raw
  have hu := hr.un
  have hLx := rr.len
  have hln : L.length ≤ 16777216 := by
    have := so.ln
    rw [List.length_map] at this
    exact this
  have hsl : es.size ≤ sizeLine := by rw [hsz, ← hLx, sizeLine_eq]; exact hln
  refine Calls.call_function_entry PyProof.Rows.kind_sorted PyProof.Rows.plain_sorted PyProof.Rows.entry_sorted (PyProof.Rows.args_sorted1 _) ?_
  unfold Builtin.«sorted»
  refine wpAny_bind (m := checkCount "sorted" 1 1 _) (wpAny_pure ?_)
  refine wpAny_bind (PySem.W.kdu_collect (A := X.A.in1) (PySem.KdlSrc.rawDict lo) (I.ok.hd hcalm) hraw hsl fun h' tk acc hk hacc => ?_)
  have I1 : Inv X pins σ H { s with heap := h', toks := tk } := I.kept hk
  have hal : acc.toList.length = L.length := by rw [Array.length_toList, hacc.1, hsz, hLx]
  have hv : Vals (L.map fun p => V.ref p.2.1) acc.toList := xbc (by rw [List.length_map, hal]) fun i x u e1 e2 => by
    rw [List.getElem?_map] at e1
    obtain ⟨p, e3, rfl⟩ := Option.map_eq_some_iff.mp e1
    obtain ⟨hi, e4⟩ := hacc.2 i u (by rw [← Array.getElem?_toList]; exact e2)
    obtain ⟨y, e5, e6, _⟩ := hent i hi
    rw [e4, e6, ← (rr.at i p y e3 e5).2]
    rfl
  refine wpAny_bind (wpAny_newList ?_ (by rw [hal, sizeLine_eq]; omega))
  have hoL : (h'.push (seqObj "list" acc.toList.toArray 0)).get? h'.objs.size = some (seqObj "list" acc.toList.toArray 0) := Heap.get?_push_size _ rfl
  have hd : DpAll X.K H (L.map fun p => V.ref p.2.1) (L.map fun p => keyD p.1) := by
    have := DpAll.unzip (L.map fun p => (V.ref p.2.1, keyD p.1)) (K := X.K) (H := H) fun b hb => by
      obtain ⟨p, hp, rfl⟩ := List.mem_map.mp hb
      exact kbI (ht p hp)
    rw [List.map_map, List.map_map] at this
    exact this
  generalize hxs : L.map (fun p => V.ref p.2.1) = xv at hd hv
  generalize hds : L.map (fun p => keyD p.1) = ds at hd so q
  have hlen := hd.length
  have hxl : xv.length = L.length := by rw [← hxs, List.length_map]
  have ez := zbt hlen
  have bsl : (xv.zip ds).length = ds.length := by
    rw [List.length_zip]
    omega
  have er0 : PySem.W.EachIs (fun (v : Value) (b : V × D) => ∃ as, Reads h' v b.2 as) acc.toList (xv.zip ds) := xaV hv hlen fun u x d rx hm => Dp.reads I1 d x u ((hd.zip x d hm).up (yaP so.ly d (List.of_mem_zip hm).2)) rx
  have e1 : PySem.W.EachIs (fun (u : Value) (b : V × D) => RelV b.1 u) acc.toList (xv.zip ds) := xaV hv hlen fun u x d rx _ => rx
  have er' : PySem.W.EachIs (fun (v : Value) (b : V × D) => ∃ as, Reads (PySem.W.sortingHeap (h'.push (seqObj "list" acc.toList.toArray 0)) h'.objs.size acc.toList) v b.2 as) acc.toList (xv.zip ds) := er0.mono fun _ _ ⟨as, r⟩ => ⟨as, PyProof.Rows.Reads.keeps (fun b o e => PySem.W.sortingHeap_old (Nat.ne_of_lt (Heap.lt_size e)) (Heap.get?_push_of_some _ e)) r⟩
  have hal2 : PySem.W.AllAlike ((xv.zip ds).map (·.2)) := by rw [ez]; exact so.al
  show wpAny _ _ _ _ _ { s with heap := h'.push (seqObj "list" acc.toList.toArray 0), toks := tk }
  refine wpAny_bind (wpAny_holding (wpAny_call_entry PyProof.Rows.slot_list_sort ⟨_, hoL, rfl⟩ PyProof.Rows.entry_list_sort
    (PySem.W.list_sort_vals (s := { s with heap := h'.push (seqObj "list" acc.toList.toArray 0), toks := tk }) (κ := PySem.W.dataKind (PySem.W.sortingHeap (h'.push (seqObj "list" acc.toList.toArray 0)) h'.objs.size acc.toList) ((xv.zip ds).map (·.2))) hoL
      (PySem.W.SortsAt.data (s := { s with heap := PySem.W.sortingHeap (h'.push (seqObj "list" acc.toList.toArray 0)) h'.objs.size acc.toList, toks := tk }) (PySem.W.each_map (R := fun v d => ∃ as, Reads (PySem.W.sortingHeap (h'.push (seqObj "list" acc.toList.toArray 0)) h'.objs.size acc.toList) v d as) (fun b : V × D => b.2) er') hal2 (by rw [ez]; exact so.so) (PySem.W.bound_map fun b hb => by
        have := so.dp b.2 (List.of_mem_zip (show (b.1, b.2) ∈ xv.zip ds from hb)).2
        show X.A.units + 1 + 1 + _ < cLine
        omega)) (by rw [hal, sizeLine_eq]; exact hln) ⟨_, rfl, ?_⟩) (PyProof.Rows.args_list_sort _)))
  have eo := PySem.W.sortVals_data (enc := fun b : V × D => b.2) false e1 er' hal2
  have ho : (PySem.W.sortVals (PySem.W.dataKind (PySem.W.sortingHeap (h'.push (seqObj "list" acc.toList.toArray 0)) h'.objs.size acc.toList) ((xv.zip ds).map (·.2))) false acc.toList acc.toList).length = L.length := by rw [PySem.W.sortVals_length false rfl]; exact hal
  generalize PySem.W.sortVals (PySem.W.dataKind (PySem.W.sortingHeap (h'.push (seqObj "list" acc.toList.toArray 0)) h'.objs.size acc.toList) ((xv.zip ds).map (·.2))) false acc.toList acc.toList = out at eo ho
  obtain ⟨e', he'⟩ := PyProof.Rows.sortedHeap_at (vs := acc.toList) (out := out.toArray) hoL
  generalize hys : (xv.zip ds).mergeSort (PySem.W.dataLe false fun b => b.2) = bs at eo
  have hvs := wa1 eo
  have bl : bs.length = L.length := by
    rw [← hys, List.length_mergeSort, bsl, ← hlen, hxl]
  have hds2 : bs.map (·.2) = jaq ds := by
    unfold jaq
    rw [← hys]
    have z := List.map_mergeSort (f := fun b : V × D => b.2) (r := PySem.W.dataLe false fun b : V × D => b.2) (s := PySem.W.dataLe false id) (l := xv.zip ds) (fun a _ b _ => rfl)
    rw [ez] at z
    exact z
  have hlen2 : (bs.map (·.1)).length ≤ sizeLine := by
    rw [List.length_map, bl, sizeLine_eq]
    exact hln
  refine wpAny_pure ⟨_, rfl, .ref h'.objs.size, upd H h'.objs.size (.lst (bs.map (·.1))), I1.laid (t' := tk) (fun b u e => ?_) (Nat.le_refl _) ⟨hlen2, out, e', hvs, he'⟩, rfl, q (bs.map (·.1)) _ (fun H' hz => ?_) (by rw [List.length_map, bl]) (I1.hok.fresh (Nat.le_refl _))⟩
  · have hb : b < h'.objs.size := Heap.lt_size e
    rw [PyProof.Rows.sortedHeap_old (Nat.ne_of_lt hb) (by rw [size_push']; exact Nat.lt_succ_of_lt hb)]
    exact Heap.get?_push_of_some _ e
  · rw [← hds2]
    refine DpAll.unzip bs fun b hb => ?_
    rw [← hys] at hb
    have hm := List.mem_mergeSort.mp hb
    rw [← hxs, ← hds, List.zip_map', List.mem_map] at hm
    obtain ⟨p, hp, e⟩ := hm
    rw [← e]
    exact hz p hp
end
def jE (ps : List (List Int × D)) (k : List Int) : Option D := (ps.find? fun x => decide (x.1 = k)).map (·.2)
def vak (ps : List (List Int × D)) (k : List Int) (d : D) : List (List Int × D) := if (jE ps k).isSome then ps.map fun x => if x.1 = k then (x.1, d) else x else ps ++ [(k, d)]
section
variable {K : PySem.W.Frag} {Hs : Hp}
theorem qm.val {L : List (List Int × Addr × V)} {ps : List (List Int × D)} (h : qm K Hs L ps) (k : List Int) : (xw L k = none ∧ jE ps k = none) ∨ ∃ v d, xw L k = some v ∧ jE ps k = some d ∧ Dp K Hs v d := by
  induction h with
  | nil => exact .inl ⟨rfl, rfl⟩
  | @cons k' b v d L ps t hv r ih =>
    unfold xw jE at ih ⊢
    rw [List.find?_cons, List.find?_cons]
    by_cases e : k' = k
    · dsimp only
      rw [decide_eq_true e]
      exact .inr ⟨v, d, rfl, rfl, hv⟩
    · dsimp only
      rw [decide_eq_false e]
      exact ih
theorem qm.keys : ∀ {L : List (List Int × Addr × V)} {ps : List (List Int × D)}, qm K Hs L ps → ∀ p ∈ L, SqT K Hs p.2.1 (p.1.map V.int)
  | _, _, .nil, p, h => nomatch h
  | _, _, .cons t _ r, p, h => by
    rcases List.mem_cons.mp h with rfl | h
    · exact t
    · exact qm.keys r p h
theorem qm.kbR : ∀ {L : List (List Int × Addr × V)} {ps : List (List Int × D)}, qm K Hs L ps → L.map (·.1) = ps.map (·.1)
  | _, _, .nil => rfl
  | _, _, .cons _ _ r => by rw [List.map_cons, List.map_cons, qm.kbR r]
theorem qm.len {L : List (List Int × Addr × V)} {ps : List (List Int × D)} (h : qm K Hs L ps) : L.length = ps.length := by
  have := congrArg List.length h.kbR
  rwa [List.length_map, List.length_map] at this
theorem qm.set {k : List Int} {v : V} {d : D} (hv : Dp K Hs v d) : ∀ {L : List (List Int × Addr × V)} {ps : List (List Int × D)}, qm K Hs L ps → qm K Hs (L.map fun x => if x.1 = k then (x.1, x.2.1, v) else x) (ps.map fun x => if x.1 = k then (x.1, d) else x)
  | _, _, .nil => .nil
  | _, _, .cons (k := k') (b := b) (v := v') (d := d') t h r => by
    rw [List.map_cons, List.map_cons]
    by_cases e : k' = k
    · dsimp only
      rw [if_pos e, if_pos e]
      exact .cons t hv (qm.set hv r)
    · dsimp only
      rw [if_neg e, if_neg e]
      exact .cons t h (qm.set hv r)
theorem qm.snoc {k : List Int} {b : Addr} {v : V} {d : D} (hk : SqT K Hs b (k.map V.int)) (hv : Dp K Hs v d) : ∀ {L : List (List Int × Addr × V)} {ps : List (List Int × D)}, qm K Hs L ps → qm K Hs (L ++ [(k, b, v)]) (ps ++ [(k, d)])
  | _, _, .nil => .cons hk hv .nil
  | _, _, .cons t h r => .cons t h (qm.snoc hk hv r)
theorem qm.put {L : List (List Int × Addr × V)} {ps : List (List Int × D)} (h : qm K Hs L ps) {k : List Int} {b : Addr} {v : V} {d : D} (hk : SqT K Hs b (k.map V.int)) (hv : Dp K Hs v d) : qm K Hs (putL L k b v) (vak ps k d) := by
  unfold putL vak
  rcases h.val k with ⟨e1, e2⟩ | ⟨v', d', e1, e2, _⟩
  · rw [e1, e2, if_neg (by simp), if_neg (by simp)]
    exact h.snoc hk hv
  · rw [e1, e2]
    show qm K Hs (if true = true then _ else _) (if true = true then _ else _)
    rw [if_pos rfl, if_pos rfl]
    exact h.set hv
end
section
variable {X : Cx} {Cl : Nat → Addr} {W : WX} {e ke : Expr} {fe fk : FE} {pos : Pos}
noncomputable def qaJ (i : Nat) (rest : FS) : FS := fun ρ => xaH fun a _ => (rest (ρ.set i (.wc a (.dic [])))).bind (jbx i)
theorem qaR {i : Nat} {y : Str} {p1 pos0 : Pos} {srest : List Stmt} {rest : FS} (hN : X.N.Nodup) (hrest : xO X Cl W srest rest)
    (hi : X.N[i]? = some y := by rfl) (hx : Loc X.env.scope y := by first | exact .inl rfl | exact .inr rfl) (hf : X.fn y = true ∨ X.env.scope.names.lookup y = some .local := by first | exact .inl rfl | exact .inr rfl)
    (hs : swapsWith (.Dict [] [] pos0) (some (.Name y p1)) pos.line X.env = pure false := by rfl) :
    xO X Cl W (.Assign [.Name y p1] (.Dict [] [] pos0) pos :: srest) (qaJ i rest) :=
  PSs.imp (pss_cons (ps_set hN hi hx zaF hs hf) hrest) fun D σ H ⟨H0, Z, ρ, o, I, e, q⟩ => by
  intro p np
  have sp := wbx e p p
  cases er : rest (ρ.set i (.wc p (.dic []))) with
  | none => rw [er] at sp; cases sp
  | some o2 =>
    rw [er] at sp
    have hc : qu X.K Cl (hide (upd H p (kg p [])) (ZP (Zo Z σ ρ) p)) p (kg p []) (.dic []) := ⟨[], rfl, .nil⟩
    exact ⟨H0, Z, _, o2, I.waQ (zl np) np upd_same hc, er, wby sp q⟩
def wY (neg : Bool) (i : Nat) (fe : FE) : FE := fun ρ => match ρ[i]? with
  | some (.wc _ (.dic ps)) => bE fe (fun v _ => (yj v.d).map fun k => .ok (.s (.bool ((jE ps k).isSome != neg)))) ρ
  | _ => none
theorem qbA {neg : Bool} {i : Nat} {σ : St} {H : Hp} {Q : VK} (h : kr X.K Cl W (wY neg i fe) σ H Q) : tOp (jaF X neg) (kr X.K Cl W fe) (tVar i) σ H Q := by
  obtain ⟨Z, ρ, r1, I, e, q⟩ := h
  unfold wY at e
  split at e
  · rename_i a ps hd
    refine vH I e q fun v x H1 _ h1 s1 hv I1 q1 => ?_
    obtain ⟨e1, u, e2, L, rfl, hL⟩ := I1.slots i _ hd
    refine ⟨_, e1, ?_⟩
    cases ek : yj v.d with
    | none => rw [ek] at h1; cases h1
    | some k =>
      rw [ek] at h1
      cases h1
      obtain ⟨t, rfl, ht⟩ := Dp.yj (hv.dp I) ek
      refine ⟨t, k, a, L, rfl, SqT.same qd ht, rfl, e2, fun p hp => SqT.same qd (hL.keys p hp), ?_⟩
      have em : (xw L k).isSome = (jE ps k).isSome := by
        rcases hL.val k with ⟨z1, z2⟩ | ⟨v', d', z1, z2, _⟩
        · rw [z1, z2]; rfl
        · rw [z1, z2]; rfl
      rw [em]
      exact q1 _ H1 (Same.refl _) (.bl _)
  · cases e
theorem xaK {i : Nat} {y : Str} {p0 : Pos} (hr : X.A.units + 1 < cLine) (he : DE X Cl W e fe) (hv : PE X (.Name y p0) (tVar i)) (hm : behindInMarks .NotIn (.Name y p0) = false := by rfl) : DT X Cl W (.Compare e [.NotIn] [.Name y p0] pos) (tV (wY true i fe)) :=
  PT.imp (pt_cmpR (kbo hr) he hv hm) fun _ _ _ ⟨_, _, _, I, e, q⟩ => qbA (xa8 I e q)
def kq (i : Nat) (fe : FE) : FE := fun ρ => match ρ[i]? with
  | some (.wc _ (.dic ps)) => bE fe (fun v _ => (yj v.d).bind fun k => (jE ps k).map fun d => .ok (.s d)) ρ
  | _ => none
theorem kW {i : Nat} {o : Expr} (hr : X.A.units + 1 < cLine) (hv : PE X o (tVar i)) (he : DE X Cl W e fe) (hs : NoSl e := by exact fun _ _ => rfl) : DE X Cl W (.Subscript o e pos) (kq i fe) :=
  PE.imp (ya2 hr hv he hs) fun σ H Q ⟨Z, ρ, r1, I, e, q⟩ => by
  unfold kq at e
  split at e
  · rename_i a ps hd
    obtain ⟨e0, _⟩ := I.slots i _ hd
    refine ⟨_, e0, ?_⟩
    refine vH I e q fun v x H1 _ h1 s1 hv I1 q1 => ?_
    obtain ⟨e1, u, e2, L, rfl, hL⟩ := I1.slots i _ hd
    cases ek : yj v.d with
    | none => rw [ek] at h1; cases h1
    | some k =>
      rw [ek] at h1
      obtain ⟨t, rfl, ht⟩ := Dp.yj (hv.dp I) ek
      have h1 : (jE ps k).map (fun d => Except.ok (Val.s d)) = some _ := h1
      rcases hL.val k with ⟨z1, z2⟩ | ⟨v', d', z1, z2, hvd⟩
      · rw [z2] at h1; cases h1
      · rw [z2] at h1
        cases h1
        exact ⟨t, k, a, L, v', rfl, SqT.same qd ht, rfl, e2, fun p hp => SqT.same qd (hL.keys p hp), z1, q1 _ H1 (Same.refl _) hvd⟩
  · cases e
def qL (i : Nat) (fe : FE) : FE := fun ρ => match ρ[i]? with
  | some (.wc _ (.dic ps)) => bE fe (fun v _ => (yj v.d).map fun k => .ok (.s ((jE ps k).getD .none))) ρ
  | _ => none
theorem zaR {i : Nat} {o : Expr} {apos cpos : Pos} (hr : X.A.units + 1 < cLine) (hv : PE X o (tVar i)) (he : DE X Cl W e fe) (m : M1 X o "get" apos e cpos) : DE X Cl W (.Call (.Attribute o "get" apos) [e] [] cpos) (qL i fe) :=
  PE.imp (xbz hr hv he m) fun σ H Q ⟨Z, ρ, r1, I, e, q⟩ => by
  unfold qL at e
  split at e
  · rename_i a ps hd
    obtain ⟨e0, u0, e00, L0, rfl, hL0⟩ := I.slots i _ hd
    refine ⟨_, e0, a, rfl, ⟨L0, e00, fun p hp => SqT.same qd (hL0.keys p hp)⟩, ?_⟩
    refine vH I e q fun v x H1 _ h1 s1 hv I1 q1 => ?_
    obtain ⟨e1, u, e2, L, rfl, hL⟩ := I1.slots i _ hd
    cases ek : yj v.d with
    | none => rw [ek] at h1; cases h1
    | some k =>
      rw [ek] at h1
      cases h1
      dsimp only at q1
      obtain ⟨t, rfl, ht⟩ := Dp.yj (hv.dp I) ek
      refine ⟨t, k, L, rfl, SqT.same qd ht, e2, fun p hp => SqT.same qd (hL.keys p hp), ?_⟩
      rcases hL.val k with ⟨z1, z2⟩ | ⟨v', d', z1, z2, hvd⟩
      · rw [z1]
        rw [z2] at q1
        exact q1 _ H1 (Same.refl _) .non
      · rw [z1]
        rw [z2] at q1
        exact q1 _ H1 (Same.refl _) hvd
  · cases e
def wI (i : Nat) (fk fe : FE) : FS := fun ρ0 => match ρ0[i]? with
  | some (.wc a (.dic ps)) => sE fe (fun v ρ => match v.st with
    | some d => sE fk (fun kv ρ => match kv.st.bind yj with
      | some k => if vj (ps.length + 1) = true then some (.nx (ρ.set i (.wc a (.dic (vak ps k d))))) else none
      | none => none) ρ
    | none => none) ρ0
  | _ => none
theorem waF {i : Nat} {o : Expr} {pos' : Pos} (hr : X.A.units + 1 < cLine) (hv : PE X o (tVar i)) (hk : DE X Cl W ke fk) (he : DE X Cl W e fe) (hs : swapsWith e (some (.Subscript o ke pos')) pos.line X.env = pure false := by rfl) :
    DS X Cl W (.Assign [.Subscript o ke pos'] e pos) (wI i fk fe) :=
  PS.imp (xa2 hr hv hk he hs) fun D σ H ⟨H0, Z, ρ, oo, I, e, q⟩ => by
  unfold wI at e
  split at e
  · rename_i a ps hd
    refine qI I e q fun v x H1 _ h1 s1 hvv I1 => ?_
    split at h1
    · rename_i d vw
      obtain ⟨e0, _⟩ := I1.di.slots i _ hd
      refine ⟨_, e0, ?_⟩
      refine qI I1 h1 q fun kv y H2 _ h2 s2 hkv I2 => ?_
      split at h2
      · rename_i k ek
        split at h2
        · rename_i hlt
          cases h2
          obtain ⟨e1, u, e2, L, rfl, hL⟩ := I2.di.slots i _ hd
          obtain ⟨kd, ek1, ek⟩ := Option.bind_eq_some_iff.mp ek
          obtain ⟨t, rfl, ht⟩ := Dp.yj (hkv.stab I1.di ek1) ek
          have hdv : Dp X.K (hide H2 (Zo Z σ ρ)) x d := Dp.same (kf s2 fun _ h => .inl h) (hvv.stab I.di vw)
          have := hL.len
          have := js hlt
          refine ⟨t, k, a, L, rfl, SqT.same qd ht, rfl, e2, fun p hp => SqT.same qd (hL.keys p hp), by omega, ?_⟩
          exact q _ _ (I2.zaN hd ⟨_, rfl, hL.put ht hdv⟩)
        · cases h2
      · cases h2
    · cases h1
  · cases e
open Classical in
noncomputable def vP (i : Nat) : FE := fun ρ => match ρ[i]? with
  | some (.wc _ (.dic ps)) => if jaD (ps.map fun p => keyD p.1) then some (.ok (.f (jaq (ps.map fun p => keyD p.1)))) else none
  | _ => none
theorem jaR {i : Nat} {y : Str} {p p0 pos0 : Pos} (hc : X.calm = true) (hr : Room 0 X.A) (hm : X.mg "sorted" = none) (hv : PE X (.Name y p0) (tVar i))
    (hg : Gl X "sorted" := by rfl) (vw : starEach [.Name y p0] X.env = (false, eval (.Name y p0) X.env) :: starEach [] X.env := by rfl) (hpl : (backTo pos0 (starEach [] X.env)).any (·.1) = false := by rfl) :
    DE X Cl W (.Call (.Name "sorted" p) [.Name y p0] [] pos0) (vP i) :=
  PE.imp (pe_callB (kbz hc hr) hg hm (by decide +kernel) (pa_cons hv pa_nil (by exact vw)) (he := vw) (hpl := hpl)) fun σ H Q ⟨Z, ρ, r1, I, e, q⟩ => by
  unfold vP at e
  split at e
  · rename_i a ps hd
    obtain ⟨e1, u, e2, L, rfl, hL⟩ := I.slots i _ hd
    split at e
    · rename_i so
      cases e
      have ek : (ps.map fun p => keyD p.1) = L.map fun p => keyD p.1 := by
        have z := congrArg (List.map keyD) hL.kbR
        rw [List.map_map, List.map_map] at z
        exact z.symm
      rw [ek] at so q
      refine ⟨_, e1, a, L, rfl, e2, fun p hp => SqT.same qd (hL.keys p hp), so, fun ys p hz _ np => ?_⟩
      have hn : hide H (Zo Z σ ρ) p = none := by
        unfold hide
        split
        · rfl
        · exact np
      exact q _ _ (zl np) (zu.new (Same.refl (Cl := Cl) _) np (hz _ fun x hx => Dp.same (yb.refl _) (kbI (hL.keys x hx))))
    · cases e
  · cases e
end
abbrev wm := List (List Int × D)
abbrev TDc := List D → Option wm
def jbS (K : PySem.W.Frag) (Cl : Nat → Addr) (n : Nat) (F : TDc) : Sp := fun vs H Q E => ∃ Z ds qs, waz Cl Z H ∧ DpAll K (hide H Z) vs ds ∧ ds.length = n ∧ F ds = some qs ∧
  ∀ p L H', Same Cl H H' → H p = none → H' p = some (kg p L) → qm K (hide H' (ZP Z p)) L qs → Q (.ref p) H'
def kci (K : PySem.W.Frag) (Cl : Nat → Addr) (f : ya → Option wm) : TE := fun σ H Q => ∃ U Z Zc ρ qs, SI K Cl U Z H σ ρ ∧ (∀ b, Zc b → Zo Z σ ρ b) ∧ f ρ = some qs ∧
  ∀ p L H', Same Cl U H' → H p = none → H' p = some (kg p L) → qm K (hide H' (ZP Zc p)) L qs → Q (.ref p) H'
def jbA (n k : Nat) (f : ya → Option wm) : TDc := fun ds => f (ds.map .dat ++ List.replicate (k - n) .un)
open Classical in
noncomputable def waN (k : Nat) (f : ya → Option wm) : wm → Option wm := fun ps => if h : ∃ qs, ∀ c, f (.wc c (.dic ps) :: List.replicate (k - 1) .un) = some qs then some h.choose else none
theorem qbJ {k : Nat} {f : ya → Option wm} {ps qs : wm} (h : waN k f ps = some qs) (c : Addr) : f (.wc c (.dic ps) :: List.replicate (k - 1) .un) = some qs := by
  unfold waN at h
  split at h
  · rename_i hh
    cases h
    exact hh.choose_spec c
  · cases h
theorem yca {k : Nat} {f : ya → Option wm} {ps qs : wm} (h : ∀ c, f (.wc c (.dic ps) :: List.replicate (k - 1) .un) = some qs) : waN k f ps = some qs := by
  have hh : ∃ qs, ∀ c, f (.wc c (.dic ps) :: List.replicate (k - 1) .un) = some qs := ⟨qs, h⟩
  unfold waN
  rw [dif_pos hh]
  have q := hh.choose_spec 0
  rw [h 0] at q
  rw [← Option.some.inj q]
section
variable {K : PySem.W.Frag} {Cl : Nat → Addr}
theorem Same.qcs {H : Hp} {c : Addr} {L : List (List Int × Addr × V)} (hc : H c = some (kg c L)) : Same Cl (hide H fun b => b = c) H := .of (fun b o h => (yf h).2) fun b o xs h => vc (fun z => by
  rw [z, hc] at h
  unfold kg at h
  cases h) h
theorem Same.qcj {H0 H : Hp} {c : Addr} {L : List (List Int × Addr × V)} (s : Same Cl H0 H) (n : H0 c = none) (hc : H c = some (kg c L)) : Same Cl H0 (hide H fun b => b = c) := by
  refine ⟨fun b o h nt => vc (fun z => by rw [z, n] at h; cases h) (s.d b o h nt), fun t p hp nn => ?_, fun b h z => ?_, fun b o xs h => s.nf b o xs (yf h).2⟩
  · obtain ⟨qs, w1, w2, w3⟩ := (s.tb t) p hp nn
    refine ⟨qs, vc (fun z => by rw [z, hc] at w1; unfold kg at w1; cases w1) w1, w2, fun pos cv hv => ?_⟩
    obtain ⟨c', v1, v2⟩ := w3 pos cv hv
    exact ⟨c', v1, vc (fun z => by rw [z, hc] at v2; exact jaP c L _ (Option.some.inj v2)) v2⟩
  · have l := s.live b h
    cases q2 : H b with
    | none => exact l q2
    | some o =>
      have : hide H (fun b => b = c) b = some o := vc (fun y => h (by rw [y]; exact n)) q2
      rw [this] at z
      cases z
theorem kaK {H : Hp} {p : Addr} {L : List (List Int × Addr × V)} (h : H p = none) : Same Cl H (upd H p (kg p L)) := zl h fun o xs z => by unfold kg at z; cases z
theorem wbS {P : Program} {w : World} {mg : Str → Option Value} {base : Heap} {x qual : Str} {st : Stmt} {fa : Addr} {fd : FuncData} {N ps : List Str} {k n m : Nat} {fb : ya → Option wm} (F : Fun K x qual st fa fd) (S : FnScope N ps (defScope st)) (hn : ps.length = n) (hm : N.length = m)
    (h : ∀ (cdv : Value) (A : Around) (outer : List Env) (s : Shared) (H : Hp) (E : XK), Room k (A.deeper (envOfC qual (defScope st) s.heap.objs.size fa cdv)) →
      PSs (cxOf (L2.CX P w) P w K mg base N qual (defScope st) fa cdv A outer s H E) (defBody st) (fun D σ H => kci K Cl fb σ H D.rt)) : FnOk P w K mg base (L2.CX P w) (k + 1) fa fd ps (jbS K Cl n (jbA n m fb)) := by
  refine F.okX S (fun vs H Q E ⟨Z, ds, o, _, h1, h2, _⟩ => by rw [h1.length, h2, hn]) (fun cdv A outer s H vs Q E hr hsp => ⟨_, h cdv A outer s H E hr, ?_⟩)
  obtain ⟨Z, ds, qs, live, h1, h2, e, q⟩ := hsp
  unfold jbA at e
  have vw : L2.start N vs = vs.map some ++ List.replicate (m - n) none := by
    unfold L2.start
    rw [hm, h1.length, h2]
  rw [vw]
  exact ⟨H, Z, Z, _, qs, SI.start (m := m - n) live h1, fun b z => .inl z, e, q⟩
end
open Classical in
noncomputable def zbd (i : Nat) (F1 : FS) (ρ : ya) : Option wm := if h : ∃ qs : wm, ∀ a, ∃ ρ', F1 (ρ.set i (.wc a (.dic []))) = some (.nx ρ') ∧ ρ'[i]? = some (.wc a (.dic qs)) ∧ ∀ (j : Nat) s, j ≠ i → ρ[j]? = some s → s.yz → ∃ b c c', s = .wc b c ∧ ρ'[j]? = some (.wc b c') then some h.choose else none
noncomputable def vaw (i : Nat) (F1 : FS) : ya → Option wm := fun ρ => if noOwn ρ [i] = true then zbd i F1 ρ else none
theorem zbJ {i : Nat} {F1 : FS} {ρ : ya} {qs : wm} (h : ∀ a, ∃ ρ', F1 (ρ.set i (.wc a (.dic []))) = some (.nx ρ') ∧ ρ'[i]? = some (.wc a (.dic qs)) ∧ ∀ (j : Nat) s, j ≠ i → ρ[j]? = some s → s.yz → ∃ b c c', s = .wc b c ∧ ρ'[j]? = some (.wc b c')) (hn : noOwn ρ [i] = true) : vaw i F1 ρ = some qs := by
  unfold vaw zbd
  rw [if_pos hn]
  have hh : ∃ qs : wm, ∀ a, ∃ ρ', F1 (ρ.set i (.wc a (.dic []))) = some (.nx ρ') ∧ ρ'[i]? = some (.wc a (.dic qs)) ∧ ∀ (j : Nat) s, j ≠ i → ρ[j]? = some s → s.yz → ∃ b c c', s = .wc b c ∧ ρ'[j]? = some (.wc b c') := ⟨qs, h⟩
  rw [dif_pos hh]
  obtain ⟨r1, e1, e2, _⟩ := hh.choose_spec 0
  obtain ⟨r2, f1, f2, _⟩ := h 0
  rw [e1] at f1
  cases f1
  rw [e2] at f2
  cases f2
  rfl
section
variable {X : Cx} {Cl : Nat → Addr} {W : WX} {F1 : FS} {st : Stmt}
theorem zcj {i : Nat} {y : Str} {p1 p2 p3 p4 pos0 : Pos} (hN : X.N.Nodup) (h1 : DS X Cl W st F1) (hv : ∀ p, PE X (.Name y p) (tVar i))
    (hi : X.N[i]? = some y := by rfl) (hx : Loc X.env.scope y := by first | exact .inl rfl | exact .inr rfl) (hf : X.fn y = true ∨ X.env.scope.names.lookup y = some .local := by first | exact .inl rfl | exact .inr rfl)
    (hs : swapsWith (.Dict [] [] pos0) (some (.Name y p1)) p2.line X.env = pure false := by rfl) :
    PSs X [.Assign [.Name y p1] (.Dict [] [] pos0) p2, st, .Return (some (.Name y p3)) p4] (fun D σ H => kci X.K Cl (vaw i F1) σ H D.rt) :=
  PSs.imp (pss_cons (ps_set hN hi hx zaF hs hf) (pss_cons h1 (pss_cons (ps_ret (hv p3)) pss_nil))) fun D σ H ⟨U, Z, Zc, ρ, qs, I, hz, e, q⟩ => by
  unfold vaw at e
  split at e
  · rename_i hno
    unfold zbd at e
    split at e
    · rename_i hh
      cases e
      intro p np
      obtain ⟨ρ', eF, ei, ho⟩ := hh.choose_spec p
      have hc : qu X.K Cl (hide (upd H p (kg p [])) (ZP (Zo Z σ ρ) p)) p (kg p []) (.dic []) := ⟨[], rfl, .nil⟩
      refine ⟨U, Z, _, .nx ρ', I.waQ (kaK np) np upd_same hc, eF, fun σ' H' I' => ?_⟩
      obtain ⟨e1, u, e2, L, rfl, hL⟩ := I'.di.slots i _ ei
      refine ⟨.ref p, e1, q p L H' I'.same np e2 (hL.same (jc (yb.refl _) fun b hb => .inl ?_))⟩
      rcases hb with hb | rfl
      · rcases hz b hb with z | ⟨j, z⟩
        · exact .inl z
        · obtain ⟨s, g1, g2⟩ := z.slot
          by_cases hj : j = i
          · subst hj
            exfalso
            unfold noOwn at hno
            rw [List.all_cons, g1] at hno
            cases s <;> first | exact g2 | (simp at hno)
          · obtain ⟨b', c, c', rfl, g3⟩ := ho j s hj g1 g2
            have eb : b = b' := by
              rcases z with ⟨_, ds, z⟩ | ⟨k, ds, z⟩ | ⟨c2, z⟩
              · rw [g1] at z; cases z
              · rw [g1] at z; cases z
              · rw [g1] at z; cases z; rfl
            exact .inr ⟨j, .inr (.inr ⟨c', by rw [eb]; exact g3⟩)⟩
      · exact .inr ⟨i, .inr (.inr ⟨_, ei⟩)⟩
    · cases e
  · cases e
end
section
variable {X : Cx} {Cl : Nat → Addr} {W : WX} {e : Expr} {es : List Expr} {ga : FA} {rest : FS}
end
def zL (H H' : Hp) (p : Addr) (L : List (List Int × Addr × V)) : Prop := ∃ qs : List Addr, L.map (·.2.2) = qs.map V.ref ∧ qs.Nodup ∧ ∀ q ∈ qs, q ≠ p ∧ H q = none ∧ ∃ zs, H' q = some (.lst zs)
section
variable {K : PySem.W.Frag} {Cl : Nat → Addr} {H H1 H2 : Hp} {p : Addr} {L : List (List Int × Addr × V)}
theorem zL.nil : zL H H1 p [] := ⟨[], rfl, .nil, fun _ h => nomatch h⟩
theorem zL.same (s : Same Cl H1 H2) (h : zL H H1 p L) : zL H H2 p L := by
  obtain ⟨qs, h1, h2, h3⟩ := h
  exact ⟨qs, h1, h2, fun q hq => ⟨(h3 q hq).1, (h3 q hq).2.1, (h3 q hq).2.2.imp fun zs z => s.at z⟩⟩
theorem zL.upd {u : HO} (h : zL H H1 p L) : zL H (upd H1 p u) p L := by
  obtain ⟨qs, h1, h2, h3⟩ := h
  exact ⟨qs, h1, h2, fun q hq => ⟨(h3 q hq).1, (h3 q hq).2.1, (h3 q hq).2.2.imp fun zs z => by rw [upd_ne (h3 q hq).1]; exact z⟩⟩
theorem zL.put {k : List Int} {b q : Addr} {zs : List V} (h : zL H H1 p L) (s : Same Cl H1 H2) (hk : xw L k = none) (nq : H1 q = none) (n0 : H q = none) (np : q ≠ p) (hq : H2 q = some (.lst zs)) : zL H H2 p (putL L k b (.ref q)) := by
  obtain ⟨qs, h1, h2, h3⟩ := h
  unfold putL
  rw [hk, if_neg (by simp)]
  refine ⟨qs ++ [q], by rw [List.map_append, List.map_append, h1]; rfl, ?_, fun x hx => ?_⟩
  · rw [List.nodup_append]
    refine ⟨h2, List.pairwise_singleton _ _, fun x hx y hy => ?_⟩
    rw [List.mem_singleton] at hy
    subst hy
    intro z
    subst z
    obtain ⟨_, _, zs, e⟩ := h3 x hx
    rw [nq] at e
    cases e
  · rcases List.mem_append.mp hx with hx | hx
    · exact ⟨(h3 x hx).1, (h3 x hx).2.1, (h3 x hx).2.2.imp fun zs z => s.at z⟩
    · rw [List.mem_singleton] at hx
      subst hx
      exact ⟨np, n0, zs, hq⟩
def vbS : Slot → Slot
  | .wc a _ => .pin a
  | s => s
def yN (ρ : ya) : ya := ρ.map vbS
def jq (ρ : ya) : Prop := ∀ (j : Nat) s, ρ[j]? = some s → s.yz → ∃ a ps, s = .wc a (.dic ps)
variable {Z : Addr → Prop} {σ σ2 : St} {ρ : ya} {H0 : Hp}
theorem jq.own (h : jq ρ) {j : Nat} {a : Addr} : zg σ ρ j a ↔ ∃ ps, ρ[j]? = some (.wc a (.dic ps)) := by
  constructor
  · intro o
    obtain ⟨s, h1, h2⟩ := o.slot
    obtain ⟨b, ps, rfl⟩ := h j s h1 h2
    rcases o with ⟨_, ds, z⟩ | ⟨k, ds, z⟩ | ⟨c, z⟩
    · rw [h1] at z; cases z
    · rw [h1] at z; cases z
    · rw [h1] at z; cases z; exact ⟨ps, h1⟩
  · rintro ⟨ps, e⟩
    exact .inr (.inr ⟨_, e⟩)
theorem yaW {j : Nat} : (yN ρ)[j]? = ρ[j]?.map vbS := by
  unfold yN
  rw [List.getElem?_map]
theorem yaw (h : jq ρ) (j : Nat) (a : Addr) : ¬ zg σ (yN ρ) j a := fun o => by
  obtain ⟨s, h1, h2⟩ := o.slot
  rw [yaW] at h1
  obtain ⟨t, e1, e2⟩ := Option.map_eq_some_iff.mp h1
  cases t <;> cases e2 <;> first | exact h2 | (obtain ⟨_, _, z⟩ := h j _ e1 trivial; cases z)
theorem DI.pinned (I : DI K Cl Z H σ ρ) (h : jq ρ) : DI K Cl (Zo Z σ ρ) H σ (yN ρ) := by
  have zo : ∀ b, Zo (Zo Z σ ρ) σ (yN ρ) b ↔ Zo Z σ ρ b := fun b => ⟨fun z => z.elim id fun ⟨j, o⟩ => absurd o (yaw h j b), .inl⟩
  refine ⟨by unfold yN; rw [List.length_map]; exact I.len, fun i j a h1 => absurd h1 (yaw h i a), fun a ⟨j, o⟩ => absurd o (yaw h j a), fun a z => I.yy z, fun j s e => ?_, I.tb⟩
  rw [yaW] at e
  obtain ⟨t, e1, e2⟩ := Option.map_eq_some_iff.mp e
  have q := I.slots j t e1
  have hm : yb (hide H (Zo Z σ ρ)) (hide H (Zo (Zo Z σ ρ) σ (yN ρ))) := jc (yb.refl _) fun b hb => .inl ((zo b).mp hb)
  cases t with
  | un => cases e2; trivial
  | dat d => cases e2; obtain ⟨v, f1, f2⟩ := q; exact ⟨v, f1, Dp.same hm f2⟩
  | own ds => obtain ⟨_, _, z⟩ := h j _ e1 trivial; cases z
  | err a dd i => cases e2; exact q
  | ownT a k ds => obtain ⟨_, _, z⟩ := h j _ e1 trivial; cases z
  | wc a c => cases e2; exact q.1
  | pin a => cases e2; exact q
  | ob k fs => cases e2; exact kF.same hm q
theorem SI.ybZ (I : SI K Cl H0 Z H σ ρ) (h : jq ρ) (s : Same Cl H H2) (J : DI K Cl (Zo Z σ ρ) H2 σ2 (yN ρ)) : SI K Cl H0 Z H2 σ2 ρ := by
  have ow : ∀ j a, zg σ2 ρ j a ↔ zg σ ρ j a := fun j a => (h.own).trans (h.own).symm
  have zo : ∀ b, Zo Z σ2 ρ b ↔ Zo Z σ ρ b := fun b => ⟨fun z => z.imp id fun ⟨j, o⟩ => ⟨j, (ow j b).mp o⟩, fun z => z.imp id fun ⟨j, o⟩ => ⟨j, (ow j b).mpr o⟩⟩
  have zo2 : ∀ b, Zo (Zo Z σ ρ) σ2 (yN ρ) b ↔ Zo Z σ ρ b := fun b => ⟨fun z => z.elim id fun ⟨j, o⟩ => absurd o (yaw h j b), .inl⟩
  have hm : yb (hide H2 (Zo (Zo Z σ ρ) σ2 (yN ρ))) (hide H2 (Zo Z σ2 ρ)) := jc (yb.refl _) fun b hb => .inl ((zo2 b).mpr ((zo b).mp hb))
  have hm2 : yb (hide H (Zo Z σ ρ)) (hide H2 (Zo Z σ2 ρ)) := kf s fun b hb => .inl ((zo b).mp hb)
  refine ⟨⟨by have := J.len; unfold yN at this; rw [List.length_map] at this; exact this, fun i j a h1 h2 => I.di.one i j a ((ow i a).mp h1) ((ow j a).mp h2), fun a ⟨j, o⟩ => I.di.out a ⟨j, (ow j a).mp o⟩, fun a z => s.live a (I.di.live a z), fun j t e => ?_, J.tb⟩, I.same.trans s, fun a ⟨j, o⟩ => I.new a ⟨j, (ow j a).mp o⟩⟩
  have e1 : (yN ρ)[j]? = some (vbS t) := by rw [yaW, e]; rfl
  have q := J.slots j _ e1
  cases t with
  | un => trivial
  | dat d => obtain ⟨v, f1, f2⟩ := q; exact ⟨v, f1, Dp.same hm f2⟩
  | own ds => obtain ⟨_, _, z⟩ := h j _ e trivial; cases z
  | err a dd i => exact q
  | ownT a k ds => obtain ⟨_, _, z⟩ := h j _ e trivial; cases z
  | wc a c =>
    obtain ⟨_, u, f1, f2⟩ := I.di.slots j _ e
    exact ⟨q, u, s.wc f2 f1, f2.same hm2⟩
  | pin a => exact q
  | ob k fs => exact kF.same hm q
end
def wbA (K : PySem.W.Frag) (Cl : Nat → Addr) (F : wm → Option wm) : Sp := fun vs H Q E => ∃ Z c L ps qs, vs = [.ref c] ∧ waz Cl Z H ∧ Z c ∧ H c = some (kg c L) ∧ qm K (hide H Z) L ps ∧ F ps = some qs ∧
  ∀ p L' H', Same Cl (hide H fun b => b = c) H' → H p = none → H' p = some (kg p L') → qm K (hide H' (ZP Z p)) L' qs → zL H H' p L' → Q (.ref p) H'
def qb1 (K : PySem.W.Frag) (Cl : Nat → Addr) (f : ya → Option wm) : TE := fun σ H Q => ∃ U Z Zc ρ qs, SI K Cl U Z H σ ρ ∧ (∀ b, Zc b → Zo Z σ ρ b) ∧ f ρ = some qs ∧
  ∀ p L H', Same Cl U H' → H p = none → H' p = some (kg p L) → qm K (hide H' (ZP Zc p)) L qs → zL H H' p L → Q (.ref p) H'
def vI (ρ : ya) (b : Addr) : Prop := ∃ (j : Nat) (ps : wm), ρ[j]? = some (Slot.wc b (Cell.dic ps))
def jW (a : Nat) (f : FE) (ρ : ya) : Option ya := if noOwn ρ [a] = true then match f ρ with
  | some (.ok v) => match v.st with
    | some d => some (ρ.set a (.dat d))
    | none => none
  | _ => none else none
open Classical in
noncomputable def tryD (i : Nat) (fk fc : FE) (hf : HF) (ρ : ya) : Option ya := match ρ[i]? with
  | some (.wc p (.dic ps)) => match fc ρ with
    | some (.ok (.f ds)) => match fk ρ with
      | some (.ok kv) => match kv.st.bind yj with
        | some k => if vj (ps.length + 1) = true ∧ (jE ps k).isSome = false then some (ρ.set i (.wc p (.dic (vak ps k (.list ds))))) else none
        | none => none
      | _ => none
    | some (.error er) => if hf er.1 er.2 (yN ρ) = some (.ct (yN ρ)) then some ρ else none
    | _ => none
  | _ => none
noncomputable def vaF (i a1 a2 : Nat) (f1 f2 f3 fk fc : FE) (t3 t4 : FT) (hf : HF) (ρ1 : ya) : Option ya :=
  (jW a1 f1 ρ1).bind fun ρa => (jW a2 f2 ρa).bind fun ρb => (match t3 ρb with
    | some (.ok true) => jW a2 f3 ρb
    | some (.ok false) => some ρb
    | _ => none).bind fun ρc => match t4 ρc with
    | some (.ok true) => tryD i fk fc hf ρc
    | some (.ok false) => some ρc
    | _ => none
open Classical in
noncomputable def j8 (i : Nat) (g : FG) (B : ya → Option ya) : List D → ya → Option ya
  | [], ρ => some ρ
  | d :: r, ρ => (g d ρ).bind fun ρ1 => if jq ρ1 ∧ ρ1[i]? = ρ[i]? ∧ (∀ b, vI ρ1 b ↔ vI ρ b) then (B ρ1).bind fun ρ2 => j8 i g B r ρ2 else none
open Classical in
noncomputable def v8 (i : Nat) (it : FI) (g : FG) (B : ya → Option ya) : ya → Option wm := fun ρ => if noOwn ρ [i] = true ∧ jq ρ ∧ i < ρ.length then (if h : ∃ qs : wm, ∀ a, ∃ ds ρ', it (ρ.set i (.wc a (.dic []))) = some (.ok ds) ∧ j8 i g B ds (ρ.set i (.wc a (.dic []))) = some ρ' ∧ ρ'[i]? = some (.wc a (.dic qs)) then some h.choose else none) else none
section
variable {K : PySem.W.Frag} {Cl : Nat → Addr} {W : WX} {U H : Hp} {Z : Addr → Prop} {σ : St} {ρ ρ' : ya} {a : Nat} {f : FE}
theorem jq.owned (h : jq ρ) {b : Addr} : vg σ ρ b ↔ vI ρ b := ⟨fun ⟨j, o⟩ => ⟨j, h.own.mp o⟩, fun ⟨j, o⟩ => ⟨j, h.own.mpr o⟩⟩
theorem ka2 (h : noOwn ρ [a] = true) : ∀ s, ρ[a]? = some s → ¬ s.yz := fun s e o => by
  unfold noOwn at h
  rw [List.all_cons, e] at h
  cases s <;> first | exact o | (simp at h)
theorem jbJ {d : D} (hn : noOwn ρ [a] = true) (h : jq ρ) : jq (ρ.set a (.dat d)) ∧ (∀ b, vI (ρ.set a (.dat d)) b ↔ vI ρ b) ∧ ∀ (j : Nat) (b : Addr) (ps : wm), ρ[j]? = some (Slot.wc b (Cell.dic ps)) → (ρ.set a (.dat d))[j]? = some (Slot.wc b (Cell.dic ps)) := by
  have k : ∀ (j : Nat) (b : Addr) (ps : wm), ρ[j]? = some (Slot.wc b (Cell.dic ps)) → (ρ.set a (.dat d))[j]? = some (Slot.wc b (Cell.dic ps)) := fun j b ps e => by
    have : a ≠ j := fun z => ka2 hn (Slot.wc b (Cell.dic ps)) (by rw [z]; exact e) trivial
    rw [List.getElem?_set_ne this]
    exact e
  have k2 : ∀ (j : Nat) s, (ρ.set a (.dat d))[j]? = some s → s.yz → ρ[j]? = some s := fun j s e o => by
    by_cases z : a = j
    · subst z
      rw [List.getElem?_set, if_pos rfl] at e
      split at e
      · cases e; exact o.elim
      · cases e
    · rw [List.getElem?_set_ne z] at e
      exact e
  exact ⟨fun j s e o => h j s (k2 j s e o) o, fun b => ⟨fun ⟨j, ps, e⟩ => ⟨j, ps, k2 j _ e trivial⟩, fun ⟨j, ps, e⟩ => ⟨j, ps, k j b ps e⟩⟩, k⟩
theorem vaz (e : jW a f ρ = some ρ') (h : jq ρ) : jq ρ' ∧ (∀ b, vI ρ' b ↔ vI ρ b) ∧ ∀ (j : Nat) (b : Addr) (ps : wm), ρ[j]? = some (Slot.wc b (Cell.dic ps)) → ρ'[j]? = some (Slot.wc b (Cell.dic ps)) := by
  unfold jW at e
  split at e
  · rename_i hn
    split at e
    · split at e
      · cases e
        exact jbJ hn h
      · cases e
    · cases e
  · cases e
theorem yar {D : Ends} (I : SI K Cl U Z H σ ρ) (e : jW a f ρ = some ρ') (go : ∀ σ' H1, Same Cl H H1 → SI K Cl U Z H1 σ' ρ' → D.nx σ' H1) : tAsg (kr K Cl W f) (gName a) D σ H := by
  unfold jW at e
  split at e
  · split at e
    · rename_i v ev
      split at e
      · rename_i d hd
        cases e
        exact jt I.di ev (fun er z => nomatch z) fun v' x H1 ev' s hv _ => by
          cases ev'
          exact go _ H1 s ((I.jk s).jx (hv.stab I.di hd))
      · cases e
    · cases e
  · cases e
end
theorem yak {i : Nat} {ρ : ya} {p : Addr} {ps ps' : wm} (ei : ρ[i]? = some (Slot.wc p (Cell.dic ps))) (h : jq ρ) : jq (ρ.set i (.wc p (.dic ps'))) ∧ (∀ b, vI (ρ.set i (.wc p (.dic ps'))) b ↔ vI ρ b) ∧ (ρ.set i (.wc p (.dic ps')))[i]? = some (Slot.wc p (Cell.dic ps')) := by
  have hil : i < ρ.length := (List.getElem?_eq_some_iff.mp ei).1
  have e1 : (ρ.set i (.wc p (.dic ps')))[i]? = some (Slot.wc p (Cell.dic ps')) := by rw [List.getElem?_set, if_pos rfl, if_pos hil]
  refine ⟨fun j s es o => ?_, fun b => ⟨fun ⟨j, x, ej⟩ => ?_, fun ⟨j, x, ej⟩ => ?_⟩, e1⟩
  · by_cases zj : i = j
    · subst zj
      rw [e1] at es
      cases es
      exact ⟨_, _, rfl⟩
    · rw [List.getElem?_set_ne zj] at es
      exact h j s es o
  · by_cases zj : i = j
    · subst zj
      rw [e1] at ej
      cases ej
      exact ⟨i, ps, ei⟩
    · rw [List.getElem?_set_ne zj] at ej
      exact ⟨j, x, ej⟩
  · by_cases zj : i = j
    · subst zj
      rw [ei] at ej
      cases ej
      exact ⟨i, ps', e1⟩
    · exact ⟨j, x, by rw [List.getElem?_set_ne zj]; exact ej⟩
theorem ybS {X : Cx} {Cl : Nat → Addr} {W : WX} {U H : Hp} {Z : Addr → Prop} {σ : St} {ρ ρ9 : ya} {D : Ends} {fk fc : FE} {hf : HF} {wish : Ends → WX} {i : Nat} {p : Addr} {ps : wm} {L : List (List Int × Addr × V)} (hok : HOk X.K Cl W hf wish) (I : SI X.K Cl U Z H σ ρ) (ad : jq ρ) (ei : ρ[i]? = some (Slot.wc p (Cell.dic ps))) (e : tryD i fk fc hf ρ = some ρ9)
    (hp : H p = some (kg p L)) (hL : qm X.K (hide H (Zo Z σ ρ)) L ps) (hct : ∀ σ2 H2, Same Cl H H2 → SI X.K Cl U Z H2 σ2 ρ → ρ9 = ρ → D.ct σ2 H2)
    (hnx : ∀ (H2 : Hp) (q t : Addr) (k : List Int) (ds : List DL.D) (zs : List V), Same Cl H H2 → H q = none → H2 q = some (.lst zs) → xw L k = none → ρ9 = ρ.set i (.wc p (.dic (vak ps k (.list ds)))) → SI X.K Cl U Z (upd H2 p (kg p (putL L k t (.ref q)))) σ ρ9 → qm X.K (hide (upd H2 p (kg p (putL L k t (.ref q)))) (Zo Z σ ρ)) (putL L k t (.ref q)) (vak ps k (.list ds)) → D.nx σ (upd H2 p (kg p (putL L k t (.ref q))))) :
    kaI X (tVar i) (kr X.K Cl (wish D) fk) (kr X.K Cl (wish D) fc) D σ H := by
  unfold tryD at e
  rw [ei] at e
  dsimp only at e
  have zp : Zo Z σ ρ p := .inr ⟨i, .inr (.inr ⟨_, ei⟩)⟩
  split at e
  · rename_i ds efc
    split at e
    · rename_i kv ekv
      split at e
      · rename_i k ek
        split at e
        · rename_i hc1
          cases e
          refine jt I.di efc (fun er z => nomatch z) fun v x H1 ev s1 hv I1 => ?_
          cases ev
          obtain ⟨q, zs, rfl, nq, hq, hqd⟩ := id hv
          obtain ⟨e0, _⟩ := I1.slots i _ ei
          refine ⟨_, e0, ?_⟩
          refine jt I1 ekv (fun er z => nomatch z) fun kv' y H2 ev' s2 hkv I2 => ?_
          cases ev'
          obtain ⟨kd, ek1, ek⟩ := Option.bind_eq_some_iff.mp ek
          obtain ⟨t, rfl, ht⟩ := Dp.yj (hkv.stab I1 ek1) ek
          have s12 := s1.trans s2
          have hm : yb (hide H (Zo Z σ ρ)) (hide H2 (Zo Z σ ρ)) := kf s12 fun b hb => .inl hb
          have hdv : Dp X.K (hide H2 (Zo Z σ ρ)) (.ref q) (.list ds) := Dp.same (kf s2 fun _ h => .inl h) (hv.stab I.di rfl)
          have hL2 := hL.same hm
          have ll := hL2.len
          have lk := js hc1.1
          have nk : xw L k = none := by
            rcases hL2.val k with ⟨e1, e2⟩ | ⟨v', d', e1, e2, _⟩
            · exact e1
            · rw [e2] at hc1
              exact absurd hc1.2 (by simp)
          refine ⟨t, k, p, L, rfl, SqT.same qd ht, rfl, s12.at hp, fun x hx => SqT.same qd (hL2.keys x hx), by omega, ?_⟩
          have hP := hL2.put ht hdv
          exact hnx H2 q t k ds zs s12 nq (s2.at hq) nk rfl ((I.jk s12).zaN ei ⟨_, rfl, hP⟩) (hP.same (vad zp))
        · cases e
      · cases e
    · cases e
  · rename_i er efc
    split at e
    · rename_i hc1
      cases e
      refine jt I.di efc (fun er' z => ?_) fun v x H1 ev => nomatch ev
      cases z
      intro dd H' s hd
      have I' := I.jk s
      exact hok D H' (Zo Z σ ρ) (.ct (yN ρ)) er.1 er.2 (yN ρ) σ H' dd hc1 ⟨I'.di.pinned ad, Same.refl _, fun b ⟨j, o⟩ => absurd o (yaw ad j b)⟩ hd fun σ2 H2 J => hct σ2 H2 (s.trans J.same) (I'.ybZ ad J.same J.di) rfl
    · cases e
  · cases e
section
variable {X : Cx} {Cl : Nat → Addr} {W : WX} {tg iter e1 e2 e3 c3 c4 ke ec : Expr} {it : FI} {g : FG} {f1 f2 f3 fk fc : FE} {t3 t4 : FT} {hf : HF}
theorem jcj {i a1 a2 : Nat} {y z1 z2 : Str} {p1 p2 p3 p4 p5 p6 p7 p8 p9 p10 p11 p12 p13 p14 p15 p16 p17 pos0 : Pos} {hd0 : ExceptHandler} {hds : List ExceptHandler} (hc : X.calm = true) (hN : X.N.Nodup) (hpo : PassesOwn (model X.prog X.w) X.A X.env X.xe) (hu : X.A.units + 1 < cLine) (hstk : X.stack = X.env :: X.outer) (hfr : X.env.frame = some X.env.locals)
    (hit : DIt X Cl W tg iter it) (hg : DG X Cl tg g) (h1 : DE X Cl W e1 f1) (h2 : DE X Cl W e2 f2) (ht3 : DT X Cl W c3 t3) (h3 : DE X Cl W e3 f3) (ht4 : DT X Cl W c4 t4)
    (hke : ∀ (W' : WX) (pn : List (Addr × Obj)) (xe : Value → Shared → Prop), Takes (X.tr pn xe) W' → DE (X.tr pn xe) Cl W' ke fk) (hec : ∀ (W' : WX) (pn : List (Addr × Obj)) (xe : Value → Shared → Prop), Takes (X.tr pn xe) W' → DE (X.tr pn xe) Cl W' ec fc) (hvt : ∀ (pn : List (Addr × Obj)) (xe : Value → Shared → Prop), PE (X.tr pn xe) (.Name y p5) (tVar i))
    (hh : DHs X Cl W (hd0 :: hds) hf) (hv : ∀ p, PE X (.Name y p) (tVar i))
    (hi : X.N[i]? = some y := by rfl) (hx : Loc X.env.scope y := by first | exact .inl rfl | exact .inr rfl) (hff : X.fn y = true ∨ X.env.scope.names.lookup y = some .local := by first | exact .inl rfl | exact .inr rfl)
    (hi1 : X.N[a1]? = some z1 := by rfl) (hx1 : Loc X.env.scope z1 := by first | exact .inl rfl | exact .inr rfl) (hf1 : X.fn z1 = true ∨ X.env.scope.names.lookup z1 = some .local := by first | exact .inl rfl | exact .inr rfl)
    (hi2 : X.N[a2]? = some z2 := by rfl) (hx2 : Loc X.env.scope z2 := by first | exact .inl rfl | exact .inr rfl) (hf2 : X.fn z2 = true ∨ X.env.scope.names.lookup z2 = some .local := by first | exact .inl rfl | exact .inr rfl)
    (hs : swapsWith (.Dict [] [] pos0) (some (.Name y p1)) p2.line X.env = pure false := by rfl) (hs1 : swapsWith e1 (some (.Name z1 p9)) p10.line X.env = pure false := by rfl) (hs2 : swapsWith e2 (some (.Name z2 p11)) p12.line X.env = pure false := by rfl) (hs3 : swapsWith e3 (some (.Name z2 p13)) p14.line X.env = pure false := by rfl)
    (hs4 : ∀ (pn : List (Addr × Obj)) (xe : Value → Shared → Prop), swapsWith ec (some (.Subscript (.Name y p5) ke p6)) p7.line (X.tr pn xe).env = pure false := by intro _ _; rfl) (hsi : ∀ x, foldedSetIterable iter X.env x = pure x := by intro _; rfl) :
    PSs X [.Assign [.Name y p1] (.Dict [] [] pos0) p2, .For tg iter [.Assign [.Name z1 p9] e1 p10, .Assign [.Name z2 p11] e2 p12, .If c3 [.Assign [.Name z2 p13] e3 p14] [] p15, .If c4 [.Try [.Assign [.Subscript (.Name y p5) ke p6] ec p7] (hd0 :: hds) [] [] p8] [] p16] [] p4, .Return (some (.Name y p3)) p17]
      (fun D σ H => qb1 X.K Cl (v8 i it g (vaF i a1 a2 f1 f2 f3 fk fc t3 t4 hf)) σ H D.rt) := by
  obtain ⟨wish, hcl, hok⟩ := hh
  refine PSs.imp (pss_cons (ps_set hN hi hx zaF hs hff) (pss_cons (ps_for hpo hc hit hg (pss_cons (ps_set hN hi1 hx1 h1 hs1 hf1) (pss_cons (ps_set hN hi2 hx2 h2 hs2 hf2) (pss_cons (ps_if ht3 (pss_cons (ps_set hN hi2 hx2 h3 hs3 hf2) pss_nil) pss_nil)
    (pss_cons (ps_if ht4 (pss_cons (zbG (tb := fun W' => kaI X (tVar i) (kr X.K Cl W' fk) (kr X.K Cl W' fc)) hstk hfr (fun W' pn xe tk hpo' => pss_one (xa2 (X := X.tr pn xe) hu (hvt pn xe) (hke W' pn xe tk) (hec W' pn xe tk) (hs4 pn xe))) hcl) pss_nil) pss_nil) pss_nil)))) hsi) (pss_cons (ps_ret (hv p3)) pss_nil))) fun D σ H ⟨U, Z, Zc, ρ, qs, I, hz, e, q⟩ => ?_
  unfold v8 at e
  split at e
  · rename_i hcond
    obtain ⟨hno, had, hil⟩ := hcond
    split at e
    · rename_i hex
      cases e
      intro p np
      obtain ⟨ds, ρF, eit, eL, eF⟩ := hex.choose_spec p
      have hcel : qu X.K Cl (hide (upd H p (kg p [])) (ZP (Zo Z σ ρ) p)) p (kg p []) (.dic []) := ⟨[], rfl, .nil⟩
      have I2 := I.waQ (i := i) (kaK np) np upd_same hcel
      have live0 : ∀ b, H b ≠ none → upd H p (kg p []) b ≠ none := fun b h z => by
        by_cases eb : b = p
        · rw [eb] at h; exact h np
        · rw [upd_ne eb] at z; exact h z
      have hp0 : upd H p (kg p []) p = some (kg p []) := upd_same
      let σ2 : St := σ.set i (some (.ref p))
      generalize hρ2 : ρ.set i (.wc p (.dic [])) = ρ2 at I2 eit eL
      generalize hHc : upd H p (kg p []) = Hc at I2 live0 hp0 ⊢
      have hi2 : ρ2[i]? = some (Slot.wc p (Cell.dic [])) := by rw [← hρ2, List.getElem?_set, if_pos rfl, if_pos hil]
      have had2 : jq ρ2 := fun j s es o => by
        rw [← hρ2] at es
        by_cases zj : i = j
        · subst zj
          rw [List.getElem?_set, if_pos rfl, if_pos hil] at es
          cases es
          exact ⟨_, _, rfl⟩
        · rw [List.getElem?_set_ne zj] at es
          exact had j s es o
      have jaz : ∀ b, Zo Z σ ρ b → Zo Z σ2 ρ2 b := fun b zb => by
        rcases zb with zb | zb
        · exact .inl zb
        · obtain ⟨j, ps, ej⟩ := had.owned.mp zb
          refine .inr (had2.owned.mpr ⟨j, ps, ?_⟩)
          have : i ≠ j := fun zj => ka2 hno (Slot.wc b (Cell.dic ps)) (by rw [zj]; exact ej) trivial
          rw [← hρ2, List.getElem?_set_ne this]
          exact ej
      refine ⟨Z, ρ2, .ok ds, I2.di, eit, ?_⟩
      intro J H2 s2 hJ
      have I3 := I2.jk s2
      obtain ⟨b0, I4⟩ := I3.based
      have hp2 := s2.at hp0
      have live2 : ∀ b, H b ≠ none → H2 b ≠ none := fun b h => s2.live b (live0 b h)
      let Zf : Addr → Prop := Zo Z σ2 ρ2
      let INV : ya → St → Hp → Prop := fun ρ' σ' H' => ∃ (L : List (List Int × Addr × V)) (ps : wm), SI X.K Cl (wi H2 σ2 ρ2) Z H' σ' ρ' ∧ jq ρ' ∧ (∀ b, vI ρ' b ↔ vI ρ2 b) ∧ ρ'[i]? = some (Slot.wc p (Cell.dic ps)) ∧ H' p = some (kg p L) ∧ qm X.K (hide H' Zf) L ps ∧ zL H H' p L ∧ (∀ b, H b ≠ none → H' b ≠ none)
      have zf : ∀ {σ' : St} {ρ' : ya}, jq ρ' → (∀ b, vI ρ' b ↔ vI ρ2 b) → ∀ b, Zo Z σ' ρ' b ↔ Zf b := fun {σ' ρ'} h1 h2 b => ⟨fun z => z.imp id fun z => had2.owned.mpr ((h2 b).mp (h1.owned.mp z)), fun z => z.imp id fun z => h1.owned.mpr ((h2 b).mpr (had2.owned.mp z))⟩
      refine ⟨fun t m σ' H' => ∃ ρ', INV ρ' σ' H' ∧ j8 i g (vaF i a1 a2 f1 f2 f3 fk fc t3 t4 hf) (ds.drop t) ρ' = some ρF ∧ m = ds.length - t ∧ t ≤ ds.length, ⟨_, ρ2, ⟨[], [], I4, had2, fun b => Iff.rfl, hi2, hp2, .nil, .nil, live2⟩, eL, rfl, Nat.zero_le _⟩, fun t m σ' H' => ?_⟩
      rintro ⟨ρ', ⟨L, ps, I', ad', od', ei', hp', hL', hN', lv'⟩, e', rfl, htl⟩
      obtain ⟨go, stop, yld⟩ := hJ (Zo Z σ' ρ') H' I'.kept (fun b z => I'.di.yy z)
      by_cases hlt : t < ds.length
      · refine .inr ⟨go t hlt, fun σ3 H3 => ∃ ρ3, INV ρ3 σ3 H3 ∧ j8 i g (vaF i a1 a2 f1 f2 f3 fk fc t3 t4 hf) (ds.drop (t + 1)) ρ3 = some ρF, fun σ3 H3 ⟨ρ3, b1, b2⟩ => ⟨ds.length - (t + 1), by omega, ρ3, b1, b2, rfl, hlt⟩, fun x0 H'' y0 => ?_⟩
        have hd : ds[t]? = some ds[t] := List.getElem?_eq_getElem hlt
        obtain ⟨s3', hx0⟩ := yld t x0 H'' _ y0 hd
        have s3 := s3' Cl
        rw [List.drop_eq_getElem_cons hlt] at e'
        unfold j8 at e'
        obtain ⟨ρ1, eg, e'⟩ := Option.bind_eq_some_iff.mp e'
        split at e'
        · rename_i hc1
          obtain ⟨ad1, ei1, od1⟩ := hc1
          obtain ⟨ρ9, eB, e9⟩ := Option.bind_eq_some_iff.mp e'
          refine ⟨_, Z, ρ', ds[t], ρ1, I'.jk s3, hx0, eg, fun σ1 I1 => ?_⟩
          unfold vaF at eB
          obtain ⟨ρa, eA, eB⟩ := Option.bind_eq_some_iff.mp eB
          obtain ⟨ρb, eb, eB⟩ := Option.bind_eq_some_iff.mp eB
          obtain ⟨ρc, ec3, eB⟩ := Option.bind_eq_some_iff.mp eB
          obtain ⟨adA, odA, kA⟩ := vaz eA ad1
          obtain ⟨adB, odB, kB⟩ := vaz eb adA
          have ei1' : ρ1[i]? = some (Slot.wc p (Cell.dic ps)) := ei1.trans ei'
          -- the state behind the names
          have fC : jq ρc ∧ (∀ b, vI ρc b ↔ vI ρ2 b) ∧ ρc[i]? = some (Slot.wc p (Cell.dic ps)) := by
            have b3 : jq ρb ∧ (∀ b, vI ρb b ↔ vI ρ2 b) ∧ ρb[i]? = some (Slot.wc p (Cell.dic ps)) := ⟨adB, fun b => (odB b).trans ((odA b).trans ((od1 b).trans (od' b))), kB _ _ _ (kA _ _ _ ei1')⟩
            split at ec3
            · obtain ⟨x1, x2, x3⟩ := vaz ec3 b3.1
              exact ⟨x1, fun b => (x2 b).trans (b3.2.1 b), x3 _ _ _ b3.2.2⟩
            · cases ec3
              exact b3
            · cases ec3
          obtain ⟨adC, odC, eiC⟩ := fC
          -- what is kept while H' grows
          have keep : ∀ {H5 : Hp}, Same Cl H' H5 → H5 p = some (kg p L) ∧ qm X.K (hide H5 Zf) L ps ∧ zL H H5 p L ∧ (∀ b, H b ≠ none → H5 b ≠ none) := fun {H5} s => ⟨s.at hp', hL'.same (kf s fun b hb => .inl hb), hN'.same s, fun b h => s.live b (lv' b h)⟩
          refine yar I1 eA fun σa Ha sa Ia => yar Ia eb fun σb Hb sb Ib => ?_
          have zc : ∀ σ6 b, Zo Z σ6 ρc b ↔ Zf b := fun σ6 => zf adC odC
          have sOwn : ∀ {σ6 : St} {H6 : Hp}, SI X.K Cl (wi H2 σ2 ρ2) Z H6 σ6 ρc → Same Cl H' H6 → INV ρc σ6 H6 := fun {σ6 H6} J s => by
            obtain ⟨k1, k2, k3, k4⟩ := keep s
            exact ⟨L, ps, J, adC, odC, eiC, k1, k2, k3, k4⟩
          have last : ∀ {D' : Ends} (σ6 : St) (H6 : Hp), Same Cl H' H6 → SI X.K Cl (wi H2 σ2 ρ2) Z H6 σ6 ρc → (∀ σ7 H7, INV ρ9 σ7 H7 → D'.nx σ7 H7 ∧ D'.ct σ7 H7) →
              tSeq (tIfS (kas X.K Cl W t4) (tSeq (fun D σ H => kaI X (tVar i) (kr X.K Cl (wish D) fk) (kr X.K Cl (wish D) fc) D σ H) tNext) tNext) tNext D' σ6 H6 := fun {D'} σ6 H6 s6 I6 q9 => by
            split at eB
            · rename_i e4
              refine qz I6.di e4 (fun _ z => nomatch z) fun bb H7 eb7 s7 _ => ?_
              cases eb7
              have s67 := s6.trans s7
              have I7 := I6.jk s7
              obtain ⟨k1, k2, k3, k4⟩ := keep s67
              have k2' : qm X.K (hide H7 (Zo Z σ6 ρc)) L ps := k2.same (jc (yb.refl _) fun b hb => .inl ((zc σ6 b).mp hb))
              refine ybS hok I7 adC eiC eB k1 k2' (fun σ8 H8 s8 I8 e8 => ?_) fun H8 q t8 k ds8 zs s8 nq hq nk e8 I8 hL8 => ?_
              · rw [e8] at q9
                exact (q9 _ _ (sOwn I8 (s67.trans s8))).2
              · refine (q9 _ _ ⟨_, _, I8, ?_, ?_, ?_, upd_same, hL8.same (jc (yb.refl _) fun b hb => .inl ((zc σ6 b).mpr hb)), ?_, ?_⟩).1
                · rw [e8]; exact (yak eiC adC).1
                · intro b; rw [e8]; exact ((yak eiC adC).2.1 b).trans (odC b)
                · rw [e8]; exact (yak eiC adC).2.2
                · have h0 : H q = none := Classical.byContradiction fun z => k4 q z nq
                  exact (k3.put s8 nk nq h0 (fun z => by rw [z, k1] at nq; cases nq) hq).upd
                · intro b hb
                  by_cases z : b = p
                  · rw [z, upd_same]; exact fun z => nomatch z
                  · rw [upd_ne z]; exact s8.live b (k4 b hb)
            · cases eB
              rename_i e4
              refine qz I6.di e4 (fun _ z => nomatch z) fun bb H7 eb7 s7 _ => ?_
              cases eb7
              exact (q9 _ _ (sOwn (I6.jk s7) (s6.trans s7))).1
            · cases eB
          have fin : ∀ (σ7 : St) (H7 : Hp), INV ρ9 σ7 H7 → ∃ ρ3, INV ρ3 σ7 H7 ∧ j8 i g (vaF i a1 a2 f1 f2 f3 fk fc t3 t4 hf) (List.drop (t + 1) ds) ρ3 = some ρF := fun σ7 H7 h => ⟨ρ9, h, e9⟩
          have sB := s3.trans (sa.trans sb)
          split at ec3
          · rename_i e3'
            refine qz Ib.di e3' (fun _ z => nomatch z) fun bb H7 eb7 s7 _ => ?_
            cases eb7
            refine yar (Ib.jk s7) ec3 fun σc Hc' sc Ic => ?_
            exact last σc Hc' (sB.trans (s7.trans sc)) Ic fun σ7 H7 h => ⟨fin _ _ h, fin _ _ h⟩
          · cases ec3
            rename_i e3'
            refine qz Ib.di e3' (fun _ z => nomatch z) fun bb H7 eb7 s7 _ => ?_
            cases eb7
            exact last σb H7 (sB.trans s7) (Ib.jk s7) fun σ7 H7 h => ⟨fin _ _ h, fin _ _ h⟩
          · cases ec3
        · cases e'
      · have het : t = ds.length := by omega
        subst het
        rw [List.drop_length] at e'
        unfold j8 at e'
        cases e'
        refine .inl ⟨stop _ (Nat.le_refl _), ?_⟩
        refine ⟨.ref p, (I'.di.slots i _ ei').1, ?_⟩
        have eqs : ps = hex.choose := by
          rw [ei'] at eF
          cases eF
          rfl
        rw [← eqs] at q
        refine q p L H' (b0.trans I'.same) np hp' (hL'.same (jc (yb.refl _) fun b hb => .inl ?_)) hN'
        rcases hb with hb | rfl
        · exact jaz b (hz b hb)
        · exact .inr (had2.owned.mpr ⟨i, _, hi2⟩)
    · cases e
  · cases e
end
section
variable {K : PySem.W.Frag} {Cl : Nat → Addr}
theorem wbJ {P : Program} {w : World} {mg : Str → Option Value} {base : Heap} {x qual : Str} {st : Stmt} {fa : Addr} {fd : FuncData} {N ps : List Str} {k m : Nat} {fb : ya → Option wm} (F : Fun K x qual st fa fd) (S : FnScope N ps (defScope st)) (hn : ps.length = 1) (hm : N.length = m) (hm1 : 1 ≤ m)
    (h : ∀ (cdv : Value) (A : Around) (outer : List Env) (s : Shared) (H : Hp) (E : XK), Room k (A.deeper (envOfC qual (defScope st) s.heap.objs.size fa cdv)) →
      PSs (cxOf (L2.CX P w) P w K mg base N qual (defScope st) fa cdv A outer s H E) (defBody st) (fun D σ H => qb1 K Cl fb σ H D.rt)) : FnOk P w K mg base (L2.CX P w) (k + 1) fa fd ps (wbA K Cl (waN m fb)) := by
  refine F.okX S (fun vs H Q E ⟨Z, c, L, ps, qs, e, _⟩ => by rw [e, hn]; rfl) (fun cdv A outer s H vs Q E hr hsp => ⟨_, h cdv A outer s H E hr, ?_⟩)
  obtain ⟨Z, c, L, ps, qs, rfl, live, zc, hc, hL, e, q⟩ := hsp
  have vw : L2.start N [V.ref c] = some (.ref c) :: List.replicate (m - 1) none := by
    unfold L2.start
    rw [hm]
    rfl
  rw [vw]
  have ow : ∀ j b, zg (some (V.ref c) :: List.replicate (m - 1) none) (.wc c (.dic ps) :: List.replicate (m - 1) .un) j b → j = 0 ∧ b = c := fun j b ho => by
    cases j with
    | zero =>
      rcases ho with ⟨_, ds, h2⟩ | ⟨k, ds, h2⟩ | ⟨c', h2⟩
      · cases h2
      · cases h2
      · cases h2
        exact ⟨rfl, rfl⟩
    | succ j =>
      unfold zg at ho
      simp only [List.getElem?_cons_succ, List.getElem?_replicate] at ho
      rcases ho with ⟨_, ds, h2⟩ | ⟨k, ds, h2⟩ | ⟨c', h2⟩ <;> (split at h2 <;> cases h2)
  have o0 : zg (some (V.ref c) :: List.replicate (m - 1) none) (.wc c (.dic ps) :: List.replicate (m - 1) .un) 0 c := .inr (.inr ⟨_, rfl⟩)
  have zo : ∀ b, Zo (fun b => Z b ∧ b ≠ c) (some (V.ref c) :: List.replicate (m - 1) none) (.wc c (.dic ps) :: List.replicate (m - 1) .un) b ↔ Z b := fun b => by
    constructor
    · rintro (z | ⟨j, z⟩)
      · exact z.1
      · rw [(ow j b z).2]; exact zc
    · intro z
      by_cases eb : b = c
      · rw [eb]; exact .inr ⟨0, o0⟩
      · exact .inl ⟨z, eb⟩
  refine ⟨hide H fun b => b = c, fun b => Z b ∧ b ≠ c, Z, .wc c (.dic ps) :: List.replicate (m - 1) .un, qs, ⟨⟨by simp, fun i j a h1 h2 => by rw [(ow i a h1).1, (ow j a h2).1], fun a ⟨j, z⟩ y => y.2 (ow j a z).2, fun a z => live.lv a z.1, fun i s es => ?_, live.tb⟩, Same.qcs hc, fun b ⟨j, z⟩ => ?_⟩, fun b z => (zo b).mpr z, qbJ e c, q⟩
  · cases i with
    | zero =>
      cases es
      exact ⟨rfl, _, hc, L, rfl, hL.same (jc (yb.refl _) fun b hb => .inl ((zo b).mp hb))⟩
    | succ i =>
      rw [List.getElem?_cons_succ, List.getElem?_replicate] at es
      split at es
      · cases es
        trivial
      · cases es
  · rw [(ow j b z).2]
    unfold hide
    rw [if_pos rfl]
end
structure yaz (K : PySem.W.Frag) (k : Nat) (H H' Hh : Hp) (p q c : Addr) (x : V) (d : D) : Prop where
  go : ∃ (T0 T : Addr) (ys : List V) (ds : List D) (zs : List V) (ws : List D) (us : List V) (cs : List D), x = V.ref T0 ∧ d = .tuple [.tuple ds, .list cs] ∧ SqT K Hh T0 [.ref T, .ref c] ∧ SqT K Hh T ys ∧ DpAll K Hh ys ds ∧ ys[k]? = some (V.ref q) ∧ ds[k]? = some (.list ws) ∧ H' q = some (.lst zs) ∧ DpAll K Hh zs ws ∧ H' c = some (.lst us) ∧ DpAll K Hh us cs
  neq : q ≠ p
  nec : c ≠ p
  xc0 : H q = none
  zD : H c = none
def jbd (K : PySem.W.Frag) (k : Nat) (H H' Hh : Hp) (p : Addr) (xs : List V) (es : List D) : Prop := ∃ qs cs : List Addr, qs.length = xs.length ∧ cs.length = xs.length ∧ (qs ++ cs).Nodup ∧ ∀ (i : Nat) x d q c, xs[i]? = some x → es[i]? = some d → qs[i]? = some q → cs[i]? = some c → yaz K k H H' Hh p q c x d
def spP (K : PySem.W.Frag) (Cl : Nat → Addr) (k n : Nat) (F : TF) : Sp := fun vs H Q E => ∃ Z ds es, waz Cl Z H ∧ DpAll K (hide H Z) vs ds ∧ ds.length = n ∧ F ds = some es ∧
  ∀ p xs H', Same Cl H H' → H p = none → H' p = some (.lst xs) → DpAll K (hide H' (ZP Z p)) xs es → jbd K k H H' (hide H' (ZP Z p)) p xs es → Q (.ref p) H'
theorem ycj {K : PySem.W.Frag} {Cl : Nat → Addr} {k n : Nat} {F : TF} {vs : List V} {H : Hp} {Q : VK} {E : XK} (h : xH K Cl n (tfD F) vs H Q E) : spP K Cl k n F vs H Q E := by
  obtain ⟨Z, ds, o, h1, h2, h3, h4, h5⟩ := h
  unfold tfD at h4
  cases e : F ds with
  | none => rw [e] at h4; cases h4
  | some es =>
    rw [e] at h4
    cases h4
    exact ⟨Z, ds, es, h1, h2, h3, e, fun p xs H' a b c d _ => h5 p xs H' a b c d⟩
def teP (K : PySem.W.Frag) (Cl : Nat → Addr) (k : Nat) (f : ya → Option (List D)) : TE := fun σ H Q => ∃ Z ρ es, SI K Cl H Z H σ ρ ∧ f ρ = some es ∧
  ∀ p xs H', Same Cl H H' → H p = none → H' p = some (.lst xs) → DpAll K (hide H' (ZP Z p)) xs es → jbd K k H H' (hide H' (ZP Z p)) p xs es → Q (.ref p) H'
section
variable {K : PySem.W.Frag} {Cl : Nat → Addr}
theorem xca {P : Program} {w : World} {mg : Str → Option Value} {base : Heap} {x qual : Str} {st : Stmt} {fa : Addr} {fd : FuncData} {N ps : List Str} {k n m kx : Nat} {fb : ya → Option (List D)} (F : Fun K x qual st fa fd) (S : FnScope N ps (defScope st)) (hn : ps.length = n) (hm : N.length = m)
    (h : ∀ (cdv : Value) (A : Around) (outer : List Env) (s : Shared) (H : Hp) (E : XK), Room k (A.deeper (envOfC qual (defScope st) s.heap.objs.size fa cdv)) →
      PSs (cxOf (L2.CX P w) P w K mg base N qual (defScope st) fa cdv A outer s H E) (defBody st) (fun D σ H => teP K Cl kx fb σ H D.rt)) : FnOk P w K mg base (L2.CX P w) (k + 1) fa fd ps (spP K Cl kx n (mkT n m fb)) := by
  refine F.okX S (fun vs H Q E ⟨Z, ds, o, _, h1, h2, _⟩ => by rw [h1.length, h2, hn]) (fun cdv A outer s H vs Q E hr hsp => ⟨_, h cdv A outer s H E hr, ?_⟩)
  obtain ⟨Z, ds, es, live, h1, h2, e, q⟩ := hsp
  unfold mkT at e
  have vw : L2.start N vs = vs.map some ++ List.replicate (m - n) none := by
    unfold L2.start
    rw [hm, h1.length, h2]
  rw [vw]
  exact ⟨Z, _, es, SI.start (m := m - n) live h1, e, q⟩
theorem yaz.to {k : Nat} {H0 H1 H2 Hh1 Hh2 : Hp} {p q c : Addr} {x : V} {d : DL.D} (t : yaz K k H0 H1 Hh1 p q c x d) (m : yb Hh1 Hh2) (h : ∀ a zs, a = q ∨ a = c → H1 a = some (.lst zs) → H2 a = some (.lst zs)) : yaz K k H0 H2 Hh2 p q c x d := by
  obtain ⟨⟨T0, T, ys, ds, zs, ws, us, cs, e1, e2, h1, h2, h3, h4, h5, h6, h7, h8, h9⟩, n1, n2, n3, n4⟩ := t
  exact ⟨⟨T0, T, ys, ds, zs, ws, us, cs, e1, e2, SqT.same m h1, SqT.same m h2, DpAll.same m h3, h4, h5, h _ _ (.inl rfl) h6, DpAll.same m h7, h _ _ (.inr rfl) h8, DpAll.same m h9⟩, n1, n2, n3, n4⟩
def jat (K : PySem.W.Frag) (k : Nat) (H H' Hh : Hp) (R : Addr) (xs : List V) (acc : List D) (qs cs : List Addr) : Prop := qs.length = xs.length ∧ cs.length = xs.length ∧ qs.Nodup ∧ cs.Nodup ∧ (∀ q ∈ qs, q ∉ cs) ∧ (∀ q ∈ qs, H' q ≠ none) ∧ ∀ (j : Nat) x d q c, xs[j]? = some x → acc[j]? = some d → qs[j]? = some q → cs[j]? = some c → yaz K k H H' Hh R q c x d
theorem jat.nil {k : Nat} {H H' Hh : Hp} {R : Addr} : jat K k H H' Hh R [] [] [] [] := ⟨rfl, rfl, .nil, .nil, fun _ h => (nomatch h), fun _ h => (nomatch h), fun j x d q c h => by simp at h⟩
theorem jat.same {k : Nat} {H H1 H2 Hh1 Hh2 : Hp} {R : Addr} {xs : List V} {acc : List D} {qs cs : List Addr} (h : jat K k H H1 Hh1 R xs acc qs cs) (s : Same Cl H1 H2) (m : yb Hh1 Hh2) : jat K k H H2 Hh2 R xs acc qs cs := by
  obtain ⟨h1, h2, h3, h4, h5, h6, h7⟩ := h
  exact ⟨h1, h2, h3, h4, h5, fun q hq => s.live q (h6 q hq), fun j x d q c a b e f => (h7 j x d q c a b e f).to m fun a zs _ z => s.at z⟩
theorem jat.snoc {k : Nat} {H H1 H2 Hh : Hp} {R : Addr} {xs : List V} {acc : List D} {qs cs : List Addr} {x : V} {d : DL.D} {q c : Addr} (h : jat K k H H1 Hh R xs acc qs cs) (lx : acc.length = xs.length) (m : ∀ a zs, H1 a = some (.lst zs) → a ≠ R → H2 a = some (.lst zs)) (lv : ∀ a, H1 a ≠ none → H2 a ≠ none) (nq : q ∉ qs) (nq2 : q ∉ cs) (nc : c ∉ cs) (ncq : c ∉ qs) (nqc : q ≠ c) (hq : H2 q ≠ none) (hn : yaz K k H H2 Hh R q c x d) : jat K k H H2 Hh R (xs ++ [x]) (acc ++ [d]) (qs ++ [q]) (cs ++ [c]) := by
  obtain ⟨h1, h2, h3, h4, h5, h6, h7⟩ := h
  refine ⟨by rw [List.length_append, List.length_append, h1]; rfl, by rw [List.length_append, List.length_append, h2]; rfl, ?_, ?_, fun a ha hb => ?_, fun a ha => ?_, fun j x' d' q' c' a b e f => ?_⟩
  · rw [List.nodup_append]
    exact ⟨h3, List.pairwise_singleton _ _, fun a ha b hb z => nq (by rw [List.mem_singleton] at hb; rw [← hb, ← z]; exact ha)⟩
  · rw [List.nodup_append]
    exact ⟨h4, List.pairwise_singleton _ _, fun a ha b hb z => nc (by rw [List.mem_singleton] at hb; rw [← hb, ← z]; exact ha)⟩
  · rcases List.mem_append.mp ha with ha | ha <;> rcases List.mem_append.mp hb with hb | hb
    · exact h5 a ha hb
    · rw [List.mem_singleton] at hb; subst hb; exact ncq ha
    · rw [List.mem_singleton] at ha; subst ha; exact nq2 hb
    · rw [List.mem_singleton] at ha hb
      subst ha; subst hb
      obtain ⟨⟨T0, T, ys, ds, zs, ws, us, cs', e1, e2, g1, g2, g3, g4, g5, g6, g7, g8, g9⟩, _⟩ := hn
      exact nqc rfl
  · rcases List.mem_append.mp ha with ha | ha
    · exact lv a (h6 a ha)
    · rw [List.mem_singleton] at ha; subst ha; exact hq
  · by_cases hj : j < xs.length
    · rw [List.getElem?_append_left hj] at a
      rw [List.getElem?_append_left (by omega)] at b e f
      have t := h7 j x' d' q' c' a b e f
      exact t.to (yb.refl _) fun a zs ha z => m a zs z (by rcases ha with rfl | rfl; exact t.neq; exact t.nec)
    · have : j = xs.length := by
        have := (List.getElem?_eq_some_iff.mp a).1
        rw [List.length_append, List.length_singleton] at this
        omega
      subst this
      rw [List.getElem?_append_right (by omega)] at a b e f
      simp only [Nat.sub_self, lx, h1, h2, List.getElem?_cons_zero, Option.some.injEq] at a b e f
      subst a; subst b; subst e; subst f
      exact hn
end
def wbd (K : PySem.W.Frag) (k : Nat) (H H' Hh : Hp) (v : V) (d : D) : Prop := ∃ (T : Addr) (ys : List V) (ds : List D) (q : Addr) (zs : List V) (ws : List D), v = V.ref T ∧ d = .tuple ds ∧ SqT K Hh T ys ∧ DpAll K Hh ys ds ∧ ys[k]? = some (V.ref q) ∧ ds[k]? = some (.list ws) ∧ H q = none ∧ H' q = some (.lst zs) ∧ DpAll K Hh zs ws
def spM (K : PySem.W.Frag) (Cl : Nat → Addr) (k n : Nat) (F : TY) : Sp := fun vs H Q E => ∃ Z ds d, waz Cl Z H ∧ DpAll K (hide H Z) vs ds ∧ ds.length = n ∧ F ds = some d ∧
  ∀ v H', Same Cl H H' → Dp K (hide H' Z) v d → wbd K k H H' (hide H' Z) v d → Q v H'
def teM (K : PySem.W.Frag) (Cl : Nat → Addr) (k : Nat) (f : ya → Option D) : TE := fun σ H Q => ∃ Z ρ d, SI K Cl H Z H σ ρ ∧ f ρ = some d ∧
  ∀ v H', Same Cl H H' → Dp K (hide H' Z) v d → wbd K k H H' (hide H' Z) v d → Q v H'
section
variable {K : PySem.W.Frag} {Cl : Nat → Addr}
theorem wbd.to {k : Nat} {H0 H1 H2 Hh1 Hh2 : Hp} {v : V} {d : D} (t : wbd K k H0 H1 Hh1 v d) (m : yb Hh1 Hh2) (s : Same Cl H1 H2) : wbd K k H0 H2 Hh2 v d := by
  obtain ⟨T, ys, ds, q, zs, ws, e1, e2, h1, h2, h3, h4, h5, h6, h7⟩ := t
  exact ⟨T, ys, ds, q, zs, ws, e1, e2, SqT.same m h1, DpAll.same m h2, h3, h4, h5, s.at h6, DpAll.same m h7⟩
theorem xbS {P : Program} {w : World} {mg : Str → Option Value} {base : Heap} {x qual : Str} {st : Stmt} {fa : Addr} {fd : FuncData} {N ps : List Str} {k n m kx : Nat} {fb : ya → Option D} (F : Fun K x qual st fa fd) (S : FnScope N ps (defScope st)) (hn : ps.length = n) (hm : N.length = m)
    (h : ∀ (cdv : Value) (A : Around) (outer : List Env) (s : Shared) (H : Hp) (E : XK), Room k (A.deeper (envOfC qual (defScope st) s.heap.objs.size fa cdv)) →
      PSs (cxOf (L2.CX P w) P w K mg base N qual (defScope st) fa cdv A outer s H E) (defBody st) (fun D σ H => teM K Cl kx fb σ H D.rt)) : FnOk P w K mg base (L2.CX P w) (k + 1) fa fd ps (spM K Cl kx n (mkY n m fb)) := by
  refine F.okX S (fun vs H Q E ⟨Z, ds, o, _, h1, h2, _⟩ => by rw [h1.length, h2, hn]) (fun cdv A outer s H vs Q E hr hsp => ⟨_, h cdv A outer s H E hr, ?_⟩)
  obtain ⟨Z, ds, d, live, h1, h2, e, q⟩ := hsp
  unfold mkY at e
  have vw : L2.start N vs = vs.map some ++ List.replicate (m - n) none := by
    unfold L2.start
    rw [hm, h1.length, h2]
  rw [vw]
  exact ⟨Z, _, d, SI.start (m := m - n) live h1, e, q⟩
end
section
variable {X : Cx} {Cl : Nat → Addr} {W : WX} {a b : Expr} {fa fb : FE}
theorem kca {kx x1 : Nat} {tp bp rp : Pos} (ha : DE X Cl W a fa) (hb : DE X Cl W b fb) (vw : starEach [b] X.env = (false, eval b X.env) :: starEach [] X.env := by rfl) : PSs X [.Return (some (.BinOp a .Add (.Tuple [b] x1 tp) bp)) rp] (fun D σ H => teM X.K Cl kx (jbz kx fa fb) σ H D.rt) :=
  PSs.imp (pss_cons (ps_ret (pe_op op_catT ha (pe_tup (pa_cons hb pa_nil (by exact vw))))) pss_nil) fun D σ H ⟨Z, ρ, d, I, e, q⟩ => by
  unfold jbz at e
  split at e
  · rename_i xs ws ea eb
    split at e
    · rename_i hl
      cases e
      simp only [Bool.and_eq_true, decide_eq_true_eq] at hl
      obtain ⟨hk, hk0, hline⟩ := hl
      have hline := js hline
      refine jt I.di ea (fun er z => nomatch z) fun v x H1 ev s1 hv I1 => ?_
      cases ev
      obtain ⟨p, us, rfl, h1, h2⟩ := Dp.wx (show Dp X.K (hide H1 (Zo Z σ ρ)) x (.tuple xs) from hv)
      refine jt I1 eb (fun er z => nomatch z) fun v y H2 ev s2 hv2 I2 => ?_
      cases ev
      obtain ⟨q', zs, rfl, nq, hq, hz⟩ := hv2
      have hul : us.length = kx := h2.length.trans hk
      refine ⟨by show 1 ≤ sizeLine; rw [sizeLine_eq]; omega, fun t nt => ⟨p, t, us, [.ref q'], rfl, rfl, SqT.same (zl (Cl := Cl) nt).d (SqT.same s2.d (SqT.same qd h1)), SqT.of upd_same, fun z => by rw [z] at hul; simp at hul; omega, by rw [hul]; exact hline, (fun z => (nomatch z)), fun _ l nl => ?_⟩⟩
      have sT : Same Cl H2 (upd H2 t (.tup [.ref q'])) := zl nt
      have sL : Same Cl (upd H2 t (.tup [.ref q'])) (upd (upd H2 t (.tup [.ref q'])) l (.tup (us ++ [.ref q']))) := zl nl
      have s3 := sT.trans sL
      have s13 := s2.trans s3
      have nqZ : ¬ Z q' := fun z => I1.live q' z nq
      have nlZ : ¬ Z l := fun z => I1.live l z (s2.free (sT.free nl))
      have m1 : yb (hide H1 (Zo Z σ ρ)) (hide (upd (upd H2 t (.tup [.ref q'])) l (.tup (us ++ [.ref q']))) Z) := kf s13 fun b hb => .inl (.inl hb)
      have m2 : yb (hide H2 (ZP (Zo Z σ ρ) q')) (hide (upd (upd H2 t (.tup [.ref q'])) l (.tup (us ++ [.ref q']))) Z) := kf s3 fun b hb => .inl (.inl (.inl hb))
      have d1 := (DpAll.same m1 h2).append (.cons (.lst (Rd.of (vc nqZ (s3.at hq))) (DpAll.same m2 hz)) .nil)
      have t1 : SqT X.K (hide (upd (upd H2 t (.tup [.ref q'])) l (.tup (us ++ [.ref q']))) Z) l (us ++ [.ref q']) := SqT.of (vc nlZ upd_same)
      refine q _ _ (s1.trans s13) (.tup t1 d1) ⟨l, us ++ [.ref q'], xs ++ [.list ws], q', zs, ws, rfl, rfl, t1, d1, ?_, ?_, s1.free nq, s3.at hq, DpAll.same m2 hz⟩
      · rw [List.getElem?_append_right (by omega), hul, Nat.sub_self]
        rfl
      · rw [List.getElem?_append_right (by omega), hk, Nat.sub_self]
        rfl
    · cases e
  · cases e
end
theorem vaN {L : List (List Int × Addr × V)} {k : List Int} {v : V} (h : xw L k = some v) : ∃ b, (k, b, v) ∈ L := by
  unfold xw at h
  obtain ⟨x, h1, h2⟩ := Option.map_eq_some_iff.mp h
  have h3 := List.find?_some h1
  have e : x.1 = k := by simpa using h3
  exact ⟨x.2.1, by rw [← h2, ← e]; exact List.mem_of_find?_eq_some h1⟩
theorem kbS : ∀ {L : List (List Int × Addr × V)} {k1 k2 : List Int} {v : V}, (L.map (·.2.2)).Nodup → xw L k1 = some v → xw L k2 = some v → k1 = k2 := by
  intro L k1 k2 v nd h1 h2
  obtain ⟨b1, m1⟩ := vaN h1
  obtain ⟨b2, m2⟩ := vaN h2
  obtain ⟨i, hi⟩ := List.getElem?_of_mem m1
  obtain ⟨j, hj⟩ := List.getElem?_of_mem m2
  have e1 : (L.map (·.2.2))[i]? = some v := by rw [List.getElem?_map, hi]; rfl
  have e2 : (L.map (·.2.2))[j]? = some v := by rw [List.getElem?_map, hj]; rfl
  have li := (List.getElem?_eq_some_iff.mp e1).1
  have : i = j := (List.getElem?_inj li nd).mp (e1.trans e2.symm)
  subst this
  rw [hi] at hj
  cases hj
  rfl
theorem zL.val {H H' : Hp} {p : Addr} {L : List (List Int × Addr × V)} (h : zL H H' p L) {k : List Int} {v : V} (e : xw L k = some v) : ∃ q zs, v = .ref q ∧ q ≠ p ∧ H q = none ∧ H' q = some (.lst zs) := by
  obtain ⟨qs, h1, h2, h3⟩ := h
  obtain ⟨b, m⟩ := vaN e
  have : v ∈ L.map (·.2.2) := List.mem_map.mpr ⟨_, m, rfl⟩
  rw [h1] at this
  obtain ⟨q, hq, rfl⟩ := List.mem_map.mp this
  obtain ⟨n1, n2, zs, n3⟩ := h3 q hq
  exact ⟨q, zs, rfl, n1, n2, n3⟩
theorem zL.nd {H H' : Hp} {p : Addr} {L : List (List Int × Addr × V)} (h : zL H H' p L) : (L.map (·.2.2)).Nodup := by
  obtain ⟨qs, h1, h2, _⟩ := h
  rw [h1]
  exact List.Pairwise.map _ (fun a b z y => z (V.ref.inj y)) h2
structure jL (K : PySem.W.Frag) (Cl : Nat → Addr) (U H0 : Hp) (Zh Zf : Addr → Prop) (c R : Addr) (L : List (List Int × Addr × V)) (ps : wm) (kx i j : Nat) (σ : St) (H : Hp) (ρ : ya) (xs : List V) (acc : List D) (qs cs : List Addr) (ks : List (List Int)) : Prop where
  I : SI K Cl U Zh H σ ρ
  pi : ρ[i]? = some (.pin c)
  pj : ρ[j]? = some (.pin R)
  hc : H c = some (kg c L)
  hR : H R = some (.lst xs)
  zc : Zh c
  zR : Zh R
  uR : U R = none
  zo : ∀ b, Zo Zh σ ρ b ↔ Zf b
  hL : qm K (hide H Zf) L ps
  nd : (L.map (·.2.2)).Nodup
  vl : ∀ k v, xw L k = some v → ∃ q zs, v = .ref q ∧ q ≠ R ∧ H0 q = none ∧ H q = some (.lst zs)
  dx : DpAll K (hide H Zf) xs acc
  ps : jat K kx H0 H (hide H Zf) R xs acc qs cs
  ku : ks.length = cs.length
  kv : ∀ (t : Nat) a b, cs[t]? = some a → ks[t]? = some b → xw L b = some (.ref a)
  qn : ∀ q ∈ qs, ∀ k, xw L k ≠ some (.ref q)
  s0 : Same Cl H0 U
section
variable {X : Cx} {Cl : Nat → Addr} {W : WX} {U H0 H H1 : Hp} {Zh Zf : Addr → Prop} {c R : Addr} {L : List (List Int × Addr × V)} {ps : wm} {kx i j iz : Nat} {σ : St} {ρ : ya} {xs : List V} {acc : List D} {qs cs : List Addr} {ks : List (List Int)} {ga : FA} {F : TY} {Q : VK}
theorem jL.same (S : jL X.K Cl U H0 Zh Zf c R L ps kx i j σ H ρ xs acc qs cs ks) (s : Same Cl H H1) : jL X.K Cl U H0 Zh Zf c R L ps kx i j σ H1 ρ xs acc qs cs ks := by
  have up : yb (hide H Zf) (hide H1 Zf) := kf s fun _ h => .inl h
  exact ⟨S.I.jk s, S.pi, S.pj, s.at S.hc, s.at S.hR, S.zc, S.zR, S.uR, S.zo, S.hL.same up, S.nd, fun k v e => by
    obtain ⟨q, zs, h1, h2, h3, h4⟩ := S.vl k v e
    exact ⟨q, zs, h1, h2, h3, s.at h4⟩, S.dx.same up, S.ps.same s up, S.ku, S.kv, S.qn, S.s0⟩
theorem qcb {us : List Val} {as ds ws : List D} {kd : D} {k : List Int} (S : jL X.K Cl U H0 Zh Zf c R L ps kx i j σ H ρ xs acc qs cs ks) (ez : ρ[iz]? = some (.dat kd)) (ek : yj kd = some k) (ev : jE ps k = some (.list ws)) (hk : k ∉ ks) (ega : ga ρ = some (.ok us)) (vw : km us = some as) (hn : as.length = 1) (eF : F as = some (.tuple ds)) (hl : vj (acc.length + 1) = true)
    (fin : ∀ v H' x q a, jL X.K Cl U H0 Zh Zf c R L ps kx i j σ H' ρ (xs ++ [x]) (acc ++ [.tuple [.tuple ds, .list ws]]) (qs ++ [q]) (cs ++ [a]) (ks ++ [k]) → Q v H') :
    tBM X.K "list" rAppend (tVar j) (tCons (tTup (tCons (tCallS (spM X.K Cl kx 1 F) (WE W) (kaV X.K Cl W ga)) (tCons (xaI X (tVar i) (kr X.K Cl W (eV iz))) tNil))) tNil) σ H Q := by
  have zcs : σ[j]? = some (some (.ref R)) := S.I.di.slots j _ S.pj
  have vbA : σ[i]? = some (some (.ref c)) := S.I.di.slots i _ S.pi
  obtain ⟨w, dw, e1, e2, hw⟩ := (S.hL.val k).resolve_left fun z => by rw [ev] at z; exact nomatch z.2
  rw [ev] at e2
  cases e2
  obtain ⟨a, zs, rfl, aR, a0, ha⟩ := S.vl k w e1
  refine ⟨.ref R, zcs, .inl ⟨rfl, xs, .inl (.inl S.hR)⟩, ?_⟩
  refine kH S.I.di ega (fun er z => nomatch z) fun vs' ys0 H1 ev1 s1 hvs I1 => ?_
  cases ev1
  refine ⟨Zo Zh σ ρ, as, _, ⟨fun b z => I1.yy z, I1.tb⟩, hvs.stab S.I.di vw, hn, eF, fun v H2 s2 hdv htm => ?_⟩
  obtain ⟨T, ys, ds', q, zq, wq, rfl, ed, g1, g2, g3, g4, g5, g6, g7⟩ := htm
  cases ed
  refine ⟨.ref c, vbA, ?_⟩
  have s12 := s1.trans s2
  have S2 := S.same s12
  have eE : eV iz ρ = some (.ok (.s kd)) := by unfold eV; rw [ez]; rfl
  refine jt S2.I.di eE (fun er z => nomatch z) fun v y H3 ev3 s3 hv3 _ => ?_
  cases ev3
  have S3 := S2.same s3
  obtain ⟨t, rfl, ht⟩ := Dp.yj (show Dp X.K (hide H3 (Zo Zh σ ρ)) y kd from hv3) ek
  refine ⟨t, k, c, L, .ref a, rfl, SqT.same qd ht, rfl, S3.hc, fun x hx => SqT.same qd (S3.hL.keys x hx), e1, ?_⟩
  refine ⟨by rw [sizeLine_eq]; exact (by decide : 2 ≤ 16777216), fun T0 nT0 => ?_⟩
  have sT : Same Cl H3 (upd H3 T0 (.tup [.ref T, .ref a])) := zl nT0
  have hT9 : upd H3 T0 (.tup [.ref T, .ref a]) T0 = some (.tup [.ref T, .ref a]) := upd_same
  have S4 := S3.same sT
  have vcz : ¬ Zf T0 := fun z => S3.I.di.yy ((S3.zo T0).mpr z) nT0
  generalize upd H3 T0 (.tup [.ref T, .ref a]) = H4 at *
  refine ⟨R, xs, .ref T0, rfl, rfl, S4.hR, ?_, ?_⟩
  · have l1 := S.dx.length
    have := js hl
    omega
  have s24 := s3.trans sT
  have m24 : yb (hide H2 (Zo Zh σ ρ)) (hide H4 Zf) := kf s24 fun b hb => .inl ((S.zo b).mpr hb)
  have q4 := s24.at g6
  have qR : q ≠ R := fun z => by rw [z, s1.at S.hR] at g5; cases g5
  have q0 : H0 q = none := (S.s0.trans (S.I.same.trans s1)).free g5
  have ycz : H1 a ≠ none := by rw [s1.at ha]; intro z; cases z
  have aq : q ≠ a := fun z => ycz (by rw [← z]; exact g5)
  have ca : a ∉ cs := fun z => by
    obtain ⟨n, hn⟩ := List.getElem?_of_mem z
    have ln := (List.getElem?_eq_some_iff.mp hn).1
    have : ks[n]? = some (ks[n]'(by rw [S.ku]; exact ln)) := List.getElem?_eq_getElem _
    have e := S.kv n a _ hn this
    exact hk (kbS S.nd e1 e ▸ List.getElem_mem _)
  have qq : q ∉ qs := fun z => s1.live q (S.ps.2.2.2.2.2.1 q z) g5
  have qc : q ∉ cs := fun z => by
    obtain ⟨n, hn⟩ := List.getElem?_of_mem z
    have ln := (List.getElem?_eq_some_iff.mp hn).1
    have : ks[n]? = some (ks[n]'(by rw [S.ku]; exact ln)) := List.getElem?_eq_getElem _
    obtain ⟨q', zs', h1, _, _, h4⟩ := S.vl _ _ (S.kv n q _ hn this)
    cases h1
    rw [s1.at h4] at g5
    cases g5
  have aqs : a ∉ qs := fun z => S.qn a z k e1
  have aZ : Dp X.K (hide H4 Zf) (.ref a) (.list ws) := Dp.same (kf (s12.trans s24) fun _ h => .inl h) hw
  have m10 : yb (hide H4 Zf) (hide (upd H4 R (.lst (xs ++ [.ref T0]))) Zf) := vad ((S.zo R).mp (.inl S.zR))
  have gT : SqT X.K (hide (upd H4 R (.lst (xs ++ [.ref T0]))) Zf) T0 [.ref T, .ref a] := SqT.same m10 (SqT.of (vc vcz hT9))
  have dT : Dp X.K (hide (upd H4 R (.lst (xs ++ [.ref T0]))) Zf) (.ref T0) (.tuple [.tuple ds, .list ws]) := .tup gT (.cons (Dp.same (m24.trans m10) hdv) (.cons (Dp.same m10 aZ) .nil))
  have lv : ∀ b, H4 b ≠ none → upd H4 R (.lst (xs ++ [.ref T0])) b ≠ none := fun b hb => by
    by_cases z : b = R
    · rw [z, upd_same]; intro z; cases z
    · rw [upd_ne z]; exact hb
  have keep : ∀ b zs, H4 b = some (.lst zs) → b ≠ R → upd H4 R (.lst (xs ++ [.ref T0])) b = some (.lst zs) := fun b zs h z => by rw [upd_ne z]; exact h
  have cR : c ≠ R := fun z => by
    have := S4.hc
    rw [z, S4.hR] at this
    unfold kg at this
    cases this
  have ha4 := s24.at (s12.at ha)
  obtain ⟨zs', hz1, hz2⟩ : ∃ us, H4 a = some (.lst us) ∧ DpAll X.K (hide H4 Zf) us ws := by
    obtain ⟨a', us', ea, hr, hd⟩ := aZ.lst_inv
    cases ea
    rcases hr with h | ⟨o, h⟩
    · exact ⟨us', (yf h).2, hd⟩
    · rw [(yf h).2] at ha4
      cases ha4
  have pr : yaz X.K kx H0 (upd H4 R (.lst (xs ++ [.ref T0]))) (hide (upd H4 R (.lst (xs ++ [.ref T0]))) Zf) R q a (.ref T0) (.tuple [.tuple ds, .list ws]) := by
    refine ⟨⟨T0, T, ys, ds, zq, wq, zs', ws, rfl, rfl, gT, SqT.same (m24.trans m10) g1, DpAll.same (m24.trans m10) g2, g3, g4, keep _ _ q4 qR, DpAll.same (m24.trans m10) g7, keep _ _ hz1 aR, DpAll.same m10 hz2⟩, qR, aR, q0, a0⟩
  have psM : jat X.K kx H0 H4 (hide (upd H4 R (.lst (xs ++ [.ref T0]))) Zf) R xs acc qs cs := by
    obtain ⟨h1, h2, h3, h4, h5, h6, h7⟩ := S4.ps
    exact ⟨h1, h2, h3, h4, h5, h6, fun j x d q c a b e f => (h7 j x d q c a b e f).to m10 fun a zs _ z => z⟩
  refine fin _ _ (.ref T0) q a ⟨S4.I.qaE S.zR S.uR S4.hR, S.pi, S.pj, by rw [upd_ne cR]; exact S4.hc, upd_same, S.zc, S.zR, S.uR, S.zo, S4.hL.same m10, S.nd, fun k' v' e => ?_, DpAll.append (DpAll.same m10 S4.dx) (.cons dT .nil), psM.snoc S.dx.length.symm keep lv qq qc ca aqs aq (lv _ (by rw [q4]; intro z; cases z)) pr, ?_, fun n a' b' h1 h2 => ?_, fun q' hq' k' e => ?_, S.s0⟩
  · obtain ⟨q', zs', h1, h2, h3, h4⟩ := S4.vl k' v' e
    exact ⟨q', zs', h1, h2, h3, by rw [upd_ne h2]; exact h4⟩
  · rw [List.length_append, List.length_append, S.ku]
    rfl
  · by_cases hnl : n < cs.length
    · rw [List.getElem?_append_left hnl] at h1
      rw [List.getElem?_append_left (by rw [S.ku]; exact hnl)] at h2
      exact S.kv n a' b' h1 h2
    · have ln := (List.getElem?_eq_some_iff.mp h1).1
      rw [List.length_append, List.length_singleton] at ln
      have : n = cs.length := by omega
      subst this
      rw [List.getElem?_append_right (by omega)] at h1 
      rw [List.getElem?_append_right (by rw [S.ku]; omega)] at h2
      simp only [Nat.sub_self, S.ku, List.getElem?_cons_zero, Option.some.injEq] at h1 h2
      subst h1; subst h2
      exact e1
  · rcases List.mem_append.mp hq' with z | z
    · exact S.qn q' z k' e
    · rw [List.mem_singleton] at z
      subst z
      obtain ⟨q', zs', h1, _, _, h4⟩ := S.vl k' _ e
      cases h1
      rw [s1.at h4] at g5
      cases g5
end
section
variable {K : PySem.W.Frag} {Cl : Nat → Addr} {U H0 H H1 : Hp} {Zh Zf : Addr → Prop} {c R : Addr} {L : List (List Int × Addr × V)} {ps : wm} {kx i j : Nat} {σ σ1 : St} {ρ ρ1 : ya} {xs : List V} {acc : List D} {qs cs : List Addr} {ks : List (List Int)}
def zM (ρ : ya) : Prop := ∀ (j : Nat) s, ρ[j]? = some s → s.yz → ∃ a ks, s = .wc a (.set ks)
theorem zM.nl (h : zM ρ) {Z : Addr → Prop} (I : DI K Cl Z H σ ρ) {b : Addr} (o : vg σ ρ b) (zs : List V) : H b ≠ some (.lst zs) := fun z => by
  obtain ⟨t, o⟩ := o
  obtain ⟨s, h1, h2⟩ := o.slot
  obtain ⟨a, ks, rfl⟩ := h t s h1 h2
  have ab : a = b := by
    rcases o with ⟨_, ds, y⟩ | ⟨k, ds, y⟩ | ⟨c, y⟩
    · rw [h1] at y; cases y
    · rw [h1] at y; cases y
    · rw [h1] at y; cases y; rfl
  obtain ⟨_, u, e2, L, hu, _⟩ := I.slots t _ h1
  rw [ab, z] at e2
  cases e2
  unfold vF at hu
  cases hu
theorem jL.move (S : jL K Cl U H0 Zh Zf c R L ps kx i j σ H ρ xs acc qs cs ks) (s : Same Cl H H1) (J : SI K Cl U Zh H1 σ1 ρ1) (pi : ρ1[i]? = ρ[i]?) (pj : ρ1[j]? = ρ[j]?) (zo : ∀ b, Zo Zh σ1 ρ1 b ↔ Zf b) : jL K Cl U H0 Zh Zf c R L ps kx i j σ1 H1 ρ1 xs acc qs cs ks := by
  have up : yb (hide H Zf) (hide H1 Zf) := kf s fun _ h => .inl h
  exact ⟨J, pi.trans S.pi, pj.trans S.pj, s.at S.hc, s.at S.hR, S.zc, S.zR, S.uR, zo, S.hL.same up, S.nd, fun k v e => by
    obtain ⟨q, zs, h1, h2, h3, h4⟩ := S.vl k v e
    exact ⟨q, zs, h1, h2, h3, s.at h4⟩, S.dx.same up, S.ps.same s up, S.ku, S.kv, S.qn, S.s0⟩
theorem jL.xcz (S : jL K Cl U H0 Zh Zf c R L ps kx i j σ H ρ xs acc qs cs ks) {q : Addr} (h : q ∈ qs) : ∃ zs, H q = some (.lst zs) := by
  obtain ⟨h1, h2, h3, h4, h5, h6, h7⟩ := S.ps
  obtain ⟨n, hn⟩ := List.getElem?_of_mem h
  have ln := (List.getElem?_eq_some_iff.mp hn).1
  have la := S.dx.length
  obtain ⟨⟨T0, T, ys, ds, zs, ws, us, cs', _, _, _, _, _, _, _, g, _⟩, _⟩ := h7 n xs[n] acc[n] q cs[n] (List.getElem?_eq_getElem _) (List.getElem?_eq_getElem (by omega)) hn (List.getElem?_eq_getElem (by omega))
  exact ⟨zs, g⟩
theorem jL.far (S : jL K Cl U H0 Zh Zf c R L ps kx i j σ H ρ xs acc qs cs ks) (as : zM ρ) (J : SI K Cl (wi H σ ρ) Zh H1 σ1 ρ1) (pi : ρ1[i]? = ρ[i]?) (pj : ρ1[j]? = ρ[j]?) (zo : ∀ b, Zo Zh σ1 ρ1 b ↔ Zf b) : jL K Cl U H0 Zh Zf c R L ps kx i j σ1 H1 ρ1 xs acc qs cs ks := by
  have s := J.same
  have un : ∀ {b : Addr}, ¬ vg σ ρ b → wi H σ ρ b = H b := fun {b} h => by
    unfold wi
    rw [if_neg h]
  have nz : ∀ {b : Addr}, Zh b → ¬ vg σ ρ b := fun {b} z o => S.I.di.out b o z
  have nl : ∀ {b : Addr} {zs : List V}, H b = some (.lst zs) → wi H σ ρ b = some (.lst zs) := fun {b zs} h => by
    rw [un fun o => as.nl S.I.di o zs h]
    exact h
  have up : yb (hide H Zf) (hide H1 Zf) := fun b o h nt => by
    obtain ⟨n, e⟩ := yf h
    exact vc n (s.d b o (by rw [un fun z => n ((S.zo b).mp (.inr z))]; exact e) nt)
  have lsv : ∀ {b : Addr} {zs : List V}, H b = some (.lst zs) → H1 b = some (.lst zs) := fun {b zs} h => s.at (nl h)
  obtain ⟨h1, h2, h3, h4, h5, h6, h7⟩ := S.ps
  refine ⟨J.rebase S.I.based.1, pi.trans S.pi, pj.trans S.pj, s.at (by rw [un (nz S.zc)]; exact S.hc), lsv S.hR, S.zc, S.zR, S.uR, zo, S.hL.same up, S.nd, fun k v e => ?_, S.dx.same up, ⟨h1, h2, h3, h4, h5, fun q hq => ?_, fun n x d q c a b e f => (h7 n x d q c a b e f).to up fun a zs _ z => lsv z⟩, S.ku, S.kv, S.qn, S.s0⟩
  · obtain ⟨q, zs, g1, g2, g3, g4⟩ := S.vl k v e
    exact ⟨q, zs, g1, g2, g3, lsv g4⟩
  · obtain ⟨zs, g⟩ := S.xcz hq
    rw [lsv g]
    intro z; cases z
theorem jL.pairs (S : jL K Cl U H0 Zh Zf c R L ps kx i j σ H ρ xs acc qs cs ks) {Hh : Hp} (m : yb (hide H Zf) Hh) : jbd K kx H0 H Hh R xs acc := by
  obtain ⟨h1, h2, h3, h4, h5, h6, h7⟩ := S.ps
  refine ⟨qs, cs, h1, h2, ?_, fun n x d q c a b e f => (h7 n x d q c a b e f).to m fun a zs _ z => z⟩
  rw [List.nodup_append]
  exact ⟨h3, h4, fun a ha b hb z => h5 a ha (z ▸ hb)⟩
end
def xaW (ρ : ya) (b : Addr) : Prop := ∃ (n : Nat) (ks : List (List Int)), ρ[n]? = some (.wc b (.set ks))
theorem zM.owned {σ : St} {ρ : ya} (h : zM ρ) {b : Addr} : vg σ ρ b ↔ xaW ρ b := by
  constructor
  · rintro ⟨t, o⟩
    obtain ⟨s, h1, h2⟩ := o.slot
    obtain ⟨a, ks, rfl⟩ := h t s h1 h2
    rcases o with ⟨_, ds, y⟩ | ⟨k, ds, y⟩ | ⟨c, y⟩
    · rw [h1] at y; cases y
    · rw [h1] at y; cases y
    · rw [h1] at y; cases y; exact ⟨t, ks, h1⟩
  · rintro ⟨t, ks, e⟩
    exact ⟨t, .inr (.inr ⟨_, e⟩)⟩
def xar (i j : Nat) (ρ ρ' : ya) : Prop := zM ρ' ∧ ρ'[i]? = ρ[i]? ∧ ρ'[j]? = ρ[j]? ∧ ∀ b, xaW ρ' b ↔ xaW ρ b
theorem xar.zo {i j : Nat} {ρ ρ' : ya} (h : xar i j ρ ρ') (h0 : zM ρ) {Z Zf : Addr → Prop} {σ σ' : St} (zo : ∀ b, Zo Z σ ρ b ↔ Zf b) : ∀ b, Zo Z σ' ρ' b ↔ Zf b := fun b => by
  refine Iff.trans ⟨fun z => z.imp id fun z => ?_, fun z => z.imp id fun z => ?_⟩ (zo b)
  · exact h0.owned.mpr ((h.2.2.2 b).mp (h.1.owned.mp z))
  · exact h.1.owned.mpr ((h.2.2.2 b).mpr (h0.owned.mp z))
open Classical in
noncomputable def vbd (i j iz : Nat) (fA : FE) (t3 : FT) (fB : FS) (ga : FA) (F : TY) (ps : wm) (ρ : ya) (acc : List D) (ks : List (List Int)) : Option (ya × List D × List (List Int)) :=
  (jW iz fA ρ).bind fun ρa => if xar i j ρ ρa then match t3 ρa with
    | some (.ok false) => some (ρa, acc, ks)
    | some (.ok true) => match fB ρa with
      | some (.nx ρb) => if xar i j ρa ρb then match ρb[iz]? with
        | some (.dat kd) => match yj kd with
          | some k => match jE ps k with
            | none => some (ρb, acc, ks)
            | some (.list ws) => if k ∉ ks ∧ vj (acc.length + 1) = true then match ga ρb with
              | some (.ok us) => match km us with
                | some as => if as.length = 1 then match F as with
                  | some (.tuple ds) => some (ρb, acc ++ [.tuple [.tuple ds, .list ws]], ks ++ [k])
                  | _ => none else none
                | none => none
              | _ => none else none
            | _ => none
          | none => none
        | _ => none else none
      | _ => none
    | _ => none else none
section
variable {X : Cx} {Cl : Nat → Addr} {W : WX} {U H0 H : Hp} {Zh Zf : Addr → Prop} {c R : Addr} {L : List (List Int × Addr × V)} {ps : wm} {kx i j iz : Nat} {σ : St} {ρ ρ9 : ya} {xs : List V} {acc acc9 : List D} {qs cs : List Addr} {ks ks9 : List (List Int)} {fA : FE} {t3 : FT} {fB : FS} {ga : FA} {F : TY} {D : Ends}
theorem qbT (S : jL X.K Cl U H0 Zh Zf c R L ps kx i j σ H ρ xs acc qs cs ks) (as0 : zM ρ) (e : vbd i j iz fA t3 fB ga F ps ρ acc ks = some (ρ9, acc9, ks9))
    (fin : ∀ σ9 H9 xs9 qs9 cs9, jL X.K Cl U H0 Zh Zf c R L ps kx i j σ9 H9 ρ9 xs9 acc9 qs9 cs9 ks9 → xar i j ρ ρ9 → D.nx σ9 H9) :
    tSeq (tAsg (kr X.K Cl W fA) (gName iz)) (tSeq (tIfS (kas X.K Cl W t3) (tSeq (xas X.K Cl W fB) (tSeq (tIfS (tTest (tOp (jaF X false) (kr X.K Cl W (eV iz)) (tVar i))) (tSeq (tDrop (tBM X.K "list" rAppend (tVar j) (tCons (tTup (tCons (tCallS (spM X.K Cl kx 1 F) (WE W) (kaV X.K Cl W ga)) (tCons (xaI X (tVar i) (kr X.K Cl W (eV iz))) tNil))) tNil))) tNext) tNext) tNext)) tNext) tNext) D σ H := by
  unfold vbd at e
  obtain ⟨ρa, eA, e⟩ := Option.bind_eq_some_iff.mp e
  split at e
  · rename_i kA
    refine yar S.I eA fun σa Ha sa Ia => ?_
    have Sa := S.move sa Ia kA.2.1 kA.2.2.1 (kA.zo as0 S.zo)
    split at e
    · rename_i e3
      cases e
      refine qz Sa.I.di e3 (fun _ z => nomatch z) fun bb H1 eb s1 _ => ?_
      cases eb
      exact fin _ _ _ _ _ (Sa.same (X := X) s1) kA
    · rename_i e3
      refine qz Sa.I.di e3 (fun _ z => nomatch z) fun bb H1 eb s1 _ => ?_
      cases eb
      have S1 := Sa.same (X := X) s1
      split at e
      · rename_i ρb eB
        split at e
        · rename_i kB
          have kAB : xar i j ρ ρb := ⟨kB.1, kB.2.1.trans kA.2.1, kB.2.2.1.trans kA.2.2.1, fun b => (kB.2.2.2 b).trans (kA.2.2.2 b)⟩
          refine ⟨wi H1 σa ρa, Zh, ρa, .nx ρb, S1.I.based.2, eB, fun σb Hb J => ?_⟩
          have Sb := S1.far kA.1 J kB.2.1 kB.2.2.1 (kB.zo kA.1 S1.zo)
          split at e
          · rename_i kd ez
            split at e
            · rename_i k ek
              have eE : eV iz ρb = some (.ok (.s kd)) := by unfold eV; rw [ez]; rfl
              have vbA : σb[i]? = some (some (.ref c)) := Sb.I.di.slots i _ Sb.pi
              refine jt Sb.I.di eE (fun er z => nomatch z) fun v y H2 ev s2 hv _ => ?_
              cases ev
              have S2 := Sb.same (X := X) s2
              obtain ⟨t, rfl, ht⟩ := Dp.yj (show Dp X.K (hide H2 (Zo Zh σb ρb)) y kd from hv) ek
              refine ⟨.ref c, vbA, t, k, c, L, rfl, SqT.same qd ht, rfl, S2.hc, fun x hx => SqT.same qd (S2.hL.keys x hx), ?_⟩
              split at e
              · rename_i en
                cases e
                have : xw L k = none := by
                  rcases S2.hL.val k with ⟨z1, _⟩ | ⟨v', d', _, z2, _⟩
                  · exact z1
                  · rw [en] at z2; cases z2
                rw [this]
                exact ⟨false, rfl, fin _ _ _ _ _ S2 kAB⟩
              · rename_i ws en
                split at e
                · rename_i hk
                  split at e
                  · rename_i us eg
                    split at e
                    · rename_i as vw
                      split at e
                      · rename_i hn
                        split at e
                        · rename_i ds eF
                          cases e
                          have : (xw L k).isSome = true := by
                            rcases S2.hL.val k with ⟨_, z2⟩ | ⟨v', d', z1, _, _⟩
                            · rw [en] at z2; cases z2
                            · rw [z1]; rfl
                          rw [this]
                          exact ⟨true, rfl, qcb S2 ez ek en hk.1 eg vw hn eF hk.2 fun v H' x q a S9 => fin _ _ _ _ _ S9 kAB⟩
                        · cases e
                      · cases e
                    · cases e
                  · cases e
                · cases e
              · cases e
            · cases e
          · cases e
        · cases e
      · cases e
    · cases e
  · cases e
end
open Classical in
noncomputable def xak (i j iz : Nat) (g : FG) (fA : FE) (t3 : FT) (fB : FS) (ga : FA) (F : TY) (ps : wm) : List D → ya → List D → List (List Int) → Option (List D)
  | [], _, acc, _ => some acc
  | d :: r, ρ, acc, ks => (g d ρ).bind fun ρ0 => if xar i j ρ ρ0 then (vbd i j iz fA t3 fB ga F ps ρ0 acc ks).bind fun x => xak i j iz g fA t3 fB ga F ps r x.1 x.2.1 x.2.2 else none
def kz (i is : Nat) (ρ : ya) (c s : Addr) : ya := (ρ.set i (.pin c)).set is (.wc s (.set []))
open Classical in
noncomputable def ybd (i is j iz n : Nat) (F2 : wm → Option wm) (F1 : TDc) (g0 : FA) (f0 : FE) (it : FI) (g : FG) (fA : FE) (t3 : FT) (fB : FS) (ga : FA) (F : TY) : ya → Option (List D) := fun ρ => if (i < ρ.length ∧ is < ρ.length ∧ j < ρ.length ∧ i ≠ is ∧ i ≠ j ∧ is ≠ j) ∧ ∀ (n : Nat) s, ρ[n]? = some s → ¬ s.yz then match g0 ρ with
  | some (.ok vs) => match km vs with
    | some as => if as.length = n then match F1 as with
      | some ps0 => match F2 ps0 with
        | some ps => if h : ∃ es, ∀ c s R, f0 (kz i is ρ c s) = some (.ok (.f [])) ∧ ∃ ds, it ((kz i is ρ c s).set j (.pin R)) = some (.ok ds) ∧ xak i j iz g fA t3 fB ga F ps ds ((kz i is ρ c s).set j (.pin R)) [] [] = some es then some h.choose else none
        | none => none
      | none => none else none
    | none => none
  | _ => none else none
theorem zbT {i is j : Nat} {ρ : ya} {c s R : Addr} (h : ∀ (n : Nat) s, ρ[n]? = some s → ¬ s.yz) : zM ((kz i is ρ c s).set j (.pin R)) := fun t sl e o => by
  unfold kz at e
  rw [List.getElem?_set] at e
  split at e
  · split at e
    · cases e; exact o.elim
    · cases e
  · rw [List.getElem?_set] at e
    split at e
    · split at e
      · cases e; exact ⟨_, _, rfl⟩
      · cases e
    · rw [List.getElem?_set] at e
      split at e
      · split at e
        · cases e; exact o.elim
        · cases e
      · exact absurd o (h t sl e)
theorem jbT {i is j : Nat} {ρ : ya} {c s R b : Addr} (h : ∀ (n : Nat) s, ρ[n]? = some s → ¬ s.yz) (o : xaW ((kz i is ρ c s).set j (.pin R)) b) : b = s := by
  obtain ⟨t, ks, e⟩ := o
  unfold kz at e
  rw [List.getElem?_set] at e
  split at e
  · split at e
    · cases e
    · cases e
  · rw [List.getElem?_set] at e
    split at e
    · split at e
      · cases e; rfl
      · cases e
    · rw [List.getElem?_set] at e
      split at e
      · split at e
        · cases e
        · cases e
      · exact absurd trivial (h t _ e)
section
variable {X : Cx} {Cl : Nat → Addr} {W : WX} {e e0 eA c3 c4 app tg iter : Expr} {es : List Expr} {stB : Stmt} {g0 ga : FA} {f0 fA : FE} {it : FI} {g : FG} {t3 : FT} {fB : FS} {F : TY}
theorem xcj {n lf lg i is j iz kx : Nat} {F2 : wm → Option wm} {F1 : TDc} {ff fg : Addr} {df dg : FuncData} {pf pg : List Str} {x xf xg xs xy xz : Str} {p1 p2 p3 p4 p5 p6 p7 p8 p9 p10 p11 p12 p13 p14 p15 p16 p17 pos0 pos1 pos2 : Pos} (hc : X.calm = true) (hN : X.N.Nodup) (hpo : PassesOwn (model X.prog X.w) X.A X.env X.xe)
    (GF : FnOk X.prog X.w X.K X.mg X.base (L2.CX X.prog X.w) lf ff df pf (wbA X.K Cl F2)) (GG : FnOk X.prog X.w X.K X.mg X.base (L2.CX X.prog X.w) lg fg dg pg (jbS X.K Cl n F1)) (tk : Takes X W)
    (hrf : Room lf X.A) (hmf : X.mg xf = some (.ref ff)) (hkf : PySem.W.keepIn X.K (.ref ff) = true) (hbf : Binds X.K df pf [])
    (hrg : Room lg X.A) (hmg : X.mg xg = some (.ref fg)) (hkg : PySem.W.keepIn X.K (.ref fg) = true) (hbg : Binds X.K dg pg [])
    (hb : X.w.params.followText "set-order" = xC Cl) (hm : X.mg "set" = none)
    (ha : DA X Cl W (e :: es) g0) (h0 : DE X Cl W e0 f0) (hit : DIt X Cl W tg iter it) (hg : DG X Cl tg g) (hA : DE X Cl W eA fA) (h3 : DT X Cl W c3 t3) (hB : DS X Cl W stB fB)
    (h4 : PT X c4 (tTest (tOp (jaF X false) (kr X.K Cl W (eV iz)) (tVar i)))) (happ : PE X app (tBM X.K "list" rAppend (tVar j) (tCons (tTup (tCons (tCallS (spM X.K Cl kx 1 F) (WE W) (kaV X.K Cl W ga)) (tCons (xaI X (tVar i) (kr X.K Cl W (eV iz))) tNil))) tNil)))
    (hv : ∀ p, PE X (.Name xy p) (tVar j))
    (hgf : Gl X xf := by rfl) (hdf : (xf == ("__debug__" : Str)) = false := by decide) (hgg : Gl X xg := by rfl) (hdg : (xg == ("__debug__" : Str)) = false := by decide)
    (he : starEach (e :: es) X.env = (false, eval e X.env) :: starEach es X.env := by rfl) (hpl : (backTo pos0 (starEach es X.env)).any (·.1) = false := by rfl)
    (he2 : starEach [.Call (.Name xg p3) (e :: es) [] pos0] X.env = (false, eval (.Call (.Name xg p3) (e :: es) [] pos0) X.env) :: starEach [] X.env := by rfl) (hpl2 : (backTo pos1 (starEach [] X.env)).any (·.1) = false := by rfl)
    (hgs : Gl X "set" := by rfl)
    (hi : X.N[i]? = some x := by rfl) (hx : Loc X.env.scope x := by first | exact .inl rfl | exact .inr rfl) (hfx : X.fn x = true ∨ X.env.scope.names.lookup x = some .local := by first | exact .inl rfl | exact .inr rfl)
    (his : X.N[is]? = some xs := by rfl) (hxs : Loc X.env.scope xs := by first | exact .inl rfl | exact .inr rfl) (hfs : X.fn xs = true ∨ X.env.scope.names.lookup xs = some .local := by first | exact .inl rfl | exact .inr rfl)
    (hij : X.N[j]? = some xy := by rfl) (hxy : Loc X.env.scope xy := by first | exact .inl rfl | exact .inr rfl) (hfy : X.fn xy = true ∨ X.env.scope.names.lookup xy = some .local := by first | exact .inl rfl | exact .inr rfl)
    (hiz : X.N[iz]? = some xz := by rfl) (hxz : Loc X.env.scope xz := by first | exact .inl rfl | exact .inr rfl) (hfz : X.fn xz = true ∨ X.env.scope.names.lookup xz = some .local := by first | exact .inl rfl | exact .inr rfl)
    (hs1 : swapsWith (.Call (.Name xf p2) [.Call (.Name xg p3) (e :: es) [] pos0] [] pos1) (some (.Name x p1)) pos2.line X.env = pure false := by rfl) (hs2 : swapsWith (.Call (.Name "set" p5) [] [] p6) (some (.Name xs p4)) p7.line X.env = pure false := by rfl)
    (hs3 : swapsWith e0 (some (.Name xy p8)) p9.line X.env = pure false := by rfl) (hs4 : swapsWith eA (some (.Name xz p10)) p11.line X.env = pure false := by rfl) (hs5 : swapsWith app none p12.line X.env = pure false := by rfl) (hsi : ∀ x, foldedSetIterable iter X.env x = pure x := by intro _; rfl) :
    PSs X [.Assign [.Name x p1] (.Call (.Name xf p2) [.Call (.Name xg p3) (e :: es) [] pos0] [] pos1) pos2, .Assign [.Name xs p4] (.Call (.Name "set" p5) [] [] p6) p7, .Assign [.Name xy p8] e0 p9,
      .For tg iter [.Assign [.Name xz p10] eA p11, .If c3 [stB, .If c4 [.Expr app p12] [] p13] [] p14] [] p15, .Return (some (.Name xy p16)) p17] (fun D σ H => teP X.K Cl kx (ybd i is j iz n F2 F1 g0 f0 it g fA t3 fB ga F) σ H D.rt) := by
  refine PSs.imp (pss_cons (ps_set hN hi hx (pe_callS (E := WE W) GF hrf hgf hmf hkf hbf (fun σ => passAt tk σ) (pa_cons (pe_callS (E := WE W) GG hrg hgg hmg hkg hbg (fun σ => passAt tk σ) ha hdg he hpl) pa_nil (by exact he2)) hdf he2 hpl2) hs1 hfx)
    (pss_cons (ps_set hN his hxs (pe_callTy0 (zb9 hb) hgs hm (by decide +kernel)) hs2 hfs) (pss_cons (ps_set hN hij hxy h0 hs3 hfy)
    (pss_cons (ps_for hpo hc hit hg (pss_cons (ps_set hN hiz hxz hA hs4 hfz) (pss_cons (ps_if h3 (pss_cons hB (pss_cons (ps_if h4 (pss_cons (ps_expr happ hs5) pss_nil) pss_nil) pss_nil)) pss_nil) pss_nil)) hsi) (pss_cons (ps_ret (hv p16)) pss_nil))))) fun D σ H ⟨Z, ρ, es, I, e, q⟩ => ?_
  unfold ybd at e
  split at e
  · rename_i hcond
    obtain ⟨⟨il, isl, jl, n1, n2, n3⟩, hno⟩ := hcond
    split at e
    · rename_i vs eg
      split at e
      · rename_i as vw
        split at e
        · rename_i hn
          split at e
          · rename_i ps0 eF1
            split at e
            · rename_i ps eF2
              split at e
              · rename_i hex
                cases e
                have es' := hex.choose_spec
                generalize hex.choose = es at es' q
                have noOw : ∀ b, ¬ vg σ ρ b := fun b ⟨t, o⟩ => by
                  obtain ⟨s, h1, h2⟩ := o.slot
                  exact hno t s h1 h2
                refine kH I.di eg (fun er z => nomatch z) fun vs' xs0 H1 ev s1 hvs I1 => ?_
                cases ev
                refine ⟨Zo Z σ ρ, as, ps0, ⟨fun b z => I1.yy z, I1.tb⟩, hvs.stab I.di vw, hn, eF1, fun c0 L0 H2 s2 nc0 hc0 hL0 => ?_⟩
                refine ⟨ZP (Zo Z σ ρ) c0, c0, L0, ps0, ps, rfl, ⟨fun b z => ?_, s2.tb I1.tb⟩, .inr rfl, hc0, hL0, eF2, fun c L H3 s3 nc hcc hL nv => ?_⟩
                · rcases z with z | rfl
                  · exact s2.live b (I1.yy z)
                  · rw [hc0]; intro z; cases z
                have s13 : Same Cl H1 H3 := (s2.qcj nc0 hc0).trans s3
                have nc1 : H1 c = none := s2.free nc
                have nc0' : H c = none := s1.free nc1
                have lc : H3 c ≠ none := by rw [hcc]; intro z; cases z
                have I3 := (I.jk s1).hid s13 (S := fun b => b = c) (fun b hb => by rw [hb]; exact nc1) fun b hb => by rw [hb]; exact lc
                have I3' : SI X.K Cl H (fun b => Z b ∨ b = c) H3 (σ.set i (some (.ref c))) (ρ.set i (.pin c)) := ⟨I3.di.vby (fun z => nomatch z) fun _ _ => rfl, I3.same, fun b ⟨t, z⟩ => I3.new b ⟨t, jw (s := .pin c) (fun z => nomatch z) z⟩⟩
                refine ⟨rfl, fun s ns => ?_⟩
                have hcs : qu X.K Cl (hide (upd H3 s (vF (xC Cl) s [])) (ZP (Zo (fun b => Z b ∨ b = c) (σ.set i (some (.ref c))) (ρ.set i (.pin c))) s)) s (vF (xC Cl) s []) (.set []) := ⟨[], rfl, fun p h => (by cases h), fun k => ⟨fun h => (by cases h), fun h => (by cases h)⟩, Nat.le_refl _⟩
                have I4 := I3'.waQ (i := is) (zl ns) ns upd_same hcs
                have s34 : Same Cl H3 (upd H3 s (vF (xC Cl) s [])) := zl ns
                have eR : ∀ R, f0 (kz i is ρ c s) = some (.ok (.f [])) ∧ ∃ ds, it ((kz i is ρ c s).set j (.pin R)) = some (.ok ds) ∧ xak i j iz g fA t3 fB ga F ps ds ((kz i is ρ c s).set j (.pin R)) [] [] = some es := fun R => es' c s R
                have hρ1 : (ρ.set i (.pin c)).set is (.wc s (.set [])) = kz i is ρ c s := rfl
                rw [hρ1] at I4
                refine jt I4.di (eR 0).1 (fun er z => nomatch z) fun v x0 H5 ev s5 hv5 _ => ?_
                cases ev
                obtain ⟨R, xs5, rfl, nR, hR, hR0⟩ := hv5
                cases hR0
                have nRH : H R = none := (I4.same).free nR
                have I5 := I4.hid s5 (S := fun b => b = R) (fun b hb => by rw [hb]; exact nR) fun b hb => by rw [hb, hR]; intro z; cases z
                have I6 : SI X.K Cl H (fun b => (Z b ∨ b = c) ∨ b = R) H5 (((σ.set i (some (.ref c))).set is (some (.ref s))).set j (some (.ref R))) ((kz i is ρ c s).set j (.pin R)) := ⟨I5.di.vby (fun z => nomatch z) fun _ _ => rfl, I5.same, fun b ⟨t, z⟩ => I5.new b ⟨t, jw (s := .pin R) (fun z => nomatch z) z⟩⟩
                obtain ⟨_, ds, eit, eL⟩ := eR R
                have as3 : zM ((kz i is ρ c s).set j (.pin R)) := zbT hno
                have ow3 : ∀ b, xaW ((kz i is ρ c s).set j (.pin R)) b → b = s := fun b o => jbT hno o
                have pi3 : ((kz i is ρ c s).set j (.pin R))[i]? = some (.pin c) := by
                  unfold kz
                  rw [List.getElem?_set_ne (Ne.symm n2), List.getElem?_set_ne (Ne.symm n1), List.getElem?_set, if_pos rfl, if_pos il]
                have pj3 : ((kz i is ρ c s).set j (.pin R))[j]? = some (.pin R) := by
                  rw [List.getElem?_set, if_pos rfl, if_pos (by unfold kz; rw [List.length_set, List.length_set]; exact jl)]
                let σ3 : St := ((σ.set i (some (.ref c))).set is (some (.ref s))).set j (some (.ref R))
                generalize hρ3 : (kz i is ρ c s).set j (.pin R) = ρ3 at *
                let Zh : Addr → Prop := fun b => (Z b ∨ b = c) ∨ b = R
                refine ⟨Zh, ρ3, .ok ds, I6.di, eit, ?_⟩
                intro J H6 s6 hJ
                have I7 := I6.jk s6
                obtain ⟨b7, B7⟩ := I7.based
                have hR6 := s6.at hR
                have s36 : Same Cl H3 H6 := s34.trans (s5.trans s6)
                have hc6 := s36.at hcc
                let Zf : Addr → Prop := Zo Zh σ3 ρ3
                let U : Hp := hide (wi H6 σ3 ρ3) fun b => b = R
                have uR6 : wi H6 σ3 ρ3 R = some (.lst []) := by
                  unfold wi
                  rw [if_neg fun o => as3.nl I7.di o [] hR6]
                  exact hR6
                have sU : Same Cl U (wi H6 σ3 ρ3) := .of (fun b o h => (yf h).2) fun b o xs h => vc (fun z => by
                  rw [show b = R from z, uR6] at h
                  cases h) h
                have sHU : Same Cl H U := Same.hidden b7 (S := fun b => b = R) (fun b hb => by rw [hb]; exact nRH) fun b hb => by rw [hb]; exact ⟨_, uR6, rfl⟩
                have UR : U R = none := by
                  show hide _ _ R = none
                  unfold hide
                  rw [if_pos rfl]
                have B8 : SI X.K Cl U Zh H6 σ3 ρ3 := B7.rebase sU
                have vals : ∀ k v, xw L k = some v → ∃ q zs, v = .ref q ∧ q ≠ R ∧ H q = none ∧ H6 q = some (.lst zs) := fun k v ev => by
                  obtain ⟨q, zs, g1, g2, g3, g4⟩ := nv.val ev
                  refine ⟨q, zs, g1, fun z => ?_, s1.free (s2.free g3), s36.at g4⟩
                  rw [z] at g4
                  have := s34.at g4
                  rw [nR] at this
                  cases this
                have hZf : ∀ b, Zf b → ZP (ZP (Zo Z σ ρ) c0) c b ∨ H3 b = none := fun b hb => by
                  rcases hb with ((hb | rfl) | rfl) | hb
                  · exact .inl (.inl (.inl (.inl hb)))
                  · exact .inl (.inr rfl)
                  · exact .inr (s34.free nR)
                  · rw [ow3 b (as3.owned.mp hb)]
                    exact .inr ns
                have S6 : jL X.K Cl U H Zh Zf c R L ps kx i j σ3 H6 ρ3 [] [] [] [] [] := ⟨B8, pi3, pj3, hc6, hR6, .inl (.inr rfl), .inr rfl, UR, fun b => Iff.rfl, hL.same (kf s36 fun b hb => hZf b hb), nv.nd, vals, .nil, .nil, rfl, fun t a b h => by simp at h, fun q h => (nomatch h), sHU⟩
                have kept : ∀ {H' : Hp} {σ' : St} {ρ' : ya}, SI X.K Cl U Zh H' σ' ρ' → (∀ b, Zo Zh σ' ρ' b ↔ Zf b) → yb (hide H6 (Zo Zh σ3 ρ3)) (hide H' (Zo Zh σ' ρ')) := fun {H' σ' ρ'} I' zo b o h nt => by
                  obtain ⟨n, h1⟩ := yf h
                  have hU : U b = some o := vc (fun z => n (.inl (.inr z))) (by
                    unfold wi
                    rw [if_neg fun z => n (.inr z)]
                    exact h1)
                  exact vc (fun z => n ((zo b).mp z)) (I'.same.d b o hU nt)
                let INV : ya → St → Hp → List (List Int) → List DL.D → Prop := fun ρ' σ' H' ks acc => ∃ xs qs cs, jL X.K Cl U H Zh Zf c R L ps kx i j σ' H' ρ' xs acc qs cs ks ∧ zM ρ'
                refine ⟨fun t m σ' H' => ∃ ρ' ks acc, INV ρ' σ' H' ks acc ∧ xak i j iz g fA t3 fB ga F ps (ds.drop t) ρ' acc ks = some es ∧ m = ds.length - t ∧ t ≤ ds.length, ⟨_, ρ3, [], [], ⟨_, _, _, S6, as3⟩, eL, rfl, Nat.zero_le _⟩, fun t m σ' H' => ?_⟩
                rintro ⟨ρ', ks, acc, ⟨xs, qs, cs, S', as'⟩, e', rfl, htl⟩
                obtain ⟨go, stop, yld⟩ := hJ (Zo Zh σ' ρ') H' (kept S'.I S'.zo) (fun b z => S'.I.di.yy z)
                by_cases hlt : t < ds.length
                · refine .inr ⟨go t hlt, fun σ8 H8 => ∃ ρ8 ks8 acc8, INV ρ8 σ8 H8 ks8 acc8 ∧ xak i j iz g fA t3 fB ga F ps (ds.drop (t + 1)) ρ8 acc8 ks8 = some es, fun σ8 H8 ⟨ρ8, k8, a8, b1, b2⟩ => ⟨ds.length - (t + 1), by omega, ρ8, k8, a8, b1, b2, rfl, hlt⟩, fun x0 H'' y0 => ?_⟩
                  have hd : ds[t]? = some ds[t] := List.getElem?_eq_getElem hlt
                  obtain ⟨s8', hx0⟩ := yld t x0 H'' _ y0 hd
                  have s8 := s8' Cl
                  rw [List.drop_eq_getElem_cons hlt] at e'
                  unfold xak at e'
                  obtain ⟨ρ0, eg0, e'⟩ := Option.bind_eq_some_iff.mp e'
                  split at e'
                  · rename_i k0
                    obtain ⟨r9, eT, e9⟩ := Option.bind_eq_some_iff.mp e'
                    refine ⟨_, Zh, ρ', ds[t], ρ0, S'.I.jk s8, hx0, eg0, fun σ1 I1 => ?_⟩
                    have S1 := S'.move s8 I1 k0.2.1 k0.2.2.1 (k0.zo as' S'.zo)
                    exact qbT S1 k0.1 (ρ9 := r9.1) (acc9 := r9.2.1) (ks9 := r9.2.2) eT fun σ9 H9 xs9 qs9 cs9 S9 k9 => ⟨r9.1, r9.2.2, r9.2.1, ⟨xs9, qs9, cs9, S9, k9.1⟩, e9⟩
                  · cases e'
                · have het : t = ds.length := by omega
                  subst het
                  rw [List.drop_length] at e'
                  unfold xak at e'
                  cases e'
                  refine .inl ⟨stop _ (Nat.le_refl _), ?_⟩
                  have m9 : yb (hide H' Zf) (hide H' (ZP Z R)) := jc (yb.refl _) fun b hb => .inl (by
                    rcases hb with hb | rfl
                    · exact .inl (.inl (.inl hb))
                    · exact .inl (.inr rfl))
                  exact ⟨.ref R, S'.I.di.slots j _ S'.pj, q R xs H' (S'.s0.trans S'.I.same) nRH S'.hR (S'.dx.same m9) (S'.pairs m9)⟩
              · cases e
            · cases e
          · cases e
        · cases e
      · cases e
    · cases e
  · cases e
end
def ybA (k : Nat) (d : D) : Bool := match d with
  | .tuple [.tuple ls, .list cs] => (ls.set k .none).all wj && ((match ls[k]? with
    | some (.list ws) => ws.all wj && vj (ws.length + 1)
    | _ => false) && (cs.all wj && vj (cs.length + 1)))
  | _ => false
def PrT (k1 k2 : Nat) (t4 : FT) (ρ : ya) (d : D) : Prop := ∃ ls cs, d = .tuple [.tuple ls, .list cs] ∧ t4 ((ρ.set k1 (.dat (.tuple ls))).set k2 (.dat (.list cs))) = some (.ok false)
open Classical in
noncomputable def xbd (i j k1 k2 kx : Nat) (F : TF) (n : Nat) (g : FA) (f2 : FE) (t3 t4 : FT) (rest : FS) : FS := fun ρ => if (noOwn ρ [i, j, k1, k2] && (decide (i ≠ j) && (decide (i ≠ k1) && (decide (i ≠ k2) && (decide (k1 ≠ k2) && (decide (i < ρ.length) && (decide (k1 < ρ.length) && decide (k2 < ρ.length)))))))) = true then match g ρ with
  | some (.ok vs) => match km vs with
    | some as => if as.length = n then match F as with
      | some ds => if ds.all (ybA kx) = true ∧ vj (ds.length + 1) = true then match f2 (ρ.set i .un) with
        | some (.ok v2) => match v2.st with
          | some d2 => match t3 (((ρ.set i .un).set j (.dat d2)).set i (.dat (.list ds))) with
            | some (.ok false) => if ∀ d ∈ ds, PrT k1 k2 t4 ((((ρ.set i .un).set j (.dat d2)).set k1 .un).set k2 .un) d then rest ((((ρ.set i .un).set j (.dat d2)).set k1 .un).set k2 .un) else none
            | _ => none
          | none => none
        | _ => none else none
      | none => none else none
    | none => none
  | _ => none else none
section
variable {X : Cx} {Cl : Nat → Addr} {W : WX} {e : Expr} {es : List Expr} {g : FA} {f2 : FE} {t3 t4 : FT} {rest : FS}
theorem zcb {n lv i j k1 k2 kx tk0 : Nat} {F : TF} {fa : Addr} {fd : FuncData} {ps : List Str} {x y y2 z1 z2 : Str} {c5 c6 : D} {e2 c3 cc4 app5 app6 : Expr} {p p1 p2 p4 q1 q2 q4 pos0 pos1 pos2 pos3 pos4 pos6 pos7 pos8 : Pos} {sa sa4 srest : List Stmt} (hc : X.calm = true) (hN : X.N.Nodup) (hpo : PassesOwn (model X.prog X.w) X.A X.env X.xe)
    (G : FnOk X.prog X.w X.K X.mg X.base (L2.CX X.prog X.w) lv fa fd ps (spP X.K Cl kx n F)) (tk : Takes X W) (hr : Room lv X.A) (hm : X.mg x = some (.ref fa)) (hk : PySem.W.keepIn X.K (.ref fa) = true) (hb : Binds X.K fd ps [])
    (ha : DA X Cl W (e :: es) g) (h2 : DE X Cl W e2 f2) (h3 : DT X Cl W c3 t3) (h4 : DT X Cl W cc4 t4) (hv : PE X (.Name y p4) (tVar i))
    (ha5 : PE X app5 (tBM X.K "list" rAppend (tOp (rIxT X.K) (tVar k1) (tC (.int (kx : Nat)))) (tCons (kr X.K Cl W (eC c5)) tNil))) (ha6 : PE X app6 (tBM X.K "list" rAppend (tVar k2) (tCons (kr X.K Cl W (eC c6)) tNil))) (hrest : xO X Cl W srest rest)
    (hg : Gl X x := by rfl) (hdb : (x == ("__debug__" : Str)) = false := by decide) (he : starEach (e :: es) X.env = (false, eval e X.env) :: starEach es X.env := by rfl) (hpl : (backTo pos0 (starEach es X.env)).any (·.1) = false := by rfl)
    (hi : X.N[i]? = some y := by rfl) (hx : Loc X.env.scope y := by first | exact .inl rfl | exact .inr rfl) (hf : X.fn y = true ∨ X.env.scope.names.lookup y = some .local := by first | exact .inl rfl | exact .inr rfl)
    (hj : X.N[j]? = some y2 := by rfl) (hxj : Loc X.env.scope y2 := by first | exact .inl rfl | exact .inr rfl) (hfj : X.fn y2 = true ∨ X.env.scope.names.lookup y2 = some .local := by first | exact .inl rfl | exact .inr rfl)
    (hk1 : X.N[k1]? = some z1 := by rfl) (hx1 : Loc X.env.scope z1 := by first | exact .inl rfl | exact .inr rfl) (hf1 : X.fn z1 = true ∨ X.env.scope.names.lookup z1 = some .local := by first | exact .inl rfl | exact .inr rfl)
    (hk2 : X.N[k2]? = some z2 := by rfl) (hx2 : Loc X.env.scope z2 := by first | exact .inl rfl | exact .inr rfl) (hf2 : X.fn z2 = true ∨ X.env.scope.names.lookup z2 = some .local := by first | exact .inl rfl | exact .inr rfl)
    (hs : swapsWith (.Call (.Name x p) (e :: es) [] pos0) (some (.Name y p1)) pos1.line X.env = pure false := by rfl) (hs2 : swapsWith e2 (some (.Name y2 p2)) pos2.line X.env = pure false := by rfl)
    (hs5 : swapsWith app5 none pos6.line X.env = pure false := by rfl) (hs6 : swapsWith app6 none pos7.line X.env = pure false := by rfl) (hse : ∀ x, foldedSetIterable (.Name y p4) X.env x = pure x := by intro _; rfl)
    (hn2 : (assignEach [.Name z1 q1, .Name z2 q2] X.env).length = 2 := by rfl) (hst2 : (assignEach [.Name z1 q1, .Name z2 q2] X.env).findIdx? (·.1) = none := by rfl)
    (hp1 : (assignEach (.Name z1 q1 :: [.Name z2 q2]) X.env).map (·.2) = assign (.Name z1 q1) X.env :: (assignEach [.Name z2 q2] X.env).map (·.2) := by rfl)
    (hp2 : (assignEach (.Name z2 q2 :: []) X.env).map (·.2) = assign (.Name z2 q2) X.env :: (assignEach [] X.env).map (·.2) := by rfl) :
    xO X Cl W (.Assign [.Name y p1] (.Call (.Name x p) (e :: es) [] pos0) pos1 :: .Assign [.Name y2 p2] e2 pos2 :: .If c3 sa [] pos3 :: .For (.Tuple [.Name z1 q1, .Name z2 q2] tk0 q4) (.Name y p4) [.If cc4 sa4 [] pos4, .Expr app5 pos6, .Expr app6 pos7] [] pos8 :: srest) (xbd i j k1 k2 kx F n g f2 t3 t4 rest) :=
  PSs.imp (pss_cons (ps_set hN hi hx (pe_callS (E := WE W) G hr hg hm hk hb (fun σ => passAt tk σ) ha hdb he hpl) hs hf) (pss_cons (ps_set hN hj hxj h2 hs2 hfj) (pss_cons (ps_if h3 pss_never pss_nil) (pss_cons (ps_for hpo hc (pi_list hv) (pg_tup hc (pgs_cons (pg_name hN hk1 hx1 hf1) (pgs_cons (pg_name hN hk2 hx2 hf2) pgs_nil hp2) hp1) hn2 hst2) (pss_cons (ps_if h4 pss_never pss_nil) (pss_cons (ps_expr ha5 hs5) (pss_cons (ps_expr ha6 hs6) pss_nil))) hse) hrest)))) fun D σ H ⟨H0, Z, ρ, o, I, e, q⟩ => by
  unfold xbd at e
  split at e
  · rename_i hno
    simp only [Bool.and_eq_true, decide_eq_true_eq] at hno
    obtain ⟨hno, hij, hi1, hi2, h12, hil, hl1, hl2⟩ := hno
    split at e
    · rename_i vs e1
      split at e
      · rename_i as vw
        split at e
        · rename_i hn
          split at e
          · rename_i ds eF
            split at e
            · rename_i hfinds
              obtain ⟨hfin, hline⟩ := hfinds
              split at e
              · rename_i v2 ef2
                split at e
                · rename_i d2 hd2
                  split at e
                  · rename_i et3
                    split at e
                    · rename_i htests
                      refine kH I.di e1 (fun er z => nomatch z) fun vs' xs0 H1 ev s1 hvs I1 => ?_
                      cases ev
                      refine ⟨Zo Z σ ρ, as, ds, ⟨fun b z => I1.yy z, I1.tb⟩, hvs.stab I.di vw, hn, eF, fun p xs H2 s2 np hp hd hfx => ?_⟩
                      obtain ⟨qs, cs, ql, cl, qnd, qf⟩ := hfx
                      have I2 : SI X.K Cl H0 Z H1 σ ρ := I.jk s1
                      have hdl := hd.length
                      let S : Addr → Prop := fun a => H1 a = none ∧ ∃ zs, H2 a = some (.lst zs)
                      have hS1 : ∀ a, S a → H1 a = none := fun a h => h.1
                      have hS2 : ∀ a, S a → H2 a ≠ none := fun a h => by
                        obtain ⟨_, zs, h⟩ := h
                        rw [h]; intro z; cases z
                      have hS0 : ∀ a, S a → H0 a = none := fun a h => I2.same.free (hS1 a h)
                      have hSp : S p := ⟨np, xs, hp⟩
                      have hlen : σ.length = ρ.length := I.di.len.symm
                      have set_id : ∀ (τ : St) (m : Nat) (x : Option V), τ[m]? = some x → τ.set m x = τ := fun τ m x h => by
                        obtain ⟨h1, h2⟩ := List.getElem?_eq_some_iff.mp h
                        rw [← h2]
                        exact List.set_getElem_self h1
                      have I3 := (I2.hid s2 hS1 hS2).vaq (i := i) (x := some (.ref p))
                      generalize hσ1 : σ.set i (some (.ref p)) = σ1 at I3
                      generalize hρ1 : ρ.set i .un = ρ1 at I3 ef2 et3 e htests
                      have e1i : σ1[i]? = some (some (.ref p)) := by rw [← hσ1, List.getElem?_set, if_pos rfl, if_pos (by rw [hlen]; exact hil)]
                      have own1 : ∀ a, vg σ1 ρ1 a → vg σ ρ a := fun a ⟨m, hm⟩ => ⟨m, by
                        rw [← hσ1, ← hρ1] at hm
                        exact jw (s := .un) (fun z => nomatch z) hm⟩
                      have l1 : σ1.length = ρ.length := by rw [← hσ1, List.length_set, hlen]
                      subst hσ1
                      -- the second name
                      refine jt I3.di ef2 (fun er z => nomatch z) fun v2' x2 H3 ev2 s3 hv2 _ => ?_
                      cases ev2
                      have I3' := I3.jk s3
                      have hx2 := hv2.stab I3.di hd2
                      have I5 := I3'.jx (i := j) hx2
                      generalize hσ2 : (σ.set i (some (.ref p))).set j (some x2) = σ2 at I5
                      generalize hρ2 : ρ1.set j (.dat d2) = ρ2 at I5 et3 e htests
                      have e2i : σ2[i]? = some (some (.ref p)) := by rw [← hσ2, List.getElem?_set_ne (Ne.symm hij)]; exact e1i
                      have l2 : σ2.length = ρ.length := by rw [← hσ2, List.length_set, l1]
                      have own2 : ∀ a, vg σ2 ρ2 a → vg σ ρ a := fun a ⟨m, hm⟩ => own1 a ⟨m, by
                        rw [← hσ2, ← hρ2] at hm
                        exact jw (s := .dat d2) (fun z => nomatch z) hm⟩
                      have np2 : ¬ Zo Z σ2 ρ2 p := fun z => by
                        rcases z with z | z
                        · exact I2.di.live p z np
                        · exact I2.di.jay (own2 p z) np
                      have hdp2 : Dp X.K (hide H3 (Zo Z σ2 ρ2)) (.ref p) (.list ds) := .lst (Rd.of (vc np2 (s3.at hp))) (DpAll.same (kf s3 fun b hb => .inl (by
                        rcases hb with hb | hb
                        · exact .inl (.inl hb)
                        · exact .inl (.inr (own2 b hb)))) hd)
                      have V4 := (I5.less (Z := Z) fun a h => .inl h).di.jx (i := i) hdp2
                      rw [set_id σ2 i _ e2i] at V4
                      subst hσ2
                      refine qz V4 et3 (fun er z => by cases z) fun b3 H5 eb3 s5 _ => ?_
                      cases eb3
                      rw [if_neg Bool.false_ne_true]
                      have s25 : Same Cl H2 H5 := s3.trans s5
                      have I5' := I5.jk s5
                      generalize hσ3 : (σ.set i (some (.ref p))).set j (some x2) = σ3 at I5' e2i l2 own2
                      generalize hρ3 : (ρ2.set k1 .un).set k2 .un = ρ3 at e htests
                      have own3 : ∀ (a1 a2 : Option V) (a : Addr), vg ((σ3.set k1 a1).set k2 a2) ρ3 a → vg σ ρ a := fun a1 a2 a ⟨m, hm⟩ => own2 a ⟨m, by
                        rw [← hρ3] at hm
                        exact jw (s := .un) (fun z => nomatch z) (jw (s := .un) (fun z => nomatch z) hm)⟩
                      have I7 : ∀ (a1 a2 : Option V), SI X.K Cl H0 (fun a => Z a ∨ S a) H5 ((σ3.set k1 a1).set k2 a2) ρ3 := fun a1 a2 => by
                        rw [← hρ3]
                        exact (I5'.vaq (i := k1) (x := a1)).vaq (i := k2) (x := a2)
                      have sid : (σ3.set k1 (σ3[k1]'(by omega))).set k2 (σ3[k2]'(by omega)) = σ3 := by
                        rw [set_id σ3 k1 _ (List.getElem?_eq_getElem _), set_id σ3 k2 _ (List.getElem?_eq_getElem _)]
                      have set3 : ∀ (a1 a2 b1 b2 : Option V), ((((σ3.set k1 a1).set k2 a2).set k1 b1).set k2 b2) = (σ3.set k1 b1).set k2 b2 := fun a1 a2 b1 b2 => by
                        refine List.ext_getElem? fun m => ?_
                        simp only [List.getElem?_set, List.length_set]
                        by_cases z2 : k2 = m
                        · subst z2; simp
                        · by_cases z1 : k1 = m
                          · subst z1; simp [z2]
                          · simp [z2, z1]
                      have gk1 : ρ3[k1]? = some .un := by rw [← hρ3, List.getElem?_set_ne (Ne.symm h12), List.getElem?_set, if_pos rfl, if_pos (by rw [← hρ2, ← hρ1, List.length_set, List.length_set]; exact hl1)]
                      have gk2 : ρ3[k2]? = some .un := by rw [← hρ3, List.getElem?_set, if_pos rfl, if_pos (by rw [← hρ2, ← hρ1, List.length_set, List.length_set, List.length_set]; exact hl2)]
                      have rid : ∀ {m : Nat}, ρ3[m]? = some .un → ρ3.set m .un = ρ3 := fun {m} h => by
                        obtain ⟨h1, h2⟩ := List.getElem?_eq_some_iff.mp h
                        rw [← h2]
                        exact List.set_getElem_self h1
                      refine ⟨_, e2i, p, rfl, ⟨xs, .inl (.inl (s25.at hp))⟩, fun t m σ' H' => (∃ a1 a2 : Option V, σ' = (σ3.set k1 a1).set k2 a2 ∧ SI X.K Cl H0 (fun a => Z a ∨ S a) H' σ' ρ3 ∧ H' p = some (.lst xs) ∧ TK H2 H' ∧ (∀ (j' : Nat) q zs, t ≤ j' → (qs[j']? = some q ∨ cs[j']? = some q) → H2 q = some (.lst zs) → H' q = some (.lst zs))) ∧ m = xs.length - t ∧ t ≤ xs.length,
                        ⟨_, ⟨_, _, sid.symm, by have z := I7 (σ3[k1]'(by omega)) (σ3[k2]'(by omega)); rw [sid] at z; exact z, s25.at hp, (TK.refl H2).same s25, fun j' q zs _ _ h => s25.at h⟩, rfl, Nat.zero_le _⟩, fun t m σ' H' => ?_⟩
                      rintro ⟨⟨a1, a2, rfl, I', hp', htk, hlive⟩, rfl, htl⟩
                      by_cases hlt : t < xs.length
                      · refine .inr ⟨⟨xs, xs[t], .inl (.inl hp'), List.getElem?_eq_getElem hlt⟩, fun σ5 H5 => ∃ a1 a2 : Option V, σ5 = (σ3.set k1 a1).set k2 a2 ∧ SI X.K Cl H0 (fun a => Z a ∨ S a) H5 σ5 ρ3 ∧ H5 p = some (.lst xs) ∧ TK H2 H5 ∧ (∀ (j' : Nat) q zs, (t + 1) ≤ j' → (qs[j']? = some q ∨ cs[j']? = some q) → H2 q = some (.lst zs) → H5 q = some (.lst zs)),
                          fun σ5 H5 hI => ⟨xs.length - (t + 1), by omega, hI, rfl, hlt⟩, fun x H'' y => ?_⟩
                        obtain ⟨rfl, hx⟩ := y
                        have hx := hx xs (.inl (.inl hp'))
                        have hdt : ds[t]? = some (ds[t]'(by omega)) := List.getElem?_eq_getElem _
                        have hqt : qs[t]? = some (qs[t]'(by omega)) := List.getElem?_eq_getElem _
                        have hct : cs[t]? = some (cs[t]'(by omega)) := List.getElem?_eq_getElem _
                        have hmem := List.mem_of_getElem? hdt
                        have hfx := qf t x _ _ _ hx hdt hqt hct
                        generalize ds[t]'(by omega) = dt at *
                        generalize qs[t]'(by omega) = qn at *
                        generalize cs[t]'(by omega) = cn at *
                        obtain ⟨⟨T0, T, ys, lf, zs, ws, us, cc, rfl, rfl, h1, h4', h5', h6, h7, h8, h9, h10, h11⟩, ne, nec, nw, nwc⟩ := hfx
                        have hfo := List.all_eq_true.mp hfin _ hmem
                        unfold ybA at hfo
                        dsimp only at hfo
                        rw [h7] at hfo
                        dsimp only at hfo
                        simp only [Bool.and_eq_true] at hfo
                        obtain ⟨sl1, ⟨sw1, sline⟩, sc1, scline⟩ := hfo
                        have nd := List.nodup_append.mp qnd
                        have hqc : qn ≠ cn := nd.2.2 qn (List.mem_of_getElem? hqt) cn (List.mem_of_getElem? hct)
                        have hSq : S qn := ⟨nw, zs, h8⟩
                        have hSc : S cn := ⟨nwc, us, h10⟩
                        have hq'' : H'' qn = some (.lst zs) := hlive t qn zs (Nat.le_refl _) (.inl hqt) h8
                        have hc'' : H'' cn = some (.lst us) := hlive t cn us (Nat.le_refl _) (.inr hct) h10
                        let Zq : Addr → Prop := fun c => Z c ∨ (S c ∧ c ≠ qn ∧ c ≠ cn)
                        have I8 : ∀ (b1 b2 : Option V), SI X.K Cl H0 (fun a => Z a ∨ S a) H'' ((σ3.set k1 b1).set k2 b2) ρ3 := fun b1 b2 => by
                          have w := (I'.vaq (i := k1) (x := b1)).vaq (i := k2) (x := b2)
                          rw [rid gk1, rid gk2, set3] at w
                          exact w
                        have hz0 : ∀ (b1 b2 : Option V) (c : Addr), Zo Zq ((σ3.set k1 b1).set k2 b2) ρ3 c → ZP (Zo Z σ ρ) p c ∨ ∃ zs, H2 c = some (.lst zs) := fun b1 b2 c hc => by
                          rcases hc with (hc | ⟨hc, _⟩) | hc
                          · exact .inl (.inl (.inl hc))
                          · exact .inr hc.2
                          · exact .inl (.inl (.inr (own3 b1 b2 c hc)))
                        refine ⟨T0, [.ref T, .ref cn], rfl, SqT.same qd (SqT.view (Z2 := Zo Zq ((σ3.set k1 a1).set k2 a2) ρ3) h1 htk (hz0 a1 a2)), rfl, .ref T, _, rfl, .ref cn, [], rfl, rfl, ?_⟩
                        rw [set3]
                        have J8 := I8 (some (.ref T)) (some (.ref cn))
                        have z8 := hz0 (some (.ref T)) (some (.ref cn))
                        have V8 : DI X.K Cl Zq H'' ((σ3.set k1 (some (.ref T))).set k2 (some (.ref cn))) ρ3 := (J8.less fun c h => h.imp id fun h => h.1).di
                        have nq8 : ∀ a, a = qn ∨ a = cn → H1 a = none → ¬ Zo Zq ((σ3.set k1 (some (.ref T))).set k2 (some (.ref cn))) ρ3 a := fun a ha hn z => by
                          rcases z with (z | z) | z
                          · exact I2.di.live a z hn
                          · exact ha.elim z.2.1 z.2.2
                          · exact I2.di.jay (own3 _ _ a z) hn
                        generalize hσ8 : (σ3.set k1 (some (.ref T))).set k2 (some (.ref cn)) = σ8 at J8 z8 V8 nq8
                        have gq : Dp X.K (hide H'' (Zo Zq σ8 ρ3)) (.ref qn) (.list ws) := .lst (Rd.of (vc (nq8 qn (.inl rfl) nw) hq'')) (DpAll.scalar sw1 h9)
                        have gc : Dp X.K (hide H'' (Zo Zq σ8 ρ3)) (.ref cn) (.list cc) := .lst (Rd.of (vc (nq8 cn (.inr rfl) nwc) hc'')) (DpAll.scalar sc1 h11)
                        have gT : Dp X.K (hide H'' (Zo Zq σ8 ρ3)) (.ref T) (.tuple lf) := .tup (SqT.view h4' htk z8) (DpAll.one h5' h6 h7 sl1 gq)
                        have V9 := V8.jx (i := k1) gT
                        have V10 := V9.jx (i := k2) (Dp.same kbb gc)
                        have hs8 : (σ8.set k1 (some (.ref T))).set k2 (some (.ref cn)) = σ8 := by rw [← hσ8, set3]
                        rw [hs8] at V10
                        obtain ⟨ls', cs', hde, t4e⟩ := htests _ hmem
                        cases hde
                        refine qz V10 t4e (fun er z => by cases z) fun b4 H6 eb4 s6 V12 => ?_
                        cases eb4
                        rw [if_neg Bool.false_ne_true]
                        have J10 := J8.jk s6
                        have e8k1 : σ8[k1]? = some (some (.ref T)) := by rw [← hσ8, List.getElem?_set_ne (Ne.symm h12), List.getElem?_set, if_pos rfl, if_pos (by rw [l2]; exact hl1)]
                        have e8k2 : σ8[k2]? = some (some (.ref cn)) := by rw [← hσ8, List.getElem?_set, if_pos rfl, if_pos (by rw [List.length_set, l2]; exact hl2)]
                        have hat : atI ys ((kx : Nat) : Int) = some (.ref qn) := by
                          have hlt := (List.getElem?_eq_some_iff.mp h6).1
                          unfold atI ixN
                          rw [if_pos (Int.natCast_nonneg _), if_pos (by omega), Int.toNat_natCast]
                          exact h6
                        have hT : SqT X.K H6 T ys := SqT.same s6.d (SqT.same qd (SqT.view (Z2 := Zo Zq σ8 ρ3) h4' htk z8))
                        refine ⟨.ref T, e8k1, T, ys, ((kx : Nat) : Int), .ref qn, rfl, rfl, hT, hat, .inl ⟨rfl, zs, .inl (.inl (s6.at hq''))⟩, jt (f := eC c5) J10.di rfl (fun er z => by cases z) fun v9 y9 H8 ev9 s8 hv9 I9 => ?_⟩
                        have s78 := s6.trans s8
                        have hq8 := s78.at hq''
                        have hc8 := s78.at hc''
                        have hzl := h9.length
                        have hbd := js sline
                        refine ⟨qn, zs, y9, rfl, rfl, hq8, by omega, ?_⟩
                        have K8 := (J10.jk s8).qaE (zs := zs ++ [y9]) (.inr hSq) (hS0 qn hSq) hq8
                        have hc9 : upd H8 qn (.lst (zs ++ [y9])) cn = some (.lst us) := by rw [upd_ne (Ne.symm hqc)]; exact hc8
                        have hp9 : upd H8 qn (.lst (zs ++ [y9])) p = some (.lst xs) := by rw [upd_ne (Ne.symm ne)]; exact s78.at hp'
                        have tk9 := (htk.same s78).qaE (ws := zs ++ [y9]) hq8
                        have lv9 : ∀ (j' : Nat) q zs', (t + 1) ≤ j' → (qs[j']? = some q ∨ cs[j']? = some q) → H2 q = some (.lst zs') → upd H8 qn (.lst (zs ++ [y9])) q = some (.lst zs') := fun j' q zs' hj' hq' hz' => by
                          have hnq : q ≠ qn := fun z => by
                            rcases hq' with hq' | hq'
                            · rw [z] at hq'
                              obtain ⟨l1, e1⟩ := List.getElem?_eq_some_iff.mp hq'
                              obtain ⟨l2, e2⟩ := List.getElem?_eq_some_iff.mp hqt
                              exact List.pairwise_iff_getElem.mp nd.1 t j' l2 l1 (by omega) (e2.trans e1.symm)
                            · exact nd.2.2 qn (List.mem_of_getElem? hqt) q (List.mem_of_getElem? hq') z.symm
                          rw [upd_ne hnq]
                          exact s78.at (hlive j' q zs' (by omega) hq' hz')
                        generalize upd H8 qn (.lst (zs ++ [y9])) = H9 at K8 hc9 hp9 tk9 lv9 ⊢
                        refine ⟨.ref cn, e8k2, .inl ⟨rfl, us, .inl (.inl hc9)⟩, jt (f := eC c6) K8.di rfl (fun er z => by cases z) fun v10 y10 H10 ev10 s10 hv10 I10 => ?_⟩
                        have hc10 := s10.at hc9
                        have hul := h11.length
                        have hbd2 := js scline
                        refine ⟨cn, us, y10, rfl, rfl, hc10, by omega, some (.ref T), some (.ref cn), hσ8.symm, (K8.jk s10).qaE (.inr hSc) (hS0 cn hSc) hc10, by rw [upd_ne (Ne.symm nec)]; exact s10.at hp9, (tk9.same s10).qaE hc10, fun j' q zs' hj' hq' hz' => ?_⟩
                        have hnc : q ≠ cn := fun z => by
                          rcases hq' with hq' | hq'
                          · exact nd.2.2 q (List.mem_of_getElem? hq') cn (List.mem_of_getElem? hct) z
                          · rw [z] at hq'
                            obtain ⟨l1, e1⟩ := List.getElem?_eq_some_iff.mp hq'
                            obtain ⟨l2, e2⟩ := List.getElem?_eq_some_iff.mp hct
                            exact List.pairwise_iff_getElem.mp nd.2.1 t j' l2 l1 (by omega) (e2.trans e1.symm)
                        rw [upd_ne hnc]
                        exact s10.at (lv9 j' q zs' hj' hq' hz')
                      · have het : t = xs.length := by omega
                        exact .inl ⟨⟨xs, .inl (.inl hp'), by omega⟩, H0, Z, ρ3, o, I'.less fun a h => .inl h, e, q⟩
                    · cases e
                  · cases e
                · cases e
              · cases e
            · cases e
          · cases e
        · cases e
      · cases e
    · cases e
  · cases e
end
end DL
namespace FN
open PySem PySem.Spec PyProof.Rows L2 DL
noncomputable section
def ybD : ya → Option D := jbz 8 (qH (eV 0) (qx) (xp (eC (.int 8)))) (eG ky (qa (e2 ze (eV 0) (eC (.int 8))) (za)))
def ja9 : TY := mkY 1 1 ybD
end
noncomputable section
def kae : ya → Option wm := v8 1 (jn (vP 0)) (gT 2 (xb 2 (xb 3 (ki)))) (vaF 1 4 5 (kq 0 (ve (qa (eV 2) (qa (eV 3) (za))))) (eC .none) (qL 1 (ve (qa (eV 2) (qa (e2 gSub (eV 3) (eC (.int 1))) (za))))) (ve (qa (eV 2) (qa (eV 3) (za)))) (jb FN.zk 2 (qa (e2 ze (eV 4) (eC (.int 8))) (qa (eV 5) (za)))) (tV (e2 zr (e2 ze (eV 4) (eC (.int 7))) (eC (.int 0)))) (ju (tV (e2 zr (e2 ze (eV 4) (eC (.int 7))) (eC (.int 1)))) (tV (e2 jH (eV 5) (eC .none)))) (jae (mxL [(1, false), (2, false), (3, false), (17, false), (18, true)]) (fCt) (zaM)))
def xae : wm → Option wm := waN 6 kae
def zT : ya → Option wm := vaw 1 (jm (jn (eV 0)) (gN 2) (ka (je 3 (ve (qa (e2 ze (eV 2) (eC (.int 3))) (qa (e2 ze (eV 2) (eC (.int 4))) (za))))) (qg (wu (tV (e2 zr (e2 ze (eV 2) (eC (.int 0))) (eC (.int 2)))) (tV (wY true 1 (eV 3)))) (wI 1 (eV 3) (eV 2)) (zh))))
def qT : TDc := jbA 1 4 zT
def qaj : ya → Option (List D) := ybd 1 2 3 5 1 FN.xae FN.qT (qa (eV 0) (za)) (zv (za)) (jn (eV 0)) (gN 4) (ve (qa (e2 ze (eV 4) (eC (.int 3))) (qa (e2 ze (eV 4) (eC (.int 4))) (za)))) (wu (tV (e2 zr (e2 ze (eV 4) (eC (.int 0))) (eC (.int 2)))) (tV (qaz true 2 (eV 5)))) (kaq 2 (eV 5)) (qa (eV 4) (za)) FN.ja9
def xaJ : TF := mkT 1 6 qaj
def qaK : DF := tfD xaJ
def jU : FS := yas (zd (jb FN.zk 2 (qa (eV 0) (qa (eV 1) (za))))) (jae (mxL [(1, false), (2, false), (3, false), (17, false), (18, true)]) (zd (eC .none)) (zaM))
def yi : DF := qj 2 2 jU
def jaC : FS := qaJ 1 (ka (jm (jn (eV 0)) (gN 2) (qg (wu (tV (e2 zr (e2 ze (eV 2) (eC (.int 0))) (eC (.int 2)))) (tV (wY true 1 (ve (qa (e2 ze (eV 2) (eC (.int 3))) (qa (e2 ze (eV 2) (eC (.int 4))) (za))))))) (wI 1 (ve (qa (e2 ze (eV 2) (eC (.int 3))) (qa (e2 ze (eV 2) (eC (.int 4))) (za)))) (eV 2)) (zh))) (qaJ 3 (ka (jm (jn (vP 1)) (gT 2 (xb 4 (xb 5 (ki)))) (ka (je 2 (kq 1 (ve (qa (eV 4) (qa (eV 5) (za)))))) (ka (je 6 (eC .none)) (ka (qg (tV (e2 zr (e2 ze (eV 2) (eC (.int 7))) (eC (.int 1)))) (je 6 (jb FN.yi 2 (qa (eG ky (qa (e2 ze (eV 2) (eC (.int 8))) (za))) (qa (eC .none) (za))))) (qg (tV (e2 jH (qL 3 (ve (qa (eV 4) (qa (e2 gSub (eV 5) (eC (.int 1))) (za))))) (eC .none))) (je 6 (jb FN.yi 2 (qa (eG ky (qa (e2 ze (eV 2) (eC (.int 8))) (za))) (qa (kq 3 (ve (qa (eV 4) (qa (e2 gSub (eV 5) (eC (.int 1))) (za))))) (za))))) (zh))) (wI 3 (ve (qa (eV 4) (qa (eV 5) (za)))) (eV 6)))))) (ka (yl 7 (zv (za))) (ka (jm (jn (eV 0)) (gN 2) (ka (je 8 (ve (qa (e2 ze (eV 2) (eC (.int 3))) (qa (e2 ze (eV 2) (eC (.int 4))) (za))))) (qg (wu (tV (e2 zr (e2 ze (eV 2) (eC (.int 0))) (eC (.int 2)))) (wu (tV (e2 zr (e2 ze (kq 1 (eV 8)) (eC (.int 2))) (e2 ze (eV 2) (eC (.int 2))))) (tV (e2 jH (kq 3 (eV 8)) (eC .none))))) (zy 7 (ve (qa (eV 2) (qa (kq 3 (eV 8)) (za))))) (zh)))) (zd (eV 7)))))))
def yV : DF := qj 1 9 jaC
def yac : FS := ka (je 2 (jb FN.jf 3 (qa (eV 0) (qa (eV 1) (qa (eC (.int 4)) (za)))))) (ka (qg (tV (e2 yv (eV 2) (eC (.int 2)))) (zd (jI [3] (st1 3) (zz (qa (jb FN.jf 3 (qa (eV 0) (qa (e2 kc (eV 1) (eC (.int 1))) (qa (eC (.int 6)) (za))))) (za))) (fun _ => some (.ok true)) (jb FN.jf 3 (qa (eV 0) (qa (e2 kc (e2 kc (eV 1) (eC (.int 1))) (eV 3)) (qa (eC (.int 3)) (za))))))) (zh)) (ka (qg (tV (e2 zr (eV 2) (eC (.int 2)))) (zd (zv (qa (jb FN.jf 3 (qa (eV 0) (qa (e2 kc (eV 1) (eC (.int 1))) (qa (eC (.int 3)) (za))))) (qa (jb FN.jf 3 (qa (eV 0) (qa (e2 kc (eV 1) (eC (.int 2))) (qa (eC (.int 3)) (za))))) (qa (eC (.int 77)) (za)))))) (zh)) (zd (jI [3] (st1 3) (zz (qa (jb FN.jf 3 (qa (eV 0) (qa (e2 kc (eV 1) (eC (.int 1))) (qa (eC (.int 5)) (za))))) (za))) (fun _ => some (.ok true)) (jb FN.jf 3 (qa (eV 0) (qa (e2 kc (e2 kc (eV 1) (eC (.int 1))) (eV 3)) (qa (eC (.int 256)) (za)))))))))
def jN : DF := qj 2 4 yac
def ya4 : FS := ka (je 1 (jb FN.yZ 1 (qa (eV 0) (za)))) (ka (yl 2 (zv (za))) (ka (jm (zz (qa (jb FN.jf 3 (qa (eV 1) (qa (eC (.int 0)) (qa (eC (.int 13)) (za))))) (za))) (gN 3) (ka (je 4 (e2 kc (eC (.int 1)) (e2 xK (eC (.int 8)) (eV 3)))) (ka (je 5 (e2 ze (zv (qa (eC (.int 2)) (qa (eC (.int 2)) (qa (eC (.int 2)) (qa (eC (.int 2)) (qa (eC (.int 2)) (qa (eC (.int 0)) (qa (eC (.int 3)) (za))))))))) (jb FN.jf 3 (qa (eV 1) (qa (eV 4) (qa (eC (.int 7)) (za))))))) (ka (je 6 (ve (qa (eV 5) (qa (eC (.int 9)) (qa (e2 kc (e2 xK (eC (.int 2)) (eV 3)) (jb FN.jf 3 (qa (eV 1) (qa (eV 4) (qa (eC (.int 2)) (za)))))) (qa (e2 kc (eC (.int 1)) (jb FN.jf 3 (qa (eV 1) (qa (e2 kc (eV 4) (eC (.int 1))) (qa (eC (.int 2)) (za)))))) (qa (jb FN.jf 3 (qa (eV 1) (qa (e2 kc (eV 4) (eC (.int 2))) (qa (eC (.int 5)) (za))))) (za)))))))) (zy 2 (e2 qaI (eV 6) (ve (qa (eV 3) (qa (e2 kc (eC (.int 1)) (jb FN.jf 3 (qa (eV 1) (qa (eV 4) (qa (eC (.int 3)) (za)))))) (qa (jb FN.jf 3 (qa (eV 1) (qa (e2 kc (eV 4) (eC (.int 3))) (qa (eC (.int 2)) (za))))) (qa (jb FN.jN 2 (qa (eV 1) (qa (e2 kc (eV 4) (eC (.int 4))) (za)))) (za)))))))))))) (yav 2 (ka (je 7 (jI [8] (st1 8) (jn (eV 2)) (fun _ => some (.ok true)) (e2 qaI (qH (eV 8) (qx) (xp (eC (.int 8)))) (ve (qa (eG ky (qa (e2 ze (eV 8) (eC (.int 8))) (za))) (za)))))) (xbd 9 10 8 11 8 FN.xaJ 1 (qa (eV 2) (za)) (jb FN.yV 1 (qa (eV 7) (za))) (ju (kK (tV (e1 (qaW "list") (eV 9)))) (ju (tV (e2 gNe (eV 9) (eV 10))) (tV (e2 gNe (eV 2) (eV 7))))) (kK (tV (e1 (qaW "list") (eV 11)))) (zd (waI (e2 zr (jb FN.qaK 1 (qa (eV 2) (za))) (eV 10)) (e2 zr (eV 2) (eV 7)))))))))
def xad : DF := qj 1 12 ya4
end
end FN
namespace K46
open PySem PySem.Spec PyProof.Rows L2 DL
def yL (i : Nat) : Stmt := PySem.Challenge.pw_spoolbox_k46_sound_leaves.main.body.getD i (.Pass ⟨0, 0, 0, 0⟩)
abbrev kJ : Stmt := yL 31
theorem yw : FnScope ["script", "draws", "k", "rest", "turn", "mixed"] ["script"] (defScope kJ) := ⟨rfl, rfl, rfl, by decide +kernel, rfl, by decide +kernel, by decide +kernel⟩
abbrev jC : Stmt := yL 14
theorem jas : FnScope ["row", "at", "place"] ["row", "at"] (defScope jC) := ⟨rfl, rfl, rfl, by decide +kernel, rfl, by decide +kernel, by decide +kernel⟩
abbrev wN : Stmt := yL 13
theorem vR : FnScope ["row", "at", "stop", "number", "place"] ["row", "at"] (defScope wN) := ⟨rfl, rfl, rfl, by decide +kernel, rfl, by decide +kernel, by decide +kernel⟩
abbrev qK : Stmt := yL 17
theorem qag : FnScope ["row", "at", "top", "number", "stop"] ["row", "at", "top"] (defScope qK) := ⟨rfl, rfl, rfl, by decide +kernel, rfl, by decide +kernel, by decide +kernel⟩
abbrev vN : Stmt := yL 23
theorem wao : FnScope ["body", "at", "least", "top", "number", "stop"] ["body", "at", "least", "top"] (defScope vN) := ⟨rfl, rfl, rfl, by decide +kernel, rfl, by decide +kernel, by decide +kernel⟩
abbrev kaa : Stmt := yL 8
theorem wX : FnScope ["old", "new", "least", "front", "back"] ["old", "new"] (defScope kaa) := ⟨rfl, rfl, rfl, by decide +kernel, rfl, by decide +kernel, by decide +kernel⟩
abbrev wB : Stmt := yL 9
theorem yx : FnScope ["old", "parts", "front", "back", "middle", "new"] ["old", "parts"] (defScope wB) := ⟨rfl, rfl, rfl, by decide +kernel, rfl, by decide +kernel, by decide +kernel⟩
abbrev xt : Stmt := yL 22
theorem zw : FnScope ["body", "before", "front", "at", "back"] ["body", "before"] (defScope xt) := ⟨rfl, rfl, rfl, by decide +kernel, rfl, by decide +kernel, by decide +kernel⟩
abbrev wC : Stmt := yL 21
theorem x4 : FnScope ["body", "before", "content"] ["body", "before"] (defScope wC) := ⟨rfl, rfl, rfl, by decide +kernel, rfl, by decide +kernel, by decide +kernel⟩
abbrev wF : Stmt := yL 29
theorem xT : FnScope ["firsts", "contents", "track", "ordinal", "leaf", "before"] ["firsts"] (defScope wF) := ⟨rfl, rfl, rfl, by decide +kernel, rfl, by decide +kernel, by decide +kernel⟩
abbrev vC : Stmt := yL 28
theorem vO : FnScope ["leaves", "firsts", "leaf", "spot"] ["leaves"] (defScope vC) := ⟨rfl, rfl, rfl, by decide +kernel, rfl, by decide +kernel, by decide +kernel⟩
abbrev jaK : Stmt := yL 25
theorem kco : FnScope ["leaf"] ["leaf"] (defScope jaK) := ⟨rfl, rfl, rfl, by decide +kernel, rfl, by decide +kernel, by decide +kernel⟩
abbrev jaj : Stmt := yL 27
theorem yaO : FnScope ["leaves", "contents", "seen", "pairs", "leaf", "spot"] ["leaves"] (defScope jaj) := ⟨rfl, rfl, rfl, by decide +kernel, rfl, by decide +kernel, by decide +kernel⟩
abbrev yC : Stmt := yL 35
theorem jaT : FnScope ["body", "before"] ["body", "before"] (defScope yC) := ⟨rfl, rfl, rfl, by decide +kernel, rfl, by decide +kernel, by decide +kernel⟩
abbrev kT : Stmt := yL 36
theorem qp : FnScope ["leaves", "first", "leaf", "contents", "track", "ordinal", "content", "out", "place"] ["leaves"] (defScope kT) := ⟨rfl, rfl, rfl, by decide +kernel, rfl, by decide +kernel, by decide +kernel⟩
abbrev vX : Stmt := yL 32
theorem kbD : FnScope ["draws", "k", "many"] ["draws", "k", "many"] (defScope vX) := ⟨rfl, rfl, rfl, by decide +kernel, rfl, by decide +kernel, by decide +kernel⟩
abbrev vB : Stmt := yL 34
theorem zK : FnScope ["draws", "k", "word", "n"] ["draws", "k"] (defScope vB) := ⟨rfl, rfl, rfl, by decide +kernel, rfl, by decide +kernel, by decide +kernel⟩
abbrev zaB : Stmt := yL 37
theorem zV : FnScope ["script", "draws", "leaves", "k", "at", "kind", "fields", "kept", "leaf", "told", "due", "content"] ["script"] (defScope zaB) := ⟨rfl, rfl, rfl, by decide +kernel, rfl, by decide +kernel, by decide +kernel⟩
abbrev jax : Stmt := inClass (yL 1) 0
theorem kbw : FnScope ["self", "at"] ["self", "at"] (defScope jax) := ⟨rfl, rfl, rfl, by decide +kernel, rfl, by decide +kernel, by decide +kernel⟩
structure Txt (K : PySem.W.Frag) (mg : Str → Option Value) (Cl : Nat → Addr) where
  vao : Addr
  zag : FuncData
  yaG : Fun K "_law_draws" "_law_draws" kJ vao zag
  xbj : mg "_law_draws" = some (.ref vao)
  xZ : Binds K zag ["script"] []
  qab : Addr
  z5 : FuncData
  wax : Fun K "end_of_steps" "end_of_steps" jC qab z5
  vaY : mg "end_of_steps" = some (.ref qab)
  qC : Binds K z5 ["row", "at"] []
  yat : Addr
  yao : FuncData
  yaL : Fun K "get_steps" "get_steps" wN yat yao
  kbq : mg "get_steps" = some (.ref yat)
  jB : Binds K yao ["row", "at"] []
  xao : Addr
  jag : FuncData
  xaG : Fun K "step_up_to" "step_up_to" qK xao jag
  kbj : mg "step_up_to" = some (.ref xao)
  yI : Binds K jag ["row", "at", "top"] []
  xat : Addr
  kao : FuncData
  kat : Fun K "number_at" "number_at" vN xat kao
  xaL : mg "number_at" = some (.ref xat)
  qV : Binds K kao ["body", "at", "least", "top"] []
  xaO : Addr
  kaG : FuncData
  kaO : Fun K "change" "change" kaa xaO kaG
  qbk : mg "change" = some (.ref xaO)
  wal : Binds K kaG ["old", "new"] []
  vK : Addr
  jai : FuncData
  qaH : Fun K "changed" "changed" wB vK jai
  kbO : mg "changed" = some (.ref vK)
  va4 : Binds K jai ["old", "parts"] []
  kN : Addr
  kL : FuncData
  y6 : Fun K "content_of_change" "content_of_change" xt kN kL
  kaC : mg "content_of_change" = some (.ref kN)
  xN : Binds K kL ["body", "before"] []
  zab : Addr
  j5 : FuncData
  jab : Fun K "read_content" "read_content" wC zab j5
  vax : mg "read_content" = some (.ref zab)
  z9 : Binds K j5 ["body", "before"] []
  wag : Addr
  wab : FuncData
  vaC : Fun K "contents_of" "contents_of" wF wag wab
  xa5 : mg "contents_of" = some (.ref wag)
  kae : Binds K wab ["firsts"] []
  vab : Addr
  w5 : FuncData
  yax : Fun K "first_leaves" "first_leaves" vC vab w5
  yaY : mg "first_leaves" = some (.ref vab)
  zT : Binds K w5 ["leaves"] []
  qbE : Addr
  zbk : FuncData
  kb6 : Fun K "own" "own" jaK qbE zbk
  vct : mg "own" = some (.ref qbE)
  ybD : Binds K zbk ["leaf"] []
  waK : Addr
  jaB : FuncData
  xaY : Fun K "sound" "sound" jaj waK jaB
  qbx : mg "sound" = some (.ref waK)
  qaj : Binds K jaB ["leaves"] []
  yab : Addr
  v5 : FuncData
  xab : Fun K "_law_content" "_law_content" yC yab v5
  xax : mg "_law_content" = some (.ref yab)
  kax : Binds K v5 ["body", "before"] []
  waB : Addr
  qau : FuncData
  waT : Fun K "_law_due" "_law_due" kT waB qau
  zbE : mg "_law_due" = some (.ref waB)
  waS : Binds K qau ["leaves"] []
  zaH : Addr
  vaB : FuncData
  vq : Fun K "_law_at" "_law_at" vX zaH vaB
  zt : mg "_law_at" = some (.ref zaH)
  xm : Binds K vaB ["draws", "k", "many"] []
  zau : Addr
  qap : FuncData
  kaL : Fun K "_law_body" "_law_body" vB zau qap
  qbr : mg "_law_body" = some (.ref zau)
  yac : Binds K qap ["draws", "k"] []
  jbE : Addr
  vaT : FuncData
  yct : Fun K "law" "law" zaB jbE vaT
  kcY : mg "law" = some (.ref jbE)
  qcZ : Binds K vaT ["script"] []
  xI : mg "range" = none
  zaK : mg "min" = none
  wH : mg "len" = none
  qaT : mg "abs" = none
  xac : mg "int" = none
  jQ : mg "list" = none
  j9 : mg "sorted" = none
  zaT : mg "set" = none
  qJ : mg "isinstance" = none
  zap : Tok
  jaH : mg "MOST_STEPS" = some (.int 6 zap)
  jap : Tok
  jbk : mg "STEP_LIMIT" = some (.int 1099511627776 jap)
  yaB : Tok
  yaT : mg "TOP_STEP" = some (.int 1099511627775 yaB)
  kab : Tok
  kaY : mg "MOST_CONTENT" = some (.int 200 kab)
  wbk : Tok
  qbP : mg "UNIT" = some (.int 2 wbk)
  kad : Addr
  qaZ : FuncData
  zN : InT K "SpoolboxError.__init__" jax kad qaZ
  zbr : ExT K mg "Truncated" (Cl 3) kad
  vbk : ExT K mg "OutOfRange" (Cl 1) kad
  ka5 : ExT K mg "LooseNumber" (Cl 2) kad
  waH : ExT K mg "BadBody" (Cl 18) kad
  kac : ExT K mg "BadChange" (Cl 17) kad
  ybk : mg "Truncated" = some (.ref (Cl 3))
  qa6 : mg "OutOfRange" = some (.ref (Cl 1))
  zaZ : mg "LooseNumber" = some (.ref (Cl 2))
  xbk : mg "BadChange" = some (.ref (Cl 17))
  xaT : mg "BadBody" = some (.ref (Cl 18))
  wap : ErF K (Cl 3)
  qac : ErF K (Cl 2)
  vag : ErF K (Cl 1)
  vap : ErF K (Cl 17)
  kaT : ErF K (Cl 18)
  jau : PySem.W.exmOne K (.ref (Cl 3)) (.ref (Cl 3)) = some true
  qaq : PySem.W.exmOne K (.ref (Cl 3)) (.ref (Cl 1)) = some false
  yap : PySem.W.exmOne K (.ref (Cl 3)) (.ref (Cl 2)) = some false
  xap : PySem.W.exmOne K (.ref (Cl 2)) (.ref (Cl 3)) = some false
  wai : PySem.W.exmOne K (.ref (Cl 2)) (.ref (Cl 1)) = some false
  yag : PySem.W.exmOne K (.ref (Cl 2)) (.ref (Cl 2)) = some true
  zaq : PySem.W.exmOne K (.ref (Cl 1)) (.ref (Cl 3)) = some false
  kap : PySem.W.exmOne K (.ref (Cl 1)) (.ref (Cl 1)) = some true
  vai : PySem.W.exmOne K (.ref (Cl 1)) (.ref (Cl 2)) = some false
  wau : PySem.W.exmOne K (.ref (Cl 17)) (.ref (Cl 17)) = some true
  qae : PySem.W.exmOne K (.ref (Cl 18)) (.ref (Cl 18)) = some true
  y5 : PySem.W.exmOne K (.ref (Cl 17)) (.ref (Cl 18)) = some false
  x5 : PySem.W.exmOne K (.ref (Cl 3)) (.ref (Cl 18)) = some false
  jV : PySem.W.exmOne K (.ref (Cl 2)) (.ref (Cl 18)) = some false
  yX : PySem.W.exmOne K (.ref (Cl 1)) (.ref (Cl 18)) = some false
section
variable {P : Program} {w : World} {K : PySem.W.Frag} {mg : Str → Option Value} {base : Heap} {Cl : Nat → Addr}
theorem zac (T : Txt K mg Cl) : FnOk P w K mg base (L2.CX P w) 1 T.kad T.qaZ ["self", "at"] (yaD K) := by
  refine T.zN.F.okX kbw (fun vs H Q E ⟨a, C, y, e, _⟩ => by rw [e]; rfl) fun cdv A outer s H vs Q E hr h => ?_
  obtain ⟨a, C, y, rfl, h1, h2, h3, q⟩ := h
  refine ⟨_, pss_one (ps_ost (pv 0) (pv 1)), ?_⟩
  exact ⟨y, rfl, .ref a, rfl, a, C, rfl, h1, h2, .inl ⟨h3, fun dx n ne => q dx n ne⟩⟩
theorem jbX (T : Txt K mg Cl) : L2H.FnH P w K mg base (L2.CX P w) 1 T.kad T.qaZ ["self", "at"] (yaD K) := qch T.zN kbw fun cdv A outer s H E p => pss_one (ps_ost (pv 0) (pv 1))
theorem za6 (T : Txt K mg Cl) (yq : w.params.followText "set-order" = xC Cl) : FnOk P w K mg base (L2.CX P w) 1 T.vao T.zag ["script"] (xH K Cl 1 FN.yZ) := by
  refine xF (k := 0) T.yaG yw rfl rfl fun cdv A outer s H E hr => ?_
  refine tkS fun tk hp => ?_
  exact vd (y7 (i := 1) yw.nd (wav (kb))) (vd (jY hp rfl (wad T.xI (va (vu (call_min2 rfl) wbt T.zaK (by decide +kernel) (va (wb) (va (vu call_len qM T.wH PySem.boot_len (va (ja (pv 0)) (kb))) (kb)))) (kb))) (xR (i := 2) yw.nd) (vd (xu (i := 3) yw.nd (vu call_abs jcg T.qaT (by decide +kernel) (va (yk (ja (pv 0)) (ja (pv 2))) (kb)))) (we (zx (qh waR vaR (ja (pv 3)) (jcf (wb) (wb)) (nomark _)) (we (jY hp rfl (wad T.xI (va (wb) (kb))) (xR (i := 4) yw.nd) (we (zx (qh qaw jaw (ja (pv 3)) (wb) (nomark _)) (vd (yaE (i := 1) (pe_bm PySem.F.plainAttrs_list PySem.F.slot_list_append PySem.F.type_list_append mt_append (pv 1) (pa_cons (xau (qy call_int1 zav T.xac (by decide +kernel) (va (ja (pv 3)) (kb))) (wb)) pa_nil))) (we (xu (i := 3) yw.nd (xbG (ja (pv 3)) (wb))))) (yu))))) (vd (xu (i := 5) yw.nd (xau (qy call_int1 zav T.xac (by decide +kernel) (va (vk (xaj (ja (pv 3)) (wb)) (xaj (vk (ja (pv 2)) (wb)) (wb))) (kb))) (wb))) (vd (xu (i := 5) yw.nd (xau (qy call_int1 zav T.xac (by decide +kernel) (va (vk (vk (xaj (ja (pv 5)) (wb)) (xaj (wb) (ja (pv 2)))) (wb)) (kb))) (wb))) (vd (yaE (i := 1) (pe_bm PySem.F.plainAttrs_list PySem.F.slot_list_append PySem.F.type_list_append mt_append (pv 1) (pa_cons (xau (qy call_int1 zav T.xac (by decide +kernel) (va (ja (pv 5)) (kb))) (wb)) pa_nil))) (we (yaE (i := 1) (pe_bm PySem.F.plainAttrs_list PySem.F.slot_list_append PySem.F.type_list_append mt_append (pv 1) (pa_cons (xau (qy call_int1 zav T.xac (by decide +kernel) (va (xbG (ja (pv 5)) (wb)) (kb))) (wb)) pa_nil))))))))))) (we (jr (ja (pv 1)))))
theorem qaU (T : Txt K mg Cl) (yq : w.params.followText "set-order" = xC Cl) : FnOk P w K mg base (L2.CX P w) 3 T.qab T.z5 ["row", "at"] (xH K Cl 2 FN.xo) := by
  have qE := zac (P := P) (w := w) (base := base) T
  refine xF (k := 2) T.wax jas rfl rfl fun cdv A outer s H E hr => ?_
  refine tkS fun tk hp => ?_
  exact vd (jY hp rfl (va2 T.xI (va (ja (pv 1)) (va (vk (ja (pv 1)) (jP T.jaH)) (kb)))) (xR (i := 2) jas.nd) (vd (zx (qh waR vaR (ja (pv 2)) (vu call_len qM T.wH PySem.boot_len (va (ja (pv 0)) (kb))) (nomark _)) (we (yW (c := 3) T.zbr T.zN qE tk (hr.mono (by decide)) (vu call_len qM T.wH PySem.boot_len (va (ja (pv 0)) (kb))))) (yu)) (we (zx (qh kav zaw (yk (ja (pv 0)) (ja (pv 2))) (wb) (nomark _)) (we (jr (vk (ja (pv 2)) (wb)))) (yu))))) (we (jr (vk (ja (pv 1)) (jP T.jaH))))
theorem kbk (T : Txt K mg Cl) (yq : w.params.followText "set-order" = xC Cl) : FnOk P w K mg base (L2.CX P w) 4 T.yat T.yao ["row", "at"] (xH K Cl 2 FN.jv) := by
  have qE := zac (P := P) (w := w) (base := base) T
  have jaZ := qaU (P := P) (w := w) (base := base) T yq
  refine xF (k := 3) T.yaL vR rfl rfl fun cdv A outer s H E hr => ?_
  refine tkS fun tk hp => ?_
  exact vd (xu (i := 2) vR.nd (qi jaZ tk (hr.mono (by decide)) T.vaY T.wax.kp T.qC (va (ja (pv 0)) (va (ja (pv 1)) (kb))))) (vd (xu (i := 3) vR.nd (wb)) (vd (jY hp rfl (va2 T.xI (va (ja (pv 1)) (va (ja (pv 2)) (kb)))) (xR (i := 4) vR.nd) (we (xbb (i := 3) vR.nd (wcf (vcf (yk (ja (pv 0)) (ja (pv 4))) (wb)) (xaj (wb) (yH (ja (pv 4)) (ja (pv 1))))) ip_add))) (vd (zx (kaj (qaQ (qh waR vaR (yk (ja (pv 0)) (yH (ja (pv 2)) (wb))) (wb) (nomark _)) (kaP (qh waR vaR (ja (pv 3)) (jP T.jbk) (nomark _))))) (we (yW (c := 1) T.vbk T.zN qE tk (hr.mono (by decide)) (ja (pv 1)))) (yu)) (vd (zx (kaj (qad (qh qaw jaw (yH (ja (pv 2)) (ja (pv 1))) (wb) (nomark _)) (w7 (qh (op_eqD hr.units) qO (yk (ja (pv 0)) (yH (ja (pv 2)) (wb))) (wb) (nomark _))))) (we (yW (c := 2) T.ka5 T.zN qE tk (hr.mono (by decide)) (ja (pv 1)))) (yu)) (we (jr (vn (va (ja (pv 3)) (va (ja (pv 2)) (kb))))))))))
theorem ja6 (T : Txt K mg Cl) (yq : w.params.followText "set-order" = xC Cl) : FnOk P w K mg base (L2.CX P w) 5 T.xao T.jag ["row", "at", "top"] (xH K Cl 3 FN.vy) := by
  have jbr := kbk (P := P) (w := w) (base := base) T yq
  refine xF (k := 4) T.xaG qag rfl rfl fun cdv A outer s H E hr => ?_
  refine tkS fun tk hp => ?_
  exact vd (qbG rfl rfl (fun W1 pn1 xe1 tk1 hp1 => we (waw (jad rfl (vp (i := 3) qag.nd (vp (i := 4) qag.nd (xW)))) (qi jbr tk1 (hr.mono (by decide)) T.kbq T.yaL.kp T.jB (va (ja (pv 0)) (va (ja (pv 1)) (kb)))))) (ybP (N := fun c => DL.ErF K (Cl c)) rfl ⟨rfl, by decide, .inl T.ybk⟩ ⟨rfl, by decide, .inl T.qa6⟩ ⟨rfl, by decide, .inl T.zaZ⟩ (yaj (P := fun c b => DL.ErF K (Cl c) ∧ PySem.W.exmAny K (.ref (Cl c)) [.ref (Cl 3), .ref (Cl 1), .ref (Cl 2)] = some b) (.cons ⟨T.vag, jaM T.zaq T.kap T.vai⟩ (.cons ⟨T.qac, jaM T.xap T.wai T.yag⟩ (.cons ⟨T.wap, jaM T.jau T.qaq T.yap⟩ .nil)))) (fun xa oe pn => we (jr (vn (va (zP) (va (ja (pv 1)) (kb)))))) (waV rfl rfl tk))) (vd (zx (qh qaw jaw (ja (pv 3)) (ja (pv 2)) (nomark _)) (we (jr (vn (va (zP) (va (ja (pv 1)) (kb)))))) (yu)) (we (jr (vn (va (ja (pv 3)) (va (ja (pv 4)) (kb)))))))
theorem qbl (T : Txt K mg Cl) (yq : w.params.followText "set-order" = xC Cl) : FnOk P w K mg base (L2.CX P w) 6 T.xat T.kao ["body", "at", "least", "top"] (xH K Cl 4 FN.zB) := by
  have qE := zac (P := P) (w := w) (base := base) T
  have zbl := ja6 (P := P) (w := w) (base := base) T yq
  refine xF (k := 5) T.kat wao rfl rfl fun cdv A outer s H E hr => ?_
  refine tkS fun tk hp => ?_
  exact vd (waw (jad rfl (vp (i := 4) wao.nd (vp (i := 5) wao.nd (xW)))) (qi zbl tk (hr.mono (by decide)) T.kbj T.xaG.kp T.yI (va (ja (pv 0)) (va (ja (pv 1)) (va (ja (pv 3)) (kb)))))) (vd (zx (kaj (qaQ (qh op_isN ycf (ja (pv 4)) (zP) (nomark _)) (kaP (qh kav zaw (ja (pv 4)) (ja (pv 2)) (nomark _))))) (we (yW (c := 18) T.waH T.zN qE tk (hr.mono (by decide)) (wb))) (yu)) (we (jr (vn (va (ja (pv 4)) (va (ja (pv 5)) (kb)))))))
theorem xa4 (T : Txt K mg Cl) (yq : w.params.followText "set-order" = xC Cl) : FnOk P w K mg base (L2.CX P w) 1 T.xaO T.kaG ["old", "new"] (xH K Cl 2 FN.jG) := by
  refine xF (k := 0) T.kaO wX rfl rfl fun cdv A outer s H E hr => ?_
  refine tkS fun tk hp => ?_
  exact vd (xu (i := 2) wX.nd (vu (call_min2 rfl) wbt T.zaK (by decide +kernel) (va (vu call_len qM T.wH PySem.boot_len (va (ja (pv 0)) (kb))) (va (vu call_len qM T.wH PySem.boot_len (va (ja (pv 1)) (kb))) (kb))))) (vd (xu (i := 3) wX.nd (wb)) (vd (wbc hp (kaj (qad (qh kav zaw (ja (pv 3)) (ja (pv 2)) (nomark _)) (w7 (qh (op_eqD hr.units) qO (yk (ja (pv 0)) (ja (pv 3))) (yk (ja (pv 1)) (ja (pv 3))) (nomark _))))) (we (xbb (i := 3) wX.nd (wb) ip_add))) (vd (xu (i := 4) wX.nd (wb)) (vd (wbc hp (kaj (qad (qh kav zaw (ja (pv 4)) (yH (ja (pv 2)) (ja (pv 3))) (nomark _)) (w7 (qh (op_eqD hr.units) qO (yk (ja (pv 0)) (yH (kbG (wb)) (ja (pv 4)))) (yk (ja (pv 1)) (yH (kbG (wb)) (ja (pv 4)))) (nomark _))))) (we (xbb (i := 4) wX.nd (wb) ip_add))) (we (jr (vn (va (ja (pv 3)) (va (ja (pv 4)) (va (waq (ja (pv 1)) (yR (ja (pv 3))) (yR (yH (vu call_len qM T.wH PySem.boot_len (va (ja (pv 1)) (kb))) (ja (pv 4))))) (kb)))))))))))
theorem wbE (T : Txt K mg Cl) (yq : w.params.followText "set-order" = xC Cl) : FnOk P w K mg base (L2.CX P w) 3 T.vK T.jai ["old", "parts"] (xH K Cl 2 FN.kbi) := by
  have qE := zac (P := P) (w := w) (base := base) T
  have qaP := xa4 (P := P) (w := w) (base := base) T yq
  refine xF (k := 2) T.qaH yx rfl rfl fun cdv A outer s H E hr => ?_
  refine tkS fun tk hp => ?_
  exact vd (waw (jad rfl (vp (i := 2) yx.nd (vp (i := 3) yx.nd (vp (i := 4) yx.nd (xW))))) (ja (pv 1))) (vd (zx (qh qaw jaw (vk (ja (pv 2)) (ja (pv 3))) (vu call_len qM T.wH PySem.boot_len (va (ja (pv 0)) (kb))) (nomark _)) (we (yW (c := 17) T.kac T.zN qE tk (hr.mono (by decide)) (wb))) (yu)) (vd (y7 (i := 5) yx.nd (vk (vk (waq (ja (pv 0)) (j7) (yR (ja (pv 2)))) (ja (pv 4))) (waq (ja (pv 0)) (yR (yH (vu call_len qM T.wH PySem.boot_len (va (ja (pv 0)) (kb))) (ja (pv 3)))) (j7)))) (vd (zx (qh (op_neD hr.units) ya8 (qi qaP tk (hr.mono (by decide)) T.qbk T.kaO.kp T.wal (va (ja (pv 0)) (va (ja (pv 5)) (kb)))) (vn (va (ja (pv 2)) (va (ja (pv 3)) (va (ja (pv 4)) (kb))))) (nomark _)) (we (yW (c := 17) T.kac T.zN qE tk (hr.mono (by decide)) (wb))) (yu)) (we (jr (ja (pv 5)))))))
theorem wbr (T : Txt K mg Cl) (yq : w.params.followText "set-order" = xC Cl) : FnOk P w K mg base (L2N.CX P w) 3 T.vK T.jai ["old", "parts"] (xH K Cl 2 FN.qt) := by
  have qE := zac (P := P) (w := w) (base := base) T
  have qaP := xa4 (P := P) (w := w) (base := base) T yq
  refine xb8 (k := 2) T.qaH yx rfl rfl fun cdv A outer s H E hr => ?_
  have tk := L2N.takes_of (X := cxOf (L2N.CX P w) P w K mg base ["old", "parts", "front", "back", "middle", "new"] "changed" (defScope wB) T.vK cdv A outer s H E) rfl rfl rfl rfl
  have hp : PassesOwn (model P w) (cxOf (L2N.CX P w) P w K mg base ["old", "parts", "front", "back", "middle", "new"] "changed" (defScope wB) T.vK cdv A outer s H E).A (cxOf (L2N.CX P w) P w K mg base ["old", "parts", "front", "back", "middle", "new"] "changed" (defScope wB) T.vK cdv A outer s H E).env (cxOf (L2N.CX P w) P w K mg base ["old", "parts", "front", "back", "middle", "new"] "changed" (defScope wB) T.vK cdv A outer s H E).xe := PassesOwn.leaving
  exact vd (waw (jad rfl (vp (i := 2) yx.nd (vp (i := 3) yx.nd (vp (i := 4) yx.nd (xW))))) (ja (pv 1))) (vd (zx (qh qaw jaw (vk (ja (pv 2)) (ja (pv 3))) (vu call_len qM T.wH PySem.boot_len (va (ja (pv 0)) (kb))) (nomark _)) (we (xa1 (c := 17) T.kac T.zN qE tk (hr.mono (by decide)) (wb))) (yu)) (vd (y7 (i := 5) yx.nd (vk (vk (waq (ja (pv 0)) (j7) (yR (ja (pv 2)))) (ja (pv 4))) (waq (ja (pv 0)) (yR (yH (vu call_len qM T.wH PySem.boot_len (va (ja (pv 0)) (kb))) (ja (pv 3)))) (j7)))) (vd (zx (qh (op_neD hr.units) ya8 (qbb (FnOk.toN qaP) tk (hr.mono (by decide)) T.qbk T.kaO.kp T.wal (va (ja (pv 0)) (va (ja (pv 5)) (kb)))) (vn (va (ja (pv 2)) (va (ja (pv 3)) (va (ja (pv 4)) (kb))))) (nomark _)) (we (xa1 (c := 17) T.kac T.zN qE tk (hr.mono (by decide)) (wb))) (yu)) (we (jr (ja (pv 5)))))))
theorem xaB (T : Txt K mg Cl) (yq : w.params.followText "set-order" = xC Cl) : FnOk P w K mg base (L2.CX P w) 7 T.kN T.kL ["body", "before"] (xH K Cl 2 FN.yo) := by
  have qE := zac (P := P) (w := w) (base := base) T
  have kce := jbX (P := P) (w := w) (base := base) T
  have vbE := wbr (P := P) (w := w) (base := base) T yq
  have qaM := qbl (P := P) (w := w) (base := base) T yq
  have zcw := wbE (P := P) (w := w) (base := base) T yq
  refine xF (k := 6) T.y6 zw rfl rfl fun cdv A outer s H E hr => ?_
  refine tkS fun tk hp => ?_
  exact vd (waw (jad rfl (vp (i := 2) zw.nd (vp (i := 3) zw.nd (xW)))) (qi qaM tk (hr.mono (by decide)) T.xaL T.kat.kp T.qV (va (ja (pv 0)) (va (wb) (va (wb) (va (jP T.yaT) (kb))))))) (vd (waw (jad rfl (vp (i := 4) zw.nd (vp (i := 3) zw.nd (xW)))) (qi qaM tk (hr.mono (by decide)) T.xaL T.kat.kp T.qV (va (ja (pv 0)) (va (ja (pv 3)) (va (wb) (va (jP T.yaT) (kb))))))) (we (kb8 (xn := "BadChange") (yn := "BadBody") (c := 17) (y := 18) (i := 0) (by rfl) (by rfl) (by exact ⟨rfl, by decide, .inl T.xbk⟩) (by exact fun hd => L2H.passesAt_of rfl hd) tk T.waH T.zN kce (hr.mono (by decide)) (fun k b h => (yaj (P := fun c b => DL.ErF K (Cl c) ∧ PySem.W.exmOne K (.ref (Cl c)) (.ref (Cl 17)) = some b) (.cons ⟨T.vap, T.wau⟩ .nil) k b h).2) (by rfl) (by decide) (fun W1 pn1 xe1 tk1 => we (jr (qbb vbE tk1 (hr.mono (by decide)) T.kbO T.qaH.kp T.va4 (va (ja (pv 1)) (va (vn (va (ja (pv 2)) (va (ja (pv 4)) (va (waq (ja (pv 0)) (yR (ja (pv 3))) (j7)) (kb))))) (kb)))))))))
theorem vas (T : Txt K mg Cl) (yq : w.params.followText "set-order" = xC Cl) : FnOk P w K mg base (L2.CX P w) 8 T.zab T.j5 ["body", "before"] (xH K Cl 2 FN.zk) := by
  have qE := zac (P := P) (w := w) (base := base) T
  have qaD := xaB (P := P) (w := w) (base := base) T yq
  refine xF (k := 7) T.jab x4 rfl rfl fun cdv A outer s H E hr => ?_
  refine tkS fun tk hp => ?_
  exact vd (y7 (i := 2) x4.nd (qy call_list_of jav T.jQ (by decide +kernel) (va (ja (pv 0)) (kb)))) (vd (zx (qh op_notN zaI (ja (pv 1)) (zP) (nomark _)) (we (y7 (i := 2) x4.nd (qi qaD tk (hr.mono (by decide)) T.kaC T.y6.kp T.xN (va (ja (pv 0)) (va (ja (pv 1)) (kb)))))) (yu)) (vd (zx (qh qaw jaw (vu call_len qM T.wH PySem.boot_len (va (ja (pv 2)) (kb))) (jP T.kaY) (nomark _)) (we (yW (c := 18) T.waH T.zN qE tk (hr.mono (by decide)) (wb))) (yu)) (we (jr (ja (pv 2))))))
theorem zaU (T : Txt K mg Cl) (yq : w.params.followText "set-order" = xC Cl) : FnOk P w K mg base (L2.CX P w) 9 T.wag T.wab ["firsts"] (wbA K Cl FN.xae) := by
  have jac := vas (P := P) (w := w) (base := base) T yq
  refine wbJ (k := 8) T.vaC xT rfl rfl (by decide) fun cdv A outer s H E hr => ?_
  refine tkP fun tk hp => ?_
  exact jcj (W := fun cls d _ H2 => E cls d H2) (i := 1) (a1 := 4) (a2 := 5) rfl xT.nd hp (hu_of hr) rfl rfl (jak (jaR rfl (hr.mono (by decide)) T.j9 (pv 0))) (jad rfl (vp (i := 2) xT.nd (vp (i := 3) xT.nd (xW)))) (kW (hu_of hr) (pv 0) (vn (va (ja (pv 2)) (va (ja (pv 3)) (kb))))) (zP) (qh (op_eqD hr.units) qO (yk (ja (pv 4)) (wb)) (wb) (nomark _)) (zaR (hu_of hr) (pv 1) (vn (va (ja (pv 2)) (va (yH (ja (pv 3)) (wb)) (kb)))) ⟨rfl, rfl, rfl, rfl⟩) (kaj (qaQ (qh (op_eqD hr.units) qO (yk (ja (pv 4)) (wb)) (wb) (nomark _)) (kaP (qh op_notN zaI (ja (pv 5)) (zP) (nomark _))))) (fun W1 pn1 xe1 tk1 => vn (va (ja (pv 2)) (va (ja (pv 3)) (kb)))) (fun W1 pn1 xe1 tk1 => qi jac tk1 (hr.mono (by decide)) T.vax T.jab.kp T.z9 (va (yk (ja (pv 4)) (wb)) (va (ja (pv 5)) (kb)))) (fun _ _ => pv 1) (ybs (N := fun c => DL.ErF K (Cl c)) rfl ⟨rfl, by decide, .inl T.xaT⟩ (yaj (P := fun c b => DL.ErF K (Cl c) ∧ PySem.W.exmOne K (.ref (Cl c)) (.ref (Cl 18)) = some b) (.cons ⟨T.vag, T.yX⟩ (.cons ⟨T.qac, T.jV⟩ (.cons ⟨T.wap, T.x5⟩ (.cons ⟨T.vap, T.y5⟩ (.cons ⟨T.kaT, T.qae⟩ .nil)))))) (fun xa oe pn => we (xbo)) (waV rfl rfl tk)) (fun p => pv 1)
theorem zaP (T : Txt K mg Cl) (yq : w.params.followText "set-order" = xC Cl) : FnOk P w K mg base (L2.CX P w) 1 T.vab T.w5 ["leaves"] (jbS K Cl 1 FN.qT) := by
  refine wbS (k := 0) T.yax vO rfl rfl fun cdv A outer s H E hr => ?_
  refine tkP fun tk hp => ?_
  exact zcj (W := fun cls d _ H2 => E cls d H2) (i := 1) vO.nd (jY hp rfl (jak (ja (pv 0))) (xR (i := 2) vO.nd) (vd (xu (i := 3) vO.nd (vn (va (yk (ja (pv 2)) (wb)) (va (yk (ja (pv 2)) (wb)) (kb))))) (we (zx (kaj (qad (qh (op_eqD hr.units) qO (yk (ja (pv 2)) (wb)) (jP T.qbP) (nomark _)) (w7 (xaK (hu_of hr) (ja (pv 3)) (pv 1))))) (we (waF (i := 1) (hu_of hr) (pv 1) (ja (pv 3)) (ja (pv 2)))) (yu))))) (fun p => pv 1)
theorem qcf (T : Txt K mg Cl) (yq : w.params.followText "set-order" = xC Cl) : FnOk P w K mg base (L2.CX P w) 1 T.qbE T.zbk ["leaf"] (spM K Cl 8 1 FN.ja9) := by
  refine xbS (k := 0) T.kb6 kco rfl rfl fun cdv A outer s H E hr => ?_
  refine tkP fun tk hp => ?_
  exact kca (W := fun cls d _ H2 => E cls d H2) (kx := 8) (waq (ja (pv 0)) (j7) (yR (wb))) (qy call_list_of jav T.jQ (by decide +kernel) (va (yk (ja (pv 0)) (wb)) (kb)))
theorem ka4 (T : Txt K mg Cl) (yq : w.params.followText "set-order" = xC Cl) : FnOk P w K mg base (L2.CX P w) 10 T.waK T.jaB ["leaves"] (spP K Cl 8 1 FN.xaJ) := by
  have waZ := zaU (P := P) (w := w) (base := base) T yq
  have jaU := zaP (P := P) (w := w) (base := base) T yq
  have qcp := qcf (P := P) (w := w) (base := base) T yq
  refine xca (k := 9) T.xaY yaO rfl rfl fun cdv A outer s H E hr => ?_
  refine tkP fun tk hp => ?_
  exact xcj (W := fun cls d _ H2 => E cls d H2) (i := 1) (is := 2) (j := 3) (iz := 5) (kx := 8) rfl yaO.nd hp waZ jaU tk (hr.mono (by decide)) T.xa5 T.vaC.kp T.kae (hr.mono (by decide)) T.yaY T.yax.kp T.zT yq T.zaT (va (ja (pv 0)) (kb)) (wav (kb)) (jak (ja (pv 0))) (xR (i := 4) yaO.nd) (vn (va (yk (ja (pv 4)) (wb)) (va (yk (ja (pv 4)) (wb)) (kb)))) (kaj (qad (qh (op_eqD hr.units) qO (yk (ja (pv 4)) (wb)) (jP T.qbP) (nomark _)) (w7 (zbI (Room.u8 hr) yq (ja (pv 5)) (pv 2))))) (vb9 (i := 2) (Room.u8 hr) yq (ja (pv 5)) (pv 2) ⟨rfl, rfl, rfl, rfl⟩) (pt_cmpR (vbR (hu_of hr)) (ja (pv 5)) (pv 1) rfl) (pe_bm PySem.F.plainAttrs_list PySem.F.slot_list_append PySem.F.type_list_append mt_append (pv 3) (pa_cons (pe_tup (pa_cons (pe_callS (E := WE _) qcp (hr.mono (by decide)) rfl T.vct T.kb6.kp T.ybD (fun σ => passAt tk σ) (va (ja (pv 4)) (kb)) (by decide) rfl rfl) (pa_cons (ya2 (hu_of hr) (pv 1) (ja (pv 5)) (by exact fun _ _ => rfl)) pa_nil))) pa_nil)) (fun p => pv 3)
theorem wbX (T : Txt K mg Cl) (yq : w.params.followText "set-order" = xC Cl) : FnOk P w K mg base (L2.CX P w) 10 T.waK T.jaB ["leaves"] (xH K Cl 1 FN.qaK) := (ka4 T yq).imp fun vs H Q E h => ycj h
theorem waU (T : Txt K mg Cl) (yq : w.params.followText "set-order" = xC Cl) : FnOk P w K mg base (L2.CX P w) 9 T.yab T.v5 ["body", "before"] (xH K Cl 2 FN.yi) := by
  have jac := vas (P := P) (w := w) (base := base) T yq
  refine xF (k := 8) T.xab jaT rfl rfl fun cdv A outer s H E hr => ?_
  refine tkS fun tk hp => ?_
  exact we (qbG rfl rfl (fun W1 pn1 xe1 tk1 hp1 => we (jr (qi jac tk1 (hr.mono (by decide)) T.vax T.jab.kp T.z9 (va (ja (pv 0)) (va (ja (pv 1)) (kb)))))) (ybs (N := fun c => DL.ErF K (Cl c)) rfl ⟨rfl, by decide, .inl T.xaT⟩ (yaj (P := fun c b => DL.ErF K (Cl c) ∧ PySem.W.exmOne K (.ref (Cl c)) (.ref (Cl 18)) = some b) (.cons ⟨T.vag, T.yX⟩ (.cons ⟨T.qac, T.jV⟩ (.cons ⟨T.wap, T.x5⟩ (.cons ⟨T.vap, T.y5⟩ (.cons ⟨T.kaT, T.qae⟩ .nil)))))) (fun xa oe pn => we (jr (zP))) (waV rfl rfl tk)))
theorem vbr (T : Txt K mg Cl) (yq : w.params.followText "set-order" = xC Cl) : FnOk P w K mg base (L2.CX P w) 10 T.waB T.qau ["leaves"] (xH K Cl 1 FN.yV) := by
  have qay := waU (P := P) (w := w) (base := base) T yq
  refine xF (k := 9) T.waT qp rfl rfl fun cdv A outer s H E hr => ?_
  refine tkS fun tk hp => ?_
  exact qaR (i := 1) qp.nd (vd (jY hp rfl (jak (ja (pv 0))) (xR (i := 2) qp.nd) (we (zx (kaj (qad (qh (op_eqD hr.units) qO (yk (ja (pv 2)) (wb)) (wb) (nomark _)) (w7 (xaK (hu_of hr) (vn (va (yk (ja (pv 2)) (wb)) (va (yk (ja (pv 2)) (wb)) (kb)))) (pv 1))))) (we (waF (i := 1) (hu_of hr) (pv 1) (vn (va (yk (ja (pv 2)) (wb)) (va (yk (ja (pv 2)) (wb)) (kb)))) (ja (pv 2)))) (yu)))) (qaR (i := 3) qp.nd (vd (jY hp rfl (jak (jaR rfl (hr.mono (by decide)) T.j9 (pv 1))) (jad rfl (vp (i := 4) qp.nd (vp (i := 5) qp.nd (xW)))) (vd (xu (i := 2) qp.nd (kW (hu_of hr) (pv 1) (vn (va (ja (pv 4)) (va (ja (pv 5)) (kb)))))) (vd (xu (i := 6) qp.nd (zP)) (vd (zx (qh (op_eqD hr.units) qO (yk (ja (pv 2)) (wb)) (wb) (nomark _)) (we (xu (i := 6) qp.nd (qi qay tk (hr.mono (by decide)) T.xax T.xab.kp T.kax (va (qy call_list_of jav T.jQ (by decide +kernel) (va (yk (ja (pv 2)) (wb)) (kb))) (va (zP) (kb)))))) (we (zx (qh op_notN zaI (zaR (hu_of hr) (pv 3) (vn (va (ja (pv 4)) (va (yH (ja (pv 5)) (wb)) (kb)))) ⟨rfl, rfl, rfl, rfl⟩) (zP) (nomark _)) (we (xu (i := 6) qp.nd (qi qay tk (hr.mono (by decide)) T.xax T.xab.kp T.kax (va (qy call_list_of jav T.jQ (by decide +kernel) (va (yk (ja (pv 2)) (wb)) (kb))) (va (kW (hu_of hr) (pv 3) (vn (va (ja (pv 4)) (va (yH (ja (pv 5)) (wb)) (kb))))) (kb)))))) (yu)))) (we (waF (i := 3) (hu_of hr) (pv 3) (vn (va (ja (pv 4)) (va (ja (pv 5)) (kb)))) (ja (pv 6)))))))) (vd (y7 (i := 7) qp.nd (wav (kb))) (vd (jY hp rfl (jak (ja (pv 0))) (xR (i := 2) qp.nd) (vd (xu (i := 8) qp.nd (vn (va (yk (ja (pv 2)) (wb)) (va (yk (ja (pv 2)) (wb)) (kb))))) (we (zx (kaj (qad (qh (op_eqD hr.units) qO (yk (ja (pv 2)) (wb)) (wb) (nomark _)) (qad (qh (op_eqD hr.units) qO (yk (kW (hu_of hr) (pv 1) (ja (pv 8))) (wb)) (yk (ja (pv 2)) (wb)) (nomark _)) (w7 (qh op_notN zaI (kW (hu_of hr) (pv 3) (ja (pv 8))) (zP) (nomark _)))))) (we (yaE (i := 7) (pe_bm PySem.F.plainAttrs_list PySem.F.slot_list_append PySem.F.type_list_append mt_append (pv 7) (pa_cons (vn (va (ja (pv 2)) (va (kW (hu_of hr) (pv 3) (ja (pv 8))) (kb)))) pa_nil)))) (yu))))) (we (jr (ja (pv 7)))))))))
theorem vaU (T : Txt K mg Cl) (yq : w.params.followText "set-order" = xC Cl) : FnOk P w K mg base (L2.CX P w) 1 T.zaH T.vaB ["draws", "k", "many"] (xH K Cl 3 FN.jf) := by
  refine xF (k := 0) T.vq kbD rfl rfl fun cdv A outer s H E hr => ?_
  refine tkS fun tk hp => ?_
  exact vd (zx (qh kav zaw (ja (pv 1)) (vu call_len qM T.wH PySem.boot_len (va (ja (pv 0)) (kb))) (nomark _)) (we (jr (xau (qy call_int1 zav T.xac (by decide +kernel) (va (yk (ja (pv 0)) (ja (pv 1))) (kb))) (ja (pv 2))))) (yu)) (we (jr (wb)))
theorem jbl (T : Txt K mg Cl) (yq : w.params.followText "set-order" = xC Cl) : FnOk P w K mg base (L2.CX P w) 2 T.zau T.qap ["draws", "k"] (xH K Cl 2 FN.jN) := by
  have xq := vaU (P := P) (w := w) (base := base) T yq
  refine xF (k := 1) T.kaL zK rfl rfl fun cdv A outer s H E hr => ?_
  refine tkS fun tk hp => ?_
  exact vd (xu (i := 2) zK.nd (qi xq tk (hr.mono (by decide)) T.zt T.vq.kp T.xm (va (ja (pv 0)) (va (ja (pv 1)) (va (wb) (kb)))))) (vd (zx (qh kav zaw (ja (pv 2)) (wb) (nomark _)) (we (jr (xb0 (own := [("n", 3)]) (tg := .Name _ _) rfl zK.nd jbR (wad T.xI (va (qi xq tk (hr.mono (by decide)) T.zt T.vq.kp T.xm (va (ja (pv 0)) (va (vk (ja (pv 1)) (wb)) (va (wb) (kb))))) (kb))) (blkOk_by (own := [("n", 3)]) (N := ["draws", "k", "word", "n"]) (sc := defScope vB) (by decide +kernel)) (fun _ _ _ _ _ => pg_name (i := 3) zK.nd rfl (by first | exact Or.inl rfl | exact Or.inr rfl)) (fun _ _ _ _ _ => vaW) (fun _ _ _ _ _ => qi xq takes0 (hr.mono (by decide)) T.zt T.vq.kp T.xm (va (ja (pv 0)) (va (vk (vk (ja (pv 1)) (wb)) (ja (pv 3))) (va (wb) (kb)))))))) (yu)) (vd (zx (qh (op_eqD hr.units) qO (ja (pv 2)) (wb) (nomark _)) (we (jr (wav (va (qi xq tk (hr.mono (by decide)) T.zt T.vq.kp T.xm (va (ja (pv 0)) (va (vk (ja (pv 1)) (wb)) (va (wb) (kb))))) (va (qi xq tk (hr.mono (by decide)) T.zt T.vq.kp T.xm (va (ja (pv 0)) (va (vk (ja (pv 1)) (wb)) (va (wb) (kb))))) (va (wb) (kb))))))) (yu)) (we (jr (xb0 (own := [("n", 3)]) (tg := .Name _ _) rfl zK.nd jbR (wad T.xI (va (qi xq tk (hr.mono (by decide)) T.zt T.vq.kp T.xm (va (ja (pv 0)) (va (vk (ja (pv 1)) (wb)) (va (wb) (kb))))) (kb))) (blkOk_by (own := [("n", 3)]) (N := ["draws", "k", "word", "n"]) (sc := defScope vB) (by decide +kernel)) (fun _ _ _ _ _ => pg_name (i := 3) zK.nd rfl (by first | exact Or.inl rfl | exact Or.inr rfl)) (fun _ _ _ _ _ => vaW) (fun _ _ _ _ _ => qi xq takes0 (hr.mono (by decide)) T.zt T.vq.kp T.xm (va (ja (pv 0)) (va (vk (vk (ja (pv 1)) (wb)) (ja (pv 3))) (va (wb) (kb))))))))))
theorem zcp (T : Txt K mg Cl) (yq : w.params.followText "set-order" = xC Cl) : FnOk P w K mg base (L2.CX P w) 11 T.jbE T.vaT ["script"] (xH K Cl 1 FN.xad) := by
  have vbX := ka4 (P := P) (w := w) (base := base) T yq
  have wbl := za6 (P := P) (w := w) (base := base) T yq
  have xq := vaU (P := P) (w := w) (base := base) T yq
  have ybr := jbl (P := P) (w := w) (base := base) T yq
  have ybE := vbr (P := P) (w := w) (base := base) T yq
  have zcf := wbX (P := P) (w := w) (base := base) T yq
  refine xF (k := 10) T.yct zV rfl rfl fun cdv A outer s H E hr => ?_
  refine tkS fun tk hp => ?_
  exact vd (xu (i := 1) zV.nd (qi wbl tk (hr.mono (by decide)) T.xbj T.yaG.kp T.xZ (va (ja (pv 0)) (kb)))) (vd (y7 (i := 2) zV.nd (wav (kb))) (vd (jY hp rfl (wad T.xI (va (qi xq tk (hr.mono (by decide)) T.zt T.vq.kp T.xm (va (ja (pv 1)) (va (wb) (va (wb) (kb))))) (kb))) (xR (i := 3) zV.nd) (vd (xu (i := 4) zV.nd (vk (wb) (xaj (wb) (ja (pv 3))))) (vd (xu (i := 5) zV.nd (yk (wav (va (wb) (va (wb) (va (wb) (va (wb) (va (wb) (va (wb) (va (wb) (kb))))))))) (qi xq tk (hr.mono (by decide)) T.zt T.vq.kp T.xm (va (ja (pv 1)) (va (ja (pv 4)) (va (wb) (kb))))))) (vd (xu (i := 6) zV.nd (vn (va (ja (pv 5)) (va (wb) (va (vk (xaj (wb) (ja (pv 3))) (qi xq tk (hr.mono (by decide)) T.zt T.vq.kp T.xm (va (ja (pv 1)) (va (ja (pv 4)) (va (wb) (kb)))))) (va (vk (wb) (qi xq tk (hr.mono (by decide)) T.zt T.vq.kp T.xm (va (ja (pv 1)) (va (vk (ja (pv 4)) (wb)) (va (wb) (kb)))))) (va (qi xq tk (hr.mono (by decide)) T.zt T.vq.kp T.xm (va (ja (pv 1)) (va (vk (ja (pv 4)) (wb)) (va (wb) (kb))))) (kb)))))))) (we (yaE (i := 2) (pe_bm PySem.F.plainAttrs_list PySem.F.slot_list_append PySem.F.type_list_append mt_append (pv 2) (pa_cons (xbs (ja (pv 6)) (vn (va (ja (pv 3)) (va (vk (wb) (qi xq tk (hr.mono (by decide)) T.zt T.vq.kp T.xm (va (ja (pv 1)) (va (ja (pv 4)) (va (wb) (kb)))))) (va (qi xq tk (hr.mono (by decide)) T.zt T.vq.kp T.xm (va (ja (pv 1)) (va (vk (ja (pv 4)) (wb)) (va (wb) (kb))))) (va (qi ybr tk (hr.mono (by decide)) T.qbr T.kaL.kp T.yac (va (ja (pv 1)) (va (vk (ja (pv 4)) (wb)) (kb)))) (kb))))))) pa_nil)))))))) (vbI (i := 2) (vd (wbR (i := 7) (own := [("leaf", 8)]) (tg := .Name _ _) rfl zV.nd jbR (jak (ja (pv 2))) (blkOk_by (own := [("leaf", 8)]) (N := ["script", "draws", "leaves", "k", "at", "kind", "fields", "kept", "leaf", "told", "due", "content"]) (sc := defScope zaB) (by decide +kernel)) (fun _ _ _ _ _ => pg_name (i := 8) zV.nd rfl (by first | exact Or.inl rfl | exact Or.inr rfl)) (fun _ _ _ _ _ => vaW) (fun _ _ _ _ _ => xbs (waq (ja (pv 8)) (j7) (yR (wb))) (vn (va (qy call_list_of jav T.jQ (by decide +kernel) (va (yk (ja (pv 8)) (wb)) (kb))) (kb)))) (sw_true rfl rfl rfl (by decide +kernel))) (zcb (i := 9) (j := 10) (k1 := 8) (k2 := 11) (kx := 8) rfl zV.nd hp vbX tk (hr.mono (by decide)) T.qbx T.xaY.kp T.qaj (va (ja (pv 2)) (kb)) (qi ybE tk (hr.mono (by decide)) T.zbE T.waT.kp T.waS (va (ja (pv 7)) (kb))) (kaj (qaQ (xbH (ybH (vbH rfl T.qJ T.jQ (by decide +kernel) (by decide) (ja (pv 9))))) (qaQ (qh (op_neD hr.units) ya8 (ja (pv 9)) (ja (pv 10)) (nomark _)) (kaP (qh (op_neD hr.units) ya8 (ja (pv 2)) (ja (pv 7)) (nomark _)))))) (xbH (ybH (vbH rfl T.qJ T.jQ (by decide +kernel) (by decide) (ja (pv 11))))) (pv 9) (pe_bm PySem.F.plainAttrs_list PySem.F.slot_list_append PySem.F.type_list_append mt_append (pe_ix ix_tup (pv 8) pe_int (fun _ _ => rfl)) (pa_cons (wb) pa_nil)) (pe_bm PySem.F.plainAttrs_list PySem.F.slot_list_append PySem.F.type_list_append mt_append (pv 11) (pa_cons (wb) pa_nil)) (we (jr (yb8 (ybG (op_eqD hr.units) qO (qi zcf tk (hr.mono (by decide)) T.qbx T.xaY.kp T.qaj (va (ja (pv 2)) (kb))) (ja (pv 10)) (nomark _)) (vcg (ybG (op_eqD hr.units) qO (ja (pv 2)) (ja (pv 7)) (nomark _)))))))))))
end
theorem all_mk {P : Program} {w : World} {K : PySem.W.Frag} {h : Heap} {mg : Str → Option Value} {fa : Addr} (X : K.In h) (G : h.Ns mainGlobals mg) (hfa : mg "law" = some (.ref fa)) (hl : ∀ ns : List Int, ns.length ≤ 63 → FN.xad [yO ns] = some (.ret (.bool true)))
    {f0 : Addr} {od0 an0 : Option Addr} {sl0 : Array (Option Value)} {oc0 kV0 dc0 pm0 cd0 ct0 : Value}
    (a0 : PySem.W.nsIn K mainGlobals "_law_draws" = some (some (.ref f0))) (l0 : K.lookup f0 = some ⟨oc0, od0, .func (PySem.W.fnOf "_law_draws" "_law_draws" (defArgs kJ) (defBody kJ) (defScope kJ) .none kV0 dc0 pm0 an0 cd0 ct0), sl0⟩) (c0 : PySem.W.codeIn K cd0 "_law_draws" = true) (k0 : PySem.W.keepIn K (.ref f0) = true)
    {f1 : Addr} {od1 an1 : Option Addr} {sl1 : Array (Option Value)} {oc1 kV1 dc1 pm1 cd1 ct1 : Value}
    (a1 : PySem.W.nsIn K mainGlobals "end_of_steps" = some (some (.ref f1))) (l1 : K.lookup f1 = some ⟨oc1, od1, .func (PySem.W.fnOf "end_of_steps" "end_of_steps" (defArgs jC) (defBody jC) (defScope jC) .none kV1 dc1 pm1 an1 cd1 ct1), sl1⟩) (c1 : PySem.W.codeIn K cd1 "end_of_steps" = true) (k1 : PySem.W.keepIn K (.ref f1) = true)
    {f2 : Addr} {od2 an2 : Option Addr} {sl2 : Array (Option Value)} {oc2 kV2 dc2 pm2 cd2 ct2 : Value}
    (a2 : PySem.W.nsIn K mainGlobals "get_steps" = some (some (.ref f2))) (l2 : K.lookup f2 = some ⟨oc2, od2, .func (PySem.W.fnOf "get_steps" "get_steps" (defArgs wN) (defBody wN) (defScope wN) .none kV2 dc2 pm2 an2 cd2 ct2), sl2⟩) (c2 : PySem.W.codeIn K cd2 "get_steps" = true) (k2 : PySem.W.keepIn K (.ref f2) = true)
    {f3 : Addr} {od3 an3 : Option Addr} {sl3 : Array (Option Value)} {oc3 kV3 dc3 pm3 cd3 ct3 : Value}
    (a3 : PySem.W.nsIn K mainGlobals "step_up_to" = some (some (.ref f3))) (l3 : K.lookup f3 = some ⟨oc3, od3, .func (PySem.W.fnOf "step_up_to" "step_up_to" (defArgs qK) (defBody qK) (defScope qK) .none kV3 dc3 pm3 an3 cd3 ct3), sl3⟩) (c3 : PySem.W.codeIn K cd3 "step_up_to" = true) (k3 : PySem.W.keepIn K (.ref f3) = true)
    {f4 : Addr} {od4 an4 : Option Addr} {sl4 : Array (Option Value)} {oc4 kV4 dc4 pm4 cd4 ct4 : Value}
    (a4 : PySem.W.nsIn K mainGlobals "number_at" = some (some (.ref f4))) (l4 : K.lookup f4 = some ⟨oc4, od4, .func (PySem.W.fnOf "number_at" "number_at" (defArgs vN) (defBody vN) (defScope vN) .none kV4 dc4 pm4 an4 cd4 ct4), sl4⟩) (c4 : PySem.W.codeIn K cd4 "number_at" = true) (k4 : PySem.W.keepIn K (.ref f4) = true)
    {f5 : Addr} {od5 an5 : Option Addr} {sl5 : Array (Option Value)} {oc5 kV5 dc5 pm5 cd5 ct5 : Value}
    (a5 : PySem.W.nsIn K mainGlobals "change" = some (some (.ref f5))) (l5 : K.lookup f5 = some ⟨oc5, od5, .func (PySem.W.fnOf "change" "change" (defArgs kaa) (defBody kaa) (defScope kaa) .none kV5 dc5 pm5 an5 cd5 ct5), sl5⟩) (c5 : PySem.W.codeIn K cd5 "change" = true) (k5 : PySem.W.keepIn K (.ref f5) = true)
    {f6 : Addr} {od6 an6 : Option Addr} {sl6 : Array (Option Value)} {oc6 kV6 dc6 pm6 cd6 ct6 : Value}
    (a6 : PySem.W.nsIn K mainGlobals "changed" = some (some (.ref f6))) (l6 : K.lookup f6 = some ⟨oc6, od6, .func (PySem.W.fnOf "changed" "changed" (defArgs wB) (defBody wB) (defScope wB) .none kV6 dc6 pm6 an6 cd6 ct6), sl6⟩) (c6 : PySem.W.codeIn K cd6 "changed" = true) (k6 : PySem.W.keepIn K (.ref f6) = true)
    {f7 : Addr} {od7 an7 : Option Addr} {sl7 : Array (Option Value)} {oc7 kV7 dc7 pm7 cd7 ct7 : Value}
    (a7 : PySem.W.nsIn K mainGlobals "content_of_change" = some (some (.ref f7))) (l7 : K.lookup f7 = some ⟨oc7, od7, .func (PySem.W.fnOf "content_of_change" "content_of_change" (defArgs xt) (defBody xt) (defScope xt) .none kV7 dc7 pm7 an7 cd7 ct7), sl7⟩) (c7 : PySem.W.codeIn K cd7 "content_of_change" = true) (k7 : PySem.W.keepIn K (.ref f7) = true)
    {f8 : Addr} {od8 an8 : Option Addr} {sl8 : Array (Option Value)} {oc8 kV8 dc8 pm8 cd8 ct8 : Value}
    (a8 : PySem.W.nsIn K mainGlobals "read_content" = some (some (.ref f8))) (l8 : K.lookup f8 = some ⟨oc8, od8, .func (PySem.W.fnOf "read_content" "read_content" (defArgs wC) (defBody wC) (defScope wC) .none kV8 dc8 pm8 an8 cd8 ct8), sl8⟩) (c8 : PySem.W.codeIn K cd8 "read_content" = true) (k8 : PySem.W.keepIn K (.ref f8) = true)
    {f9 : Addr} {od9 an9 : Option Addr} {sl9 : Array (Option Value)} {oc9 kV9 dc9 pm9 cd9 ct9 : Value}
    (a9 : PySem.W.nsIn K mainGlobals "contents_of" = some (some (.ref f9))) (l9 : K.lookup f9 = some ⟨oc9, od9, .func (PySem.W.fnOf "contents_of" "contents_of" (defArgs wF) (defBody wF) (defScope wF) .none kV9 dc9 pm9 an9 cd9 ct9), sl9⟩) (c9 : PySem.W.codeIn K cd9 "contents_of" = true) (k9 : PySem.W.keepIn K (.ref f9) = true)
    {f10 : Addr} {ycA xcA : Option Addr} {kcA : Array (Option Value)} {qcB zcB jcB wcB jcp vcB : Value}
    (a10 : PySem.W.nsIn K mainGlobals "first_leaves" = some (some (.ref f10))) (l10 : K.lookup f10 = some ⟨qcB, ycA, .func (PySem.W.fnOf "first_leaves" "first_leaves" (defArgs vC) (defBody vC) (defScope vC) .none zcB jcB wcB xcA jcp vcB), kcA⟩) (c10 : PySem.W.codeIn K jcp "first_leaves" = true) (k10 : PySem.W.keepIn K (.ref f10) = true)
    {f11 : Addr} {ycB xcB : Option Addr} {kcB : Array (Option Value)} {qcC zcC jcC wcC wcp vcC : Value}
    (a11 : PySem.W.nsIn K mainGlobals "own" = some (some (.ref f11))) (l11 : K.lookup f11 = some ⟨qcC, ycB, .func (PySem.W.fnOf "own" "own" (defArgs jaK) (defBody jaK) (defScope jaK) .none zcC jcC wcC xcB wcp vcC), kcB⟩) (c11 : PySem.W.codeIn K wcp "own" = true) (k11 : PySem.W.keepIn K (.ref f11) = true)
    {f12 : Addr} {ycC xcC : Option Addr} {kcC : Array (Option Value)} {qcD zcD jcD wcD vcp vcD : Value}
    (a12 : PySem.W.nsIn K mainGlobals "sound" = some (some (.ref f12))) (l12 : K.lookup f12 = some ⟨qcD, ycC, .func (PySem.W.fnOf "sound" "sound" (defArgs jaj) (defBody jaj) (defScope jaj) .none zcD jcD wcD xcC vcp vcD), kcC⟩) (c12 : PySem.W.codeIn K vcp "sound" = true) (k12 : PySem.W.keepIn K (.ref f12) = true)
    {f13 : Addr} {ycD xcD : Option Addr} {kcD : Array (Option Value)} {qcE zcE jcE wcE ycp vcE : Value}
    (a13 : PySem.W.nsIn K mainGlobals "_law_content" = some (some (.ref f13))) (l13 : K.lookup f13 = some ⟨qcE, ycD, .func (PySem.W.fnOf "_law_content" "_law_content" (defArgs yC) (defBody yC) (defScope yC) .none zcE jcE wcE xcD ycp vcE), kcD⟩) (c13 : PySem.W.codeIn K ycp "_law_content" = true) (k13 : PySem.W.keepIn K (.ref f13) = true)
    {f14 : Addr} {ycE xcE : Option Addr} {kcE : Array (Option Value)} {qcF zcF jcF wcF xcp vcF : Value}
    (a14 : PySem.W.nsIn K mainGlobals "_law_due" = some (some (.ref f14))) (l14 : K.lookup f14 = some ⟨qcF, ycE, .func (PySem.W.fnOf "_law_due" "_law_due" (defArgs kT) (defBody kT) (defScope kT) .none zcF jcF wcF xcE xcp vcF), kcE⟩) (c14 : PySem.W.codeIn K xcp "_law_due" = true) (k14 : PySem.W.keepIn K (.ref f14) = true)
    {f15 : Addr} {ycF xcF : Option Addr} {kcF : Array (Option Value)} {qcG zcG jcG wcG kcp vcG : Value}
    (a15 : PySem.W.nsIn K mainGlobals "_law_at" = some (some (.ref f15))) (l15 : K.lookup f15 = some ⟨qcG, ycF, .func (PySem.W.fnOf "_law_at" "_law_at" (defArgs vX) (defBody vX) (defScope vX) .none zcG jcG wcG xcF kcp vcG), kcF⟩) (c15 : PySem.W.codeIn K kcp "_law_at" = true) (k15 : PySem.W.keepIn K (.ref f15) = true)
    {f16 : Addr} {ycG xcG : Option Addr} {kcG : Array (Option Value)} {qcH zcH jcH wcH qcq vcH : Value}
    (a16 : PySem.W.nsIn K mainGlobals "_law_body" = some (some (.ref f16))) (l16 : K.lookup f16 = some ⟨qcH, ycG, .func (PySem.W.fnOf "_law_body" "_law_body" (defArgs vB) (defBody vB) (defScope vB) .none zcH jcH wcH xcG qcq vcH), kcG⟩) (c16 : PySem.W.codeIn K qcq "_law_body" = true) (k16 : PySem.W.keepIn K (.ref f16) = true)
    {f17 : Addr} {ycH xcH : Option Addr} {kcH : Array (Option Value)} {qcI zcI jcI wcI jcq vcI : Value}
    (a17 : PySem.W.nsIn K mainGlobals "law" = some (some (.ref f17))) (l17 : K.lookup f17 = some ⟨qcI, ycH, .func (PySem.W.fnOf "law" "law" (defArgs zaB) (defBody zaB) (defScope zaB) .none zcI jcI wcI xcH jcq vcI), kcH⟩) (c17 : PySem.W.codeIn K jcq "law" = true) (k17 : PySem.W.keepIn K (.ref f17) = true)
    (xI : PySem.W.nsIn K mainGlobals "range" = some none)
    (zaK : PySem.W.nsIn K mainGlobals "min" = some none)
    (wH : PySem.W.nsIn K mainGlobals "len" = some none)
    (qaT : PySem.W.nsIn K mainGlobals "abs" = some none)
    (xac : PySem.W.nsIn K mainGlobals "int" = some none)
    (jQ : PySem.W.nsIn K mainGlobals "list" = some none)
    (j9 : PySem.W.nsIn K mainGlobals "sorted" = some none)
    (zaT : PySem.W.nsIn K mainGlobals "set" = some none)
    (qJ : PySem.W.nsIn K mainGlobals "isinstance" = some none)
    {zap : Tok} (zam : PySem.W.nsIn K mainGlobals "MOST_STEPS" = some (some (.int 6 zap)))
    {jap : Tok} (jam : PySem.W.nsIn K mainGlobals "STEP_LIMIT" = some (some (.int 1099511627776 jap)))
    {yaB : Tok} (qaA : PySem.W.nsIn K mainGlobals "TOP_STEP" = some (some (.int 1099511627775 yaB)))
    {kab : Tok} (w9 : PySem.W.nsIn K mainGlobals "MOST_CONTENT" = some (some (.int 200 kab)))
    {wbk : Tok} (ybj : PySem.W.nsIn K mainGlobals "UNIT" = some (some (.int 2 wbk)))
    {fI : Addr} {odI anI : Option Addr} {slI : Array (Option Value)} {ocI kVI dcI pmI cdI ctI : Value} (lI : K.lookup fI = some ⟨ocI, odI, .func (PySem.W.fnOf "__init__" "SpoolboxError.__init__" (defArgs jax) (defBody jax) (defScope jax) .none kVI dcI pmI anI cdI ctI), slI⟩) (cI : PySem.W.codeIn K cdI "SpoolboxError.__init__" = true) (kI : PySem.W.keepIn K (.ref fI) = true) (tI : PySem.W.typeIn K (.ref fI) = some (.type "function"))
    {jg : Addr} {vbl xbr : Str} {kbr : Addr} {ybl vaH : List Value} {xbl : List Str} {wa6 : List Value} {kbl : Bool} {va6 : Option Bool} {qbm : Option Addr} {zbm jbm wbm vbm ybm : Option Value}
    (j1 : PySem.W.nsIn K mainGlobals "Truncated" = some (some (.ref jg))) (wam : K.lookup jg = some (excClassObj vbl xbr jg kbr ybl vaH true xbl wa6 kbl va6 qbm zbm jbm wbm vbm ybm "ValueError.__new__")) (vam : PySem.HandSPX.refsVE vaH = true)
    (yam : PySem.W.findIn K (.ref jg) "__setattr__" = some (some (.builtin "object.__setattr__"))) (zJ : PySem.W.subIn K (.ref jg) (.type "BaseException") = some true) (xam : PySem.W.typeIn K (.ref jg) = some (.type "type")) (kam : PySem.W.keepIn K (.ref jg) = true)
    (y1 : PySem.W.findIn K (.ref jg) "at" = some none) (qan : PySem.W.findIn K (.ref jg) "__init__" = some (some (.ref fI))) (wQ : PySem.W.findIn K (.ref jg) "__getattribute__" = some (some (.builtin "BaseException.__getattribute__"))) (vQ : PySem.W.findIn K (.ref jg) "__getattr__" = some none) (yQ : PySem.W.hasDictIn K jg = true)
    {vf : Addr} {ya6 xbm : Str} {kbm : Addr} {xa6 yaC : List Value} {ka6 : List Str} {vaZ : List Value} {qa7 : Bool} {yaZ : Option Bool} {za7 : Option Addr} {ja7 wa7 va7 ya7 xa7 : Option Value}
    (xV : PySem.W.nsIn K mainGlobals "OutOfRange" = some (some (.ref vf))) (qaf : K.lookup vf = some (excClassObj ya6 xbm vf kbm xa6 yaC true ka6 vaZ qa7 yaZ za7 ja7 wa7 va7 ya7 xa7 "ValueError.__new__")) (zaf : PySem.HandSPX.refsVE yaC = true)
    (jaf : PySem.W.findIn K (.ref vf) "__setattr__" = some (some (.builtin "object.__setattr__"))) (jF : PySem.W.subIn K (.ref vf) (.type "BaseException") = some true) (waf : PySem.W.typeIn K (.ref vf) = some (.type "type")) (vaf : PySem.W.keepIn K (.ref vf) = true)
    (qW : PySem.W.findIn K (.ref vf) "at" = some none) (yaf : PySem.W.findIn K (.ref vf) "__init__" = some (some (.ref fI))) (xM : PySem.W.findIn K (.ref vf) "__getattribute__" = some (some (.builtin "BaseException.__getattribute__"))) (kM : PySem.W.findIn K (.ref vf) "__getattr__" = some none) (qN : PySem.W.hasDictIn K vf = true)
    {ye : Addr} {xaZ ka7 : Str} {qa8 : Addr} {kaZ zay : List Value} {qa0 : List Str} {yaU : List Value} {za0 : Bool} {xaU : Option Bool} {ja0 : Option Addr} {wa0 va0 ya0 xa0 ka0 : Option Value}
    (jT : PySem.W.nsIn K mainGlobals "LooseNumber" = some (some (.ref ye))) (x9 : K.lookup ye = some (excClassObj xaZ ka7 ye qa8 kaZ zay true qa0 yaU za0 xaU ja0 wa0 va0 ya0 xa0 ka0 "ValueError.__new__")) (qaa : PySem.HandSPX.refsVE zay = true)
    (zaa : PySem.W.findIn K (.ref ye) "__setattr__" = some (some (.builtin "object.__setattr__"))) (zC : PySem.W.subIn K (.ref ye) (.type "BaseException") = some true) (jaa : PySem.W.typeIn K (.ref ye) = some (.type "type")) (waa : PySem.W.keepIn K (.ref ye) = true)
    (vT : PySem.W.findIn K (.ref ye) "at" = some none) (vaa : PySem.W.findIn K (.ref ye) "__init__" = some (some (.ref fI))) (jJ : PySem.W.findIn K (.ref ye) "__getattribute__" = some (some (.builtin "BaseException.__getattribute__"))) (wJ : PySem.W.findIn K (.ref ye) "__getattr__" = some none) (vJ : PySem.W.hasDictIn K ye = true)
    {ji : Addr} {xbE zbP : Str} {jbP : Addr} {kbE kaU : List Value} {qbF : List Str} {qbs : List Value} {zbF : Bool} {zbs : Option Bool} {jbF : Option Addr} {wbF vbF ybF xbF kbF : Option Value}
    (qai : PySem.W.nsIn K mainGlobals "BadBody" = some (some (.ref ji))) (zaA : K.lookup ji = some (excClassObj xbE zbP ji jbP kbE kaU true qbF qbs zbF zbs jbF wbF vbF ybF xbF kbF "ValueError.__new__")) (jaA : PySem.HandSPX.refsVE kaU = true)
    (waA : PySem.W.findIn K (.ref ji) "__setattr__" = some (some (.builtin "object.__setattr__"))) (yT : PySem.W.subIn K (.ref ji) (.type "BaseException") = some true) (vaA : PySem.W.typeIn K (.ref ji) = some (.type "type")) (yaA : PySem.W.keepIn K (.ref ji) = true)
    (zai : PySem.W.findIn K (.ref ji) "at" = some none) (xaA : PySem.W.findIn K (.ref ji) "__init__" = some (some (.ref fI))) (j3 : PySem.W.findIn K (.ref ji) "__getattribute__" = some (some (.builtin "BaseException.__getattribute__"))) (v3 : PySem.W.findIn K (.ref ji) "__getattr__" = some none) (y3 : PySem.W.hasDictIn K ji = true)
    {vh : Addr} {qbn jbs : Str} {wbs : Addr} {zbn yaH : List Value} {jbn : List Str} {za8 : List Value} {wbn : Bool} {ja8 : Option Bool} {vbn : Option Addr} {ybn xbn kbn qbo zbo : Option Value}
    (j4 : PySem.W.nsIn K mainGlobals "BadChange" = some (some (.ref vh))) (zan : K.lookup vh = some (excClassObj qbn jbs vh wbs zbn yaH true jbn za8 wbn ja8 vbn ybn xbn kbn qbo zbo "ValueError.__new__")) (jan : PySem.HandSPX.refsVE yaH = true)
    (wan : PySem.W.findIn K (.ref vh) "__setattr__" = some (some (.builtin "object.__setattr__"))) (yJ : PySem.W.subIn K (.ref vh) (.type "BaseException") = some true) (van : PySem.W.typeIn K (.ref vh) = some (.type "type")) (yan : PySem.W.keepIn K (.ref vh) = true)
    (y4 : PySem.W.findIn K (.ref vh) "at" = some none) (xan : PySem.W.findIn K (.ref vh) "__init__" = some (some (.ref fI))) (xQ : PySem.W.findIn K (.ref vh) "__getattribute__" = some (some (.builtin "BaseException.__getattribute__"))) (kQ : PySem.W.findIn K (.ref vh) "__getattr__" = some none) (jR : PySem.W.hasDictIn K vh = true)
    (yn : PySem.W.specialIn K (.builtin "object.__class__") "__get__" = some (some (.builtin "getset_descriptor.__get__"))) (yt : PySem.W.takesIn K (.builtin "object.__class__") = some true)
    (kan : PySem.W.findIn K (.ref jg) "__class__" = some (some (.builtin "object.__class__"))) (qao : PySem.W.mroIn K jg (.type "object") = some true)
    (yaa : PySem.W.findIn K (.ref ye) "__class__" = some (some (.builtin "object.__class__"))) (xaa : PySem.W.mroIn K ye (.type "object") = some true)
    (xaf : PySem.W.findIn K (.ref vf) "__class__" = some (some (.builtin "object.__class__"))) (kaf : PySem.W.mroIn K vf (.type "object") = some true)
    (zao : PySem.W.findIn K (.ref vh) "__class__" = some (some (.builtin "object.__class__"))) (jao : PySem.W.mroIn K vh (.type "object") = some true)
    (kaA : PySem.W.findIn K (.ref ji) "__class__" = some (some (.builtin "object.__class__"))) (qaB : PySem.W.mroIn K ji (.type "object") = some true)
    (vG : PySem.W.exmOne K (.ref jg) (.ref jg) = some true)
    (vE : PySem.W.exmOne K (.ref jg) (.ref vf) = some false)
    (vD : PySem.W.exmOne K (.ref jg) (.ref ye) = some false)
    (yD : PySem.W.exmOne K (.ref ye) (.ref jg) = some false)
    (xA : PySem.W.exmOne K (.ref ye) (.ref vf) = some false)
    (qA : PySem.W.exmOne K (.ref ye) (.ref ye) = some true)
    (yE : PySem.W.exmOne K (.ref vf) (.ref jg) = some false)
    (xD : PySem.W.exmOne K (.ref vf) (.ref vf) = some true)
    (qB : PySem.W.exmOne K (.ref vf) (.ref ye) = some false)
    (yG : PySem.W.exmOne K (.ref vh) (.ref vh) = some true)
    (wR : PySem.W.exmOne K (.ref ji) (.ref ji) = some true)
    (wL : PySem.W.exmOne K (.ref vh) (.ref ji) = some false)
    (vL : PySem.W.exmOne K (.ref jg) (.ref ji) = some false)
    (xG : PySem.W.exmOne K (.ref ye) (.ref ji) = some false)
    (xJ : PySem.W.exmOne K (.ref vf) (.ref ji) = some false)
    : ∃ fd : FuncData, (∀ (s : Shared) (v : Value), BindsTo s fd ⟨[v], []⟩ [("script", v)]) ∧ ∀ base : Heap, K.In base → base.Ns mainGlobals mg → FnOk P w K mg base (L2.CX P w) 11 fa fd ["script"] (DL.zbA K) := by
  have e := hfa.symm.trans (PySem.W.mg_of X G a17)
  cases e
  have yq : w.params.followText "set-order" = xC (fun n => match n with | 3 => jg | 1 => vf | 2 => ye | 18 => ji | 17 => vh  | 2000 => (bif w.params.followText "set-order" then 0 else 1) | _ => 0) := by
    unfold xC
    show _ = ((bif w.params.followText "set-order" then 0 else 1) == 0)
    cases w.params.followText "set-order" <;> rfl
  let T : Txt K mg (fun n => match n with | 3 => jg | 1 => vf | 2 => ye | 18 => ji | 17 => vh  | 2000 => (bif w.params.followText "set-order" then 0 else 1) | _ => 0) := ⟨f0, _, fun_mk l0 c0 k0, PySem.W.mg_of X G a0, (fun_mk (st := kJ) l0 c0 k0).binds (ps := ["script"]) fun _ _ _ _ _ _ us hl => match us, hl with | [_], _ => rfl, f1, _, fun_mk l1 c1 k1, PySem.W.mg_of X G a1, (fun_mk (st := jC) l1 c1 k1).binds (ps := ["row", "at"]) fun _ _ _ _ _ _ us hl => match us, hl with | [_, _], _ => rfl, f2, _, fun_mk l2 c2 k2, PySem.W.mg_of X G a2, (fun_mk (st := wN) l2 c2 k2).binds (ps := ["row", "at"]) fun _ _ _ _ _ _ us hl => match us, hl with | [_, _], _ => rfl, f3, _, fun_mk l3 c3 k3, PySem.W.mg_of X G a3, (fun_mk (st := qK) l3 c3 k3).binds (ps := ["row", "at", "top"]) fun _ _ _ _ _ _ us hl => match us, hl with | [_, _, _], _ => rfl, f4, _, fun_mk l4 c4 k4, PySem.W.mg_of X G a4, (fun_mk (st := vN) l4 c4 k4).binds (ps := ["body", "at", "least", "top"]) fun _ _ _ _ _ _ us hl => match us, hl with | [_, _, _, _], _ => rfl, f5, _, fun_mk l5 c5 k5, PySem.W.mg_of X G a5, (fun_mk (st := kaa) l5 c5 k5).binds (ps := ["old", "new"]) fun _ _ _ _ _ _ us hl => match us, hl with | [_, _], _ => rfl, f6, _, fun_mk l6 c6 k6, PySem.W.mg_of X G a6, (fun_mk (st := wB) l6 c6 k6).binds (ps := ["old", "parts"]) fun _ _ _ _ _ _ us hl => match us, hl with | [_, _], _ => rfl, f7, _, fun_mk l7 c7 k7, PySem.W.mg_of X G a7, (fun_mk (st := xt) l7 c7 k7).binds (ps := ["body", "before"]) fun _ _ _ _ _ _ us hl => match us, hl with | [_, _], _ => rfl, f8, _, fun_mk l8 c8 k8, PySem.W.mg_of X G a8, (fun_mk (st := wC) l8 c8 k8).binds (ps := ["body", "before"]) fun _ _ _ _ _ _ us hl => match us, hl with | [_, _], _ => rfl, f9, _, fun_mk l9 c9 k9, PySem.W.mg_of X G a9, (fun_mk (st := wF) l9 c9 k9).binds (ps := ["firsts"]) fun _ _ _ _ _ _ us hl => match us, hl with | [_], _ => rfl, f10, _, fun_mk l10 c10 k10, PySem.W.mg_of X G a10, (fun_mk (st := vC) l10 c10 k10).binds (ps := ["leaves"]) fun _ _ _ _ _ _ us hl => match us, hl with | [_], _ => rfl, f11, _, fun_mk l11 c11 k11, PySem.W.mg_of X G a11, (fun_mk (st := jaK) l11 c11 k11).binds (ps := ["leaf"]) fun _ _ _ _ _ _ us hl => match us, hl with | [_], _ => rfl, f12, _, fun_mk l12 c12 k12, PySem.W.mg_of X G a12, (fun_mk (st := jaj) l12 c12 k12).binds (ps := ["leaves"]) fun _ _ _ _ _ _ us hl => match us, hl with | [_], _ => rfl, f13, _, fun_mk l13 c13 k13, PySem.W.mg_of X G a13, (fun_mk (st := yC) l13 c13 k13).binds (ps := ["body", "before"]) fun _ _ _ _ _ _ us hl => match us, hl with | [_, _], _ => rfl, f14, _, fun_mk l14 c14 k14, PySem.W.mg_of X G a14, (fun_mk (st := kT) l14 c14 k14).binds (ps := ["leaves"]) fun _ _ _ _ _ _ us hl => match us, hl with | [_], _ => rfl, f15, _, fun_mk l15 c15 k15, PySem.W.mg_of X G a15, (fun_mk (st := vX) l15 c15 k15).binds (ps := ["draws", "k", "many"]) fun _ _ _ _ _ _ us hl => match us, hl with | [_, _, _], _ => rfl, f16, _, fun_mk l16 c16 k16, PySem.W.mg_of X G a16, (fun_mk (st := vB) l16 c16 k16).binds (ps := ["draws", "k"]) fun _ _ _ _ _ _ us hl => match us, hl with | [_, _], _ => rfl, fa, _, fun_mk l17 c17 k17, PySem.W.mg_of X G a17, (fun_mk (st := zaB) l17 c17 k17).binds (ps := ["script"]) fun _ _ _ _ _ _ us hl => match us, hl with | [_], _ => rfl, PySem.W.mg_none_of X G xI, PySem.W.mg_none_of X G zaK, PySem.W.mg_none_of X G wH, PySem.W.mg_none_of X G qaT, PySem.W.mg_none_of X G xac, PySem.W.mg_none_of X G jQ, PySem.W.mg_none_of X G j9, PySem.W.mg_none_of X G zaT, PySem.W.mg_none_of X G qJ, _, PySem.W.mg_of X G zam, _, PySem.W.mg_of X G jam, _, PySem.W.mg_of X G qaA, _, PySem.W.mg_of X G w9, _, PySem.W.mg_of X G ybj, fI, _, ⟨fun_mk lI cI kI, tI, (fun_mk (st := jax) lI cI kI).binds (ps := ["self", "at"]) fun _ _ _ _ _ _ us hl => match us, hl with | [_, _], _ => rfl⟩, ⟨PySem.W.mg_of X G j1, ⟨⟨_, _, _, _, _, _, _, _, _, _, _, _, _, _, _, wam, vam⟩, yam, zJ, xam, kam⟩, y1, qan, ⟨wQ, vQ, zJ, yQ⟩⟩, ⟨PySem.W.mg_of X G xV, ⟨⟨_, _, _, _, _, _, _, _, _, _, _, _, _, _, _, qaf, zaf⟩, jaf, jF, waf, vaf⟩, qW, yaf, ⟨xM, kM, jF, qN⟩⟩, ⟨PySem.W.mg_of X G jT, ⟨⟨_, _, _, _, _, _, _, _, _, _, _, _, _, _, _, x9, qaa⟩, zaa, zC, jaa, waa⟩, vT, vaa, ⟨jJ, wJ, zC, vJ⟩⟩, ⟨PySem.W.mg_of X G qai, ⟨⟨_, _, _, _, _, _, _, _, _, _, _, _, _, _, _, zaA, jaA⟩, waA, yT, vaA, yaA⟩, zai, xaA, ⟨j3, v3, yT, y3⟩⟩, ⟨PySem.W.mg_of X G j4, ⟨⟨_, _, _, _, _, _, _, _, _, _, _, _, _, _, _, zan, jan⟩, wan, yJ, van, yan⟩, y4, xan, ⟨xQ, kQ, yJ, jR⟩⟩, PySem.W.mg_of X G j1, PySem.W.mg_of X G xV, PySem.W.mg_of X G jT, PySem.W.mg_of X G j4, PySem.W.mg_of X G qai, ⟨⟨wQ, vQ, zJ, yQ⟩, y1, ⟨wQ, vQ, zJ, yQ, kan, yn, yt, qao⟩⟩, ⟨⟨jJ, wJ, zC, vJ⟩, vT, ⟨jJ, wJ, zC, vJ, yaa, yn, yt, xaa⟩⟩, ⟨⟨xM, kM, jF, qN⟩, qW, ⟨xM, kM, jF, qN, xaf, yn, yt, kaf⟩⟩, ⟨⟨xQ, kQ, yJ, jR⟩, y4, ⟨xQ, kQ, yJ, jR, zao, yn, yt, jao⟩⟩, ⟨⟨j3, v3, yT, y3⟩, zai, ⟨j3, v3, yT, y3, kaA, yn, yt, qaB⟩⟩, vG, vE, vD, yD, xA, qA, yE, xD, qB, yG, wR, wL, vL, xG, xJ⟩
  exact ⟨T.vaT, fun s v => .of_eq rfl, fun base _ _ => xci hl (zcp T yq)⟩
end K46
namespace DL
open PySem PySem.Spec PyProof.Rows L2
theorem xbJ {α : Type} {xs : List α} {i : Int} (h0 : 0 ≤ i) (h1 : i < xs.length) : atI xs i = some (xs[i.toNat]'(by omega)) := by
  unfold atI ixN
  rw [if_pos h0, if_pos h1]
  exact List.getElem?_eq_getElem _
theorem jcb {α β : Type} (f : α → β) (xs : List α) (i : Int) : atI (xs.map f) i = (atI xs i).map f := by
  unfold atI
  rw [List.length_map]
  cases ixN xs.length i with
  | none => rfl
  | some j => simp
theorem kaW {i j : Int} (h : 0 < j) : xbx i j = true := decide_eq_true h
theorem qaX {i j : Int} (h : 0 < j) (h2 : j < 1073741824) : yaV i j = true := by
  unfold yaV
  rw [decide_eq_true h, decide_eq_true h2]
  rfl
theorem jM {i j : Int} (h : -1000000000 < i) (h2 : i < 1000000000) : vay i j = true := by
  unfold vay
  rw [decide_eq_true (show -(2 ^ 64) < i by omega), decide_eq_true (show i < 2 ^ 64 by omega)]
  rfl
theorem yP {i j : Int} (h : -1000000000 < j) (h2 : j < 1000000000) : vay i j = true := by
  unfold vay
  rw [decide_eq_true (show -(2 ^ 64) < j by omega), decide_eq_true (show j < 2 ^ 64 by omega)]
  exact Bool.or_true _
theorem zaX {i j : Int} (h0 : 0 ≤ j) (h1 : j ≤ 1000000) (h2 : -1000000000 < i) (h3 : i < 1000000000) : yaM i j = true := by
  unfold yaM
  rw [decide_eq_true h0, decide_eq_true h1, decide_eq_true (show i.natAbs < 2 ^ 64 by omega)]
  rfl
theorem jaJ {j : Int} (h : -1000000000 < j) (h2 : j < 1000000000) : qY j = true := by
  unfold qY
  rw [decide_eq_true (show -(2 ^ 62) ≤ j by omega), decide_eq_true (show j < 2 ^ 62 by omega)]
  rfl
theorem qo {n : Nat} (h : n ≤ 16777216) : vj n = true := decide_eq_true h
theorem zaL : ∀ (ns ms : List Int), PyData.eqvAll (ns.map PyData.int) (ms.map PyData.int) = decide (ns = ms)
  | [], [] => rfl
  | [], _ :: _ => rfl
  | _ :: _, [] => rfl
  | n :: ns, m :: ms => by
    show (PyData.eqv (.int n) (.int m) && PyData.eqvAll (ns.map PyData.int) (ms.map PyData.int)) = _
    rw [zaL ns ms]
    show ((n == m) && decide (ns = ms)) = _
    by_cases h1 : n = m
    · by_cases h2 : ns = ms
      · simp [h1, h2]
      · simp [h1, h2]
    · simp [h1]
theorem jaL : ∀ ns : List Int, PyData.canLayAll0 (ns.map PyData.int) = true
  | [] => rfl
  | n :: ns => jaL ns
theorem depth_ints : ∀ ns : List Int, PyData.depthAll (ns.map PyData.int) = 0
  | [] => rfl
  | n :: ns => by
    show max 0 (PyData.depthAll (ns.map PyData.int)) = 0
    rw [depth_ints ns]
    rfl
@[simp] theorem jcs (i : Int) : SeqAt.shaped (.int i) = true := rfl
@[simp] theorem vcq (i : Bool) : SeqAt.shaped (.bool i) = true := rfl
@[simp] theorem ycq : SeqAt.shaped .none = true := rfl
@[simp] theorem shaped_ints (ns : List Int) : SeqAt.shaped (.list (ns.map PyData.int)) = true := by
  unfold SeqAt.shaped
  have h1 : PyData.canLay0 (.list (ns.map PyData.int)) = true := jaL ns
  have h2 : PyData.depth (.list (ns.map PyData.int)) = 1 := by
    show PyData.depthAll (ns.map PyData.int) + 1 = 1
    rw [depth_ints ns]
  rw [h1, h2]
  rfl
theorem wbT {d : D} (h : SeqAt.shaped d = true) : kX d d = some true := by
  unfold kX
  rw [h]
  show some (PyData.eqv d d) = some true
  rw [SeqAt.eqv_refl d (SeqAt.canLay_of_shaped h)]
@[simp] theorem vcJ (i j : Int) : kX (.int i) (.int j) = some (i == j) := rfl
@[simp] theorem kcz (ns ms : List Int) : kX (.list (ns.map PyData.int)) (.list (ms.map PyData.int)) = some (decide (ns = ms)) := by
  unfold kX
  rw [shaped_ints, shaped_ints]
  show some (PyData.eqvAll (ns.map PyData.int) (ms.map PyData.int)) = _
  rw [zaL]
theorem kak {g : FG} {body : FS} (Inv : Nat → ya → Prop) {ds : List D} {ρ : ya} (h0 : Inv 0 ρ)
    (h : ∀ i d ρ, ds[i]? = some d → Inv i ρ → ∃ ρ1 ρ2, g d ρ = some ρ1 ∧ body ρ1 = some (.nx ρ2) ∧ Inv (i + 1) ρ2) : ∃ ρ', forL g body ds ρ = some (.nx ρ') ∧ Inv ds.length ρ' := by
  have go : ∀ (k n : Nat) (ρ : ya), ds.length - n = k → n ≤ ds.length → Inv n ρ → ∃ ρ', forL g body (ds.drop n) ρ = some (.nx ρ') ∧ Inv ds.length ρ' := by
    intro k
    induction k with
    | zero =>
      intro n ρ hk hn hI
      have e : n = ds.length := by omega
      subst e
      rw [List.drop_length]
      exact ⟨ρ, rfl, hI⟩
    | succ k ih =>
      intro n ρ hk hn hI
      have hlt : n < ds.length := by omega
      obtain ⟨ρ1, ρ2, h1, h2, h3⟩ := h n ds[n] ρ (List.getElem?_eq_getElem hlt) hI
      obtain ⟨ρ', h4, h5⟩ := ih (n + 1) ρ2 (by omega) hlt h3
      refine ⟨ρ', ?_, h5⟩
      rw [List.drop_eq_getElem_cons hlt]
      unfold forL
      rw [h1]
      dsimp only
      rw [h2]
      exact h4
  have q := go _ 0 ρ rfl (Nat.zero_le _) h0
  rw [List.drop_zero] at q
  exact q
theorem jaX {α : Type} {tt : FT} {fe : FE} {st : D → Option ya} (dat : α → D) (F : α → D) : ∀ {xs : List α}, (∀ x ∈ xs, ∃ ρ v, st (dat x) = some ρ ∧ tt ρ = some (.ok true) ∧ fe ρ = some (.ok v) ∧ v.st = some (F x)) → lcL tt fe st (xs.map dat) = some (xs.map F)
  | [], _ => rfl
  | x :: xs, h => by
    obtain ⟨ρ, v, h1, h2, h3, h4⟩ := h x List.mem_cons_self
    have ih := jaX (tt := tt) (fe := fe) (st := st) dat F (xs := xs) fun y hy => h y (List.mem_cons_of_mem _ hy)
    rw [List.map_cons, List.map_cons]
    unfold lcL
    rw [h1]
    dsimp only
    rw [h2]
    dsimp only
    rw [h3]
    dsimp only
    rw [h4, ih]
    rfl
theorem kar (lo : Int) (n : Nat) : vi lo n = (List.range n).map fun (i : Nat) => PyData.int (lo + (i : Int)) := rfl
section
variable {f g : FS} {ρ ρ1 : ya} {o : Option Out} {n k : Nat} {ds : List D} {d : D} {E F fa fb fc : FE} {t u : FT} {i : Nat} {v a b : Val}
theorem jh (h1 : f ρ = some (.nx ρ1)) (h2 : g ρ1 = o) : ka f g ρ = o := by
  unfold ka
  rw [h1]
  exact h2
theorem vbT (h1 : f ρ = some (.ret d)) : ka f g ρ = some (.ret d) := by
  unfold ka
  rw [h1]
theorem vU (h : f (ds.map .dat ++ List.replicate (k - n) .un) = some (.ret d)) : qj n k f ds = some (.ret d) := by
  rw [qbd, h]
theorem qS {es : List D} (h : f (ds.map .dat ++ List.replicate (k - n) .un) = some (.retF es)) : qj n k f ds = some (.retF es) := by
  rw [qbd, h]
theorem zA {c : Nat} {j : Int} {ρ' : ya} (h : f (ds.map .dat ++ List.replicate (k - n) .un) = some (.exc ρ' c j)) : qj n k f ds = some (.exc c j) := by
  rw [qbd, h]
theorem qG {h : Val → Val → Option Val} (ha : fa ρ = some (.ok a)) (hb : fb ρ = some (.ok b)) (e : h a b = some v) : e2 h fa fb ρ = some (.ok v) := by
  rw [xcr]
  unfold bE
  rw [ha]
  dsimp only
  rw [hb]
  dsimp only
  rw [e]
  rfl
theorem zck {h : Val → Option Val} (ha : fa ρ = some (.ok a)) (e : h a = some v) : e1 h fa ρ = some (.ok v) := by
  rw [kcr]
  unfold bE
  rw [ha]
  dsimp only
  rw [e]
  rfl
theorem zO {d : D} (q : E ρ = some (.ok v)) (h : v.st = some d) (e : ρ.set i (.dat d) = ρ1) : je i E ρ = some (.nx ρ1) := by
  rw [qbu]
  unfold sE
  rw [q]
  dsimp only
  rw [h, ← e]
  rfl
theorem kbd (q : E ρ = some (.ok (.f ds))) (e : ρ.set i (.own ds) = ρ1) : yl i E ρ = some (.nx ρ1) := by
  rw [zbS]
  unfold sE
  rw [q, ← e]
theorem jo (h : t ρ = some (.ok true)) (e : f ρ = o) : qg t f g ρ = o := by
  unfold qg
  rw [h]
  exact e
theorem xl (h : t ρ = some (.ok false)) (e : g ρ = o) : qg t f g ρ = o := by
  unfold qg
  rw [h]
  exact e
theorem wac (q : E ρ = some (.ok (.s d))) : zd E ρ = some (.ret d) := by
  rw [zaJ]
  unfold sE
  rw [q]
theorem yaF (q : E ρ = some (.ok (.f ds))) : zd E ρ = some (.retF ds) := by
  rw [zaJ]
  unfold sE
  rw [q]
theorem qbe (q : E ρ = some (.ok (.b ds))) : zd E ρ = some (.retF ds) := by
  rw [zaJ]
  unfold sE
  rw [q]
theorem zG {x : Bool} (q : E ρ = some (.ok v)) (h : v.d = .bool x) : tV E ρ = some (.ok x) := by
  unfold tV
  rw [q]
  dsimp only
  rw [h]
theorem vb1 {x : Bool} (q : t ρ = some (.ok x)) : kK t ρ = some (.ok (!x)) := by
  unfold kK
  rw [q]
theorem xP (q : t ρ = some (.ok true)) : kK t ρ = some (.ok false) := vb1 q
theorem vY (q : t ρ = some (.ok false)) : kK t ρ = some (.ok true) := vb1 q
theorem yb1 {T : String} (q : fa ρ = some (.ok v)) (n : wbP v.d = false := by rfl) : e1 (qaW T) fa ρ = some (.ok (.s (.bool (zbQ T v.d)))) := zck q (by unfold qaW; rw [n]; rfl)
theorem wM (q : t ρ = some (.ok true)) : ju t u ρ = some (.ok true) := by
  unfold ju
  rw [q]
theorem wy {x : Bool} (q : t ρ = some (.ok false)) (q2 : u ρ = some (.ok x)) : ju t u ρ = some (.ok x) := by
  unfold ju
  rw [q]
  exact q2
theorem kl {x : Bool} (q : t ρ = some (.ok true)) (q2 : u ρ = some (.ok x)) : wu t u ρ = some (.ok x) := by
  unfold wu
  rw [q]
  exact q2
theorem qv (q : t ρ = some (.ok false)) : wu t u ρ = some (.ok false) := by
  unfold wu
  rw [q]
theorem yc : za ρ = some (.ok []) := rfl
theorem qb {A : FA} {vs : List Val} (q : E ρ = some (.ok v)) (q2 : A ρ = some (.ok vs)) : qa E A ρ = some (.ok (v :: vs)) := by
  unfold qa
  rw [q]
  dsimp only
  rw [q2]
theorem waX {h : List Val → Option Val} {A : FA} {vs : List Val} (q : A ρ = some (.ok vs)) (e : h vs = some v) : eG h A ρ = some (.ok v) := by
  unfold eG
  rw [q]
  dsimp only
  rw [e]
  rfl
theorem qal {G : DF} {A : FA} {vs : List Val} {es : List D} {d : D} (q : A ρ = some (.ok vs)) (hs : km vs = some es) (hn : vs.length = n) (e : G es = some (.ret d)) : jb G n A ρ = some (.ok (.s d)) := by
  unfold jb
  rw [q]
  dsimp only
  rw [if_pos hn, yai hs, e]
  dsimp only
  rw [hs]
theorem qX {G : DF} {A : FA} {vs : List Val} {es : List D} {ds : List D} (q : A ρ = some (.ok vs)) (hs : km vs = some es) (hn : vs.length = n) (e : G es = some (.retF ds)) : jb G n A ρ = some (.ok (.f ds)) := by
  unfold jb
  rw [q]
  dsimp only
  rw [if_pos hn, yai hs, e]
  dsimp only
  rw [hs]
theorem ybT {G : DF} {A : FA} {vs : List Val} {es : List D} {ds : List D} (q : A ρ = some (.ok vs)) (hs : vs.map Val.d = es) (hn : vs.length = n) (e : G es = some (.retF ds)) (hd : ds.all wj = true) : jb G n A ρ = some (.ok (.f ds)) := by
  unfold jb
  rw [q]
  dsimp only
  rw [if_pos hn, hs, e]
  dsimp only
  cases km vs with
  | some _ => rfl
  | none =>
    dsimp only
    rw [if_pos hd]
theorem wbu {G : DF} {A : FA} {vs : List Val} {es : List D} {d : D} (q : A ρ = some (.ok vs)) (hs : vs.map Val.d = es) (hn : vs.length = n) (e : G es = some (.ret d)) : ∃ v, jb G n A ρ = some (.ok v) ∧ v.d = d := by
  unfold jb
  rw [q]
  dsimp only
  rw [if_pos hn, hs, e]
  dsimp only
  cases km vs with
  | some _ => exact ⟨_, rfl, rfl⟩
  | none => exact ⟨_, rfl, rfl⟩
theorem wat : ∀ ns : List Int, (ns.map PyData.int).all wj = true
  | [] => rfl
  | n :: ns => wat ns
theorem zX {G : DF} {A : FA} {vs : List Val} {es : List D} {c : Nat} {j : Int} (q : A ρ = some (.ok vs)) (hs : km vs = some es) (hn : vs.length = n) (e : G es = some (.exc c j)) : jb G n A ρ = some (.error (c, j)) := by
  unfold jb
  rw [q]
  dsimp only
  rw [if_pos hn, yai hs, e]
theorem vb {d : D} (h : ρ[i]? = some (.dat d)) : eV i ρ = some (.ok (.s d)) := by
  unfold eV
  rw [h]
  rfl
theorem xbT {x : Bool} (ha : fa ρ = some (.ok a)) (hb : fb ρ = some (.ok b)) (e : kX a.d b.d = some x) : e2 zr fa fb ρ = some (.ok (.s (.bool x))) := qG ha hb (by unfold zr; rw [e]; rfl)
theorem zbe {x : Bool} (ha : fa ρ = some (.ok a)) (hb : fb ρ = some (.ok b)) (e : kX a.d b.d = some x) : e2 gNe fa fb ρ = some (.ok (.s (.bool (!x)))) := qG ha hb (by unfold gNe; rw [e]; rfl)
theorem xb1 {i j : Int} (ha : fa ρ = some (.ok (.s (.int i)))) (hb : fb ρ = some (.ok (.s (.int j)))) : e2 zr fa fb ρ = some (.ok (.s (.bool (i == j)))) := xbT ha hb rfl
theorem qb2 {i j : Int} (ha : fa ρ = some (.ok (.s (.int i)))) (hb : fb ρ = some (.ok (.s (.int j)))) : e2 gNe fa fb ρ = some (.ok (.s (.bool (!(i == j))))) := zbe ha hb rfl
theorem xj {i j : Int} (ha : fa ρ = some (.ok (.s (.int i)))) (hb : fb ρ = some (.ok (.s (.int j)))) (h : i = j) : tV (e2 zr fa fb) ρ = some (.ok true) := zG (xb1 ha hb) (by rw [beq_iff_eq.mpr h]; rfl)
theorem vo {i j : Int} (ha : fa ρ = some (.ok (.s (.int i)))) (hb : fb ρ = some (.ok (.s (.int j)))) (h : i ≠ j) : tV (e2 zr fa fb) ρ = some (.ok false) := zG (xb1 ha hb) (by rw [beq_eq_false_iff_ne.mpr h]; rfl)
theorem zS {i j : Int} (ha : fa ρ = some (.ok (.s (.int i)))) (hb : fb ρ = some (.ok (.s (.int j)))) (h : i = j) : tV (e2 gNe fa fb) ρ = some (.ok false) := zG (qb2 ha hb) (by rw [beq_iff_eq.mpr h]; rfl)
theorem jS {i j : Int} (ha : fa ρ = some (.ok (.s (.int i)))) (hb : fb ρ = some (.ok (.s (.int j)))) (h : i ≠ j) : tV (e2 gNe fa fb) ρ = some (.ok true) := zG (qb2 ha hb) (by rw [beq_eq_false_iff_ne.mpr h]; rfl)
theorem zb2 {es : List D} {d : D} (ho : ρ[i]? = some (.own es)) (q : E ρ = some (.ok v)) (h : v.st = some d) (hl : es.length + 1 ≤ 16777216) (e : ρ.set i (.own (es ++ [d])) = ρ1) : zy i E ρ = some (.nx ρ1) := by
  rw [wca]
  unfold qat
  rw [ho]
  dsimp only
  unfold sE
  rw [q]
  dsimp only
  rw [h]
  dsimp only
  rw [if_pos (qo hl), ← e]
end
theorem kbJ {vs : List Nat} {st : ya → D → Option ya} {a : FA} {tt : FT} {fe : FE} {ρ : ya} {n : Nat} {F : Nat → D} (h0 : noOwn ρ vs = true) (ha : zz a ρ = some (.ok (vi 0 n))) (hl : n ≤ 16777216)
    (h : ∀ k, k < n → ∃ ρ1 v, st (vm ρ vs) (.int (k : Int)) = some ρ1 ∧ tt ρ1 = some (.ok true) ∧ fe ρ1 = some (.ok v) ∧ v.st = some (F k)) : jI vs st (zz a) tt fe ρ = some (.ok (.f ((List.range n).map F))) := by
  have e : lcL tt fe (st (vm ρ vs)) (vi 0 n) = some ((List.range n).map F) := by
    rw [kar]
    refine jaX (fun (i : Nat) => PyData.int (0 + (i : Int))) F fun k hk => ?_
    rw [Int.zero_add]
    exact h k (List.mem_range.mp hk)
  unfold jI
  rw [if_pos h0, ha]
  dsimp only
  rw [e]
  dsimp only
  rw [if_pos (qo (by rw [List.length_map, List.length_range]; exact hl))]
theorem atI_nat {α : Type} {xs : List α} {i : Nat} (h : i < xs.length) : atI xs (i : Int) = some xs[i] := by
  rw [xbJ (Int.natCast_nonneg i) (by omega)]
  simp
def jd (row : List Nat) : List D := row.map fun (n : Nat) => .int (n : Int)
@[simp] theorem zcM : jd [] = [] := rfl
theorem vbu (n : Nat) (r : List Nat) : jd (n :: r) = .int (n : Int) :: jd r := rfl
theorem jck (a b : List Nat) : jd (a ++ b) = jd a ++ jd b := List.map_append
theorem yad (r : List Nat) : (jd r).length = r.length := List.length_map ..
theorem wcb (r : List Nat) : jd r = (r.map fun (n : Nat) => (n : Int)).map PyData.int := by
  unfold jd
  rw [List.map_map]
  rfl
theorem za3 (r : List Nat) : (jd r).all wj = true := by
  rw [wcb]
  exact wat _
theorem wck {a b : List Nat} (h : jd a = jd b) : a = b := by
  induction a generalizing b with
  | nil => cases b with
    | nil => rfl
    | cons _ _ => cases h
  | cons n a ih => cases b with
    | nil => cases h
    | cons m b =>
      rw [vbu, vbu] at h
      injection h with h1 h2
      injection h1 with h1
      rw [ih h2, Int.ofNat.inj h1]
theorem jbe {r : List Nat} {i : Nat} (h : i < r.length) : atI (jd r) (i : Int) = some (.int (r[i] : Nat)) := by
  have h' : i < (jd r).length := by rw [yad]; exact h
  rw [atI_nat h']
  simp [jd]
theorem kbT {α : Type} (xs : List α) (i j : Nat) (hj : j ≤ xs.length) (hi : i ≤ j) : wae xs (some (i : Int)) (some (j : Int)) = (xs.drop i).take (j - i) := by
  unfold wae
  rw [HT.sIx_nat, HT.sIx_nat, Nat.min_eq_left hj, Nat.min_eq_left (Nat.le_trans hi hj)]
section
variable {ρ ρ1 : ya} {ds us : List D} {d : D} {E fa fb : FE} {A : FA} {vs : List Val} {i : Nat} {v : Val}
theorem vah {it : FI} {g : FG} {body : FS} {xs : List D} {o : Out} (q : it ρ = some (.ok xs)) (h : forL g body xs ρ = some o) : jm it g body ρ = some o := by
  unfold jm
  rw [q]
  exact h
theorem qbK {xs : List D} (q : E ρ = some (.ok (.f xs))) : jn E ρ = some (.ok xs) := by
  unfold jn
  rw [q]
theorem y8 {j : Int} (q : E ρ = some (.ok (.s (.int j)))) : xp E ρ = some (.ok (some j)) := by
  unfold xp
  rw [q]
  rfl
theorem qbU {L R : FO} {lo hi : Option Int} {xs : List D} (q : E ρ = some (.ok v)) (hv : v = .s (.list xs) ∨ v = .b xs ∨ v = .f xs) (q1 : L ρ = some (.ok lo)) (q2 : R ρ = some (.ok hi)) : qH E L R ρ = some (.ok (.f (wae xs lo hi))) := by
  unfold qH
  rw [q]
  dsimp only
  rw [q1]
  dsimp only
  rw [q2]
  rcases hv with rfl | rfl | rfl <;> rfl
theorem xbA {g : Int → Int → Int} {a j : Int} (h : ρ[i]? = some (.dat (.int a))) (q : E ρ = some (.ok (.s (.int j)))) (e : ρ.set i (.dat (.int (g a j))) = ρ1) : zak i g E ρ = some (.nx ρ1) := by
  unfold zak
  rw [h]
  dsimp only
  unfold sE
  rw [q, ← e]
  rfl
theorem ybu {t : FT} {body : FS} {n : Nat} {o : Out} (h : jy t body n ρ = some o) (hn : n ≤ 1000000000) : wak t body ρ = some o := zat fuel h (by
  have e : fuel = 18446744073709551616 := rfl
  omega)
theorem zbK {t : FT} {body : FS} {n : Nat} (q : t ρ = some (.ok false)) : jy t body (n + 1) ρ = some (.nx ρ) := by
  unfold jy
  rw [q]
theorem vck {t : FT} {body : FS} {n : Nat} {o : Option Out} (q : t ρ = some (.ok true)) (q2 : body ρ = some (.nx ρ1)) (h : jy t body n ρ1 = o) : jy t body (n + 1) ρ = o := by
  unfold jy
  rw [q]
  dsimp only
  rw [q2]
  exact h
theorem xbu {j : Int} (q : E ρ = some (.ok (.s (.int j)))) (h1 : -1000000000 < j) (h2 : j < 1000000000) : zz (qa E (za)) ρ = some (.ok (vi 0 j.toNat)) := by
  unfold zz
  rw [qb q yc]
  show (if qY j = true then some (Except.ok (vi 0 j.toNat)) else none) = _
  rw [if_pos (jaJ h1 h2)]
theorem zbU (q1 : fa ρ = some (.ok (.s (.bool true)))) (q2 : fb ρ = some (.ok v)) : waI fa fb ρ = some (.ok v) := by
  rw [qbS]
  unfold bE
  rw [q1]
  exact q2
theorem r_b (h : ρ[i]? = some (.own ds)) : eV i ρ = some (.ok (.b ds)) := by
  unfold eV
  rw [h]
theorem jO (q : A ρ = some (.ok vs)) (h : km vs = some ds) (hl : vs.length ≤ 16777216) : zv A ρ = some (.ok (.f ds)) := by
  unfold zv
  rw [q]
  dsimp only
  rw [if_pos (qo hl), h]
theorem vac {es : List D} (q : E ρ = some (.ok v)) (h : v.d = .list es) : eG wg (qa E (za)) ρ = some (.ok (.s (.int (es.length : Int)))) := by
  refine waX (qb q yc) ?_
  unfold wg
  dsimp only
  rw [h]
  rfl
theorem yr {i j : Int} (ha : fa ρ = some (.ok (.s (.int i)))) (hb : fb ρ = some (.ok (.s (.int j)))) : e2 kc fa fb ρ = some (.ok (.s (.int (i + j)))) := qG ha hb rfl
theorem jA {i j : Int} (ha : fa ρ = some (.ok (.s (.int i)))) (hb : fb ρ = some (.ok (.s (.int j)))) : e2 gSub fa fb ρ = some (.ok (.s (.int (i - j)))) := qG ha hb rfl
theorem kP {i j : Int} (ha : fa ρ = some (.ok (.s (.int i)))) (hb : fb ρ = some (.ok (.s (.int j)))) (h : vay i j = true) : e2 xK fa fb ρ = some (.ok (.s (.int (i * j)))) := qG ha hb (by
  show (if vay i j = true then some (Val.s (.int (i * j))) else none) = _
  rw [if_pos h])
theorem yY {i j : Int} (ha : fa ρ = some (.ok (.s (.int i)))) (hb : fb ρ = some (.ok (.s (.int j)))) (h : 0 < j) : e2 zW fa fb ρ = some (.ok (.s (.int (i % j)))) := qG ha hb (by
  show (if xbx i j = true then some (Val.s (.int (i % j))) else none) = _
  rw [if_pos (kaW h)])
theorem xY {i j : Int} (ha : fa ρ = some (.ok (.s (.int i)))) (hb : fb ρ = some (.ok (.s (.int j)))) (h : 0 < j) (h2 : j < 1000000000) : e2 yay fa fb ρ = some (.ok (.s (.int (i / j)))) := qG ha hb (by
  show (if yaV i j = true then some (Val.s (.int (i / j))) else none) = _
  rw [if_pos (qaX h (by omega))])
theorem yah {i : Int} (ha : fa ρ = some (.ok (.s (.int i)))) : eG zU (qa fa (za)) ρ = some (.ok (.s (.int i))) := waX (qb ha yc) rfl
theorem jb2 {i j : Int} (ha : fa ρ = some (.ok (.s (.int i)))) (hb : fb ρ = some (.ok (.s (.int j)))) : tV (e2 kn fa fb) ρ = some (.ok (decide (j < i))) := zG (qG ha hb rfl) rfl
theorem wb2 {i j : Int} (ha : fa ρ = some (.ok (.s (.int i)))) (hb : fb ρ = some (.ok (.s (.int j)))) : tV (e2 yv fa fb) ρ = some (.ok (decide (i < j))) := zG (qG ha hb rfl) rfl
theorem jz {i j : Int} (ha : fa ρ = some (.ok (.s (.int i)))) (hb : fb ρ = some (.ok (.s (.int j)))) (h : j < i) : tV (e2 kn fa fb) ρ = some (.ok true) := by rw [jb2 ha hb, decide_eq_true h]
theorem wz {i j : Int} (ha : fa ρ = some (.ok (.s (.int i)))) (hb : fb ρ = some (.ok (.s (.int j)))) (h : i ≤ j) : tV (e2 kn fa fb) ρ = some (.ok false) := by rw [jb2 ha hb, decide_eq_false (by omega)]
theorem xE {i j : Int} (ha : fa ρ = some (.ok (.s (.int i)))) (hb : fb ρ = some (.ok (.s (.int j)))) (h : i < j) : tV (e2 yv fa fb) ρ = some (.ok true) := by rw [wb2 ha hb, decide_eq_true h]
theorem vx {i j : Int} (ha : fa ρ = some (.ok (.s (.int i)))) (hb : fb ρ = some (.ok (.s (.int j)))) (h : j ≤ i) : tV (e2 yv fa fb) ρ = some (.ok false) := by rw [wb2 ha hb, decide_eq_false (by omega)]
theorem wbe {es : List D} {j : Int} (ha : fa ρ = some (.ok (.s (.list es)))) (hb : fb ρ = some (.ok (.s (.int j)))) (h : atI es j = some d) : e2 ze fa fb ρ = some (.ok (.s d)) := qG ha hb (by
  show (atI es j).map Val.s = _
  rw [h]
  rfl)
theorem wcs {xs ys : List D} {a b : Val} (ha : fa ρ = some (.ok a)) (hb : fb ρ = some (.ok b)) (h1 : a.items = some xs) (h2 : b.items = some ys) (hn : va8 a b = none) (hl : xs.length + ys.length ≤ 16777216) : e2 kc fa fb ρ = some (.ok (.f (xs ++ ys))) := qG ha hb (by
  unfold kc
  rw [hn]
  show wba a b = _
  unfold wba
  rw [h1, h2]
  dsimp only
  rw [if_pos (qo hl)])
end
section
variable {f g : FS} {ρ ρ1 : ya} {o : Option Out} {n k : Nat} {ds : List D} {d : D} {E F fa fb fc : FE} {t u : FT} {i : Nat} {v a b : Val} {c : Nat} {j : Int}
theorem kY (h1 : f ρ = some (.exc ρ1 c j)) : ka f g ρ = some (.exc ρ1 c j) := by
  unfold ka
  rw [h1]
theorem vb2 (h1 : f ρ = some (.retF ds)) : ka f g ρ = some (.retF ds) := by
  unfold ka
  rw [h1]
theorem vS (q : E ρ = some (.ok (.s (.int j)))) : zm c E ρ = some (.exc ρ c j) := by
  rw [ybJ]
  unfold sE
  rw [q]
  rfl
theorem yck {h : HF} (q : f ρ = some (.nx ρ1)) : yas f h ρ = some (.nx ρ1) := by
  unfold yas
  rw [q]
theorem jbK {h : HF} (q : f ρ = some (.exc ρ1 c j)) (q2 : h c j ρ1 = o) : yas f h ρ = o := by
  unfold yas
  rw [q]
  exact q2
theorem wo {A : FA} {vs : List Val} (q : A ρ = some (.ok vs)) (h : km vs = some ds) (hl : vs.length ≤ 16777216) : ve A ρ = some (.ok (.s (.tuple ds))) := by
  unfold ve
  rw [q]
  dsimp only
  rw [if_pos (qo hl), h]
theorem wbK (q : E ρ = some (.error (c, j))) : zd E ρ = some (.exc ρ c j) := by
  rw [zaJ]
  unfold sE
  rw [q]
theorem xck (q : E ρ = some (.error (c, j))) : je i E ρ = some (.exc ρ c j) := by
  rw [qbu]
  unfold sE
  rw [q]
end
section
variable {f g : FS} {ρ ρ1 : ya} {o : Option Out} {n k : Nat} {ds : List D} {d : D} {E F fa fb fc : FE} {t u : FT} {i : Nat} {v a b : Val} {c : Nat} {j : Int}
theorem vbe {i j : Int} (ha : fa ρ = some (.ok (.s (.int i)))) (hb : fb ρ = some (.ok (.s (.int j)))) : tV (e2 zr fa fb) ρ = some (.ok (decide (i = j))) := by
  by_cases h : i = j
  · rw [xj ha hb h, decide_eq_true h]
  · rw [vo ha hb h, decide_eq_false h]
theorem xaF {i j : Nat} (ha : fa ρ = some (.ok (.s (.int (i : Int))))) (hb : fb ρ = some (.ok (.s (.int (j : Int))))) : e2 kc fa fb ρ = some (.ok (.s (.int ((i + j : Nat) : Int)))) := by
  rw [Int.natCast_add]
  exact yr ha hb
theorem kck {i j : Int} (ha : fa ρ = some (.ok (.s (.int i)))) (hb : fb ρ = some (.ok (.s (.int j)))) : e2 z7 fa fb ρ = some (.ok (.s (.int (Builtin.bitAnd i j)))) := qG ha hb rfl
theorem ycs {es : List D} {j : Int} (ha : fa ρ = some (.ok (.f es))) (hb : fb ρ = some (.ok (.s (.int j)))) (h : atI es j = some d) (hs : wj d = true) : e2 ze fa fb ρ = some (.ok (.s d)) := qG ha hb (by
  show (atI es j).map Val.s = _
  rw [h]
  rfl)
theorem ym {es : List D} {j : Int} (ha : fa ρ = some (.ok (.s (.tuple es)))) (hb : fb ρ = some (.ok (.s (.int j)))) (h : atI es j = some d) : e2 ze fa fb ρ = some (.ok (.s d)) := qG ha hb (by
  show (atI es j).map Val.s = _
  rw [h]
  rfl)
theorem qw {es : List D} (q : E ρ = some (.ok v)) (h : v.seq = some es) : eG ky (qa E (za)) ρ = some (.ok (.f es)) := waX (qb q yc) (by
  show v.seq.map Val.f = _
  rw [h]
  rfl)
end
theorem vcb {α : Type} (xs : List α) (i : Nat) : wae xs none (some (i : Int)) = xs.take i := by
  unfold wae
  rw [HT.sIx_none, HT.sIx_nat, List.drop_zero, Nat.sub_zero]
  by_cases h : i ≤ xs.length
  · rw [Nat.min_eq_left h]
  · rw [Nat.min_eq_right (by omega), List.take_length, List.take_of_length_le (by omega)]
theorem vbK {α : Type} (xs : List α) (i : Nat) : wae xs (some (i : Int)) none = xs.drop i := by
  unfold wae
  rw [HT.sIx_none, HT.sIx_nat]
  by_cases h : i ≤ xs.length
  · rw [Nat.min_eq_left h, List.take_of_length_le (by rw [List.length_drop]; omega)]
  · rw [Nat.min_eq_right (by omega), List.drop_length, List.drop_of_length_le (by omega), List.take_nil]
theorem kbu (r : List Nat) (n : Nat) : (jd r).take n = jd (r.take n) := by
  unfold jd
  rw [List.map_take]
theorem qbv (r : List Nat) (n : Nat) : (jd r).drop n = jd (r.drop n) := by
  unfold jd
  rw [List.map_drop]
section
variable {ρ ρ1 : ya} {E F : FE} {v : Val} {r : List Nat} {i j : Nat}
theorem qcl (q : E ρ = some (.ok v)) (hv : v = .s (.list (jd r)) ∨ v = .b (jd r) ∨ v = .f (jd r)) (q2 : F ρ = some (.ok (.s (.int (i : Int))))) : qH E qx (xp F) ρ = some (.ok (.f (jd (r.take i)))) := by
  rw [qbU q hv rfl (y8 q2), vcb, kbu]
theorem ybe (q : E ρ = some (.ok v)) (hv : v = .s (.list (jd r)) ∨ v = .b (jd r) ∨ v = .f (jd r)) (q2 : F ρ = some (.ok (.s (.int (i : Int))))) : qH E (xp F) qx ρ = some (.ok (.f (jd (r.drop i)))) := by
  rw [qbU q hv (y8 q2) rfl, vbK, qbv]
theorem ycb {G : FE} (q : E ρ = some (.ok v)) (hv : v = .s (.list (jd r)) ∨ v = .b (jd r) ∨ v = .f (jd r)) (q1 : F ρ = some (.ok (.s (.int (i : Int))))) (q2 : G ρ = some (.ok (.s (.int (j : Int))))) (hij : i ≤ j) (hj : j ≤ r.length) : qH E (xp F) (xp G) ρ = some (.ok (.f (jd ((r.drop i).take (j - i))))) := by
  rw [qbU q hv (y8 q1) (y8 q2), kbT _ _ _ (by rw [yad]; exact hj) hij, qbv, kbu]
theorem ybK {fa fb : FE} {a b : Val} {x y : List Nat} (ha : fa ρ = some (.ok a)) (hb : fb ρ = some (.ok b)) (h1 : a.items = some (jd x)) (h2 : b.items = some (jd y)) (hn : va8 a b = none) (hl : x.length + y.length ≤ 10000000) : e2 kc fa fb ρ = some (.ok (.f (jd (x ++ y)))) := by
  rw [wcs ha hb h1 h2 hn (by rw [yad, yad]; omega), jck]
end
theorem ja3 {g : FG} {body : FS} {o : Out} (Inv : Nat → ya → Prop) {ds : List D} {ρ : ya} {m : Nat} (hm : m < ds.length) (h0 : Inv 0 ρ)
    (h : ∀ i d ρ, i < m → ds[i]? = some d → Inv i ρ → ∃ ρ1 ρ2, g d ρ = some ρ1 ∧ body ρ1 = some (.nx ρ2) ∧ Inv (i + 1) ρ2)
    (hr : ∀ d ρ, ds[m]? = some d → Inv m ρ → ∃ ρ1, g d ρ = some ρ1 ∧ body ρ1 = some o) (ho : (∃ d, o = .ret d) ∨ (∃ x, o = .retF x) ∨ ∃ ρ' c j, o = .exc ρ' c j) : forL g body ds ρ = some o := by
  have go : ∀ (k n : Nat) (ρ : ya), m - n = k → n ≤ m → Inv n ρ → forL g body (ds.drop n) ρ = some o := by
    intro k
    induction k with
    | zero =>
      intro n ρ hk hn hI
      have e : n = m := by omega
      subst e
      obtain ⟨ρ1, h1, h2⟩ := hr ds[n] ρ (List.getElem?_eq_getElem hm) hI
      rw [List.drop_eq_getElem_cons hm]
      unfold forL
      rw [h1]
      dsimp only
      rw [h2]
      rcases ho with ⟨d, rfl⟩ | ⟨x, rfl⟩ | ⟨ρ', c, j, rfl⟩ <;> rfl
    | succ k ih =>
      intro n ρ hk hn hI
      have hlt : n < ds.length := by omega
      obtain ⟨ρ1, ρ2, h1, h2, h3⟩ := h n ds[n] ρ (by omega) (List.getElem?_eq_getElem hlt) hI
      rw [List.drop_eq_getElem_cons hlt]
      unfold forL
      rw [h1]
      dsimp only
      rw [h2]
      exact ih (n + 1) ρ2 (by omega) (by omega) h3
  have q := go _ 0 ρ rfl (Nat.zero_le _) h0
  rw [List.drop_zero] at q
  exact q
theorem wV (lo : Int) (n : Nat) : (vi lo n).length = n := by simp [vi]
theorem jK {lo n : Nat} {i : Nat} {d : D} (h : (vi (lo : Int) n)[i]? = some d) : i < n ∧ d = .int ((lo + i : Nat) : Int) := by
  have hi : i < n := by
    have := (List.getElem?_eq_some_iff.mp h).1
    rw [wV] at this
    exact this
  refine ⟨hi, ?_⟩
  rw [kar, List.getElem?_map, List.getElem?_range hi] at h
  cases h
  rfl
theorem kbA {n : Nat} {i : Nat} {d : D} (h : (vi 0 n)[i]? = some d) : i < n ∧ d = .int (i : Int) := by
  have q := jK (lo := 0) h
  rw [Nat.zero_add] at q
  exact q
theorem xcb {r : List Nat} {i : Nat} (h : i < r.length) : atI (jd r) (i : Int) = some (.int (r.getD i 0 : Nat)) := by
  rw [jbe h]
  congr 3
  rw [List.getD_eq_getElem?_getD, List.getElem?_eq_getElem h]
  rfl
section
variable {f g : FS} {ρ ρ1 : ya} {o : Option Out} {n k : Nat} {ds : List D} {d : D} {E F fa fb fc : FE} {t u : FT} {i j : Nat} {v a b : Val} {c : Nat}
theorem yaR (ha : fa ρ = some (.ok (.s (.int (i : Int))))) (hb : fb ρ = some (.ok (.s (.int (j : Int))))) (h : j ≤ i) : e2 gSub fa fb ρ = some (.ok (.s (.int ((i - j : Nat) : Int)))) := by
  rw [Int.natCast_sub h]
  exact jA ha hb
theorem xbK (ha : fa ρ = some (.ok (.s (.int (i : Int))))) (hb : fb ρ = some (.ok (.s (.int (j : Int))))) (h : i < 1000000000 ∨ j < 1000000000) : e2 xK fa fb ρ = some (.ok (.s (.int ((i * j : Nat) : Int)))) := by
  rw [Int.natCast_mul]
  refine kP ha hb ?_
  rcases h with h | h
  · exact jM (by omega) (by omega)
  · exact yP (by omega) (by omega)
theorem zcl (ha : fa ρ = some (.ok (.s (.int (i : Int))))) (hb : fb ρ = some (.ok (.s (.int 127)))) : e2 z7 fa fb ρ = some (.ok (.s (.int ((i % 128 : Nat) : Int)))) := by
  have e : ((i % 128 : Nat) : Int) = Builtin.bitAnd (i : Int) 127 := by
    rw [bitAnd_m7]
    omega
  rw [e]
  exact kck ha hb
theorem jcl (k : Nat) : ((2 : Int) ^ (k : Int).toNat) = ((2 ^ k : Nat) : Int) := by
  rw [Int.toNat_natCast, Int.natCast_pow]
  rfl
theorem wcl (ha : fa ρ = some (.ok (.s (.int (i : Int))))) (hb : fb ρ = some (.ok (.s (.int (j : Int))))) (h : i < 1000000000) (h2 : j ≤ 1000000) : e2 zba fa fb ρ = some (.ok (.s (.int ((i * 2 ^ j : Nat) : Int)))) := qG ha hb (by
  show (if yaM (i : Int) (j : Int) = true then some (Val.s (.int ((i : Int) * 2 ^ (j : Int).toNat))) else none) = _
  rw [if_pos (zaX (by omega) (by omega) (by omega) (by omega)), jcl, Int.natCast_mul])
theorem yb2 {x y : Int} (ha : fa ρ = some (.ok (.s (.int x)))) (hb : fb ρ = some (.ok (.s (.int y)))) : tV (e2 vW fa fb) ρ = some (.ok (decide (y ≤ x))) := zG (qG ha hb rfl) rfl
theorem xb2 {x y : Int} (ha : fa ρ = some (.ok (.s (.int x)))) (hb : fb ρ = some (.ok (.s (.int y)))) : tV (e2 kbc fa fb) ρ = some (.ok (decide (x ≤ y))) := zG (qG ha hb rfl) rfl
theorem kE {x y : Int} (ha : fa ρ = some (.ok (.s (.int x)))) (hb : fb ρ = some (.ok (.s (.int y)))) (h : y ≤ x) : tV (e2 vW fa fb) ρ = some (.ok true) := by rw [yb2 ha hb, decide_eq_true h]
theorem vz {x y : Int} (ha : fa ρ = some (.ok (.s (.int x)))) (hb : fb ρ = some (.ok (.s (.int y)))) (h : x < y) : tV (e2 vW fa fb) ρ = some (.ok false) := by rw [yb2 ha hb, decide_eq_false (by omega)]
theorem yS {x y : Int} (ha : fa ρ = some (.ok (.s (.int x)))) (hb : fb ρ = some (.ok (.s (.int y)))) (h : x ≤ y) : tV (e2 kbc fa fb) ρ = some (.ok true) := by rw [xb2 ha hb, decide_eq_true h]
theorem xS {x y : Int} (ha : fa ρ = some (.ok (.s (.int x)))) (hb : fb ρ = some (.ok (.s (.int y)))) (h : y < x) : tV (e2 kbc fa fb) ρ = some (.ok false) := by rw [xb2 ha hb, decide_eq_false (by omega)]
theorem xbe {x y : Int} (ha : fa ρ = some (.ok (.s (.int x)))) (hb : fb ρ = some (.ok (.s (.int y)))) (h1 : -1000000000 < x) (h2 : x < 1000000000) (h3 : -1000000000 < y) (h4 : y < 1000000000) : kR (qa fa (qa fb (za))) ρ = some (.ok (vi x (y - x).toNat)) := by
  unfold kR
  rw [qb ha (qb hb yc)]
  show (if (qY x && qY y) = true then some (Except.ok (vi x (y - x).toNat)) else none) = _
  rw [if_pos (by rw [jaJ h1 h2, jaJ h3 h4]; rfl)]
theorem xah {x : Int} (ha : fa ρ = some (.ok (.s (.int x)))) : e1 xay fa ρ = some (.ok (.s (.int (-x)))) := zck ha rfl
theorem xr {r : List Nat} (q : E ρ = some (.ok v)) (h : v.d = .list (jd r)) : eG wg (qa E (za)) ρ = some (.ok (.s (.int (r.length : Int)))) := by
  rw [vac q h, yad]
theorem qZ {es : List D} (q : E ρ = some (.ok v)) (h : v.d = .tuple es) : eG wg (qa E (za)) ρ = some (.ok (.s (.int (es.length : Int)))) := by
  refine waX (qb q yc) ?_
  unfold wg
  dsimp only
  rw [h]
  rfl
theorem za9 {r : List Nat} (ha : fa ρ = some (.ok (.s (.list (jd r))))) (hb : fb ρ = some (.ok (.s (.int (i : Int))))) (h : i < r.length) : e2 ze fa fb ρ = some (.ok (.s (.int (r.getD i 0 : Nat)))) := wbe ha hb (xcb h)
end
theorem kcb {α : Type} {vs : List Nat} {st : ya → D → Option ya} {it : FI} {tt : FT} {fe : FE} {ρ : ya} (dat F : α → D) {xs : List α} (h0 : noOwn ρ vs = true) (ha : it ρ = some (.ok (xs.map dat))) (hl : xs.length ≤ 16777216)
    (h : ∀ x ∈ xs, ∃ ρ1 v, st (vm ρ vs) (dat x) = some ρ1 ∧ tt ρ1 = some (.ok true) ∧ fe ρ1 = some (.ok v) ∧ v.st = some (F x)) : jI vs st it tt fe ρ = some (.ok (.f (xs.map F))) := by
  have e : lcL tt fe (st (vm ρ vs)) (xs.map dat) = some (xs.map F) := jaX dat F h
  unfold jI
  rw [if_pos h0, ha]
  dsimp only
  rw [e]
  dsimp only
  rw [if_pos (qo (by rw [List.length_map]; exact hl))]
end DL
namespace CG
def fr : List Nat → List Nat → Nat
  | x :: a, y :: b => if x = y then fr a b + 1 else 0
  | _, _ => 0
theorem vaJ : ∀ a b : List Nat, fr a b ≤ a.length ∧ fr a b ≤ b.length
  | [], b => ⟨Nat.zero_le _, Nat.zero_le _⟩
  | x :: a, [] => ⟨Nat.zero_le _, Nat.zero_le _⟩
  | x :: a, y :: b => by
    unfold fr
    split
    · have h := vaJ a b
      simp only [List.length_cons]
      omega
    · exact ⟨Nat.zero_le _, Nat.zero_le _⟩
theorem jbv : ∀ a b : List Nat, a.take (fr a b) = b.take (fr a b)
  | [], b => by cases b <;> rfl
  | x :: a, [] => rfl
  | x :: a, y :: b => by
    unfold fr
    split
    · rename_i h
      rw [List.take_succ_cons, List.take_succ_cons, jbv a b, h]
    · rfl
theorem qb3 : ∀ (a b : List Nat) (i : Nat), i < fr a b → a[i]? = b[i]? := fun a b i h => by
  have e := congrArg (fun l : List Nat => l[i]?) (jbv a b)
  simp only [List.getElem?_take_of_lt h] at e
  exact e
theorem yaX : ∀ (a b : List Nat), fr a b < a.length → fr a b < b.length → a[fr a b]? ≠ b[fr a b]?
  | [], b, h, _ => absurd h (Nat.not_lt_zero _)
  | x :: a, [], _, h => absurd h (Nat.not_lt_zero _)
  | x :: a, y :: b, h1, h2 => by
    by_cases e : x = y
    · have ef : fr (x :: a) (y :: b) = fr a b + 1 := by rw [fr, if_pos e]
      rw [ef] at h1 h2 ⊢
      rw [List.getElem?_cons_succ, List.getElem?_cons_succ]
      exact yaX a b (by simpa using h1) (by simpa using h2)
    · have ef : fr (x :: a) (y :: b) = 0 := by rw [fr, if_neg e]
      rw [ef]
      intro z
      exact e (by simpa using z)
def bk (a b : List Nat) : Nat := min (fr a.reverse b.reverse) (min a.length b.length - fr a b)
theorem xcs (a b : List Nat) : fr a b + bk a b ≤ a.length ∧ fr a b + bk a b ≤ b.length := by
  have h := vaJ a b
  unfold bk
  omega
def md (a b : List Nat) : List Nat := (b.drop (fr a b)).take (b.length - bk a b - fr a b)
def ap (a : List Nat) (f k : Nat) (m : List Nat) : List Nat := a.take f ++ (m ++ a.drop (a.length - k))
end CG
namespace FL
open PySem PySem.Spec PyProof.Rows L2 DL FN
open CG
section
variable (a b : List Nat) (s2 s3 : DL.Slot)
end
end FL
namespace CG
section
variable {a m : List Nat} {f k : Nat}
theorem wbL (h : f + k ≤ a.length) : (ap a f k m).length = f + m.length + k := by
  unfold ap
  rw [List.length_append, List.length_append, List.length_take, List.length_drop]
  omega
end
end CG
namespace FL
open PySem PySem.Spec PyProof.Rows L2 DL FN
def atD (ds : List Int) (k many : Int) : Int := if k < ds.length then (ds.getD k.toNat 0) % many else 0
theorem zbL (ds : List Int) (k many : Int) (hk : 0 ≤ k) (hm : 0 < many) : jf [.list (ds.map .int), .int k, .int many] = some (.ret (.int (atD ds k many))) := by
  unfold jf xm atD
  by_cases h : k < ds.length
  · have e := xbJ hk h
    simp [jcb, e, h, hk, hm, xbx]
  · simp [h, hk, hm]
def Drawn (ds : List Int) : Prop := ∀ d ∈ ds, 0 ≤ d ∧ d < 65536
theorem qaG {ds : List Int} {d : Int} (h : Drawn ds) (h0 : 0 ≤ d) (h1 : d < 65536) : Drawn (ds ++ [d]) := fun x hx => by
  rcases List.mem_append.mp hx with hx | hx
  · exact h x hx
  · rw [List.mem_singleton.mp hx]
    exact ⟨h0, h1⟩
theorem wbU (s0 s2 s4 s5 : DL.Slot) (ds : List Int) (rest : Int) (hd : Drawn ds) (hl : ds.length ≤ 60 * 63) (h0 : 0 ≤ rest) : ∃ (es : List Int) (r : Int) (s4' : DL.Slot), Drawn es ∧ es.length ≤ ds.length + 60 ∧
    forL (gN 4) (qg (tV (e2 kn (eV 3) (eC (.int 0)))) (ka (zy 1 (e2 zW (eG zU (qa (eV 3) (za))) (eC (.int 65536)))) (je 3 (e2 yay (eV 3) (eC (.int 65536))))) (zh)) (vi 0 60) [s0, .own (ds.map .int), s2, .dat (.int rest), s4, s5]
      = some (.nx [s0, .own (es.map .int), s2, .dat (.int r), s4', s5]) := by
  have key := kak (g := gN 4) (ds := vi 0 60) (ρ := [s0, .own (ds.map .int), s2, .dat (.int rest), s4, s5])
    (body := qg (tV (e2 kn (eV 3) (eC (.int 0)))) (ka (zy 1 (e2 zW (eG zU (qa (eV 3) (za))) (eC (.int 65536)))) (je 3 (e2 yay (eV 3) (eC (.int 65536))))) (zh))
    (fun j ρ => ∃ (es : List Int) (r : Int) (s4 : DL.Slot), ρ = [s0, .own (es.map .int), s2, .dat (.int r), s4, s5] ∧ Drawn es ∧ es.length ≤ ds.length + j ∧ 0 ≤ r ∧ j ≤ 60)
    ⟨ds, rest, s4, rfl, hd, Nat.le_refl _, h0, by decide⟩ (by
      rintro j d ρ hj ⟨es, r, s4, rfl, he, hel, hr, _⟩
      have hj : j < 60 := by simpa [vi] using (List.getElem?_eq_some_iff.mp hj).1
      by_cases hpos : 0 < r
      · refine ⟨_, _, rfl, ?_, es ++ [r % 65536], r / 65536, .dat d, rfl, qaG he (by omega) (by omega), by simp; omega, by omega, hj⟩
        have hln : vj (es.length + 1) = true := qo (by omega)
        simp [hpos, kaW, qaX, hln]
      · refine ⟨_, _, rfl, ?_, es, r, .dat d, rfl, he, by omega, hr, hj⟩
        simp [hpos])
  obtain ⟨ρ', h1, es, r, s4', rfl, h3, h4, _⟩ := key
  refine ⟨es, r, s4', h3, ?_, h1⟩
  simpa [vi] using h4
def jal : FS := ka (je 3 (eG qby (qa (e2 ze (eV 0) (eV 2)) (za)))) (qg (tV (e2 vW (eV 3) (e2 xbP (eC (.int 10)) (eC (.int 18))))) (jm (zz (qa (eC (.int 60)) (za))) (gN 4) (qg (tV (e2 kn (eV 3) (eC (.int 0)))) (ka (zy 1 (e2 zW (eG zU (qa (eV 3) (za))) (eC (.int 65536)))) (je 3 (e2 yay (eV 3) (eC (.int 65536))))) (zh))) (ka (je 5 (e2 zW (eG zU (qa (e2 kc (e2 xK (eV 3) (eC (.int 48271))) (e2 xK (e2 kc (eV 2) (eC (.int 1))) (eC (.int 69621)))) (za))) (eC (.int 2147483647)))) (ka (je 5 (e2 zW (eG zU (qa (e2 kc (e2 kc (e2 xK (eV 5) (eC (.int 16807))) (e2 xK (eC (.int 11)) (eV 2))) (eC (.int 5))) (za))) (eC (.int 2147483629)))) (ka (zy 1 (e2 zW (eG zU (qa (eV 5) (za))) (eC (.int 65536)))) (zy 1 (e2 zW (eG zU (qa (e2 yay (eV 5) (eC (.int 65536))) (za))) (eC (.int 32768))))))))
theorem jbB (ks : List (D × D)) (cell i : Int) (s3 s4 s5 : DL.Slot) (ds : List Int) (hd : Drawn ds) (hl : ds.length ≤ 60 * 62) (hat : atI ks i = some (.int cell, .none)) (hex : zaV ks = false) :
    ∃ (es : List Int) (s3' s4' s5' : DL.Slot), Drawn es ∧ es.length ≤ ds.length + 60 ∧ jal [.dat (.dict ks), .own (ds.map .int), .dat (.int i), s3, s4, s5] = some (.nx [.dat (.dict ks), .own (es.map .int), .dat (.int i), s3', s4', s5']) := by
  generalize hrest : (if cell < 0 then -cell else cell) = rest
  have h0 : 0 ≤ rest := by rw [← hrest]; split <;> omega
  by_cases hbig : (1000000000000000000 : Int) ≤ rest
  · obtain ⟨es, r, s4', he, hel, h3⟩ := wbU (.dat (.dict ks)) (.dat (.int i)) s4 s5 ds rest hd (by omega) h0
    refine ⟨es, .dat (.int r), s4', s5, he, hel, ?_⟩
    simp [jal, hat, hex, hrest, hbig, zaX, h3, jaJ]
  · have hln : ∀ m, m ≤ 3790 → vj m = true := fun m h => qo (by omega)
    generalize hm1 : (rest * 48271 + (i + 1) * 69621) % 2147483647 = m1
    generalize hm2 : (m1 * 16807 + 11 * i + 5) % 2147483629 = m2
    refine ⟨ds ++ [m2 % 65536] ++ [m2 / 65536 % 32768], .dat (.int rest), s4, .dat (.int m2), qaG (qaG hd (by omega) (by omega)) (by omega) (by omega), by simp, ?_⟩
    simp [jal, hat, hex, hrest, hbig, zaX, jM, yP, kaW, qaX, hm1, hm2, hln (ds.length + 1) (by omega), hln (ds.length + 1 + 1) (by omega)]
theorem qbf (ns : List Int) (hl : ns.length ≤ 63) : ∃ ds : List Int, Drawn ds ∧ ds.length ≤ 3780 ∧ yZ [yO ns] = some (.retF (ds.map .int)) := by
  have hmin : (if ((ns.length : Nat) : Int) < 63 then ((ns.length : Nat) : Int) else 63) = (ns.length : Int) := by split <;> omega
  have key := kak (g := gN 2) (ds := vi 0 ns.length) (ρ := [.dat (yO ns), .own [], .un, .un, .un, .un]) (body := jal)
    (fun i ρ => ∃ (ds : List Int) (s2 s3 s4 s5 : DL.Slot), ρ = [.dat (yO ns), .own (ds.map .int), s2, s3, s4, s5] ∧ Drawn ds ∧ ds.length ≤ 60 * i ∧ i ≤ ns.length)
    ⟨[], _, _, _, _, rfl, (fun _ h => nomatch h), Nat.zero_le _, Nat.zero_le _⟩ (by
      rintro i d ρ hd ⟨ds, s2, s3, s4, s5, rfl, hdr, hlen, _⟩
      have hi : i < ns.length := by simpa [vi] using (List.getElem?_eq_some_iff.mp hd).1
      have ed : d = .int i := by
        rw [kar, List.getElem?_map, List.getElem?_range hi] at hd
        cases hd
        simp
      subst ed
      have hat : atI (ns.map fun n => ((PyData.int n, PyData.none) : D × D)) (i : Int) = some (.int ns[i], .none) := by
        rw [atI_nat (j := i) (v := (.int ns[i], .none))]
        rw [List.getElem?_map, List.getElem?_eq_getElem hi]
        rfl
      obtain ⟨es, s3', s4', s5', h1, h2, h3⟩ := jbB _ _ i s3 s4 s5 ds hdr (by omega) hat (ya9 ns)
      exact ⟨_, _, rfl, h3, es, _, _, _, _, rfl, h1, by omega, hi⟩)
  obtain ⟨ρ', h1, ds, s2, s3, s4, s5, rfl, hd, hlen, _⟩ := key
  have hlen' : ds.length ≤ 3780 := by
    have e : (vi 0 ns.length).length = ns.length := by simp [vi]
    rw [e] at hlen
    omega
  refine ⟨ds, hd, hlen', ?_⟩
  have hr : qY (ns.length : Int) = true := by simp [qY]; omega
  unfold jal at h1
  simp [yZ, xZ, hmin, hr, h1, vj]
theorem jbL (ds : List Int) (k m : Int) (hm : 0 < m) : 0 ≤ atD ds k m := by
  unfold atD
  split
  · exact Int.emod_nonneg _ (by omega)
  · exact Int.le_refl _
theorem xcl (ds : List Int) (k m : Int) (hm : 0 < m) : atD ds k m < m := by
  unfold atD
  split
  · exact Int.emod_lt_of_pos _ hm
  · exact hm
theorem zQ {fa fb fc : FE} {ρ : ya} {ds : List Int} {k m : Int} (h1 : fa ρ = some (.ok (.s (.list (ds.map .int))))) (h2 : fb ρ = some (.ok (.s (.int k)))) (h3 : fc ρ = some (.ok (.s (.int m)))) (hk : 0 ≤ k) (hm : 0 < m) :
    jb jf 3 (qa fa (qa fb (qa fc (za)))) ρ = some (.ok (.s (.int (atD ds k m)))) := qal (qb h1 (qb h2 (qb h3 yc))) rfl rfl (zbL ds k m hk hm)
theorem zF (ds : List Int) (k m : Int) (hm : 0 < m) : ∃ n : Nat, (n : Int) = atD ds k m ∧ (n : Int) < m :=
  ⟨(atD ds k m).toNat, Int.toNat_of_nonneg (jbL ds k m hm), by rw [Int.toNat_of_nonneg (jbL ds k m hm)]; exact xcl ds k m hm⟩
end FL
namespace CR
def P : Nat := 3988292384
def f (x : Nat) : Nat := (x / 2) ^^^ (if x % 2 = 1 then P else 0)
theorem xz (a : Nat) : a ^^^ 0 = a := Nat.xor_zero a
def HV : List Nat := [0, 498536548, 997073096, 651767980, 1994146192, 1802195444, 1303535960, 1342533948, 3988292384, 4027552580, 3604390888, 3412177804, 2607071920, 2262029012, 2685067896, 3183342108]
def g (x : Nat) : Nat := (x / 16) ^^^ (HV.getD (x % 16) 0)
def crc (β : Nat → Nat) (r : Nat) : Nat → Nat
  | 0 => r
  | n + 1 => f (crc β r n ^^^ β n)
end CR
namespace FL
open PySem PySem.Spec PyProof.Rows L2 DL FN
open CR (crc g HV)
def J (row : List Nat) : List Int := row.map fun (n : Nat) => (n : Int)
def vb3 (row : List Nat) (k : Nat) : Nat := row.getD (k / 8) 0 / 2 ^ (k % 8) % 2
def sumOf (row : List Nat) : Nat := crc (vb3 row) 4294967295 (8 * row.length) ^^^ 4294967295
end FL
namespace SN
def val (b : Nat → Nat) : Nat → Nat
  | 0 => 0
  | k + 1 => val b k + (b k % 128) * 128 ^ k
theorem qa5 (b : Nat → Nat) : ∀ k, val b (k + 1) = b 0 % 128 + 128 * val (fun j => b (j + 1)) k
  | 0 => by simp [val]
  | k + 1 => by
    have q := qa5 b k
    rw [val, q]
    show _ = b 0 % 128 + 128 * (val (fun j => b (j + 1)) k + (b (k + 1) % 128) * 128 ^ k)
    rw [Nat.mul_add, Nat.pow_succ, Nat.mul_left_comm 128, Nat.mul_comm (128 ^ k) 128, Nat.add_assoc]
def steps (n : Nat) : List Nat := if h : n < 128 then [n] else (n % 128 + 128) :: steps (n / 128)
termination_by n
decreasing_by omega
theorem jbo {n : Nat} (h : n < 128) : steps n = [n] := by
  rw [steps, dif_pos h]
theorem kbX {n : Nat} (h : 128 ≤ n) : steps n = (n % 128 + 128) :: steps (n / 128) := by
  rw [steps, dif_neg (by omega)]
structure Ends (b : Nat → Nat) (p : Nat) : Prop where
  big : ∀ j, j < p → 128 ≤ b j
  small : b p < 128
structure Spec (n : Nat) (l : List Nat) (p : Nat) : Prop where
  len : l.length = p + 1
  ends : Ends (fun j => l.getD j 0) p
  val : val (fun j => l.getD j 0) (p + 1) = n
  xct : 0 < p → l.getD p 0 ≠ 0
  size : 0 < p → 128 ^ p ≤ n
  byte : ∀ x ∈ l, x < 256
theorem spec : ∀ (m n : Nat), n ≤ m → ∃ p, Spec n (steps n) p := by
  intro m
  induction m with
  | zero =>
    intro n hn
    have e : n = 0 := by omega
    subst e
    rw [jbo (by decide)]
    exact ⟨0, rfl, ⟨fun j hj => absurd hj (Nat.not_lt_zero _), by decide⟩, rfl, fun h => absurd h (by decide), fun h => absurd h (by decide), fun x hx => by rw [List.mem_singleton.mp hx]; decide⟩
  | succ m ih =>
    intro n hn
    by_cases h : n < 128
    · rw [jbo h]
      refine ⟨0, rfl, ⟨fun j hj => absurd hj (Nat.not_lt_zero _), h⟩, ?_, fun h => absurd h (by decide), fun h => absurd h (by decide), fun x hx => by rw [List.mem_singleton.mp hx]; omega⟩
      simp [val]
      omega
    · obtain ⟨p, q⟩ := ih (n / 128) (by omega)
      rw [kbX (by omega)]
      refine ⟨p + 1, by rw [List.length_cons, q.len], ⟨fun j hj => ?_, ?_⟩, ?_, fun _ => ?_, fun _ => ?_, fun x hx => ?_⟩
      · cases j with
        | zero => simp
        | succ j =>
          have := q.ends.big j (by omega)
          simpa using this
      · have := q.ends.small
        simpa using this
      · rw [qa5]
        have e : (fun j => (((n % 128 + 128) :: steps (n / 128)).getD (j + 1) 0)) = fun j => (steps (n / 128)).getD j 0 := by
          funext j
          simp
        have e0 : ((n % 128 + 128) :: steps (n / 128)).getD 0 0 = n % 128 + 128 := by simp
        rw [e, q.val]
        rw [e0]
        omega
      · rcases Nat.eq_zero_or_pos p with hp | hp
        · subst hp
          have h1 := q.val
          simp [val] at h1
          have h2 := q.ends.small
          simp at h2
          simp
          omega
        · have := q.xct hp
          simpa using this
      · rcases Nat.eq_zero_or_pos p with hp | hp
        · subst hp
          simp
          omega
        · have := q.size hp
          rw [Nat.pow_succ]
          omega
      · rcases List.mem_cons.mp hx with hx | hx
        · omega
        · exact q.byte x hx
inductive At (b : Nat → Nat) (rest : Nat) : Prop
  | ends (p : Nat) : p < 6 → p < rest → Ends b p → At b rest
  | short : rest < 6 → (∀ j, j < rest → 128 ≤ b j) → At b rest
  | long : 6 ≤ rest → (∀ j, j < 6 → 128 ≤ b j) → At b rest
theorem zbW (b : Nat → Nat) (rest : Nat) : At b rest := by
  have go : ∀ k, k ≤ 6 → k ≤ rest → (∀ j, j < k → 128 ≤ b j) ∨ At b rest := by
    intro k
    induction k with
    | zero => exact fun _ _ => .inl fun j hj => absurd hj (Nat.not_lt_zero _)
    | succ k ih =>
      intro h1 h2
      rcases ih (by omega) (by omega) with h | h
      · by_cases hk : b k < 128
        · exact .inr (.ends k (by omega) (by omega) ⟨h, hk⟩)
        · refine .inl fun j hj => ?_
          rcases Nat.lt_or_ge j k with h3 | h3
          · exact h j h3
          · have e : j = k := by omega
            subst e
            omega
      · exact .inr h
  by_cases hr : 6 ≤ rest
  · rcases go 6 (Nat.le_refl _) hr with h | h
    · exact .long hr h
    · exact h
  · rcases go rest (by omega) (Nat.le_refl _) with h | h
    · exact .short (by omega) h
    · exact h
theorem zas {b : Nat → Nat} {p q : Nat} (h : Ends b p) (h' : Ends b q) : p = q := by
  rcases Nat.lt_trichotomy p q with hl | hl | hl
  · have h1 := h'.big p hl
    have h2 := h.small
    omega
  · exact hl
  · have h1 := h.big q hl
    have h2 := h'.small
    omega
def dig (n : Nat) : List Nat := if h : n < 128 then [n] else (n % 128) :: dig (n / 128)
termination_by n
decreasing_by omega
structure Part (n k : Nat) (out : List Nat) (m : Nat) : Prop where
  le : m * 128 ^ k ≤ n
  now : (0 < k ∧ m = 0 ∧ out = dig n) ∨ ((k = 0 ∨ 0 < m) ∧ out ++ dig m = dig n)
end SN
namespace FL
open PySem PySem.Spec PyProof.Rows L2 DL FN
def yh (r : List Nat) (at_ : Nat) : Nat → Nat := fun j => r.getD (at_ + j) 0
noncomputable def jX : FS := ka (qg (tV (e2 vW (eV 2) (eG wg (qa (eV 0) (za))))) (zm 3 (eG wg (qa (eV 0) (za)))) (zh)) (qg (tV (e2 yv (e2 ze (eV 0) (eV 2)) (eC (.int 128)))) (zd (e2 kc (eV 2) (eC (.int 1)))) (zh))
theorem qce (r : List Nat) (a j : Nat) (h : a + j < r.length) (hb : 128 ≤ yh r a j) : jX [.dat (.list (jd r)), .dat (.int (a : Nat)), .dat (.int ((a + j : Nat) : Int))] = some (.nx [.dat (.list (jd r)), .dat (.int (a : Nat)), .dat (.int ((a + j : Nat) : Int))]) := by
  unfold jX
  refine jh (xl (vz (vb rfl) (xr (vb rfl) rfl) (by omega)) rfl) ?_
  unfold yh at hb
  exact xl (vx (za9 (vb rfl) (vb rfl) h) rfl (by omega)) rfl
theorem vaG (r : List Nat) (a : Nat) (ha : a ≤ 100000) (s2 : DL.Slot) : kR (qa (eV 1) (qa (e2 kc (eV 1) (eC (.int 6))) (za))) [.dat (.list (jd r)), .dat (.int (a : Nat)), s2] = some (.ok (vi (a : Int) 6)) := by
  have q := xbe (fa := eV 1) (fb := e2 kc (eV 1) (eC (.int 6))) (ρ := [.dat (.list (jd r)), .dat (.int (a : Nat)), s2]) (x := a) (y := a + 6) (vb rfl) (yr (vb rfl) rfl) (by omega) (by omega) (by omega) (by omega)
  rw [show ((a : Int) + 6 - a).toNat = 6 by omega] at q
  exact q
theorem jaO (r : List Nat) (a : Nat) (i : Nat) (d : D) (ρ : ya) (hd : (vi (a : Int) 6)[i]? = some d) (hi : a + i < r.length) (hb : 128 ≤ yh r a i) (h : ∃ s2 : DL.Slot, ρ = [.dat (.list (jd r)), .dat (.int (a : Nat)), s2]) :
    ∃ ρ1 ρ2, gN 2 d ρ = some ρ1 ∧ jX ρ1 = some (.nx ρ2) ∧ ∃ s2 : DL.Slot, ρ2 = [.dat (.list (jd r)), .dat (.int (a : Nat)), s2] := by
  obtain ⟨s2, rfl⟩ := h
  obtain ⟨_, rfl⟩ := jK hd
  exact ⟨_, _, rfl, qce r a i hi hb, _, rfl⟩
theorem kbV (r : List Nat) (a p : Nat) (ha : a ≤ 100000) (hp : p < 6) (hr : a + p < r.length) (h : SN.Ends (yh r a) p) : xo [.list (jd r), .int (a : Nat)] = some (.ret (.int ((a + p + 1 : Nat) : Int))) := by
  have key := ja3 (g := gN 2) (body := jX) (o := .ret (.int ((a + p + 1 : Nat) : Int))) (ds := vi (a : Int) 6) (ρ := [.dat (.list (jd r)), .dat (.int (a : Nat)), .un]) (m := p) (fun _ ρ => ∃ s2 : DL.Slot, ρ = [.dat (.list (jd r)), .dat (.int (a : Nat)), s2])
    (by rw [wV]; exact hp) ⟨_, rfl⟩ (fun i d ρ hi hd hI => jaO r a i d ρ hd (by omega) (h.big i hi) hI) (by
      rintro d ρ hd ⟨s2, rfl⟩
      obtain ⟨_, rfl⟩ := jK hd
      refine ⟨_, rfl, ?_⟩
      have hs := h.small
      unfold yh at hs
      unfold jX
      refine jh (xl (vz (vb rfl) (xr (vb rfl) rfl) (by omega)) rfl) ?_
      exact jo (xE (za9 (vb rfl) (vb rfl) hr) rfl (by omega)) (wac (xaF (j := 1) (vb rfl) rfl))) (.inl ⟨_, rfl⟩)
  unfold xo qC
  exact vU (vbT (vah (vaG r a ha _) key))
theorem wbN (r : List Nat) (a : Nat) (ha : a ≤ r.length) (hl : r.length ≤ 100000) (hr : r.length - a < 6) (h : ∀ j, j < r.length - a → 128 ≤ yh r a j) : xo [.list (jd r), .int (a : Nat)] = some (.exc 3 (r.length : Nat)) := by
  have key := ja3 (g := gN 2) (body := jX) (o := .exc [.dat (.list (jd r)), .dat (.int (a : Nat)), .dat (.int ((a + (r.length - a) : Nat) : Int))] 3 (r.length : Nat)) (ds := vi (a : Int) 6) (ρ := [.dat (.list (jd r)), .dat (.int (a : Nat)), .un]) (m := r.length - a) (fun _ ρ => ∃ s2 : DL.Slot, ρ = [.dat (.list (jd r)), .dat (.int (a : Nat)), s2])
    (by rw [wV]; exact hr) ⟨_, rfl⟩ (fun i d ρ hi hd hI => jaO r a i d ρ hd (by omega) (h i hi) hI) (by
      rintro d ρ hd ⟨s2, rfl⟩
      obtain ⟨_, rfl⟩ := jK hd
      refine ⟨_, rfl, ?_⟩
      unfold jX
      exact kY (jo (kE (vb rfl) (xr (vb rfl) rfl) (by omega)) (vS (xr (vb rfl) rfl)))) (.inr (.inr ⟨_, _, _, rfl⟩))
  unfold xo qC
  exact zA (kY (vah (vaG r a (by omega) _) key))
theorem qbW (r : List Nat) (a : Nat) (ha : a ≤ 100000) (hr : a + 6 ≤ r.length) (h : ∀ j, j < 6 → 128 ≤ yh r a j) : xo [.list (jd r), .int (a : Nat)] = some (.ret (.int ((a + 6 : Nat) : Int))) := by
  have key := kak (g := gN 2) (body := jX) (ds := vi (a : Int) 6) (ρ := [.dat (.list (jd r)), .dat (.int (a : Nat)), .un]) (fun _ ρ => ∃ s2 : DL.Slot, ρ = [.dat (.list (jd r)), .dat (.int (a : Nat)), s2])
    ⟨_, rfl⟩ (fun i d ρ hd hI => jaO r a i d ρ hd (by have := (jK hd).1; omega) (h i (jK hd).1) hI)
  obtain ⟨ρ', h1, s2, rfl⟩ := key
  unfold xo qC
  exact vU (jh (vah (vaG r a ha _) h1) (wac (xaF (j := 6) (vb rfl) rfl)))
noncomputable def kbh : FS := zak 3 (fun i j => i + j) (e2 zba (e2 z7 (e2 ze (eV 0) (eV 4)) (eC (.int 127))) (e2 xK (eC (.int 7)) (e2 gSub (eV 4) (eV 1))))
theorem zce (r : List Nat) (a n : Nat) (hn : n ≤ 6) (hr : a + n ≤ r.length) (ha : a ≤ 100000) (s4 : DL.Slot) : ∃ s4' : DL.Slot, jm (kR (qa (eV 1) (qa (eV 2) (za)))) (gN 4) kbh [.dat (.list (jd r)), .dat (.int (a : Nat)), .dat (.int ((a + n : Nat) : Int)), .dat (.int 0), s4] = some (.nx [.dat (.list (jd r)), .dat (.int (a : Nat)), .dat (.int ((a + n : Nat) : Int)), .dat (.int (SN.val (yh r a) n : Nat)), s4']) := by
  have key := kak (g := gN 4) (body := kbh) (ds := vi (a : Int) n) (ρ := [.dat (.list (jd r)), .dat (.int (a : Nat)), .dat (.int ((a + n : Nat) : Int)), .dat (.int 0), s4]) (fun i ρ => ∃ s4 : DL.Slot, ρ = [.dat (.list (jd r)), .dat (.int (a : Nat)), .dat (.int ((a + n : Nat) : Int)), .dat (.int (SN.val (yh r a) i : Nat)), s4])
    ⟨_, rfl⟩ (by
      rintro i d ρ hd ⟨s4, rfl⟩
      obtain ⟨hi, rfl⟩ := jK hd
      refine ⟨_, _, rfl, ?_, .dat (.int ((a + i : Nat) : Int)), rfl⟩
      have e1 : a + i - a = i := by omega
      have q := xbK (fa := eC (.int 7)) (fb := e2 gSub (eV 4) (eV 1)) (ρ := [.dat (.list (jd r)), .dat (.int (a : Nat)), .dat (.int ((a + n : Nat) : Int)), .dat (.int (SN.val (yh r a) i : Nat)), .dat (.int ((a + i : Nat) : Int))]) (i := 7) (j := a + i - a) rfl (yaR (vb rfl) (vb rfl) (by omega)) (.inl (by decide))
      rw [e1] at q
      refine xbA (a := (SN.val (yh r a) i : Nat)) rfl (wcl (zcl (za9 (vb rfl) (vb rfl) (by omega)) rfl) q (by omega) (by omega)) ?_
      have e2 : ((SN.val (yh r a) (i + 1) : Nat) : Int) = (SN.val (yh r a) i : Nat) + ((r.getD (a + i) 0 % 128 * 2 ^ (7 * i) : Nat) : Int) := by
        rw [SN.val, Int.natCast_add, Nat.pow_mul]
        rfl
      rw [e2]
      rfl)
  obtain ⟨ρ', h1, s4', rfl⟩ := key
  rw [wV] at h1
  refine ⟨s4', vah ?_ h1⟩
  have q := xbe (fa := eV 1) (fb := eV 2) (ρ := [.dat (.list (jd r)), .dat (.int (a : Nat)), .dat (.int ((a + n : Nat) : Int)), .dat (.int 0), s4]) (x := a) (y := ((a + n : Nat) : Int)) (vb rfl) (vb rfl) (by omega) (by omega) (by omega) (by omega)
  rw [show (((a + n : Nat) : Int) - a).toNat = n by omega] at q
  exact q
inductive Gs (r : List Nat) (a : Nat) : zbz → Prop
  | num (p : Nat) : p < 6 → a + p < r.length → SN.Ends (yh r a) p → SN.val (yh r a) (p + 1) < 2 ^ 40 → ¬ (0 < p ∧ yh r a p = 0) → Gs r a (.ret (.tuple [.int (SN.val (yh r a) (p + 1) : Nat), .int ((a + p + 1 : Nat) : Int)]))
  | loose (p : Nat) : p < 6 → a + p < r.length → SN.Ends (yh r a) p → SN.val (yh r a) (p + 1) < 2 ^ 40 → 0 < p → yh r a p = 0 → Gs r a (.exc 2 (a : Nat))
  | great (p : Nat) : p < 6 → a + p < r.length → SN.Ends (yh r a) p → 2 ^ 40 ≤ SN.val (yh r a) (p + 1) → Gs r a (.exc 1 (a : Nat))
  | long : a + 6 ≤ r.length → (∀ j, j < 6 → 128 ≤ yh r a j) → Gs r a (.exc 1 (a : Nat))
  | short : r.length - a < 6 → (∀ j, j < r.length - a → 128 ≤ yh r a j) → Gs r a (.exc 3 (r.length : Nat))
theorem wbw (r : List Nat) (a n : Nat) (hn : 0 < n) (hr : a + n ≤ r.length) (s3 s4 : DL.Slot) : e2 ze (eV 0) (e2 gSub (eV 2) (eC (.int 1))) [.dat (.list (jd r)), .dat (.int (a : Nat)), .dat (.int ((a + n : Nat) : Int)), s3, s4] = some (.ok (.s (.int (yh r a (n - 1) : Nat)))) := by
  have q := za9 (fa := eV 0) (fb := e2 gSub (eV 2) (eC (.int 1))) (ρ := [.dat (.list (jd r)), .dat (.int (a : Nat)), .dat (.int ((a + n : Nat) : Int)), s3, s4]) (r := r) (i := a + n - 1) (vb rfl) (yaR (j := 1) (vb rfl) rfl (by omega)) (by omega)
  unfold yh
  rw [show a + (n - 1) = a + n - 1 by omega]
  exact q
theorem qbi (r : List Nat) (a : Nat) (ha : a ≤ r.length) (hl : r.length ≤ 100000) : ∃ o, jv [.list (jd r), .int (a : Nat)] = some o ∧ Gs r a o := by
  have h40 : (2 : Nat) ^ 40 = 1099511627776 := by decide
  have pre : ∀ (n : Nat), n ≤ 6 → 0 < n → a + n ≤ r.length → xo [.list (jd r), .int (a : Nat)] = some (.ret (.int ((a + n : Nat) : Int))) → ∃ s4 : DL.Slot, ∀ {g : FS} {o : Option Out}, g [.dat (.list (jd r)), .dat (.int (a : Nat)), .dat (.int ((a + n : Nat) : Int)), .dat (.int (SN.val (yh r a) n : Nat)), s4] = o →
      ka (je 2 (jb FN.xo 2 (qa (eV 0) (qa (eV 1) (za))))) (ka (je 3 (eC (.int 0))) (ka (jm (kR (qa (eV 1) (qa (eV 2) (za)))) (gN 4) kbh) g)) [.dat (.list (jd r)), .dat (.int (a : Nat)), .un, .un, .un] = o := by
    intro n h6 h0 hn he
    obtain ⟨s4', h1⟩ := zce r a n h6 hn (by omega) .un
    refine ⟨s4', fun hg => ?_⟩
    refine jh (ρ1 := [.dat (.list (jd r)), .dat (.int (a : Nat)), .dat (.int ((a + n : Nat) : Int)), .un, .un]) (zO (qal (qb (vb rfl) (qb (vb rfl) yc)) rfl rfl he) rfl rfl) ?_
    refine jh (ρ1 := [.dat (.list (jd r)), .dat (.int (a : Nat)), .dat (.int ((a + n : Nat) : Int)), .dat (.int 0), .un]) (zO (v := .s (.int 0)) rfl rfl rfl) ?_
    exact jh h1 hg
  rcases SN.zbW (yh r a) (r.length - a) with ⟨p, hp, hr, he⟩ | ⟨hr, hb⟩ | ⟨hr, hb⟩
  · have h1 := kbV r a p (by omega) hp (by omega) he
    have hs := he.small
    obtain ⟨s4, go⟩ := pre (p + 1) (by omega) (by omega) (by omega) h1
    have hlast := fun s3 => wbw r a (p + 1) (by omega) (by omega) s3 s4
    rw [Nat.add_sub_cancel] at hlast
    by_cases hv : SN.val (yh r a) (p + 1) < 2 ^ 40
    · have first : qg (ju (tV (e2 vW (e2 ze (eV 0) (e2 gSub (eV 2) (eC (.int 1)))) (eC (.int 128)))) (tV (e2 vW (eV 3) (eC (.int 1099511627776))))) (zm 1 (eV 1)) (zh) [.dat (.list (jd r)), .dat (.int (a : Nat)), .dat (.int ((a + (p + 1) : Nat) : Int)), .dat (.int (SN.val (yh r a) (p + 1) : Nat)), s4] = some (.nx [.dat (.list (jd r)), .dat (.int (a : Nat)), .dat (.int ((a + (p + 1) : Nat) : Int)), .dat (.int (SN.val (yh r a) (p + 1) : Nat)), s4]) :=
        xl (wy (vz (hlast _) rfl (by omega)) (vz (vb rfl) rfl (by omega))) rfl
      by_cases hz : 0 < p ∧ yh r a p = 0
      · refine ⟨_, ?_, .loose p hp (by omega) he hv hz.1 hz.2⟩
        unfold jv jB
        exact zA (go (jh first (kY (jo (kl (jz (jA (vb rfl) (vb rfl)) rfl (by omega)) (xj (hlast _) rfl (by omega))) (vS (vb rfl))))))
      · refine ⟨_, ?_, .num p hp (by omega) he hv hz⟩
        unfold jv jB
        refine vU (go (jh first (jh (xl ?_ rfl) (wac (wo (qb (vb rfl) (qb (vb rfl) yc)) rfl (by simp))))))
        by_cases hp0 : 0 < p
        · exact kl (jz (jA (vb rfl) (vb rfl)) rfl (by omega)) (vo (hlast _) rfl (by
            intro e
            exact hz ⟨hp0, by omega⟩))
        · exact qv (wz (jA (vb rfl) (vb rfl)) rfl (by omega))
    · refine ⟨_, ?_, .great p hp (by omega) he (by omega)⟩
      unfold jv jB
      exact zA (go (kY (jo (wy (vz (hlast _) rfl (by omega)) (kE (vb rfl) rfl (by omega))) (vS (vb rfl)))))
  · have h1 := wbN r a ha hl hr hb
    refine ⟨_, ?_, .short hr hb⟩
    unfold jv jB
    exact zA (kY (xck (zX (qb (vb rfl) (qb (vb rfl) yc)) rfl rfl h1)))
  · have h1 := qbW r a (by omega) (by omega) hb
    obtain ⟨s4, go⟩ := pre 6 (by omega) (by omega) (by omega) h1
    have hlast : ∀ s3, _ := fun s3 => wbw r a 6 (by omega) (by omega) s3 s4
    rw [show 6 - 1 = 5 from rfl] at hlast
    have h5 := hb 5 (by omega)
    refine ⟨_, ?_, .long (by omega) hb⟩
    unfold jv jB
    exact zA (go (kY (jo (wM (kE (hlast _) rfl (by omega))) (vS (vb rfl)))))
end FL
namespace LF
open FL (sumOf vb3 yh)
def four (n : Nat) : List Nat := [n % 256, n / 256 % 256, n / 65536 % 256, n / 16777216 % 256]
def wcq (l : List Nat) : Nat := l.getD 0 0 + l.getD 1 0 * 256 + l.getD 2 0 * 65536 + l.getD 3 0 * 16777216
structure wd where
  kind : Nat
  wah : Nat
  number : Nat
  kZ : Nat
  ordinal : Nat
  time : Nat
  span : Nat
  key : Nat
  body : List Nat
structure wd.Ok (l : wd) : Prop where
  kind : l.kind ≤ 4
  wah : l.wah < 2 ^ 32
  number : l.number < 2 ^ 32
  kZ : l.kZ ≤ 15
  ordinal : l.ordinal ≤ 16777215
  time : l.time ≤ 1099511627775
  span : l.span ≤ 16777215
  key : l.key ≤ 1
  size : l.body.length ≤ 1024
  byte : ∀ x ∈ l.body, x < 256
def wd.fields (l : wd) : List Nat := [l.kind] ++ four l.wah ++ four l.number ++ SN.steps l.kZ ++ SN.steps l.ordinal ++ SN.steps l.time ++ SN.steps l.span ++ [l.key] ++ SN.steps l.body.length ++ l.body
def Good (r : List Nat) (a top p : Nat) : Prop := p < 6 ∧ a + p < r.length ∧ SN.Ends (yh r a) p ∧ SN.val (yh r a) (p + 1) ≤ top ∧ ¬ (0 < p ∧ yh r a p = 0)
open Classical in
noncomputable def rd (r : List Nat) (a top : Nat) : Option (Nat × Nat) := if h : ∃ p, Good r a top p then some (SN.val (yh r a) (Classical.choose h + 1), a + Classical.choose h + 1) else none
theorem vbw {r : List Nat} {a top p : Nat} (h : Good r a top p) : rd r a top = some (SN.val (yh r a) (p + 1), a + p + 1) := by
  unfold rd
  have hh : ∃ p, Good r a top p := ⟨p, h⟩
  rw [dif_pos hh]
  have q := Classical.choose_spec hh
  rw [SN.zas q.2.2.1 h.2.2.1]
theorem zaj {r : List Nat} {a top : Nat} (h : ∀ p, ¬ Good r a top p) : rd r a top = none := by
  unfold rd
  rw [dif_neg (fun ⟨p, q⟩ => h p q)]
theorem ybX (r : List Nat) (a top : Nat) : (∃ p, Good r a top p ∧ rd r a top = some (SN.val (yh r a) (p + 1), a + p + 1)) ∨ ((∀ p, ¬ Good r a top p) ∧ rd r a top = none) := by
  by_cases h : ∃ p, Good r a top p
  · obtain ⟨p, q⟩ := h
    exact .inl ⟨p, q, vbw q⟩
  · exact .inr ⟨fun p q => h ⟨p, q⟩, zaj fun p q => h ⟨p, q⟩⟩
noncomputable def xbX (r : List Nat) (kZ ordinal time span a4 : Nat) : Except (Nat × Nat) wd :=
  if r.length ≤ a4 ∨ 1 < r.getD a4 0 then .error (12, a4) else
  match rd r (a4 + 1) 1024 with
  | none => .error (13, a4 + 1)
  | some (size, a5) =>
    if r.length < a5 + size then .error (14, a5) else
    if r.drop (a5 + size) ≠ four (sumOf (r.take (a5 + size))) then .error (15, a5 + size) else
    .ok ⟨r.getD 0 0, wcq ((r.drop 1).take 4), wcq ((r.drop 5).take 4), kZ, ordinal, time, span, r.getD a4 0, (r.drop a5).take size⟩
noncomputable def read (r : List Nat) : Except (Nat × Nat) wd :=
  if r.length = 0 ∨ 4 < r.getD 0 0 then .error (5, 0) else
  if r.length < 5 then .error (6, 1) else
  if r.length < 9 then .error (7, 5) else
  match rd r 9 15 with
  | none => .error (8, 9)
  | some (kZ, a1) => match rd r a1 16777215 with
    | none => .error (9, a1)
    | some (ordinal, a2) => match rd r a2 1099511627775 with
      | none => .error (10, a2)
      | some (time, a3) => match rd r a3 16777215 with
        | none => .error (11, a3)
        | some (span, a4) => xbX r kZ ordinal time span a4
theorem zct {r : List Nat} {a top n s : Nat} (h : rd r a top = some (n, s)) : s ≤ r.length ∧ n ≤ top ∧ a < s := by
  rcases ybX r a top with ⟨p, q, e⟩ | ⟨_, e⟩
  · rw [e] at h
    cases h
    obtain ⟨h1, h2, h3, h4, h5⟩ := q
    exact ⟨by omega, h4, by omega⟩
  · rw [e] at h
    cases h
end LF
namespace FL
open PySem PySem.Spec PyProof.Rows L2 DL FN
open LF (wd)
section
variable {f g : FS} {ρ ρ1 : ya} {o : Out} {E fa fb : FE} {v : Val} {d : D} {c : Nat} {j : Int}
theorem kS {tg : FG} (q : E ρ = some (.ok v)) (h : v.st = some d) (e : tg d ρ = some ρ1) : vA tg E ρ = some (.nx ρ1) := by
  rw [zbu]
  unfold sE
  rw [q]
  dsimp only
  rw [h]
  dsimp only
  rw [e]
  rfl
theorem wbf {tg : FG} (q : E ρ = some (.error (c, j))) : vA tg E ρ = some (.exc ρ c j) := by
  rw [zbu]
  unfold sE
  rw [q]
theorem wcn {m : Nat → Option Bool} {gg : FS} {rest : HF} (hm : m c = some true) (h : gg ρ = some (.ret d)) : jae m gg rest c j ρ = some (.ret d) := by
  unfold jae
  rw [hm]
  dsimp only
  rw [h]
end
def qe (l : wd) : D := .tuple [.int (l.kind : Nat), .int (l.wah : Nat), .int (l.number : Nat), .int (l.kZ : Nat), .int (l.ordinal : Nat), .int (l.time : Nat), .int (l.span : Nat), .int (l.key : Nat), .list (jd l.body)]
def stD (a : Nat) : Option (Nat × Nat) → D
  | some (n, s) => .tuple [.int (n : Nat), .int (s : Nat)]
  | none => .tuple [.none, .int (a : Nat)]
theorem jbC (r : List Nat) (a top : Nat) (ha : a ≤ r.length) (hl : r.length ≤ 100000) (ht : top < 2 ^ 40) : vy [.list (jd r), .int (a : Nat), .int (top : Nat)] = some (.ret (stD a (LF.rd r a top))) := by
  have h40 : (2 : Nat) ^ 40 = 1099511627776 := by decide
  obtain ⟨o, g1, g2⟩ := qbi r a ha hl
  have bad : ∀ {c : Nat} {j : Int}, jv [.list (jd r), .int (a : Nat)] = some (.exc c j) → mxL [(1, true), (2, true), (3, true)] c = some true → LF.rd r a top = none → vy [.list (jd r), .int (a : Nat), .int (top : Nat)] = some (.ret (stD a (LF.rd r a top))) := by
    intro c j e hm hn
    rw [hn]
    unfold vy yI
    exact vU (vbT (jbK (wbf (zX (qb (vb rfl) (qb (vb rfl) yc)) rfl rfl e)) (wcn hm (wac (wo (qb rfl (qb (vb rfl) yc)) rfl (by simp))))))
  cases g2 with
  | num p hp hr he hv hz =>
    have run : ∀ {o : Option Out} {g : FS}, g [.dat (.list (jd r)), .dat (.int (a : Nat)), .dat (.int (top : Nat)), .dat (.int (SN.val (yh r a) (p + 1) : Nat)), .dat (.int ((a + p + 1 : Nat) : Int))] = o →
        ka (yas (vA (gT 2 (xb 3 (xb 4 (ki)))) (jb FN.jv 2 (qa (eV 0) (qa (eV 1) (za))))) (jae (mxL [(1, true), (2, true), (3, true)]) (zd (ve (qa (eC .none) (qa (eV 1) (za))))) (zaM))) g [.dat (.list (jd r)), .dat (.int (a : Nat)), .dat (.int (top : Nat)), .un, .un] = o := fun {o g} h =>
      jh (yck (kS (d := .tuple [.int (SN.val (yh r a) (p + 1) : Nat), .int ((a + p + 1 : Nat) : Int)]) (qal (qb (vb rfl) (qb (vb rfl) yc)) rfl rfl g1) rfl rfl)) h
    by_cases hb : SN.val (yh r a) (p + 1) ≤ top
    · rw [LF.vbw (p := p) ⟨hp, hr, he, hb, hz⟩]
      unfold vy yI
      exact vU (run (jh (xl (wz (vb rfl) (vb rfl) (by omega)) rfl) (wac (wo (qb (vb rfl) (qb (vb rfl) yc)) rfl (by simp)))))
    · rw [LF.zaj fun q ⟨h1, h2, h3, h4, h5⟩ => by
        have := SN.zas h3 he
        subst this
        exact hb h4]
      unfold vy yI
      exact vU (run (vbT (jo (jz (vb rfl) (vb rfl) (by omega)) (wac (wo (qb rfl (qb (vb rfl) yc)) rfl (by simp))))))
  | loose p hp hr he hv hp0 hz =>
    exact bad g1 rfl (LF.zaj fun q ⟨h1, h2, h3, h4, h5⟩ => by
      have := SN.zas h3 he
      subst this
      exact h5 ⟨hp0, hz⟩)
  | great p hp hr he hb =>
    exact bad g1 rfl (LF.zaj fun q ⟨h1, h2, h3, h4, h5⟩ => by
      have := SN.zas h3 he
      subst this
      omega)
  | long hr hb =>
    exact bad g1 rfl (LF.zaj fun q ⟨h1, h2, h3, h4, h5⟩ => by
      have := hb q h1
      have := h3.small
      omega)
  | short hr hb =>
    exact bad g1 rfl (LF.zaj fun q ⟨h1, h2, h3, h4, h5⟩ => by
      have := hb q (by omega)
      have := h3.small
      omega)
end FL
namespace DL
open PySem PySem.Spec PyProof.Rows L2
def pl (bb : Bool) : Nat → D → Bool
  | _, .int _ => true
  | _, .none => true
  | _, .bool _ => bb
  | _, .str x => PyData.canLay0 (.str x)
  | n + 1, .list xs => xs.all (pl bb n)
  | n + 1, .tuple xs => xs.all (pl bb n)
  | _, _ => false
theorem kbK {bb : Bool} : ∀ (n : Nat) (d : D), pl bb n d = true → PyData.canLay0 d = true ∧ PyData.depth d ≤ n := by
  intro n
  induction n with
  | zero =>
    intro d h
    cases d with
    | str x => exact ⟨h, Nat.le_refl _⟩
    | list xs => exact absurd h (by simp [pl])
    | tuple xs => exact absurd h (by simp [pl])
    | dict xs => exact absurd h (by simp [pl])
    | _ => exact ⟨rfl, Nat.le_refl _⟩
  | succ n ih =>
    have all : ∀ xs : List D, xs.all (pl bb n) = true → PyData.canLayAll0 xs = true ∧ PyData.depthAll xs ≤ n := by
      intro xs
      induction xs with
      | nil => intro _; exact ⟨rfl, Nat.zero_le _⟩
      | cons x xs ihx =>
        intro h
        rw [List.all_cons, Bool.and_eq_true] at h
        obtain ⟨h1, h2⟩ := ih x h.1
        obtain ⟨h3, h4⟩ := ihx h.2
        constructor
        · show (PyData.canLay0 x && PyData.canLayAll0 xs) = true
          rw [h1, h3]
          rfl
        · show max (PyData.depth x) (PyData.depthAll xs) ≤ n
          omega
    intro d h
    cases d with
    | str x => exact ⟨h, Nat.zero_le _⟩
    | list xs =>
      obtain ⟨h1, h2⟩ := all xs h
      refine ⟨h1, ?_⟩
      show PyData.depthAll xs + 1 ≤ n + 1
      omega
    | tuple xs =>
      obtain ⟨h1, h2⟩ := all xs h
      refine ⟨h1, ?_⟩
      show PyData.depthAll xs + 1 ≤ n + 1
      omega
    | dict xs => exact absurd h (by simp [pl])
    | none => exact ⟨rfl, Nat.zero_le _⟩
    | bool b => exact ⟨rfl, Nat.zero_le _⟩
    | int i => exact ⟨rfl, Nat.zero_le _⟩
theorem qas {bb : Bool} {d : D} (n : Nat) (h : pl bb n d = true) (hn : n ≤ 64 := by decide) : SeqAt.shaped d = true := by
  obtain ⟨h1, h2⟩ := kbK n d h
  unfold SeqAt.shaped
  rw [h1, decide_eq_true (show PyData.depth d ≤ 64 by omega)]
  rfl
theorem vcl : ∀ (n : Nat) (a b : D), pl false n a = true → pl false n b = true → PyData.eqv a b = true → a = b := by
  intro n
  induction n with
  | zero =>
    intro a b ha hb h
    cases a <;> cases b <;> first
      | rfl
      | (simp [pl] at ha; done)
      | (simp [pl] at hb; done)
      | (simp [PyData.eqv] at h; done)
      | (simp [PyData.eqv] at h; rw [h])
  | succ n ih =>
    have all : ∀ xs ys : List D, xs.all (pl false n) = true → ys.all (pl false n) = true → PyData.eqvAll xs ys = true → xs = ys := by
      intro xs
      induction xs with
      | nil =>
        intro ys _ _ h
        cases ys with
        | nil => rfl
        | cons y ys => simp [PyData.eqvAll] at h
      | cons x xs ihx =>
        intro ys hx hy h
        cases ys with
        | nil => simp [PyData.eqvAll] at h
        | cons y ys =>
          rw [List.all_cons, Bool.and_eq_true] at hx hy
          have h' : (PyData.eqv x y && PyData.eqvAll xs ys) = true := h
          rw [Bool.and_eq_true] at h'
          rw [ih x y hx.1 hy.1 h'.1, ihx ys hx.2 hy.2 h'.2]
    intro a b ha hb h
    cases a <;> cases b <;> first
      | rfl
      | (simp [pl] at ha; done)
      | (simp [pl] at hb; done)
      | (simp [PyData.eqv] at h; done)
      | (rename_i xs ys; rw [all xs ys ha hb h])
      | (simp [PyData.eqv] at h; rw [h])
theorem kbe {d : D} (n : Nat) (h : pl true n d = true) (hn : n ≤ 64 := by decide) : kX d d = some true := wbT (qas n h hn)
theorem qbL {a b : D} (n : Nat) (ha : pl false n a = true) (hb : pl false n b = true) (h : a ≠ b) (hn : n ≤ 64 := by decide) : kX a b = some false := by
  unfold kX
  rw [qas n ha hn, qas n hb hn]
  show some (PyData.eqv a b) = some false
  cases e : PyData.eqv a b with
  | false => rfl
  | true => exact absurd (vcl n a b ha hb e) h
theorem qbB (bb : Bool) (n : Nat) (r : List Nat) : (jd r).all (pl bb n) = true := by
  rw [List.all_eq_true]
  intro x hx
  obtain ⟨k, _, rfl⟩ := List.mem_map.mp hx
  cases n <;> rfl
open Classical in
theorem qcc {a b : D} (n : Nat) (ha : pl false n a = true) (hb : pl false n b = true) (hn : n ≤ 64 := by decide) : kX a b = some (decide (a = b)) := by
  by_cases h : a = b
  · subst h
    rw [decide_eq_true rfl]
    unfold kX
    rw [qas n ha hn]
    show some (PyData.eqv a a) = some true
    rw [SeqAt.eqv_refl a (kbK n a ha).1]
  · rw [decide_eq_false h, qbL n ha hb h hn]
section
variable {f g : FS} {t u : FT} {E fa fb fc fd fe : FE} {ρ ρ1 : ya} {o : Option Out} {i : Nat} {v a b : Val} {A : FA} {vs : List Val}
theorem ycl {x y : Int} (q : E ρ = some (.ok (.s (.int x)))) (h : x = y) (e : ρ.set i (.dat (.int y)) = ρ1) : je i E ρ = some (.nx ρ1) := by
  subst h
  exact zO q rfl e
theorem jbU {x y : Int} (q : E ρ = some (.ok (.s (.int x)))) (h : x = y) : E ρ = some (.ok (.s (.int y))) := by
  subst h
  exact q
theorem qQ {d : D} (q : E ρ = some (.ok v)) (h : v.st = some d) (k : g (ρ.set i (.dat d)) = o) : ka (je i E) g ρ = o := jh (zO q h rfl) k
theorem vaX {x y : Int} (q : E ρ = some (.ok (.s (.int x)))) (h : x = y) (k : g (ρ.set i (.dat (.int y))) = o) : ka (je i E) g ρ = o := jh (ycl q h rfl) k
theorem kai {ds : List D} (q : E ρ = some (.ok (.f ds))) (k : g (ρ.set i (.own ds)) = o) : ka (yl i E) g ρ = o := jh (kbd q rfl) k
theorem zZ {f1 f2 : FS} (h : t ρ = some (.ok true)) (k : ka f1 g ρ = o) : ka (qg t f1 f2) g ρ = o := by
  unfold ka at k ⊢
  rw [jo h rfl]
  exact k
theorem jZ {f1 f2 : FS} (h : t ρ = some (.ok false)) (k : ka f2 g ρ = o) : ka (qg t f1 f2) g ρ = o := by
  unfold ka at k ⊢
  rw [xl h rfl]
  exact k
theorem wZ {x y : Int} (ha : fa ρ = some (.ok (.s (.int x)))) (hb : fb ρ = some (.ok (.s (.int y)))) : eG zcy (qa fa (qa fb (za))) ρ = some (.ok (.s (.int (max x y)))) := by
  refine waX (qb ha (qb hb yc)) ?_
  show some (Val.s (PyData.int (if x < y then y else x))) = _
  congr 3
  split <;> omega
theorem yU {x y : Int} (ha : fa ρ = some (.ok (.s (.int x)))) (hb : fb ρ = some (.ok (.s (.int y)))) : eG kba (qa fa (qa fb (za))) ρ = some (.ok (.s (.int (min x y)))) := by
  refine waX (qb ha (qb hb yc)) ?_
  show some (Val.s (PyData.int (if y < x then y else x))) = _
  congr 3
  split <;> omega
theorem zcc {α : Type} {xs : List α} {j : Nat} (h0 : 0 < j) (h : j ≤ xs.length) : atI xs (-(j : Int)) = some (xs[xs.length - j]'(by omega)) := by
  unfold atI ixN
  rw [if_neg (by omega), if_pos (by omega)]
  show xs[(-(j : Int) + (xs.length : Int)).toNat]? = _
  have e : (-(j : Int) + (xs.length : Int)).toNat = xs.length - j := by omega
  rw [e, List.getElem?_eq_getElem]
theorem zbv {r : List Nat} {j : Nat} (h0 : 0 < j) (h : j ≤ r.length) : atI (jd r) (-(j : Int)) = some (.int (r[r.length - j]'(by omega) : Nat)) := by
  rw [zcc h0 (by rw [yad]; exact h)]
  simp [jd]
end
end DL
namespace FL
open PySem PySem.Spec PyProof.Rows L2 DL FN
open CG
local macro_rules | `(tactic| walk_at "ev") => `(tactic| first
  | exact vb rfl
  | exact r_b rfl
  | with_reducible assumption
  | exact (show eC _ _ = _ from rfl)
  | ((with_reducible apply zQ) <;> first | walk_at "ev" | omega)
  | ((with_reducible apply yr) <;> walk_at "ev")
  | ((with_reducible apply jA) <;> walk_at "ev")
  | ((with_reducible apply kP) <;> first | walk_at "ev" | exact jM (by omega) (by omega) | exact yP (by omega) (by omega))
  | ((with_reducible apply yY) <;> first | walk_at "ev" | omega)
  | ((with_reducible apply xY) <;> first | walk_at "ev" | omega)
  | ((with_reducible apply xah) <;> walk_at "ev")
  | ((with_reducible apply yah) <;> walk_at "ev")
  | ((with_reducible apply wZ) <;> walk_at "ev")
  | ((with_reducible apply yU) <;> walk_at "ev")
  | ((with_reducible apply xr) <;> first | rfl | walk_at "ev")
  | ((with_reducible apply qZ) <;> first | rfl | walk_at "ev")
  | ((with_reducible apply vac) <;> first | rfl | walk_at "ev")
  | ((with_reducible apply qw) <;> first | walk_at "ev" | rfl)
  | ((with_reducible apply yc))
  | ((with_reducible apply qb) <;> walk_at "ev")
  | ((with_reducible apply wo) <;> first | walk_at "ev" | rfl | (simp; done))
  | ((with_reducible apply jO) <;> first | walk_at "ev" | rfl | (simp; done))
  | ((with_reducible apply xj) <;> first | walk_at "ev" | omega)
  | ((with_reducible apply vo) <;> first | walk_at "ev" | omega)
  | ((with_reducible apply jS) <;> first | walk_at "ev" | omega)
  | ((with_reducible apply zS) <;> first | walk_at "ev" | omega)
  | ((with_reducible apply xE) <;> first | walk_at "ev" | omega)
  | ((with_reducible apply vx) <;> first | walk_at "ev" | omega)
  | ((with_reducible apply yS) <;> first | walk_at "ev" | omega)
  | ((with_reducible apply xS) <;> first | walk_at "ev" | omega)
  | ((with_reducible apply jz) <;> first | walk_at "ev" | omega)
  | ((with_reducible apply wz) <;> first | walk_at "ev" | omega)
  | ((with_reducible apply kE) <;> first | walk_at "ev" | omega)
  | ((with_reducible apply vz) <;> first | walk_at "ev" | omega)
  | ((with_reducible apply kl) <;> walk_at "ev")
  | ((with_reducible apply qv) <;> walk_at "ev")
  | ((with_reducible apply wM) <;> walk_at "ev")
  | ((with_reducible apply wy) <;> walk_at "ev")
  | ((with_reducible apply xP) <;> walk_at "ev")
  | ((with_reducible apply vY) <;> walk_at "ev")
  | ((with_reducible apply y8) <;> walk_at "ev"))
local macro_rules | `(tactic| walk_at "set") => `(tactic| ((with_reducible apply qQ); walk_at "ev"; rfl; dsimp only [List.set]))
local macro_rules | `(tactic| walk_at "ift") => `(tactic| ((first | with_reducible apply zZ | with_reducible apply jo); walk_at "ev"))
local macro_rules | `(tactic| walk_at "iff") => `(tactic| ((first | with_reducible apply jZ | with_reducible apply xl); walk_at "ev"))
section
variable (a b : List Nat)
noncomputable def chF : FT := wu (tV (e2 yv (eV 3) (eV 2))) (tV (e2 zr (e2 ze (eV 0) (eV 3)) (e2 ze (eV 1) (eV 3))))
noncomputable def chB : FT := wu (tV (e2 yv (eV 4) (e2 gSub (eV 2) (eV 3)))) (tV (e2 zr (e2 ze (eV 0) (e2 gSub (e1 xay (eC (.int 1))) (eV 4))) (e2 ze (eV 1) (e2 gSub (e1 xay (eC (.int 1))) (eV 4)))))
theorem vbU : ∀ (j i : Nat), i + j = fr a b → jy chF (zak 3 (fun i j => i + j) (eC (.int 1))) (j + 1) [.dat (.list (jd a)), .dat (.list (jd b)), .dat (.int ((min a.length b.length : Nat) : Int)), .dat (.int (i : Nat)), .un]
    = some (.nx [.dat (.list (jd a)), .dat (.list (jd b)), .dat (.int ((min a.length b.length : Nat) : Int)), .dat (.int (fr a b : Nat)), .un]) := by
  have hl := vaJ a b
  have test : ∀ i : Nat, i < a.length → i < b.length → chF [.dat (.list (jd a)), .dat (.list (jd b)), .dat (.int ((min a.length b.length : Nat) : Int)), .dat (.int (i : Nat)), .un] = some (.ok (decide (a[i]? = b[i]?))) := by
    intro i ha hb
    unfold chF
    refine kl (by walk_at "ev") ?_
    have q := vbe (wbe (vb (i := 0) (ρ := [.dat (.list (jd a)), .dat (.list (jd b)), .dat (.int ((min a.length b.length : Nat) : Int)), .dat (.int (i : Nat)), .un]) rfl) (vb (i := 3) rfl) (jbe ha)) (wbe (vb (i := 1) (ρ := [.dat (.list (jd a)), .dat (.list (jd b)), .dat (.int ((min a.length b.length : Nat) : Int)), .dat (.int (i : Nat)), .un]) rfl) (vb (i := 3) rfl) (jbe hb))
    rw [q]
    congr 2
    rw [List.getElem?_eq_getElem ha, List.getElem?_eq_getElem hb]
    apply decide_eq_decide.mpr
    constructor
    · intro h
      congr 1
      omega
    · intro h
      have := Option.some.inj h
      omega
  intro j
  induction j with
  | zero =>
    intro i h
    rw [Nat.add_zero] at h
    subst h
    refine zbK ?_
    by_cases h1 : fr a b < a.length ∧ fr a b < b.length
    · rw [test _ h1.1 h1.2, decide_eq_false (yaX a b h1.1 h1.2)]
    · exact qv (vx (vb rfl) (vb rfl) (by omega))
  | succ j ih =>
    intro i h
    refine vck ?_ ?_ (ih (i + 1) (by omega))
    · rw [test i (by omega) (by omega), decide_eq_true (qb3 a b i (by omega))]
    · exact xbA (a := (i : Int)) rfl rfl rfl
theorem jcc : ∀ (j i : Nat), i + j = bk a b → jy chB (zak 4 (fun i j => i + j) (eC (.int 1))) (j + 1) [.dat (.list (jd a)), .dat (.list (jd b)), .dat (.int ((min a.length b.length : Nat) : Int)), .dat (.int (fr a b : Nat)), .dat (.int (i : Nat))]
    = some (.nx [.dat (.list (jd a)), .dat (.list (jd b)), .dat (.int ((min a.length b.length : Nat) : Int)), .dat (.int (fr a b : Nat)), .dat (.int (bk a b : Nat))]) := by
  have hl := vaJ a b
  have hr := vaJ a.reverse b.reverse
  rw [List.length_reverse, List.length_reverse] at hr
  have test : ∀ i : Nat, i < min a.length b.length - fr a b → chB [.dat (.list (jd a)), .dat (.list (jd b)), .dat (.int ((min a.length b.length : Nat) : Int)), .dat (.int (fr a b : Nat)), .dat (.int (i : Nat))] = some (.ok (decide (a.reverse[i]? = b.reverse[i]?))) := by
    intro i hi
    have ha : i < a.length := by omega
    have hb : i < b.length := by omega
    unfold chB
    refine kl (by walk_at "ev") ?_
    have ii : e2 gSub (e1 xay (eC (.int 1))) (eV 4) [.dat (.list (jd a)), .dat (.list (jd b)), .dat (.int ((min a.length b.length : Nat) : Int)), .dat (.int (fr a b : Nat)), .dat (.int (i : Nat))] = some (.ok (.s (.int (-((i + 1 : Nat) : Int))))) :=
      jbU (x := -1 - (i : Int)) (by walk_at "ev") (by omega)
    have q := vbe (wbe (vb (i := 0) (ρ := [.dat (.list (jd a)), .dat (.list (jd b)), .dat (.int ((min a.length b.length : Nat) : Int)), .dat (.int (fr a b : Nat)), .dat (.int (i : Nat))]) rfl) ii (zbv (by omega) (show i + 1 ≤ a.length by omega))) (wbe (vb (i := 1) (ρ := [.dat (.list (jd a)), .dat (.list (jd b)), .dat (.int ((min a.length b.length : Nat) : Int)), .dat (.int (fr a b : Nat)), .dat (.int (i : Nat))]) rfl) ii (zbv (by omega) (show i + 1 ≤ b.length by omega)))
    rw [q]
    congr 2
    rw [List.getElem?_reverse ha, List.getElem?_reverse hb, List.getElem?_eq_getElem (show a.length - 1 - i < a.length by omega), List.getElem?_eq_getElem (show b.length - 1 - i < b.length by omega)]
    have e1 : a.length - (i + 1) = a.length - 1 - i := by omega
    have e2 : b.length - (i + 1) = b.length - 1 - i := by omega
    simp only [e1, e2]
    apply decide_eq_decide.mpr
    constructor
    · intro h
      congr 1
      omega
    · intro h
      have := Option.some.inj h
      omega
  intro j
  induction j with
  | zero =>
    intro i h
    rw [Nat.add_zero] at h
    subst h
    refine zbK ?_
    by_cases h1 : bk a b < min a.length b.length - fr a b
    · rw [test _ h1]
      have e : bk a b = fr a.reverse b.reverse := by unfold bk at h1 ⊢; omega
      rw [e]
      rw [e] at h1
      rw [decide_eq_false (yaX a.reverse b.reverse (by rw [List.length_reverse]; omega) (by rw [List.length_reverse]; omega))]
    · refine qv (vx (vb rfl) (jA (vb rfl) (vb rfl)) (by omega))
  | succ j ih =>
    intro i h
    have hk : bk a b ≤ fr a.reverse b.reverse := Nat.min_le_left _ _
    have hm : bk a b ≤ min a.length b.length - fr a b := Nat.min_le_right _ _
    refine vck ?_ ?_ (ih (i + 1) (by omega))
    · rw [test i (by omega), decide_eq_true (qb3 a.reverse b.reverse i (by omega))]
    · exact xbA (a := (i : Int)) rfl rfl rfl
theorem wa3 (ha : a.length ≤ 1000000) (hb : b.length ≤ 1000000) : jG [.list (jd a), .list (jd b)] = some (.ret (.tuple [.int (fr a b : Nat), .int (bk a b : Nat), .list (jd (md a b))])) := by
  have hl := vaJ a b
  have hk := xcs a b
  unfold jG wal
  refine vU ?_
  refine vaX (x := min (a.length : Int) (b.length : Int)) (y := ((min a.length b.length : Nat) : Int)) (yU (xr (vb rfl) rfl) (xr (vb rfl) rfl)) (by omega) ?_
  refine vaX (x := 0) (y := ((0 : Nat) : Int)) rfl rfl ?_
  refine jh (ybu (vbU a b (fr a b) 0 (by omega)) (by omega)) ?_
  refine vaX (x := 0) (y := ((0 : Nat) : Int)) rfl rfl ?_
  refine jh (ybu (jcc a b (bk a b) 0 (by omega)) (by omega)) ?_
  have cut := ycb (E := eV 1) (F := eV 3) (G := e2 gSub (eG wg (qa (eV 1) (za))) (eV 4)) (ρ := [.dat (.list (jd a)), .dat (.list (jd b)), .dat (.int ((min a.length b.length : Nat) : Int)), .dat (.int (fr a b : Nat)), .dat (.int (bk a b : Nat))]) (r := b) (i := fr a b) (j := b.length - bk a b) (vb rfl) (.inl rfl) (vb rfl) (yaR (xr (vb rfl) rfl) (vb rfl) (by omega)) (by omega) (by omega)
  exact wac (wo (qb (vb rfl) (qb (vb rfl) (qb cut yc))) rfl (by show 3 ≤ 16777216; decide))
end
section
variable (a m : List Nat) (f k : Nat)
def proper : Prop := fr a (ap a f k m) = f ∧ bk a (ap a f k m) = k ∧ md a (ap a f k m) = m
theorem wcc (x y x' y' : Nat) (l l' : List Nat) : PyData.tuple [.int (x : Nat), .int (y : Nat), .list (jd l)] = .tuple [.int (x' : Nat), .int (y' : Nat), .list (jd l')] ↔ x = x' ∧ y = y' ∧ l = l' := by
  constructor
  · intro h
    have h1 := List.cons.inj (PyData.tuple.inj h)
    have h2 := List.cons.inj h1.2
    have h3 := List.cons.inj h2.2
    have e1 := PyData.int.inj h1.1
    have e2 := PyData.int.inj h2.1
    exact ⟨by omega, by omega, wck (PyData.list.inj h3.1)⟩
  · rintro ⟨rfl, rfl, rfl⟩
    rfl
theorem wbv (bb : Bool) (x y : Nat) (l : List Nat) : pl bb 3 (.tuple [.int (x : Nat), .int (y : Nat), .list (jd l)]) = true := by
  show (true && (true && ((jd l).all (pl bb 1) && true))) = true
  rw [qbB]
  rfl
open Classical in
theorem zbf (x y x' y' : Nat) (l l' : List Nat) : kX (.tuple [.int (x : Nat), .int (y : Nat), .list (jd l)]) (.tuple [.int (x' : Nat), .int (y' : Nat), .list (jd l')]) = some (decide (x = x' ∧ y = y' ∧ l = l')) := by
  rw [qcc 3 (wbv _ _ _ _) (wbv _ _ _ _)]
  congr 1
  exact decide_eq_decide.mpr (wcc _ _ _ _ _ _)
theorem zcm {fa fb fc : FE} {ρ : ya} {v : Val} (ha : fa ρ = some (.ok (.f (jd (a.take f))))) (hb : fb ρ = some (.ok v)) (hv : v.items = some (jd m)) (hi : v.d = .list (jd m)) (hc : fc ρ = some (.ok (.f (jd (a.drop (a.length - k)))))) (hl : a.length ≤ 1000000) (hm : m.length ≤ 1000000) :
    e2 kc (e2 kc fa fb) fc ρ = some (.ok (.f (jd (ap a f k m)))) := by
  have q := ybK (ybK ha hb rfl hv (by
    unfold va8 gI
    rw [hi]
    rfl) (by rw [List.length_take]; omega)) hc rfl rfl rfl (by rw [List.length_append, List.length_take, List.length_drop]; omega)
  rw [q, List.append_assoc]
  rfl
theorem vbL (hl : a.length ≤ 1000000) (hm : m.length ≤ 1000000) (h : f + k ≤ a.length) {ρ : ya} {i0 i1 i2 i3 : Nat} (h0 : ρ[i0]? = some (.dat (.list (jd a)))) (h1 : ρ[i1]? = some (.dat (.int (f : Nat)))) (h2 : ρ[i2]? = some (.dat (.int (k : Nat)))) (h3 : ρ[i3]? = some (.dat (.list (jd m)))) :
    e2 kc (e2 kc (qH (eV i0) (qx) (xp (eV i1))) (eV i3)) (qH (eV i0) (xp (e2 gSub (eG wg (qa (eV i0) (za))) (eV i2))) (qx)) ρ = some (.ok (.f (jd (ap a f k m)))) :=
  zcm a m f k (qcl (vb h0) (.inl rfl) (vb h1)) (vb h3) rfl rfl (ybe (vb h0) (.inl rfl) (yaR (xr (vb h0) rfl) (vb h2) (by omega))) hl hm
end
end FL
namespace FN
open PySem PySem.Spec PyProof.Rows L2 DL
noncomputable section
def jce : FS := ka (yl 1 (zv (za))) (ka (yl 2 (zv (za))) (ka (jm (jn (eV 0)) (gN 3) (qg (tV (e2 zr (eV 3) (eC (.int 0)))) (ka (x7 1 (zv (qa (e2 kc (eG wg (qa (eV 2) (za))) (eC (.int 1))) (kbx (eV 2) (za))))) (yl 2 (zv (za)))) (ka (zy 2 (eV 3)) (qg (tV (e2 zr (eG wg (qa (eV 2) (za))) (e2 gSub (eC (.int 255)) (eC (.int 1))))) (ka (x7 1 (zv (qa (eC (.int 255)) (kbx (eV 2) (za))))) (yl 2 (zv (za)))) (zh))))) (ka (x7 1 (zv (qa (e2 kc (eG wg (qa (eV 2) (za))) (eC (.int 1))) (kbx (eV 2) (za))))) (zd (eV 1)))))
def wce : DF := qj 1 4 jce
end
noncomputable section
end
noncomputable section
def wa5 : FS := ka (je 2 (e2 jba (eV 0) (eC (.int 4294967295)))) (ka (jm (jn (eV 1)) (gN 3) (ka (je 2 (e2 jba (eV 2) (eV 3))) (ka (je 2 (e2 jba (e2 xaM (eV 2) (eC (.int 4))) (e2 ze (eC zbi) (e2 z7 (eV 2) (eC (.int 15)))))) (je 2 (e2 jba (e2 xaM (eV 2) (eC (.int 4))) (e2 ze (eC zbi) (e2 z7 (eV 2) (eC (.int 15))))))))) (zd (e2 jba (eV 2) (eC (.int 4294967295)))))
def va5 : DF := qj 2 4 wa5
def ya5 : FS := zd (jb FN.va5 2 (qa (eC (.int 0)) (qa (eV 0) (za))))
def waC : DF := qj 1 1 ya5
def vaS : FS := ka (jb0 (jb FN.qaY 1 (qa (eV 0) (za)))) (ka (vA (gT 9 (xb 1 (xb 2 (xb 3 (xb 4 (xb 5 (xb 6 (xb 7 (xb 8 (xb 9 (ki))))))))))) (eV 0)) (ka (yl 10 (e2 kc (e2 kc (zv (qa (eV 1) (za))) (jb FN.z0 1 (qa (eV 2) (za)))) (jb FN.z0 1 (qa (eV 3) (za))))) (ka (jm (jn (ve (qa (eV 4) (qa (eV 5) (qa (eV 6) (qa (eV 7) (za))))))) (gN 11) (x7 10 (jb FN.ko 1 (qa (eV 11) (za))))) (ka (zy 10 (eV 8)) (ka (x7 10 (jb FN.ko 1 (qa (eG wg (qa (eV 9) (za))) (za)))) (ka (x7 10 (eV 9)) (zd (e2 kc (eV 10) (jb FN.z0 1 (qa (jb FN.waC 1 (qa (eV 10) (za))) (za)))))))))))
def yaS : DF := qj 1 12 vaS
def zaY : FS := ka (yl 1 (zv (qa (eC (.int 0)) (za)))) (ka (jm (jn (eV 0)) (gN 2) (ka (x7 1 (jb FN.wce 1 (qa (jb FN.yaS 1 (qa (eV 2) (za))) (za)))) (zy 1 (eC (.int 0))))) (zd (eV 1)))
def x8 : DF := qj 1 3 zaY
def jbW : FS := ka (je 1 (jI [2, 3] (stT [2, 3]) (ka9 (qa (eV 0) (za))) (tV (e2 zr (eV 3) (eC (.int 0)))) (eV 2))) (zd (jI [4, 5] (stT [4, 5]) (vbY (qa (eV 1) (qa (qH (eV 1) (xp (eC (.int 1))) (qx)) (za)))) (tV (e2 yv (e2 kc (eV 4) (eC (.int 1))) (eV 5))) (ve (qa (e2 kc (eV 4) (eC (.int 1))) (qa (eV 5) (za))))))
def wbW : DF := qj 1 6 jbW
end
end FN
namespace FL
open PySem PySem.Spec PyProof.Rows L2 DL FN
open LF (wd)
end FL
namespace FN
open PySem PySem.Spec PyProof.Rows L2 DL
noncomputable section
end
end FN
namespace FL
open PySem PySem.Spec PyProof.Rows L2 DL FN
open LF (wd)
section
variable {f g : FS} {ρ ρ1 : ya} {o : Out} {n k : Nat} {ds : List D} {G : DF} {A : FA} {vs : List Val} {es as : List D} {d : D} {c : Nat} {j : Int}
end
def lfL (l : wd) : List D := [.int (l.kind : Nat), .int (l.wah : Nat), .int (l.number : Nat), .int (l.kZ : Nat), .int (l.ordinal : Nat), .int (l.time : Nat), .int (l.span : Nat), .int (l.key : Nat), .list (jd l.body)]
end FL
namespace FL
open PySem PySem.Spec PyProof.Rows L2 DL FN
open LF (wd)
end FL
namespace K04
end K04
namespace DL
open PySem PySem.Spec PyProof.Rows L2
theorem waJ {g : FG} {body : FS} {ρ ρ1 ρ2 : ya} {d : D} {ds : List D} {o : Option Out} (h1 : g d ρ = some ρ1) (h2 : body ρ1 = some (.nx ρ2)) (h3 : forL g body ds ρ2 = o) : forL g body (d :: ds) ρ = o := by
  rw [forL, h1]
  dsimp only
  rw [h2]
  exact h3
section
variable {f g : FS} {t u : FT} {E fa fb fc fd fe : FE} {ρ ρ1 : ya} {o : Option Out} {i : Nat} {v a b : Val} {A : FA} {vs : List Val}
theorem zbB {x : Bool} (q : E ρ = some (.ok v)) (h : isNone v.d = x) : tV (e2 kaM E (eC .none)) ρ = some (.ok x) := by
  refine zG (qG q rfl ?_) rfl (v := .s (.bool x))
  subst h
  rfl
theorem vZ {x : Bool} (q : E ρ = some (.ok v)) (h : isNone v.d = x) : tV (e2 jH E (eC .none)) ρ = some (.ok (!x)) := by
  refine zG (qG q rfl ?_) rfl (v := .s (.bool (!x)))
  subst h
  rfl
theorem kaF {xs : List D} (q : E ρ = some (.ok v)) (h : v = .s (.list xs) ∨ v = .s (.tuple xs) ∨ v = .f xs) : jn E ρ = some (.ok xs) := by
  unfold jn
  rw [q]
  rcases h with rfl | rfl | rfl <;> rfl
def pr (p : Int × Int) : D := .tuple [.int p.1, .int p.2]
end
end DL
namespace FL
open PySem PySem.Spec PyProof.Rows L2 DL FN
open LF (wd)
open CR (crc g HV)
end FL
namespace ST
def dec : List (List Nat) → List Nat
  | [] => []
  | b :: bs => b ++ (if b.length < 254 then [0] else []) ++ dec bs
def enc : List (List Nat) → List Nat
  | [] => []
  | b :: bs => (b.length + 1) :: b ++ enc bs
def full (bs : List (List Nat)) : Nat := bs.countP fun b => b.length == 254
def Ok (b : List Nat) : Prop := b.length ≤ 254 ∧ ∀ x ∈ b, 0 < x ∧ x < 256
def stp (s : List Nat × List Nat) (x : Nat) : List Nat × List Nat :=
  if x = 0 then (s.1 ++ (s.2.length + 1) :: s.2, []) else if s.2.length + 1 = 254 then (s.1 ++ 255 :: (s.2 ++ [x]), []) else (s.1, s.2 ++ [x])
def run (row : List Nat) : List Nat × List Nat := row.foldl stp ([], [])
def qaV (row : List Nat) : List Nat := (run row).1 ++ ((run row).2.length + 1) :: (run row).2
structure Inv (row : List Nat) (s : List Nat × List Nat) : Prop where
  bs : ∃ bs, s.1 = enc bs ∧ row = dec bs ++ s.2 ∧ ∀ b ∈ bs, Ok b
  len : s.2.length < 254
  ok : ∀ x ∈ s.2, 0 < x ∧ x < 256
  small : s.1.length + s.2.length ≤ 2 * row.length
end ST
namespace FN
open PySem PySem.Spec PyProof.Rows L2 DL
noncomputable section
end
end FN
namespace FL
open PySem PySem.Spec PyProof.Rows L2 DL FN
open ST (stp qaV enc dec full)
end FL
namespace ST
theorem cut : ∀ (n : Nat) (r : List Nat), r.length ≤ n → (∀ x ∈ r, 0 < x ∧ x < 256) → ∃ bs tail, r = enc bs ++ tail ∧ (∀ b ∈ bs, Ok b) ∧ (tail = [] ∨ ∃ x t, tail = x :: t ∧ t.length + 1 < x) := by
  intro n
  induction n with
  | zero =>
    intro r hr _
    have e : r = [] := List.length_eq_zero_iff.mp (by omega)
    subst e
    exact ⟨[], [], rfl, (fun _ h => nomatch h), .inl rfl⟩
  | succ n ih =>
    intro r hr hp
    cases r with
    | nil => exact ⟨[], [], rfl, (fun _ h => nomatch h), .inl rfl⟩
    | cons x t =>
      by_cases hx : t.length + 1 < x
      · exact ⟨[], x :: t, rfl, (fun _ h => nomatch h), .inr ⟨x, t, rfl, hx⟩⟩
      · have hx0 := hp x List.mem_cons_self
        have hl : (t.drop (x - 1)).length ≤ n := by
          rw [List.length_cons] at hr
          rw [List.length_drop]
          omega
        obtain ⟨bs, tail, e, hok, ht⟩ := ih (t.drop (x - 1)) hl fun y hy => hp y (List.mem_cons_of_mem _ (List.mem_of_mem_drop hy))
        have hb : (t.take (x - 1)).length = x - 1 := by
          rw [List.length_take]
          omega
        refine ⟨t.take (x - 1) :: bs, tail, ?_, ?_, ht⟩
        · simp only [enc, hb, List.cons_append, List.append_assoc]
          rw [← e, List.take_append_drop]
          congr 1
          omega
        · intro b hbm
          rcases List.mem_cons.mp hbm with rfl | hbm
          · exact ⟨by omega, fun y hy => hp y (List.mem_cons_of_mem _ (List.mem_of_mem_take hy))⟩
          · exact hok b hbm
end ST
namespace ST
end ST
namespace PL
def nz : List Nat → Nat
  | [] => 0
  | x :: r => if x = 0 then 0 else nz r + 1
section
variable {α : Type} (f : α → List Nat)
def body : List α → List Nat
  | [] => []
  | l :: ls => f l ++ 0 :: body ls
end
end PL
namespace DL
open PySem PySem.Spec PyProof.Rows L2
theorem zbN {f : FS} {n k : Nat} {ds : List D} {d : D} {ρ0 : ya} (e : ds.map .dat ++ List.replicate (k - n) .un = ρ0) (h : f ρ0 = some (.ret d)) : qj n k f ds = some (.ret d) := by
  subst e
  exact vU h
end DL
namespace FL
open PySem PySem.Spec PyProof.Rows L2 DL FN
open LF (wd)
open PL
open ST (qaV)
local macro_rules | `(tactic| walk_at "ev") => `(tactic| first
  | exact vb rfl
  | exact r_b rfl
  | with_reducible assumption
  | exact (show eC _ _ = _ from rfl)
  | ((with_reducible apply zQ) <;> first | walk_at "ev" | omega)
  | ((with_reducible apply yr) <;> walk_at "ev")
  | ((with_reducible apply jA) <;> walk_at "ev")
  | ((with_reducible apply kP) <;> first | walk_at "ev" | exact jM (by omega) (by omega) | exact yP (by omega) (by omega))
  | ((with_reducible apply yY) <;> first | walk_at "ev" | omega)
  | ((with_reducible apply xY) <;> first | walk_at "ev" | omega)
  | ((with_reducible apply xah) <;> walk_at "ev")
  | ((with_reducible apply yah) <;> walk_at "ev")
  | ((with_reducible apply wZ) <;> walk_at "ev")
  | ((with_reducible apply yU) <;> walk_at "ev")
  | ((with_reducible apply xr) <;> first | rfl | walk_at "ev")
  | ((with_reducible apply qZ) <;> first | rfl | walk_at "ev")
  | ((with_reducible apply vac) <;> first | rfl | walk_at "ev")
  | ((with_reducible apply qw) <;> first | walk_at "ev" | rfl)
  | ((with_reducible apply yc))
  | ((with_reducible apply qb) <;> walk_at "ev")
  | ((with_reducible apply wo) <;> first | walk_at "ev" | rfl | (simp; done))
  | ((with_reducible apply jO) <;> first | walk_at "ev" | rfl | (simp; done))
  | ((with_reducible apply xj) <;> first | walk_at "ev" | omega)
  | ((with_reducible apply vo) <;> first | walk_at "ev" | omega)
  | ((with_reducible apply jS) <;> first | walk_at "ev" | omega)
  | ((with_reducible apply zS) <;> first | walk_at "ev" | omega)
  | ((with_reducible apply xE) <;> first | walk_at "ev" | omega)
  | ((with_reducible apply vx) <;> first | walk_at "ev" | omega)
  | ((with_reducible apply yS) <;> first | walk_at "ev" | omega)
  | ((with_reducible apply xS) <;> first | walk_at "ev" | omega)
  | ((with_reducible apply jz) <;> first | walk_at "ev" | omega)
  | ((with_reducible apply wz) <;> first | walk_at "ev" | omega)
  | ((with_reducible apply kE) <;> first | walk_at "ev" | omega)
  | ((with_reducible apply vz) <;> first | walk_at "ev" | omega)
  | ((with_reducible apply kl) <;> walk_at "ev")
  | ((with_reducible apply qv) <;> walk_at "ev")
  | ((with_reducible apply wM) <;> walk_at "ev")
  | ((with_reducible apply wy) <;> walk_at "ev")
  | ((with_reducible apply xP) <;> walk_at "ev")
  | ((with_reducible apply vY) <;> walk_at "ev")
  | ((with_reducible apply y8) <;> walk_at "ev"))
local macro_rules | `(tactic| walk_at "set") => `(tactic| ((with_reducible apply qQ); walk_at "ev"; rfl; dsimp only [List.set]))
local macro_rules | `(tactic| walk_at "ift") => `(tactic| ((first | with_reducible apply zZ | with_reducible apply jo); walk_at "ev"))
local macro_rules | `(tactic| walk_at "iff") => `(tactic| ((first | with_reducible apply jZ | with_reducible apply xl); walk_at "ev"))
end FL
namespace DL
open PySem PySem.Spec PyProof.Rows L2
def chain {α β : Type} (step : β → α → Option β) : β → List α → Option β
  | b, [] => some b
  | b, x :: xs => match step b x with
    | none => none
    | some b' => chain step b' xs
def tx (l : List Nat) : Str := ⟨l.toArray⟩
theorem ycd (l : List Nat) : (tx l).cps.toList = l := by simp [tx]
section
variable {f g : FS} {t u : FT} {E fa fb fc fd fe : FE} {ρ ρ1 : ya} {o : Option Out} {i : Nat} {v a b : Val} {A : FA} {vs : List Val}
end
end DL
namespace PM
structure Un where
  time : Int
  span : Int
  content : List Int
  va9 : Bool
structure Tr where
  name : List Nat
  kind : List Nat
  units : List Un
structure Pr where
  zaz : Int
  skip : Int
  kU : List Tr
  tags : List (List Nat × List Nat)
def cOk (c : Nat) : Bool := decide (97 ≤ c) && decide (c ≤ 122)
def tOk (c : Nat) : Bool := decide (32 ≤ c) && (decide (c ≤ 126) && decide (c ≠ 37))
def isWord (l : List Nat) : Bool := decide (1 ≤ l.length) && (decide (l.length ≤ 16) && l.all cOk)
def vbh (m : Nat) (l : List Nat) : Bool := decide (l.length ≤ m) && l.all tOk
def kcm (b : Int) : Bool := decide (0 ≤ b) && decide (b ≤ 255)
def jbN (c : List Int) : Bool := decide (c.length ≤ 200) && c.all kcm
def qcA (s : Int × Bool) (u : Un) : Bool := decide (s.1 ≤ u.time) && (decide (u.time ≤ 1099511627775) && (decide (1 ≤ u.span) && (decide (u.span ≤ 16777215) && (jbN u.content && (!u.va9 || s.2)))))
def zb3 (s : Int × Bool) (u : Un) : Option (Int × Bool) := if qcA s u = true then some (u.time + u.span, true) else none
def xcd (us : List Un) : Bool := decide (us.length ≤ 300) && (DL.chain zb3 (0, false) us).isSome
def jbw (t : Tr) : Bool := vbh 32 t.name && (isWord t.kind && xcd t.units)
def zcA (last : List Nat) (kv : List Nat × List Nat) : Bool := isWord kv.1 && (vbh 100 kv.2 && decide (last < kv.1))
def qct (last : List Nat) (kv : List Nat × List Nat) : Option (List Nat) := if zcA last kv = true then some kv.1 else none
def jb3 (l : List Nat) : Nat := (SN.steps l.length).length + l.length
def ybh : List (List Nat × List Nat) → Nat → Nat
  | [], n => n
  | kv :: r, n => ybh r (n + jb3 kv.1 + jb3 kv.2)
def qcn (tags : List (List Nat × List Nat)) : Bool := (DL.chain qct [] tags).isSome && decide (ybh tags (SN.steps tags.length).length ≤ 1024)
def isP (p : Pr) : Bool := decide (1 ≤ p.zaz) && (decide (p.zaz ≤ 90000) && (decide (0 ≤ p.skip) && (decide (p.skip ≤ 1099511627775) && (decide (p.kU.length ≤ 15) && (p.kU.all jbw && qcn p.tags)))))
end PM
namespace FL
open PySem PySem.Spec PyProof.Rows L2 DL FN
open PM
local macro_rules | `(tactic| walk_at "ev") => `(tactic| first
  | exact vb rfl
  | exact r_b rfl
  | with_reducible assumption
  | exact (show eC _ _ = _ from rfl)
  | ((with_reducible apply zQ) <;> first | walk_at "ev" | omega)
  | ((with_reducible apply yr) <;> walk_at "ev")
  | ((with_reducible apply jA) <;> walk_at "ev")
  | ((with_reducible apply kP) <;> first | walk_at "ev" | exact jM (by omega) (by omega) | exact yP (by omega) (by omega))
  | ((with_reducible apply yY) <;> first | walk_at "ev" | omega)
  | ((with_reducible apply xY) <;> first | walk_at "ev" | omega)
  | ((with_reducible apply xah) <;> walk_at "ev")
  | ((with_reducible apply yah) <;> walk_at "ev")
  | ((with_reducible apply wZ) <;> walk_at "ev")
  | ((with_reducible apply yU) <;> walk_at "ev")
  | ((with_reducible apply xr) <;> first | rfl | walk_at "ev")
  | ((with_reducible apply qZ) <;> first | rfl | walk_at "ev")
  | ((with_reducible apply vac) <;> first | rfl | walk_at "ev")
  | ((with_reducible apply qw) <;> first | walk_at "ev" | rfl)
  | ((with_reducible apply yc))
  | ((with_reducible apply qb) <;> walk_at "ev")
  | ((with_reducible apply wo) <;> first | walk_at "ev" | rfl | (simp; done))
  | ((with_reducible apply jO) <;> first | walk_at "ev" | rfl | (simp; done))
  | ((with_reducible apply xj) <;> first | walk_at "ev" | omega)
  | ((with_reducible apply vo) <;> first | walk_at "ev" | omega)
  | ((with_reducible apply jS) <;> first | walk_at "ev" | omega)
  | ((with_reducible apply zS) <;> first | walk_at "ev" | omega)
  | ((with_reducible apply xE) <;> first | walk_at "ev" | omega)
  | ((with_reducible apply vx) <;> first | walk_at "ev" | omega)
  | ((with_reducible apply yS) <;> first | walk_at "ev" | omega)
  | ((with_reducible apply xS) <;> first | walk_at "ev" | omega)
  | ((with_reducible apply jz) <;> first | walk_at "ev" | omega)
  | ((with_reducible apply wz) <;> first | walk_at "ev" | omega)
  | ((with_reducible apply kE) <;> first | walk_at "ev" | omega)
  | ((with_reducible apply vz) <;> first | walk_at "ev" | omega)
  | ((with_reducible apply kl) <;> walk_at "ev")
  | ((with_reducible apply qv) <;> walk_at "ev")
  | ((with_reducible apply wM) <;> walk_at "ev")
  | ((with_reducible apply wy) <;> walk_at "ev")
  | ((with_reducible apply xP) <;> walk_at "ev")
  | ((with_reducible apply vY) <;> walk_at "ev")
  | ((with_reducible apply y8) <;> walk_at "ev"))
local macro_rules | `(tactic| walk_at "set") => `(tactic| ((with_reducible apply qQ); walk_at "ev"; rfl; dsimp only [List.set]))
local macro_rules | `(tactic| walk_at "ift") => `(tactic| ((first | with_reducible apply zZ | with_reducible apply jo); walk_at "ev"))
local macro_rules | `(tactic| walk_at "iff") => `(tactic| ((first | with_reducible apply jZ | with_reducible apply xl); walk_at "ev"))
def unD (u : Un) : D := .tuple [.int u.time, .int u.span, .list (u.content.map .int), .bool u.va9]
def trD (t : Tr) : D := .tuple [.str (tx t.name), .str (tx t.kind), .list (t.units.map unD)]
def tgD (kv : List Nat × List Nat) : D := .tuple [.str (tx kv.1), .str (tx kv.2)]
def ppD (p : Pr) : D := .tuple [.int p.zaz, .int p.skip, .list (p.kU.map trD), .list (p.tags.map tgD)]
end FL
namespace FL
open PySem PySem.Spec PyProof.Rows L2 DL FN
open PM
local macro_rules | `(tactic| walk_at "ev") => `(tactic| first
  | exact vb rfl
  | exact r_b rfl
  | with_reducible assumption
  | exact (show eC _ _ = _ from rfl)
  | ((with_reducible apply zQ) <;> first | walk_at "ev" | omega)
  | ((with_reducible apply yr) <;> walk_at "ev")
  | ((with_reducible apply jA) <;> walk_at "ev")
  | ((with_reducible apply kP) <;> first | walk_at "ev" | exact jM (by omega) (by omega) | exact yP (by omega) (by omega))
  | ((with_reducible apply yY) <;> first | walk_at "ev" | omega)
  | ((with_reducible apply xY) <;> first | walk_at "ev" | omega)
  | ((with_reducible apply xah) <;> walk_at "ev")
  | ((with_reducible apply yah) <;> walk_at "ev")
  | ((with_reducible apply wZ) <;> walk_at "ev")
  | ((with_reducible apply yU) <;> walk_at "ev")
  | ((with_reducible apply xr) <;> first | rfl | walk_at "ev")
  | ((with_reducible apply qZ) <;> first | rfl | walk_at "ev")
  | ((with_reducible apply vac) <;> first | rfl | walk_at "ev")
  | ((with_reducible apply qw) <;> first | walk_at "ev" | rfl)
  | ((with_reducible apply yc))
  | ((with_reducible apply qb) <;> walk_at "ev")
  | ((with_reducible apply wo) <;> first | walk_at "ev" | rfl | (simp; done))
  | ((with_reducible apply jO) <;> first | walk_at "ev" | rfl | (simp; done))
  | ((with_reducible apply xj) <;> first | walk_at "ev" | omega)
  | ((with_reducible apply vo) <;> first | walk_at "ev" | omega)
  | ((with_reducible apply jS) <;> first | walk_at "ev" | omega)
  | ((with_reducible apply zS) <;> first | walk_at "ev" | omega)
  | ((with_reducible apply xE) <;> first | walk_at "ev" | omega)
  | ((with_reducible apply vx) <;> first | walk_at "ev" | omega)
  | ((with_reducible apply yS) <;> first | walk_at "ev" | omega)
  | ((with_reducible apply xS) <;> first | walk_at "ev" | omega)
  | ((with_reducible apply jz) <;> first | walk_at "ev" | omega)
  | ((with_reducible apply wz) <;> first | walk_at "ev" | omega)
  | ((with_reducible apply kE) <;> first | walk_at "ev" | omega)
  | ((with_reducible apply vz) <;> first | walk_at "ev" | omega)
  | ((with_reducible apply kl) <;> walk_at "ev")
  | ((with_reducible apply qv) <;> walk_at "ev")
  | ((with_reducible apply wM) <;> walk_at "ev")
  | ((with_reducible apply wy) <;> walk_at "ev")
  | ((with_reducible apply xP) <;> walk_at "ev")
  | ((with_reducible apply vY) <;> walk_at "ev")
  | ((with_reducible apply y8) <;> walk_at "ev"))
local macro_rules | `(tactic| walk_at "set") => `(tactic| ((with_reducible apply qQ); walk_at "ev"; rfl; dsimp only [List.set]))
local macro_rules | `(tactic| walk_at "ift") => `(tactic| ((first | with_reducible apply zZ | with_reducible apply jo); walk_at "ev"))
local macro_rules | `(tactic| walk_at "iff") => `(tactic| ((first | with_reducible apply jZ | with_reducible apply xl); walk_at "ev"))
structure kc0 (u : Un) : Prop where
  c : u.content.length ≤ 1000
structure jcn (t : Tr) : Prop where
  n : t.name.length ≤ 100000
  k : t.kind.length ≤ 100000
  u : t.units.length ≤ 100000
structure jcA (kv : List Nat × List Nat) : Prop where
  k : kv.1.length ≤ 100000
  v : kv.2.length ≤ 100000
structure wcA (p : Pr) : Prop where
  t : ∀ t ∈ p.kU, jcn t
  n : p.kU.length ≤ 100000
  g : ∀ kv ∈ p.tags, jcA kv
  m : p.tags.length ≤ 100000
structure DU where
  time : Nat
  span : Nat
  content : List Nat
  va9 : Bool
def DU.un (u : DU) : Un := ⟨u.time, u.span, u.content.map fun (n : Nat) => (n : Int), u.va9⟩
structure US (us : List DU) (t : Nat) (before : List Nat) : Prop where
  ch : ∃ e : Int, chain zb3 (0, false) (us.map DU.un) = some (e, !us.isEmpty) ∧ e ≤ t
  by_ : ∀ x ∈ before, x < 256
  len : before.length ≤ 200
  all : ∀ u ∈ us, u.time < 2 ^ 40 ∧ u.span ≤ 30 ∧ u.content.length ≤ 200 ∧ ∀ x ∈ u.content, x < 256
  top : t ≤ 40 + us.length * 77309411400
theorem jK {n i : Nat} {d : D} (hi : (vi 0 n)[i]? = some d) : i < n ∧ d = .int (i : Nat) := by
  have h : i < n := by simpa [vi] using (List.getElem?_eq_some_iff.mp hi).1
  rw [kar, List.getElem?_map, List.getElem?_range h] at hi
  cases hi
  exact ⟨h, by simp⟩
structure RB (k w : Nat) (d : D) : Prop where
  ly : PyData.canLay0 d = true
  sh : PyData.showable d = true
  is : PyData.intsShort 14 d = true
  dp : PyData.depth d ≤ k
  wt : PyData.weight d ≤ w
structure zH (k w : Nat) (xs : List D) : Prop where
  ly : PyData.canLayAll0 xs = true
  sh : PyData.showableAll xs = true
  is : PyData.intsShortAll 14 xs = true
  dp : PyData.depthAll xs ≤ k
  wt : PyData.weightAll xs ≤ w
theorem RB.up {k w w' : Nat} {d : D} (h : RB k w d) (hw : w ≤ w') : RB k w' d := ⟨h.ly, h.sh, h.is, h.dp, Nat.le_trans h.wt hw⟩
theorem zH.up {k w w' : Nat} {d : List D} (h : zH k w d) (hw : w ≤ w') : zH k w' d := ⟨h.ly, h.sh, h.is, h.dp, Nat.le_trans h.wt hw⟩
theorem zH.nil {k : Nat} : zH k 0 [] := ⟨by simp [PyData.canLayAll0], by simp [PyData.showableAll], by simp [PyData.intsShortAll], by simp [PyData.depthAll], by simp [PyData.weightAll]⟩
theorem zH.cons {k a b : Nat} {x : D} {xs : List D} (h : RB k a x) (t : zH k b xs) : zH k (a + 1 + b) (x :: xs) := by
  have h1 := h.ly
  have h2 := h.sh
  have h3 := h.is
  have h4 := h.dp
  have h5 := h.wt
  have t1 := t.ly
  have t2 := t.sh
  have t3 := t.is
  have t4 := t.dp
  have t5 := t.wt
  exact ⟨by simp [PyData.canLayAll0, h1, t1], by simp [PyData.showableAll, h2, t2], by simp [PyData.intsShortAll, h3, t3], by simp only [PyData.depthAll]; omega, by simp only [PyData.weightAll]; omega⟩
theorem RB.list {k w : Nat} {xs : List D} (t : zH k w xs) : RB (k + 1) w (.list xs) := by
  have t1 := t.ly
  have t2 := t.sh
  have t3 := t.is
  have t4 := t.dp
  have t5 := t.wt
  exact ⟨by simp [PyData.canLay0, t1], by simp [PyData.showable, t2], by simp [PyData.intsShort, t3], by simp only [PyData.depth]; omega, by simp only [PyData.weight]; omega⟩
theorem RB.tup {k w : Nat} {xs : List D} (t : zH k w xs) : RB (k + 1) w (.tuple xs) := by
  have t1 := t.ly
  have t2 := t.sh
  have t3 := t.is
  have t4 := t.dp
  have t5 := t.wt
  exact ⟨by simp [PyData.canLay0, t1], by simp [PyData.showable, t2], by simp [PyData.intsShort, t3], by simp only [PyData.depth]; omega, by simp only [PyData.weight]; omega⟩
theorem zH.each {k a : Nat} : ∀ {xs : List D}, (∀ x ∈ xs, RB k a x) → zH k ((a + 1) * xs.length) xs
  | [], _ => zH.nil.up (Nat.zero_le _)
  | x :: xs, h => ((zH.cons (h x List.mem_cons_self) (zH.each fun y hy => h y (List.mem_cons_of_mem _ hy)))).up (by rw [List.length_cons, Nat.mul_succ]; omega)
theorem RB.int {k : Nat} {i : Int} (h : i.natAbs < 10000000000000) : RB k 44 (.int i) := by
  have h13 : (10 : Nat) ^ 13 = 10000000000000 := by decide
  have e := int_text_length_le10 (a := i) (k := 13) (by decide) (by rw [h13]; exact h)
  have h44 : (2 : Nat) ^ 44 = 17592186044416 := by decide
  have hl : i.natAbs.log2 < 44 := by
    by_cases h0 : i.natAbs = 0
    · rw [h0]; decide
    · exact (Nat.log2_lt h0).mpr (by omega)
  refine ⟨rfl, ?_, ?_, ?_, ?_⟩
  · simp only [PyData.showable, decide_eq_true_eq]
    omega
  · simp only [PyData.intsShort, decide_eq_true_eq]
    show (Str.ofString (toString i)).length ≤ 14
    rw [PySem.ofString_length]
    exact e
  · simp only [PyData.depth]; omega
  · simp only [PyData.weight]
    split <;> omega
theorem RB.bool {k : Nat} {b : Bool} : RB k 0 (.bool b) := ⟨rfl, rfl, rfl, by simp [PyData.depth], by simp [PyData.weight]⟩
theorem xbV {l : List Nat} (h : ∀ c ∈ l, c < 1114112) : PyData.canLay0 (.str (tx l)) = true := by
  show (tx l).cps.all (fun c => decide (c < 0x110000)) = true
  rw [Array.all_eq_true_iff_forall_mem]
  intro c hc
  have hm : c ∈ l := by
    have := Array.mem_toList_iff.mpr hc
    rw [ycd] at this
    exact this
  exact decide_eq_true (h c hm)
theorem RB.str {k : Nat} {l : List Nat} (h : ∀ c ∈ l, c < 1114112) : RB k l.length (.str (tx l)) := ⟨xbV h, rfl, rfl, by simp [PyData.depth], by
  have e : PyData.weight (.str (tx l)) = l.length := by simp [PyData.weight, tx]
  omega⟩
theorem RB.repr {d : D} (h : RB 50 1048000 d) : qbH d := by
  refine ⟨h.ly, h.sh, ?_, h.dp⟩
  have q := PyData.shown_le 14 (by decide) d (PyData.leavesShort_of_canLay0 14 d h.ly h.is)
  have := h.wt
  omega
def cps (l : List Nat) : Prop := ∀ c ∈ l, c < 1114112
structure UB (u : Un) : Prop where
  t : u.time.natAbs < 10000000000000
  s : u.span.natAbs < 10000000000000
  c : u.content.length ≤ 201
  b : ∀ x ∈ u.content, x.natAbs < 10000000000000
theorem UB.rb {u : Un} (h : UB u) : RB 8 9140 (unD u) := by
  have hc := h.c
  have q : RB 7 (45 * u.content.length) (.list (u.content.map .int)) := by
    have q := RB.list (zH.each (k := 6) (a := 44) (xs := u.content.map PyData.int) fun x hx => by
      obtain ⟨y, hy, rfl⟩ := List.mem_map.mp hx
      exact RB.int (h.b y hy))
    rw [List.length_map] at q
    exact q
  refine (RB.tup (zH.cons (RB.int h.t) (zH.cons (RB.int h.s) (zH.cons q (zH.cons RB.bool zH.nil))))).up ?_
  omega
structure PB (p : Pr) : Prop where
  ti : p.zaz.natAbs < 10000000000000
  sk : p.skip.natAbs < 10000000000000
  tr : ∀ t ∈ p.kU, RB 10 50000 (trD t)
  tl : p.kU.length ≤ 18
  tg : ∀ kv ∈ p.tags, RB 10 500 (tgD kv)
  gl : p.tags.length ≤ 20
theorem PB.ok {p : Pr} (h : PB p) : qbH (ppD p) := by
  have h1 := h.tl
  have h2 := h.gl
  have q1 := zH.each (k := 10) (a := 50000) (xs := p.kU.map trD) fun x hx => by
    obtain ⟨y, hy, rfl⟩ := List.mem_map.mp hx
    exact h.tr y hy
  have q2 := zH.each (k := 10) (a := 500) (xs := p.tags.map tgD) fun x hx => by
    obtain ⟨y, hy, rfl⟩ := List.mem_map.mp hx
    exact h.tg y hy
  rw [List.length_map] at q1 q2
  have q := RB.tup (zH.cons (RB.int h.ti) (zH.cons (RB.int h.sk) (zH.cons (RB.list q1) (zH.cons (RB.list q2) zH.nil))))
  refine RB.repr ⟨q.ly, q.sh, q.is, Nat.le_trans q.dp (by omega), Nat.le_trans q.wt (by omega)⟩
structure TG (kvs : List (List Nat × List Nat)) : Prop where
  k : ∀ kv ∈ kvs, kv.1.length ≤ 5 ∧ kv.2.length ≤ 100 ∧ isWord kv.1 = true ∧ vbh 100 kv.2 = true
  d : (kvs.map (·.1)).Nodup
  l : kvs.length ≤ 3
theorem xbf {xs : List D} (h : ∀ x ∈ xs, PyData.canLay0 x = true) : PyData.canLayAll0 xs = true := by
  induction xs with
  | nil => simp [PyData.canLayAll0]
  | cons x xs ih =>
    rw [PyData.canLayAll0, h x List.mem_cons_self, ih fun y hy => h y (List.mem_cons_of_mem _ hy)]
    rfl
structure TK (t : Tr) : Prop where
  ok : jbw t = true
  tr : jcn t
  rb : RB 10 50000 (trD t)
  vcA : t.units.length ≤ 5
structure DP (p : Pr) : Prop where
  ok : isP p = true
  pr : wcA p
  pb : PB p
  tl : p.kU.length ≤ 15
  gl : p.tags.length ≤ 3
  vcA : ∀ t ∈ p.kU, t.units.length ≤ 5
end FL
namespace FL
open PySem PySem.Spec PyProof.Rows L2 DL FN
noncomputable def nI (r : List Nat) (a lo hi : Nat) : Option (Nat × Nat) := match LF.rd r a hi with
  | some (n, s) => if lo ≤ n then some (n, s) else none
  | none => none
def nD : Option (Nat × Nat) → D
  | some (n, s) => .tuple [.int (n : Nat), .int (s : Nat)]
  | none => .tuple [.int 0, .int (-1)]
theorem kcd {r : List Nat} {a lo hi n s : Nat} (h : nI r a lo hi = some (n, s)) : LF.rd r a hi = some (n, s) ∧ lo ≤ n := by
  unfold nI at h
  cases e : LF.rd r a hi with
  | none => rw [e] at h; cases h
  | some z =>
    obtain ⟨n1, s1⟩ := z
    rw [e] at h
    dsimp only at h
    split at h
    · cases h
      rename_i h2
      exact ⟨rfl, h2⟩
    · cases h
theorem xbh (r : List Nat) (a lo hi : Nat) (ha : a ≤ r.length) (hl : r.length ≤ 100000) (hh : hi < 2 ^ 40) : zB [.list (jd r), .int (a : Nat), .int (lo : Nat), .int (hi : Nat)] = some (match nI r a lo hi with
    | some (n, s) => .ret (.tuple [.int (n : Nat), .int (s : Nat)])
    | none => .exc 18 0) := by
  have q := jbC r a hi ha hl hh
  unfold zB qV nI
  cases e : LF.rd r a hi with
  | none =>
    rw [e] at q
    exact zA (jh (ρ1 := [.dat (.list (jd r)), .dat (.int (a : Nat)), .dat (.int (lo : Nat)), .dat (.int (hi : Nat)), .dat .none, .dat (.int (a : Nat))]) (kS (qal (qb (vb rfl) (qb (vb rfl) (qb (vb rfl) yc))) rfl rfl q) rfl rfl) (kY (jo (wM (zbB (x := true) (vb rfl) rfl)) (vS rfl))))
  | some z =>
    obtain ⟨n, s⟩ := z
    rw [e] at q
    have un : ∀ {g : FS} {o : Option Out}, g [.dat (.list (jd r)), .dat (.int (a : Nat)), .dat (.int (lo : Nat)), .dat (.int (hi : Nat)), .dat (.int (n : Nat)), .dat (.int (s : Nat))] = o → ka (vA (gT 2 (xb 4 (xb 5 (ki)))) (jb FN.vy 3 (qa (eV 0) (qa (eV 1) (qa (eV 3) (za)))))) g [.dat (.list (jd r)), .dat (.int (a : Nat)), .dat (.int (lo : Nat)), .dat (.int (hi : Nat)), .un, .un] = o := fun {g o} h => jh (kS (d := .tuple [.int (n : Nat), .int (s : Nat)]) (qal (qb (vb rfl) (qb (vb rfl) (qb (vb rfl) yc))) rfl rfl q) rfl rfl) h
    dsimp only
    by_cases hlo : lo ≤ n
    · rw [if_pos hlo]
      exact vU (un (jh (xl (wy (zbB (x := false) (vb rfl) rfl) (vx (vb rfl) (vb rfl) (by omega))) rfl) (wac (wo (qb (vb rfl) (qb (vb rfl) yc)) rfl (by show 2 ≤ 16777216; decide)))))
    · rw [if_neg hlo]
      exact zA (un (kY (jo (wy (zbB (x := false) (vb rfl) rfl) (xE (vb rfl) (vb rfl) (by omega))) (vS rfl))))
end FL
namespace FL
open PySem PySem.Spec PyProof.Rows L2 DL FN
open PM
theorem kcs {r : List Nat} {a lo hi n s : Nat} (h : nI r a lo hi = some (n, s)) : s ≤ r.length ∧ lo ≤ n ∧ n ≤ hi := by
  obtain ⟨h1, h2⟩ := kcd h
  have q := LF.zct h1
  exact ⟨q.1, h2, q.2.1⟩
def pos {α : Type} : Option (α × Nat) → Option Nat
  | some (_, s) => some s
  | none => none
theorem xbL (r : List Nat) (hl : r.length ≤ 90000) {a lo hi : Nat} (ha : a ≤ r.length) (hh : hi < 2 ^ 40) {E1 E2 E3 E4 : FE} {ρ : ya} (h1 : E1 ρ = some (.ok (.s (.list (jd r))))) (h2 : E2 ρ = some (.ok (.s (.int (a : Nat))))) (h3 : E3 ρ = some (.ok (.s (.int (lo : Nat))))) (h4 : E4 ρ = some (.ok (.s (.int (hi : Nat))))) :
    jb FN.zB 4 (qa E1 (qa E2 (qa E3 (qa E4 (za))))) ρ = some (match nI r a lo hi with
      | some (n, s) => .ok (.s (.tuple [.int (n : Nat), .int (s : Nat)]))
      | none => .error (18, 0)) := by
  have q := xbh r a lo hi ha (by omega) hh
  cases e : nI r a lo hi with
  | none =>
    rw [e] at q
    exact zX (qb h1 (qb h2 (qb h3 (qb h4 yc)))) rfl rfl q
  | some z =>
    obtain ⟨n, s⟩ := z
    rw [e] at q
    exact qal (qb h1 (qb h2 (qb h3 (qb h4 yc)))) rfl rfl q
end FL
namespace FL
open PySem PySem.Spec PyProof.Rows L2 DL FN
open CG
theorem ybL {F : DF} {ds : List D} {d : D} (h : F ds = some (.ret d)) : qF F ds = some (.ret d) := by
  unfold qF
  rw [h]
section
variable (a m : List Nat) (f k : Nat)
end
open Classical in
noncomputable def wbB (a u : List Nat) : Option (List Nat) := match nI u 0 0 1099511627775 with
  | none => none
  | some (f, s) => match nI u s 0 1099511627775 with
    | none => none
    | some (k, s2) => if f + k ≤ a.length then if proper a (u.drop s2) f k then some (ap a f k (u.drop s2)) else none else none
theorem zaG (a u : List Nat) (f k s s3 : Nat) : qa (eV 1) (qa (ve (qa (eV 2) (qa (eV 4) (qa (qH (eV 0) (xp (eV 3)) (qx)) (za))))) (za)) [.dat (.list (jd u)), .dat (.list (jd a)), .dat (.int (f : Nat)), .dat (.int (s : Nat)), .dat (.int (k : Nat))] = some (.ok [.s (.list (jd a)), .s (.tuple [.int (f : Nat), .int (k : Nat), .list (jd (u.drop s))])]) :=
  qb (vb rfl) (qb (wo (qb (vb rfl) (qb (vb rfl) (qb (ybe (vb rfl) (.inl rfl) (vb rfl)) yc))) rfl (by show 3 ≤ 16777216; decide)) yc)
theorem vbf {m : Nat → Option Bool} {E : FE} {y : Nat} {i : Int} {ρ : ya} {c : Nat} {j : Int} (h : E ρ = some (.error (c, j))) (hm : m c = some true) : yaq m (zd E) y i ρ = some (.exc ρ y i) := by
  unfold yaq
  rw [wbK h]
  dsimp only
  rw [hm]
noncomputable def vV (b : Option (List Nat)) (u : List Nat) : Option (List Nat) := match (match b with | none => some u | some a => wbB a u) with
  | some l => if l.length ≤ 200 then some l else none
  | none => none
def yg : Option (List Nat) → D
  | some a => .list (jd a)
  | none => .none
end FL
namespace FL.L4
open PySem PySem.Spec PyProof.Rows L2 DL FN FL
end FL.L4
namespace FL
open PySem PySem.Spec PyProof.Rows L2 DL FN
open CG
end FL
namespace FL
open PySem PySem.Spec PyProof.Rows L2 DL FN
end FL
namespace FL
open PySem PySem.Spec PyProof.Rows L2 DL FN
open PM
end FL
namespace FL
open PySem PySem.Spec PyProof.Rows L2 DL FN
end FL
namespace FL.L4
open PySem PySem.Spec PyProof.Rows L2 DL FN FL
open PM
end FL.L4
namespace FL
open PySem PySem.Spec PyProof.Rows L2 DL FN
open PM
structure BY (n : Nat) (r : List Nat) : Prop where
  len : r.length ≤ n
  byt : ∀ x ∈ r, x < 256
theorem BY.app {n m : Nat} {a b : List Nat} (h : BY n a) (g : BY m b) : BY (n + m) (a ++ b) := by
  refine ⟨by rw [List.length_append]; have := h.len; have := g.len; omega, fun x hx => ?_⟩
  rcases List.mem_append.mp hx with hx | hx
  · exact h.byt x hx
  · exact g.byt x hx
theorem BY.one {x : Nat} (h : x < 256) : BY 1 [x] := ⟨by show 1 ≤ 1; omega, fun y hy => by cases List.mem_singleton.mp hy; exact h⟩
theorem BY.up {n m : Nat} {a : List Nat} (h : BY n a) (g : n ≤ m) : BY m a := ⟨by have := h.len; omega, h.byt⟩
end FL
namespace FL
open PySem PySem.Spec PyProof.Rows L2 DL FN
end FL
namespace FL
open PySem PySem.Spec PyProof.Rows L2 DL FN
open CG
def sl3 : Nat → DL.Slot
  | 0 => .un
  | i + 1 => .dat (.int (i : Nat))
end FL
namespace FL
open PySem PySem.Spec PyProof.Rows L2 DL FN
open PM
structure Rest (r : List Nat) (a : Nat) (t : List Nat) : Prop where
  le : a ≤ r.length
  dr : r.drop a = t
theorem Rest.zero (r : List Nat) : Rest r 0 r := ⟨Nat.zero_le _, rfl⟩
theorem Rest.app {r u t : List Nat} {a : Nat} (h : Rest r a (u ++ t)) : Rest r (a + u.length) t := by
  have l : (r.drop a).length = (u ++ t).length := by rw [h.dr]
  rw [List.length_drop, List.length_append] at l
  have := h.le
  refine ⟨by omega, ?_⟩
  rw [← List.drop_drop, h.dr, List.drop_left]
theorem Rest.len {r t : List Nat} {a : Nat} (h : Rest r a t) : r.length = a + t.length := by
  have l : (r.drop a).length = t.length := by rw [h.dr]
  rw [List.length_drop] at l
  have := h.le
  omega
theorem Rest.one {r t : List Nat} {a x : Nat} (h : Rest r a (x :: t)) : Rest r (a + 1) t := Rest.app (u := [x]) h
end FL
namespace FL
open PySem PySem.Spec PyProof.Rows L2 DL FN
open CG
theorem jbf (a m : List Nat) (f k : Nat) (hl : a.length ≤ 100000) (hm : m.length ≤ 100000) (h : f + k ≤ a.length) (hp : proper a m f k) : qt [.list (jd a), .tuple [.int (f : Nat), .int (k : Nat), .list (jd m)]] = some (.retF (jd (ap a f k m))) := by
  have hal := wbL (m := m) h
  unfold qt wO
  refine qS (jh (ρ1 := [.dat (.list (jd a)), .dat (.tuple [.int (f : Nat), .int (k : Nat), .list (jd m)]), .dat (.int (f : Nat)), .dat (.int (k : Nat)), .dat (.list (jd m)), .un]) (kS (vb rfl) rfl rfl) ?_)
  refine jh (xl (wz (yr (vb rfl) (vb rfl)) (xr (vb rfl) rfl) (by omega)) rfl) ?_
  refine kai (vbL a m f k (by omega) (by omega) h rfl rfl rfl rfl) ?_
  dsimp only [List.set]
  obtain ⟨v, q, hv⟩ := wbu (G := qF FN.jG) (n := 2) (A := qa (eV 0) (qa (eV 5) (za))) (ρ := [.dat (.list (jd a)), .dat (.tuple [.int (f : Nat), .int (k : Nat), .list (jd m)]), .dat (.int (f : Nat)), .dat (.int (k : Nat)), .dat (.list (jd m)), .own (jd (ap a f k m))]) (es := [.list (jd a), .list (jd (ap a f k m))]) (qb (vb rfl) (qb (r_b rfl) yc)) rfl rfl (ybL (wa3 a (ap a f k m) (by omega) (by omega)))
  refine jh (xl (zG (zbe (x := true) q (wo (qb (vb rfl) (qb (vb rfl) (qb (vb rfl) yc))) rfl (by show 3 ≤ 16777216; decide)) ?_) rfl) rfl) (qbe rfl)
  rw [hv]
  exact (zbf _ _ _ _ _ _).trans (congrArg some (decide_eq_true hp))
theorem kbL {m : Nat → Option Bool} {E : FE} {y : Nat} {i : Int} {ρ : ya} {ds : List D} (h : E ρ = some (.ok (.f ds))) : yaq m (zd E) y i ρ = some (.retF ds) := by
  unfold yaq
  rw [yaF h]
section
variable (a m : List Nat) (f k : Nat)
theorem za5 (h : a.length < f + k) : qt [.list (jd a), .tuple [.int (f : Nat), .int (k : Nat), .list (jd m)]] = some (.exc 17 0) := by
  unfold qt wO
  refine zA (ρ' := [.dat (.list (jd a)), .dat (.tuple [.int (f : Nat), .int (k : Nat), .list (jd m)]), .dat (.int (f : Nat)), .dat (.int (k : Nat)), .dat (.list (jd m)), .un]) ?_
  refine jh (ρ1 := [.dat (.list (jd a)), .dat (.tuple [.int (f : Nat), .int (k : Nat), .list (jd m)]), .dat (.int (f : Nat)), .dat (.int (k : Nat)), .dat (.list (jd m)), .un]) (kS (vb rfl) rfl rfl) ?_
  exact kY (jo (jz (yr (vb rfl) (vb rfl)) (xr (vb rfl) rfl) (by omega)) (vS rfl))
open Classical in
theorem kaw (hl : a.length ≤ 100000) (hm : m.length ≤ 100000) (h : f + k ≤ a.length) : qt [.list (jd a), .tuple [.int (f : Nat), .int (k : Nat), .list (jd m)]] = some (if proper a m f k then .retF (jd (ap a f k m)) else .exc 17 1) := by
  by_cases hp : proper a m f k
  · rw [if_pos hp]
    exact jbf a m f k hl hm h hp
  · rw [if_neg hp]
    have hal := wbL (m := m) h
    unfold qt wO
    refine zA (ρ' := [.dat (.list (jd a)), .dat (.tuple [.int (f : Nat), .int (k : Nat), .list (jd m)]), .dat (.int (f : Nat)), .dat (.int (k : Nat)), .dat (.list (jd m)), .own (jd (ap a f k m))]) (jh (ρ1 := [.dat (.list (jd a)), .dat (.tuple [.int (f : Nat), .int (k : Nat), .list (jd m)]), .dat (.int (f : Nat)), .dat (.int (k : Nat)), .dat (.list (jd m)), .un]) (kS (vb rfl) rfl rfl) ?_)
    refine jh (xl (wz (yr (vb rfl) (vb rfl)) (xr (vb rfl) rfl) (by omega)) rfl) ?_
    refine kai (vbL a m f k (by omega) (by omega) h rfl rfl rfl rfl) ?_
    dsimp only [List.set]
    obtain ⟨v, q, hv⟩ := wbu (G := qF FN.jG) (n := 2) (A := qa (eV 0) (qa (eV 5) (za))) (ρ := [.dat (.list (jd a)), .dat (.tuple [.int (f : Nat), .int (k : Nat), .list (jd m)]), .dat (.int (f : Nat)), .dat (.int (k : Nat)), .dat (.list (jd m)), .own (jd (ap a f k m))]) (es := [.list (jd a), .list (jd (ap a f k m))]) (qb (vb rfl) (qb (r_b rfl) yc)) rfl rfl (ybL (wa3 a (ap a f k m) (by omega) (by omega)))
    refine kY (jo (zG (zbe (x := false) q (wo (qb (vb rfl) (qb (vb rfl) (qb (vb rfl) yc))) rfl (by show 3 ≤ 16777216; decide)) ?_) rfl) (vS rfl))
    rw [hv]
    exact (zbf _ _ _ _ _ _).trans (congrArg some (decide_eq_false hp))
end
theorem ybU (a u : List Nat) (ha : a.length ≤ 90000) (hu : u.length ≤ 90000) : yo [.list (jd u), .list (jd a)] = some (match wbB a u with
    | some l => .retF (jd l)
    | none => .exc 18 0) := by
  unfold wbB yo xU
  have q1 := xbL u hu (a := 0) (lo := 0) (hi := 1099511627775) (Nat.zero_le _) (by decide) (E1 := eV 0) (E2 := eC (.int 0)) (E3 := eC (.int 0)) (E4 := eC (.int 1099511627775)) (ρ := [.dat (.list (jd u)), .dat (.list (jd a)), .un, .un, .un]) (vb rfl) rfl rfl rfl
  cases e1 : nI u 0 0 1099511627775 with
  | none =>
    rw [e1] at q1
    exact zA (kY (wbf q1))
  | some z =>
    obtain ⟨f, s⟩ := z
    rw [e1] at q1
    have hs := (kcs e1).1
    dsimp only
    have q2 := xbL u hu (a := s) (lo := 0) (hi := 1099511627775) hs (by decide) (E1 := eV 0) (E2 := eV 3) (E3 := eC (.int 0)) (E4 := eC (.int 1099511627775)) (ρ := [.dat (.list (jd u)), .dat (.list (jd a)), .dat (.int (f : Nat)), .dat (.int (s : Nat)), .un]) (vb rfl) (vb rfl) rfl rfl
    cases e2 : nI u s 0 1099511627775 with
    | none =>
      rw [e2] at q2
      exact zA (jh (kS q1 rfl rfl) (kY (wbf q2)))
    | some z2 =>
      obtain ⟨k, s2⟩ := z2
      rw [e2] at q2
      have hd : (u.drop s2).length ≤ 100000 := by rw [List.length_drop]; omega
      dsimp only
      by_cases h : f + k ≤ a.length
      · rw [if_pos h]
        by_cases hp : proper a (u.drop s2) f k
        · rw [if_pos hp]
          have c := kaw a (u.drop s2) f k (by omega) hd h
          rw [if_pos hp] at c
          exact qS (jh (kS q1 rfl rfl) (jh (kS q2 rfl rfl) (kbL (qX (zaG a u f k s2 s2) rfl rfl c))))
        · rw [if_neg hp]
          have c := kaw a (u.drop s2) f k (by omega) hd h
          rw [if_neg hp] at c
          exact zA (jh (kS q1 rfl rfl) (jh (kS q2 rfl rfl) (vbf (zX (zaG a u f k s2 s2) rfl rfl c) rfl)))
      · rw [if_neg h]
        exact zA (jh (kS q1 rfl rfl) (jh (kS q2 rfl rfl) (vbf (zX (zaG a u f k s2 s2) rfl rfl (za5 a (u.drop s2) f k (by omega))) rfl)))
theorem xbU {E : FE} {i : Nat} {ρ : ya} {c : Nat} {j : Int} (q : E ρ = some (.error (c, j))) : yl i E ρ = some (.exc ρ c j) := by
  unfold yl sE
  rw [q]
theorem vbv (l : List Nat) (d0 d1 : D) : ∃ ρ', ka (qg (tV (e2 kn (eG wg (qa (eV 2) (za))) (eC (.int 200)))) (zm 18 (eC (.int 0))) (zh)) (zd (eV 2)) [.dat d0, .dat d1, .own (jd l)] = some (if l.length ≤ 200 then .retF (jd l) else .exc ρ' 18 0) := by
  by_cases h : l.length ≤ 200
  · simp only [if_pos h]
    exact ⟨[], jh (xl (wz (xr (r_b rfl) rfl) rfl (by omega)) rfl) (qbe (r_b rfl))⟩
  · simp only [if_neg h]
    exact ⟨_, kY (jo (jz (xr (r_b rfl) rfl) rfl (by omega)) (vS rfl))⟩
theorem xag (b : Option (List Nat)) (u : List Nat) (ha : ∀ a, b = some a → a.length ≤ 90000) (hu : u.length ≤ 90000) : zk [.list (jd u), yg b] = some (match vV b u with
    | some l => .retF (jd l)
    | none => .exc 18 0) := by
  unfold vV zk kag
  cases b with
  | none =>
    dsimp only [yg]
    obtain ⟨ρ', t⟩ := vbv u (.list (jd u)) .none
    have pre : ∀ {g : FS} {o : Option Out}, g [.dat (.list (jd u)), .dat .none, .own (jd u)] = o → ka (yl 2 (eG ky (qa (eV 0) (za)))) (ka (qg (tV (e2 jH (eV 1) (eC .none))) (yl 2 (jb FN.yo 2 (qa (eV 0) (qa (eV 1) (za))))) (zh)) g) [.dat (.list (jd u)), .dat .none, .un] = o := fun {g o} h => kai (qw (vb rfl) rfl) (jh (xl (vZ (x := true) (vb rfl) rfl) rfl) h)
    by_cases h : u.length ≤ 200
    · rw [if_pos h] at t ⊢
      exact qS (pre t)
    · rw [if_neg h] at t ⊢
      exact zA (pre t)
  | some a =>
    dsimp only [yg]
    have q := ybU a u (ha a rfl) hu
    cases e : wbB a u with
    | none =>
      rw [e] at q
      exact zA (kai (qw (vb rfl) rfl) (kY (jo (vZ (x := false) (vb rfl) rfl) (xbU (zX (qb (vb rfl) (qb (vb rfl) yc)) rfl rfl q)))))
    | some l =>
      rw [e] at q
      dsimp only
      obtain ⟨ρ', t⟩ := vbv l (.list (jd u)) (.list (jd a))
      have pre : ∀ {g : FS} {o : Option Out}, g [.dat (.list (jd u)), .dat (.list (jd a)), .own (jd l)] = o → ka (yl 2 (eG ky (qa (eV 0) (za)))) (ka (qg (tV (e2 jH (eV 1) (eC .none))) (yl 2 (jb FN.yo 2 (qa (eV 0) (qa (eV 1) (za))))) (zh)) g) [.dat (.list (jd u)), .dat (.list (jd a)), .un] = o := fun {g o} h => kai (qw (vb rfl) rfl) (jh (jo (vZ (x := false) (vb rfl) rfl) (kbd (qX (qb (vb rfl) (qb (vb rfl) yc)) rfl rfl q) rfl)) h)
      by_cases h : l.length ≤ 200
      · rw [if_pos h] at t ⊢
        exact qS (pre t)
      · rw [if_neg h] at t ⊢
        exact zA (pre t)
end FL
namespace FN
open PySem PySem.Spec PyProof.Rows L2 DL
noncomputable section
def wbD : FS := ka (jm (jb8 (qa (e2 gSub (e2 kc (eV 1) (eV 2)) (eC (.int 1))) (qa (e2 gSub (eV 1) (eC (.int 1))) (qa (e1 xay (eC (.int 1))) (za))))) (gN 3) (qg (tV (e2 ze (eV 0) (eV 3))) (zd (eV 3)) (zh))) (zd (eC .none))
def vbD : DF := qj 3 4 wbD
def ybW : FS := ka (yl 2 (zv (za))) (ka (je 3 (eC (.int 0))) (ka (wak (tV (e2 yv (e2 kc (eV 3) (eV 1)) (eG wg (qa (eV 0) (za))))) (ka (je 3 (jb FN.vbD 3 (qa (eV 0) (qa (e2 kc (eV 3) (eC (.int 1))) (qa (eV 1) (za)))))) (ka (qg (tV (e2 kaM (eV 3) (eC .none))) (zd (eC .none)) (zh)) (zy 2 (eV 3))))) (zd (eV 2))))
def xbW : DF := qj 2 4 ybW
end
noncomputable section
end
noncomputable section
def jaY : FS := ka (yl 2 (zv (za))) (ka (jm (jbH 1 (qa (eV 0) (za))) (gT 2 (xb 3 (xb 4 (ki)))) (ka (je 5 (jb FN.xbW 2 (qa (eV 4) (qa (eV 1) (za))))) (ka (qg (tV (e2 kaM (eV 5) (eC .none))) (zd (eC .none)) (zh)) (x7 2 (jI [6] (st1 6) (jn (eV 5)) (fun _ => some (.ok true)) (ve (qa (eV 3) (qa (eV 6) (za))))))))) (zd (eV 2)))
def zax : DF := qj 2 7 jaY
end
noncomputable section
def kaS : FS := ka (je 2 (e1 (kcg 0) (jI [3] (st1 3) (jn (eV 0)) (fun _ => some (.ok true)) (eG wg (qa (eV 3) (za)))))) (ka (qg (tV (e2 zr (eV 2) (eC (.int 0)))) (zd (ve (qa (zv (za)) (qa (eC (.int 0)) (za))))) (zh)) (ka (je 4 (eC (.int 1))) (ka (wak (tV (e2 yv (eV 4) (eV 2))) (ka (je 5 (e2 yay (e2 kc (eV 4) (eV 2)) (eC (.int 2)))) (ka (je 6 (jb FN.zax 2 (qa (eV 0) (qa (eV 5) (za))))) (qg (ju (tV (e2 kaM (eV 6) (eC .none))) (tV (e2 kn (eG wg (qa (eV 6) (za))) (eV 1)))) (je 4 (e2 kc (eV 5) (eC (.int 1)))) (je 2 (eV 5)))))) (zd (ve (qa (jb FN.zax 2 (qa (eV 0) (qa (eV 4) (za)))) (qa (eV 4) (za))))))))
def xaS : DF := qj 2 7 kaS
end
noncomputable section
def waO : FS := zd (jI [1, 1, 3] (stT [1, 1, 3]) (jn (e2 ze (eV 0) (eC (.int 2)))) (fun _ => some (.ok true)) (jI [1, 1, 1, 2] (stT [1, 1, 1, 2]) (jn (eV 3)) (fun _ => some (.ok true)) (e1 zcr (eV 2))))
def vaO : DF := qj 1 4 waO
def vbj : FS := zd (ve (qa (eV 0) (qa (eV 1) (qa (eV 2) (qa (eC (.int 0)) (qa (eC (.int 0)) (qa (eC (.int 0)) (qa (eC (.int 0)) (qa (eC (.int 0)) (qa (eV 3) (za)))))))))))
def j0 : DF := qj 4 4 vbj
def xbN : FS := ka (yl 2 (zv (qa (jb FN.j0 4 (qa (eC (.int 0)) (qa (eV 1) (qa (eC (.int 0)) (qa (jb FN.xbp 1 (qa (eV 0) (za))) (za)))))) (za)))) (ka (je 3 (e2 ze (eV 0) (eC (.int 3)))) (ka (qg (tV (e2 kn (eG wg (qa (eV 3) (za))) (eC (.int 0)))) (zy 2 (jb FN.j0 4 (qa (eC (.int 1)) (qa (eV 1) (qa (eC (.int 1)) (qa (jb FN.jbq 1 (qa (eV 3) (za))) (za))))))) (zh)) (zd (eV 2))))
def kbN : DF := qj 2 4 xbN
def qbO : FS := zch 2 (eV 1) (ka (yl 3 (zv (za))) (ka (jm (vbY (qa (eV 0) (qa (jb FN.wbW 1 (qa (jb FN.x8 1 (qa (eV 0) (za))) (za))) (za)))) (gT 2 (xb 4 (vbt 2 (xb 5 (xb 6 (ki))) (ki)))) (qg (wu (tV (e2 zr (e2 ze (eV 4) (eC (.int 0))) (eC (.int 2)))) (tV (qaz false 2 (ve (qa (e2 ze (eV 4) (eC (.int 3))) (qa (e2 ze (eV 4) (eC (.int 4))) (za))))))) (zy 3 (ve (qa (e2 ze (eV 4) (eC (.int 3))) (qa (e2 ze (eV 4) (eC (.int 5))) (qa (eV 5) (za)))))) (zh))) (zd (eV 3))))
def zbO : DF := qj 2 7 qbO
def jbO : FS := ka (je 3 (eG wg (qa (eV 0) (za)))) (ka (je 4 (jb FN.j0 4 (qa (eC (.int 3)) (qa (eV 1) (qa (eV 3) (qa (jb FN.zbj 1 (qa (jb FN.zbO 2 (qa (eV 0) (qa (eV 2) (za)))) (za))) (za))))))) (ka (je 5 (jb FN.waC 1 (qa (jb FN.x8 1 (qa (e2 kc (eV 0) (zv (qa (eV 4) (za)))) (za))) (za)))) (zd (zv (qa (eV 4) (qa (jb FN.j0 4 (qa (eC (.int 4)) (qa (eV 1) (qa (e2 kc (eV 3) (eC (.int 1))) (qa (jb FN.qbD 2 (qa (e2 kc (eV 3) (eC (.int 2))) (qa (eV 5) (za)))) (za)))))) (za)))))))
def wbO : DF := qj 3 6 jbO
def wbq : FS := ka (vA (gT 4 (xb 5 (xb 6 (xb 7 (xb 8 (ki)))))) (e2 ze (eV 4) (eV 3))) (ka (je 9 (eC .none)) (ka (qg (tV (e2 kn (eV 3) (eC (.int 0)))) (je 9 (e2 ze (e2 ze (eV 4) (e2 gSub (eV 3) (eC (.int 1)))) (eC (.int 2)))) (zh)) (ka (je 10 (eIf (tV (eV 8)) (eC (.int 0)) (eC (.int 1)))) (zd (ve (qa (eC (.int 2)) (qa (eV 0) (qa (eV 1) (qa (eV 2) (qa (eV 3) (qa (eV 5) (qa (eV 6) (qa (eV 10) (qa (jb FN.qbq 2 (qa (e2 ze (eV 4) (eV 3)) (qa (eV 9) (za)))) (za)))))))))))))))
def vbq : DF := qj 5 11 wbq
def ybq : FS := ka (yl 4 (jb FN.kbN 2 (qa (eV 0) (qa (eV 1) (za))))) (ka (jm (jn (eV 2)) (gT 2 (xb 5 (xb 6 (ki)))) (ka (je 7 (e2 ze (e2 ze (e2 ze (eV 0) (eC (.int 2))) (e2 gSub (eV 5) (eC (.int 1)))) (eC (.int 2)))) (zy 4 (jb FN.vbq 5 (qa (eV 1) (qa (eG wg (qa (eV 4) (za))) (qa (eV 5) (qa (eV 6) (qa (eV 7) (za)))))))))) (yav 4 (zd (e2 kc (eV 4) (jb FN.wbO 3 (qa (eV 4) (qa (eV 1) (qa (eV 3) (za)))))))))
def xbq : DF := qj 4 8 ybq
def zbD : FS := ka (yl 1 (zv (za))) (ka (jm (jbH 1 (qa (e2 ze (eV 0) (eC (.int 2))) (za))) (gT 2 (xb 2 (vbt 3 (xb 3 (xb 3 (xb 4 (ki)))) (ki)))) (jm (ka9 (qa (eV 4) (za))) (gT 2 (xb 5 (xb 6 (ki)))) (zy 1 (ve (qa (e2 ze (eV 6) (eC (.int 0))) (qa (eV 2) (qa (eV 5) (za)))))))) (zd (jI [3, 2, 5] (stT [3, 2, 5]) (jn (eG kcq (qa (eV 1) (za)))) (fun _ => some (.ok true)) (ve (qa (eV 2) (qa (eV 5) (za)))))))
def jbD : DF := qj 1 7 zbD
def vbO : FS := ka (vA (gT 2 (xb 3 (xb 4 (ki)))) (jb FN.xaS 2 (qa (jb FN.vaO 1 (qa (eV 0) (za))) (qa (eV 2) (za))))) (zd (jb FN.x8 1 (qa (jb FN.xbq 4 (qa (eV 0) (qa (eV 1) (qa (jb FN.jbD 1 (qa (eV 0) (za))) (qa (eV 3) (za)))))) (za))))
def ybO : DF := qj 3 5 vbO
def yce : FS := ka (qg (kK (tV (jb FN.yaK 1 (qa (eV 0) (za))))) (zm 16 (eC (.int 0))) (zh)) (ka (qg (ju (tV (e2 yv (eV 1) (eC (.int 0)))) (tV (e2 kn (eV 1) (eC (.int 4294967295))))) (zm 1 (eC (.int 1))) (zh)) (ka (qg (ju (tV (e2 yv (eV 2) (eC (.int 0)))) (tV (e2 kn (eV 2) (eC (.int 100))))) (zm 1 (eC (.int 2))) (zh)) (zd (jb FN.ybO 3 (qa (eV 0) (qa (eV 1) (qa (eV 2) (za))))))))
def d_write : DF := qj 3 3 yce
end
end FN
namespace GR
def lk (row : List Bool) (s : Nat) : Nat → Option Nat
  | 0 => none
  | j + 1 => if row.getD (s + (j + 1)) false = true then some (s + (j + 1)) else lk row s j
def gr (row : List Bool) (w : Nat) : Nat → Nat → Option (List Nat)
  | 0, _ => some []
  | f + 1, s => if s + w < row.length then match lk row s w with
    | none => none
    | some e => (gr row w f e).map (e :: ·)
    else some []
inductive R (row : List Bool) (w : Nat) : Nat → Nat → Prop where
  | z : R row w 0 0
  | s {k a p : Nat} : R row w k a → a < p → p ≤ a + w → row.getD p false = true → p < row.length → R row w (k + 1) p
theorem R.pos {row : List Bool} {w k p : Nat} (h : R row w k p) (hp : 0 < p) : row.getD p false = true ∧ ∃ j a, k = j + 1 ∧ R row w j a ∧ a < p ∧ p ≤ a + w := by
  cases h with
  | z => omega
  | s h1 h2 h3 h4 h5 => exact ⟨h4, _, _, rfl, h1, h2, h3⟩
theorem R.zero {row : List Bool} {w p : Nat} (h : R row w 0 p) : p = 0 := by
  cases h
  rfl
structure Few (row : List Bool) (w : Nat) (L : Option Nat) : Prop where
  is : ∀ k, L = some k → ∃ q, R row w k q ∧ q < row.length ∧ row.length ≤ q + w
  least : ∀ k q, R row w k q → q < row.length → row.length ≤ q + w → ∃ l, L = some l ∧ l ≤ k
theorem R.lt {row : List Bool} {w k p : Nat} (h : R row w k p) (hn : 0 < row.length) : p < row.length := by
  cases h with
  | z => exact hn
  | s _ _ _ _ h => exact h
end GR
namespace FL
open PySem PySem.Spec PyProof.Rows L2 DL FN
open GR
local macro_rules | `(tactic| walk_at "ev") => `(tactic| first
  | exact vb rfl
  | exact r_b rfl
  | with_reducible assumption
  | exact (show eC _ _ = _ from rfl)
  | ((with_reducible apply zQ) <;> first | walk_at "ev" | omega)
  | ((with_reducible apply yr) <;> walk_at "ev")
  | ((with_reducible apply jA) <;> walk_at "ev")
  | ((with_reducible apply kP) <;> first | walk_at "ev" | exact jM (by omega) (by omega) | exact yP (by omega) (by omega))
  | ((with_reducible apply yY) <;> first | walk_at "ev" | omega)
  | ((with_reducible apply xY) <;> first | walk_at "ev" | omega)
  | ((with_reducible apply xah) <;> walk_at "ev")
  | ((with_reducible apply yah) <;> walk_at "ev")
  | ((with_reducible apply wZ) <;> walk_at "ev")
  | ((with_reducible apply yU) <;> walk_at "ev")
  | ((with_reducible apply xr) <;> first | rfl | walk_at "ev")
  | ((with_reducible apply qZ) <;> first | rfl | walk_at "ev")
  | ((with_reducible apply vac) <;> first | rfl | walk_at "ev")
  | ((with_reducible apply qw) <;> first | walk_at "ev" | rfl)
  | ((with_reducible apply yc))
  | ((with_reducible apply qb) <;> walk_at "ev")
  | ((with_reducible apply wo) <;> first | walk_at "ev" | rfl | (simp; done))
  | ((with_reducible apply jO) <;> first | walk_at "ev" | rfl | (simp; done))
  | ((with_reducible apply xj) <;> first | walk_at "ev" | omega)
  | ((with_reducible apply vo) <;> first | walk_at "ev" | omega)
  | ((with_reducible apply jS) <;> first | walk_at "ev" | omega)
  | ((with_reducible apply zS) <;> first | walk_at "ev" | omega)
  | ((with_reducible apply xE) <;> first | walk_at "ev" | omega)
  | ((with_reducible apply vx) <;> first | walk_at "ev" | omega)
  | ((with_reducible apply yS) <;> first | walk_at "ev" | omega)
  | ((with_reducible apply xS) <;> first | walk_at "ev" | omega)
  | ((with_reducible apply jz) <;> first | walk_at "ev" | omega)
  | ((with_reducible apply wz) <;> first | walk_at "ev" | omega)
  | ((with_reducible apply kE) <;> first | walk_at "ev" | omega)
  | ((with_reducible apply vz) <;> first | walk_at "ev" | omega)
  | ((with_reducible apply kl) <;> walk_at "ev")
  | ((with_reducible apply qv) <;> walk_at "ev")
  | ((with_reducible apply wM) <;> walk_at "ev")
  | ((with_reducible apply wy) <;> walk_at "ev")
  | ((with_reducible apply xP) <;> walk_at "ev")
  | ((with_reducible apply vY) <;> walk_at "ev")
  | ((with_reducible apply y8) <;> walk_at "ev"))
local macro_rules | `(tactic| walk_at "set") => `(tactic| ((with_reducible apply qQ); walk_at "ev"; rfl; dsimp only [List.set]))
local macro_rules | `(tactic| walk_at "ift") => `(tactic| ((first | with_reducible apply zZ | with_reducible apply jo); walk_at "ev"))
local macro_rules | `(tactic| walk_at "iff") => `(tactic| ((first | with_reducible apply jZ | with_reducible apply xl); walk_at "ev"))
section
variable (row : List Bool)
end
section
variable (row : List Bool)
structure BI (w : Nat) (B : List (Option Nat)) (P : Nat) : Prop where
  len : B.length = row.length
  is : ∀ q k, q < P → B.getD q none = some k → R row w k q
  least : ∀ q k, q < P → R row w k q → ∃ l, B.getD q none = some l ∧ l ≤ k
  un : ∀ q, P ≤ q → B.getD q none = none
end
section
variable (row : List Bool)
end
structure jcM (r : List Bool) : Prop where
  len : r.length ≤ 15
  first : 0 < r.length → r.getD 0 false = true
end FL
namespace GR
def inc : Nat → List Nat → Nat → Prop
  | s, [], L => s ≤ L
  | s, p :: r, L => s < p ∧ inc p r L
def fb (bad : Nat → Bool) : Nat → Nat → Option Nat
  | _, 0 => none
  | s, n + 1 => if bad s = true then some s else fb bad (s + 1) n
def ltP (a b : Int × Int) : Bool := decide (a.1 < b.1 ∨ (a.1 = b.1 ∧ a.2 < b.2))
def okP (ks : List (List Bool)) (x : Int × Int) : Bool := decide (1 ≤ x.1) && (decide (x.1 ≤ ks.length) && (decide (1 ≤ x.2) && (decide (x.2 < (ks.getD (x.1 - 1).toNat []).length) && (ks.getD (x.1 - 1).toNat []).getD x.2.toNat false)))
structure Val (ks : List (List Bool)) (idx : List (Int × Int)) : Prop where
  ok : ∀ x ∈ idx, okP ks x = true
  lt : idx.Pairwise fun a b => ltP a b = true
end GR
namespace FL
open PySem PySem.Spec PyProof.Rows L2 DL FN
open GR
variable {ks : List (List Bool)}
structure CI (ks : List (List Bool)) (C : List (Int × Int)) (k j : Nat) : Prop where
  m : ∀ x, x ∈ C ↔ okP ks x = true ∧ ltP x ((k : Int) + 1, (j : Int)) = true
  p : C.Pairwise fun a b => ltP a b = true
  l : C.length ≤ 15 * k + j
variable {ks : List (List Bool)}
end FL
namespace FL
open PySem PySem.Spec PyProof.Rows L2 DL FN
open PM
end FL
namespace FL
open PySem PySem.Spec PyProof.Rows L2 DL FN
open GR
variable {ks : List (List Bool)}
end FL
namespace GR
open FL
def gi (w : Nat) : Nat → List (List Bool) → Option (List (Int × Int))
  | _, [] => some []
  | k, r :: rs => match gr r w r.length 0 with
    | none => none
    | some l => (gi w (k + 1) rs).map (l.map (fun (e : Nat) => ((k : Int) + 1, (e : Int))) ++ ·)
def fe (ks : List (List Bool)) (c w : Nat) : Bool := match gi w 0 ks with
  | some m => decide (m.length ≤ c)
  | none => false
theorem ycn {ks : List (List Bool)} {c w : Nat} : fe ks c w = true ↔ ∃ m, gi w 0 ks = some m ∧ m.length ≤ c := by
  unfold fe
  cases gi w 0 ks with
  | none => simp
  | some m => simp
def least (P : Nat → Bool) : Nat → Nat → Nat
  | lo, 0 => lo
  | lo, n + 1 => if P lo = true then lo else least P (lo + 1) n
end GR
namespace FL
open PySem PySem.Spec PyProof.Rows L2 DL FN
open GR
variable {ks : List (List Bool)}
def mx (ks : List (List Bool)) : Nat := (ks.map List.length).foldl max 0
structure vcn (ks : List (List Bool)) (c : Nat) (m : List (Int × Int)) (w : Nat) : Prop where
  e : gi w 0 ks = some m
  le : m.length ≤ c
  lo : 1 ≤ w
  hi : w ≤ mx ks
  mn : ∀ v, 1 ≤ v → v < w → fe ks c v = false
theorem vcn.fe {c w : Nat} {m : List (Int × Int)} (B : vcn ks c m w) : fe ks c w = true := ycn.mpr ⟨m, B.e, B.le⟩
end FL
namespace FL
open PySem PySem.Spec PyProof.Rows L2 DL FN
open PM
end FL
namespace FL
open PySem PySem.Spec PyProof.Rows L2 DL FN
open LF (wd)
open PL
open ST (qaV)
local macro_rules | `(tactic| walk_at "ev") => `(tactic| first
  | exact vb rfl
  | exact r_b rfl
  | with_reducible assumption
  | exact (show eC _ _ = _ from rfl)
  | ((with_reducible apply zQ) <;> first | walk_at "ev" | omega)
  | ((with_reducible apply yr) <;> walk_at "ev")
  | ((with_reducible apply jA) <;> walk_at "ev")
  | ((with_reducible apply kP) <;> first | walk_at "ev" | exact jM (by omega) (by omega) | exact yP (by omega) (by omega))
  | ((with_reducible apply yY) <;> first | walk_at "ev" | omega)
  | ((with_reducible apply xY) <;> first | walk_at "ev" | omega)
  | ((with_reducible apply xah) <;> walk_at "ev")
  | ((with_reducible apply yah) <;> walk_at "ev")
  | ((with_reducible apply wZ) <;> walk_at "ev")
  | ((with_reducible apply yU) <;> walk_at "ev")
  | ((with_reducible apply xr) <;> first | rfl | walk_at "ev")
  | ((with_reducible apply qZ) <;> first | rfl | walk_at "ev")
  | ((with_reducible apply vac) <;> first | rfl | walk_at "ev")
  | ((with_reducible apply qw) <;> first | walk_at "ev" | rfl)
  | ((with_reducible apply yc))
  | ((with_reducible apply qb) <;> walk_at "ev")
  | ((with_reducible apply wo) <;> first | walk_at "ev" | rfl | (simp; done))
  | ((with_reducible apply jO) <;> first | walk_at "ev" | rfl | (simp; done))
  | ((with_reducible apply xj) <;> first | walk_at "ev" | omega)
  | ((with_reducible apply vo) <;> first | walk_at "ev" | omega)
  | ((with_reducible apply jS) <;> first | walk_at "ev" | omega)
  | ((with_reducible apply zS) <;> first | walk_at "ev" | omega)
  | ((with_reducible apply xE) <;> first | walk_at "ev" | omega)
  | ((with_reducible apply vx) <;> first | walk_at "ev" | omega)
  | ((with_reducible apply yS) <;> first | walk_at "ev" | omega)
  | ((with_reducible apply xS) <;> first | walk_at "ev" | omega)
  | ((with_reducible apply jz) <;> first | walk_at "ev" | omega)
  | ((with_reducible apply wz) <;> first | walk_at "ev" | omega)
  | ((with_reducible apply kE) <;> first | walk_at "ev" | omega)
  | ((with_reducible apply vz) <;> first | walk_at "ev" | omega)
  | ((with_reducible apply kl) <;> walk_at "ev")
  | ((with_reducible apply qv) <;> walk_at "ev")
  | ((with_reducible apply wM) <;> walk_at "ev")
  | ((with_reducible apply wy) <;> walk_at "ev")
  | ((with_reducible apply xP) <;> walk_at "ev")
  | ((with_reducible apply vY) <;> walk_at "ev")
  | ((with_reducible apply y8) <;> walk_at "ev"))
local macro_rules | `(tactic| walk_at "set") => `(tactic| ((with_reducible apply qQ); walk_at "ev"; rfl; dsimp only [List.set]))
local macro_rules | `(tactic| walk_at "ift") => `(tactic| ((first | with_reducible apply zZ | with_reducible apply jo); walk_at "ev"))
local macro_rules | `(tactic| walk_at "iff") => `(tactic| ((first | with_reducible apply jZ | with_reducible apply xl); walk_at "ev"))
theorem yb3 (n : Nat) (l : wd) : pl true (n + 2) (qe l) = true := by
  have e : ∀ i : Int, pl true (n + 1) (.int i) = true := fun i => rfl
  show List.all (lfL l) (pl true (n + 1)) = true
  unfold lfL
  simp only [List.all_cons, List.all_nil, e, Bool.true_and, Bool.and_true]
  exact qbB true n l.body
theorem xcn (n : Nat) (ls : List wd) : (ls.map qe).all (pl true (n + 2)) = true := by
  rw [List.all_eq_true]
  intro x hx
  obtain ⟨l, _, rfl⟩ := List.mem_map.mp hx
  exact yb3 n l
theorem ybw (ls : List wd) : kX (.list (ls.map qe)) (.list (ls.map qe)) = some true := kbe 3 (xcn 0 ls)
theorem xbO {ρ : ya} {i : Nat} {l : wd} (h : ρ[i]? = some (.dat (qe l))) : e2 qaI (qH (eV i) (qx) (xp (eC (.int 8)))) (ve (qa (eG ky (qa (e2 ze (eV i) (eC (.int 8))) (za))) (za))) ρ = some (.ok (.s (qe l))) := by
  have q1 : qH (eV i) (qx) (xp (eC (.int 8))) ρ = some (.ok (.s (.tuple [.int (l.kind : Nat), .int (l.wah : Nat), .int (l.number : Nat), .int (l.kZ : Nat), .int (l.ordinal : Nat), .int (l.time : Nat), .int (l.span : Nat), .int (l.key : Nat)]))) := by
    unfold qH
    rw [vb h]
    rfl
  have q2 : ve (qa (eG ky (qa (e2 ze (eV i) (eC (.int 8))) (za))) (za)) ρ = some (.ok (.s (.tuple [.list (jd l.body)]))) :=
    wo (vs := [.f (jd l.body)]) (qb (qw (v := .s (.list (jd l.body))) (ym (d := .list (jd l.body)) (vb h) rfl rfl) rfl) yc) rfl (by simp)
  exact qG q1 q2 rfl
end FL
namespace K06
end K06
namespace FL
open PySem PySem.Spec PyProof.Rows L2 DL FN
section
variable {ρ : ya} {a : Addr} {i : Nat} {ps : wm} {fe fk : FE} {v kv : Val} {k : List Int} {d : D}
theorem ybv {neg : Bool} (h : ρ[i]? = some (.wc a (.dic ps))) (q : fe ρ = some (.ok v)) (hk : yj v.d = some k) : wY neg i fe ρ = some (.ok (.s (.bool ((jE ps k).isSome != neg)))) := by
  unfold wY
  rw [h]
  dsimp only
  unfold bE
  rw [q]
  dsimp only
  rw [hk]
  rfl
theorem yal (h : ρ[i]? = some (.wc a (.dic ps))) (q : fe ρ = some (.ok v)) (hk : yj v.d = some k) (hd : jE ps k = some d) : kq i fe ρ = some (.ok (.s d)) := by
  unfold kq
  rw [h]
  dsimp only
  unfold bE
  rw [q]
  dsimp only
  rw [hk]
  dsimp only [Option.bind_some]
  rw [hd]
  rfl
theorem va3 (h : ρ[i]? = some (.wc a (.dic ps))) (q : fe ρ = some (.ok v)) (hk : yj v.d = some k) : qL i fe ρ = some (.ok (.s ((jE ps k).getD .none))) := by
  unfold qL
  rw [h]
  dsimp only
  unfold bE
  rw [q]
  dsimp only
  rw [hk]
  rfl
theorem yaN {kd : D} {ρ1 : ya} (h : ρ[i]? = some (.wc a (.dic ps))) (q : fe ρ = some (.ok v)) (hv : v.st = some d) (qk : fk ρ = some (.ok kv)) (hkd : kv.st = some kd) (hk : yj kd = some k) (hl : ps.length + 1 ≤ 16777216) (e : ρ.set i (.wc a (.dic (vak ps k d))) = ρ1) : wI i fk fe ρ = some (.nx ρ1) := by
  unfold wI
  rw [h]
  dsimp only
  unfold sE
  rw [q]
  dsimp only
  rw [hv]
  dsimp only
  rw [qk]
  dsimp only
  rw [hkd, Option.bind_some, hk]
  dsimp only
  rw [if_pos (qo hl), e]
theorem qbM (h : ρ[i]? = some (.wc a (.dic ps))) (so : jaD (ps.map fun p => keyD p.1)) : vP i ρ = some (.ok (.f (jaq (ps.map fun p => keyD p.1)))) := by
  unfold vP
  rw [h]
  dsimp only
  rw [if_pos so]
end
abbrev Ky := Nat × Nat
def kI (k : Ky) : List Int := [(k.1 : Int), (k.2 : Int)]
def kD (k : Ky) : D := .tuple [.int (k.1 : Nat), .int (k.2 : Nat)]
theorem xB (k : Ky) : yj (kD k) = some (kI k) := rfl
theorem ybf {a b : Ky} (h : kI a = kI b) : a = b := by
  unfold kI at h
  injection h with h1 h2
  injection h2 with h2 _
  exact Prod.ext (Int.ofNat.inj h1) (Int.ofNat.inj h2)
def kO (l : LF.wd) : Ky := (l.kZ, l.ordinal)
def encD {α : Type} (f : α → D) (xs : List (Ky × α)) : wm := xs.map fun x => (kI x.1, f x.2)
def kj {α : Type} (xs : List (Ky × α)) (k : Ky) : Option α := (xs.find? fun x => decide (x.1 = k)).map (·.2)
theorem jD {α : Type} (f : α → D) (k : Ky) : ∀ xs : List (Ky × α), jE (encD f xs) (kI k) = (kj xs k).map f
  | [] => rfl
  | x :: xs => by
    have ih := jD f k xs
    unfold jE encD kj at ih ⊢
    rw [List.map_cons, List.find?_cons, List.find?_cons]
    by_cases h : x.1 = k
    · rw [decide_eq_true h, decide_eq_true (by rw [h])]
      rfl
    · rw [decide_eq_false h, decide_eq_false (fun z => h (ybf z))]
      exact ih
theorem xaz {α : Type} (f : α → D) {k : Ky} {xs : List (Ky × α)} (h : kj xs k = none) (y : α) : vak (encD f xs) (kI k) (f y) = encD f (xs ++ [(k, y)]) := by
  unfold vak
  rw [jD, h, if_neg (by simp)]
  unfold encD
  rw [List.map_append]
  rfl
theorem wG {α : Type} {k : Ky} : ∀ {xs : List (Ky × α)}, kj xs k = none ↔ k ∉ xs.map (·.1)
  | [] => by simp [kj]
  | x :: xs => by
    have ih := wG (k := k) (xs := xs)
    unfold kj at ih ⊢
    rw [List.find?_cons]
    by_cases h : x.1 = k
    · rw [decide_eq_true h]
      simp [h]
    · rw [decide_eq_false h, List.map_cons, List.mem_cons]
      refine ih.trans ⟨fun q z => z.elim (fun e => h e.symm) q, fun q z => q (.inr z)⟩
theorem xbv {α : Type} {k : Ky} {xs ys : List (Ky × α)} : kj (xs ++ ys) k = (kj xs k).or (kj ys k) := by
  unfold kj
  rw [List.find?_append]
  cases xs.find? fun x => decide (x.1 = k) <;> rfl
theorem zbM {l : List Ky} (h : l.length ≤ 16777216) : jaD (l.map kD) := by
  refine ⟨PySem.W.AllAlike.of fun a b => by simp [kD, PySem.W.alike, PySem.W.alikeAll], .inl fun d hd => ?_, fun d hd => ?_, by rw [List.length_map]; exact h, xbf fun d hd => ?_⟩
  · obtain ⟨t, _, rfl⟩ := List.mem_map.mp hd
    exact ⟨_, _, rfl⟩
  · obtain ⟨t, _, rfl⟩ := List.mem_map.mp hd
    simp [kD, PyData.depth, PyData.depthAll]
  · obtain ⟨t, _, rfl⟩ := List.mem_map.mp hd
    rfl
def vat (l : List Ky) : List Ky := l.mergeSort fun a b => PySem.W.dataLe false id (kD a) (kD b)
theorem vcc (l : List Ky) : jaq (l.map kD) = (vat l).map kD := by
  unfold jaq vat
  exact (List.map_mergeSort (f := kD) (r := fun a b => PySem.W.dataLe false id (kD a) (kD b)) (s := PySem.W.dataLe false id) (l := l) (fun a _ b _ => rfl)).symm
theorem ya3 {α : Type} (f : α → D) (xs : List (Ky × α)) : ((encD f xs).map fun p => keyD p.1) = (xs.map (·.1)).map kD := by
  unfold encD
  rw [List.map_map, List.map_map]
  rfl
theorem kbf {α : Type} {f : α → D} {xs : List (Ky × α)} {ρ : ya} {a : Addr} {i : Nat} (h : ρ[i]? = some (.wc a (.dic (encD f xs)))) (hl : xs.length ≤ 16777216) : vP i ρ = some (.ok (.f ((vat (xs.map (·.1))).map kD))) := by
  have q := qbM h (by rw [ya3]; exact zbM (by rw [List.length_map]; exact hl))
  rw [ya3, vcc] at q
  exact q
def wD (acc : List (Ky × LF.wd)) (l : LF.wd) : List (Ky × LF.wd) := if l.kind = 2 ∧ kj acc (kO l) = none then acc ++ [(kO l, l)] else acc
def yp (ls : List LF.wd) : List (Ky × LF.wd) := ls.foldl wD []
theorem xaN (acc : List (Ky × LF.wd)) (l : LF.wd) : (wD acc l).length ≤ acc.length + 1 := by
  unfold wD
  split
  · rw [List.length_append, List.length_singleton]; omega
  · omega
theorem ycc {acc : List (Ky × LF.wd)} (h : (acc.map (·.1)).Nodup) (l : LF.wd) : ((wD acc l).map (·.1)).Nodup := by
  unfold wD
  split
  · rename_i hc
    rw [List.map_append, List.nodup_append]
    refine ⟨h, List.pairwise_singleton _ _, fun x hx y hy => ?_⟩
    rw [List.map_singleton, List.mem_singleton] at hy
    subst hy
    intro z
    rw [z] at hx
    exact wG.mp hc.2 hx
  · exact h
theorem kaN : ∀ (ls : List LF.wd) (acc : List (Ky × LF.wd)), (acc.map (·.1)).Nodup → ((ls.foldl wD acc).map (·.1)).Nodup
  | [], acc, h => h
  | l :: ls, acc, h => kaN ls _ (ycc h l)
theorem kbU (acc : List (Ky × LF.wd)) (l : LF.wd) (k : Ky) : kj (wD acc l) k = (kj acc k).or (if l.kind = 2 ∧ kO l = k then some l else none) := by
  unfold wD
  by_cases h : l.kind = 2 ∧ kj acc (kO l) = none
  · rw [if_pos h, xbv]
    congr 1
    unfold kj
    rw [List.find?_cons]
    by_cases e : kO l = k
    · rw [decide_eq_true e, if_pos ⟨h.1, e⟩]
      rfl
    · rw [decide_eq_false e, if_neg fun z => e z.2]
      rfl
  · rw [if_neg h]
    by_cases e : l.kind = 2 ∧ kO l = k
    · rw [if_pos e]
      have : kj acc k ≠ none := fun z => h ⟨e.1, by rw [e.2]; exact z⟩
      cases q : kj acc k with
      | none => exact absurd q this
      | some x => rfl
    · rw [if_neg e]
      cases kj acc k <;> rfl
theorem qbg (k : Ky) : ∀ (ls : List LF.wd) (acc : List (Ky × LF.wd)), kj (ls.foldl wD acc) k = (kj acc k).or (ls.find? fun l => decide (l.kind = 2 ∧ kO l = k))
  | [], acc => by
    rw [List.foldl_nil, List.find?_nil]
    cases kj acc k <;> rfl
  | l :: ls, acc => by
    rw [List.foldl_cons, qbg k ls, kbU, List.find?_cons]
    by_cases e : l.kind = 2 ∧ kO l = k
    · rw [if_pos e, decide_eq_true e]
      cases kj acc k <;> rfl
    · rw [if_neg e, decide_eq_false e]
      cases kj acc k <;> rfl
theorem zbg (ls : List LF.wd) (k : Ky) : kj (yp ls) k = ls.find? fun l => decide (l.kind = 2 ∧ kO l = k) := qbg k ls []
theorem jbg (ls : List LF.wd) : (yp ls).length ≤ ls.length := by
  have : ∀ (ls : List LF.wd) (acc : List (Ky × LF.wd)), (ls.foldl wD acc).length ≤ acc.length + ls.length := by
    intro ls
    induction ls with
    | nil => intro acc; exact Nat.le_refl _
    | cons l ls ih =>
      intro acc
      have := ih (wD acc l)
      have := xaN acc l
      rw [List.foldl_cons, List.length_cons]
      omega
  have := this ls []
  rw [List.length_nil, Nat.zero_add] at this
  exact this
noncomputable def flT : FS := ka (je 3 (ve (qa (e2 ze (eV 2) (eC (.int 3))) (qa (e2 ze (eV 2) (eC (.int 4))) (za))))) (qg (wu (tV (e2 zr (e2 ze (eV 2) (eC (.int 0))) (eC (.int 2)))) (tV (wY true 1 (eV 3)))) (wI 1 (eV 3) (eV 2)) (zh))
theorem xcc (s0 s3 : DL.Slot) (a : Addr) (acc : List (Ky × LF.wd)) (l : LF.wd) (hl : acc.length ≤ 1000000) : flT [s0, .wc a (.dic (encD qe acc)), .dat (qe l), s3] = some (.nx [s0, .wc a (.dic (encD qe (wD acc l))), .dat (qe l), .dat (kD (kO l))]) := by
  unfold flT wD
  refine jh (ρ1 := [s0, .wc a (.dic (encD qe acc)), .dat (qe l), .dat (kD (kO l))]) (zO (d := kD (kO l)) (wo (qb (ym (vb rfl) rfl rfl) (qb (ym (vb rfl) rfl rfl) yc)) rfl (by simp)) rfl rfl) ?_
  have hin := ybv (neg := true) (i := 1) (fe := eV 3) (ρ := [s0, .wc a (.dic (encD qe acc)), .dat (qe l), .dat (kD (kO l))]) rfl (vb rfl) (xB (kO l))
  rw [jD] at hin
  by_cases h2 : l.kind = 2
  · cases hv : kj acc (kO l) with
    | none =>
      rw [hv] at hin
      rw [if_pos ⟨h2, rfl⟩]
      refine jo (kl (xj (ym (vb rfl) rfl rfl) rfl (by omega)) (zG hin rfl)) ?_
      exact yaN (k := kI (kO l)) (d := qe l) rfl (vb rfl) rfl (vb rfl) rfl (xB _) (by unfold encD; rw [List.length_map]; omega) (by rw [xaz qe hv]; rfl)
    | some x =>
      rw [hv] at hin
      rw [if_neg (by rintro ⟨_, z⟩; cases z)]
      exact xl (kl (xj (ym (vb rfl) rfl rfl) rfl (by omega)) (zG hin rfl)) rfl
  · rw [if_neg fun z => h2 z.1]
    exact xl (qv (vo (ym (vb rfl) rfl rfl) rfl (by omega))) rfl
theorem kbv (s0 : DL.Slot) (a : Addr) : ∀ (ls : List LF.wd) (acc : List (Ky × LF.wd)) (s2 s3 : DL.Slot), acc.length + ls.length ≤ 1000000 → ∃ t2 t3 : DL.Slot, forL (gN 2) flT (ls.map qe) [s0, .wc a (.dic (encD qe acc)), s2, s3] = some (.nx [s0, .wc a (.dic (encD qe (ls.foldl wD acc))), t2, t3])
  | [], acc, s2, s3, _ => ⟨s2, s3, rfl⟩
  | l :: ls, acc, s2, s3, h => by
    rw [List.length_cons] at h
    have := xaN acc l
    obtain ⟨t2, t3, e⟩ := kbv s0 a ls (wD acc l) (.dat (qe l)) (.dat (kD (kO l))) (by omega)
    exact ⟨t2, t3, waJ rfl (xcc s0 s3 a acc l (by omega)) e⟩
theorem xaR (ls : List LF.wd) (h : ls.length ≤ 100000) : qT [.list (ls.map qe)] = some (encD qe (yp ls)) := by
  unfold qT jbA zT
  refine zbJ (fun a => ?_) rfl
  obtain ⟨t2, t3, e⟩ := kbv (.dat (.list (ls.map qe))) a ls [] .un .un (by simp; omega)
  refine ⟨_, vah (kaF (vb rfl) (.inl rfl)) e, rfl, fun j s hj hs ho => ?_⟩
  exfalso
  match j, hs with
  | 0, hs => cases hs; exact ho
  | 1, hs => exact hj rfl
  | 2, hs => cases hs; exact ho
  | 3, hs => cases hs; exact ho
  | j + 4, hs => cases hs
theorem wbg {b : Option (List Nat)} {u c : List Nat} (h : vV b u = some c) : c.length ≤ 200 := by
  unfold vV at h
  split at h
  · split at h
    · cases h
      assumption
    · cases h
  · cases h
def zE {α : Type} (xs : List (Ky × α)) (k : Ky) : Option α := if k.2 = 0 then none else kj xs (k.1, k.2 - 1)
theorem jaG {α : Type} (f : α → D) (xs : List (Ky × α)) (k : Ky) : jE (encD f xs) [(k.1 : Int), (k.2 : Int) - 1] = (zE xs k).map f := by
  unfold zE
  by_cases h : k.2 = 0
  · rw [if_pos h, h]
    have : ∀ xs : List (Ky × α), jE (encD f xs) [(k.1 : Int), ((0 : Nat) : Int) - 1] = none := by
      intro xs
      induction xs with
      | nil => rfl
      | cons x xs ih =>
        unfold jE encD at ih ⊢
        rw [List.map_cons, List.find?_cons, decide_eq_false]
        · exact ih
        · intro z
          unfold kI at z
          injection z with _ z
          injection z with z _
          omega
    exact this xs
  · rw [if_neg h, ← jD]
    congr 1
    unfold kI
    dsimp only
    congr 2
    omega
abbrev Ct := List (Ky × List Nat)
def w6 (c : List Nat) : D := .list (jd c)
noncomputable def zD (cs : Ct) (k : Ky) (l : LF.wd) : Option (List Nat) := if l.key = 1 then vV none l.body else (zE cs k).bind fun b => vV (some b) l.body
noncomputable def ctS (F : List (Ky × LF.wd)) (cs : Ct) (k : Ky) : Ct := match kj F k with
  | none => cs
  | some l => match zD cs k l with
    | none => cs
    | some c => cs ++ [(k, c)]
theorem kcc {cs : Ct} {k : Ky} {l : LF.wd} {c : List Nat} (h : zD cs k l = some c) : c.length ≤ 200 := by
  unfold zD at h
  split at h
  · exact wbg h
  · obtain ⟨b, _, h⟩ := Option.bind_eq_some_iff.mp h
    exact wbg h
def yae (cs : Ct) : Prop := ∀ x ∈ cs, x.2.length ≤ 200
theorem qax {α : Type} {xs : List (Ky × α)} {k : Ky} {y : α} (h : kj xs k = some y) : (k, y) ∈ xs := by
  unfold kj at h
  obtain ⟨x, h1, h2⟩ := Option.map_eq_some_iff.mp h
  have := List.find?_some h1
  have h3 := List.mem_of_find?_eq_some h1
  have e : x.1 = k := by simpa using this
  rw [← h2, ← e]
  exact h3
theorem yae.prev {cs : Ct} (h : yae cs) {k : Ky} {b : List Nat} (e : zE cs k = some b) : b.length ≤ 200 := by
  unfold zE at e
  split at e
  · cases e
  · exact h _ (qax e)
theorem vbg {F : List (Ky × LF.wd)} {cs : Ct} (h : yae cs) (k : Ky) : yae (ctS F cs k) ∧ (ctS F cs k).length ≤ cs.length + 1 ∧ ∀ j, j ≠ k → kj (ctS F cs k) j = kj cs j := by
  unfold ctS
  split
  · exact ⟨h, by omega, fun j _ => rfl⟩
  · split
    · exact ⟨h, by omega, fun j _ => rfl⟩
    · rename_i l _ c hc
      refine ⟨fun x hx => ?_, by rw [List.length_append, List.length_singleton]; omega, fun j hj => ?_⟩
      · rcases List.mem_append.mp hx with hx | hx
        · exact h x hx
        · rw [List.mem_singleton] at hx
          subst hx
          exact kcc hc
      · rw [xbv]
        have : kj [(k, c)] j = none := wG.mpr (by simp [hj])
        rw [this]
        cases kj cs j <;> rfl
noncomputable def vbB : HF := jae (mxL [(1, false), (2, false), (3, false), (17, false), (18, true)]) (fCt) (zaM)
def yA (cf ca : Addr) (F : List (Ky × LF.wd)) (cs : Ct) (k : Ky) (s4 s5 : DL.Slot) : ya := [.wc cf (.dic (encD qe F)), .wc ca (.dic (encD w6 cs)), .dat (.int (k.1 : Nat)), .dat (.int (k.2 : Nat)), s4, s5]
noncomputable def kah (F : List (Ky × LF.wd)) : Ct := (vat (F.map (·.1))).foldl (ctS F) []
theorem xa3 (l : List Ky) : (vat l).Perm l := List.mergeSort_perm _ _
def wK (s : DL.Slot) : Prop := s = .un ∨ ∃ d, s = .dat d
theorem kaR {a : Nat} {f : FE} {ρ : ya} {v : Val} {d : D} (hn : noOwn ρ [a] = true) (e : f ρ = some (.ok v)) (hs : v.st = some d) : jW a f ρ = some (ρ.set a (.dat d)) := by
  unfold jW
  rw [if_pos hn, e]
  dsimp only
  rw [hs]
theorem xcm {i : Nat} {fk fc : FE} {hf : HF} {ρ : ya} {p : Addr} {ps : wm} {ds : List D} {kv : Val} {k : List Int} (ei : ρ[i]? = some (.wc p (.dic ps))) (e : fc ρ = some (.ok (.f ds))) (ek : fk ρ = some (.ok kv)) (hk : kv.st.bind yj = some k) (hl : ps.length ≤ 1000000) (hn : jE ps k = none) : tryD i fk fc hf ρ = some (ρ.set i (.wc p (.dic (vak ps k (.list ds))))) := by
  unfold tryD
  rw [ei]
  dsimp only
  rw [e, ek]
  dsimp only
  rw [hk]
  dsimp only
  rw [if_pos ⟨decide_eq_true (p := ps.length + 1 ≤ 16777216) (by omega), by rw [hn]; rfl⟩]
theorem vcd {i : Nat} {fk fc : FE} {hf : HF} {ρ : ya} {p : Addr} {ps : wm} {er : Er} (ei : ρ[i]? = some (.wc p (.dic ps))) (e : fc ρ = some (.error er)) (h : hf er.1 er.2 (yN ρ) = some (.ct (yN ρ))) : tryD i fk fc hf ρ = some ρ := by
  unfold tryD
  rw [ei]
  dsimp only
  rw [e]
  dsimp only
  rw [if_pos h]
noncomputable def qbC : ya → Option ya := vaF 1 4 5 (kq 0 (ve (qa (eV 2) (qa (eV 3) (za))))) (eC .none) (qL 1 (ve (qa (eV 2) (qa (e2 gSub (eV 3) (eC (.int 1))) (za))))) (ve (qa (eV 2) (qa (eV 3) (za)))) (jb FN.zk 2 (qa (e2 ze (eV 4) (eC (.int 8))) (qa (eV 5) (za)))) (tV (e2 zr (e2 ze (eV 4) (eC (.int 7))) (eC (.int 0)))) (ju (tV (e2 zr (e2 ze (eV 4) (eC (.int 7))) (eC (.int 1)))) (tV (e2 jH (eV 5) (eC .none)))) vbB
theorem kaz {cf ca : Addr} {F : List (Ky × LF.wd)} {cs : Ct} {k : Ky} {s4 s5 : DL.Slot} (h4 : wK s4) (h5 : wK s5) : noOwn (yA cf ca F cs k s4 s5) [4] = true ∧ noOwn (yA cf ca F cs k s4 s5) [5] = true := by
  constructor
  · rcases h4 with rfl | ⟨d, rfl⟩ <;> rfl
  · rcases h5 with rfl | ⟨d, rfl⟩ <;> rfl
theorem xbM (cf ca : Addr) (F : List (Ky × LF.wd)) (cs : Ct) (k : Ky) (l : LF.wd) (hF : kj F k = some l) (hl : l.Ok) (hk : kj cs k = none) (hc : yae cs) (hn : cs.length ≤ 1000000) (s4 s5 : DL.Slot) (n4 : wK s4) (n5 : wK s5) :
    ∃ t4 t5 : DL.Slot, wK t4 ∧ wK t5 ∧ qbC (yA cf ca F cs k s4 s5) = some (yA cf ca F (ctS F cs k) k t4 t5) := by
  have hkey : ∀ u4 u5 : DL.Slot, ve (qa (eV 2) (qa (eV 3) (za))) (yA cf ca F cs k u4 u5) = some (.ok (.s (kD k))) := fun u4 u5 => wo (qb (vb rfl) (qb (vb rfl) yc)) rfl (by simp)
  have h4 : jW 4 (kq 0 (ve (qa (eV 2) (qa (eV 3) (za))))) (yA cf ca F cs k s4 s5) = some (yA cf ca F cs k (.dat (qe l)) s5) := kaR (kaz n4 n5).1 (yal rfl (hkey _ _) (xB k) (by rw [jD, hF]; rfl)) rfl
  have h5 : jW 5 (eC .none) (yA cf ca F cs k (.dat (qe l)) s5) = some (yA cf ca F cs k (.dat (qe l)) (.dat .none)) := kaR (v := .s .none) (kaz (.inr ⟨_, rfl⟩) n5).2 rfl rfl
  have hkk : ∀ u5 : DL.Slot, e2 ze (eV 4) (eC (.int 7)) (yA cf ca F cs k (.dat (qe l)) u5) = some (.ok (.s (.int (l.key : Nat)))) := fun u5 => ym (vb rfl) rfl rfl
  have hle := hl.key
  have hbl : l.body.length ≤ 90000 := by have := hl.size; omega
  have hdn : jE (encD w6 cs) (kI k) = none := by rw [jD, hk]; rfl
  have main : ∀ (b : Option (List Nat)), (∀ x, b = some x → x.length ≤ 200) → (l.key = 1 ∨ b ≠ none) → zD cs k l = vV b l.body →
      ju (tV (e2 zr (e2 ze (eV 4) (eC (.int 7))) (eC (.int 1)))) (tV (e2 jH (eV 5) (eC .none))) (yA cf ca F cs k (.dat (qe l)) (.dat (yg b))) = some (.ok true) ∧
      tryD 1 (ve (qa (eV 2) (qa (eV 3) (za)))) (jb FN.zk 2 (qa (e2 ze (eV 4) (eC (.int 8))) (qa (eV 5) (za)))) vbB (yA cf ca F cs k (.dat (qe l)) (.dat (yg b))) = some (yA cf ca F (ctS F cs k) k (.dat (qe l)) (.dat (yg b))) := by
    intro b hb hor hnew
    refine ⟨?_, ?_⟩
    · by_cases h1 : l.key = 1
      · exact wM (xj (hkk _) rfl (by omega))
      · refine wy (vo (hkk _) rfl (by omega)) ?_
        cases b with
        | none => exact absurd rfl (hor.resolve_left h1)
        | some x => exact vZ (x := false) (vb rfl) rfl
    have q := xag b l.body (fun x e => by have := hb x e; omega) hbl
    have hargs : qa (e2 ze (eV 4) (eC (.int 8))) (qa (eV 5) (za)) (yA cf ca F cs k (.dat (qe l)) (.dat (yg b))) = some (.ok [.s (.list (jd l.body)), .s (yg b)]) := qb (ym (vb rfl) rfl rfl) (qb (vb rfl) yc)
    have vw : km [.s (.list (jd l.body)), .s (yg b)] = some [.list (jd l.body), yg b] := rfl
    unfold ctS
    rw [hF]
    dsimp only
    rw [hnew]
    cases ec : vV b l.body with
    | none =>
      rw [ec] at q
      exact vcd rfl (zX hargs vw rfl q) rfl
    | some c =>
      rw [ec] at q
      have := xcm (i := 1) (hf := vbB) rfl (qX hargs vw rfl q) (hkey _ _) (xB k) (by unfold encD; rw [List.length_map]; omega) hdn
      refine Eq.trans this ?_
      show some ((yA cf ca F cs k (.dat (qe l)) (.dat (yg b))).set 1 (.wc ca (.dic (vak (encD w6 cs) (kI k) (w6 c))))) = _
      rw [xaz w6 hk]
      rfl
  unfold qbC vaF
  rw [h4, Option.bind_some, h5, Option.bind_some]
  by_cases h1 : l.key = 1
  · obtain ⟨m1, m2⟩ := main none (fun x e => nomatch e) (.inl h1) (by unfold zD; rw [if_pos h1])
    refine ⟨.dat (qe l), .dat (yg none), .inr ⟨_, rfl⟩, .inr ⟨_, rfl⟩, ?_⟩
    have : tV (e2 zr (e2 ze (eV 4) (eC (.int 7))) (eC (.int 0))) (yA cf ca F cs k (.dat (qe l)) (.dat .none)) = some (.ok false) := vo (hkk _) rfl (by omega)
    rw [this]
    show (match ju (tV (e2 zr (e2 ze (eV 4) (eC (.int 7))) (eC (.int 1)))) (tV (e2 jH (eV 5) (eC .none))) (yA cf ca F cs k (.dat (qe l)) (.dat (yg none))) with
      | some (.ok true) => tryD 1 (ve (qa (eV 2) (qa (eV 3) (za)))) (jb FN.zk 2 (qa (e2 ze (eV 4) (eC (.int 8))) (qa (eV 5) (za)))) vbB (yA cf ca F cs k (.dat (qe l)) (.dat (yg none)))
      | some (.ok false) => some (yA cf ca F cs k (.dat (qe l)) (.dat (yg none)))
      | _ => none) = _
    rw [m1]
    exact m2
  · have hg := va3 (i := 1) (fe := ve (qa (eV 2) (qa (e2 gSub (eV 3) (eC (.int 1))) (za)))) (ρ := yA cf ca F cs k (.dat (qe l)) (.dat .none)) (a := ca) (ps := encD w6 cs) (k := [(k.1 : Int), (k.2 : Int) - 1]) (v := .s (.tuple [.int (k.1 : Nat), .int ((k.2 : Nat) - 1)])) rfl (wo (qb (vb rfl) (qb (jA (vb rfl) rfl) yc)) rfl (by simp)) rfl
    rw [jaG] at hg
    have h3 : jW 5 (qL 1 (ve (qa (eV 2) (qa (e2 gSub (eV 3) (eC (.int 1))) (za))))) (yA cf ca F cs k (.dat (qe l)) (.dat .none)) = some (yA cf ca F cs k (.dat (qe l)) (.dat (yg (zE cs k)))) := kaR (kaz (.inr ⟨_, rfl⟩) (.inr ⟨_, rfl⟩)).2 hg (by cases zE cs k <;> rfl)
    refine ⟨.dat (qe l), .dat (yg (zE cs k)), .inr ⟨_, rfl⟩, .inr ⟨_, rfl⟩, ?_⟩
    have : tV (e2 zr (e2 ze (eV 4) (eC (.int 7))) (eC (.int 0))) (yA cf ca F cs k (.dat (qe l)) (.dat .none)) = some (.ok true) := xj (hkk _) rfl (by omega)
    rw [this]
    dsimp only
    rw [h3, Option.bind_some]
    cases hp : zE cs k with
    | none =>
      have : ju (tV (e2 zr (e2 ze (eV 4) (eC (.int 7))) (eC (.int 1)))) (tV (e2 jH (eV 5) (eC .none))) (yA cf ca F cs k (.dat (qe l)) (.dat (yg none))) = some (.ok false) := wy (vo (hkk _) rfl (by omega)) (vZ (x := true) (vb rfl) rfl)
      rw [this]
      dsimp only
      have e : ctS F cs k = cs := by
        unfold ctS
        rw [hF]
        dsimp only
        unfold zD
        rw [if_neg h1, hp]
        rfl
      rw [e]
    | some b =>
      obtain ⟨m1, m2⟩ := main (some b) (fun x e => by cases e; exact hc.prev hp) (.inr (fun z => nomatch z)) (by unfold zD; rw [if_neg h1, hp]; rfl)
      rw [m1]
      exact m2
theorem kbM {i : Nat} {g : FG} {B : ya → Option ya} {d : D} {ds : List D} {ρ ρ1 ρ2 : ya} {o : Option ya} (eg : g d ρ = some ρ1) (ad : jq ρ1) (ei : ρ1[i]? = ρ[i]?) (ow : ∀ b, vI ρ1 b ↔ vI ρ b) (eB : B ρ1 = some ρ2) (h : j8 i g B ds ρ2 = o) : j8 i g B (d :: ds) ρ = o := by
  unfold j8
  rw [eg, Option.bind_some, if_pos ⟨ad, ei, ow⟩, eB, Option.bind_some]
  exact h
def C2 (cf ca : Addr) (x y : wm) (r : List DL.Slot) : ya := .wc cf (.dic x) :: .wc ca (.dic y) :: r
theorem qbN {cf ca : Addr} {x y : wm} {r : List DL.Slot} (h : ∀ s ∈ r, wK s) : jq (C2 cf ca x y r) ∧ ∀ b, vI (C2 cf ca x y r) b ↔ b = cf ∨ b = ca := by
  have no : ∀ (j : Nat) s, r[j]? = some s → wK s := fun j s e => h s (List.mem_of_getElem? e)
  refine ⟨fun j s e o => ?_, fun b => ⟨fun ⟨j, ps, e⟩ => ?_, fun z => ?_⟩⟩
  · match j, e with
    | 0, e => cases e; exact ⟨_, _, rfl⟩
    | 1, e => cases e; exact ⟨_, _, rfl⟩
    | j + 2, e => rcases no j s e with rfl | ⟨d, rfl⟩ <;> exact o.elim
  · match j, e with
    | 0, e => cases e; exact .inl rfl
    | 1, e => cases e; exact .inr rfl
    | j + 2, e => rcases no j _ e with z | ⟨d, z⟩ <;> cases z
  · rcases z with rfl | rfl
    · exact ⟨0, x, rfl⟩
    · exact ⟨1, y, rfl⟩
theorem za4 (cf ca : Addr) (F : List (Ky × LF.wd)) (hok : ∀ x ∈ F, x.2.Ok) : ∀ (ks : List Ky) (cs : Ct) (s2 s3 s4 s5 : DL.Slot), (∀ s ∈ [s2, s3, s4, s5], wK s) → ks.Nodup → (∀ k ∈ ks, ∃ l, kj F k = some l) → (∀ k ∈ ks, kj cs k = none) → yae cs → cs.length + ks.length ≤ 1000000 →
    ∃ t2 t3 t4 t5 : DL.Slot, j8 1 (gT 2 (xb 2 (xb 3 (ki)))) qbC (ks.map kD) [.wc cf (.dic (encD qe F)), .wc ca (.dic (encD w6 cs)), s2, s3, s4, s5] = some [.wc cf (.dic (encD qe F)), .wc ca (.dic (encD w6 (ks.foldl (ctS F) cs))), t2, t3, t4, t5]
  | [], cs, s2, s3, s4, s5, _, _, _, _, _, _ => ⟨s2, s3, s4, s5, rfl⟩
  | k :: ks, cs, s2, s3, s4, s5, ns, nd, hF, hk, hc, hn => by
    rw [List.length_cons] at hn
    rw [List.nodup_cons] at nd
    obtain ⟨l, hl⟩ := hF k List.mem_cons_self
    have n4 : wK s4 := ns _ (by simp)
    have n5 : wK s5 := ns _ (by simp)
    obtain ⟨t4, t5, m4, m5, h⟩ := xbM cf ca F cs k l hl (hok _ (qax hl)) (hk k List.mem_cons_self) hc (by omega) s4 s5 n4 n5
    obtain ⟨c1, c2, c3⟩ := vbg (F := F) hc k
    have ns' : ∀ s ∈ [DL.Slot.dat (.int (k.1 : Nat)), .dat (.int (k.2 : Nat)), s4, s5], wK s := fun s hs => by
      simp only [List.mem_cons, List.not_mem_nil, or_false] at hs
      rcases hs with rfl | rfl | rfl | rfl
      · exact .inr ⟨_, rfl⟩
      · exact .inr ⟨_, rfl⟩
      · exact n4
      · exact n5
    have nt' : ∀ s ∈ [DL.Slot.dat (.int (k.1 : Nat)), .dat (.int (k.2 : Nat)), t4, t5], wK s := fun s hs => by
      simp only [List.mem_cons, List.not_mem_nil, or_false] at hs
      rcases hs with rfl | rfl | rfl | rfl
      · exact .inr ⟨_, rfl⟩
      · exact .inr ⟨_, rfl⟩
      · exact m4
      · exact m5
    obtain ⟨u2, u3, u4, u5, e⟩ := za4 cf ca F hok ks (ctS F cs k) (.dat (.int (k.1 : Nat))) (.dat (.int (k.2 : Nat))) t4 t5 nt' nd.2 (fun j hj => hF j (List.mem_cons_of_mem _ hj)) (fun j hj => by
      rw [c3 j fun z => nd.1 (z ▸ hj)]
      exact hk j (List.mem_cons_of_mem _ hj)) c1 (by omega)
    have a1 := qbN (cf := cf) (ca := ca) (x := encD qe F) (y := encD w6 cs) ns'
    have a0 := qbN (cf := cf) (ca := ca) (x := encD qe F) (y := encD w6 cs) ns
    exact ⟨u2, u3, u4, u5, kbM rfl a1.1 rfl (fun b => (a1.2 b).trans (a0.2 b).symm) h e⟩
noncomputable def vaL : ya → Option wm := v8 1 (jn (vP 0)) (gT 2 (xb 2 (xb 3 (ki)))) qbC
theorem zbC {i : Nat} {it : FI} {g : FG} {B : ya → Option ya} {ρ : ya} {qs : wm} (h1 : noOwn ρ [i] = true) (h2 : jq ρ) (h3 : i < ρ.length) (h : ∀ a, ∃ ds ρ', it (ρ.set i (.wc a (.dic []))) = some (.ok ds) ∧ j8 i g B ds (ρ.set i (.wc a (.dic []))) = some ρ' ∧ ρ'[i]? = some (.wc a (.dic qs))) : v8 i it g B ρ = some qs := by
  have hh : ∃ qs : wm, ∀ a, ∃ ds ρ', it (ρ.set i (.wc a (.dic []))) = some (.ok ds) ∧ j8 i g B ds (ρ.set i (.wc a (.dic []))) = some ρ' ∧ ρ'[i]? = some (.wc a (.dic qs)) := ⟨qs, h⟩
  unfold v8
  rw [if_pos ⟨h1, h2, h3⟩, dif_pos hh]
  obtain ⟨ds, ρ', e1, e2, e3⟩ := hh.choose_spec 0
  obtain ⟨ds', ρ'', f1, f2, f3⟩ := h 0
  rw [f1] at e1
  cases e1
  rw [f2] at e2
  cases e2
  rw [f3] at e3
  cases e3
  rfl
theorem jaS (F : List (Ky × LF.wd)) (hok : ∀ x ∈ F, x.2.Ok) (nd : (F.map (·.1)).Nodup) (hl : F.length ≤ 100000) : waN 6 vaL (encD qe F) = some (encD w6 (kah F)) := by
  unfold vaL
  refine yca fun c => zbC rfl (fun j s e o => ?_) (by simp) (fun a => ?_)
  · match j, e with
    | 0, e => cases e; exact ⟨_, _, rfl⟩
    | 1, e => cases e; exact o.elim
    | 2, e => cases e; exact o.elim
    | 3, e => cases e; exact o.elim
    | 4, e => cases e; exact o.elim
    | 5, e => cases e; exact o.elim
    | j + 6, e => cases e
  · have pm := xa3 (F.map (·.1))
    obtain ⟨t2, t3, t4, t5, e⟩ := za4 c a F hok (vat (F.map (·.1))) [] .un .un .un .un (fun s hs => by
      simp only [List.mem_cons, List.not_mem_nil, or_false, or_self] at hs
      exact .inl hs) (pm.nodup_iff.mpr nd) (fun k hk => by
      have := pm.mem_iff.mp hk
      cases q : kj F k with
      | none => exact absurd this (wG.mp q)
      | some l => exact ⟨l, rfl⟩) (fun k _ => rfl) (fun x hx => nomatch hx) (by rw [pm.length_eq, List.length_map]; simp; omega)
    exact ⟨_, _, qbK (kbf rfl (by omega)), e, rfl⟩
theorem kaX (F : List (Ky × LF.wd)) (hok : ∀ x ∈ F, x.2.Ok) (nd : (F.map (·.1)).Nodup) (hl : F.length ≤ 100000) : xae (encD qe F) = some (encD w6 (kah F)) := jaS F hok nd hl
theorem ka3 {i : Nat} {rest : FS} {ρ : ya} {es : List D} (h : ∀ a, rest (ρ.set i (.wc a (.dic []))) = some (.retF es)) : qaJ i rest ρ = some (.retF es) :=
  vbP 0 fun a _ => by rw [h a]; rfl
theorem ybB {i : Nat} {fe : FE} {ρ : ya} {a : Addr} {qs : List (List Int)} {v : Val} {k : List Int} (hs : ρ[i]? = some (.wc a (.set qs))) (q : fe ρ = some (.ok v)) (hk : yj v.d = some k) : tV (qaz true i fe) ρ = some (.ok (!decide (k ∈ qs))) := by
  refine zG (v := .s (.bool (!decide (k ∈ qs)))) ?_ rfl
  unfold qaz
  rw [hs]
  dsimp only
  unfold bE
  rw [q]
  dsimp only
  rw [hk]
  simp
theorem qcd {i : Nat} {fe : FE} {ρ ρ1 : ya} {a : Addr} {qs : List (List Int)} {v : Val} {d : D} {k : List Int} (hs : ρ[i]? = some (.wc a (.set qs))) (q : fe ρ = some (.ok v)) (hv : v.st = some d) (hk : yj d = some k) (hl : qs.length + 1 < 64) (e : ρ.set i (.wc a (.set (if k ∈ qs then qs else qs ++ [k]))) = ρ1) : kaq i fe ρ = some (.nx ρ1) := by
  unfold kaq
  rw [hs]
  dsimp only
  unfold sE
  rw [q]
  dsimp only
  rw [hv]
  dsimp only
  rw [hk]
  dsimp only
  rw [if_pos hl, e]
abbrev Sd := LF.wd × List Nat
def vM (x : Sd) : D := .tuple [qe x.1, w6 x.2]
def yaJ (ls : List LF.wd) (l : LF.wd) : Bool := decide ((kj (yp ls) (kO l)).map (·.number) = some l.number)
def yM (ls : List LF.wd) (C : Ct) (l : LF.wd) : Option Sd := if l.kind = 2 ∧ yaJ ls l = true then (kj C (kO l)).map fun c => (l, c) else none
noncomputable def waG (ls : List LF.wd) : List Sd := ls.filterMap (yM ls (kah (yp ls)))
theorem jbM {pre post : List LF.wd} {l : LF.wd} (h2 : l.kind = 2) (nd : ((pre ++ l :: post).map (·.number)).Nodup) : yaJ (pre ++ l :: post) l = true ↔ ∀ x ∈ pre, ¬ (x.kind = 2 ∧ kO x = kO l) := by
  unfold yaJ
  rw [decide_eq_true_iff, zbg, List.find?_append]
  constructor
  · intro h x hx hc
    have hs : (pre.find? fun y => decide (y.kind = 2 ∧ kO y = kO l)).isSome = true := List.find?_isSome.mpr ⟨x, hx, decide_eq_true hc⟩
    obtain ⟨y, hy⟩ := Option.isSome_iff_exists.mp hs
    rw [hy] at h
    have hn : y.number = l.number := Option.some.inj h
    have hm := List.mem_of_find?_eq_some hy
    rw [List.map_append, List.nodup_append] at nd
    exact nd.2.2 y.number (List.mem_map_of_mem hm) l.number (by simp) hn
  · intro h
    have hn : (pre.find? fun y => decide (y.kind = 2 ∧ kO y = kO l)) = none := List.find?_eq_none.mpr fun x hx z => h x hx (of_decide_eq_true z)
    rw [hn, List.find?_cons, decide_eq_true (show l.kind = 2 ∧ kO l = kO l from ⟨h2, rfl⟩)]
    rfl
def soS (s0 : DL.Slot) (ca sa R : Addr) (seen : List Ky) (s4 s5 : DL.Slot) : ya := [s0, .pin ca, .wc sa (.set (seen.map kI)), .pin R, s4, s5]
theorem wbM {k : Ky} {seen : List Ky} : kI k ∈ seen.map kI ↔ k ∈ seen := ⟨fun h => by
  obtain ⟨x, hx, e⟩ := List.mem_map.mp h
  rw [← ybf e]
  exact hx, fun h => List.mem_map_of_mem h⟩
theorem xaX {s0 s4 s5 : DL.Slot} {ca sa R : Addr} {seen : List Ky} (h0 : wK s0) (h4 : wK s4) (h5 : wK s5) : zM (soS s0 ca sa R seen s4 s5) ∧ ∀ b, xaW (soS s0 ca sa R seen s4 s5) b ↔ b = sa := by
  refine ⟨fun j s e o => ?_, fun b => ⟨fun ⟨j, ks, e⟩ => ?_, fun z => by rw [z]; exact ⟨2, _, rfl⟩⟩⟩
  · match j, e with
    | 0, e => cases e; rcases h0 with rfl | ⟨d, rfl⟩ <;> exact o.elim
    | 1, e => cases e; exact o.elim
    | 2, e => cases e; exact ⟨_, _, rfl⟩
    | 3, e => cases e; exact o.elim
    | 4, e => cases e; rcases h4 with rfl | ⟨d, rfl⟩ <;> exact o.elim
    | 5, e => cases e; rcases h5 with rfl | ⟨d, rfl⟩ <;> exact o.elim
    | j + 6, e => cases e
  · match j, e with
    | 0, e => rcases h0 with z | ⟨d, z⟩ <;> (rw [z] at e; cases e)
    | 1, e => cases e
    | 2, e => cases e; rfl
    | 3, e => cases e
    | 4, e => rcases h4 with z | ⟨d, z⟩ <;> (rw [z] at e; cases e)
    | 5, e => rcases h5 with z | ⟨d, z⟩ <;> (rw [z] at e; cases e)
    | j + 6, e => cases e
theorem qaO {s0 s4 s5 t4 t5 : DL.Slot} {ca sa R : Addr} {seen seen' : List Ky} (h0 : wK s0) (h4 : wK s4) (h5 : wK s5) (g4 : wK t4) (g5 : wK t5) : xar 1 3 (soS s0 ca sa R seen s4 s5) (soS s0 ca sa R seen' t4 t5) :=
  ⟨(xaX h0 g4 g5).1, rfl, rfl, fun b => ((xaX h0 g4 g5).2 b).trans ((xaX h0 h4 h5).2 b).symm⟩
noncomputable def soT (C : Ct) (ρ : ya) (acc : List D) (ks : List (List Int)) := vbd 1 3 5 (ve (qa (e2 ze (eV 4) (eC (.int 3))) (qa (e2 ze (eV 4) (eC (.int 4))) (za)))) (wu (tV (e2 zr (e2 ze (eV 4) (eC (.int 0))) (eC (.int 2)))) (tV (qaz true 2 (eV 5)))) (kaq 2 (eV 5)) (qa (eV 4) (za)) FN.ja9 (encD w6 C) ρ acc ks
def soK (out : List Sd) : List (List Int) := out.map fun x => kI (kO x.1)
theorem zcd (s0 s5 : DL.Slot) (h0 : wK s0) (h5 : wK s5) (ca sa R : Addr) (C : Ct) (seen : List Ky) (out : List Sd) (l : LF.wd) (hs : seen.length ≤ 60) (ho : out.length ≤ 1000000) (hk : ∀ x ∈ out, kO x.1 ∈ seen) :
    soT C (soS s0 ca sa R seen (.dat (qe l)) s5) (out.map vM) (soK out) = some (soS s0 ca sa R (if l.kind = 2 ∧ kO l ∉ seen then seen ++ [kO l] else seen) (.dat (qe l)) (.dat (kD (kO l))), (out ++ (if l.kind = 2 ∧ kO l ∉ seen then (kj C (kO l)).map fun c => (l, c) else none).toList).map vM, soK (out ++ (if l.kind = 2 ∧ kO l ∉ seen then (kj C (kO l)).map fun c => (l, c) else none).toList)) := by
  have hA : jW 5 (ve (qa (e2 ze (eV 4) (eC (.int 3))) (qa (e2 ze (eV 4) (eC (.int 4))) (za)))) (soS s0 ca sa R seen (.dat (qe l)) s5) = some (soS s0 ca sa R seen (.dat (qe l)) (.dat (kD (kO l)))) := kaR (d := kD (kO l)) (by rcases h5 with rfl | ⟨d, rfl⟩ <;> rfl) (wo (qb (ym (vb rfl) rfl rfl) (qb (ym (vb rfl) rfl rfl) yc)) rfl (by simp)) rfl
  have hin := ybB (i := 2) (fe := eV 5) (ρ := soS s0 ca sa R seen (.dat (qe l)) (.dat (kD (kO l)))) rfl (vb rfl) (xB (kO l))
  unfold soT vbd
  rw [hA, Option.bind_some, if_pos (qaO h0 (.inr ⟨_, rfl⟩) h5 (.inr ⟨_, rfl⟩) (.inr ⟨_, rfl⟩))]
  by_cases h2 : l.kind = 2
  · by_cases hm : kO l ∈ seen
    · rw [decide_eq_true (wbM.mpr hm)] at hin
      rw [if_neg fun z => z.2 hm, if_neg fun z => z.2 hm]
      rw [kl (xj (ym (vb rfl) rfl rfl) rfl (by omega)) hin]
      simp only [Bool.not_true, Option.toList_none, List.append_nil]
    · have hm2 : kI (kO l) ∉ seen.map kI := fun z => hm (wbM.mp z)
      rw [decide_eq_false hm2] at hin
      rw [if_pos ⟨h2, hm⟩, if_pos ⟨h2, hm⟩]
      rw [kl (xj (ym (vb rfl) rfl rfl) rfl (by omega)) hin]
      have hB : kaq 2 (eV 5) (soS s0 ca sa R seen (.dat (qe l)) (.dat (kD (kO l)))) = some (.nx (soS s0 ca sa R (seen ++ [kO l]) (.dat (qe l)) (.dat (kD (kO l))))) := qcd rfl (vb rfl) rfl (xB (kO l)) (by rw [List.length_map]; omega) (by rw [if_neg hm2]; unfold soS; rw [List.map_append]; rfl)
      simp only [Bool.not_false]
      rw [hB]
      dsimp only
      rw [if_pos (qaO h0 (.inr ⟨_, rfl⟩) (.inr ⟨_, rfl⟩) (.inr ⟨_, rfl⟩) (.inr ⟨_, rfl⟩))]
      rw [show (soS s0 ca sa R (seen ++ [kO l]) (.dat (qe l)) (.dat (kD (kO l))))[5]? = some (.dat (kD (kO l))) from rfl]
      dsimp only
      rw [xB]
      dsimp only
      rw [jD]
      cases hv : kj C (kO l) with
      | none => simp only [Option.map_none, Option.toList_none, List.append_nil]
      | some c =>
        have hnk : kI (kO l) ∉ soK out := fun z => by
          obtain ⟨x, hx, e⟩ := List.mem_map.mp z
          exact hm (by rw [← ybf e]; exact hk x hx)
        show (if kI (kO l) ∉ soK out ∧ vj ((out.map vM).length + 1) = true then _ else none) = _
        rw [if_pos ⟨hnk, decide_eq_true (by rw [List.length_map]; omega)⟩]
        show some (_, out.map vM ++ [vM (l, c)], soK out ++ [kI (kO l)]) = _
        unfold soK
        rw [List.map_append, List.map_append]
        rfl
  · rw [if_neg fun z => h2 z.1, if_neg fun z => h2 z.1]
    rw [qv (vo (ym (vb rfl) rfl rfl) rfl (by omega))]
    simp only [Option.toList_none, List.append_nil]
noncomputable def soL (C : Ct) (ds : List D) (ρ : ya) (acc : List D) (ks : List (List Int)) := xak 1 3 5 (gN 4) (ve (qa (e2 ze (eV 4) (eC (.int 3))) (qa (e2 ze (eV 4) (eC (.int 4))) (za)))) (wu (tV (e2 zr (e2 ze (eV 4) (eC (.int 0))) (eC (.int 2)))) (tV (qaz true 2 (eV 5)))) (kaq 2 (eV 5)) (qa (eV 4) (za)) FN.ja9 (encD w6 C) ds ρ acc ks
theorem qbw (s0 : DL.Slot) (h0 : wK s0) (ca sa R : Addr) (C : Ct) (ls : List LF.wd) (nd : (ls.map (·.number)).Nodup) (hl : ls.length ≤ 60) : ∀ (post pre : List LF.wd) (seen : List Ky) (out : List Sd) (s4 s5 : DL.Slot), wK s4 → wK s5 → ls = pre ++ post → (∀ k, k ∈ seen ↔ ∃ x ∈ pre, x.kind = 2 ∧ kO x = k) → seen.length ≤ pre.length → out.length ≤ pre.length → (∀ x ∈ out, kO x.1 ∈ seen) →
    soL C (post.map qe) (soS s0 ca sa R seen s4 s5) (out.map vM) (soK out) = some ((out ++ post.filterMap (yM ls C)).map vM)
  | [], pre, seen, out, s4, s5, _, _, _, _, _, _, _ => by rw [List.filterMap_nil, List.append_nil]; rfl
  | l :: post, pre, seen, out, s4, s5, m4, m5, e, hs, hn, ho, hx => by
    have hlen := congrArg List.length e
    rw [List.length_append, List.length_cons] at hlen
    have hg : yM ls C l = if l.kind = 2 ∧ kO l ∉ seen then (kj C (kO l)).map fun c => (l, c) else none := by
      unfold yM
      by_cases h2 : l.kind = 2
      · have hi := jbM (pre := pre) (post := post) h2 (by rw [← e]; exact nd)
        rw [← e] at hi
        have : (l.kind = 2 ∧ yaJ ls l = true) ↔ (l.kind = 2 ∧ kO l ∉ seen) := by
          rw [hi, hs]
          constructor
          · rintro ⟨a, b⟩
            exact ⟨a, fun ⟨x, hx, hc⟩ => b x hx hc⟩
          · rintro ⟨a, b⟩
            exact ⟨a, fun x hx hc => b ⟨x, hx, hc⟩⟩
        by_cases hc : l.kind = 2 ∧ kO l ∉ seen
        · rw [if_pos (this.mpr hc), if_pos hc]
        · rw [if_neg fun z => hc (this.mp z), if_neg hc]
      · rw [if_neg fun z => h2 z.1, if_neg fun z => h2 z.1]
    have q := zcd s0 s5 h0 m5 ca sa R C seen out l (by omega) (by omega) hx
    rw [← hg] at q
    have h := qbw s0 h0 ca sa R C ls nd hl post (pre ++ [l]) (if l.kind = 2 ∧ kO l ∉ seen then seen ++ [kO l] else seen) (out ++ (yM ls C l).toList) (.dat (qe l)) (.dat (kD (kO l))) (.inr ⟨_, rfl⟩) (.inr ⟨_, rfl⟩) (by rw [e, List.append_assoc]; rfl) (fun k => by
      constructor
      · intro hk
        split at hk
        · rename_i hc
          rcases List.mem_append.mp hk with hk | hk
          · obtain ⟨x, hx, z⟩ := (hs k).mp hk
            exact ⟨x, List.mem_append_left _ hx, z⟩
          · exact ⟨l, by simp, hc.1, (List.mem_singleton.mp hk).symm⟩
        · obtain ⟨x, hx, z⟩ := (hs k).mp hk
          exact ⟨x, List.mem_append_left _ hx, z⟩
      · rintro ⟨x, hx, z1, z2⟩
        rcases List.mem_append.mp hx with hx | hx
        · have := (hs k).mpr ⟨x, hx, z1, z2⟩
          split
          · exact List.mem_append_left _ this
          · exact this
        · rw [List.mem_singleton] at hx
          subst hx
          by_cases hc : kO x ∈ seen
          · rw [if_neg fun z => z.2 hc, ← z2]
            exact hc
          · rw [if_pos ⟨z1, hc⟩, ← z2]
            exact List.mem_append_right _ (List.mem_singleton.mpr rfl)) (by
      rw [List.length_append, List.length_singleton]
      split
      · rw [List.length_append, List.length_singleton]; omega
      · omega) (by
      rw [List.length_append, List.length_append, List.length_singleton]
      have : (yM ls C l).toList.length ≤ 1 := by cases yM ls C l <;> simp
      omega) (fun x hx' => by
      rcases List.mem_append.mp hx' with hx' | hx'
      · split
        · exact List.mem_append_left _ (hx x hx')
        · exact hx x hx'
      · rw [hg] at hx'
        split at hx'
        · rename_i hc
          rw [if_pos hc]
          cases hv : kj C (kO l) with
          | none => rw [hv] at hx'; cases hx'
          | some c =>
            rw [hv] at hx'
            have : x = (l, c) := by simpa using hx'
            rw [this]
            exact List.mem_append_right _ (List.mem_singleton.mpr rfl)
        · cases hx')
    rw [List.map_cons]
    unfold soL xak
    rw [show gN 4 (qe l) (soS s0 ca sa R seen s4 s5) = some (soS s0 ca sa R seen (.dat (qe l)) s5) from rfl, Option.bind_some, if_pos (qaO h0 m4 m5 (.inr ⟨_, rfl⟩) m5)]
    unfold soT at q
    rw [q, Option.bind_some]
    refine h.trans ?_
    rw [List.append_assoc]
    congr 3
    rw [List.filterMap_cons]
    cases yM ls C l <;> rfl
theorem jcd (ls : List LF.wd) (hok : ∀ l ∈ ls, l.Ok) : ∀ x ∈ yp ls, x.2.Ok := by
  intro x hx
  have : ∀ (ls : List LF.wd) (acc : List (Ky × LF.wd)), (∀ l ∈ ls, l.Ok) → (∀ x ∈ acc, x.2.Ok) → ∀ x ∈ ls.foldl wD acc, x.2.Ok := by
    intro ls
    induction ls with
    | nil => intro acc _ h; exact h
    | cons l ls ih =>
      intro acc h1 h2
      refine ih _ (fun x hx => h1 x (List.mem_cons_of_mem _ hx)) fun x hx => ?_
      unfold wD at hx
      split at hx
      · rcases List.mem_append.mp hx with hx | hx
        · exact h2 x hx
        · rw [List.mem_singleton] at hx
          subst hx
          exact h1 l List.mem_cons_self
      · exact h2 x hx
  exact this ls [] hok (fun x hx => nomatch hx) x hx
theorem vcm {i is j iz n : Nat} {F2 : wm → Option wm} {F1 : TDc} {g0 : FA} {f0 : FE} {it : FI} {g : FG} {fA : FE} {t3 : FT} {fB : FS} {ga : FA} {F : TY} {ρ : ya} {vs : List Val} {as : List D} {ps0 ps : wm} {es : List D} (hc : (i < ρ.length ∧ is < ρ.length ∧ j < ρ.length ∧ i ≠ is ∧ i ≠ j ∧ is ≠ j) ∧ ∀ (n : Nat) s, ρ[n]? = some s → ¬ s.yz) (eg : g0 ρ = some (.ok vs)) (hs : km vs = some as) (hn : as.length = n) (h1 : F1 as = some ps0) (h2 : F2 ps0 = some ps)
    (h : ∀ c s R, f0 (kz i is ρ c s) = some (.ok (.f [])) ∧ ∃ ds, it ((kz i is ρ c s).set j (.pin R)) = some (.ok ds) ∧ xak i j iz g fA t3 fB ga F ps ds ((kz i is ρ c s).set j (.pin R)) [] [] = some es) : ybd i is j iz n F2 F1 g0 f0 it g fA t3 fB ga F ρ = some es := by
  have hh : ∃ es, ∀ c s R, f0 (kz i is ρ c s) = some (.ok (.f [])) ∧ ∃ ds, it ((kz i is ρ c s).set j (.pin R)) = some (.ok ds) ∧ xak i j iz g fA t3 fB ga F ps ds ((kz i is ρ c s).set j (.pin R)) [] [] = some es := ⟨es, h⟩
  unfold ybd
  rw [if_pos hc, eg]
  dsimp only
  rw [hs]
  dsimp only
  rw [if_pos hn, h1]
  dsimp only
  rw [h2]
  dsimp only
  rw [dif_pos hh]
  obtain ⟨_, ds, e2, e3⟩ := hh.choose_spec 0 0 0
  obtain ⟨_, ds', f2, f3⟩ := h 0 0 0
  rw [f2] at e2
  cases e2
  rw [f3] at e3
  exact e3.symm
theorem xbg (ls : List LF.wd) (hok : ∀ l ∈ ls, l.Ok) (nd : (ls.map (·.number)).Nodup) (hl : ls.length ≤ 60) : xaJ [.list (ls.map qe)] = some ((waG ls).map vM) := by
  have e : qaj [.dat (.list (ls.map qe)), .un, .un, .un, .un, .un] = some ((waG ls).map vM) := by
    unfold qaj
    refine vcm ⟨by simp, fun n s e o => ?_⟩ (qb (vb rfl) yc) rfl rfl (xaR ls (by omega)) (kaX (yp ls) (jcd ls hok) (kaN ls [] .nil) (by have := jbg ls; omega)) fun c s R => ⟨jO yc rfl (by simp), _, kaF (vb rfl) (.inl rfl), ?_⟩
    · match n, e with
      | 0, e => cases e; exact o.elim
      | 1, e => cases e; exact o.elim
      | 2, e => cases e; exact o.elim
      | 3, e => cases e; exact o.elim
      | 4, e => cases e; exact o.elim
      | 5, e => cases e; exact o.elim
      | n + 6, e => cases e
    · have := qbw (.dat (.list (ls.map qe))) (.inr ⟨_, rfl⟩) c s R (kah (yp ls)) ls nd hl ls [] [] [] .un .un (.inl rfl) (.inl rfl) rfl (fun k => ⟨fun h => (nomatch h), fun ⟨x, hx, _⟩ => (nomatch hx)⟩) (Nat.le_refl _) (Nat.le_refl _) (fun x hx => nomatch hx)
      rw [List.nil_append] at this
      exact this
  exact e
theorem wcd (ρ : ya) (j : Int) : jae (mxL [(1, false), (2, false), (3, false), (17, false), (18, true)]) (zd (eC .none)) zaM 18 j ρ = some (.ret .none) := by
  show zd (eC .none) ρ = _
  exact wac rfl
theorem xal (b : Option (List Nat)) (u : List Nat) (ha : ∀ a, b = some a → a.length ≤ 90000) (hu : u.length ≤ 90000) : ∃ v, yi [.list (jd u), yg b] = some v ∧ (∀ (A : FA) (ρ : ya) (vs : List Val), A ρ = some (.ok vs) → km vs = some [.list (jd u), yg b] → vs.length = 2 → ∃ w, jb FN.yi 2 A ρ = some (.ok w) ∧ w.st = some (yg (vV b u))) := by
  have q := xag b u ha hu
  cases e : vV b u with
  | none =>
    rw [e] at q
    have h : yi [.list (jd u), yg b] = some (.ret .none) := by
      unfold yi jU
      exact vU (jbK (ρ1 := [.dat (.list (jd u)), .dat (yg b)]) (wbK (zX (qb (vb rfl) (qb (vb rfl) yc)) rfl rfl q)) (wcd _ _))
    exact ⟨_, h, fun A ρ vs h1 h2 h3 => ⟨_, qal h1 h2 h3 h, rfl⟩⟩
  | some c =>
    rw [e] at q
    have h : yi [.list (jd u), yg b] = some (.retF (jd c)) := by
      unfold yi jU
      refine qS ?_
      have z : zd (jb FN.zk 2 (qa (eV 0) (qa (eV 1) (za)))) [.dat (.list (jd u)), .dat (yg b)] = some (.retF (jd c)) := yaF (qX (qb (vb rfl) (qb (vb rfl) yc)) rfl rfl q)
      unfold yas
      show (match zd (jb FN.zk 2 (qa (eV 0) (qa (eV 1) (za)))) [.dat (.list (jd u)), .dat (yg b)] with
        | some (.exc ρ1 c i) => _
        | o => o) = _
      rw [z]
    exact ⟨_, h, fun A ρ vs h1 h2 h3 => ⟨_, qX h1 h2 h3 h, rfl⟩⟩
abbrev Lc := List (Ky × Option (List Nat))
def zi (lc : Lc) : Ct := lc.filterMap fun x => x.2.map fun c => (x.1, c)
theorem kbg {α : Type} (x : Ky × α) (xs : List (Ky × α)) (k : Ky) : kj (x :: xs) k = if x.1 = k then some x.2 else kj xs k := by
  unfold kj
  rw [List.find?_cons]
  by_cases h : x.1 = k
  · rw [decide_eq_true h, if_pos h]; rfl
  · rw [decide_eq_false h, if_neg h]
theorem xbB (lc : Lc) {k : Ky} (h : k ∈ (zi lc).map (·.1)) : k ∈ lc.map (·.1) := by
  obtain ⟨y, hy, rfl⟩ := List.mem_map.mp h
  obtain ⟨x, hx, e⟩ := List.mem_filterMap.mp hy
  obtain ⟨c, _, e2⟩ := Option.map_eq_some_iff.mp e
  rw [← e2]
  exact List.mem_map_of_mem hx
theorem zaO (k : Ky) : ∀ lc : Lc, (lc.map (·.1)).Nodup → kj (zi lc) k = (kj lc k).bind id
  | [], _ => rfl
  | x :: lc, nd => by
    rw [List.map_cons, List.nodup_cons] at nd
    have ih := zaO k lc nd.2
    rw [kbg]
    unfold zi at ih ⊢
    rw [List.filterMap_cons]
    obtain ⟨j, o⟩ := x
    cases o with
    | none =>
      dsimp only [Option.map]
      by_cases h : j = k
      · rw [if_pos h]
        exact wG.mpr fun z => nd.1 (h ▸ xbB lc z)
      · rw [if_neg h]
        exact ih
    | some c =>
      dsimp only [Option.map]
      rw [kbg]
      by_cases h : j = k
      · rw [if_pos h, if_pos h]; rfl
      · rw [if_neg h, if_neg h]
        exact ih
theorem kbB (lc : Lc) (nd : (lc.map (·.1)).Nodup) (k : Ky) : zE (zi lc) k = (zE lc k).bind id := by
  unfold zE
  split
  · rfl
  · exact zaO _ lc nd
noncomputable def lcS (F : List (Ky × LF.wd)) (lc : Lc) (k : Ky) : Lc := match kj F k with
  | none => lc
  | some l => lc ++ [(k, zD (zi lc) k l)]
theorem qaS (F : List (Ky × LF.wd)) (lc : Lc) (k : Ky) : zi (lcS F lc k) = ctS F (zi lc) k := by
  unfold lcS ctS
  cases kj F k with
  | none => rfl
  | some l =>
    dsimp only
    have e : zi (lc ++ [(k, zD (zi lc) k l)]) = zi lc ++ zi [(k, zD (zi lc) k l)] := by
      unfold zi
      rw [List.filterMap_append]
    rw [e]
    cases zD (zi lc) k l with
    | none => exact List.append_nil _
    | some c => rfl
theorem zaS (F : List (Ky × LF.wd)) : ∀ (ks : List Ky) (lc : Lc), zi (ks.foldl (lcS F) lc) = ks.foldl (ctS F) (zi lc)
  | [], _ => rfl
  | k :: ks, lc => by rw [List.foldl_cons, List.foldl_cons, zaS F ks, qaS]
abbrev R9 (s0 s1 s2 s3 s4 s5 s6 s7 s8 : DL.Slot) : ya := [s0, s1, s2, s3, s4, s5, s6, s7, s8]
noncomputable def qbV : FS := qg (wu (tV (e2 zr (e2 ze (eV 2) (eC (.int 0))) (eC (.int 2)))) (tV (wY true 1 (ve (qa (e2 ze (eV 2) (eC (.int 3))) (qa (e2 ze (eV 2) (eC (.int 4))) (za))))))) (wI 1 (ve (qa (e2 ze (eV 2) (eC (.int 3))) (qa (e2 ze (eV 2) (eC (.int 4))) (za)))) (eV 2)) (zh)
theorem zbV (s0 : DL.Slot) (a : Addr) (acc : List (Ky × LF.wd)) (l : LF.wd) (hl : acc.length ≤ 1000000) : qbV (R9 s0 (.wc a (.dic (encD qe acc))) (.dat (qe l)) .un .un .un .un .un .un) = some (.nx (R9 s0 (.wc a (.dic (encD qe (wD acc l)))) (.dat (qe l)) .un .un .un .un .un .un)) := by
  unfold qbV wD
  have hk : ve (qa (e2 ze (eV 2) (eC (.int 3))) (qa (e2 ze (eV 2) (eC (.int 4))) (za))) (R9 s0 (.wc a (.dic (encD qe acc))) (.dat (qe l)) .un .un .un .un .un .un) = some (.ok (.s (kD (kO l)))) := wo (qb (ym (vb rfl) rfl rfl) (qb (ym (vb rfl) rfl rfl) yc)) rfl (by simp)
  have hin := ybv (neg := true) (i := 1) (a := a) (ps := encD qe acc) rfl hk (xB (kO l))
  rw [jD] at hin
  by_cases h2 : l.kind = 2
  · cases hv : kj acc (kO l) with
    | none =>
      rw [hv] at hin
      rw [if_pos ⟨h2, rfl⟩]
      refine jo (kl (xj (ym (vb rfl) rfl rfl) rfl (by omega)) (zG hin rfl)) ?_
      exact yaN (k := kI (kO l)) (d := qe l) rfl (vb rfl) rfl hk rfl (xB _) (by unfold encD; rw [List.length_map]; omega) (by rw [xaz qe hv]; rfl)
    | some x =>
      rw [hv] at hin
      rw [if_neg (by rintro ⟨_, z⟩; cases z)]
      exact xl (kl (xj (ym (vb rfl) rfl rfl) rfl (by omega)) (zG hin rfl)) rfl
  · rw [if_neg fun z => h2 z.1]
    exact xl (qv (vo (ym (vb rfl) rfl rfl) rfl (by omega))) rfl
theorem qbh (s0 : DL.Slot) (a : Addr) : ∀ (ls : List LF.wd) (acc : List (Ky × LF.wd)) (s2 : DL.Slot), acc.length + ls.length ≤ 1000000 → ∃ t2 : DL.Slot, forL (gN 2) qbV (ls.map qe) (R9 s0 (.wc a (.dic (encD qe acc))) s2 .un .un .un .un .un .un) = some (.nx (R9 s0 (.wc a (.dic (encD qe (ls.foldl wD acc)))) t2 .un .un .un .un .un .un))
  | [], acc, s2, _ => ⟨s2, rfl⟩
  | l :: ls, acc, s2, h => by
    rw [List.length_cons] at h
    have := xaN acc l
    obtain ⟨t2, e⟩ := qbh s0 a ls (wD acc l) (.dat (qe l)) (by omega)
    exact ⟨t2, waJ rfl (zbV s0 a acc l (by omega)) e⟩
noncomputable def jbV : FS := ka (je 2 (kq 1 (ve (qa (eV 4) (qa (eV 5) (za)))))) (ka (je 6 (eC .none)) (ka (qg (tV (e2 zr (e2 ze (eV 2) (eC (.int 7))) (eC (.int 1)))) (je 6 (jb FN.yi 2 (qa (eG ky (qa (e2 ze (eV 2) (eC (.int 8))) (za))) (qa (eC .none) (za))))) (qg (tV (e2 jH (qL 3 (ve (qa (eV 4) (qa (e2 gSub (eV 5) (eC (.int 1))) (za))))) (eC .none))) (je 6 (jb FN.yi 2 (qa (eG ky (qa (e2 ze (eV 2) (eC (.int 8))) (za))) (qa (kq 3 (ve (qa (eV 4) (qa (e2 gSub (eV 5) (eC (.int 1))) (za))))) (za))))) (zh))) (wI 3 (ve (qa (eV 4) (qa (eV 5) (za)))) (eV 6))))
def duS (s0 : DL.Slot) (a1 a3 : Addr) (F : List (Ky × LF.wd)) (lc : Lc) (s2 : DL.Slot) (k : Ky) (s6 : DL.Slot) : ya := R9 s0 (.wc a1 (.dic (encD qe F))) s2 (.wc a3 (.dic (encD yg lc))) (.dat (.int (k.1 : Nat))) (.dat (.int (k.2 : Nat))) s6 .un .un
theorem wbV (s0 : DL.Slot) (a1 a3 : Addr) (F : List (Ky × LF.wd)) (lc : Lc) (k : Ky) (l : LF.wd) (hF : kj F k = some l) (hl : l.Ok) (hk : kj lc k = none) (nd : (lc.map (·.1)).Nodup) (hc : yae (zi lc)) (hn : lc.length ≤ 1000000) (s2 s6 : DL.Slot) :
    jbV (duS s0 a1 a3 F lc s2 k s6) = some (.nx (duS s0 a1 a3 F (lcS F lc k) (.dat (qe l)) k (.dat (yg (zD (zi lc) k l))))) := by
  have hkey : ∀ u2 u6 : DL.Slot, ve (qa (eV 4) (qa (eV 5) (za))) (duS s0 a1 a3 F lc u2 k u6) = some (.ok (.s (kD k))) := fun u2 u6 => wo (qb (vb rfl) (qb (vb rfl) yc)) rfl (by simp)
  have hprev : ∀ u2 u6 : DL.Slot, ve (qa (eV 4) (qa (e2 gSub (eV 5) (eC (.int 1))) (za))) (duS s0 a1 a3 F lc u2 k u6) = some (.ok (.s (.tuple [.int (k.1 : Nat), .int ((k.2 : Nat) - 1)]))) := fun u2 u6 => wo (qb (vb rfl) (qb (jA (vb rfl) rfl) yc)) rfl (by simp)
  have h2 : je 2 (kq 1 (ve (qa (eV 4) (qa (eV 5) (za))))) (duS s0 a1 a3 F lc s2 k s6) = some (.nx (duS s0 a1 a3 F lc (.dat (qe l)) k s6)) := zO (yal rfl (hkey _ _) (xB k) (by rw [jD, hF]; rfl)) rfl rfl
  have h6 : je 6 (eC .none) (duS s0 a1 a3 F lc (.dat (qe l)) k s6) = some (.nx (duS s0 a1 a3 F lc (.dat (qe l)) k (.dat .none))) := zO (v := .s .none) rfl rfl rfl
  have hkk : ∀ u6 : DL.Slot, e2 ze (eV 2) (eC (.int 7)) (duS s0 a1 a3 F lc (.dat (qe l)) k u6) = some (.ok (.s (.int (l.key : Nat)))) := fun u6 => ym (vb rfl) rfl rfl
  have hle := hl.key
  have hbl : l.body.length ≤ 90000 := by have := hl.size; omega
  have hbody : ∀ u6 : DL.Slot, eG ky (qa (e2 ze (eV 2) (eC (.int 8))) (za)) (duS s0 a1 a3 F lc (.dat (qe l)) k u6) = some (.ok (.f (jd l.body))) := fun u6 => qw (v := .s (.list (jd l.body))) (ym (d := .list (jd l.body)) (vb rfl) rfl rfl) rfl
  have hput : ∀ o : Option (List Nat), wI 3 (ve (qa (eV 4) (qa (eV 5) (za)))) (eV 6) (duS s0 a1 a3 F lc (.dat (qe l)) k (.dat (yg o))) = some (.nx (duS s0 a1 a3 F (lc ++ [(k, o)]) (.dat (qe l)) k (.dat (yg o)))) := fun o => yaN (k := kI k) (d := yg o) rfl (vb rfl) (by cases o <;> rfl) (hkey _ _) rfl (xB k) (by unfold encD; rw [List.length_map]; omega) (by rw [xaz yg hk]; rfl)
  have eS : lcS F lc k = lc ++ [(k, zD (zi lc) k l)] := by
    unfold lcS
    rw [hF]
  rw [eS]
  have hg := va3 (i := 3) (a := a3) (ps := encD yg lc) (k := [(k.1 : Int), (k.2 : Int) - 1]) rfl (hprev (.dat (qe l)) (.dat .none)) rfl
  rw [jaG] at hg
  have hpr := kbB lc nd k
  unfold jbV
  refine jh h2 (jh h6 (jh (ρ1 := duS s0 a1 a3 F lc (.dat (qe l)) k (.dat (yg (zD (zi lc) k l)))) ?_ (hput _)))
  by_cases h1 : l.key = 1
  · obtain ⟨_, _, hc2⟩ := xal none l.body (fun x e => nomatch e) hbl
    obtain ⟨w, e1, e2⟩ := hc2 (qa (eG ky (qa (e2 ze (eV 2) (eC (.int 8))) (za))) (qa (eC .none) (za))) (duS s0 a1 a3 F lc (.dat (qe l)) k (.dat .none)) _ (qb (hbody _) (qb rfl yc)) rfl rfl
    have en : zD (zi lc) k l = vV none l.body := by unfold zD; rw [if_pos h1]
    rw [en]
    exact jo (xj (hkk _) rfl (by omega)) (zO e1 e2 rfl)
  · refine xl (vo (hkk _) rfl (by omega)) ?_
    cases hp : (zE lc k).bind id with
    | none =>
      have en : zD (zi lc) k l = none := by unfold zD; rw [if_neg h1, hpr, hp]; rfl
      rw [en]
      have hv : (((zE lc k).map yg).getD PyData.none) = PyData.none := by
        cases z : zE lc k with
        | none => rfl
        | some o =>
          rw [z] at hp
          cases o with
          | none => rfl
          | some c => cases hp
      exact xl (vZ (x := true) hg (by show isNone (((zE lc k).map yg).getD PyData.none) = true; rw [hv]; rfl)) rfl
    | some b =>
      have z : zE lc k = some (some b) := by
        cases z : zE lc k with
        | none => rw [z] at hp; cases hp
        | some o => rw [z] at hp; exact congrArg some hp
      have en : zD (zi lc) k l = vV (some b) l.body := by unfold zD; rw [if_neg h1, hpr, hp]; rfl
      rw [en]
      obtain ⟨_, _, hc2⟩ := xal (some b) l.body (fun x e => by
        cases e
        have := hc.prev (hpr.trans hp)
        omega) hbl
      have hget := yal (i := 3) (a := a3) (ps := encD yg lc) (k := [(k.1 : Int), (k.2 : Int) - 1]) (d := .list (jd b)) rfl (hprev (.dat (qe l)) (.dat .none)) rfl (by rw [jaG, z]; rfl)
      obtain ⟨w, e1, e2⟩ := hc2 (qa (eG ky (qa (e2 ze (eV 2) (eC (.int 8))) (za))) (qa (kq 3 (ve (qa (eV 4) (qa (e2 gSub (eV 5) (eC (.int 1))) (za))))) (za))) (duS s0 a1 a3 F lc (.dat (qe l)) k (.dat .none)) _ (qb (hbody _) (qb hget yc)) rfl rfl
      rw [z] at hg
      exact jo (vZ (x := false) hg rfl) (zO e1 e2 rfl)
theorem zbh (s0 : DL.Slot) (a1 a3 : Addr) (F : List (Ky × LF.wd)) (hok : ∀ x ∈ F, x.2.Ok) : ∀ (ks : List Ky) (lc : Lc) (s2 s4 s5 s6 : DL.Slot), ks.Nodup → (∀ k ∈ ks, ∃ l, kj F k = some l) → (∀ k ∈ ks, kj lc k = none) → (lc.map (·.1)).Nodup → yae (zi lc) → lc.length + ks.length ≤ 1000000 →
    ∃ t2 t4 t5 t6 : DL.Slot, forL (gT 2 (xb 4 (xb 5 (ki)))) jbV (ks.map kD) (R9 s0 (.wc a1 (.dic (encD qe F))) s2 (.wc a3 (.dic (encD yg lc))) s4 s5 s6 .un .un) = some (.nx (R9 s0 (.wc a1 (.dic (encD qe F))) t2 (.wc a3 (.dic (encD yg (ks.foldl (lcS F) lc)))) t4 t5 t6 .un .un)) ∧ ((ks.foldl (lcS F) lc).map (·.1)).Nodup ∧ ∀ k, k ∈ (ks.foldl (lcS F) lc).map (·.1) ↔ k ∈ lc.map (·.1) ∨ k ∈ ks
  | [], lc, s2, s4, s5, s6, _, _, _, nl, _, _ => ⟨s2, s4, s5, s6, rfl, nl, fun k => by simp⟩
  | k :: ks, lc, s2, s4, s5, s6, nd, hF, hk, nl, hc, hn => by
    rw [List.length_cons] at hn
    rw [List.nodup_cons] at nd
    obtain ⟨l, hl⟩ := hF k List.mem_cons_self
    have h := wbV s0 a1 a3 F lc k l hl (hok _ (qax hl)) (hk k List.mem_cons_self) nl hc (by omega) s2 s6
    have eS : lcS F lc k = lc ++ [(k, zD (zi lc) k l)] := by
      unfold lcS
      rw [hl]
    have hkn : k ∉ lc.map (·.1) := wG.mp (hk k List.mem_cons_self)
    have hc' : yae (zi (lcS F lc k)) := by
      rw [qaS]
      exact (vbg hc k).1
    have nl' : ((lcS F lc k).map (·.1)).Nodup := by
      rw [eS, List.map_append, List.nodup_append]
      refine ⟨nl, List.pairwise_singleton _ _, fun x hx y hy => ?_⟩
      rw [List.map_singleton, List.mem_singleton] at hy
      subst hy
      intro z
      rw [z] at hx
      exact hkn hx
    obtain ⟨t2, t4, t5, t6, e, n2, m2⟩ := zbh s0 a1 a3 F hok ks (lcS F lc k) (.dat (qe l)) (.dat (.int (k.1 : Nat))) (.dat (.int (k.2 : Nat))) (.dat (yg (zD (zi lc) k l))) nd.2 (fun j hj => hF j (List.mem_cons_of_mem _ hj)) (fun j hj => by
      refine wG.mpr fun z => ?_
      rw [eS, List.map_append, List.mem_append] at z
      rcases z with z | z
      · exact wG.mp (hk j (List.mem_cons_of_mem _ hj)) z
      · rw [List.map_singleton, List.mem_singleton] at z
        have z2 : j = k := z
        exact nd.1 (z2 ▸ hj)) nl' hc' (by rw [eS, List.length_append, List.length_singleton]; omega)
    refine ⟨t2, t4, t5, t6, waJ rfl h e, n2, fun j => ?_⟩
    rw [List.foldl_cons, m2 j, eS, List.map_append, List.mem_append, List.map_singleton, List.mem_singleton, List.mem_cons, or_assoc]
noncomputable def vbV : FS := ka (je 8 (ve (qa (e2 ze (eV 2) (eC (.int 3))) (qa (e2 ze (eV 2) (eC (.int 4))) (za))))) (qg (wu (tV (e2 zr (e2 ze (eV 2) (eC (.int 0))) (eC (.int 2)))) (wu (tV (e2 zr (e2 ze (kq 1 (eV 8)) (eC (.int 2))) (e2 ze (eV 2) (eC (.int 2))))) (tV (e2 jH (kq 3 (eV 8)) (eC .none))))) (zy 7 (ve (qa (eV 2) (qa (kq 3 (eV 8)) (za))))) (zh))
def d3S (s0 : DL.Slot) (a1 a3 : Addr) (F : List (Ky × LF.wd)) (lc : Lc) (l : LF.wd) (s4 s5 s6 : DL.Slot) (out : List Sd) (s8 : DL.Slot) : ya := R9 s0 (.wc a1 (.dic (encD qe F))) (.dat (qe l)) (.wc a3 (.dic (encD yg lc))) s4 s5 s6 (.own (out.map vM)) s8
theorem ybV (s0 s4 s5 s6 s8 : DL.Slot) (a1 a3 : Addr) (ls : List LF.wd) (lc : Lc) (l : LF.wd) (hl : l ∈ ls) (nd : (lc.map (·.1)).Nodup) (hm : ∀ k, k ∈ (yp ls).map (·.1) → k ∈ lc.map (·.1)) (out : List Sd) (ho : out.length ≤ 1000000) :
    vbV (d3S s0 a1 a3 (yp ls) lc l s4 s5 s6 out s8) = some (.nx (d3S s0 a1 a3 (yp ls) lc l s4 s5 s6 (out ++ (yM ls (zi lc) l).toList) (.dat (kD (kO l))))) := by
  unfold vbV
  refine jh (ρ1 := d3S s0 a1 a3 (yp ls) lc l s4 s5 s6 out (.dat (kD (kO l)))) (zO (d := kD (kO l)) (wo (qb (ym (vb rfl) rfl rfl) (qb (ym (vb rfl) rfl rfl) yc)) rfl (by simp)) rfl rfl) ?_
  have skip : yM ls (zi lc) l = none → some (Out.nx (d3S s0 a1 a3 (yp ls) lc l s4 s5 s6 out (.dat (kD (kO l))))) = some (Out.nx (d3S s0 a1 a3 (yp ls) lc l s4 s5 s6 (out ++ (yM ls (zi lc) l).toList) (.dat (kD (kO l))))) := fun e => by
    rw [e]
    show _ = some (Out.nx (d3S s0 a1 a3 (yp ls) lc l s4 s5 s6 (out ++ []) (.dat (kD (kO l)))))
    rw [List.append_nil]
  by_cases h2 : l.kind = 2
  · cases hf : kj (yp ls) (kO l) with
    | none =>
      rw [zbg] at hf
      exact absurd (decide_eq_true (show l.kind = 2 ∧ kO l = kO l from ⟨h2, rfl⟩)) (List.find?_eq_none.mp hf l hl)
    | some l0 =>
      have hget := yal (i := 1) (a := a1) (ps := encD qe (yp ls)) (fe := eV 8) (ρ := d3S s0 a1 a3 (yp ls) lc l s4 s5 s6 out (.dat (kD (kO l)))) (k := kI (kO l)) (d := qe l0) rfl (vb rfl) (xB _) (by rw [jD, hf]; rfl)
      have hisf : yaJ ls l = decide (l0.number = l.number) := by
        unfold yaJ
        rw [hf]
        exact decide_eq_decide.mpr ⟨fun z => Option.some.inj z, fun z => congrArg some z⟩
      by_cases hn : l0.number = l.number
      · cases hc : kj lc (kO l) with
        | none => exact absurd (hm _ (by
            have := qax hf
            exact List.mem_map_of_mem this)) (wG.mp hc)
        | some o =>
          have hgc := yal (i := 3) (a := a3) (ps := encD yg lc) (fe := eV 8) (ρ := d3S s0 a1 a3 (yp ls) lc l s4 s5 s6 out (.dat (kD (kO l)))) (k := kI (kO l)) (d := yg o) rfl (vb rfl) (xB _) (by rw [jD, hc]; rfl)
          have hsm := zaO (kO l) lc nd
          rw [hc] at hsm
          have hsm : kj (zi lc) (kO l) = o := hsm
          have hg : yM ls (zi lc) l = o.map fun c => (l, c) := by
            unfold yM
            rw [if_pos ⟨h2, by rw [hisf]; exact decide_eq_true hn⟩, hsm]
          cases o with
          | none => exact (xl (kl (xj (ym (vb rfl) rfl rfl) rfl (by omega)) (kl (xj (ym hget rfl rfl) (ym (vb rfl) rfl rfl) (by omega)) (vZ (x := true) hgc rfl))) rfl).trans (skip hg)
          | some c =>
            rw [hg]
            refine jo (kl (xj (ym (vb rfl) rfl rfl) rfl (by omega)) (kl (xj (ym hget rfl rfl) (ym (vb rfl) rfl rfl) (by omega)) (vZ (x := false) hgc rfl))) (zb2 (es := out.map vM) (d := vM (l, c)) rfl (wo (qb (vb rfl) (qb hgc yc)) rfl (by simp)) rfl (by rw [List.length_map]; omega) ?_)
            have em : out.map vM ++ [vM (l, c)] = (out ++ [(l, c)]).map vM := by rw [List.map_append]; rfl
            rw [em]
            rfl
      · refine (xl (kl (xj (ym (vb rfl) rfl rfl) rfl (by omega)) (qv (vo (ym hget rfl rfl) (ym (vb rfl) rfl rfl) (by omega)))) rfl).trans (skip ?_)
        unfold yM
        rw [if_neg]
        rintro ⟨_, z⟩
        rw [hisf] at z
        exact hn (of_decide_eq_true z)
  · refine (xl (qv (vo (ym (vb rfl) rfl rfl) rfl (by omega))) rfl).trans (skip ?_)
    unfold yM
    rw [if_neg fun z => h2 z.1]
theorem jbh (s0 s4 s5 s6 : DL.Slot) (a1 a3 : Addr) (ls : List LF.wd) (lc : Lc) (nd : (lc.map (·.1)).Nodup) (hm : ∀ k, k ∈ (yp ls).map (·.1) → k ∈ lc.map (·.1)) : ∀ (post : List LF.wd) (out : List Sd) (s2 s8 : DL.Slot), (∀ l ∈ post, l ∈ ls) → out.length + post.length ≤ 1000000 →
    ∃ t2 t8 : DL.Slot, forL (gN 2) vbV (post.map qe) (R9 s0 (.wc a1 (.dic (encD qe (yp ls)))) s2 (.wc a3 (.dic (encD yg lc))) s4 s5 s6 (.own (out.map vM)) s8) = some (.nx (R9 s0 (.wc a1 (.dic (encD qe (yp ls)))) t2 (.wc a3 (.dic (encD yg lc))) s4 s5 s6 (.own ((out ++ post.filterMap (yM ls (zi lc))).map vM)) t8))
  | [], out, s2, s8, _, _ => ⟨s2, s8, by rw [List.filterMap_nil, List.append_nil]; rfl⟩
  | l :: post, out, s2, s8, h, hn => by
    rw [List.length_cons] at hn
    have q := ybV s0 s4 s5 s6 s8 a1 a3 ls lc l (h l List.mem_cons_self) nd hm out (by omega)
    have hlen : (yM ls (zi lc) l).toList.length ≤ 1 := by cases yM ls (zi lc) l <;> simp
    obtain ⟨t2, t8, e⟩ := jbh s0 s4 s5 s6 a1 a3 ls lc nd hm post (out ++ (yM ls (zi lc) l).toList) (.dat (qe l)) (.dat (kD (kO l))) (fun x hx => h x (List.mem_cons_of_mem _ hx)) (by rw [List.length_append]; omega)
    refine ⟨t2, t8, waJ rfl q ?_⟩
    refine e.trans ?_
    have em : out ++ (yM ls (zi lc) l).toList ++ post.filterMap (yM ls (zi lc)) = out ++ (l :: post).filterMap (yM ls (zi lc)) := by
      rw [List.append_assoc, List.filterMap_cons]
      cases yM ls (zi lc) l <;> rfl
    rw [em]
theorem ycm {ls : List LF.wd} (hok : ∀ l ∈ ls, l.Ok) : ∀ x ∈ yp ls, x.2.Ok := by
  have : ∀ (ls : List LF.wd) (acc : List (Ky × LF.wd)), (∀ l ∈ ls, l.Ok) → (∀ x ∈ acc, x.2.Ok) → ∀ x ∈ ls.foldl wD acc, x.2.Ok := by
    intro ls
    induction ls with
    | nil => intro acc _ h; exact h
    | cons l ls ih =>
      intro acc h1 h2
      refine ih _ (fun x hx => h1 x (List.mem_cons_of_mem _ hx)) fun x hx => ?_
      unfold wD at hx
      split at hx
      · rcases List.mem_append.mp hx with hx | hx
        · exact h2 x hx
        · rw [List.mem_singleton] at hx
          subst hx
          exact h1 l List.mem_cons_self
      · exact h2 x hx
  exact this ls [] hok (fun x hx => nomatch hx)
theorem wbh (ls : List LF.wd) (hok : ∀ l ∈ ls, l.Ok) (hl : ls.length ≤ 60) : yV [.list (ls.map qe)] = some (.retF ((waG ls).map vM)) := by
  unfold yV jaC
  refine qS (ka3 fun a1 => ?_)
  obtain ⟨t2, e1⟩ := qbh (.dat (.list (ls.map qe))) a1 ls [] .un (by simp; omega)
  refine jh (vah (kaF (vb rfl) (.inl rfl)) e1) (ka3 fun a3 => ?_)
  have fl := jbg ls
  have fnd : ((yp ls).map (·.1)).Nodup := kaN ls [] .nil
  have pm := xa3 ((yp ls).map (·.1))
  obtain ⟨u2, u4, u5, u6, e2, n2, m2⟩ := zbh (.dat (.list (ls.map qe))) a1 a3 (yp ls) (ycm hok) (vat ((yp ls).map (·.1))) [] t2 .un .un .un (pm.nodup_iff.mpr fnd) (fun k hk => by
    have := pm.mem_iff.mp hk
    cases q : kj (yp ls) k with
    | none => exact absurd this (wG.mp q)
    | some l => exact ⟨l, rfl⟩) (fun k _ => rfl) .nil (fun x hx => nomatch hx) (by rw [pm.length_eq, List.length_map]; simp; omega)
  refine jh (vah (qbK (kbf (f := qe) (xs := yp ls) rfl (by omega))) e2) ?_
  have esm := zaS (yp ls) (vat ((yp ls).map (·.1))) []
  generalize hlc : (vat ((yp ls).map (·.1))).foldl (lcS (yp ls)) [] = lc at e2 n2 m2 esm
  have esm : zi lc = kah (yp ls) := esm
  refine jh (ρ1 := R9 (.dat (.list (ls.map qe))) (.wc a1 (.dic (encD qe (yp ls)))) u2 (.wc a3 (.dic (encD yg lc))) u4 u5 u6 (.own ([].map vM)) .un) (kbd (jO yc rfl (by simp)) rfl) ?_
  obtain ⟨w2, w8, e3⟩ := jbh (.dat (.list (ls.map qe))) u4 u5 u6 a1 a3 ls lc n2 (fun k hk => (m2 k).mpr (.inr (pm.mem_iff.mpr hk))) ls [] u2 .un (fun l hl => hl) (by simp; omega)
  rw [List.nil_append, esm] at e3
  exact jh (vah (kaF (vb rfl) (.inl rfl)) e3) (qbe (r_b rfl))
section
variable (ds : List Int) (k : Int) (hk : 0 ≤ k)
include hk
theorem zbw (q r : Int) (hq : 0 < q) (hq2 : q ≤ 100) (hr : 0 < r) (hr2 : r ≤ 256) (s2 : DL.Slot) : ∃ b : List Nat, b.length ≤ 100 ∧ (∀ x ∈ b, x < 256) ∧ jI [3] (st1 3) (zz (qa (jb FN.jf 3 (qa (eV 0) (qa (e2 kc (eV 1) (eC (.int 1))) (qa (eC (.int q)) (za))))) (za))) (fun _ => some (.ok true)) (jb FN.jf 3 (qa (eV 0) (qa (e2 kc (e2 kc (eV 1) (eC (.int 1))) (eV 3)) (qa (eC (.int r)) (za))))) [.dat (.list (ds.map .int)), .dat (.int k), s2, .un] = some (.ok (.f (jd b))) := by
  obtain ⟨c, hc, hc9⟩ := zF ds (k + 1) q hq
  have hq9 := zQ (fa := eV 0) (fb := e2 kc (eV 1) (eC (.int 1))) (fc := eC (.int q)) (ρ := [.dat (.list (ds.map .int)), .dat (.int k), s2, .un]) (ds := ds) (k := k + 1) (m := q) (vb rfl) (yr (vb rfl) rfl) rfl (by omega) hq
  rw [← hc] at hq9
  have hr1 := xbu hq9 (by omega) (by omega)
  rw [Int.toNat_natCast] at hr1
  have hX : ∀ j : Nat, ∃ x : Nat, (x : Int) = atD ds (k + 1 + (j : Int)) r ∧ x < 256 := fun j => by
    obtain ⟨x, h1, h2⟩ := zF ds (k + 1 + (j : Int)) r hr
    exact ⟨x, h1, by omega⟩
  let X : Nat → Nat := fun j => Classical.choose (hX j)
  have hXs : ∀ j : Nat, ((X j : Nat) : Int) = atD ds (k + 1 + (j : Int)) r ∧ X j < 256 := fun j => Classical.choose_spec (hX j)
  have hcmp := kbJ (vs := [3]) (st := st1 3) (a := qa (jb FN.jf 3 (qa (eV 0) (qa (e2 kc (eV 1) (eC (.int 1))) (qa (eC (.int q)) (za))))) (za)) (tt := fun _ => some (.ok true)) (fe := jb FN.jf 3 (qa (eV 0) (qa (e2 kc (e2 kc (eV 1) (eC (.int 1))) (eV 3)) (qa (eC (.int r)) (za))))) (ρ := [.dat (.list (ds.map .int)), .dat (.int k), s2, .un]) (n := c) (F := fun j => .int (X j : Nat)) rfl hr1 (by omega) (fun j _ => by
    refine ⟨_, .s (.int (X j : Nat)), rfl, rfl, ?_, rfl⟩
    rw [(hXs j).1]
    exact zQ (vb rfl) (yr (yr (vb rfl) rfl) (vb rfl)) rfl (by omega) hr)
  have ej : (List.range c).map (fun j => (PyData.int (X j : Nat) : D)) = jd ((List.range c).map X) := by
    unfold jd
    rw [List.map_map]
    rfl
  rw [ej] at hcmp
  refine ⟨_, by rw [List.length_map, List.length_range]; omega, fun x hx => ?_, hcmp⟩
  obtain ⟨j, _, rfl⟩ := List.mem_map.mp hx
  exact (hXs j).2
theorem ja5 : ∃ b : List Nat, b.length ≤ 100 ∧ (∀ x ∈ b, x < 256) ∧ jN [.list (ds.map .int), .int k] = some (.retF (jd b)) := by
  have hq := zQ (fa := eV 0) (fb := eV 1) (fc := eC (.int 4)) (ρ := [.dat (.list (ds.map .int)), .dat (.int k), .un, .un]) (ds := ds) (k := k) (m := 4) (vb rfl) (vb rfl) rfl hk (by omega)
  obtain ⟨w, hw, hw4⟩ := zF ds k 4 (by omega)
  rw [← hw] at hq
  have hs : je 2 (jb FN.jf 3 (qa (eV 0) (qa (eV 1) (qa (eC (.int 4)) (za))))) [.dat (.list (ds.map .int)), .dat (.int k), .un, .un] = some (.nx [.dat (.list (ds.map .int)), .dat (.int k), .dat (.int (w : Nat)), .un]) := zO hq rfl rfl
  unfold jN yac
  by_cases h1 : w < 2
  · obtain ⟨b, b1, b2, b3⟩ := zbw ds k hk 6 3 (by omega) (by omega) (by omega) (by omega) (.dat (.int (w : Nat)))
    exact ⟨b, b1, b2, qS (jh hs (vb2 (jo (xE (vb rfl) rfl (by omega)) (yaF b3))))⟩
  by_cases h2 : w = 2
  · obtain ⟨x, hx, hx3⟩ := zF ds (k + 1) 3 (by omega)
    obtain ⟨y, hy, hy3⟩ := zF ds (k + 2) 3 (by omega)
    have q1 := zQ (fa := eV 0) (fb := e2 kc (eV 1) (eC (.int 1))) (fc := eC (.int 3)) (ρ := [.dat (.list (ds.map .int)), .dat (.int k), .dat (.int (w : Nat)), .un]) (ds := ds) (k := k + 1) (m := 3) (vb rfl) (yr (vb rfl) rfl) rfl (by omega) (by omega)
    have q2 := zQ (fa := eV 0) (fb := e2 kc (eV 1) (eC (.int 2))) (fc := eC (.int 3)) (ρ := [.dat (.list (ds.map .int)), .dat (.int k), .dat (.int (w : Nat)), .un]) (ds := ds) (k := k + 2) (m := 3) (vb rfl) (yr (vb rfl) rfl) rfl (by omega) (by omega)
    rw [← hx] at q1
    rw [← hy] at q2
    refine ⟨[x, y, 77], by simp, fun z hz => ?_, qS (jh hs (jh (xl (vx (vb rfl) rfl (by omega)) rfl) (vb2 (jo (xj (vb rfl) rfl (by omega)) (yaF (jO (ds := jd [x, y, 77]) (qb q1 (qb q2 (qb rfl yc))) rfl (by simp)))))))⟩
    simp at hz
    omega
  · obtain ⟨b, b1, b2, b3⟩ := zbw ds k hk 5 256 (by omega) (by omega) (by omega) (by omega) (.dat (.int (w : Nat)))
    exact ⟨b, b1, b2, qS (jh hs (jh (xl (vx (vb rfl) rfl (by omega)) rfl) (jh (xl (vo (vb rfl) rfl (by omega)) rfl) (yaF b3))))⟩
end
noncomputable def wa9 : FS := ka (je 4 (e2 kc (eC (.int 1)) (e2 xK (eC (.int 8)) (eV 3)))) (ka (je 5 (e2 ze (zv (qa (eC (.int 2)) (qa (eC (.int 2)) (qa (eC (.int 2)) (qa (eC (.int 2)) (qa (eC (.int 2)) (qa (eC (.int 0)) (qa (eC (.int 3)) (za))))))))) (jb FN.jf 3 (qa (eV 1) (qa (eV 4) (qa (eC (.int 7)) (za))))))) (ka (je 6 (ve (qa (eV 5) (qa (eC (.int 9)) (qa (e2 kc (e2 xK (eC (.int 2)) (eV 3)) (jb FN.jf 3 (qa (eV 1) (qa (eV 4) (qa (eC (.int 2)) (za)))))) (qa (e2 kc (eC (.int 1)) (jb FN.jf 3 (qa (eV 1) (qa (e2 kc (eV 4) (eC (.int 1))) (qa (eC (.int 2)) (za)))))) (qa (jb FN.jf 3 (qa (eV 1) (qa (e2 kc (eV 4) (eC (.int 2))) (qa (eC (.int 5)) (za))))) (za)))))))) (zy 2 (e2 qaI (eV 6) (ve (qa (eV 3) (qa (e2 kc (eC (.int 1)) (jb FN.jf 3 (qa (eV 1) (qa (eV 4) (qa (eC (.int 3)) (za)))))) (qa (jb FN.jf 3 (qa (eV 1) (qa (e2 kc (eV 4) (eC (.int 3))) (qa (eC (.int 2)) (za))))) (qa (jb FN.jN 2 (qa (eV 1) (qa (e2 kc (eV 4) (eC (.int 4))) (za)))) (za))))))))))
abbrev R12 (s0 s1 s2 s3 s4 s5 s6 : DL.Slot) : ya := [s0, s1, s2, s3, s4, s5, s6, .un, .un, .un, .un, .un]
theorem vbM (s0 : DL.Slot) (ds : List Int) (ls : List LF.wd) (k : Nat) (hk : k < 100) (hn : ls.length ≤ 1000) (s4 s5 s6 : DL.Slot) : ∃ (l : LF.wd) (t4 t5 t6 : DL.Slot), l.Ok ∧ 2 * k ≤ l.number ∧ l.number ≤ 2 * k + 1 ∧
    wa9 (R12 s0 (.dat (.list (ds.map .int))) (.own (ls.map qe)) (.dat (.int (k : Nat))) s4 s5 s6) = some (.nx (R12 s0 (.dat (.list (ds.map .int))) (.own ((ls ++ [l]).map qe)) (.dat (.int (k : Nat))) t4 t5 t6)) := by
  have h4 : ∀ u5 u6 : DL.Slot, je 4 (e2 kc (eC (.int 1)) (e2 xK (eC (.int 8)) (eV 3))) (R12 s0 (.dat (.list (ds.map .int))) (.own (ls.map qe)) (.dat (.int (k : Nat))) s4 u5 u6) = some (.nx (R12 s0 (.dat (.list (ds.map .int))) (.own (ls.map qe)) (.dat (.int (k : Nat))) (.dat (.int (1 + 8 * (k : Int)))) u5 u6)) := fun _ _ => zO (yr rfl (kP rfl (vb rfl) (jM (by omega) (by omega)))) rfl rfl
  generalize hat : (1 + 8 * (k : Int)) = at_ at h4
  have ha : 0 ≤ at_ := by omega
  let S := fun (u5 u6 : DL.Slot) => R12 s0 (.dat (.list (ds.map .int))) (.own (ls.map qe)) (.dat (.int (k : Nat))) (.dat (.int at_)) u5 u6
  have A0 : ∀ (m : Int) (u5 u6 : DL.Slot), 0 < m → jb FN.jf 3 (qa (eV 1) (qa (eV 4) (qa (eC (.int m)) (za)))) (S u5 u6) = some (.ok (.s (.int (atD ds at_ m)))) := fun m u5 u6 hm => zQ (vb rfl) (vb rfl) rfl ha hm
  have A1 : ∀ (j m : Int) (u5 u6 : DL.Slot), 0 ≤ j → 0 < m → jb FN.jf 3 (qa (eV 1) (qa (e2 kc (eV 4) (eC (.int j))) (qa (eC (.int m)) (za)))) (S u5 u6) = some (.ok (.s (.int (atD ds (at_ + j) m)))) := fun j m u5 u6 hj hm => zQ (vb rfl) (yr (vb rfl) rfl) rfl (by omega) hm
  obtain ⟨n2, q2e, b2⟩ := zF ds at_ 2 (by omega)
  obtain ⟨n3, q3e, b3⟩ := zF ds at_ 3 (by omega)
  obtain ⟨n7, q7e, b7⟩ := zF ds at_ 7 (by omega)
  obtain ⟨t2, f2, c2⟩ := zF ds (at_ + 1) 2 (by omega)
  obtain ⟨o5, f5, c5⟩ := zF ds (at_ + 2) 5 (by omega)
  obtain ⟨k2, g2, d2⟩ := zF ds (at_ + 3) 2 (by omega)
  obtain ⟨b, hb1, hb2, hb3⟩ := ja5 ds (at_ + 4) (by omega)
  obtain ⟨kd, hkd, hk4⟩ : ∃ kd : Nat, atI [PyData.int 2, .int 2, .int 2, .int 2, .int 2, .int 0, .int 3] (n7 : Nat) = some (.int (kd : Nat)) ∧ kd ≤ 4 := by
    have : n7 = 0 ∨ n7 = 1 ∨ n7 = 2 ∨ n7 = 3 ∨ n7 = 4 ∨ n7 = 5 ∨ n7 = 6 := by omega
    rcases this with h | h | h | h | h | h | h <;> subst h
    · exact ⟨2, rfl, by decide⟩
    · exact ⟨2, rfl, by decide⟩
    · exact ⟨2, rfl, by decide⟩
    · exact ⟨2, rfl, by decide⟩
    · exact ⟨2, rfl, by decide⟩
    · exact ⟨0, rfl, by decide⟩
    · exact ⟨3, rfl, by decide⟩
  refine ⟨⟨kd, 9, 2 * k + n2, 1 + t2, o5, k, 1 + n3, k2, b⟩, .dat (.int at_), .dat (.int (kd : Nat)), .dat (.tuple [.int (kd : Nat), .int 9, .int ((2 * k + n2 : Nat) : Int), .int ((1 + t2 : Nat) : Int), .int (o5 : Nat)]), ⟨hk4, by show 9 < 2 ^ 32; decide, by show 2 * k + n2 < 2 ^ 32; omega, by show 1 + t2 ≤ 15; omega, by show o5 ≤ 16777215; omega, by show k ≤ 1099511627775; omega, by show 1 + n3 ≤ 16777215; omega, by show k2 ≤ 1; omega, by show b.length ≤ 1024; omega, hb2⟩, by show 2 * k ≤ 2 * k + n2; omega, by show 2 * k + n2 ≤ 2 * k + 1; omega, ?_⟩
  unfold wa9
  refine jh (h4 _ _) ?_
  have h7 := A0 7 s5 s6 (by omega)
  rw [← q7e] at h7
  refine jh (ρ1 := S (.dat (.int (kd : Nat))) s6) (zO (ycs (jO (qb rfl (qb rfl (qb rfl (qb rfl (qb rfl (qb rfl (qb rfl yc))))))) rfl (by simp)) h7 hkd rfl) rfl rfl) ?_
  have hA2 := A0 2 (.dat (.int (kd : Nat))) s6 (by omega)
  have hT2 := A1 1 2 (.dat (.int (kd : Nat))) s6 (by omega) (by omega)
  have hO5 := A1 2 5 (.dat (.int (kd : Nat))) s6 (by omega) (by omega)
  rw [← q2e] at hA2
  rw [← f2] at hT2
  rw [← f5] at hO5
  refine jh (ρ1 := S (.dat (.int (kd : Nat))) (.dat (.tuple [.int (kd : Nat), .int 9, .int ((2 * k + n2 : Nat) : Int), .int ((1 + t2 : Nat) : Int), .int (o5 : Nat)]))) (zO (wo (qb (vb rfl) (qb rfl (qb (xaF (xbK (i := 2) rfl (vb rfl) (.inl (by decide))) hA2) (qb (xaF (i := 1) rfl hT2) (qb hO5 yc))))) rfl (by simp)) rfl rfl) ?_
  have hN3 := A0 3 (.dat (.int (kd : Nat))) (.dat (.tuple [.int (kd : Nat), .int 9, .int ((2 * k + n2 : Nat) : Int), .int ((1 + t2 : Nat) : Int), .int (o5 : Nat)])) (by omega)
  have hK2 := A1 3 2 (.dat (.int (kd : Nat))) (.dat (.tuple [.int (kd : Nat), .int 9, .int ((2 * k + n2 : Nat) : Int), .int ((1 + t2 : Nat) : Int), .int (o5 : Nat)])) (by omega) (by omega)
  rw [← q3e] at hN3
  rw [← g2] at hK2
  have hB : jb FN.jN 2 (qa (eV 1) (qa (e2 kc (eV 4) (eC (.int 4))) (za))) (S (.dat (.int (kd : Nat))) (.dat (.tuple [.int (kd : Nat), .int 9, .int ((2 * k + n2 : Nat) : Int), .int ((1 + t2 : Nat) : Int), .int (o5 : Nat)]))) = some (.ok (.f (jd b))) := qX (qb (vb rfl) (qb (yr (vb rfl) rfl) yc)) rfl rfl hb3
  have hT := wo (qb (E := eV 3) (ρ := S (.dat (.int (kd : Nat))) (.dat (.tuple [.int (kd : Nat), .int 9, .int ((2 * k + n2 : Nat) : Int), .int ((1 + t2 : Nat) : Int), .int (o5 : Nat)]))) (v := .s (.int (k : Nat))) (vb rfl) (qb (xaF (i := 1) (fa := eC (.int 1)) rfl hN3) (qb hK2 (qb hB yc)))) (ds := [.int (k : Nat), .int ((1 + n3 : Nat) : Int), .int (k2 : Nat), .list (jd b)]) rfl (by simp)
  refine zb2 (es := ls.map qe) (d := qe ⟨kd, 9, 2 * k + n2, 1 + t2, o5, k, 1 + n3, k2, b⟩) (v := .s (qe ⟨kd, 9, 2 * k + n2, 1 + t2, o5, k, 1 + n3, k2, b⟩)) rfl (qG (vb rfl) hT rfl) rfl (by rw [List.length_map]; omega) ?_
  have em : ls.map qe ++ [qe ⟨kd, 9, 2 * k + n2, 1 + t2, o5, k, 1 + n3, k2, b⟩] = (ls ++ [(⟨kd, 9, 2 * k + n2, 1 + t2, o5, k, 1 + n3, k2, b⟩ : LF.wd)]).map qe := by rw [List.map_append]; rfl
  rw [em]
  rfl
theorem ybM (s0 : DL.Slot) (ds : List Int) (c : Nat) (hc : c ≤ 60) : ∃ (ls : List LF.wd) (t3 t4 t5 t6 : DL.Slot), (∀ l ∈ ls, l.Ok) ∧ (ls.map (·.number)).Nodup ∧ ls.length = c ∧ forL (gN 3) wa9 (vi 0 c) (R12 s0 (.dat (.list (ds.map .int))) (.own []) .un .un .un .un) = some (.nx (R12 s0 (.dat (.list (ds.map .int))) (.own (ls.map qe)) t3 t4 t5 t6)) := by
  obtain ⟨ρ', h1, ls, t3, t4, t5, t6, rfl, h2, h3, h4, _⟩ := kak (g := gN 3) (body := wa9) (ds := vi 0 c) (ρ := R12 s0 (.dat (.list (ds.map .int))) (.own []) .un .un .un .un) (fun i ρ => ∃ (ls : List LF.wd) (t3 t4 t5 t6 : DL.Slot), ρ = R12 s0 (.dat (.list (ds.map .int))) (.own (ls.map qe)) t3 t4 t5 t6 ∧ (∀ l ∈ ls, l.Ok) ∧ (ls.map (·.number)).Nodup ∧ ls.length = i ∧ ∀ l ∈ ls, l.number < 2 * i) ⟨[], _, _, _, _, rfl, fun _ h => (nomatch h), .nil, rfl, fun _ h => (nomatch h)⟩ (by
    rintro i d ρ hd ⟨ls, t3, t4, t5, t6, rfl, h2, h3, h4, h5⟩
    obtain ⟨hi, rfl⟩ := kbA hd
    obtain ⟨l, u4, u5, u6, k1, k2, k3, k4⟩ := vbM s0 ds ls i (by omega) (by omega) t4 t5 t6
    refine ⟨_, _, rfl, k4, ls ++ [l], _, u4, u5, u6, rfl, fun x hx => ?_, ?_, by rw [List.length_append, List.length_singleton, h4], fun x hx => ?_⟩
    · rcases List.mem_append.mp hx with hx | hx
      · exact h2 x hx
      · rw [List.mem_singleton] at hx; rw [hx]; exact k1
    · rw [List.map_append, List.nodup_append]
      refine ⟨h3, List.pairwise_singleton _ _, fun x hx y hy => ?_⟩
      rw [List.map_singleton, List.mem_singleton] at hy
      obtain ⟨z, hz, rfl⟩ := List.mem_map.mp hx
      have := h5 z hz
      omega
    · rcases List.mem_append.mp hx with hx | hx
      · have := h5 x hx; omega
      · rw [List.mem_singleton] at hx; rw [hx]; omega)
  have hrl : (vi 0 c).length = c := by simp [vi]
  rw [hrl] at h4
  exact ⟨ls, t3, t4, t5, t6, h2, h3, h4, h1⟩
end FL
namespace FL
open PySem PySem.Spec PyProof.Rows L2 DL FN
theorem jct {i j k1 k2 kx n : Nat} {F : TF} {g : FA} {f2 : FE} {t3 t4 : FT} {rest : FS} {ρ : ya} {vs : List Val} {as ds : List D} {v2 : Val} {d2 : D} {o : Option Out}
    (h1 : (noOwn ρ [i, j, k1, k2] && (decide (i ≠ j) && (decide (i ≠ k1) && (decide (i ≠ k2) && (decide (k1 ≠ k2) && (decide (i < ρ.length) && (decide (k1 < ρ.length) && decide (k2 < ρ.length)))))))) = true)
    (hg : g ρ = some (.ok vs)) (hs : km vs = some as) (hn : as.length = n) (hF : F as = some ds) (hk : ds.all (ybA kx) = true) (hl : vj (ds.length + 1) = true) (h2 : f2 (ρ.set i .un) = some (.ok v2)) (hv : v2.st = some d2)
    (h3 : t3 (((ρ.set i .un).set j (.dat d2)).set i (.dat (.list ds))) = some (.ok false)) (ht : ∀ d ∈ ds, PrT k1 k2 t4 ((((ρ.set i .un).set j (.dat d2)).set k1 .un).set k2 .un) d) (hr : rest ((((ρ.set i .un).set j (.dat d2)).set k1 .un).set k2 .un) = o) :
    xbd i j k1 k2 kx F n g f2 t3 t4 rest ρ = o := by
  unfold xbd
  rw [if_pos h1, hg]
  dsimp only
  rw [hs]
  dsimp only
  rw [if_pos hn, hF]
  dsimp only
  rw [if_pos ⟨hk, hl⟩, h2]
  dsimp only
  rw [hv]
  dsimp only
  rw [h3]
  dsimp only
  rw [if_pos ht]
  exact hr
theorem xbD {i : Nat} {g : FS} {ρ : ya} {ds : List D} {o : Option Out} (h : ρ[i]? = some (.own ds)) (k : g (ρ.set i (.dat (.list ds))) = o) : yav i g ρ = o := by
  unfold yav
  rw [h]
  exact k
theorem xco (n : Nat) (c : List Nat) : pl true (n + 1) (w6 c) = true := qbB true n c
theorem wct (n : Nat) (x : Sd) : pl true (n + 3) (vM x) = true := by
  show (pl true (n + 2) (qe x.1) && (pl true (n + 2) (w6 x.2) && true)) = true
  rw [yb3 n x.1, xco (n + 1) x.2]
  rfl
theorem xbw (xs : List Sd) : kX (.list (xs.map vM)) (.list (xs.map vM)) = some true := kbe 4 (by
  show List.all _ (pl true 3) = true
  rw [List.all_eq_true]
  intro y hy
  obtain ⟨x, _, rfl⟩ := List.mem_map.mp hy
  exact wct 0 x)
theorem qbX (F : List (Ky × LF.wd)) : yae (kah F) := by
  unfold kah
  generalize vat (F.map (·.1)) = ks
  suffices h : ∀ (ks : List Ky) (cs : Ct), yae cs → yae (ks.foldl (ctS F) cs) from h ks [] fun x hx => nomatch hx
  intro ks
  induction ks with
  | nil => exact fun cs h => h
  | cons k ks ih => exact fun cs h => ih _ (vbg h k).1
theorem xce {ls : List LF.wd} {x : Sd} (h : x ∈ waG ls) : x.1 ∈ ls ∧ x.2.length ≤ 200 := by
  obtain ⟨l, hl, e⟩ := List.mem_filterMap.mp h
  unfold yM at e
  split at e
  · cases q : kj (kah (yp ls)) (kO l) with
    | none => rw [q] at e; cases e
    | some c =>
      rw [q] at e
      cases e
      exact ⟨hl, qbX _ _ (qax q)⟩
  · cases e
theorem zbX (ns : List Int) (h : ns.length ≤ 63) : FN.xad [DL.yO ns] = some (.ret (.bool true)) := by
  obtain ⟨ds, hd, hlen, he⟩ := qbf ns h
  obtain ⟨n, hn, hn13⟩ := zF ds 0 13 (by decide)
  obtain ⟨ls, t3, t4, t5, t6, hok, nd, hl, e⟩ := ybM (.dat (DL.yO ns)) ds n (by omega)
  have hl60 : ls.length ≤ 60 := by omega
  unfold xad ya4
  refine zbN (ρ0 := [.dat (DL.yO ns), .un, .un, .un, .un, .un, .un, .un, .un, .un, .un, .un]) rfl ?_
  refine qQ (ybT (qb (vb rfl) yc) rfl rfl he (wat ds)) rfl ?_
  dsimp only [List.set]
  refine kai (ds := []) (jO yc rfl (by simp)) ?_
  dsimp only [List.set]
  have hq := zQ (fa := eV 1) (fb := eC (.int 0)) (fc := eC (.int 13)) (ρ := [.dat (DL.yO ns), .dat (.list (ds.map .int)), .own [], .un, .un, .un, .un, .un, .un, .un, .un, .un]) (ds := ds) (k := 0) (m := 13) (vb rfl) rfl rfl (by omega) (by omega)
  rw [← hn] at hq
  have hr := xbu hq (by omega) (by omega)
  rw [Int.toNat_natCast] at hr
  refine jh (vah hr e) ?_
  refine xbD (ds := ls.map qe) rfl ?_
  dsimp only [List.set, R12]
  have c2 := kcb (α := LF.wd) (vs := [8]) (st := st1 8) (it := jn (eV 2)) (tt := fun _ => some (.ok true)) (fe := e2 qaI (qH (eV 8) (qx) (xp (eC (.int 8)))) (ve (qa (eG ky (qa (e2 ze (eV 8) (eC (.int 8))) (za))) (za)))) (ρ := [.dat (DL.yO ns), .dat (.list (ds.map .int)), .dat (.list (ls.map qe)), t3, t4, t5, t6, .un, .un, .un, .un, .un]) qe qe (xs := ls) rfl (kaF (vb rfl) (.inl rfl)) (by omega) (fun l _ => ⟨_, _, rfl, rfl, xbO rfl, rfl⟩)
  refine qQ c2 rfl ?_
  dsimp only [List.set]
  have hsl : (waG ls).length ≤ 60 := by
    have := List.length_filterMap_le (yM ls (kah (yp ls))) ls
    unfold waG
    omega
  refine jct (as := [.list (ls.map qe)]) (d2 := .list ((waG ls).map vM)) rfl (qb (vb rfl) yc) rfl rfl (xbg ls hok nd hl60) ?_ (qo (by rw [List.length_map]; omega)) (qX (qb (vb rfl) yc) rfl rfl (wbh ls hok hl60)) rfl ?_ ?_ ?_
  · rw [List.all_eq_true]
    intro y hy
    obtain ⟨x, hx, rfl⟩ := List.mem_map.mp hy
    obtain ⟨h1, h2⟩ := xce hx
    have hb := (hok _ h1).size
    unfold ybA vM qe w6
    dsimp only
    simp only [List.set, List.all_cons, List.all_nil]
    show (_ && (((jd x.1.body).all wj && vj ((jd x.1.body).length + 1)) && ((jd x.2).all wj && vj ((jd x.2).length + 1)))) = true
    rw [za3, za3, qo (by rw [yad]; omega), qo (by rw [yad]; omega)]
    rfl
  · dsimp only [List.set]
    exact wy (xP (zG (yb1 (vb rfl)) rfl)) (wy (zG (zbe (x := true) (vb rfl) (vb rfl) (xbw _)) rfl) (zG (zbe (x := true) (vb rfl) (vb rfl) (ybw _)) rfl))
  · intro y hy
    obtain ⟨x, hx, rfl⟩ := List.mem_map.mp hy
    refine ⟨_, _, rfl, ?_⟩
    dsimp only [List.set]
    exact xP (zG (yb1 (vb rfl)) rfl)
  · dsimp only [List.set]
    have hs : FN.qaK [.list (ls.map qe)] = some (.retF ((waG ls).map vM)) := by
      unfold qaK tfD
      rw [xbg ls hok nd hl60]
      rfl
    exact wac (zbU (xbT (x := true) (qX (qb (vb rfl) yc) rfl rfl hs) (vb rfl) (xbw _)) (xbT (x := true) (vb rfl) (vb rfl) (ybw _)))
end FL
namespace K46
theorem kbW (ns : List Int) (h : ns.length ≤ 63) : FN.xad [DL.yO ns] = some (.ret (.bool true)) := FL.zbX ns h
end K46
open PySem PySem.W PyProof.Rows
set_option maxRecDepth 100000 in
set_option maxHeartbeats 0 in
theorem PySem.Challenge.cw_spoolbox_k46_sound_leaves_holds : PySem.Challenge.rw_spoolbox_k46_sound_leaves.Holds := by
  w_on; o_law; k_head; (case hw => w_witness2)
  k_fill
  refine L2.walk_of (l := PySem.Challenge.rw_spoolbox_k46_sound_leaves) (n := 63) (k := 11) (x := "script") (CX := fun w => L2.CX PySem.Challenge.rw_spoolbox_k46_sound_leaves.prog w) (sp := fun w => DL.zbA _) rfl (by decide) rfl ⟨rfl, by decide, by decide⟩ (fun w h Y => PySem.W.kIn_of Y) ?F (fun _ _ a ns hl _ hS => ⟨a, ns, rfl, hS, hl, fun _ => rfl⟩) (fun _ _ _ _ _ h => DL.vca h)
  case F =>
    intro w mg fa h KX G hmg
    refine' K46.all_mk KX G hmg K46.kbW ?a0 ?l0 ?c0 ?k0 ?a1 ?l1 ?c1 ?k1 ?a2 ?l2 ?c2 ?k2 ?a3 ?l3 ?c3 ?k3 ?a4 ?l4 ?c4 ?k4 ?a5 ?l5 ?c5 ?k5 ?a6 ?l6 ?c6 ?k6 ?a7 ?l7 ?c7 ?k7 ?a8 ?l8 ?c8 ?k8 ?a9 ?l9 ?c9 ?k9 ?a10 ?l10 ?c10 ?k10 ?a11 ?l11 ?c11 ?k11 ?a12 ?l12 ?c12 ?k12 ?a13 ?l13 ?c13 ?k13 ?a14 ?l14 ?c14 ?k14 ?a15 ?l15 ?c15 ?k15 ?a16 ?l16 ?c16 ?k16 ?a17 ?l17 ?c17 ?k17 ?xI ?zaK ?wH ?qaT ?xac ?jQ ?j9 ?zaT ?qJ ?zam ?jam ?qaA ?w9 ?ybj ?lI ?cI ?kI ?tI ?j1 ?wam ?vam ?yam ?zJ ?xam ?kam ?y1 ?qan ?wQ ?vQ ?yQ ?xV ?qaf ?zaf ?jaf ?jF ?waf ?vaf ?qW ?yaf ?xM ?kM ?qN ?jT ?x9 ?qaa ?zaa ?zC ?jaa ?waa ?vT ?vaa ?jJ ?wJ ?vJ ?qai ?zaA ?jaA ?waA ?yT ?vaA ?yaA ?zai ?xaA ?j3 ?v3 ?y3 ?j4 ?zan ?jan ?wan ?yJ ?van ?yan ?y4 ?xan ?xQ ?kQ ?jR ?yn ?yt ?kan ?qao ?yaa ?xaa ?xaf ?kaf ?zao ?jao ?kaA ?qaB ?vG ?vE ?vD ?yD ?xA ?qA ?yE ?xD ?qB ?yG ?wR ?wL ?vL ?xG ?xJ
    (case j1 => k_is)
    (case xV => k_is)
    (case jT => k_is)
    (case qai => k_is)
    (case j4 => k_is)
    (case qan => k_is)
    (case yaf => k_is)
    (case vaa => k_is)
    (case xaA => k_is)
    (case xan => k_is)
    (case wam => k_is)
    (case qaf => k_is)
    (case x9 => k_is)
    (case zaA => k_is)
    (case zan => k_is)
    (case vam => decide +kernel)
    (case zaf => decide +kernel)
    (case qaa => decide +kernel)
    (case jaA => decide +kernel)
    (case jan => decide +kernel)
    (case a0 => k_is)
    (case l0 => k_is)
    (case c0 => k_is)
    (case k0 => k_is)
    (case a1 => k_is)
    (case l1 => k_is)
    (case c1 => k_is)
    (case k1 => k_is)
    (case a2 => k_is)
    (case l2 => k_is)
    (case c2 => k_is)
    (case k2 => k_is)
    (case a3 => k_is)
    (case l3 => k_is)
    (case c3 => k_is)
    (case k3 => k_is)
    (case a4 => k_is)
    (case l4 => k_is)
    (case c4 => k_is)
    (case k4 => k_is)
    (case a5 => k_is)
    (case l5 => k_is)
    (case c5 => k_is)
    (case k5 => k_is)
    (case a6 => k_is)
    (case l6 => k_is)
    (case c6 => k_is)
    (case k6 => k_is)
    (case a7 => k_is)
    (case l7 => k_is)
    (case c7 => k_is)
    (case k7 => k_is)
    (case a8 => k_is)
    (case l8 => k_is)
    (case c8 => k_is)
    (case k8 => k_is)
    (case a9 => k_is)
    (case l9 => k_is)
    (case c9 => k_is)
    (case k9 => k_is)
    (case a10 => k_is)
    (case l10 => k_is)
    (case c10 => k_is)
    (case k10 => k_is)
    (case a11 => k_is)
    (case l11 => k_is)
    (case c11 => k_is)
    (case k11 => k_is)
    (case a12 => k_is)
    (case l12 => k_is)
    (case c12 => k_is)
    (case k12 => k_is)
    (case a13 => k_is)
    (case l13 => k_is)
    (case c13 => k_is)
    (case k13 => k_is)
    (case a14 => k_is)
    (case l14 => k_is)
    (case c14 => k_is)
    (case k14 => k_is)
    (case a15 => k_is)
    (case l15 => k_is)
    (case c15 => k_is)
    (case k15 => k_is)
    (case a16 => k_is)
    (case l16 => k_is)
    (case c16 => k_is)
    (case k16 => k_is)
    (case a17 => k_is)
    (case l17 => k_is)
    (case c17 => k_is)
    (case k17 => k_is)
    (case xI => k_is)
    (case zaK => k_is)
    (case wH => k_is)
    (case qaT => k_is)
    (case xac => k_is)
    (case jQ => k_is)
    (case j9 => k_is)
    (case zaT => k_is)
    (case qJ => k_is)
    (case zam => k_is)
    (case jam => k_is)
    (case qaA => k_is)
    (case w9 => k_is)
    (case ybj => k_is)
    (case lI => k_is)
    (case cI => k_is)
    (case kI => k_is)
    (case tI => k_is)
    (case yam => k_is)
    (case zJ => k_is)
    (case xam => k_is)
    (case kam => k_is)
    (case y1 => k_is)
    (case wQ => k_is)
    (case vQ => k_is)
    (case yQ => k_is)
    (case jaf => k_is)
    (case jF => k_is)
    (case waf => k_is)
    (case vaf => k_is)
    (case qW => k_is)
    (case xM => k_is)
    (case kM => k_is)
    (case qN => k_is)
    (case zaa => k_is)
    (case zC => k_is)
    (case jaa => k_is)
    (case waa => k_is)
    (case vT => k_is)
    (case jJ => k_is)
    (case wJ => k_is)
    (case vJ => k_is)
    (case waA => k_is)
    (case yT => k_is)
    (case vaA => k_is)
    (case yaA => k_is)
    (case zai => k_is)
    (case j3 => k_is)
    (case v3 => k_is)
    (case y3 => k_is)
    (case wan => k_is)
    (case yJ => k_is)
    (case van => k_is)
    (case yan => k_is)
    (case y4 => k_is)
    (case xQ => k_is)
    (case kQ => k_is)
    (case jR => k_is)
    (case yn => k_is)
    (case yt => k_is)
    (case kan => k_is)
    (case qao => k_is)
    (case yaa => k_is)
    (case xaa => k_is)
    (case xaf => k_is)
    (case kaf => k_is)
    (case zao => k_is)
    (case jao => k_is)
    (case kaA => k_is)
    (case qaB => k_is)
    (case vG => kts_exm)
    (case vE => kts_exm)
    (case vD => kts_exm)
    (case yD => kts_exm)
    (case xA => kts_exm)
    (case qA => kts_exm)
    (case yE => kts_exm)
    (case xD => kts_exm)
    (case qB => kts_exm)
    (case yG => kts_exm)
    (case wR => kts_exm)
    (case wL => kts_exm)
    (case vL => kts_exm)
    (case xG => kts_exm)
    (case xJ => kts_exm)
