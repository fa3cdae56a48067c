import PyProof.Rows.All
import Wide.All
import OpenK.AllK
import Wide.FinOn
import PyProof.EqAt
import PyProof.EqKinds
import PyProof.TupleCall
import HandS.ForMost
import HandS.ForExc
import HandS.ExcInit
import HandS.TryMany
import HandS.Flow
import HandS.Lambda
import HandS.TupSets
import HandS.Star
import HandS.Conv
import HandS.IsInst
import HandS.ExcField
import HandS.ExcIs
import KE.KExcIs
import KE.KTryMore
import KE.GoesEnum
import KE.GoesMore
import HandS.Iter
import HandS.Text
import HandS.Style
import HandS.Deep
import KE.SortData
import KE.DataCmp
import PyProof.ReprRoads
import PyProof.ReprLen
import PyProof.StrBlock2
import PyProof.Rows.StrMul
import KE.GoesEnumKw
import PyProof.Rows.CallKw2
import KE.DatumOrd
import HandS.SortKw
import KE.SortKeyHeap
import HandS.EndTab
import HandS.SuiteRaise
import HandS.ExcInitHot
import PyProof.SetRoads
import HandS.CallSlots
import HandS.Defaults
import HandS.ForDict
import PyProof.AssignAttr
import HandS.SetFor
import HandS.Strs
import KE.KDictZip
import KE.KDictCopyH
import KE.KDictSum
import HandS.List
import HandS.HotCalls
import HandS.WideBits
import PySem.Challenge.RW_spoolbox_k05_writings_read_only_so
set_option Elab.async false
set_option linter.all false
set_option maxRecDepth 100000
set_option maxHeartbeats 4000000
namespace DL
open PySem PySem.Spec PyProof.Rows L2
abbrev D := PyData
abbrev St := L2.St
@[simp] def ntb : HO → Bool
  | .tbl _ => false
  | _ => true
def vc (H H' : Hp) : Prop := ∀ b o, H b = some o → ntb o = true → H' b = some o
def LQ : List (Nat × Str) := [(1000, "in_order" ++ ".<locals>." ++ "<lambda>"), (1001, "witness" ++ ".<locals>." ++ "<lambda>"), (1002, "file_of" ++ ".<locals>." ++ "<lambda>"), (1003, "rebuilt" ++ ".<locals>." ++ "<lambda>")]
def TBl (Cl : Nat → Addr) (H : Hp) : Prop := ∀ p ∈ LQ, Cl p.1 ≠ 0 → LamX.TabS H (Cl p.1) p.2
def NoT (Cl : Nat → Addr) : Prop := Cl 1000 = 0 ∧ Cl 1001 = 0 ∧ Cl 1002 = 0 ∧ Cl 1003 = 0
theorem TBl.none {Cl : Nat → Addr} (h : NoT Cl) (H : Hp) : TBl Cl H := fun p hp n => by
  obtain ⟨h0, h1, h2, h3⟩ := h
  simp only [LQ, List.mem_cons, List.not_mem_nil, or_false] at hp
  rcases hp with rfl | rfl | rfl | rfl
  · exact absurd h0 n
  · exact absurd h1 n
  · exact absurd h2 n
  · exact absurd h3 n
structure Same (Cl : Nat → Addr) (H H' : Hp) : Prop where
  d : vc H H'
  tb : TBl Cl H → TBl Cl H'
  live : ∀ b, H b ≠ none → H' b ≠ none
  nf : ∀ b o xs, H' b = some (.frz o (.lst xs)) → H b = some (.frz o (.lst xs))
section
variable {Cl : Nat → Addr}
theorem vc.refl (H : Hp) : vc H H := fun _ _ h _ => h
theorem vc.trans {H H1 H2 : Hp} (a : vc H H1) (b : vc H1 H2) : vc H H2 := fun c o h n => b c o (a c o h n) n
theorem Same.refl (H : Hp) : Same Cl H H := ⟨.refl H, fun h => h, fun _ h => h, fun _ _ _ h => h⟩
theorem Same.trans {H H1 H2 : Hp} (a : Same Cl H H1) (b : Same Cl H1 H2) : Same Cl H H2 := ⟨a.d.trans b.d, fun h => b.tb (a.tb h), fun c h => b.live c (a.live c h), fun c o xs h => a.nf c o xs (b.nf c o xs h)⟩
theorem Same.of {H H' : Hp} (e : ∀ b o, H b = some o → H' b = some o) (nf : ∀ b o xs, H' b = some (.frz o (.lst xs)) → H b = some (.frz o (.lst xs))) : Same Cl H H' := ⟨fun b o h _ => e b o h, fun t p hp n => (t p hp n).ext e, fun b h z => (by
  cases q : H b with
  | none => exact h q
  | some o => rw [e b o q] at z; cases z), nf⟩
theorem Same.at {H H' : Hp} (s : Same Cl H H') {b : Addr} {o : HO} (h : H b = some o) (n : ntb o = true := by rfl) : H' b = some o := s.d b o h n
theorem Same.free {H H' : Hp} (s : Same Cl H H') {l : Addr} (h : H' l = Option.none) : H l = Option.none := by
  cases q : H l with
  | none => rfl
  | some o => exact absurd h (s.live l (by rw [q]; intro z; cases z))
theorem vc.seq {K : PySem.W.Frag} {H H' : Hp} {a : Addr} {xs : List V} (e : vc H H') (h : SqL K H a xs) : SqL K H' a xs := by
  rcases h with (h | ⟨o, h⟩) | h
  · exact .inl (.inl (e _ _ h rfl))
  · exact .inl (.inr ⟨o, e _ _ h rfl⟩)
  · exact .inr h
theorem Same.seq {K : PySem.W.Frag} {H H' : Hp} {a : Addr} {xs : List V} (e : Same Cl H H') (h : SqL K H a xs) : SqL K H' a xs := e.d.seq h
end
open Classical in
noncomputable def hide (H : Hp) (Z : Addr → Prop) : Hp := fun b => if Z b then none else H b
theorem wm {H : Hp} {Z : Addr → Prop} {b : Addr} {o : HO} (h : hide H Z b = some o) : ¬ Z b ∧ H b = some o := by
  unfold hide at h
  split at h
  · cases h
  · rename_i n
    exact ⟨n, h⟩
theorem xg {H : Hp} {Z : Addr → Prop} {b : Addr} {o : HO} (n : ¬ Z b) (h : H b = some o) : hide H Z b = some o := by
  unfold hide
  rw [if_neg n]
  exact h
theorem qe {H H' : Hp} {Z Z' : Addr → Prop} (s : vc H H') (z : ∀ b, Z' b → Z b ∨ H b = none) : vc (hide H Z) (hide H' Z') := fun b o h nt => by
  obtain ⟨n, e⟩ := wm h
  refine xg (fun q => ?_) (s b o e nt)
  rcases z b q with z1 | z1
  · exact n z1
  · rw [e] at z1; cases z1
theorem vw {Cl : Nat → Addr} {H H' : Hp} {Z Z' : Addr → Prop} (s : Same Cl H H') (z : ∀ b, Z' b → Z b ∨ H b = none) : vc (hide H Z) (hide H' Z') := qe s.d z
theorem wj {H : Hp} {Z : Addr → Prop} : vc (hide H Z) H := fun b o h _ => (wm h).2
theorem Rd.same {H H' : Hp} {a : Addr} {u : HO} (s : vc H H') (h : Rd H a u) (n : ntb u = true := by rfl) : Rd H' a u := by
  rcases h with h | ⟨o, h⟩
  · exact .inl (s _ _ h n)
  · exact .inr ⟨o, s _ _ h rfl⟩
theorem SqT.same {K : PySem.W.Frag} {H H' : Hp} {a : Addr} {xs : List V} (s : vc H H') (h : SqT K H a xs) : SqT K H' a xs := by
  rcases h with (h | ⟨o, h⟩) | h
  · exact .inl (.inl (s _ _ h rfl))
  · exact .inl (.inr ⟨o, s _ _ h rfl⟩)
  · exact .inr h
abbrev scr (ns : List Int) : D := .dict (ns.map fun n => (.int n, .none))
abbrev wdH (C : Addr) (i : Int) : D := .dict [(.str "at", .int i), (.int (C : Nat), .none)]
def qbY : List (D × D) → Bool
  | (.str _, _) :: _ => true
  | _ => false
@[simp] def yc1 : D → Bool
  | .dict ks => qbY ks
  | _ => false
@[simp] theorem wce (ns : List Int) : qbY (ns.map fun n => ((.int n, .none) : D × D)) = false := by cases ns <;> rfl
mutual
inductive Dp (K : PySem.W.Frag) (H : Hp) : V → D → Prop
  | non : Dp K H .non .none
  | bl (b : Bool) : Dp K H (.bl b) (.bool b)
  | int (i : Int) : Dp K H (.int i) (.int i)
  | str (x : Str) : Dp K H (.str x) (.str x)
  | lst {a : Addr} {xs : List V} {ds : List D} : Rd H a (.lst xs) → DpAll K H xs ds → Dp K H (.ref a) (.list ds)
  | tup {a : Addr} {xs : List V} {ds : List D} : SqT K H a xs → DpAll K H xs ds → Dp K H (.ref a) (.tuple ds)
  | scr {a : Addr} {ns : List Int} : SqL K H a (ns.map V.int) → Dp K H (.ref a) (.dict (ns.map fun n => (.int n, .none)))
  | exc {a dd C : Addr} {i : Int} : H a = some (exo a C (some dd)) → H dd = some (exd dd [("at", .int i)]) → Dp K H (.ref a) (.dict [(.str "at", .int i), (.int (C : Nat), .none)])
inductive DpAll (K : PySem.W.Frag) (H : Hp) : List V → List D → Prop
  | nil : DpAll K H [] []
  | cons {v : V} {vs : List V} {d : D} {ds : List D} : Dp K H v d → DpAll K H vs ds → DpAll K H (v :: vs) (d :: ds)
end
mutual
theorem Dp.up {K : PySem.W.Frag} {H : Hp} : ∀ {v : V} {d : D}, d.canLay0 = true → Dp K H v d → L2.Dp K H v d
  | _, _, _, .non => .non
  | _, _, _, .bl b => .bl b
  | _, _, _, .int i => .int i
  | _, _, _, .str x => .str x
  | _, _, c, .lst h t => .lst (.inl h) (DpAll.up c t)
  | _, _, c, .tup h t => .tup h (DpAll.up c t)
  | _, _, c, .scr h => nomatch c
  | _, _, c, .exc _ _ => nomatch c
theorem DpAll.up {K : PySem.W.Frag} {H : Hp} : ∀ {vs : List V} {ds : List D}, PyData.canLayAll0 ds = true → DpAll K H vs ds → L2.DpAll K H vs ds
  | _, _, _, .nil => .nil
  | _, _, c, .cons h t => by
    have c' := Bool.and_eq_true_iff.mp c
    exact .cons (Dp.up c'.1 h) (DpAll.up c'.2 t)
end
mutual
theorem Dp.same {K : PySem.W.Frag} {H H' : Hp} (s : vc H H') : ∀ {v : V} {d : D}, Dp K H v d → Dp K H' v d
  | _, _, .non => .non
  | _, _, .bl b => .bl b
  | _, _, .int i => .int i
  | _, _, .str x => .str x
  | _, _, .lst h t => .lst (Rd.same s h) (DpAll.same s t)
  | _, _, .tup h t => .tup (SqT.same s h) (DpAll.same s t)
  | _, _, .scr h => .scr (s.seq h)
  | _, _, .exc h1 h2 => .exc (s _ _ h1 rfl) (s _ _ h2 rfl)
theorem DpAll.same {K : PySem.W.Frag} {H H' : Hp} (s : vc H H') : ∀ {vs : List V} {ds : List D}, DpAll K H vs ds → DpAll K H' vs ds
  | _, _, .nil => .nil
  | _, _, .cons h t => .cons (Dp.same s h) (DpAll.same s t)
end
section
variable {K : PySem.W.Frag} {H : Hp}
theorem DpAll.length : ∀ {vs : List V} {ds : List D}, DpAll K H vs ds → vs.length = ds.length
  | _, _, .nil => rfl
  | _, _, .cons _ t => by rw [List.length_cons, List.length_cons, DpAll.length t]
theorem DpAll.get : ∀ {vs : List V} {ds : List D} {i : Nat} {d : D}, DpAll K H vs ds → ds[i]? = some d → ∃ v, vs[i]? = some v ∧ Dp K H v d
  | _, _, _, _, .nil, e => by simp at e
  | _, _, 0, _, .cons h _, e => by simp at e; subst e; exact ⟨_, rfl, h⟩
  | _, _, i + 1, d, .cons _ t, e => by
    obtain ⟨u, h1, h2⟩ := DpAll.get (i := i) (d := d) t (by simpa using e)
    exact ⟨u, by simpa using h1, h2⟩
theorem DpAll.get' : ∀ {vs : List V} {ds : List D} {i : Nat} {v : V}, DpAll K H vs ds → vs[i]? = some v → ∃ d, ds[i]? = some d ∧ Dp K H v d
  | _, _, _, _, .nil, e => by simp at e
  | _, _, 0, _, .cons h _, e => by simp at e; subst e; exact ⟨_, rfl, h⟩
  | _, _, i + 1, v, .cons _ t, e => by
    obtain ⟨u, h1, h2⟩ := DpAll.get' (i := i) (v := v) t (by simpa using e)
    exact ⟨u, by simpa using h1, h2⟩
theorem DpAll.append : ∀ {xs ys : List V} {ds es : List D}, DpAll K H xs ds → DpAll K H ys es → DpAll K H (xs ++ ys) (ds ++ es)
  | _, _, _, _, .nil, s => s
  | _, _, _, _, .cons r t, s => .cons r (DpAll.append t s)
theorem DpAll.take : ∀ {xs : List V} {ds : List D} (n : Nat), DpAll K H xs ds → DpAll K H (xs.take n) (ds.take n)
  | _, _, 0, _ => .nil
  | _, _, _ + 1, .nil => .nil
  | _, _, n + 1, .cons r t => .cons r (DpAll.take n t)
theorem DpAll.drop : ∀ {xs : List V} {ds : List D} (n : Nat), DpAll K H xs ds → DpAll K H (xs.drop n) (ds.drop n)
  | _, _, 0, r => r
  | _, _, _ + 1, .nil => .nil
  | _, _, n + 1, .cons _ t => DpAll.drop n t
theorem DpAll.set {x : V} {d : D} (r : Dp K H x d) : ∀ {xs : List V} {ds : List D} (i : Nat), DpAll K H xs ds → DpAll K H (xs.set i x) (ds.set i d)
  | _, _, _, .nil => .nil
  | _, _, 0, .cons _ t => .cons r t
  | _, _, i + 1, .cons q t => .cons q (DpAll.set r i t)
theorem DpAll.dropLast {xs : List V} {ds : List D} (h : DpAll K H xs ds) : DpAll K H xs.dropLast ds.dropLast := by
  rw [List.dropLast_eq_take, List.dropLast_eq_take, DpAll.length h]
  exact DpAll.take _ h
theorem Dp.int_inv {v : V} {i : Int} (h : Dp K H v (.int i)) : v = .int i := by cases h; rfl
theorem Dp.str_inv {v : V} {x : Str} (h : Dp K H v (.str x)) : v = .str x := by cases h; rfl
theorem Dp.yaV {v : V} {b : Bool} (h : Dp K H v (.bool b)) : v = .bl b := by cases h; rfl
theorem Dp.qdk {v : V} (h : Dp K H v .none) : v = .non := by cases h; rfl
theorem Dp.lst_inv {v : V} {ds : List D} (h : Dp K H v (.list ds)) : ∃ a xs, v = .ref a ∧ Rd H a (.lst xs) ∧ DpAll K H xs ds := by
  cases h with
  | lst h t => exact ⟨_, _, rfl, h, t⟩
theorem Dp.qR {v : V} {ds : List D} (h : Dp K H v (.tuple ds)) : ∃ a xs, v = .ref a ∧ SqT K H a xs ∧ DpAll K H xs ds := by
  cases h with
  | tup h t => exact ⟨_, _, rfl, h, t⟩
theorem DpAll.ints : ∀ {vs : List V} {ns : List Int}, DpAll K H vs (ns.map PyData.int) → vs = ns.map V.int
  | _, [], h => by cases h; rfl
  | _, n :: ns, h => by
    cases h with
    | cons a b =>
      rw [Dp.int_inv a, DpAll.ints b]
      rfl
theorem DpAll.of_ints : ∀ (ns : List Int), DpAll K H (ns.map V.int) (ns.map PyData.int)
  | [] => .nil
  | n :: ns => .cons (.int n) (DpAll.of_ints ns)
end
@[simp] def yu : D → Bool
  | .none => true | .bool _ => true | .int _ => true | .str _ => true
  | _ => false
theorem Dp.scalar {K : PySem.W.Frag} {H H' : Hp} {v : V} {d : D} (s : yu d = true) (h : Dp K H v d) : Dp K H' v d := by
  cases h with
  | non => exact .non
  | bl b => exact .bl b
  | int i => exact .int i
  | str x => exact .str x
  | lst _ _ => cases s
  | tup _ _ => cases s
  | scr _ => cases s
  | exc _ _ => cases s
theorem DpAll.scalar {K : PySem.W.Frag} {H H' : Hp} : ∀ {vs : List V} {ds : List D}, ds.all yu = true → DpAll K H vs ds → DpAll K H' vs ds
  | _, _, _, .nil => .nil
  | _, _, s, .cons h t => by
    rw [List.all_cons, Bool.and_eq_true] at s
    exact .cons (Dp.scalar s.1 h) (DpAll.scalar s.2 t)
inductive Cell where
  | set (ks : List (List Int)) | lst (ds : List D) | dic (ps : List (List Int × D))
def flB (Cl : Nat → Addr) : Bool := Cl 2000 == 0
def vbk (b : Bool) (a : Addr) (L : List (Addr × List Int)) : HO := .ext fun h => (∃ o es ep t, h.get? a = some o ∧ o.data = .set es ep t) ∧ ∀ (P : Program) (w : World), w.params.followText "set-order" = b → SetT0 P w h a L
def xX (L : List (List Int × Addr × V)) (xs : List (List Int × Addr × Value)) : Prop := Paired (fun p q => p.1 = q.1 ∧ p.2.1 = q.2.1 ∧ RelV p.2.2 q.2.2) L xs
def qbL (a : Addr) (L : List (List Int × Addr × V)) : HO := .ext fun h => (a == sysModules) = false ∧ ∃ (xs : List (List Int × Addr × Value)) (o : Obj) (es : Array DictEntry) (ep : Nat), xX L xs ∧ h.get? a = some o ∧ o.ExactDict ∧ o.data = .dict es ep ∧
  (∀ (P : Program) (w : World), es.toList = xs.map (entryOfKey (tupleKind (intKind P w)))) ∧ (xs.map (·.1)).Nodup
inductive wC (K : PySem.W.Frag) (Hs : Hp) : List (List Int × Addr × V) → List (List Int × D) → Prop
  | nil : wC K Hs [] []
  | cons {k : List Int} {b : Addr} {v : V} {d : D} {L : List (List Int × Addr × V)} {ps : List (List Int × D)} : SqT K Hs b (k.map V.int) → Dp K Hs v d → wC K Hs L ps → wC K Hs ((k, b, v) :: L) ((k, d) :: ps)
theorem wC.same {K : PySem.W.Frag} {Hs Hs' : Hp} (s : vc Hs Hs') : ∀ {L : List (List Int × Addr × V)} {ps : List (List Int × D)}, wC K Hs L ps → wC K Hs' L ps
  | _, _, .nil => .nil
  | _, _, .cons t h r => .cons (SqT.same s t) (Dp.same s h) (wC.same s r)
theorem kcF (a : Addr) (L : List (List Int × Addr × V)) (q : Str) : qbL a L ≠ LamX.CodeO a q := fun z => by
  unfold qbL LamX.CodeO at z
  have e := HO.ext.inj z
  have hg : (⟨Array.replicate (a + 1) { cls := .none, dict := none, data := .fields #[.none, .str q 0] }, {}⟩ : Heap).get? a = some { cls := .none, dict := none, data := .fields #[.none, .str q 0] } := by
    unfold Heap.get?
    dsimp only
    rw [Array.getElem?_replicate, if_pos (Nat.lt_succ_self a)]
  have k := cast (congrFun e _).symm ⟨_, _, _, hg, rfl, rfl⟩
  obtain ⟨_, xs, o, es, ep, _, h1, _, h2, _⟩ := k
  rw [hg] at h1
  cases h1
  cases h2
def kX (K : PySem.W.Frag) (Cl : Nat → Addr) (Hs : Hp) (a : Addr) (u : HO) : Cell → Prop
  | .dic ps => ∃ L, u = qbL a L ∧ wC K Hs L ps
  | .set ks => ∃ L, u = vbk (flB Cl) a L ∧ (∀ p ∈ L, SqT K Hs p.1 (p.2.map V.int)) ∧ (∀ k, k ∈ L.map (·.2) ↔ k ∈ ks) ∧ L.length ≤ ks.length
  | .lst ds => ∃ xs, u = .lst xs ∧ DpAll K Hs xs ds
theorem kX.same {K : PySem.W.Frag} {Cl : Nat → Addr} {Hs Hs' : Hp} {a : Addr} {u : HO} {c : Cell} (s : vc Hs Hs') (h : kX K Cl Hs a u c) : kX K Cl Hs' a u c := by
  cases c with
  | set ks =>
    obtain ⟨L, h1, h2, h3⟩ := h
    exact ⟨L, h1, fun p hp => SqT.same s (h2 p hp), h3⟩
  | lst ds =>
    obtain ⟨xs, h1, h2⟩ := h
    exact ⟨xs, h1, DpAll.same s h2⟩
  | dic ps =>
    obtain ⟨L, h1, h2⟩ := h
    exact ⟨L, h1, h2.same s⟩
theorem qcG (b : Bool) (a : Addr) (L : List (Addr × List Int)) (q : Str) : vbk b a L ≠ LamX.CodeO a q := fun z => by
  unfold vbk LamX.CodeO at z
  have e := HO.ext.inj z
  have hg : (⟨Array.replicate (a + 1) { cls := .none, dict := none, data := .fields #[.none, .str q 0] }, {}⟩ : Heap).get? a = some { cls := .none, dict := none, data := .fields #[.none, .str q 0] } := by
    unfold Heap.get?
    dsimp only
    rw [Array.getElem?_replicate, if_pos (Nat.lt_succ_self a)]
  have k := cast (congrFun e _).symm ⟨_, _, _, hg, rfl, rfl⟩
  obtain ⟨⟨o, es, ep, t, h1, h2⟩, _⟩ := k
  rw [hg] at h1
  cases h1
  cases h2
theorem kX.nt {K : PySem.W.Frag} {Cl : Nat → Addr} {Hs : Hp} {a : Addr} {u : HO} {c : Cell} (h : kX K Cl Hs a u c) : (∀ ps, u ≠ .tbl ps) ∧ ∀ q, u ≠ LamX.CodeO a q := by
  cases c with
  | set ks =>
    obtain ⟨L, rfl, h2, h3⟩ := h
    exact ⟨fun ps z => (by unfold vbk at z; cases z), fun q => qcG (flB Cl) a L q⟩
  | lst ds =>
    obtain ⟨xs, rfl, h2⟩ := h
    exact ⟨fun ps z => (by cases z), fun q z => (by unfold LamX.CodeO at z; cases z)⟩
  | dic ps =>
    obtain ⟨L, rfl, h2⟩ := h
    exact ⟨fun ps z => (by unfold qbL at z; cases z), fun q => kcF a L q⟩
theorem kX.nfz {K : PySem.W.Frag} {Cl : Nat → Addr} {Hs : Hp} {a : Addr} {u : HO} {c : Cell} (h : kX K Cl Hs a u c) : ∀ o v, u ≠ .frz o v := by
  cases c with
  | set ks =>
    obtain ⟨L, rfl, h2, h3⟩ := h
    exact fun o v z => (by unfold vbk at z; cases z)
  | lst ds =>
    obtain ⟨xs, rfl, h2⟩ := h
    exact fun o v z => (by cases z)
  | dic ps =>
    obtain ⟨L, rfl, h2⟩ := h
    exact fun o v z => (by unfold qbL at z; cases z)
theorem kX.ntb {K : PySem.W.Frag} {Cl : Nat → Addr} {Hs : Hp} {a : Addr} {u : HO} {c : Cell} (h : kX K Cl Hs a u c) : ntb u = true := by
  have n := h.nt.1
  cases u <;> first | rfl | exact absurd rfl (n _)
theorem Same.vX {Cl : Nat → Addr} {K : PySem.W.Frag} {H H' Hs : Hp} {a : Addr} {u : HO} {c : Cell} (s : Same Cl H H') (h : kX K Cl Hs a u c) (e : H a = some u) : H' a = some u := s.d a u e h.ntb
def xaM : Nat → List Str
  | 3000 => ["size", "piece", "total", "number", "kind", "stamp", "ticks", "skip", "rows", "tags", "spots", "named"]
  | 3001 => ["walk", "found", "contents", "stuck"]
  | _ => []
inductive OF where
  | dat (d : D) | dic (ps : List (Int × D)) | sub (k : Nat) (fs : List OF)
inductive vn (K : PySem.W.Frag) (Hs : Hp) : List (Key × V) → List (Int × D) → Prop
  | nil : vn K Hs [] []
  | cons {k : Int} {v : V} {d : D} {kvs : List (Key × V)} {ps : List (Int × D)} : Dp K Hs v d → vn K Hs kvs ps → vn K Hs ((.inl k, v) :: kvs) ((k, d) :: ps)
theorem vn.same {K : PySem.W.Frag} {Hs Hs' : Hp} (s : vc Hs Hs') : ∀ {kvs : List (Key × V)} {ps : List (Int × D)}, vn K Hs kvs ps → vn K Hs' kvs ps
  | _, _, .nil => .nil
  | _, _, .cons h t => .cons (Dp.same s h) (vn.same s t)
def xaV (K : PySem.W.Frag) (Hs : Hp) (v : V) : OF → Prop
  | .dat d => Dp K Hs v d
  | .dic ps => ∃ n kvs, v = .ref n ∧ Hs n = some (.dK kvs) ∧ vn K Hs kvs ps
  | .sub _ _ => False
def zcd (K : PySem.W.Frag) (Cl : Nat → Addr) (Hs : Hp) (v : V) : OF → Prop
  | .dat d => Dp K Hs v d
  | .dic ps => ∃ n kvs, v = .ref n ∧ Hs n = some (.dK kvs) ∧ vn K Hs kvs ps
  | .sub k fs => ∃ b dx vs, v = .ref b ∧ Hs b = some (.ins (Cl k) dx ((xaM k).zip vs)) ∧ vs.length = (xaM k).length ∧ fs.length = (xaM k).length ∧ ∀ (j : Nat) x, fs[j]? = some x → ∃ u, vs[j]? = some u ∧ xaV K Hs u x
theorem xaV.same {K : PySem.W.Frag} {Hs Hs' : Hp} {v : V} {x : OF} (m : vc Hs Hs') (h : xaV K Hs v x) : xaV K Hs' v x := by
  cases x with
  | dat d => exact Dp.same m h
  | dic ps =>
    obtain ⟨n, kvs, f1, f2, f3⟩ := h
    exact ⟨n, kvs, f1, m _ _ f2 rfl, f3.same m⟩
  | sub k fs => exact h
theorem xaV.up {K : PySem.W.Frag} {Cl : Nat → Addr} {Hs : Hp} {v : V} {x : OF} (h : xaV K Hs v x) : zcd K Cl Hs v x := by
  cases x with
  | dat d => exact h
  | dic ps => exact h
  | sub k fs => exact h.elim
structure zbY (K : PySem.W.Frag) (Cl : Nat → Addr) (Hs : Hp) (a : Addr) (k : Nat) (fs : List OF) : Prop where
  go : ∃ (dx : Addr) (vs : List V), Hs a = some (.ins (Cl k) dx ((xaM k).zip vs)) ∧ vs.length = (xaM k).length ∧ fs.length = (xaM k).length ∧ ∀ (j : Nat) x, fs[j]? = some x → ∃ v, vs[j]? = some v ∧ zcd K Cl Hs v x
def kat (K : PySem.W.Frag) (Cl : Nat → Addr) (Hs : Hp) (o : Option (Option V)) (k : Nat) (fs : List OF) : Prop := ∃ a, o = some (some (.ref a)) ∧ zbY K Cl Hs a k fs
theorem zbY.same {K : PySem.W.Frag} {Cl : Nat → Addr} {Hs Hs' : Hp} {a : Addr} {k : Nat} {fs : List OF} (m : vc Hs Hs') (q : zbY K Cl Hs a k fs) : zbY K Cl Hs' a k fs := by
  obtain ⟨dx, vs, e1, e2, e3, e4⟩ := q
  refine ⟨dx, vs, m _ _ e1 rfl, e2, e3, fun j x hx => ?_⟩
  obtain ⟨v, hv, hf⟩ := e4 j x hx
  refine ⟨v, hv, ?_⟩
  cases x with
  | dat d => exact Dp.same m hf
  | dic ps =>
    obtain ⟨n, kvs, f1, f2, f3⟩ := hf
    exact ⟨n, kvs, f1, m _ _ f2 rfl, f3.same m⟩
  | sub k2 fs2 =>
    obtain ⟨b, dx2, vs2, f1, f2, f3, f4, f5⟩ := hf
    exact ⟨b, dx2, vs2, f1, m _ _ f2 rfl, f3, f4, fun j2 x2 h2 => (f5 j2 x2 h2).imp fun u q => ⟨q.1, q.2.same m⟩⟩
theorem kat.same {K : PySem.W.Frag} {Cl : Nat → Addr} {Hs Hs' : Hp} {o : Option (Option V)} {k : Nat} {fs : List OF} (m : vc Hs Hs') (q : kat K Cl Hs o k fs) : kat K Cl Hs' o k fs := by
  obtain ⟨a, e, q⟩ := q
  exact ⟨a, e, q.same m⟩
inductive Slot where
  | un | dat (d : D) | own (ds : List D) | err (a dd : Addr) (i : Int) | ownT (a : Addr) (k : Nat) (ds : List D) | vX (a : Addr) (c : Cell) | pin (a : Addr) | ob (k : Nat) (fs : List OF)
abbrev xb := List Slot
def jq (σ : St) (ρ : xb) (i : Nat) (a : Addr) : Prop := (σ[i]? = some (some (.ref a)) ∧ ∃ ds, ρ[i]? = some (.own ds)) ∨ (∃ k ds, ρ[i]? = some (.ownT a k ds)) ∨ ∃ c, ρ[i]? = some (.vX a c)
def Slot.jaz : Slot → Prop
  | .own _ => True
  | .ownT _ _ _ => True
  | .vX _ _ => True
  | _ => False
structure kbd (K : PySem.W.Frag) (H Hs : Hp) (T a : Addr) (k : Nat) (ds : List D) : Prop where
  go : ∃ (xs ys : List V) (es : List D), SqT K Hs T xs ∧ DpAll K Hs (xs.set k .non) (ds.set k .none) ∧ xs[k]? = some (.ref a) ∧ ds[k]? = some (.list es) ∧ H a = some (.lst ys) ∧ DpAll K Hs ys es
def xo (σ : St) (ρ : xb) (a : Addr) : Prop := ∃ i, jq σ ρ i a
def Zo (Z : Addr → Prop) (σ : St) (ρ : xb) : Addr → Prop := fun b => Z b ∨ xo σ ρ b
def xbS (K : PySem.W.Frag) (Cl : Nat → Addr) (H Hs : Hp) (o : Option (Option V)) : Slot → Prop
  | .un => True
  | .dat d => ∃ v, o = some (some v) ∧ Dp K Hs v d
  | .own ds => ∃ a xs, o = some (some (.ref a)) ∧ H a = some (.lst xs) ∧ DpAll K Hs xs ds
  | .err a dd i => o = some (some (.ref a)) ∧ H dd = some (.xd [(("at" : Str), .int i)])
  | .ownT a k ds => ∃ T, o = some (some (.ref T)) ∧ kbd K H Hs T a k ds
  | .vX a c => o = some (some (.ref a)) ∧ ∃ u, H a = some u ∧ kX K Cl Hs a u c
  | .pin a => o = some (some (.ref a))
  | .ob k fs => kat K Cl Hs o k fs
structure DI (K : PySem.W.Frag) (Cl : Nat → Addr) (Z : Addr → Prop) (H : Hp) (σ : St) (ρ : xb) : Prop where
  len : ρ.length = σ.length
  one : ∀ i j a, jq σ ρ i a → jq σ ρ j a → i = j
  out : ∀ a, xo σ ρ a → ¬ Z a
  live : ∀ a, Z a → H a ≠ none
  slots : ∀ (i : Nat) s, ρ[i]? = some s → xbS K Cl H (hide H (Zo Z σ ρ)) (σ[i]?) s
  tb : TBl Cl H
section
variable {K : PySem.W.Frag} {Cl : Nat → Addr} {Z : Addr → Prop} {H H' : Hp} {σ : St} {ρ : xb}
theorem DI.jcd (I : DI K Cl Z H σ ρ) {a : Addr} (h : xo σ ρ a) : H a ≠ none := by
  obtain ⟨i, ⟨h1, ds, h2⟩ | ⟨k, ds, h2⟩ | ⟨c, h2⟩⟩ := h
  · obtain ⟨b, xs, e, hb, _⟩ := I.slots i _ h2
    rw [h1] at e
    cases e
    rw [hb]
    intro z; cases z
  · obtain ⟨T, e, ⟨xs, ys, es, _, _, _, _, hb, _⟩⟩ := I.slots i _ h2
    rw [hb]
    intro z; cases z
  · obtain ⟨_, u, hb, _⟩ := I.slots i _ h2
    rw [hb]
    intro z; cases z
theorem DI.qal (I : DI K Cl Z H σ ρ) {a : Addr} (h : Zo Z σ ρ a) : H a ≠ none := by
  rcases h with h | h
  · exact I.live a h
  · exact I.jcd h
theorem kbd.same {Hs Hs' : Hp} {T a : Addr} {k : Nat} {ds : List DL.D} (m : vc Hs Hs') (h : ∀ ys, H a = some (.lst ys) → H' a = some (.lst ys)) (t : kbd K H Hs T a k ds) : kbd K H' Hs' T a k ds := by
  obtain ⟨xs, ys, es, h1, h2, h3, h4, h5, h6⟩ := t
  exact ⟨xs, ys, es, SqT.same m h1, DpAll.same m h2, h3, h4, h _ h5, DpAll.same m h6⟩
theorem DI.same (I : DI K Cl Z H σ ρ) (s : Same Cl H H') : DI K Cl Z H' σ ρ := by
  refine ⟨I.len, I.one, I.out, fun a h => s.live a (I.live a h), fun i sl e => ?_, s.tb I.tb⟩
  · have q := I.slots i sl e
    have m : vc (hide H (Zo Z σ ρ)) (hide H' (Zo Z σ ρ)) := vw s fun b h => .inl h
    cases sl with
    | un => trivial
    | dat d =>
      obtain ⟨v, e1, h⟩ := q
      exact ⟨v, e1, Dp.same m h⟩
    | own ds =>
      obtain ⟨a, xs, e1, e2, h⟩ := q
      exact ⟨a, xs, e1, s.at e2, DpAll.same m h⟩
    | err a dd j => exact ⟨q.1, s.at q.2⟩
    | ownT a k ds =>
      obtain ⟨T, e1, h⟩ := q
      exact ⟨T, e1, h.same m fun _ z => s.at z⟩
    | pin a => exact q
    | ob k fs => exact kat.same m q
    | vX a c =>
      obtain ⟨e1, u, e2, h⟩ := q
      exact ⟨e1, u, s.vX h e2, h.same m⟩
end
inductive Val where
  | s (d : D) | m (d : D) | b (ds : List D) | f (ds : List D)
@[simp] def Val.d : Val → D
  | .s d => d
  | .m d => d
  | .b ds => .list ds
  | .f ds => .list ds
abbrev Er := Nat × Int
abbrev FE := xb → Option (Except Er Val)
def ZP (Z : Addr → Prop) (p : Addr) : Addr → Prop := fun b => Z b ∨ b = p
def vA (K : PySem.W.Frag) (Z : Addr → Prop) (σ : St) (ρ : xb) (H H1 : Hp) (x : V) : Val → Prop
  | .s d => Dp K (hide H1 (Zo Z σ ρ)) x d
  | .m d => Dp K (hide H1 Z) x d
  | .b ds => ∃ p xs, x = .ref p ∧ xo σ ρ p ∧ H1 p = some (.lst xs) ∧ DpAll K (hide H1 (Zo Z σ ρ)) xs ds
  | .f ds => ∃ p xs, x = .ref p ∧ H p = none ∧ H1 p = some (.lst xs) ∧ DpAll K (hide H1 (ZP (Zo Z σ ρ) p)) xs ds
def jaa (Cl : Nat → Addr) (W : WX) (σ : St) (H : Hp) (e : Er) : Prop :=
  ∀ dd H', Same Cl H H' → H' dd = some (.xd [(("at" : Str), .int e.2)]) → W (.ref (Cl e.1)) (some dd) σ H'
def ROk (K : PySem.W.Frag) (Cl : Nat → Addr) (W : WX) (Z : Addr → Prop) (σ : St) (ρ : xb) (H : Hp) (Q : VK) : Except Er Val → Prop
  | .ok v => ∀ x H', Same Cl H H' → vA K Z σ ρ H H' x v → Q x H'
  | .error e => jaa Cl W σ H e
def qau (K : PySem.W.Frag) (Cl : Nat → Addr) (W : WX) (f : FE) : TE := fun σ H Q => ∃ Z ρ r, DI K Cl Z H σ ρ ∧ f ρ = some r ∧ ROk K Cl W Z σ ρ H Q r
def DE (X : Cx) (Cl : Nat → Addr) (W : WX) (e : Expr) (f : FE) : Prop := PE X e (qau X.K Cl W f)
theorem PE.imp {X : Cx} {e : Expr} {t t' : TE} (h : PE X e t) (i : ∀ σ H Q, t' σ H Q → t σ H Q) : PE X e t' := ⟨fun pins s σ H Q I q => h.run pins s σ H Q I (i σ H Q q)⟩
theorem PT.imp {X : Cx} {e : Expr} {t t' : TT} (h : PT X e t) (i : ∀ σ H Q, t' σ H Q → t σ H Q) : PT X e t' := ⟨fun pins s σ H Q I q => h.run pins s σ H Q I (i σ H Q q)⟩
theorem PW.imp {X : Cx} {e : Expr} {t t' : TT} (h : PW X e t) (i : ∀ σ H Q, t' σ H Q → t σ H Q) : PW X e t' := ⟨fun wh pins s σ H Q I q => h.run wh pins s σ H Q I (i σ H Q q)⟩
theorem PA.imp {X : Cx} {e : List Expr} {t t' : TA} (h : PA X e t) (i : ∀ σ H Q, t' σ H Q → t σ H Q) : PA X e t' := ⟨fun pos pins s σ H Q I q => h.run pos pins s σ H Q I (i σ H Q q)⟩
theorem PS.imp {X : Cx} {e : Stmt} {t t' : TS} (h : PS X e t) (i : ∀ D σ H, t' D σ H → t D σ H) : PS X e t' := ⟨fun pins s σ H D I q => h.run pins s σ H D I (i D σ H q)⟩
theorem PSs.imp {X : Cx} {e : List Stmt} {t t' : TS} (h : PSs X e t) (i : ∀ D σ H, t' D σ H → t D σ H) : PSs X e t' := ⟨fun pins s σ H D I q => h.run pins s σ H D I (i D σ H q)⟩
section
variable {K : PySem.W.Frag} {Cl : Nat → Addr} {W : WX} {Z : Addr → Prop} {H H' H1 H2 : Hp} {σ : St} {ρ : xb} {Q : VK}
theorem vA.same {x : V} {v : Val} (s : Same Cl H1 H2) (h : vA K Z σ ρ H H1 x v) : vA K Z σ ρ H H2 x v := by
  cases v with
  | s d => exact Dp.same (vw s fun _ h => .inl h) h
  | m d => exact Dp.same (vw s fun _ h => .inl h) h
  | b ds =>
    obtain ⟨p, xs, e, n, h1, h2⟩ := h
    exact ⟨p, xs, e, n, s.at h1, DpAll.same (vw s fun _ h => .inl h) h2⟩
  | f ds =>
    obtain ⟨p, xs, e, n, h1, h2⟩ := h
    exact ⟨p, xs, e, n, s.at h1, DpAll.same (vw s fun _ h => .inl h) h2⟩
theorem vA.back {x : V} {v : Val} (s : Same Cl H H1) (h : vA K Z σ ρ H1 H2 x v) : vA K Z σ ρ H H2 x v := by
  cases v with
  | s d => exact h
  | m d => exact h
  | b ds => exact h
  | f ds =>
    obtain ⟨p, xs, e, n, h1, h2⟩ := h
    exact ⟨p, xs, e, s.free n, h1, h2⟩
theorem vA.dp {x : V} {v : Val} (I : DI K Cl Z H σ ρ) (h : vA K Z σ ρ H H1 x v) : Dp K (hide H1 Z) x v.d := by
  cases v with
  | s d => exact Dp.same (qe (vc.refl _) fun _ h => .inl (.inl h)) h
  | m d => exact h
  | b ds =>
    obtain ⟨p, xs, rfl, n, h1, h2⟩ := h
    exact .lst (Rd.of (xg (I.out p n) h1)) (DpAll.same (qe (vc.refl _) fun _ h => .inl (.inl h)) h2)
  | f ds =>
    obtain ⟨p, xs, rfl, n, h1, h2⟩ := h
    have np : ¬ Z p := fun z => I.live p z n
    exact .lst (Rd.of (xg np h1)) (DpAll.same (qe (vc.refl _) fun _ h => .inl (.inl (.inl h))) h2)
@[simp] def Val.st : Val → Option D
  | .s d => some d
  | .m d => if yu d = true then some d else none
  | .b _ => none
  | .f ds => some (.list ds)
theorem vA.stab {x : V} {v : Val} {d : D} (I : DI K Cl Z H σ ρ) (e : v.st = some d) (h : vA K Z σ ρ H H1 x v) : Dp K (hide H1 (Zo Z σ ρ)) x d := by
  cases v with
  | s d' => cases e; exact h
  | m d' =>
    simp only [Val.st] at e
    split at e
    · rename_i sc
      cases e
      exact Dp.scalar sc h
    · cases e
  | b ds => cases e
  | f ds =>
    cases e
    obtain ⟨p, xs, rfl, n, h1, h2⟩ := h
    have np : ¬ Zo Z σ ρ p := fun z => I.qal z n
    exact .lst (Rd.of (xg np h1)) (DpAll.same (qe (vc.refl _) fun _ h => .inl (.inl h)) h2)
theorem jaa.same {e : Er} (s : Same Cl H H1) (h : jaa Cl W σ H e) : jaa Cl W σ H1 e := fun dd H' s' => h dd H' (s.trans s')
theorem ROk.from {r : Except Er Val} (s : Same Cl H H1) (h : ROk K Cl W Z σ ρ H Q r) : ROk K Cl W Z σ ρ H1 Q r := by
  cases r with
  | error e => exact jaa.same s h
  | ok v => exact fun x H' s' hv => h x H' (s.trans s') (hv.back s)
end
@[simp] def bE (f : FE) (k : Val → FE) (ρ : xb) : Option (Except Er Val) := match f ρ with
  | none => none
  | some (.error e) => some (.error e)
  | some (.ok v) => k v ρ
@[simp] def ok (d : D) : Option (Except Er Val) := some (.ok (.s d))
theorem kaG {K : PySem.W.Frag} {Cl : Nat → Addr} {W : WX} {Z : Addr → Prop} {H : Hp} {σ : St} {ρ : xb} {Q Q1 : VK} {f : FE} {k : Val → FE} {r : Except Er Val} (I : DI K Cl Z H σ ρ) (h : bE f k ρ = some r) (q : ROk K Cl W Z σ ρ H Q r)
    (go : ∀ v x H1, f ρ = some (.ok v) → k v ρ = some r → Same Cl H H1 → vA K Z σ ρ H H1 x v → DI K Cl Z H1 σ ρ → ROk K Cl W Z σ ρ H1 Q r → Q1 x H1) : qau K Cl W f σ H Q1 := by
  unfold bE at h
  cases e : f ρ with
  | none => rw [e] at h; cases h
  | some r1 =>
    rw [e] at h
    cases r1 with
    | error er =>
      cases h
      exact ⟨Z, ρ, .error er, I, e, q⟩
    | ok v => exact ⟨Z, ρ, .ok v, I, e, fun x H1 s hv => go v x H1 e h s hv (I.same s) (q.from s)⟩
theorem ROk.scalar {K : PySem.W.Frag} {Cl : Nat → Addr} {W : WX} {Z : Addr → Prop} {H : Hp} {σ : St} {ρ : xb} {Q : VK} {d : D} {v : V} (q : ROk K Cl W Z σ ρ H Q (.ok (.s d))) (h : ∀ H', Dp K H' v d) : Q v H := q v H (Same.refl _) (h _)
section
variable {X : Cx} {Cl : Nat → Addr} {W : WX} {a b c e : Expr} {es : List Expr} {fa fb fc f : FE} {pos : Pos}
@[simp] def eC (d : D) (ρ : xb) : Option (Except Er Val) := ok d
theorem qaH {v : V} {d : D} (h : PE X e (tC v)) (hv : ∀ H, Dp X.K H v d) : DE X Cl W e (eC d) :=
  PE.imp h fun σ H Q ⟨Z, ρ, r, I, e, q⟩ => by cases e; exact q.scalar hv
theorem ya {i : Int} {j pos} : DE X Cl W (.Constant (.int i) j pos) (eC (.int i)) := qaH pe_int fun _ => .int i
theorem wdC {i : Bool} {j pos} : DE X Cl W (.Constant (.bool i) j pos) (eC (.bool i)) := qaH pe_bl fun _ => .bl i
theorem jG {j pos} : DE X Cl W (.Constant .none j pos) (eC .none) := qaH pe_non fun _ => .non
theorem xy {i : Str} {j pos} : DE X Cl W (.Constant (.str i) j pos) (eC (.str i)) := qaH pe_str fun _ => .str i
theorem qi {x : Str} {i : Int} {t : Tok} (hm : X.mg x = some (.int i t)) (hg : Gl X x := by rfl) (hd : (x == ("__debug__" : Str)) = false := by decide) : DE X Cl W (.Name x pos) (eC (.int i)) := qaH (pe_glob (v := .int i) hg hm ⟨t, rfl⟩ hd) fun _ => .int i
theorem kce {x : Str} {p : Addr} {d : D} (hm : X.mg x = some (.ref p)) (ht : ∀ H, Dp X.K H (.ref p) d) (hg : Gl X x := by rfl) (hd : (x == ("__debug__" : Str)) = false := by decide) : DE X Cl W (.Name x pos) (eC d) := qaH (pe_glob (v := .ref p) hg hm rfl hd) ht
@[simp] def eV (i : Nat) (ρ : xb) : Option (Except Er Val) := match ρ[i]? with
  | some (.dat d) => ok d
  | some (.own ds) => some (.ok (.b ds))
  | some (.ownT _ _ ds) => some (.ok (.m (.tuple ds)))
  | _ => none
theorem kbd.read {K : PySem.W.Frag} {Z : Addr → Prop} {H : Hp} {σ : St} {ρ : xb} {T a : Addr} {k : Nat} {ds : List D} (I : DI K Cl Z H σ ρ) (o : xo σ ρ a) (t : kbd K H (hide H (Zo Z σ ρ)) T a k ds) : Dp K (hide H Z) (.ref T) (.tuple ds) := by
  obtain ⟨xs, ys, es, h1, h2, h3, h4, h5, h6⟩ := t
  have m : vc (hide H (Zo Z σ ρ)) (hide H Z) := qe (vc.refl _) fun _ h => .inl (.inl h)
  refine .tup (SqT.same m h1) ?_
  have hl : Dp K (hide H Z) (.ref a) (.list es) := .lst (Rd.of (xg (I.out a o) h5)) (DpAll.same m h6)
  have q := DpAll.set hl k (DpAll.same m h2)
  rw [List.set_set, List.set_set] at q
  obtain ⟨hk, e3⟩ := List.getElem?_eq_some_iff.mp h3
  obtain ⟨hk2, e4⟩ := List.getElem?_eq_some_iff.mp h4
  have r3 : xs.set k (.ref a) = xs := by rw [← e3]; exact List.set_getElem_self hk
  have r4 : ds.set k (.list es) = ds := by rw [← e4]; exact List.set_getElem_self hk2
  rw [r3, r4] at q
  exact q
theorem za {i : Nat} {x : Str} (h : PE X (.Name x pos) (tVar i)) : DE X Cl W (.Name x pos) (eV i) := PE.imp h fun σ H Q ⟨Z, ρ, r, I, e, q⟩ => by
  unfold eV at e
  split at e
  · rename_i d hd
    cases e
    obtain ⟨v, hv, hp⟩ := I.slots i _ hd
    exact ⟨v, hv, q v H (Same.refl _) hp⟩
  · rename_i ds hd
    cases e
    obtain ⟨p, xs, hv, hp, hds⟩ := I.slots i _ hd
    exact ⟨_, hv, q _ H (Same.refl _) ⟨p, xs, rfl, ⟨i, .inl ⟨hv, ds, hd⟩⟩, hp, hds⟩⟩
  · rename_i a k ds hd
    cases e
    obtain ⟨T, hv, t⟩ := I.slots i _ hd
    exact ⟨_, hv, q _ H (Same.refl _) (t.read I ⟨i, .inr (.inl ⟨k, ds, hd⟩)⟩)⟩
  · cases e
def R2D (K : PySem.W.Frag) (r : R2) (g : Val → Val → Option Val) : Prop := ∀ (Cl : Nat → Addr) (Z : Addr → Prop) (σ : St) (ρ : xb) (H0 H : Hp) (x y : V) (a b v : Val) (Q : VK), DI K Cl Z H0 σ ρ → Same Cl H0 H → vA K Z σ ρ H0 H x a → vA K Z σ ρ H0 H y b → g a b = some v →
  (∀ z H', Same Cl H H' → vA K Z σ ρ H0 H' z v → Q z H') → r x y H Q
def e2 (g : Val → Val → Option Val) (fa fb : FE) : FE := bE fa fun a => bE fb fun b _ => (g a b).map .ok
theorem qcf {r : R2} {g : Val → Val → Option Val} (h : PE X e (tOp r (qau X.K Cl W fa) (qau X.K Cl W fb))) (hr : R2D X.K r g) : DE X Cl W e (e2 g fa fb) := PE.imp h fun σ H Q ⟨Z, ρ, r1, I, e, q⟩ => by
  refine kaG I e q fun v x H1 _ h1 s1 hv I1 q1 => kaG I1 h1 q1 fun u y H2 _ h2 s2 hu I2 q2 => ?_
  cases hg : g v u with
  | none => rw [hg] at h2; cases h2
  | some w =>
    rw [hg] at h2
    cases h2
    exact hr Cl Z σ ρ H H2 x y v u w Q I (s1.trans s2) (hv.same s2) (hu.back s1) hg fun z H' s' hz => q z H' (s1.trans (s2.trans s')) hz
theorem zaJ {op : Operator} {r : R2} {g : Val → Val → Option Val} (ho : OpR X (binaryOp op) r) (hr : R2D X.K r g) (ha : DE X Cl W a fa) (hb : DE X Cl W b fb) : DE X Cl W (.BinOp a op b pos) (e2 g fa fb) := qcf (pe_op ho ha hb) hr
theorem wcT {op : CmpOp} {r : R2} {g : Val → Val → Option Val} (ho : OpR X (compareOp op) r) (hr : R2D X.K r g) (ha : DE X Cl W a fa) (hb : DE X Cl W b fb) (hm : behindInMarks op b = false) : DE X Cl W (.Compare a [op] [b] pos) (e2 g fa fb) := qcf (pe_cmpR ho ha hb hm) hr
theorem R2D.or {K : PySem.W.Frag} {r r' : R2} {g g' : Val → Val → Option Val} (h : R2D K r g) (h' : R2D K r' g') : R2D K (fun x y H Q => r x y H Q ∨ r' x y H Q) (fun a b => (g a b).or (g' a b)) := fun Cl Z σ ρ H0 H x y a b v Q I s ha hb e q => by
  have e : (g a b).or (g' a b) = some v := e
  cases hg : g a b with
  | some w =>
    rw [hg] at e
    cases e
    exact .inl (h Cl Z σ ρ H0 H x y a b _ Q I s ha hb hg q)
  | none =>
    rw [hg] at e
    exact .inr (h' Cl Z σ ρ H0 H x y a b _ Q I s ha hb e q)
@[simp] def gI (F : Int → Int → D) (a b : Val) : Option Val := match a.d, b.d with
  | .int i, .int j => some (.s (F i j))
  | _, _ => none
@[simp] def gIc (C : Int → Int → Bool) (F : Int → Int → D) (a b : Val) : Option Val := match a.d, b.d with
  | .int i, .int j => if C i j = true then some (.s (F i j)) else none
  | _, _ => none
variable {K : PySem.W.Frag} {Cl : Nat → Addr}
theorem vA.int_inv {Z : Addr → Prop} {σ : St} {ρ : xb} {H0 H : Hp} {x : V} {a : Val} {i : Int} (I : DI K Cl Z H0 σ ρ) (h : vA K Z σ ρ H0 H x a) (e : a.d = .int i) : x = .int i := by
  have q := h.dp I
  rw [e] at q
  exact q.int_inv
theorem vA.str_inv {Z : Addr → Prop} {σ : St} {ρ : xb} {H0 H : Hp} {x : V} {a : Val} {i : Str} (I : DI K Cl Z H0 σ ρ) (h : vA K Z σ ρ H0 H x a) (e : a.d = .str i) : x = .str i := by
  have q := h.dp I
  rw [e] at q
  exact q.str_inv
theorem vA.yaV {Z : Addr → Prop} {σ : St} {ρ : xb} {H0 H : Hp} {x : V} {a : Val} {i : Bool} (I : DI K Cl Z H0 σ ρ) (h : vA K Z σ ρ H0 H x a) (e : a.d = .bool i) : x = .bl i := by
  have q := h.dp I
  rw [e] at q
  exact q.yaV
theorem ybQ {g : Int → Int → V} {F : Int → Int → D} (h : ∀ i j H, Dp K H (g i j) (F i j)) : R2D K (rI0 g) (gI F) := fun Cl Z σ ρ H0 H x y a b v Q I s ha hb e q => by
  unfold gI at e
  split at e
  · rename_i i j e1 e2
    cases e
    exact ⟨i, j, ha.int_inv I e1, hb.int_inv I e2, q _ H (Same.refl _) (h i j _)⟩
  · cases e
theorem zbL {C : Int → Int → Prop} {c : Int → Int → Bool} {g : Int → Int → V} {F : Int → Int → D} (hc : ∀ i j, c i j = true → C i j) (h : ∀ i j H, Dp K H (g i j) (F i j)) : R2D K (rI C g) (gIc c F) := fun Cl Z σ ρ H0 H x y a b v Q I s ha hb e q => by
  unfold gIc at e
  split at e
  · rename_i i j e1 e2
    split at e
    · rename_i hcc
      cases e
      exact ⟨i, j, ha.int_inv I e1, hb.int_inv I e2, hc i j hcc, q _ H (Same.refl _) (h i j _)⟩
    · cases e
  · cases e
def vbY (i j : Int) : Bool := decide (0 < j) && decide (j < 1073741824)
def ycG (i j : Int) : Bool := decide (0 < j)
def xbk (i j : Int) : Bool := (decide (-(2 ^ 64) < i) && decide (i < 2 ^ 64)) || (decide (-(2 ^ 64) < j) && decide (j < 2 ^ 64))
def ya6 (i j : Int) : Bool := decide (0 ≤ j) && (decide (j ≤ 1000000) && decide (i.natAbs < 2 ^ 64))
def ybY (i j : Int) : Bool := decide (0 ≤ j)
@[simp] def jt (a b : Val) : Option Val := (gIc xbk fun i j => .int (i * j)) a b
@[simp] def xbA (a b : Val) : Option Val := (gIc vbY fun i j => .int (i / j)) a b
@[simp] def qam (a b : Val) : Option Val := (gIc ycG fun i j => .int (i % j)) a b
@[simp] def kc2 (a b : Val) : Option Val := (gIc ya6 fun i j => .int (i ^ j.toNat)) a b
@[simp] def kag (a b : Val) : Option Val := (gIc ya6 fun i j => .int (i * 2 ^ j.toNat)) a b
@[simp] def xC (a b : Val) : Option Val := (gIc ybY fun i j => .int (i / 2 ^ j.toNat)) a b
@[simp] def gSub (a b : Val) : Option Val := (gI fun i j => .int (i - j)) a b
@[simp] def xcG (a b : Val) : Option Val := (gI fun i j => .int (i + j)) a b
@[simp] def qw (a b : Val) : Option Val := (gI fun i j => .int (Builtin.bitAnd i j)) a b
@[simp] def gOr (a b : Val) : Option Val := (gI fun i j => .int (Builtin.bitOr i j)) a b
@[simp] def qah (a b : Val) : Option Val := (gI fun i j => .int (Builtin.bitXor i j)) a b
@[simp] def gLt (a b : Val) : Option Val := (gI fun i j => .bool (decide (i < j))) a b
@[simp] def gLe (a b : Val) : Option Val := (gI fun i j => .bool (decide (i ≤ j))) a b
@[simp] def gGt (a b : Val) : Option Val := (gI fun i j => .bool (decide (j < i))) a b
@[simp] def gGe (a b : Val) : Option Val := (gI fun i j => .bool (decide (j ≤ i))) a b
theorem jcD (i j : Int) (h : ya6 i j = true) : CPow i j := by
  simp only [ya6, Bool.and_eq_true, decide_eq_true_eq] at h
  exact ⟨h.1, h.2.1, h.2.2⟩
theorem wdk (i j : Int) (h : xbk i j = true) : CMul i j := by
  simp only [xbk, Bool.and_eq_true, Bool.or_eq_true, decide_eq_true_eq] at h
  exact h
theorem vdk (i j : Int) (h : vbY i j = true) : CDiv i j := by
  simp only [vbY, Bool.and_eq_true, decide_eq_true_eq] at h
  exact h
theorem qaW (ha : DE X Cl W a fa) (hb : DE X Cl W b fb) : DE X Cl W (.BinOp a .Sub b pos) (e2 gSub fa fb) := zaJ op_sub (ybQ fun i j _ => .int _) ha hb
theorem jI (ha : DE X Cl W a fa) (hb : DE X Cl W b fb) : DE X Cl W (.BinOp a .Mult b pos) (e2 jt fa fb) := zaJ op_mul (zbL wdk fun i j _ => .int _) ha hb
theorem vcT (ha : DE X Cl W a fa) (hb : DE X Cl W b fb) : DE X Cl W (.BinOp a .FloorDiv b pos) (e2 xbA fa fb) := zaJ op_fdiv (zbL vdk fun i j _ => .int _) ha hb
theorem zaW (ha : DE X Cl W a fa) (hb : DE X Cl W b fb) : DE X Cl W (.BinOp a .Mod b pos) (e2 qam fa fb) := zaJ op_mod (zbL (fun _ _ h => of_decide_eq_true h) fun i j _ => .int _) ha hb
theorem vdq (ha : DE X Cl W a fa) (hb : DE X Cl W b fb) : DE X Cl W (.BinOp a .Pow b pos) (e2 kc2 fa fb) := zaJ op_pow (zbL jcD fun i j _ => .int _) ha hb
theorem qaL (ha : DE X Cl W a fa) (hb : DE X Cl W b fb) : DE X Cl W (.BinOp a .LShift b pos) (e2 kag fa fb) := zaJ op_shl (zbL jcD fun i j _ => .int _) ha hb
theorem vS (ha : DE X Cl W a fa) (hb : DE X Cl W b fb) : DE X Cl W (.BinOp a .RShift b pos) (e2 xC fa fb) := zaJ op_shr (zbL (fun _ _ h => of_decide_eq_true h) fun i j _ => .int _) ha hb
theorem jE (ha : DE X Cl W a fa) (hb : DE X Cl W b fb) : DE X Cl W (.BinOp a .BitAnd b pos) (e2 qw fa fb) := zaJ op_and (ybQ fun i j _ => .int _) ha hb
theorem zaL (ha : DE X Cl W a fa) (hb : DE X Cl W b fb) : DE X Cl W (.BinOp a .BitXor b pos) (e2 qah fa fb) := zaJ op_xor (ybQ fun i j _ => .int _) ha hb
@[simp] def kbk (a : Val) : Option Val := match a.d with
  | .int i => some (.s (.int (-i)))
  | _ => none
def e1 (g : Val → Option Val) (fa : FE) : FE := bE fa fun a _ => (g a).map .ok
theorem zcf (ha : DE X Cl W a fa) : DE X Cl W (.UnaryOp .USub a pos) (e1 kbk fa) := PE.imp (pe_un un_neg ha) fun σ H Q ⟨Z, ρ, r1, I, e, q⟩ => by
  refine kaG I e q fun v x H1 _ h1 s1 hv I1 q1 => ?_
  unfold kbk at h1
  split at h1
  · rename_i i e1
    cases h1
    exact ⟨i, hv.int_inv I e1, q _ H1 s1 (.int _)⟩
  · cases h1
@[simp] def Val.items : Val → Option (List D)
  | .s (.list ds) => some ds
  | .m (.list ds) => if ds.all yu = true then some ds else none
  | .b ds => some ds
  | .f ds => some ds
  | _ => none
theorem vA.items {Z : Addr → Prop} {σ : St} {ρ : xb} {H0 H : Hp} {x : V} {a : Val} {ds : List D} (I : DI K Cl Z H0 σ ρ) (e : a.items = some ds) (h : vA K Z σ ρ H0 H x a) : ∃ p xs, x = .ref p ∧ Rd H p (.lst xs) ∧ DpAll K (hide H (Zo Z σ ρ)) xs ds := by
  cases a with
  | s d =>
    cases d with
    | list ys =>
      cases e
      obtain ⟨p, xs, rfl, h1, h2⟩ := Dp.lst_inv (show Dp K (hide H (Zo Z σ ρ)) x (.list ds) from h)
      exact ⟨p, xs, rfl, Rd.same wj h1, h2⟩
    | _ => cases e
  | m d =>
    cases d with
    | list ys =>
      simp only [Val.items] at e
      split at e
      · rename_i sc
        cases e
        obtain ⟨p, xs, rfl, h1, h2⟩ := Dp.lst_inv (show Dp K (hide H Z) x (.list ds) from h)
        exact ⟨p, xs, rfl, Rd.same wj h1, DpAll.scalar sc h2⟩
      · cases e
    | _ => cases e
  | b ys =>
    cases e
    obtain ⟨p, xs, rfl, n, h1, h2⟩ := h
    exact ⟨p, xs, rfl, Rd.of h1, h2⟩
  | f ys =>
    cases e
    obtain ⟨p, xs, rfl, n, h1, h2⟩ := h
    exact ⟨p, xs, rfl, Rd.of h1, DpAll.same (qe (vc.refl _) fun _ h => .inl (.inl h)) h2⟩
theorem Rd.lstM {pins : List (Addr × Obj)} {σ : St} {H : Hp} {s : Shared} {l : Addr} {xs : List V} (I : Inv X pins σ H s) (hH : Rd H l (.lst xs)) : xs.length ≤ sizeLine ∧ ∃ (its : List Value) (n : Nat), Vals xs its ∧ xs.length = its.length ∧ s.heap.get? l = some { cls := .type "list", data := .seq its.toArray n } := by
  obtain ⟨z, its, n, r, e⟩ := (show ObjOk X.prog X.w H s.heap l (.lst xs) from hH.ok I.hok)
  exact ⟨z, its, n, r, r.length, e⟩
def wc8 : R2 := fun x y H Q => ∃ l b xs zs, x = .ref l ∧ y = .ref b ∧ Rd H l (.lst xs) ∧ Rd H b (.lst zs) ∧ xs.length + zs.length ≤ sizeLine ∧ ∀ p, H p = none → Q (.ref p) (upd H p (.lst (xs ++ zs)))
theorem ydk : OpR X (binaryOp .Add) wc8 := by
  intro pins s σ H x y v u Q I rx ry h
  obtain ⟨l, b, xs, zs, rfl, rfl, hH, hB, hz, q⟩ := h
  cases rx
  cases ry
  obtain ⟨z, its, n, r, hl, e⟩ := Rd.lstM I hH
  obtain ⟨z2, its2, n2, r2, hl2, e2⟩ := Rd.lstM I hB
  refine PySem.P.add_list e e2 ?_ (by rw [List.size_toArray, List.size_toArray]; omega)
  have ea : its.toArray ++ its2.toArray = (its ++ its2).toArray := by simp
  rw [ea]
  exact ⟨.ref _, _, I.lnew (t' := s.toks) (r.append r2) (by rw [List.length_append]; omega), rfl, q _ I.fresh⟩
theorem jS {H : Hp} {p : Addr} {o : HO} (h : H p = none) : vc H (upd H p o) := fun b x e _ => by
  rw [upd_ne (ne_of_none e h)]
  exact e
theorem yC {Cl : Nat → Addr} {H : Hp} {p : Addr} {o : HO} (h : H p = none) (hn : ∀ o' xs, o ≠ .frz o' (.lst xs) := by first | (intro _ _ z; cases z) | (intro _ _ z; unfold vbk at z; cases z) | (intro _ _ z; unfold SetO at z; cases z)) : Same Cl H (upd H p o) := .of (fun b x e => by
  rw [upd_ne (ne_of_none e h)]
  exact e) fun b o' xs e => by
  by_cases z : b = p
  · rw [z, upd_same] at e
    exact absurd (Option.some.inj e) (hn _ _)
  · rw [upd_ne z] at e
    exact e
theorem vA.new {Z : Addr → Prop} {σ : St} {ρ : xb} {H0 H : Hp} {p : Addr} {xs : List V} {ds : List D} (s : Same Cl H0 H) (n : H p = none) (h : DpAll K (hide H (Zo Z σ ρ)) xs ds) : vA K Z σ ρ H0 (upd H p (.lst xs)) (.ref p) (.f ds) :=
  ⟨p, xs, rfl, s.free n, upd_same, DpAll.same (qe (jS n) fun b hb => by
    rcases hb with hb | rfl
    · exact .inl hb
    · exact .inr n) h⟩
def zz (n : Nat) : Bool := decide (n ≤ 16777216)
theorem yS {n : Nat} (h : zz n = true) : n ≤ sizeLine := by
  rw [sizeLine_eq]
  exact of_decide_eq_true h
@[simp] def jcf (a b : Val) : Option Val := match a.items, b.items with
  | some xs, some ys => if zz (xs.length + ys.length) = true then some (.f (xs ++ ys)) else none
  | _, _ => none
theorem ydq : R2D K wc8 jcf := fun Cl Z σ ρ H0 H x y a b v Q I s ha hb e q => by
  unfold jcf at e
  split at e
  · rename_i ds es e1 e2
    split at e
    · rename_i hl
      cases e
      obtain ⟨l, xs, rfl, h1, h2⟩ := ha.items I e1
      obtain ⟨m, ys, rfl, h3, h4⟩ := hb.items I e2
      refine ⟨l, m, xs, ys, rfl, rfl, h1, h3, by rw [h2.length, h4.length]; exact yS hl, fun p np => ?_⟩
      exact q _ _ (yC np) (vA.new s np (h2.append h4))
    · cases e
  · cases e
@[simp] def veg (a b : Val) : Option Val := match a.d, b.d with
  | .str x, .str y => if zz (x.length + y.length) = true then some (.s (.str (x ++ y))) else none
  | _, _ => none
@[simp] def wc (a b : Val) : Option Val := (xcG a b).or (jcf a b)
theorem kc (ha : DE X Cl W a fa) (hb : DE X Cl W b fb) : DE X Cl W (.BinOp a .Add b pos) (e2 wc fa fb) := zaJ (op_add.or ydk) ((ybQ fun i j _ => .int _).or ydq) ha hb
def eqD (a b : D) : Option Bool := if (SeqAt.shaped a && SeqAt.shaped b) = true then some (PyData.eqv a b) else none
@[simp] def qK (a b : Val) : Option Val := (eqD a.d b.d).map fun k => .s (.bool k)
@[simp] def gNe (a b : Val) : Option Val := (eqD a.d b.d).map fun k => .s (.bool (!k))
theorem xS : R2D K (rEqD K) qK := fun Cl Z σ ρ H0 H x y a b v Q I s ha hb e q => by
  unfold qK eqD at e
  split at e
  · rename_i sh
    cases e
    obtain ⟨s1, s2⟩ := Bool.and_eq_true_iff.mp sh
    exact ⟨a.d, b.d, (Dp.same wj (ha.dp I)).up (SeqAt.canLay_of_shaped s1), (Dp.same wj (hb.dp I)).up (SeqAt.canLay_of_shaped s2), s1, s2, q _ H (Same.refl _) (.bl _)⟩
  · cases e
theorem qbl : R2D K (rNeD K) gNe := fun Cl Z σ ρ H0 H x y a b v Q I s ha hb e q => by
  unfold gNe eqD at e
  split at e
  · rename_i sh
    cases e
    obtain ⟨s1, s2⟩ := Bool.and_eq_true_iff.mp sh
    exact ⟨a.d, b.d, (Dp.same wj (ha.dp I)).up (SeqAt.canLay_of_shaped s1), (Dp.same wj (hb.dp I)).up (SeqAt.canLay_of_shaped s2), s1, s2, q _ H (Same.refl _) (.bl _)⟩
  · cases e
@[simp] def isNone : D → Bool
  | .none => true
  | _ => false
theorem Dp.isNone {H : Hp} {x : V} {d : D} (h : Dp K H x d) : decide (x = .non) = isNone d := by
  cases h <;> rfl
@[simp] def yL (a b : Val) : Option Val := if isNone b.d = true then some (.s (.bool (isNone a.d))) else none
@[simp] def yeg (a b : Val) : Option Val := if isNone b.d = true then some (.s (.bool (!isNone a.d))) else none
theorem ycT {d : D} (h : isNone d = true) : d = .none := by cases d <;> first | rfl | cases h
theorem qaf : R2D K (fun x y H Q => y = .non ∧ Q (.bl (decide (x = .non))) H) yL := fun Cl Z σ ρ H0 H x y a b v Q I s ha hb e q => by
  unfold yL at e
  split at e
  · rename_i h
    cases e
    have q1 := hb.dp I
    rw [ycT h] at q1
    refine ⟨q1.qdk, ?_⟩
    rw [(ha.dp I).isNone]
    exact q _ H (Same.refl _) (.bl _)
  · cases e
theorem Dp.flat {H : Hp} {x : V} {d : D} (h : Dp K H x d) (s : yu d = true) : flatV x = true := by
  cases h <;> first | rfl | cases s
def toV : D → V
  | .bool b => .bl b
  | .int i => .int i
  | .str x => .str x
  | _ => .non
theorem Dp.toV {H : Hp} {x : V} {d : D} (h : Dp K H x d) (s : yu d = true) : x = toV d := by
  cases h <;> first | rfl | cases s
theorem DpAll.toV {H : Hp} : ∀ {xs : List V} {ds : List D}, DpAll K H xs ds → ds.all yu = true → xs = ds.map toV ∧ xs.all flatV = true
  | _, _, .nil, _ => ⟨rfl, rfl⟩
  | _, _, .cons h t, s => by
    rw [List.all_cons, Bool.and_eq_true] at s
    obtain ⟨e1, e2⟩ := DpAll.toV t s.2
    have e3 := Dp.toV h s.1
    have e4 := Dp.flat h s.1
    subst e3
    refine ⟨by rw [List.map_cons, ← e1], ?_⟩
    rw [List.all_cons, e4, e2]
    rfl
def inD (x : D) (ds : List D) : Bool := inV (toV x) (ds.map toV)
@[simp] def qc3 : D → Option (List D)
  | .list ds => some ds
  | .tuple ds => some ds
  | _ => none
@[simp] def xdq (neg : Bool) (a b : Val) : Option Val := match qc3 b.d with
  | some ds => if (yu a.d && ds.all yu) = true then some (.s (.bool (if neg then !inD a.d ds else inD a.d ds))) else none
  | none => none
@[simp] def gIn (a b : Val) : Option Val := xdq false a b
@[simp] def zd2 (a b : Val) : Option Val := xdq true a b
@[simp] def gS (F : Str → Str → D) (a b : Val) : Option Val := match a.d, b.d with
  | .str i, .str j => some (.s (F i j))
  | _, _ => none
theorem zc3 {g : Str → Str → V} {F : Str → Str → D} (h : ∀ i j H, Dp K H (g i j) (F i j)) : R2D K (fun x y H Q => ∃ i j, x = .str i ∧ y = .str j ∧ Q (g i j) H) (gS F) := fun Cl Z σ ρ H0 H x y a b v Q I s ha hb e q => by
  unfold gS at e
  split at e
  · rename_i i j e1 e2
    cases e
    exact ⟨i, j, ha.str_inv I e1, hb.str_inv I e2, q _ H (Same.refl _) (h i j _)⟩
  · cases e
end
abbrev FA := xb → Option (Except Er (List Val))
def qD (K : PySem.W.Frag) (Z : Addr → Prop) (σ : St) (ρ : xb) (H H1 : Hp) (xs : List V) (vs : List Val) : Prop := Paired (vA K Z σ ρ H H1) xs vs
def RAk (K : PySem.W.Frag) (Cl : Nat → Addr) (W : WX) (Z : Addr → Prop) (σ : St) (ρ : xb) (H : Hp) (Q : List V → Hp → Prop) : Except Er (List Val) → Prop
  | .ok vs => ∀ xs H', Same Cl H H' → qD K Z σ ρ H H' xs vs → Q xs H'
  | .error e => jaa Cl W σ H e
def jc3 (K : PySem.W.Frag) (Cl : Nat → Addr) (W : WX) (f : FA) : TA := fun σ H Q => ∃ Z ρ r, DI K Cl Z H σ ρ ∧ f ρ = some r ∧ RAk K Cl W Z σ ρ H Q r
def DA (X : Cx) (Cl : Nat → Addr) (W : WX) (es : List Expr) (f : FA) : Prop := PA X es (jc3 X.K Cl W f)
theorem yaU {K : PySem.W.Frag} {Cl : Nat → Addr} {W : WX} {Z : Addr → Prop} {H : Hp} {σ : St} {ρ : xb} {Q1 : VK} {f : FE} {r : Except Er Val} (I : DI K Cl Z H σ ρ) (h : f ρ = some r) (he : ∀ e, r = .error e → jaa Cl W σ H e)
    (go : ∀ v x H1, r = .ok v → Same Cl H H1 → vA K Z σ ρ H H1 x v → DI K Cl Z H1 σ ρ → Q1 x H1) : qau K Cl W f σ H Q1 := by
  refine ⟨Z, ρ, r, I, h, ?_⟩
  cases r with
  | error e => exact he e rfl
  | ok v => exact fun x H1 s hv => go v x H1 rfl s hv (I.same s)
theorem yK {K : PySem.W.Frag} {Cl : Nat → Addr} {W : WX} {Z : Addr → Prop} {H : Hp} {σ : St} {ρ : xb} {Q1 : List V → Hp → Prop} {f : FA} {r : Except Er (List Val)} (I : DI K Cl Z H σ ρ) (h : f ρ = some r) (he : ∀ e, r = .error e → jaa Cl W σ H e)
    (go : ∀ vs xs H1, r = .ok vs → Same Cl H H1 → qD K Z σ ρ H H1 xs vs → DI K Cl Z H1 σ ρ → Q1 xs H1) : jc3 K Cl W f σ H Q1 := by
  refine ⟨Z, ρ, r, I, h, ?_⟩
  cases r with
  | error e => exact he e rfl
  | ok vs => exact fun x H1 s hv => go vs x H1 rfl s hv (I.same s)
section
variable {K : PySem.W.Frag} {Cl : Nat → Addr}  {Z : Addr → Prop} {σ : St} {ρ : xb} {H0 H H1 H2 : Hp}
theorem qD.same : ∀ {xs : List V} {vs : List Val}, Same Cl H1 H2 → qD K Z σ ρ H0 H1 xs vs → qD K Z σ ρ H0 H2 xs vs
  | _, _, _, .nil => .nil
  | _, _, s, .cons h t => .cons (h.same s) (qD.same s t)
theorem qD.back : ∀ {xs : List V} {vs : List Val}, Same Cl H0 H → qD K Z σ ρ H H1 xs vs → qD K Z σ ρ H0 H1 xs vs
  | _, _, _, .nil => .nil
  | _, _, s, .cons h t => .cons (h.back s) (qD.back s t)
theorem qD.dp (I : DI K Cl Z H0 σ ρ) : ∀ {xs : List V} {vs : List Val}, qD K Z σ ρ H0 H1 xs vs → DpAll K (hide H1 Z) xs (vs.map Val.d)
  | _, _, .nil => .nil
  | _, _, .cons h t => .cons (h.dp I) (qD.dp I t)
@[simp] def zD : List Val → Option (List D)
  | [] => some []
  | v :: vs => match v.st, zD vs with
    | some d, some ds => some (d :: ds)
    | _, _ => none
theorem qD.stab (I : DI K Cl Z H0 σ ρ) : ∀ {xs : List V} {vs : List Val} {ds : List D}, zD vs = some ds → qD K Z σ ρ H0 H1 xs vs → DpAll K (hide H1 (Zo Z σ ρ)) xs ds
  | _, _, _, e, .nil => by cases e; exact .nil
  | _, _, ds, e, .cons h t => by
    simp only [zD] at e
    split at e
    · rename_i d es e1 e2
      cases e
      exact .cons (h.stab I e1) (qD.stab I e2 t)
    · cases e
theorem kbA : ∀ {vs : List Val} {ds : List D}, zD vs = some ds → ds.length = vs.length
  | [], _, e => by cases e; rfl
  | v :: vs, ds, e => by
    simp only [zD] at e
    split at e
    · rename_i d es e1 e2
      cases e
      rw [List.length_cons, List.length_cons, kbA e2]
    · cases e
end
@[simp] def ka (ρ : xb) : Option (Except Er (List Val)) := some (.ok [])
@[simp] def qa (f : FE) (g : FA) (ρ : xb) : Option (Except Er (List Val)) := match f ρ with
  | none => none
  | some (.error e) => some (.error e)
  | some (.ok v) => match g ρ with
    | none => none
    | some (.error e) => some (.error e)
    | some (.ok vs) => some (.ok (v :: vs))
section
variable {X : Cx} {Cl : Nat → Addr} {W : WX} {a b c e : Expr} {es : List Expr} {fa fb fc f : FE} {g : FA} {p pos : Pos}
theorem zb : DA X Cl W [] ka := PA.imp pa_nil fun σ H Q ⟨Z, ρ, r, I, e, q⟩ => by
  cases e
  exact q [] H (Same.refl _) .nil
theorem ja (ha : DE X Cl W e f) (hr : DA X Cl W es g) (hs : starEach (e :: es) X.env = (false, eval e X.env) :: starEach es X.env := by rfl) : DA X Cl W (e :: es) (qa f g) := PA.imp (pa_cons ha hr hs) fun σ H Q ⟨Z, ρ, r, I, e, q⟩ => by
  unfold qa at e
  cases e1 : f ρ with
  | none => rw [e1] at e; cases e
  | some r1 =>
    refine yaU I e1 (fun er z => ?_) fun v x H1 ev s1 hv I1 => ?_
    · rw [e1, z] at e
      cases e
      exact q
    · subst ev
      rw [e1] at e
      cases e2 : g ρ with
      | none => rw [e2] at e; cases e
      | some r2 =>
        refine yK I1 e2 (fun er z => ?_) fun vs xs H2 ev s2 hvs I2 => ?_
        · rw [e2, z] at e
          cases e
          exact jaa.same s1 q
        · subst ev
          rw [e2] at e
          cases e
          exact q (x :: xs) H2 (s1.trans s2) (.cons (hv.same s2) (hvs.back s1))
@[simp] def Val.parts : Val → Option (List Val)
  | .s (.list ds) => some (ds.map .s)
  | .s (.tuple ds) => some (ds.map .s)
  | .m (.list ds) => some (ds.map .m)
  | .m (.tuple ds) => some (ds.map .m)
  | .b ds => some (ds.map .s)
  | .f ds => some (ds.map .s)
  | _ => none
theorem qbB {K : PySem.W.Frag} {Z : Addr → Prop} {σ : St} {ρ : xb} {H0 H1 : Hp} : ∀ {xs : List V} {ds : List D}, DpAll K (hide H1 (Zo Z σ ρ)) xs ds → qD K Z σ ρ H0 H1 xs (ds.map .s)
  | _, _, .nil => .nil
  | _, _, .cons h t => .cons h (qbB t)
theorem vcf {K : PySem.W.Frag} {Z : Addr → Prop} {σ : St} {ρ : xb} {H0 H1 : Hp} : ∀ {xs : List V} {ds : List D}, DpAll K (hide H1 Z) xs ds → qD K Z σ ρ H0 H1 xs (ds.map .m)
  | _, _, .nil => .nil
  | _, _, .cons h t => .cons h (vcf t)
theorem vA.parts {K : PySem.W.Frag} {Z : Addr → Prop} {σ : St} {ρ : xb} {H0 H : Hp} {x : V} {v : Val} {vs : List Val} (I : DI K Cl Z H0 σ ρ) (h : vA K Z σ ρ H0 H x v) (e : v.parts = some vs) :
    ∃ p xs, x = .ref p ∧ (SqT K H p xs ∨ SqL K H p xs) ∧ qD K Z σ ρ H0 H xs vs := by
  cases v with
  | s d =>
    cases d with
    | list ds =>
      cases e
      obtain ⟨p, xs, rfl, h1, h2⟩ := Dp.lst_inv (show Dp K (hide H (Zo Z σ ρ)) x (.list ds) from h)
      exact ⟨p, xs, rfl, .inr (.inl (Rd.same wj h1)), qbB h2⟩
    | tuple ds =>
      cases e
      obtain ⟨p, xs, rfl, h1, h2⟩ := Dp.qR (show Dp K (hide H (Zo Z σ ρ)) x (.tuple ds) from h)
      exact ⟨p, xs, rfl, .inl (SqT.same wj h1), qbB h2⟩
    | _ => cases e
  | m d =>
    cases d with
    | list ds =>
      cases e
      obtain ⟨p, xs, rfl, h1, h2⟩ := Dp.lst_inv (show Dp K (hide H Z) x (.list ds) from h)
      exact ⟨p, xs, rfl, .inr (.inl (Rd.same wj h1)), vcf h2⟩
    | tuple ds =>
      cases e
      obtain ⟨p, xs, rfl, h1, h2⟩ := Dp.qR (show Dp K (hide H Z) x (.tuple ds) from h)
      exact ⟨p, xs, rfl, .inl (SqT.same wj h1), vcf h2⟩
    | _ => cases e
  | b ds =>
    cases e
    obtain ⟨p, xs, rfl, n, h1, h2⟩ := h
    exact ⟨p, xs, rfl, .inr (SqL.of h1), qbB h2⟩
  | f ds =>
    cases e
    obtain ⟨p, xs, rfl, n, h1, h2⟩ := h
    exact ⟨p, xs, rfl, .inr (SqL.of h1), qbB (DpAll.same (qe (vc.refl _) fun _ h => .inl (.inl h)) h2)⟩
theorem qD.append {K : PySem.W.Frag} {Z : Addr → Prop} {σ : St} {ρ : xb} {H0 H1 : Hp} : ∀ {xs ys : List V} {vs ws : List Val}, qD K Z σ ρ H0 H1 xs vs → qD K Z σ ρ H0 H1 ys ws → qD K Z σ ρ H0 H1 (xs ++ ys) (vs ++ ws)
  | _, _, _, _, .nil, s => s
  | _, _, _, _, .cons r t, s => .cons r (qD.append t s)
@[simp] def zeh (f : FE) (g : FA) (ρ : xb) : Option (Except Er (List Val)) := match f ρ with
  | none => none
  | some (.error e) => some (.error e)
  | some (.ok v) => match v.parts with
    | none => none
    | some us => match g ρ with
      | none => none
      | some (.error e) => some (.error e)
      | some (.ok vs) => some (.ok (us ++ vs))
def CRD (K : PySem.W.Frag) (r : List V → Hp → VK → Prop) (g : List Val → Option Val) : Prop := ∀ (Cl : Nat → Addr) (Z : Addr → Prop) (σ : St) (ρ : xb) (H0 H : Hp) (xs : List V) (vs : List Val) (v : Val) (Q : VK), DI K Cl Z H0 σ ρ → Same Cl H0 H → qD K Z σ ρ H0 H xs vs → g vs = some v →
  (∀ z H', Same Cl H H' → vA K Z σ ρ H0 H' z v → Q z H') → r xs H Q
@[simp] def eG (h : List Val → Option Val) (g : FA) (ρ : xb) : Option (Except Er Val) := match g ρ with
  | none => none
  | some (.error e) => some (.error e)
  | some (.ok vs) => (h vs).map .ok
theorem kcT {r : List V → Hp → VK → Prop} {h : List Val → Option Val} (hp : PE X e (tCB r (jc3 X.K Cl W g))) (hr : CRD X.K r h) : DE X Cl W e (eG h g) := PE.imp hp fun σ H Q ⟨Z, ρ, r1, I, e, q⟩ => by
  unfold eG at e
  cases e1 : g ρ with
  | none => rw [e1] at e; cases e
  | some r2 =>
    refine yK I e1 (fun er z => ?_) fun vs xs H1 ev s1 hvs I1 => ?_
    · rw [e1, z] at e
      cases e
      exact q
    · subst ev
      rw [e1] at e
      dsimp only at e
      cases e2 : h vs with
      | none => rw [e2] at e; cases e
      | some v =>
        rw [e2] at e
        cases e
        exact hr Cl Z σ ρ H H1 xs vs v Q I s1 hvs e2 fun z H' s' hz => q z H' (s1.trans s') hz
theorem xi {id : String} {x : Str} {r : List V → Hp → VK → Prop} {h : List Val → Option Val} (hc : CallR X (.builtin id) r) (hr : CRD X.K r h) (hm : X.mg x = none) (hv : bootBuiltins x = some (.builtin id)) (ha : DA X Cl W (e :: es) g) (hg : Gl X x := by rfl) (hn : x ≠ "__name__" := by decide) (hdb : (x == ("__debug__" : Str)) = false := by decide)
    (he : starEach (e :: es) X.env = (false, eval e X.env) :: starEach es X.env := by rfl) (hpl : (backTo pos (starEach es X.env)).any (·.1) = false := by rfl) : DE X Cl W (.Call (.Name x p) (e :: es) [] pos) (eG h g) :=
  kcT (pe_callB hc hg hm hv ha hn hdb he hpl) hr
theorem zK {id : String} {x : Str} {r : List V → Hp → VK → Prop} {h : List Val → Option Val} (hc : CallR X (.type id) r) (hr : CRD X.K r h) (hm : X.mg x = none) (hv : bootBuiltins x = some (.type id)) (ha : DA X Cl W (e :: es) g) (hg : Gl X x := by rfl) (hn : x ≠ "__name__" := by decide) (hdb : (x == ("__debug__" : Str)) = false := by decide)
    (he : starEach (e :: es) X.env = (false, eval e X.env) :: starEach es X.env := by rfl) (hpl : (backTo pos (starEach es X.env)).any (·.1) = false := by rfl) : DE X Cl W (.Call (.Name x p) (e :: es) [] pos) (eG h g) :=
  kcT (pe_callTy hc hg hm hv ha hn hdb he hpl) hr
theorem qD.one {K : PySem.W.Frag} {Z : Addr → Prop} {σ : St} {ρ : xb} {H0 H1 : Hp} {xs : List V} {v : Val} (h : qD K Z σ ρ H0 H1 xs [v]) : ∃ x, xs = [x] ∧ vA K Z σ ρ H0 H1 x v := by
  cases h with
  | cons h t => cases t; exact ⟨_, rfl, h⟩
theorem qD.two {K : PySem.W.Frag} {Z : Addr → Prop} {σ : St} {ρ : xb} {H0 H1 : Hp} {xs : List V} {v u : Val} (h : qD K Z σ ρ H0 H1 xs [v, u]) : ∃ x y, xs = [x, y] ∧ vA K Z σ ρ H0 H1 x v ∧ vA K Z σ ρ H0 H1 y u := by
  cases h with
  | cons h t =>
    cases t with
    | cons h2 t2 => cases t2; exact ⟨_, _, rfl, h, h2⟩
variable {K : PySem.W.Frag} {Cl : Nat → Addr}
@[simp] def ycf : D → Option Nat
  | .str x => if zz x.length = true then some x.length else none
  | .list ds => some ds.length
  | .tuple ds => some ds.length
  | .dict ks => if qbY ks = true then none else some ks.length
  | _ => none
@[simp] def kl : List Val → Option Val
  | [v] => (ycf v.d).map fun n => .s (.int n)
  | _ => none
theorem Dp.xdH {H : Hp} {x : V} {d : D} {n : Nat} (h : Dp K H x d) (e : ycf d = some n) : LenV K x H n := by
  cases h with
  | str x =>
    simp only [ycf] at e
    split at e
    · rename_i hl
      cases e
      exact ⟨yS hl, rfl⟩
    · cases e
  | lst h t => cases e; exact .inl ⟨_, .inl h, t.length.symm⟩
  | tup h t => cases e; exact .inr ⟨_, h, t.length.symm⟩
  | @scr a ns h =>
    simp only [ycf] at e
    rw [wce, if_neg Bool.false_ne_true] at e
    cases e
    exact .inl ⟨_, h, by rw [List.length_map, List.length_map]⟩
  | exc _ _ => cases e
  | _ => cases e
theorem xq : CRD K (fun xs H Q => ∃ x n, xs = [x] ∧ LenV K x H n ∧ Q (.int n) H) kl := fun Cl Z σ ρ H0 H xs vs v Q I s hv e q => by
  unfold kl at e
  split at e
  · rename_i u
    obtain ⟨x, rfl, h⟩ := hv.one
    cases e1 : ycf u.d with
    | none => rw [e1] at e; cases e
    | some n =>
      rw [e1] at e
      cases e
      exact ⟨x, n, rfl, (Dp.same wj (h.dp I)).xdH e1, q _ H (Same.refl _) (.int _)⟩
  · cases e
@[simp] def jY : List Val → Option Val
  | [v] => match v.d with
    | .int i => some (.s (.int i))
    | .bool b => some (.s (.int (if b then 1 else 0)))
    | _ => none
  | _ => none
theorem jaL : CRD K (fun xs H Q => (∃ i, xs = [.int i] ∧ Q (.int i) H) ∨ ∃ k, xs = [.bl k] ∧ Q (.int (if k then 1 else 0)) H) jY := fun Cl Z σ ρ H0 H xs vs v Q I s hv e q => by
  unfold jY at e
  split at e
  · rename_i u
    obtain ⟨x, rfl, h⟩ := hv.one
    split at e
    · rename_i i e1
      cases e
      exact .inl ⟨i, by rw [h.int_inv I e1], q _ H (Same.refl _) (.int _)⟩
    · rename_i i e1
      cases e
      exact .inr ⟨i, by rw [h.yaV I e1], q _ H (Same.refl _) (.int _)⟩
    · cases e
  · cases e
@[simp] def kcG : List Val → Option Val
  | [v] => match v.d with
    | .int i => some (.s (.int (if i < 0 then -i else i)))
    | _ => none
  | _ => none
theorem zdr : CRD K (fun xs H Q => ∃ i, xs = [.int i] ∧ Q (.int (if i < 0 then -i else i)) H) kcG := fun Cl Z σ ρ H0 H xs vs v Q I s hv e q => by
  unfold kcG at e
  split at e
  · rename_i u
    obtain ⟨x, rfl, h⟩ := hv.one
    split at e
    · rename_i i e1
      cases e
      exact ⟨i, by rw [h.int_inv I e1], q _ H (Same.refl _) (.int _)⟩
    · cases e
  · cases e
@[simp] def xcf : List Val → Option Val
  | [v, u] => match v.d, u.d with
    | .int i, .int j => some (.s (.int (if j < i then j else i)))
    | _, _ => none
  | _ => none
theorem vcD : CRD K (fun xs H Q => ∃ i j, xs = [.int i, .int j] ∧ Q (.int (if j < i then j else i)) H) xcf := fun Cl Z σ ρ H0 H xs vs v Q I s hv e q => by
  unfold xcf at e
  split at e
  · rename_i u w
    obtain ⟨x, y, rfl, h, h2⟩ := hv.two
    split at e
    · rename_i i j e1 e2
      cases e
      exact ⟨i, j, by rw [h.int_inv I e1, h2.int_inv I e2], q _ H (Same.refl _) (.int _)⟩
    · cases e
  · cases e
@[simp] def kdH : List Val → Option Val
  | [v, u] => match v.d, u.d with
    | .int i, .int j => some (.s (.int (if j > i then j else i)))
    | _, _ => none
  | _ => none
@[simp] def Val.seq : Val → Option (List D)
  | .s (.tuple ds) => some ds
  | .m (.tuple ds) => if ds.all yu = true then some ds else none
  | v => v.items
theorem vA.seq {Z : Addr → Prop} {σ : St} {ρ : xb} {H0 H : Hp} {x : V} {a : Val} {ds : List D} (I : DI K Cl Z H0 σ ρ) (e : a.seq = some ds) (h : vA K Z σ ρ H0 H x a) : ∃ p xs, x = .ref p ∧ (SqL K H p xs ∨ SqT K H p xs) ∧ DpAll K (hide H (Zo Z σ ρ)) xs ds := by
  have go : a.items = some ds → ∃ p xs, x = .ref p ∧ (SqL K H p xs ∨ SqT K H p xs) ∧ DpAll K (hide H (Zo Z σ ρ)) xs ds := fun e => by
    obtain ⟨p, xs, e1, e2, e3⟩ := h.items I e
    exact ⟨p, xs, e1, .inl (.inl e2), e3⟩
  unfold Val.seq at e
  split at e
  · rename_i ys
    cases e
    obtain ⟨p, xs, rfl, h1, h2⟩ := Dp.qR (show Dp K (hide H (Zo Z σ ρ)) x (.tuple ds) from h)
    exact ⟨p, xs, rfl, .inr (SqT.same wj h1), h2⟩
  · rename_i ys
    split at e
    · rename_i sc
      cases e
      obtain ⟨p, xs, rfl, h1, h2⟩ := Dp.qR (show Dp K (hide H Z) x (.tuple ds) from h)
      exact ⟨p, xs, rfl, .inr (SqT.same wj h1), DpAll.scalar sc h2⟩
    · cases e
  · exact go e
@[simp] def wcd : List Val → Option Val
  | [v] => v.seq.map .f
  | _ => none
theorem xdk : CRD K (fun xs H Q => ∃ p ys, xs = [.ref p] ∧ (SqL K H p ys ∨ SqT K H p ys) ∧ ∀ l, H l = none → Q (.ref l) (upd H l (.lst ys))) wcd := fun Cl Z σ ρ H0 H xs vs v Q I s hv e q => by
  unfold wcd at e
  split at e
  · rename_i u
    obtain ⟨x, rfl, h⟩ := hv.one
    cases e1 : u.seq with
    | none => rw [e1] at e; cases e
    | some ds =>
      rw [e1] at e
      cases e
      obtain ⟨p, ys, rfl, h1, h2⟩ := h.seq I e1
      exact ⟨p, ys, rfl, h1, fun l nl => q _ _ (yC nl) (vA.new s nl h2)⟩
  · cases e
def xaB : List D → Option (List Int)
  | [] => some []
  | .int i :: r => (xaB r).map (i :: ·)
  | _ => none
theorem kcf : ∀ {ds : List D} {ns : List Int}, xaB ds = some ns → ds = ns.map PyData.int
  | [], _, e => by cases e; rfl
  | .int i :: r, ns, e => by
    have e' : (xaB r).map (i :: ·) = some ns := e
    cases h : xaB r with
    | none => rw [h] at e'; cases e'
    | some ms =>
      rw [h] at e'
      cases e'
      rw [kcf h]
      rfl
@[simp] def xbQ : List Val → Option Val
  | [v] => match v.d with
    | .list ds => (xaB ds).map fun ns => .s (.int ns.sum)
    | _ => none
  | _ => none
theorem ycD : CRD K (rSum K) xbQ := fun Cl Z σ ρ H0 H xs vs v Q I s hv e q => by
  unfold xbQ at e
  split at e
  · rename_i u
    obtain ⟨x, rfl, h⟩ := hv.one
    split at e
    · rename_i ds e1
      cases e2 : xaB ds with
      | none => rw [e2] at e; cases e
      | some ns =>
        rw [e2] at e
        cases e
        have h1 := Dp.same wj (h.dp I)
        rw [e1] at h1
        obtain ⟨p, ys, rfl, h2, h3⟩ := h1.lst_inv
        rw [kcf e2] at h3
        have e3 := h3.ints
        subst e3
        exact ⟨p, ns, rfl, .inl h2, q _ H (Same.refl _) (.int _)⟩
    · cases e
  · cases e
@[simp] def tyN : D → String
  | .none => "NoneType" | .bool _ => "bool" | .int _ => "int" | .str _ => "str" | .list _ => "list" | .tuple _ => "tuple" | .dict _ => "list"
@[simp] def wc3 (T : String) (d : D) : Bool := T == tyN d || (T == "int" && tyN d == "bool")
@[simp] def qcg (T : String) (v : Val) : Option Val := if yc1 v.d = true then none else some (.s (.bool (wc3 T v.d)))
theorem kdk {T : String} {d : D} (h : T = "bool" ∨ T = "int" ∨ T = "str" ∨ T = "list" ∨ T = "tuple") : PySem.W.kitOne K (.type (tyN d)) (.type T) = some (wc3 T d) := by
  refine kit_ty ?_
  rcases h with rfl | rfl | rfl | rfl | rfl <;> cases d <;> first | decide +kernel | rfl
theorem Dp.tyx {H : Hp} {x : V} {d : D} (n : ¬ yc1 d = true) (h : Dp K H x d) : TyX K H x (.type (tyN d)) := by
  cases h with
  | non => exact .base .non
  | bl b => exact .base (.bl b)
  | int i => exact .base (.int i)
  | str x => exact .base (.str x)
  | lst h t =>
    rcases h with h | ⟨o, h⟩
    · exact .base (.lst h)
    · exact .base (.frz h)
  | tup h t =>
    rcases h with (h | ⟨o, h⟩) | ⟨o, its, n, h, c, _⟩
    · exact .base (.tup h)
    · exact .fTuple h
    · exact .kTuple h c
  | scr h =>
    rcases h with (h | ⟨o, h⟩) | ⟨o, its, n, h, c, _⟩
    · exact .base (.lst h)
    · exact .base (.frz h)
    · exact .kList h c
  | exc _ _ => exact absurd rfl n
theorem jdr {T : String} {y : Str} {q : Pos} {x : Str} (hx : x = "isinstance") (hm : X.mg x = none) (hy : X.mg y = none) (hT : bootBuiltins y = some (.type T)) (hk : T = "bool" ∨ T = "int" ∨ T = "str" ∨ T = "list" ∨ T = "tuple") (ha : DE X Cl W e f) (hg : Gl X x := by rfl) (hgy : Gl X y := by rfl) (hn : y ≠ "__name__" := by decide) (hdb : (y == ("__debug__" : Str)) = false := by decide)
    (hs : starEach [e, .Name y q] X.env = (false, eval e X.env) :: starEach [.Name y q] X.env := by rfl) (hs2 : starEach [.Name y q] X.env = (false, eval (.Name y q) X.env) :: starEach [] X.env := by rfl) (hpl : (backTo pos (starEach [.Name y q] X.env)).any (·.1) = false := by rfl) :
    DE X Cl W (.Call (.Name x p) [e, .Name y q] [] pos) (e1 (qcg T) f) := by
  subst hx
  refine PE.imp (pe_callB call_isi hg hm PyProof.Rows.boot_isinstance (pa_cons ha (pa_cons (pe_bltn (v := .ty T) hgy hy hT rfl hn hdb) pa_nil hs2) hs) (by decide) (by decide) hs hpl) fun σ H Q ⟨Z, ρ, r1, I, e, q⟩ => ?_
  refine kaG I e q fun v x H1 _ h1 s1 hv I1 q1 => ?_
  unfold qcg at h1
  split at h1
  · cases h1
  rename_i n
  cases h1
  exact ⟨x, .ty T, _, _, _, rfl, .ty T, (Dp.same wj (hv.dp I)).tyx n, kdk hk, q _ H1 s1 (.bl _)⟩
@[simp] def zw (g : FA) (ρ : xb) : Option (Except Er Val) := match g ρ with
  | none => none
  | some (.error e) => some (.error e)
  | some (.ok vs) => if zz vs.length = true then match zD vs with
    | some ds => some (.ok (.f ds))
    | none => some (.ok (.m (.list (vs.map Val.d)))) else none
@[simp] def jn (g : FA) (ρ : xb) : Option (Except Er Val) := match g ρ with
  | none => none
  | some (.error e) => some (.error e)
  | some (.ok vs) => if zz vs.length = true then match zD vs with
    | some ds => some (.ok (.s (.tuple ds)))
    | none => some (.ok (.m (.tuple (vs.map Val.d)))) else none
theorem Paired.len {α β : Type} {F : α → β → Prop} {l₁ : List α} {l₂ : List β} (h : Paired F l₁ l₂) : l₁.length = l₂.length := Paired.length h
theorem kr (h : DA X Cl W es g) : DE X Cl W (.List es pos) (zw g) := PE.imp (pe_lst h) fun σ H Q ⟨Z, ρ, r1, I, e, q⟩ => by
  unfold zw at e
  cases e1 : g ρ with
  | none => rw [e1] at e; cases e
  | some r2 =>
    refine yK I e1 (fun er z => ?_) fun vs xs H1 ev s1 hvs I1 => ?_
    · rw [e1, z] at e
      cases e
      exact q
    · subst ev
      rw [e1] at e
      dsimp only at e
      split at e
      · rename_i hl
        refine ⟨by rw [Paired.len hvs]; exact yS hl, fun p np => ?_⟩
        cases e2 : zD vs with
        | some ds =>
          rw [e2] at e
          cases e
          exact q _ _ (s1.trans (yC np)) (vA.new s1 np (hvs.stab I e2))
        | none =>
          rw [e2] at e
          cases e
          have nz : ¬ Z p := fun z => I1.live p z np
          refine q _ _ (s1.trans (yC np)) ?_
          exact .lst (Rd.of (xg nz upd_same)) (DpAll.same (qe (jS np) fun _ h => .inl h) (hvs.dp I))
      · cases e
theorem ko {x1} (h : DA X Cl W es g) : DE X Cl W (.Tuple es x1 pos) (jn g) := PE.imp (pe_tup h) fun σ H Q ⟨Z, ρ, r1, I, e, q⟩ => by
  unfold jn at e
  cases e1 : g ρ with
  | none => rw [e1] at e; cases e
  | some r2 =>
    refine yK I e1 (fun er z => ?_) fun vs xs H1 ev s1 hvs I1 => ?_
    · rw [e1, z] at e
      cases e
      exact q
    · subst ev
      rw [e1] at e
      dsimp only at e
      split at e
      · rename_i hl
        refine ⟨by rw [Paired.len hvs]; exact yS hl, fun p np => ?_⟩
        cases e2 : zD vs with
        | some ds =>
          rw [e2] at e
          cases e
          have nz : ¬ Zo Z σ ρ p := fun z => I1.qal z np
          refine q _ _ (s1.trans (yC np)) ?_
          exact .tup (SqT.of (xg nz upd_same)) (DpAll.same (qe (jS np) fun _ h => .inl h) (hvs.stab I e2))
        | none =>
          rw [e2] at e
          cases e
          have nz : ¬ Z p := fun z => I1.live p z np
          refine q _ _ (s1.trans (yC np)) ?_
          exact .tup (SqT.of (xg nz upd_same)) (DpAll.same (qe (jS np) fun _ h => .inl h) (hvs.dp I))
      · cases e
theorem Dp.qdl {H : Hp} {x : V} {ks : List (D × D)} (n : ¬ qbY ks = true) (h : Dp K H x (.dict ks)) : ∃ (a : Addr) (ns : List Int), x = .ref a ∧ ks = (ns.map fun n => (.int n, .none)) ∧ SqL K H a (ns.map V.int) := by
  cases h with
  | scr h => exact ⟨_, _, rfl, rfl, h⟩
  | exc _ _ => exact absurd rfl n
theorem SqL.kO {H H' : Hp} {a : Addr} {xs : List V} (s : vc H H') (h : SqL K H a xs) : SqL K H' a xs := s.seq h
def strAt (x : Str) (i : Int) : Option D := (atI x.cps.toList i).map fun c => .str ⟨#[c]⟩
@[simp] def vi (a b : Val) : Option Val := match b.d with
  | .int i => match a with
    | .s (.list ds) => (atI ds i).map .s
    | .s (.tuple ds) => (atI ds i).map .s
    | .s (.str x) => if zz x.length = true then (strAt x i).map .s else none
    | .s (.dict ks) => if qbY ks = true then none else (atI ks i).map fun p => .s p.1
    | .m (.list ds) => (atI ds i).map .m
    | .m (.tuple ds) => (atI ds i).map .m
    | .b ds => (atI ds i).map .s
    | .f ds => (atI ds i).map .s
    | _ => none
  | _ => none
theorem zbl {H : Hp} {xs : List V} {ds : List D} {i : Int} {d : D} (h : DpAll K H xs ds) (e : atI ds i = some d) : ∃ v, atI xs i = some v ∧ Dp K H v d := by
  unfold atI at e ⊢
  rw [h.length]
  cases e1 : ixN ds.length i with
  | none => rw [e1] at e; cases e
  | some j =>
    rw [e1] at e
    obtain ⟨v, h1, h2⟩ := h.get (show ds[j]? = some d from e)
    exact ⟨v, h1, h2⟩
theorem ydC : R2D K (rIx K) vi := fun Cl Z σ ρ H0 H x y a b v Q I s ha hb e q => by
  unfold vi at e
  split at e
  · rename_i i e1
    have ey := hb.int_inv I e1
    subst ey
    have L : ∀ {Hh : Hp} {ds : List D} {d : D}, vc Hh H → Dp K Hh x (.list ds) → atI ds i = some d → (∀ z, Dp K Hh z d → Q z H) → rIx K x (.int i) H Q := fun {Hh ds d} sh h e q => by
      obtain ⟨p, xs, rfl, h1, h2⟩ := h.lst_inv
      obtain ⟨z, e2, hz⟩ := zbl h2 e
      exact .inl ⟨p, xs, i, z, rfl, rfl, .inl (Rd.same sh h1), e2, q z hz⟩
    have T : ∀ {Hh : Hp} {ds : List D} {d : D}, vc Hh H → Dp K Hh x (.tuple ds) → atI ds i = some d → (∀ z, Dp K Hh z d → Q z H) → rIx K x (.int i) H Q := fun {Hh ds d} sh h e q => by
      obtain ⟨p, xs, rfl, h1, h2⟩ := h.qR
      obtain ⟨z, e2, hz⟩ := zbl h2 e
      exact .inr (.inl ⟨p, xs, i, z, rfl, rfl, SqT.same sh h1, e2, q z hz⟩)
    split at e
    · rename_i ds
      cases e2 : atI ds i with
      | none => rw [e2] at e; cases e
      | some d => rw [e2] at e; cases e; exact L wj (show Dp K (hide H (Zo Z σ ρ)) x (.list ds) from ha) e2 fun z hz => q z H (Same.refl _) hz
    · rename_i ds
      cases e2 : atI ds i with
      | none => rw [e2] at e; cases e
      | some d => rw [e2] at e; cases e; exact T wj (show Dp K (hide H (Zo Z σ ρ)) x (.tuple ds) from ha) e2 fun z hz => q z H (Same.refl _) hz
    · rename_i t
      split at e
      · rename_i hl
        unfold strAt at e
        cases e2 : atI t.cps.toList i with
        | none => rw [e2] at e; cases e
        | some c =>
          rw [e2] at e
          cases e
          exact .inr (.inr ⟨t, i, c, (show Dp K (hide H (Zo Z σ ρ)) x (.str t) from ha).str_inv, rfl, yS hl, e2, q _ H (Same.refl _) (.str _)⟩)
      · cases e
    · rename_i ks
      split at e
      · cases e
      rename_i nx
      cases e2 : atI ks i with
      | none => rw [e2] at e; cases e
      | some p =>
        rw [e2] at e
        cases e
        obtain ⟨a, ns, rfl, rfl, h1⟩ := (show Dp K (hide H (Zo Z σ ρ)) x (.dict ks) from ha).qdl nx
        have e3 : atI (ns.map V.int) i = some (toV p.1) ∧ ∃ n, p.1 = .int n := by
          unfold atI at e2 ⊢
          rw [List.length_map] at e2 ⊢
          cases e4 : ixN ns.length i with
          | none => rw [e4] at e2; cases e2
          | some j =>
            rw [e4] at e2
            have e5 : (ns.map fun n => ((PyData.int n, PyData.none) : D × D))[j]? = some p := e2
            show (ns.map V.int)[j]? = _ ∧ _
            rw [List.getElem?_map] at e5 ⊢
            cases e6 : ns[j]? with
            | none => rw [e6] at e5; cases e5
            | some n =>
              rw [e6] at e5
              cases e5
              exact ⟨rfl, n, rfl⟩
        obtain ⟨e4, n, en⟩ := e3
        refine .inl ⟨a, _, i, _, rfl, rfl, SqL.kO wj h1, e4, q _ H (Same.refl _) ?_⟩
        show Dp K _ (toV p.1) p.1
        rw [en]
        exact .int n
    · rename_i ds
      cases e2 : atI ds i with
      | none => rw [e2] at e; cases e
      | some d => rw [e2] at e; cases e; exact L wj (show Dp K (hide H Z) x (.list ds) from ha) e2 fun z hz => q z H (Same.refl _) hz
    · rename_i ds
      cases e2 : atI ds i with
      | none => rw [e2] at e; cases e
      | some d => rw [e2] at e; cases e; exact T wj (show Dp K (hide H Z) x (.tuple ds) from ha) e2 fun z hz => q z H (Same.refl _) hz
    · rename_i ds
      cases e2 : atI ds i with
      | none => rw [e2] at e; cases e
      | some d =>
        rw [e2] at e
        cases e
        obtain ⟨p, xs, rfl, n, h1, h2⟩ := ha
        obtain ⟨z, e3, hz⟩ := zbl h2 e2
        exact .inl ⟨p, xs, i, z, rfl, rfl, SqL.of h1, e3, q z H (Same.refl _) hz⟩
    · rename_i ds
      cases e2 : atI ds i with
      | none => rw [e2] at e; cases e
      | some d =>
        rw [e2] at e
        cases e
        obtain ⟨p, xs, rfl, n, h1, h2⟩ := ha
        obtain ⟨z, e3, hz⟩ := zbl h2 e2
        exact .inl ⟨p, xs, i, z, rfl, rfl, SqL.of h1, e3, q z H (Same.refl _) (Dp.same (qe (vc.refl _) fun _ h => .inl (.inl h)) hz)⟩
    · cases e
  · cases e
theorem jk (ha : DE X Cl W a fa) (hb : DE X Cl W b fb) (hs : PlainIx b := by exact fun _ _ => rfl) : DE X Cl W (.Subscript a b pos) (e2 vi fa fb) := qcf (pe_ix ix_seq ha hb hs) ydC
abbrev FO := xb → Option (Except Er (Option Int))
def qdI (K : PySem.W.Frag) (Cl : Nat → Addr) (W : WX) (f : FO) : TO := fun σ H Q => ∃ Z ρ r, DI K Cl Z H σ ρ ∧ f ρ = some r ∧ match r with
  | .ok o => ∀ H', Same Cl H H' → Q o H'
  | .error e => jaa Cl W σ H e
@[simp] def wu (ρ : xb) : Option (Except Er (Option Int)) := some (.ok none)
@[simp] def zj (f : FE) (ρ : xb) : Option (Except Er (Option Int)) := match f ρ with
  | none => none
  | some (.error e) => some (.error e)
  | some (.ok v) => match v.d with
    | .int i => some (.ok (some i))
    | _ => none
def DO (X : Cx) (Cl : Nat → Addr) (W : WX) (e : Option Expr) (f : FO) : Prop := PO X e (qdI X.K Cl W f)
theorem PO.imp {e : Option Expr} {t t' : TO} (h : PO X e t) (i : ∀ σ H Q, t' σ H Q → t σ H Q) : PO X e t' := ⟨fun pins s σ H Q I q => h.run pins s σ H Q I (i σ H Q q)⟩
theorem kA : DO X Cl W none wu := PO.imp po_none fun σ H Q ⟨Z, ρ, r, I, e, q⟩ => by cases e; exact q H (Same.refl _)
theorem xk (h : DE X Cl W e f) : DO X Cl W (some e) (zj f) := PO.imp (po_some h) fun σ H Q ⟨Z, ρ, r, I, e, q⟩ => by
  unfold zj at e
  cases e1 : f ρ with
  | none => rw [e1] at e; cases e
  | some r1 =>
    refine yaU I e1 (fun er z => ?_) fun v x H1 ev s1 hv I1 => ?_
    · rw [e1, z] at e
      cases e
      exact q
    · subst ev
      rw [e1] at e
      dsimp only at e
      split at e
      · rename_i i e2
        cases e
        exact ⟨i, hv.int_inv I e2, q H1 s1⟩
      · cases e
def zah {α : Type} (xs : List α) (lo hi : Option Int) : List α := (xs.drop (HT.sIx xs.length 0 lo)).take (HT.sIx xs.length xs.length hi - HT.sIx xs.length 0 lo)
theorem xbY {H : Hp} {xs : List V} {ds : List D} {lo hi : Option Int} (h : DpAll K H xs ds) : DpAll K H (cutV xs lo hi) (zah ds lo hi) := by
  unfold cutV zah
  rw [h.length]
  exact (h.drop _).take _
def whole (n : Nat) (lo hi : Option Int) : Bool := decide (HT.sIx n 0 lo = 0 ∧ HT.sIx n n hi = n)
@[simp] def gSl (v : Val) (lo hi : Option Int) : Option Val := match v with
  | .s (.tuple ds) => if whole ds.length lo hi = true then none else some (.s (.tuple (zah ds lo hi)))
  | .m (.tuple ds) => if whole ds.length lo hi = true then none else some (.m (.tuple (zah ds lo hi)))
  | v => match v.items with
    | some ds => some (.f (zah ds lo hi))
    | none => none
@[simp] def qB (f : FE) (l h : FO) (ρ : xb) : Option (Except Er Val) := match f ρ with
  | none => none
  | some (.error e) => some (.error e)
  | some (.ok v) => match l ρ with
    | none => none
    | some (.error e) => some (.error e)
    | some (.ok lo) => match h ρ with
      | none => none
      | some (.error e) => some (.error e)
      | some (.ok hi) => (gSl v lo hi).map .ok
theorem jB {lo hi : Option Expr} {l h : FO} {p2 : Pos} (he : DE X Cl W e f) (hl : DO X Cl W lo l) (hh : DO X Cl W hi h) : DE X Cl W (.Subscript e (.Slice lo hi none p2) pos) (qB f l h) := PE.imp (pe_slice (sl_list.or sl_tup) he hl hh) fun σ H Q ⟨Z, ρ, r, I, e, q⟩ => by
  unfold qB at e
  cases e1 : f ρ with
  | none => rw [e1] at e; cases e
  | some r1 =>
    refine yaU I e1 (fun er z => ?_) fun v x H1 ev s1 hv I1 => ?_
    · rw [e1, z] at e
      cases e
      exact q
    · subst ev
      rw [e1] at e
      dsimp only at e
      cases e2 : l ρ with
      | none => rw [e2] at e; cases e
      | some r2 =>
        refine ⟨Z, ρ, r2, I1, e2, ?_⟩
        cases r2 with
        | error er =>
          rw [e2] at e
          cases e
          exact jaa.same s1 q
        | ok o1 =>
          rw [e2] at e
          dsimp only at e
          intro H2 s2
          have I2 := I1.same s2
          cases e3 : h ρ with
          | none => rw [e3] at e; cases e
          | some r3 =>
            refine ⟨Z, ρ, r3, I2, e3, ?_⟩
            cases r3 with
            | error er =>
              rw [e3] at e
              cases e
              exact jaa.same (s1.trans s2) q
            | ok o2 =>
              rw [e3] at e
              dsimp only at e
              intro H3 s3
              have hv3 := hv.same (s2.trans s3)
              have I3 := I2.same s3
              have s13 := s1.trans (s2.trans s3)
              cases e4 : gSl v o1 o2 with
              | none => rw [e4] at e; cases e
              | some w =>
                rw [e4] at e
                cases e
                unfold gSl at e4
                split at e4
                · rename_i ds
                  split at e4
                  · cases e4
                  · rename_i hw
                    cases e4
                    obtain ⟨p, xs, rfl, h1, h2⟩ := Dp.qR (show Dp X.K (hide H3 (Zo Z σ ρ)) x (.tuple ds) from hv3)
                    refine .inr ⟨p, xs, rfl, SqT.same wj h1, fun z => hw (decide_eq_true (by rw [h2.length] at z; exact z)), fun a na => ?_⟩
                    have nz : ¬ Zo Z σ ρ a := fun z => I3.qal z na
                    refine q _ _ (s13.trans (yC na)) ?_
                    exact .tup (SqT.of (xg nz upd_same)) (DpAll.same (qe (jS na) fun _ h => .inl h) (xbY h2))
                · rename_i ds
                  split at e4
                  · cases e4
                  · rename_i hw
                    cases e4
                    obtain ⟨p, xs, rfl, h1, h2⟩ := Dp.qR (show Dp X.K (hide H3 Z) x (.tuple ds) from hv3)
                    refine .inr ⟨p, xs, rfl, SqT.same wj h1, fun z => hw (decide_eq_true (by rw [h2.length] at z; exact z)), fun a na => ?_⟩
                    have nz : ¬ Z a := fun z => I3.live a z na
                    refine q _ _ (s13.trans (yC na)) ?_
                    exact .tup (SqT.of (xg nz upd_same)) (DpAll.same (qe (jS na) fun _ h => .inl h) (xbY h2))
                · split at e4
                  · rename_i ds e5
                    cases e4
                    obtain ⟨p, xs, rfl, h1, h2⟩ := hv3.items I e5
                    refine .inl ⟨p, xs, rfl, .inl h1, fun a na => ?_⟩
                    exact q _ _ (s13.trans (yC na)) (vA.new s13 na (xbY h2))
                  · cases e4
abbrev FT := xb → Option (Except Er Bool)
def RTk (Cl : Nat → Addr) (W : WX) (σ : St) (H : Hp) (Q : Bool → Hp → Prop) : Except Er Bool → Prop
  | .ok b => ∀ H', Same Cl H H' → Q b H'
  | .error e => jaa Cl W σ H e
def jbl (K : PySem.W.Frag) (Cl : Nat → Addr) (W : WX) (f : FT) : TT := fun σ H Q => ∃ Z ρ r, DI K Cl Z H σ ρ ∧ f ρ = some r ∧ RTk Cl W σ H Q r
def DT (X : Cx) (Cl : Nat → Addr) (W : WX) (e : Expr) (f : FT) : Prop := PT X e (jbl X.K Cl W f)
def DW (X : Cx) (Cl : Nat → Addr) (W : WX) (e : Expr) (f : FT) : Prop := PW X e (jbl X.K Cl W f)
@[simp] def tV (f : FE) (ρ : xb) : Option (Except Er Bool) := match f ρ with
  | none => none
  | some (.error e) => some (.error e)
  | some (.ok v) => match v.d with
    | .bool b => some (.ok b)
    | _ => none
theorem yc8 {Z : Addr → Prop} {H : Hp} {σ : St} {ρ : xb} {Q : Bool → Hp → Prop} {r : Except Er Bool} (I : DI K Cl Z H σ ρ) (e : tV f ρ = some r) (q : RTk Cl W σ H Q r) :
    qau K Cl W f σ H fun x H1 => ∃ k, x = .bl k ∧ Q k H1 := by
  unfold tV at e
  cases e1 : f ρ with
  | none => rw [e1] at e; cases e
  | some r1 =>
    refine yaU I e1 (fun er z => ?_) fun v x H1 ev s1 hv I1 => ?_
    · rw [e1, z] at e
      cases e
      exact q
    · subst ev
      rw [e1] at e
      dsimp only at e
      split at e
      · rename_i i e2
        cases e
        exact ⟨i, hv.yaV I e2, q H1 s1⟩
      · cases e
theorem qcU (h : DE X Cl W e f) (he : ∀ whole, isTrue e X.env whole = (do let v ← whole; standAt e.pos; holding [v] (truthy v)) := by intro _; rfl) : DT X Cl W e (tV f) := PT.imp (pt_val h he) fun σ H Q ⟨Z, ρ, r, I, e, q⟩ => yc8 I e q
theorem ve {op : CmpOp} {r : R2} {g : Val → Val → Option Val} (ho : OpR X (compareOp op) r) (hr : R2D X.K r g) (ha : DE X Cl W a fa) (hb : DE X Cl W b fb) (hm : behindInMarks op b = false) : DT X Cl W (.Compare a [op] [b] pos) (tV (e2 g fa fb)) := PT.imp (pt_cmpR ho ha hb hm) fun σ H Q ⟨Z, ρ, r1, I, e, q⟩ => by
  have h := yc8 (W := W) (Cl := Cl) I e q
  obtain ⟨Z', ρ', r', I', e', q'⟩ := h
  refine kaG I' e' q' fun v x H1 _ h1 s1 hv I1 q1 => kaG I1 h1 q1 fun u y H2 _ h2 s2 hu I2 q2 => ?_
  cases hg : g v u with
  | none => rw [hg] at h2; cases h2
  | some w =>
    rw [hg] at h2
    cases h2
    exact hr Cl Z' σ ρ' H H2 x y v u w _ I' (s1.trans s2) (hv.same s2) (hu.back s1) hg fun z H' s' hz => q' z H' (s1.trans (s2.trans s')) hz
@[simp] def waS (f g : FT) (ρ : xb) : Option (Except Er Bool) := match f ρ with
  | some (.ok true) => g ρ
  | r => r
@[simp] def wB (f g : FT) (ρ : xb) : Option (Except Er Bool) := match f ρ with
  | some (.ok false) => g ρ
  | r => r
@[simp] def wbl (f : FT) (ρ : xb) : Option (Except Er Bool) := match f ρ with
  | some (.ok b) => some (.ok (!b))
  | r => r
theorem xaU {Z : Addr → Prop} {H : Hp} {σ : St} {ρ : xb} {Q1 : Bool → Hp → Prop} {f : FT} {r : Except Er Bool} (I : DI K Cl Z H σ ρ) (h : f ρ = some r) (he : ∀ e, r = .error e → jaa Cl W σ H e)
    (go : ∀ b H1, r = .ok b → Same Cl H H1 → DI K Cl Z H1 σ ρ → Q1 b H1) : jbl K Cl W f σ H Q1 := by
  refine ⟨Z, ρ, r, I, h, ?_⟩
  cases r with
  | error e => exact he e rfl
  | ok b => exact fun H1 s => go b H1 rfl s (I.same s)
variable {ta tb : FT} {rest : List Expr}
theorem xcD (ha : DT X Cl W a ta) : DW X Cl W (.BoolOp .And [a] pos) ta := pw_and1 ha
theorem wY (ha : DT X Cl W a ta) : DW X Cl W (.BoolOp .Or [a] pos) ta := pw_or1 ha
theorem zcU (ha : DT X Cl W a ta) (hb : DW X Cl W (.BoolOp .And (b :: rest) pos) tb) : DW X Cl W (.BoolOp .And (a :: b :: rest) pos) (waS ta tb) := PW.imp (pw_and ha hb) fun σ H Q ⟨Z, ρ, r, I, e, q⟩ => by
  unfold waS at e
  cases e1 : ta ρ with
  | none => rw [e1] at e; cases e
  | some r1 =>
    refine xaU I e1 (fun er z => ?_) fun b H1 ev s1 I1 => ?_
    · rw [e1, z] at e
      cases e
      exact q
    · subst ev
      rw [e1] at e
      cases b with
      | true =>
        rw [if_pos rfl]
        refine ⟨Z, ρ, r, I1, e, ?_⟩
        cases r with
        | error er => exact jaa.same s1 q
        | ok b => exact fun H2 s2 => q H2 (s1.trans s2)
      | false =>
        cases e
        exact q H1 s1
theorem jal (ha : DT X Cl W a ta) (hb : DW X Cl W (.BoolOp .Or (b :: rest) pos) tb) : DW X Cl W (.BoolOp .Or (a :: b :: rest) pos) (wB ta tb) := PW.imp (pw_or ha hb) fun σ H Q ⟨Z, ρ, r, I, e, q⟩ => by
  unfold wB at e
  cases e1 : ta ρ with
  | none => rw [e1] at e; cases e
  | some r1 =>
    refine xaU I e1 (fun er z => ?_) fun b H1 ev s1 I1 => ?_
    · rw [e1, z] at e
      cases e
      exact q
    · subst ev
      rw [e1] at e
      cases b with
      | false =>
        rw [if_neg Bool.false_ne_true]
        refine ⟨Z, ρ, r, I1, e, ?_⟩
        cases r with
        | error er => exact jaa.same s1 q
        | ok b => exact fun H2 s2 => q H2 (s1.trans s2)
      | true =>
        cases e
        exact q H1 s1
theorem yaz (h : DW X Cl W e ta) : DT X Cl W e ta := PW.pt h
theorem vdr (ha : DT X Cl W a ta) : DT X Cl W (.UnaryOp .Not a pos) (wbl ta) := PT.imp (pt_not ha) fun σ H Q ⟨Z, ρ, r, I, e, q⟩ => by
  unfold wbl at e
  cases e1 : ta ρ with
  | none => rw [e1] at e; cases e
  | some r1 =>
    refine xaU I e1 (fun er z => ?_) fun b H1 ev s1 I1 => ?_
    · rw [e1, z] at e
      cases e
      exact q
    · subst ev
      rw [e1] at e
      cases e
      exact q H1 s1
@[simp] def eIf (t : FT) (f g : FE) (ρ : xb) : Option (Except Er Val) := match t ρ with
  | none => none
  | some (.error e) => some (.error e)
  | some (.ok true) => f ρ
  | some (.ok false) => g ρ
@[simp] def eT (t : FT) (ρ : xb) : Option (Except Er Val) := match t ρ with
  | none => none
  | some (.error e) => some (.error e)
  | some (.ok b) => ok (.bool b)
def xdC (f g : FE) : FE := bE f fun v ρ => match v.d with
  | .bool true => g ρ
  | .bool false => ok (.bool false)
  | _ => none
def zcg (f g : FE) : FE := bE f fun v ρ => match v.d with
  | .bool false => g ρ
  | .bool true => ok (.bool true)
  | _ => none
@[simp] def jeh (v : Val) : Option Val := match v.d with
  | .bool b => some (.s (.bool (!b)))
  | _ => none
theorem ydr {op} (h : DE X Cl W a fa) : DE X Cl W (.BoolOp op [a] pos) fa := pe_one h
theorem xdr (ha : DE X Cl W a fa) (hb : DE X Cl W (.BoolOp .Or (b :: rest) pos) fb) : DE X Cl W (.BoolOp .Or (a :: b :: rest) pos) (zcg fa fb) := PE.imp (pe_or ha hb) fun σ H Q ⟨Z, ρ, r, I, e, q⟩ => by
  refine kaG I e q fun v x H1 _ h1 s1 hv I1 q1 => ?_
  split at h1
  · rename_i e1
    exact ⟨false, hv.yaV I e1, ⟨Z, ρ, r, I1, h1, q1⟩⟩
  · rename_i e1
    cases h1
    exact ⟨true, hv.yaV I e1, q1 _ H1 (Same.refl _) (.bl _)⟩
  · cases h1
end
inductive Out where
  | nx (ρ : xb) | ret (d : D) | retF (ds : List D) | retX (ds : List D) (k : Nat) | brk (ρ : xb) | ct (ρ : xb) | exc (ρ : xb) (c : Nat) (i : Int)
abbrev FS := xb → Option Out
structure SI (K : PySem.W.Frag) (Cl : Nat → Addr) (H0 : Hp) (Z : Addr → Prop) (H : Hp) (σ : St) (ρ : xb) : Prop where
  di : DI K Cl Z H σ ρ
  same : Same Cl H0 H
  new : ∀ a, xo σ ρ a → H0 a = none
def OOk (K : PySem.W.Frag) (Cl : Nat → Addr) (W : WX) (H0 : Hp) (Z : Addr → Prop) (D : Ends) : Out → Prop
  | .nx ρ => ∀ σ H, SI K Cl H0 Z H σ ρ → D.nx σ H
  | .brk ρ => ∀ σ H, SI K Cl H0 Z H σ ρ → D.bk σ H
  | .ct ρ => ∀ σ H, SI K Cl H0 Z H σ ρ → D.ct σ H
  | .ret d => ∀ v H, Same Cl H0 H → Dp K (hide H Z) v d → D.rt v H
  | .retF ds => ∀ p xs H, Same Cl H0 H → H0 p = none → H p = some (.lst xs) → DpAll K (hide H (ZP Z p)) xs ds → D.rt (.ref p) H
  | .retX ds k => ∀ T p xs ys H, Same Cl H0 H → SqT K (hide H Z) T xs → DpAll K (hide H Z) xs ds → xs[k]? = some (.ref p) → H0 p = none → H p = some (.lst ys) → D.rt (.ref T) H
  | .exc ρ c i => ∀ dd σ H, SI K Cl H0 Z H σ ρ → H dd = some (.xd [(("at" : Str), .int i)]) → W (.ref (Cl c)) (some dd) σ H
def ybk (K : PySem.W.Frag) (Cl : Nat → Addr) (W : WX) (f : FS) : TS := fun D σ H => ∃ H0 Z ρ o, SI K Cl H0 Z H σ ρ ∧ f ρ = some o ∧ OOk K Cl W H0 Z D o
def DS (X : Cx) (Cl : Nat → Addr) (W : WX) (st : Stmt) (f : FS) : Prop := PS X st (ybk X.K Cl W f)
def DSs (X : Cx) (Cl : Nat → Addr) (W : WX) (st : List Stmt) (f : FS) : Prop := PSs X st (ybk X.K Cl W f)
section
variable {K : PySem.W.Frag} {Cl : Nat → Addr} {W : WX} {H0 H1 : Hp} {Z : Addr → Prop} {H H' : Hp} {σ : St} {ρ : xb} {D : Ends}
theorem SI.kO (I : SI K Cl H0 Z H σ ρ) (s : Same Cl H H') : SI K Cl H0 Z H' σ ρ := ⟨I.di.same s, I.same.trans s, I.new⟩
theorem SI.rebase (I : SI K Cl H1 Z H σ ρ) (s : Same Cl H0 H1) : SI K Cl H0 Z H σ ρ := ⟨I.di, s.trans I.same, fun a h => s.free (I.new a h)⟩
theorem OOk.rebase {o : Out} (s : Same Cl H0 H1) (h : OOk K Cl W H0 Z D o) : OOk K Cl W H1 Z D o := by
  cases o with
  | nx ρ => exact fun σ H I => h σ H (I.rebase s)
  | brk ρ => exact fun σ H I => h σ H (I.rebase s)
  | ct ρ => exact fun σ H I => h σ H (I.rebase s)
  | ret d => exact fun v H q e => h v H (s.trans q) e
  | retF ds => exact fun p xs H q n e1 e2 => h p xs H (s.trans q) (s.free n) e1 e2
  | retX ds k => exact fun T p xs ys H q e1 e2 e3 n e4 => h T p xs ys H (s.trans q) e1 e2 e3 (s.free n) e4
  | exc ρ c i => exact fun dd σ H I e => h dd σ H (I.rebase s) e
theorem OOk.err {e : Er} (I : SI K Cl H0 Z H σ ρ) (h : OOk K Cl W H0 Z D (.exc ρ e.1 e.2)) : jaa Cl W σ H e := fun dd H' s hd => h dd σ H' (I.kO s) hd
theorem TBl.over {H4 : Hp} {L : Addr} {acc zs : List V} (t : TBl Cl H4) (hL : H4 L = some (.lst acc)) : TBl Cl (upd H4 L (.lst zs)) := fun p hp n => by
  have nP : ∀ {b : Addr} {o : HO}, H4 b = some o → (∀ ys, o ≠ .lst ys) → b ≠ L := fun {b o} e n z => by
    rw [z, hL] at e
    exact n _ (Option.some.inj e).symm
  obtain ⟨ps, h1, h2, h3⟩ := t p hp n
  refine ⟨ps, by rw [upd_ne (nP h1 fun _ z => by cases z)]; exact h1, h2, fun pos cv hc => ?_⟩
  obtain ⟨c, e1, e2⟩ := h3 pos cv hc
  exact ⟨c, e1, by rw [upd_ne (nP e2 fun _ z => by unfold LamX.CodeO at z; cases z)]; exact e2⟩
theorem Same.over {H1 H4 : Hp} {L : Addr} {acc zs : List V} (s : Same Cl H1 H4) (nL : H1 L = none) (hL : H4 L = some (.lst acc)) : Same Cl H1 (upd H4 L (.lst zs)) := by
  have ne : ∀ {b : Addr}, H1 b ≠ none → b ≠ L := fun {b} e z => e (by rw [z]; exact nL)
  exact ⟨fun b o e n => by rw [upd_ne (ne (by rw [e]; intro z; cases z))]; exact s.d b o e n, fun t => (s.tb t).over hL, fun b e => (by rw [upd_ne (ne e)]; exact s.live b e), fun b o xs e => (by
    by_cases z : b = L
    · rw [z, upd_same] at e
      cases e
    · rw [upd_ne z] at e
      exact s.nf b o xs e)⟩
theorem jq.slot {i : Nat} {a : Addr} (h : jq σ ρ i a) : ∃ s : Slot, ρ[i]? = some s ∧ s.jaz := by
  rcases h with ⟨_, ds, h2⟩ | ⟨k, ds, h2⟩ | ⟨c, h2⟩
  · exact ⟨_, h2, trivial⟩
  · exact ⟨_, h2, trivial⟩
  · exact ⟨_, h2, trivial⟩
theorem qY {i : Nat} {x : Option V} {s : Slot} (hs : ¬ s.jaz) {j : Nat} {a : Addr} (h : jq (σ.set i x) (ρ.set i s) j a) : jq σ ρ j a := by
  by_cases hj : i = j
  · subst hj
    have no : ∀ t : Slot, t.jaz → (ρ.set i s)[i]? ≠ some t := fun t ht h2 => by
      rw [List.getElem?_set, if_pos rfl] at h2
      split at h2
      · rw [Option.some.inj h2] at hs
        exact hs ht
      · cases h2
    rcases h with ⟨_, ds, h2⟩ | ⟨k, ds, h2⟩ | ⟨c, h2⟩
    · exact absurd h2 (no (.own ds) trivial)
    · exact absurd h2 (no (.ownT a k ds) trivial)
    · exact absurd h2 (no (.vX a c) trivial)
  · unfold jq at h ⊢
    rw [List.getElem?_set_ne hj, List.getElem?_set_ne hj] at h
    exact h
theorem DI.qc2 (I : DI K Cl Z H σ ρ) {i : Nat} {x : Option V} {s : Slot} (hs : ¬ s.jaz) (h : ∀ Hs, vc (hide H (Zo Z σ ρ)) Hs → xbS K Cl H Hs (some x) s) : DI K Cl Z H (σ.set i x) (ρ.set i s) := by
  have sub : ∀ a, xo (σ.set i x) (ρ.set i s) a → xo σ ρ a := fun a ⟨j, q⟩ => ⟨j, qY hs q⟩
  have hm : vc (hide H (Zo Z σ ρ)) (hide H (Zo Z (σ.set i x) (ρ.set i s))) := qe (vc.refl _) fun b hb => .inl (hb.elim .inl fun z => .inr (sub b z))
  refine ⟨by rw [List.length_set, List.length_set]; exact I.len, fun j k a h1 h2 => I.one j k a (qY hs h1) (qY hs h2), fun a q => I.out a (sub a q), I.live, fun j t e => ?_, I.tb⟩
  by_cases hj : i = j
  · subst hj
    rw [List.getElem?_set, if_pos rfl] at e
    split at e
    · rename_i hl
      cases e
      rw [List.getElem?_set, if_pos rfl, if_pos (by rw [← I.len]; exact hl)]
      exact h _ hm
    · cases e
  · rw [List.getElem?_set_ne hj] at e ⊢
    have q := I.slots j t e
    cases t with
    | un => trivial
    | dat d =>
      obtain ⟨v, e1, h1⟩ := q
      exact ⟨v, e1, Dp.same hm h1⟩
    | own ds =>
      obtain ⟨a, xs, e1, e2, h1⟩ := q
      exact ⟨a, xs, e1, e2, DpAll.same hm h1⟩
    | err a dd j => exact q
    | ownT a k ds =>
      obtain ⟨T, e1, h1⟩ := q
      exact ⟨T, e1, h1.same hm fun _ z => z⟩
    | pin a => exact q
    | ob k fs => exact kat.same hm q
    | vX a c =>
      obtain ⟨e1, u, e2, h1⟩ := q
      exact ⟨e1, u, e2, h1.same hm⟩
theorem DI.vY (I : DI K Cl Z H σ ρ) {i : Nat} {v : V} {d : DL.D} (h : Dp K (hide H (Zo Z σ ρ)) v d) : DI K Cl Z H (σ.set i (some v)) (ρ.set i (.dat d)) :=
  I.qc2 (fun z => nomatch z) fun Hs s => ⟨v, rfl, Dp.same s h⟩
theorem DI.vbT (I : DI K Cl Z H σ ρ) {i : Nat} {x : Option V} : DI K Cl Z H (σ.set i x) (ρ.set i .un) := I.qc2 (fun z => nomatch z) fun _ _ => trivial
theorem SI.vY (I : SI K Cl H0 Z H σ ρ) {i : Nat} {v : V} {d : DL.D} (h : Dp K (hide H (Zo Z σ ρ)) v d) : SI K Cl H0 Z H (σ.set i (some v)) (ρ.set i (.dat d)) :=
  ⟨I.di.vY h, I.same, fun a ⟨j, q⟩ => I.new a ⟨j, qY (s := .dat d) (fun z => nomatch z) q⟩⟩
theorem SI.vbT (I : SI K Cl H0 Z H σ ρ) {i : Nat} {x : Option V} : SI K Cl H0 Z H (σ.set i x) (ρ.set i .un) :=
  ⟨I.di.vbT, I.same, fun a ⟨j, q⟩ => I.new a ⟨j, qY (s := .un) (fun z => nomatch z) q⟩⟩
theorem qaV {i : Nat} {p : Addr} {es : List DL.D} {j : Nat} {a : Addr} (h : jq (σ.set i (some (.ref p))) (ρ.set i (.own es)) j a) : (i = j ∧ a = p) ∨ (i ≠ j ∧ jq σ ρ j a) := by
  by_cases hj : i = j
  · subst hj
    rcases h with ⟨h1, ds, h2⟩ | ⟨k, ds, h2⟩ | ⟨c, h2⟩
    · rw [List.getElem?_set, if_pos rfl] at h1
      split at h1
      · cases h1
        exact .inl ⟨rfl, rfl⟩
      · cases h1
    · rw [List.getElem?_set, if_pos rfl] at h2
      split at h2
      · cases h2
      · cases h2
    · rw [List.getElem?_set, if_pos rfl] at h2
      split at h2
      · cases h2
      · cases h2
  · unfold jq at h
    rw [List.getElem?_set_ne hj, List.getElem?_set_ne hj] at h
    exact .inr ⟨hj, h⟩
theorem DI.zbB (I : DI K Cl Z H1 σ ρ) (s1 : Same Cl H1 H) {i : Nat} {p : Addr} {xs : List V} {ds : List DL.D} (np : H1 p = none) (hp : H p = some (.lst xs)) (h : DpAll K (hide H (ZP (Zo Z σ ρ) p)) xs ds) : DI K Cl Z H (σ.set i (some (.ref p))) (ρ.set i (.own ds)) := by
  have nz : ¬ Zo Z σ ρ p := fun z => I.qal z np
  have no : ∀ j, ¬ jq σ ρ j p := fun j q => nz (.inr ⟨j, q⟩)
  have sub : ∀ b, Zo Z (σ.set i (some (.ref p))) (ρ.set i (.own ds)) b → ZP (Zo Z σ ρ) p b := fun b hb => by
    rcases hb with hb | ⟨j, q⟩
    · exact .inl (.inl hb)
    · rcases qaV q with ⟨_, e⟩ | ⟨_, q⟩
      · exact .inr e
      · exact .inl (.inr ⟨j, q⟩)
  have hm : vc (hide H (ZP (Zo Z σ ρ) p)) (hide H (Zo Z (σ.set i (some (.ref p))) (ρ.set i (.own ds)))) := qe (vc.refl _) fun b hb => .inl (sub b hb)
  have hm1 : vc (hide H1 (Zo Z σ ρ)) (hide H (Zo Z (σ.set i (some (.ref p))) (ρ.set i (.own ds)))) := vw s1 fun b hb => by
    rcases sub b hb with z | rfl
    · exact .inl z
    · exact .inr np
  have I' := I.same s1
  refine ⟨by rw [List.length_set, List.length_set]; exact I.len, fun j k a h1 h2 => ?_, fun a ⟨j, q⟩ => ?_, I'.live, fun j t e => ?_, I'.tb⟩
  · rcases qaV h1 with ⟨e1, e2⟩ | ⟨n1, q1⟩
    · rcases qaV h2 with ⟨e3, e4⟩ | ⟨n2, q2⟩
      · rw [← e1, ← e3]
      · rw [e2] at q2
        exact absurd q2 (no k)
    · rcases qaV h2 with ⟨e3, e4⟩ | ⟨n2, q2⟩
      · rw [e4] at q1
        exact absurd q1 (no j)
      · exact I.one j k a q1 q2
  · rcases qaV q with ⟨_, e⟩ | ⟨_, q⟩
    · rw [e]
      exact fun z => nz (.inl z)
    · exact I.out a ⟨j, q⟩
  · by_cases hj : i = j
    · subst hj
      rw [List.getElem?_set, if_pos rfl] at e
      split at e
      · rename_i hl
        cases e
        rw [List.getElem?_set, if_pos rfl, if_pos (by rw [← I.len]; exact hl)]
        exact ⟨p, xs, rfl, hp, DpAll.same hm h⟩
      · cases e
    · rw [List.getElem?_set_ne hj] at e ⊢
      have q := I.slots j t e
      cases t with
      | un => trivial
      | dat d =>
        obtain ⟨v, e1, h1⟩ := q
        exact ⟨v, e1, Dp.same hm1 h1⟩
      | own es =>
        obtain ⟨a, ys, e1, e2, h1⟩ := q
        exact ⟨a, ys, e1, s1.at e2, DpAll.same hm1 h1⟩
      | err a dd j => exact ⟨q.1, s1.at q.2⟩
      | ownT a k ds =>
        obtain ⟨T, e1, h1⟩ := q
        exact ⟨T, e1, h1.same hm1 fun _ z => s1.at z⟩
      | pin a => exact q
      | ob k fs => exact kat.same hm1 q
      | vX a c =>
        obtain ⟨e1, u, e2, h1⟩ := q
        exact ⟨e1, u, s1.vX h1 e2, h1.same hm1⟩
theorem SI.zbB (I : SI K Cl H0 Z H1 σ ρ) (s1 : Same Cl H1 H) {i : Nat} {p : Addr} {xs : List V} {ds : List DL.D} (np : H1 p = none) (hp : H p = some (.lst xs)) (h : DpAll K (hide H (ZP (Zo Z σ ρ) p)) xs ds) : SI K Cl H0 Z H (σ.set i (some (.ref p))) (ρ.set i (.own ds)) := by
  refine ⟨I.di.zbB s1 np hp h, I.same.trans s1, fun a ⟨j, q⟩ => ?_⟩
  rcases qaV q with ⟨_, e⟩ | ⟨_, q⟩
  · rw [e]
    exact I.same.free np
  · exact I.new a ⟨j, q⟩
theorem SI.write (I : SI K Cl H0 Z H σ ρ) {i : Nat} {p : Addr} {xs : List V} {ds es : List DL.D} (hi : σ[i]? = some (some (.ref p))) (hr : ρ[i]? = some (.own es)) (h : DpAll K (hide H (Zo Z σ ρ)) xs ds) : SI K Cl H0 Z (upd H p (.lst xs)) σ (ρ.set i (.own ds)) := by
  have hil : i < ρ.length := (List.getElem?_eq_some_iff.mp hr).1
  have zaV : ∀ j a, jq σ (ρ.set i (.own ds)) j a ↔ jq σ ρ j a := fun j a => by
    by_cases hj : i = j
    · subst hj
      constructor
      · rintro (⟨h1, _⟩ | ⟨k, d, h2⟩ | ⟨c, h2⟩)
        · exact .inl ⟨h1, es, hr⟩
        · rw [List.getElem?_set, if_pos rfl, if_pos hil] at h2
          cases h2
        · rw [List.getElem?_set, if_pos rfl, if_pos hil] at h2
          cases h2
      · rintro (⟨h1, _⟩ | ⟨k, d, h2⟩ | ⟨c, h2⟩)
        · exact .inl ⟨h1, ds, by rw [List.getElem?_set, if_pos rfl, if_pos hil]⟩
        · rw [hr] at h2
          cases h2
        · rw [hr] at h2
          cases h2
    · unfold jq
      rw [List.getElem?_set_ne hj]
  have jds : ∀ b, Zo Z σ (ρ.set i (.own ds)) b ↔ Zo Z σ ρ b := fun b => by
    constructor
    · rintro (z | ⟨j, q⟩)
      · exact .inl z
      · exact .inr ⟨j, (zaV j b).mp q⟩
    · rintro (z | ⟨j, q⟩)
      · exact .inl z
      · exact .inr ⟨j, (zaV j b).mpr q⟩
  have hpo : xo σ ρ p := ⟨i, .inl ⟨hi, es, hr⟩⟩
  have hm : vc (hide H (Zo Z σ ρ)) (hide (upd H p (.lst xs)) (Zo Z σ (ρ.set i (.own ds)))) := fun b o e _ => by
    obtain ⟨n, e1⟩ := wm e
    have nb : b ≠ p := fun z => n (.inr (z ▸ hpo))
    exact xg (fun z => n ((jds b).mp z)) (by rw [upd_ne nb]; exact e1)
  have live : ∀ a, H a ≠ none → upd H p (.lst xs) a ≠ none := fun a h z => by
    by_cases e : a = p
    · rw [e, upd_same] at z; cases z
    · rw [upd_ne e] at z; exact h z
  refine ⟨⟨by rw [List.length_set]; exact I.di.len, fun j k a h1 h2 => I.di.one j k a ((zaV j a).mp h1) ((zaV k a).mp h2), fun a ⟨j, q⟩ => I.di.out a ⟨j, (zaV j a).mp q⟩, fun a z => live a (I.di.live a z), fun j t e => ?_, ?_⟩, ?_, fun a ⟨j, q⟩ => I.new a ⟨j, (zaV j a).mp q⟩⟩
  · by_cases hj : i = j
    · subst hj
      rw [List.getElem?_set, if_pos rfl, if_pos hil] at e
      cases e
      exact ⟨p, xs, hi, upd_same, DpAll.same hm h⟩
    · rw [List.getElem?_set_ne hj] at e
      have q := I.di.slots j t e
      cases t with
      | un => trivial
      | dat d =>
        obtain ⟨v, e1, h1⟩ := q
        exact ⟨v, e1, Dp.same hm h1⟩
      | own gs =>
        obtain ⟨a, ys, e1, e2, h1⟩ := q
        have na : a ≠ p := fun z => hj (I.di.one i j p (.inl ⟨hi, es, hr⟩) (.inl ⟨by rw [← z]; exact e1, gs, e⟩))
        exact ⟨a, ys, e1, by rw [upd_ne na]; exact e2, DpAll.same hm h1⟩
      | err a dd j =>
        obtain ⟨p', xs', ep, hp', _⟩ := I.di.slots i _ hr
        rw [hi] at ep
        cases ep
        have nd : dd ≠ p := fun z => by
          have q2 := q.2
          rw [z, hp'] at q2
          cases q2
        exact ⟨q.1, by rw [upd_ne nd]; exact q.2⟩
      | ownT a k gs =>
        obtain ⟨T, e1, h1⟩ := q
        have na : a ≠ p := fun z => hj (I.di.one i j p (.inl ⟨hi, es, hr⟩) (.inr (.inl ⟨k, gs, by rw [← z]; exact e⟩)))
        exact ⟨T, e1, h1.same hm fun _ z => by rw [upd_ne na]; exact z⟩
      | pin a => exact q
      | ob k fs => 
        exact kat.same hm q
      | vX a c =>
        obtain ⟨e1, u, e2, h1⟩ := q
        have na : a ≠ p := fun z => hj (I.di.one i j p (.inl ⟨hi, es, hr⟩) (.inr (.inr ⟨c, by rw [← z]; exact e⟩)))
        exact ⟨e1, u, by rw [upd_ne na]; exact e2, h1.same hm⟩
  · obtain ⟨p', xs', ep, hp', _⟩ := I.di.slots i _ hr
    rw [hi] at ep
    cases ep
    exact I.di.tb.over hp'
  · obtain ⟨p', xs', ep, hp', _⟩ := I.di.slots i _ hr
    rw [hi] at ep
    cases ep
    exact I.same.over (I.new p hpo) hp'
end
section
variable {X : Cx} {Cl : Nat → Addr} {W : WX} {e e' : Expr} {f f' : FE} {st : Stmt} {sts sts' : List Stmt} {pos : Pos} {K : PySem.W.Frag}
@[simp] def sE (f : FE) (k : Val → FS) (ρ : xb) : Option Out := match f ρ with
  | none => none
  | some (.error e) => some (.exc ρ e.1 e.2)
  | some (.ok v) => k v ρ
theorem jag {H0 : Hp} {Z : Addr → Prop} {H : Hp} {σ : St} {ρ : xb} {D : Ends} {k : Val → FS} {o : Out} {Q1 : VK} (I : SI K Cl H0 Z H σ ρ) (h : sE f k ρ = some o) (q : OOk K Cl W H0 Z D o)
    (go : ∀ v x H1, f ρ = some (.ok v) → k v ρ = some o → Same Cl H H1 → vA K Z σ ρ H H1 x v → SI K Cl H0 Z H1 σ ρ → Q1 x H1) : qau K Cl W f σ H Q1 := by
  unfold sE at h
  cases e : f ρ with
  | none => rw [e] at h; cases h
  | some r1 =>
    rw [e] at h
    refine yaU I.di e (fun er z => ?_) fun v x H1 ev s1 hv I1 => ?_
    · subst z
      cases h
      exact OOk.err I q
    · subst ev
      exact go v x H1 e h s1 hv (I.kO s1)
@[simp] def ki (ρ : xb) : Option Out := some (.nx ρ)
@[simp] def vb (f g : FS) (ρ : xb) : Option Out := match f ρ with
  | some (.nx ρ') => g ρ'
  | r => r
theorem qh : DSs X Cl W [] ki := PSs.imp pss_nil fun D σ H ⟨H0, Z, ρ, o, I, e, q⟩ => by cases e; exact q σ H I
theorem jc {f : FS} (h : DS X Cl W st f) : DSs X Cl W [st] f := pss_one h
theorem wb {f g : FS} (h1 : DS X Cl W st f) (h2 : DSs X Cl W sts g) : DSs X Cl W (st :: sts) (vb f g) := PSs.imp (pss_cons h1 h2) fun D σ H ⟨H0, Z, ρ, o, I, e, q⟩ => by
  unfold vb at e
  cases e1 : f ρ with
  | none => rw [e1] at e; cases e
  | some o1 =>
    rw [e1] at e
    refine ⟨H0, Z, ρ, o1, I, e1, ?_⟩
    cases o1 with
    | nx ρ' => exact fun σ' H' I' => ⟨H0, Z, ρ', o, I', e, q⟩
    | brk ρ' => cases e; exact q
    | ct ρ' => cases e; exact q
    | ret d => cases e; exact q
    | retF ds => cases e; exact q
    | retX ds k => cases e; exact q
    | exc ρ' c i => cases e; exact q
@[simp] def xej (ρ : xb) : Option Out := some (.brk ρ)
@[simp] def fCt (ρ : xb) : Option Out := some (.ct ρ)
@[simp] def jd3 (i : Nat) (g : FS) (ρ : xb) : Option Out := match ρ[i]? with
  | some (.own ds) => g (ρ.set i (.dat (.list ds)))
  | _ => g ρ
def je (i : Nat) (f : FE) : FS := sE f fun v ρ => v.st.map fun d => .nx (ρ.set i (.dat d))
def jaJ (i : Nat) (f : FE) : FS := sE f fun v ρ => match v with
  | .f ds => some (.nx (ρ.set i (.own ds)))
  | _ => none
theorem ycg {i : Nat} {D : Ends} {σ : St} {H : Hp} (h : ybk K Cl W (je i f) D σ H) : tAsg (qau K Cl W f) (gName i) D σ H := by
  obtain ⟨H0, Z, ρ, o, I, e, q⟩ := h
  refine jag I e q fun v x H1 _ h1 s1 hv I1 => ?_
  cases e1 : v.st with
  | none => rw [e1] at h1; cases h1
  | some d =>
    rw [e1] at h1
    cases h1
    exact q _ _ (I1.vY (hv.stab I.di e1))
theorem wcU {i : Nat} {D : Ends} {σ : St} {H : Hp} (h : ybk K Cl W (jaJ i f) D σ H) : tAsg (qau K Cl W f) (gName i) D σ H := by
  obtain ⟨H0, Z, ρ, o, I, e, q⟩ := h
  refine jag I e q fun v x H1 _ h1 s1 hv I1 => ?_
  split at h1
  · cases h1
    obtain ⟨p, xs, rfl, n, e2, h2⟩ := hv
    exact q _ _ (I.zbB s1 n e2 h2)
  · cases h1
theorem yg {i : Nat} {x : Str} {pos' : Pos} (hN : X.N.Nodup) (he : DE X Cl W e f) (hi : X.N[i]? = some x := by rfl) (hx : Loc X.env.scope x := by first | exact .inl rfl | exact .inr rfl) (hs : swapsWith e (some (.Name x pos')) pos.line X.env = pure false := by rfl) (hf : X.fn x = true ∨ X.env.scope.names.lookup x = some .local := by first | exact .inl rfl | exact .inr rfl) :
    DS X Cl W (.Assign [.Name x pos'] e pos) (je i f) := PS.imp (ps_set hN hi hx he hs hf) fun D σ H h => ycg h
theorem vbe {i : Nat} {x : Str} {pos' : Pos} (hN : X.N.Nodup) (he : DE X Cl W e f) (hi : X.N[i]? = some x := by rfl) (hx : Loc X.env.scope x := by first | exact .inl rfl | exact .inr rfl) (hs : swapsWith e (some (.Name x pos')) pos.line X.env = pure false := by rfl) (hf : X.fn x = true ∨ X.env.scope.names.lookup x = some .local := by first | exact .inl rfl | exact .inr rfl) :
    DS X Cl W (.Assign [.Name x pos'] e pos) (jaJ i f) := PS.imp (ps_set hN hi hx he hs hf) fun D σ H h => wcU h
def kbT (f : FE) : FS := sE f fun _ ρ => some (.nx ρ)
theorem wdl (he : DE X Cl W e f) (hs : swapsWith e none pos.line X.env = pure false := by rfl) : DS X Cl W (.Expr e pos) (kbT f) := PS.imp (ps_expr he hs) fun D σ H ⟨H0, Z, ρ, o, I, e, q⟩ => by
  refine jag I e q fun v x H1 _ h1 s1 hv I1 => ?_
  cases h1
  exact q _ _ I1
def vh (f : FE) : FS := sE f fun v _ => match v with
  | .s d => some (.ret d)
  | .m d => some (.ret d)
  | .b ds => some (.retF ds)
  | .f ds => some (.retF ds)
theorem jh (he : DE X Cl W e f) : DS X Cl W (.Return (some e) pos) (vh f) := PS.imp (ps_ret he) fun D σ H ⟨H0, Z, ρ, o, I, e, q⟩ => by
  refine jag I e q fun v x H1 _ h1 s1 hv I1 => ?_
  cases v with
  | s d => cases h1; exact q x H1 I1.same (Dp.same (qe (vc.refl _) fun _ h => .inl (.inl h)) hv)
  | m d => cases h1; exact q x H1 I1.same hv
  | b ds =>
    cases h1
    obtain ⟨p, xs, rfl, n, h2, h3⟩ := hv
    refine q p xs H1 I1.same (I.new p n) h2 (DpAll.same (qe (vc.refl _) fun b hb => .inl ?_) h3)
    rcases hb with hb | rfl
    · exact .inl hb
    · exact .inr n
  | f ds =>
    cases h1
    obtain ⟨p, xs, rfl, n, h2, h3⟩ := hv
    refine q p xs H1 I1.same (I.same.free n) h2 (DpAll.same (qe (vc.refl _) fun b hb => .inl ?_) h3)
    rcases hb with hb | rfl
    · exact .inl (.inl hb)
    · exact .inr rfl
@[simp] def yeh (ρ : xb) : Option Out := some (.ret .none)
@[simp] def kh (t : FT) (f g : FS) (ρ : xb) : Option Out := match t ρ with
  | none => none
  | some (.error e) => some (.exc ρ e.1 e.2)
  | some (.ok true) => f ρ
  | some (.ok false) => g ρ
theorem ji {c : Expr} {a b : List Stmt} {t : FT} {f g : FS} (hc : DT X Cl W c t) (ha : DSs X Cl W a f) (hb : DSs X Cl W b g) : DS X Cl W (.If c a b pos) (kh t f g) := PS.imp (ps_if hc ha hb) fun D σ H ⟨H0, Z, ρ, o, I, e, q⟩ => by
  unfold kh at e
  cases e1 : t ρ with
  | none => rw [e1] at e; cases e
  | some r1 =>
    refine xaU I.di e1 (fun er z => ?_) fun b H1 ev s1 I1 => ?_
    · subst z
      rw [e1] at e
      cases e
      exact OOk.err I q
    · subst ev
      rw [e1] at e
      cases b with
      | true =>
        rw [if_pos rfl]
        exact ⟨H0, Z, ρ, o, I.kO s1, e, q⟩
      | false =>
        rw [if_neg Bool.false_ne_true]
        exact ⟨H0, Z, ρ, o, I.kO s1, e, q⟩
@[simp] def kbY (i : Nat) (g : Int → Int → Int) (f : FE) (ρ : xb) : Option Out := match ρ[i]? with
  | some (.dat (.int a)) => sE f (fun v ρ => match v.d with
    | .int b => some (.nx (ρ.set i (.dat (.int (g a b)))))
    | _ => none) ρ
  | _ => none
theorem yds {i : Nat} {x : Str} {op : Operator} {g : Int → Int → Int} {pos' : Pos} (hN : X.N.Nodup) (he : DE X Cl W e f) (ho : PIp X op (ipI g)) (hi : X.N[i]? = some x := by rfl) (hx : Loc X.env.scope x := by first | exact .inl rfl | exact .inr rfl) (hf : X.fn x = true ∨ X.env.scope.names.lookup x = some .local := by first | exact .inl rfl | exact .inr rfl) :
    DS X Cl W (.AugAssign (.Name x pos') op e pos) (kbY i g f) := PS.imp (ps_aug hN hi hx he ho hf) fun D σ H ⟨H0, Z, ρ, o, I, e, q⟩ => by
  unfold kbY at e
  split at e
  · rename_i a ha
    obtain ⟨v, e1, h1⟩ := I.di.slots i _ ha
    have e2 := h1.int_inv
    subst e2
    refine ⟨_, e1, jag I e q fun v x H1 _ h1 s1 hv I1 => ?_⟩
    split at h1
    · rename_i b hb
      cases h1
      exact ⟨a, b, rfl, hv.int_inv I.di hb, q _ _ (I1.vY (.int _))⟩
    · cases h1
  · cases e
theorem zcE {H0 : Hp} {Z : Addr → Prop} {H : Hp} {σ : St} {ρ : xb} {i : Nat} {ds : List D} (I : SI K Cl H0 Z H σ ρ) (h : ρ[i]? = some (.own ds)) : ∃ p xs, σ[i]? = some (some (.ref p)) ∧ H p = some (.lst xs) ∧ DpAll K (hide H (Zo Z σ ρ)) xs ds := I.di.slots i _ h
@[simp] def qaN (i : Nat) (k : List D → FS) (ρ : xb) : Option Out := match ρ[i]? with
  | some (.own ds) => k ds ρ
  | _ => none
def qM (i : Nat) (f : FE) : FS := qaN i fun ds => sE f fun v ρ => match v.st with
  | some d => if zz (ds.length + 1) = true then some (.nx (ρ.set i (.own (ds ++ [d])))) else none
  | none => none
theorem vaL {i : Nat} {c : Expr} (hp : PE X c (tBM X.K "list" rAppend (tVar i) (tCons (qau X.K Cl W f) tNil))) (hs : swapsWith c none pos.line X.env = pure false := by rfl) : DS X Cl W (.Expr c pos) (qM i f) := PS.imp (ps_expr hp hs) fun D σ H ⟨H0, Z, ρ, o, I, e, q⟩ => by
  unfold qM qaN at e
  split at e
  · rename_i ds hd
    obtain ⟨p, xs, e1, e2, h1⟩ := zcE I hd
    refine ⟨_, e1, .inl ⟨rfl, xs, .inl (.inl e2)⟩, jag I e q fun v x H1 _ h2 s1 hv I1 => ?_⟩
    split at h2
    · rename_i d hst
      split at h2
      · rename_i hl
        cases h2
        have h3 := DpAll.same (vw s1 fun _ h => .inl h) h1
        refine ⟨p, xs, x, rfl, rfl, s1.at e2, by have := yS hl; rw [h1.length]; omega, ?_⟩
        exact q _ _ (I1.write e1 hd (h3.append (.cons (hv.stab I.di hst) .nil)))
      · cases h2
    · cases h2
  · cases e
def xc9 : V → List V → Hp → VK → Prop := fun x vs H Q => ∃ l b xs zs, x = .ref l ∧ vs = [.ref b] ∧ H l = some (.lst xs) ∧ Rd H b (.lst zs) ∧ xs.length + zs.length ≤ sizeLine ∧ Q .non (upd H l (.lst (xs ++ zs)))
theorem qbZ : MtM X "list.extend" xc9 := by
  intro pins s σ H x vs v us Q I rx rv h
  obtain ⟨l, b, xs, zs, rfl, rfl, hH, hB, hz, q⟩ := h
  cases rx
  obtain ⟨u, rfl, ru⟩ := rv.one
  cases ru
  obtain ⟨z, its, n, r, hl, e⟩ := I.lstM hH
  obtain ⟨z2, its2, n2, r2, hl2, e2⟩ := Rd.lstM I hB
  have hsz : its.toArray.size + its2.toArray.size ≤ sizeLine := by rw [List.size_toArray, List.size_toArray]; omega
  have hlong : ¬ (!its.toArray.isEmpty && Builtin.List.listTooLong (its.toArray.size + its2.toArray.size)) = true := by
    rw [notLongL hsz, Bool.and_false]
    exact Bool.false_ne_true
  refine call_meets F.slot_list_extend ⟨_, e, rfl⟩ F.entry_list_extend (F.args_list_extend_2 _ _)
    (AutoSeq1.list_extend_list_list_0 l its.toArray n b its2.toArray n2 hlong (by rw [List.size_toArray]; omega) (by omega)) ⟨e, e2, ?_⟩
  refine ⟨.non, _, I.lset (its' := its ++ its2) hH e (by simp) (r.append r2) ?_, rfl, q⟩
  rw [List.length_append]
  omega
def zaH (i : Nat) (f : FE) : FS := qaN i fun ds => sE f fun v ρ => match v.items with
  | some es => if zz (ds.length + es.length) = true then some (.nx (ρ.set i (.own (ds ++ es)))) else none
  | none => none
theorem xcg {i : Nat} {c : Expr} (hp : PE X c (tBM X.K "list" xc9 (tVar i) (tCons (qau X.K Cl W f) tNil))) (hs : swapsWith c none pos.line X.env = pure false := by rfl) : DS X Cl W (.Expr c pos) (zaH i f) := PS.imp (ps_expr hp hs) fun D σ H ⟨H0, Z, ρ, o, I, e, q⟩ => by
  unfold zaH qaN at e
  split at e
  · rename_i ds hd
    obtain ⟨p, xs, e1, e2, h1⟩ := zcE I hd
    refine ⟨_, e1, .inl ⟨rfl, xs, .inl (.inl e2)⟩, jag I e q fun v x H1 _ h2 s1 hv I1 => ?_⟩
    split at h2
    · rename_i es hst
      split at h2
      · rename_i hl
        cases h2
        have h3 := DpAll.same (vw s1 fun _ h => .inl h) h1
        obtain ⟨b, zs, rfl, h4, h5⟩ := hv.items I.di hst
        refine ⟨p, b, xs, zs, rfl, rfl, s1.at e2, h4, by rw [h1.length, h5.length]; exact yS hl, ?_⟩
        exact q _ _ (I1.write e1 hd (h3.append h5))
      · cases h2
    · cases h2
  · cases e
def zdI (i : Nat) : FS := qaN i fun ds ρ => if ds.isEmpty = true then none else some (.nx (ρ.set i (.own ds.dropLast)))
def jdI (i : Nat) (fk fe : FE) : FS := sE fe fun v => qaN i fun ds => sE fk fun k ρ => match k.d, v.st with
  | .int j, some d => (ixN ds.length j).map fun n => .nx (ρ.set i (.own (ds.set n d)))
  | _, _ => none
theorem vcU {Z : Addr → Prop} {H : Hp} {σ : St} {ρ : xb} {i : Nat} {x : Option V} {d : D} : vc (hide H (Zo Z σ ρ)) (hide H (Zo Z (σ.set i x) (ρ.set i (.dat d)))) :=
  qe (vc.refl _) fun b hb => .inl (hb.elim .inl fun ⟨j, z⟩ => .inr ⟨j, qY (s := .dat d) (fun z => nomatch z) z⟩)
abbrev FG := D → xb → Option xb
def wdI (K : PySem.W.Frag) (Cl : Nat → Addr) (g : FG) : TG := fun v σ H Q => ∃ H0 Z ρ d ρ', SI K Cl H0 Z H σ ρ ∧ Dp K (hide H (Zo Z σ ρ)) v d ∧ g d ρ = some ρ' ∧ ∀ σ', SI K Cl H0 Z H σ' ρ' → Q σ' H
def DG (X : Cx) (Cl : Nat → Addr) (tg : Expr) (g : FG) : Prop := PG X tg (wdI X.K Cl g)
theorem PG.imp {tg : Expr} {t t' : TG} (h : PG X tg t) (i : ∀ v σ H Q, t' v σ H Q → t v σ H Q) : PG X tg t' := ⟨fun pins s σ H v u Q I r q => h.run pins s σ H v u Q I r (i v σ H Q q)⟩
def gN (i : Nat) : FG := fun d ρ => some (ρ.set i (.dat d))
theorem jR {i : Nat} {x : Str} (hN : X.N.Nodup) (hi : X.N[i]? = some x := by rfl) (hx : Loc X.env.scope x := by first | exact .inl rfl | exact .inr rfl) (hf : X.fn x = true ∨ X.env.scope.names.lookup x = some .local := by first | exact .inl rfl | exact .inr rfl) : DG X Cl (.Name x pos) (gN i) :=
  PG.imp (pg_name hN hi hx hf) fun v σ H Q ⟨H0, Z, ρ, d, ρ', I, h, e, q⟩ => by
    cases e
    exact q _ (I.vY h)
abbrev FGs := List D → xb → Option xb
def kdC (K : PySem.W.Frag) (Cl : Nat → Addr) (g : FGs) : TGs := fun vs σ H Q => ∃ H0 Z ρ ds ρ', SI K Cl H0 Z H σ ρ ∧ DpAll K (hide H (Zo Z σ ρ)) vs ds ∧ g ds ρ = some ρ' ∧ ∀ σ', SI K Cl H0 Z H σ' ρ' → Q σ' H
def DGs (X : Cx) (Cl : Nat → Addr) (tgs : List Expr) (g : FGs) : Prop := PGs X tgs (kdC X.K Cl g)
theorem PGs.imp {tg : List Expr} {t t' : TGs} (h : PGs X tg t) (i : ∀ v σ H Q, t' v σ H Q → t v σ H Q) : PGs X tg t' := ⟨fun pins s σ H v u Q I r q => h.run pins s σ H v u Q I r (i v σ H Q q)⟩
def wo : FGs := fun ds ρ => match ds with
  | [] => some ρ
  | _ => none
def qc (i : Nat) (g : FGs) : FGs := fun ds ρ => match ds with
  | d :: r => g r (ρ.set i (.dat d))
  | [] => none
theorem xu : DGs X Cl [] wo := PGs.imp pgs_nil fun vs σ H Q ⟨H0, Z, ρ, ds, ρ', I, h, e, q⟩ => by
  cases ds with
  | nil => cases e; cases h; exact ⟨rfl, q σ I⟩
  | cons _ _ => cases e
theorem yc {i : Nat} {x : Str} {g : FGs} {es : List Expr} (hN : X.N.Nodup) (hr : DGs X Cl es g) (hi : X.N[i]? = some x := by rfl) (hx : Loc X.env.scope x := by first | exact .inl rfl | exact .inr rfl) (hf : X.fn x = true ∨ X.env.scope.names.lookup x = some .local := by first | exact .inl rfl | exact .inr rfl)
    (hs : (assignEach (.Name x pos :: es) X.env).map (·.2) = assign (.Name x pos) X.env :: (assignEach es X.env).map (·.2) := by rfl) : DGs X Cl (.Name x pos :: es) (qc i g) :=
  PGs.imp (pgs_cons (pg_name hN hi hx hf) hr hs) fun vs σ H Q ⟨H0, Z, ρ, ds, ρ', I, h, e, q⟩ => by
    cases ds with
    | nil => cases e
    | cons d r =>
      cases h with
      | @cons v vr _ _ a b =>
        exact ⟨v, vr, rfl, ⟨H0, Z, ρ.set i (.dat d), r, ρ', I.vY a, DpAll.same vcU b, e, q⟩⟩
def gT (n : Nat) (g : FGs) : FG := fun d ρ => match d with
  | .tuple ds => if ds.length = n then g ds ρ else none
  | _ => none
theorem jz {es : List Expr} {k : Nat} {g : FGs} {n : Nat} (hc : X.calm = true) (h : DGs X Cl es g) (hn : (assignEach es X.env).length = n := by rfl) (hst : (assignEach es X.env).findIdx? (·.1) = none := by rfl) : DG X Cl (.Tuple es k pos) (gT n g) :=
  PG.imp (pg_tup hc h hn hst) fun v σ H Q ⟨H0, Z, ρ, d, ρ', I, hd, e, q⟩ => by
    unfold gT at e
    split at e
    · rename_i ds
      split at e
      · rename_i hl
        obtain ⟨a, xs, rfl, h1, h2⟩ := hd.qR
        exact ⟨a, xs, rfl, SqT.same wj h1, by rw [h2.length]; exact hl, ⟨H0, Z, ρ, ds, ρ', I, h2, e, q⟩⟩
      · cases e
    · cases e
end
abbrev FI := xb → Option (Except Er (List D))
def wbQ (K : PySem.W.Frag) (Hs : Hp) (J : It) (ds : List D) : Prop := ∀ (Z' : Addr → Prop) (H' : Hp), vc Hs (hide H' Z') → (∀ b, Z' b → H' b ≠ none) →
  (∀ i, i < ds.length → J.go i H') ∧ (∀ i, ds.length ≤ i → J.stop i H') ∧ ∀ i x H'' d, J.yld i H' x H'' → ds[i]? = some d → (∀ Cl, Same Cl H' H'') ∧ Dp K (hide H'' Z') x d
def RIk (K : PySem.W.Frag) (Cl : Nat → Addr) (W : WX) (Z : Addr → Prop) (σ : St) (ρ : xb) (H : Hp) (R : It → Hp → Prop) : Except Er (List D) → Prop
  | .ok ds => ∀ J H1, Same Cl H H1 → wbQ K (hide H1 (Zo Z σ ρ)) J ds → R J H1
  | .error e => jaa Cl W σ H e
def xcH (K : PySem.W.Frag) (Cl : Nat → Addr) (W : WX) (f : FI) : TI := fun σ H R => ∃ Z ρ r, DI K Cl Z H σ ρ ∧ f ρ = some r ∧ RIk K Cl W Z σ ρ H R r
def DIt (X : Cx) (Cl : Nat → Addr) (W : WX) (tg e : Expr) (f : FI) : Prop := PI X tg e (xcH X.K Cl W f)
theorem PI.imp {X : Cx} {tg e : Expr} {t t' : TI} (h : PI X tg e t) (i : ∀ σ H Q, t' σ H Q → t σ H Q) : PI X tg e t' := ⟨fun pins s σ H Q I q => h.run pins s σ H Q I (i σ H Q q)⟩
theorem PI.or {X : Cx} {tg e : Expr} {t t' : TI} (h : PI X tg e t) (h' : PI X tg e t') : PI X tg e (fun σ H R => t σ H R ∨ t' σ H R) := ⟨fun pins s σ H Q I q => q.elim (h.run pins s σ H Q I) (h'.run pins s σ H Q I)⟩
section
variable {X : Cx} {Cl : Nat → Addr} {W : WX} {e tg : Expr} {es : List Expr} {f : FE} {g : FA} {p pos : Pos} {K : PySem.W.Frag}
def signs (x : Str) : List D := x.cps.toList.map fun c => .str ⟨#[c]⟩
@[simp] def xY (f : FE) (ρ : xb) : Option (Except Er (List D)) := match f ρ with
  | none => none
  | some (.error e) => some (.error e)
  | some (.ok v) => match v with
    | .s (.list ds) => some (.ok ds)
    | .s (.tuple ds) => some (.ok ds)
    | .s (.str x) => some (.ok (signs x))
    | .f ds => some (.ok ds)
    | _ => none
theorem jcE {Hs : Hp} {a : Addr} {xs : List V} {ds : List D} (h1 : Rd Hs a (.lst xs)) (h2 : DpAll K Hs xs ds) : wbQ K Hs (Itl K a) ds := fun Z' H' s _ => by
  have q : SqL K H' a xs := .inl (Rd.same (s.trans wj) h1)
  refine ⟨fun i hi => ⟨xs, xs[i]'(by rw [h2.length]; exact hi), q, List.getElem?_eq_getElem _⟩, fun i hi => ⟨xs, q, by rw [h2.length]; exact hi⟩, fun i x H'' d y hd => ?_⟩
  obtain ⟨rfl, y⟩ := y
  obtain ⟨v, e1, e2⟩ := h2.get hd
  have e3 := y xs q
  rw [e1] at e3
  cases e3
  exact ⟨fun _ => Same.refl _, Dp.same s e2⟩
theorem kds {Hs : Hp} {a : Addr} {xs : List V} {ds : List D} (h1 : SqT K Hs a xs) (h2 : DpAll K Hs xs ds) : wbQ K Hs (Itt K a) ds := fun Z' H' s _ => by
  have q : SqT K H' a xs := SqT.same (s.trans wj) h1
  refine ⟨fun i hi => ⟨xs, xs[i]'(by rw [h2.length]; exact hi), q, List.getElem?_eq_getElem _⟩, fun i hi => ⟨xs, q, by rw [h2.length]; exact hi⟩, fun i x H'' d y hd => ?_⟩
  obtain ⟨rfl, y⟩ := y
  obtain ⟨v, e1, e2⟩ := h2.get hd
  have e3 := y xs q
  rw [e1] at e3
  cases e3
  exact ⟨fun _ => Same.refl _, Dp.same s e2⟩
theorem qdt {Hs : Hp} {x : Str} : wbQ K Hs (Its x) (signs x) := fun Z' H' s _ => by
  have hl : (signs x).length = x.cps.size := by simp [signs]
  refine ⟨fun i hi => ?_, fun i hi => ?_, fun i v H'' d y hd => ?_⟩
  · rw [hl] at hi
    exact hi
  · rw [hl] at hi
    exact hi
  · obtain ⟨rfl, c, hc, rfl⟩ := y
    refine ⟨fun _ => Same.refl _, ?_⟩
    have e2 : (signs x)[i]? = some (.str ⟨#[c]⟩) := by
      unfold signs
      rw [List.getElem?_map, Array.getElem?_toList, hc]
      rfl
    rw [hd] at e2
    cases e2
    exact .str _
theorem zbR {Hs : Hp} {lo : Int} {n : Nat} : wbQ K Hs (Itr lo n) ((List.range n).map fun (i : Nat) => .int (lo + (i : Int))) := fun Z' H' s _ => by
  refine ⟨fun i hi => (by simpa using hi : i < n), fun i hi => (by simpa using hi : n ≤ i), fun i v H'' d y hd => ?_⟩
  obtain ⟨rfl, rfl⟩ := y
  refine ⟨fun _ => Same.refl _, ?_⟩
  rw [List.getElem?_map] at hd
  cases e : (List.range n)[i]? with
  | none => rw [e] at hd; cases hd
  | some j =>
    rw [e] at hd
    obtain ⟨hi, e1⟩ := List.getElem?_eq_some_iff.mp e
    rw [List.getElem_range] at e1
    subst e1
    cases hd
    exact .int _
def waa (ds : List D) : List D := ds.zipIdx.map fun p => .tuple [.int (p.2 : Int), p.1]
theorem qcD {Hs : Hp} {a : Addr} {xs : List V} {ds : List D} (h1 : Rd Hs a (.lst xs)) (h2 : DpAll K Hs xs ds) : wbQ K Hs (Ite K a) (waa ds) := fun Z' H' s live => by
  have q : SqL K H' a xs := .inl (Rd.same (s.trans wj) h1)
  have hl : (waa ds).length = xs.length := by
    unfold waa
    rw [List.length_map, List.length_zipIdx, h2.length]
  refine ⟨fun i hi => ⟨xs, xs[i]'(by rw [← hl]; exact hi), q, List.getElem?_eq_getElem _⟩, fun i hi => ⟨xs, q, by rw [← hl]; exact hi⟩, fun i x H'' d y hd => ?_⟩
  obtain ⟨T, z, rfl, nT, rfl, y⟩ := y
  have e3 := y xs q
  obtain ⟨d', e1, e2⟩ := h2.get' e3
  unfold waa at hd
  rw [List.getElem?_map, List.getElem?_zipIdx, e1] at hd
  cases hd
  have nz : ¬ Z' T := fun z => live T z nT
  refine ⟨fun _ => yC nT, .tup (SqT.of (xg nz upd_same)) (.cons ?_ (.cons ?_ .nil))⟩
  · rw [Nat.zero_add]
    exact .int _
  · exact Dp.same (s.trans (qe (jS nT) fun _ h => .inl h)) e2
theorem jaW (he : DE X Cl W e f) : DIt X Cl W tg e (xY f) := PI.imp (DL.PI.or (pi_list he) (DL.PI.or (pi_tup he) (pi_str he))) fun σ H R ⟨Z, ρ, r, I, e, q⟩ => by
  unfold xY at e
  cases e1 : f ρ with
  | none => rw [e1] at e; cases e
  | some r1 =>
    rw [e1] at e
    cases r1 with
    | error er =>
      cases e
      exact .inl ⟨Z, ρ, _, I, e1, q⟩
    | ok v =>
      dsimp only at e
      split at e
      · rename_i ds
        cases e
        refine .inl ⟨Z, ρ, _, I, e1, fun x H1 s hv => ?_⟩
        obtain ⟨a, xs, rfl, h1, h2⟩ := Dp.lst_inv (show Dp X.K (hide H1 (Zo Z σ ρ)) x (.list ds) from hv)
        exact ⟨a, rfl, ⟨xs, .inl (Rd.same wj h1)⟩, q _ H1 s (jcE h1 h2)⟩
      · rename_i ds
        cases e
        refine .inr (.inl ⟨Z, ρ, _, I, e1, fun x H1 s hv => ?_⟩)
        obtain ⟨a, xs, rfl, h1, h2⟩ := Dp.qR (show Dp X.K (hide H1 (Zo Z σ ρ)) x (.tuple ds) from hv)
        exact ⟨a, rfl, ⟨xs, SqT.same wj h1⟩, q _ H1 s (kds h1 h2)⟩
      · rename_i y
        cases e
        refine .inr (.inr ⟨Z, ρ, _, I, e1, fun x H1 s hv => ?_⟩)
        exact ⟨y, (show Dp X.K (hide H1 (Zo Z σ ρ)) x (.str y) from hv).str_inv, q _ H1 s qdt⟩
      · rename_i ds
        cases e
        refine .inl ⟨Z, ρ, _, I, e1, fun x H1 s hv => ?_⟩
        obtain ⟨a, xs, rfl, n, h1, h2⟩ := hv
        have np : ¬ Zo Z σ ρ a := fun z => I.qal z n
        exact ⟨a, rfl, ⟨xs, SqL.of h1⟩, q _ H1 s (jcE (Rd.of (xg np h1)) (DpAll.same (qe (vc.refl _) fun _ h => .inl (.inl h)) h2))⟩
      · cases e
def vk (lo : Int) (n : Nat) : List D := (List.range n).map fun (i : Nat) => .int (lo + (i : Int))
def vaz (j : Int) : Bool := decide (-(2 ^ 62) ≤ j) && decide (j < 2 ^ 62)
theorem ybL {j : Int} (h : vaz j = true) : -(2 ^ 62) ≤ j ∧ j < 2 ^ 62 := by
  simp only [vaz, Bool.and_eq_true, decide_eq_true_eq] at h
  exact h
@[simp] def yj (g : FA) (ρ : xb) : Option (Except Er (List D)) := match g ρ with
  | none => none
  | some (.error e) => some (.error e)
  | some (.ok vs) => match vs with
    | [v] => match v.d with
      | .int j => if vaz j = true then some (.ok (vk 0 j.toNat)) else none
      | _ => none
    | _ => none
@[simp] def jar (g : FA) (ρ : xb) : Option (Except Er (List D)) := match g ρ with
  | none => none
  | some (.error e) => some (.error e)
  | some (.ok vs) => match vs with
    | [v, u] => match v.d, u.d with
      | .int i, .int j => if (vaz i && vaz j) = true then some (.ok (vk i (j - i).toNat)) else none
      | _, _ => none
    | _ => none
theorem yw {a : Expr} (hm : X.mg "range" = none) (ha : DA X Cl W [a] g) (hg : Gl X "range" := by rfl) (hs : starEach [a] X.env = [(false, eval a X.env)] := by rfl) : DIt X Cl W tg (.Call (.Name "range" p) [a] [] pos) (yj g) :=
  PI.imp (pi_range1 hg hm ha hs) fun σ H R ⟨Z, ρ, r, I, e, q⟩ => by
    unfold yj at e
    cases e1 : g ρ with
    | none => rw [e1] at e; cases e
    | some r1 =>
      rw [e1] at e
      refine yK I e1 (fun er z => ?_) fun vs xs H1 ev s1 hvs I1 => ?_
      · subst z
        cases e
        exact q
      · subst ev
        dsimp only at e
        split at e
        · rename_i v
          obtain ⟨x, rfl, h⟩ := hvs.one
          split at e
          · rename_i j ej
            split at e
            · rename_i hc
              cases e
              obtain ⟨h1, h2⟩ := ybL hc
              exact ⟨j, by rw [h.int_inv I ej], h1, h2, q _ H1 s1 zbR⟩
            · cases e
          · cases e
        · cases e
theorem wb6 {a b : Expr} (hm : X.mg "range" = none) (ha : DA X Cl W [a, b] g) (hg : Gl X "range" := by rfl) (hs : starEach [a, b] X.env = [(false, eval a X.env), (false, eval b X.env)] := by rfl) (hs2 : starEach [b] X.env = [(false, eval b X.env)] := by rfl) :
    DIt X Cl W tg (.Call (.Name "range" p) [a, b] [] pos) (jar g) :=
  PI.imp (pi_range2 hg hm ha hs hs2) fun σ H R ⟨Z, ρ, r, I, e, q⟩ => by
    unfold jar at e
    cases e1 : g ρ with
    | none => rw [e1] at e; cases e
    | some r1 =>
      rw [e1] at e
      refine yK I e1 (fun er z => ?_) fun vs xs H1 ev s1 hvs I1 => ?_
      · subst z
        cases e
        exact q
      · subst ev
        dsimp only at e
        split at e
        · rename_i v u
          obtain ⟨x, y, rfl, h, h'⟩ := hvs.two
          split at e
          · rename_i i j ei ej
            split at e
            · rename_i hc
              cases e
              obtain ⟨c1, c2⟩ := Bool.and_eq_true_iff.mp hc
              obtain ⟨h1, h2⟩ := ybL c1
              obtain ⟨h3, h4⟩ := ybL c2
              exact ⟨i, j, by rw [h.int_inv I ei, h'.int_inv I ej], ⟨h1, h2, h3, h4⟩, q _ H1 s1 zbR⟩
            · cases e
          · cases e
        · cases e
@[simp] def vd3 (g : FA) (ρ : xb) : Option (Except Er (List D)) := match g ρ with
  | none => none
  | some (.error e) => some (.error e)
  | some (.ok vs) => match vs with
    | [.s (.list ds)] => some (.ok (waa ds))
    | [.f ds] => some (.ok (waa ds))
    | _ => none
def forL (g : FG) (body : FS) : List D → FS
  | [], ρ => some (.nx ρ)
  | d :: ds, ρ => match g d ρ with
    | none => none
    | some ρ1 => match body ρ1 with
      | some (.nx ρ2) => forL g body ds ρ2
      | some (.ct ρ2) => forL g body ds ρ2
      | some (.brk ρ2) => some (.nx ρ2)
      | r => r
@[simp] def kD (it : FI) (g : FG) (body : FS) (ρ : xb) : Option Out := match it ρ with
  | none => none
  | some (.error e) => some (.exc ρ e.1 e.2)
  | some (.ok ds) => forL g body ds ρ
open Classical in
noncomputable def vy (H : Hp) (σ : St) (ρ : xb) : Hp := fun b => if xo σ ρ b then none else H b
theorem qbR {H : Hp} {σ : St} {ρ : xb} {b : Addr} {o : HO} (h : vy H σ ρ b = some o) : ¬ xo σ ρ b ∧ H b = some o := by
  unfold vy at h
  split at h
  · cases h
  · rename_i n
    exact ⟨n, h⟩
theorem kL {H : Hp} {σ : St} {ρ : xb} {b : Addr} {o : HO} (n : ¬ xo σ ρ b) (h : H b = some o) : vy H σ ρ b = some o := by
  unfold vy
  rw [if_neg n]
  exact h
theorem SI.based {H0 : Hp} {Z : Addr → Prop} {H : Hp} {σ : St} {ρ : xb} (I : SI K Cl H0 Z H σ ρ) : Same Cl H0 (vy H σ ρ) ∧ SI K Cl (vy H σ ρ) Z H σ ρ := by
  have nu : ∀ {b : Addr} {o : HO}, H b = some o → (∀ ys, o ≠ .lst ys) → ((∃ ps, o = .tbl ps) ∨ ∃ q, o = LamX.CodeO b q) → ¬ xo σ ρ b := fun {b o} e n n2 z => by
    have q : (∃ ys, H b = some (.lst ys)) ∨ ∃ u, H b = some u ∧ (∀ ps, u ≠ .tbl ps) ∧ ∀ q, u ≠ LamX.CodeO b q := by
      obtain ⟨i, ⟨h1, ds, h2⟩ | ⟨k, ds, h2⟩ | ⟨c, h2⟩⟩ := z
      · obtain ⟨p, xs, ep, hp, _⟩ := I.di.slots i _ h2
        rw [h1] at ep
        cases ep
        exact .inl ⟨xs, hp⟩
      · obtain ⟨T, _, ⟨xs, ys, es, _, _, _, _, hb, _⟩⟩ := I.di.slots i _ h2
        exact .inl ⟨ys, hb⟩
      · obtain ⟨_, u, hb, h⟩ := I.di.slots i _ h2
        exact .inr ⟨u, hb, h.nt⟩
    rcases q with ⟨ys, q⟩ | ⟨u, q, q1, q2⟩
    · rw [q] at e
      exact n ys (Option.some.inj e).symm
    · rw [q] at e
      cases e
      rcases n2 with ⟨ps, n2⟩ | ⟨r, n2⟩
      · exact q1 ps n2
      · exact q2 r n2
  have s1 : Same Cl H0 (vy H σ ρ) := by
    refine ⟨fun b o e n => kL (fun z => by rw [I.new b z] at e; cases e) (I.same.d b o e n), fun t q hq n => ?_, fun b e z => ?_, fun b o xs e => ?_⟩
    · obtain ⟨ps, h1, h2, h3⟩ := I.same.tb t q hq n
      refine ⟨ps, kL (nu h1 (fun _ z => by cases z) (.inl ⟨ps, rfl⟩)) h1, h2, fun pos cv hc => ?_⟩
      obtain ⟨c, e1, e2⟩ := h3 pos cv hc
      exact ⟨c, e1, kL (nu e2 (fun _ z => by unfold LamX.CodeO at z; cases z) (.inr ⟨_, rfl⟩)) e2⟩
    · have n : ¬ xo σ ρ b := fun z => e (I.new b z)
      unfold DL.vy at z
      rw [if_neg n] at z
      exact I.same.live b e z
    · exact I.same.nf b o xs (qbR e).2
  have s2 : Same Cl (vy H σ ρ) H := .of (fun b o e => (qbR e).2) fun b o xs e => kL (fun z => by
    obtain ⟨i, ⟨h1, ds, h2⟩ | ⟨k, ds, h2⟩ | ⟨c, h2⟩⟩ := z
    · obtain ⟨p, ys, ep, hp, _⟩ := I.di.slots i _ h2
      rw [h1] at ep
      cases ep
      rw [hp] at e
      cases e
    · obtain ⟨T, _, ⟨zs, ys, es, _, _, _, _, hb, _⟩⟩ := I.di.slots i _ h2
      rw [hb] at e
      cases e
    · obtain ⟨_, u, hb, h⟩ := I.di.slots i _ h2
      rw [hb] at e
      exact h.nfz _ _ (Option.some.inj e)) e
  refine ⟨s1, I.di, s2, fun a h => ?_⟩
  unfold DL.vy
  rw [if_pos h]
theorem SI.kept {Z : Addr → Prop} {H H' : Hp} {σ σ' : St} {ρ ρ' : xb} (I : SI K Cl (vy H σ ρ) Z H' σ' ρ') : vc (hide H (Zo Z σ ρ)) (hide H' (Zo Z σ' ρ')) := fun b o e nt => by
  obtain ⟨n, e1⟩ := wm e
  have e2 := kL (fun z => n (.inr z)) e1
  refine xg (fun z => z.elim (fun z => n (.inl z)) fun z => ?_) (I.same.d b o e2 nt)
  rw [I.new b z] at e2
  cases e2
theorem kS {it : FI} {g : FG} {body : List Stmt} {fb : FS} (hp : PassesOwn (model X.prog X.w) X.A X.env X.xe) (hc : X.calm = true) (hi : DIt X Cl W tg e it) (hg : DG X Cl tg g) (hb : DSs X Cl W body fb)
    (hs : ∀ x, foldedSetIterable e X.env x = pure x := by intro _; rfl) : DS X Cl W (.For tg e body [] pos) (kD it g fb) := PS.imp (ps_for hp hc hi hg hb hs) fun D σ H ⟨H0, Z, ρ, o, I, e, q⟩ => by
  unfold kD at e
  cases e1 : it ρ with
  | none => rw [e1] at e; cases e
  | some r1 =>
    rw [e1] at e
    refine ⟨Z, ρ, r1, I.di, e1, ?_⟩
    cases r1 with
    | error er =>
      cases e
      exact OOk.err I q
    | ok ds =>
      dsimp only at e
      intro J H1 s1 hJ
      have I1 := I.kO s1
      obtain ⟨b0, I2⟩ := I1.based
      have q2 := q.rebase b0
      refine ⟨fun i m σ' H' => ∃ ρ', SI X.K Cl (vy H1 σ ρ) Z H' σ' ρ' ∧ forL g fb (ds.drop i) ρ' = some o ∧ m = ds.length - i ∧ i ≤ ds.length, ⟨_, ρ, I2, e, rfl, Nat.zero_le _⟩, fun i m σ' H' => ?_⟩
      rintro ⟨ρ', I', e', rfl, hi⟩
      obtain ⟨go, stop, yld⟩ := hJ (Zo Z σ' ρ') H' I'.kept (fun b z => I'.di.qal z)
      by_cases hlt : i < ds.length
      · refine .inr ⟨go i hlt, fun σ3 H3 => ∃ ρ3, SI X.K Cl (vy H1 σ ρ) Z H3 σ3 ρ3 ∧ forL g fb (ds.drop (i + 1)) ρ3 = some o, fun σ3 H3 ⟨ρ3, I3, e3⟩ => ⟨ds.length - (i + 1), by omega, ρ3, I3, e3, rfl, hlt⟩, fun x H'' y => ?_⟩
        have hd : ds[i]? = some ds[i] := List.getElem?_eq_getElem hlt
        obtain ⟨s2, hx⟩ := yld i x H'' _ y hd
        rw [List.drop_eq_getElem_cons hlt] at e'
        unfold forL at e'
        cases eg : g ds[i] ρ' with
        | none => rw [eg] at e'; cases e'
        | some ρ1 =>
          rw [eg] at e'
          dsimp only at e'
          refine ⟨_, Z, ρ', ds[i], ρ1, I'.kO (s2 _), hx, eg, fun σ1 I1' => ?_⟩
          cases eb : fb ρ1 with
          | none => rw [eb] at e'; cases e'
          | some ob =>
            rw [eb] at e'
            refine ⟨_, Z, ρ1, ob, I1', eb, ?_⟩
            cases ob with
            | nx ρ2 => exact fun σ3 H3 I3 => ⟨ρ2, I3, e'⟩
            | ct ρ2 => exact fun σ3 H3 I3 => ⟨ρ2, I3, e'⟩
            | brk ρ2 => cases e'; exact fun σ3 H3 I3 => q2 σ3 H3 I3
            | ret d => cases e'; exact q2
            | retF ds => cases e'; exact q2
            | retX ds k => cases e'; exact q2
            | exc ρ2 c i => cases e'; exact q2
      · have hie : i = ds.length := by omega
        subst hie
        rw [List.drop_length] at e'
        cases e'
        exact .inl ⟨stop _ (Nat.le_refl _), q2 σ' H' I'⟩
def wI (t : FT) (body : FS) : Nat → FS
  | 0, _ => none
  | n + 1, ρ => match t ρ with
    | none => none
    | some (.error e) => some (.exc ρ e.1 e.2)
    | some (.ok false) => some (.nx ρ)
    | some (.ok true) => match body ρ with
      | some (.nx ρ2) => wI t body n ρ2
      | some (.ct ρ2) => wI t body n ρ2
      | some (.brk ρ2) => some (.nx ρ2)
      | r => r
theorem xa6 {t : FT} {body : FS} : ∀ {n : Nat} {ρ : xb} {o : Out} (m : Nat), wI t body n ρ = some o → n ≤ m → wI t body m ρ = some o
  | 0, _, _, _, h, _ => by cases h
  | n + 1, ρ, o, m, h, hm => by
    obtain ⟨k, rfl⟩ : ∃ k, m = k + 1 := ⟨m - 1, by omega⟩
    unfold wI at h ⊢
    cases e : t ρ with
    | none => rw [e] at h; cases h
    | some r =>
      rw [e] at h
      cases r with
      | error er => exact h
      | ok b =>
        cases b with
        | false => exact h
        | true =>
          dsimp only at h ⊢
          cases eb : body ρ with
          | none => rw [eb] at h; cases h
          | some ob =>
            rw [eb] at h
            cases ob with
            | nx ρ2 => exact xa6 k h (by omega)
            | ct ρ2 => exact xa6 k h (by omega)
            | brk ρ2 => exact h
            | ret d => exact h
            | retF ds => exact h
            | retX ds k => exact h
            | exc ρ2 c i => exact h
def fuel : Nat := 2 ^ 64
def qch (t : FT) (body : FS) : FS := wI t body fuel
theorem zc4 {c : Expr} {t : FT} {body : List Stmt} {fb : FS} (hp : PassesOwn (model X.prog X.w) X.A X.env X.xe) (hc : DT X Cl W c t) (hb : DSs X Cl W body fb) : DS X Cl W (.While c body [] pos) (qch t fb) := PS.imp (ps_while hp hc hb) fun D σ H ⟨H0, Z, ρ, o, I, e, q⟩ => by
  refine ⟨fun m σ' H' => ∃ ρ', SI X.K Cl H0 Z H' σ' ρ' ∧ wI t fb m ρ' = some o, ⟨fuel, ρ, I, e⟩, fun m σ' H' => ?_⟩
  rintro ⟨ρ', I', e'⟩
  cases m with
  | zero => cases e'
  | succ n =>
    unfold wI at e'
    cases et : t ρ' with
    | none => rw [et] at e'; cases e'
    | some r1 =>
      rw [et] at e'
      refine xaU I'.di et (fun er z => ?_) fun b H1 ev s1 I1 => ?_
      · subst z
        cases e'
        exact OOk.err I' q
      · subst ev
        cases b with
        | false =>
          rw [if_neg Bool.false_ne_true]
          cases e'
          exact q σ' H1 (I'.kO s1)
        | true =>
          rw [if_pos rfl]
          dsimp only at e'
          refine ⟨fun σ3 H3 => ∃ ρ3, SI X.K Cl H0 Z H3 σ3 ρ3 ∧ wI t fb n ρ3 = some o, fun σ3 H3 h => ⟨n, Nat.lt_succ_self n, h⟩, ?_⟩
          cases eb : fb ρ' with
          | none => rw [eb] at e'; cases e'
          | some ob =>
            rw [eb] at e'
            refine ⟨H0, Z, ρ', ob, I'.kO s1, eb, ?_⟩
            cases ob with
            | nx ρ2 => exact fun σ3 H3 I3 => ⟨ρ2, I3, e'⟩
            | ct ρ2 => exact fun σ3 H3 I3 => ⟨ρ2, I3, e'⟩
            | brk ρ2 => cases e'; exact fun σ3 H3 I3 => q σ3 H3 I3
            | ret d => cases e'; exact q
            | retF ds => cases e'; exact q
            | retX ds k => cases e'; exact q
            | exc ρ2 c i => cases e'; exact q
inductive kaV where
  | ret (d : D) | retF (ds : List D) | retX (ds : List D) (k : Nat) | exc (c : Nat) (i : Int)
abbrev DF := List D → Option kaV
def DOk (K : PySem.W.Frag) (Cl : Nat → Addr) (Z : Addr → Prop) (H : Hp) (Q : VK) (E : XK) : kaV → Prop
  | .ret d => ∀ v H', Same Cl H H' → Dp K (hide H' Z) v d → Q v H'
  | .retF ds => ∀ p xs H', Same Cl H H' → H p = none → H' p = some (.lst xs) → DpAll K (hide H' (ZP Z p)) xs ds → Q (.ref p) H'
  | .retX ds k => ∀ T p xs ys H', Same Cl H H' → SqT K (hide H' Z) T xs → DpAll K (hide H' Z) xs ds → xs[k]? = some (.ref p) → H p = none → H' p = some (.lst ys) → Q (.ref T) H'
  | .exc c i => ∀ dd H', Same Cl H H' → H' dd = some (.xd [(("at" : Str), .int i)]) → E (.ref (Cl c)) (some dd) H'
structure vbQ (Cl : Nat → Addr) (Z : Addr → Prop) (H : Hp) : Prop where
  lv : ∀ b, Z b → H b ≠ none
  tb : TBl Cl H
def vB (K : PySem.W.Frag) (Cl : Nat → Addr) (n : Nat) (F : DF) : Sp := fun vs H Q E => ∃ Z ds o, vbQ Cl Z H ∧ DpAll K (hide H Z) vs ds ∧ ds.length = n ∧ F ds = some o ∧ DOk K Cl Z H Q E o
def xA (n k : Nat) (f : FS) : DF := fun ds => match f (ds.map .dat ++ List.replicate (k - n) .un) with
  | some (.nx _) => some (.ret .none)
  | some (.ret d) => some (.ret d)
  | some (.retF ds) => some (.retF ds)
  | some (.retX ds k) => some (.retX ds k)
  | some (.exc _ c i) => some (.exc c i)
  | _ => none
theorem wcf {σ : St} {ds : List D} {m i : Nat} {a : Addr} (ho : jq σ (ds.map .dat ++ List.replicate m .un) i a) : False := by
  obtain ⟨s, h2, h3⟩ := ho.slot
  rw [List.getElem?_append] at h2
  split at h2
  · rw [List.getElem?_map] at h2
    cases e : ds[i]? with
    | none => rw [e] at h2; cases h2
    | some d => rw [e] at h2; cases h2; cases h3
  · rw [List.getElem?_replicate] at h2
    split at h2
    · cases h2; cases h3
    · cases h2
theorem DI.start {Z : Addr → Prop} {H : Hp} {vs : List V} {ds : List D} {m : Nat} (live : vbQ Cl Z H) (h : DpAll K (hide H Z) vs ds) : DI K Cl Z H (vs.map some ++ List.replicate m none) (ds.map .dat ++ List.replicate m .un) := by
  have no : ∀ i a, ¬ jq (vs.map some ++ List.replicate m none) (ds.map .dat ++ List.replicate m .un) i a := fun i a ho => wcf ho
  have hl := h.length
  refine ⟨by simp [hl], fun i j a h1 => absurd h1 (no i a), fun a ⟨i, z⟩ => absurd z (no i a), live.lv, fun i s e => ?_, live.tb⟩
  have hm : vc (hide H Z) (hide H (Zo Z (vs.map some ++ List.replicate m none) (ds.map .dat ++ List.replicate m .un))) := qe (vc.refl _) fun b hb => .inl (hb.elim id fun ⟨j, z⟩ => absurd z (no j b))
  rw [List.getElem?_append] at e
  split at e
  · rename_i hi
    rw [List.length_map] at hi
    rw [List.getElem?_map] at e
    cases e1 : ds[i]? with
    | none => rw [e1] at e; cases e
    | some d =>
      rw [e1] at e
      cases e
      obtain ⟨v, e2, e3⟩ := h.get e1
      refine ⟨v, ?_, Dp.same hm e3⟩
      rw [List.getElem?_append_left (by rw [List.length_map, hl]; exact hi), List.getElem?_map, e2]
      rfl
  · rw [List.getElem?_replicate] at e
    split at e
    · cases e; trivial
    · cases e
theorem js {P : Program} {w : World} {mg : Str → Option Value} {base : Heap} {x qual : Str} {st : Stmt} {fa : Addr} {fd : FuncData} {N ps : List Str} {k n m : Nat} {fb : FS} (F : Fun K x qual st fa fd) (S : FnScope N ps (defScope st)) (hn : ps.length = n) (hm : N.length = m)
    (h : ∀ (cdv : Value) (A : Around) (outer : List Env) (s : Shared) (H : Hp) (E : XK), Room k (A.deeper (envOfC qual (defScope st) s.heap.objs.size fa cdv)) →
      DSs (cxOf (L2.CX P w) P w K mg base N qual (defScope st) fa cdv A outer s H E) Cl (fun cls d _ H' => E cls d H') (defBody st) fb) : FnOk P w K mg base (L2.CX P w) (k + 1) fa fd ps (vB K Cl n (xA n m fb)) := by
  refine F.okX S (fun vs H Q E ⟨Z, ds, o, _, h1, h2, _⟩ => by rw [h1.length, h2, hn]) (fun cdv A outer s H vs Q E hr hsp => ⟨_, h cdv A outer s H E hr, ?_⟩)
  obtain ⟨Z, ds, o, live, h1, h2, e, q⟩ := hsp
  unfold xA at e
  have hst : L2.start N vs = vs.map some ++ List.replicate (m - n) none := by
    unfold L2.start
    rw [hm, h1.length, h2]
  rw [hst]
  cases eb : fb (ds.map .dat ++ List.replicate (m - n) .un) with
  | none => rw [eb] at e; cases e
  | some ob =>
    rw [eb] at e
    have I := DI.start (m := m - n) live h1
    have noO : ∀ a, xo (vs.map some ++ List.replicate (m - n) none) (ds.map .dat ++ List.replicate (m - n) .un) a → H a = none := fun a ⟨i, ho⟩ => (wcf ho).elim
    refine ⟨H, Z, _, ob, ⟨I, Same.refl _, noO⟩, eb, ?_⟩
    cases ob with
    | nx ρ => cases e; exact fun σ' H' I' => q .non H' I'.same .non
    | ret d => cases e; exact q
    | retF es => cases e; exact q
    | retX ds k => cases e; exact q
    | exc ρ c i => cases e; exact fun dd σ' H' I' hd => q dd H' I'.same hd
    | brk ρ => cases e
    | ct ρ => cases e
@[simp] def kb (F : DF) (n : Nat) (g : FA) (ρ : xb) : Option (Except Er Val) := match g ρ with
  | none => none
  | some (.error e) => some (.error e)
  | some (.ok vs) => if vs.length = n then match F (vs.map Val.d) with
    | none => none
    | some (.exc c i) => some (.error (c, i))
    | some (.ret d) => match zD vs with
      | some _ => some (.ok (.s d))
      | none => some (.ok (.m d))
    | some (.retX ds _) => match zD vs with
      | some _ => some (.ok (.s (.tuple ds)))
      | none => some (.ok (.m (.tuple ds)))
    | some (.retF ds) => match zD vs with
      | some _ => some (.ok (.f ds))
      | none => if ds.all yu = true then some (.ok (.f ds)) else some (.ok (.m (.list ds))) else none
theorem kaU : ∀ {vs : List Val} {ds : List D}, zD vs = some ds → vs.map Val.d = ds
  | [], _, e => by cases e; rfl
  | v :: vs, ds, e => by
    simp only [zD] at e
    split at e
    · rename_i d es e1 e2
      cases e
      rw [List.map_cons, kaU e2]
      congr 1
      cases v with
      | s d' => cases e1; rfl
      | m d' =>
        simp only [Val.st] at e1
        split at e1
        · cases e1; rfl
        · cases e1
      | b ds => cases e1
      | f ds => cases e1; rfl
    · cases e
theorem ze {n k : Nat} {F : DF} {fa : Addr} {fd : FuncData} {ps : List Str} {x : Str} (G : FnOk X.prog X.w X.K X.mg X.base (L2.CX X.prog X.w) k fa fd ps (vB X.K Cl n F)) (tk : Takes X W) (hr : Room k X.A) (hm : X.mg x = some (.ref fa)) (hk : PySem.W.keepIn X.K (.ref fa) = true) (hb : Binds X.K fd ps [])
    (ha : DA X Cl W (e :: es) g) (hg : Gl X x := by rfl) (hdb : (x == ("__debug__" : Str)) = false := by decide) (he : starEach (e :: es) X.env = (false, eval e X.env) :: starEach es X.env := by rfl) (hpl : (backTo pos (starEach es X.env)).any (·.1) = false := by rfl) :
    DE X Cl W (.Call (.Name x p) (e :: es) [] pos) (kb F n g) := PE.imp (pe_callS (E := WE W) G hr hg hm hk hb (fun σ => passAt tk σ) ha hdb he hpl) fun σ H Q ⟨Z, ρ, r, I, e, q⟩ => by
  unfold kb at e
  cases e1 : g ρ with
  | none => rw [e1] at e; cases e
  | some r1 =>
    rw [e1] at e
    refine yK I e1 (fun er z => ?_) fun vs xs H1 ev s1 hvs I1 => ?_
    · subst z
      cases e
      exact q
    · subst ev
      dsimp only at e
      split at e
      · rename_i hn
        cases eF : F (vs.map Val.d) with
        | none => rw [eF] at e; cases e
        | some o =>
          rw [eF] at e
          cases es : zD vs with
          | some ds =>
            have ed := kaU es
            refine ⟨Zo Z σ ρ, ds, o, ⟨fun b z => I1.qal z, I1.tb⟩, hvs.stab I es, by rw [kbA es]; exact hn, by rw [← ed]; exact eF, ?_⟩
            cases o with
            | exc c i => cases e; exact fun dd H' s hd => q dd H' (s1.trans s) hd
            | ret d =>
              rw [es] at e
              cases e
              exact fun v H' s hd => q v H' (s1.trans s) hd
            | retX gs k =>
              rw [es] at e
              cases e
              exact fun T p xs ys H' s h1 h2 _ _ _ => q _ H' (s1.trans s) (.tup h1 h2)
            | retF gs =>
              rw [es] at e
              cases e
              exact fun p xs H' s n h2 h3 => q _ H' (s1.trans s) ⟨p, xs, rfl, s1.free n, h2, h3⟩
          | none =>
            refine ⟨Z, vs.map Val.d, o, ⟨fun b z => I1.live b z, I1.tb⟩, hvs.dp I, by rw [List.length_map]; exact hn, eF, ?_⟩
            cases o with
            | exc c i => cases e; exact fun dd H' s hd => q dd H' (s1.trans s) hd
            | ret d =>
              rw [es] at e
              cases e
              exact fun v H' s hd => q v H' (s1.trans s) hd
            | retX gs k =>
              rw [es] at e
              cases e
              exact fun T p xs ys H' s h1 h2 _ _ _ => q _ H' (s1.trans s) (.tup h1 h2)
            | retF gs =>
              rw [es] at e
              dsimp only at e
              split at e
              · rename_i sc
                cases e
                exact fun p xs H' s n h2 h3 => q _ H' (s1.trans s) ⟨p, xs, rfl, s1.free n, h2, DpAll.scalar sc h3⟩
              · cases e
                intro p xs H' s n h2 h3
                have np : ¬ Z p := fun z => I1.live p z n
                exact q _ H' (s1.trans s) (.lst (Rd.of (xg np h2)) (DpAll.same (qe (vc.refl _) fun _ h => .inl (.inl h)) h3))
      · cases e
end
section
variable {X : Cx} {Cl : Nat → Addr} {W : WX} {K : PySem.W.Frag}
abbrev W0 : WX := fun _ _ _ _ => False
@[simp] def noOwn (ρ : xb) (vs : List Nat) : Bool := vs.all fun v => match ρ[v]? with
  | some (.own _) => false
  | some (.ownT _ _ _) => false
  | some (.vX _ _) => false
  | _ => true
@[simp] def wq (ρ : xb) : List Nat → xb
  | [] => ρ
  | v :: vs => (wq ρ vs).set v .un
def lcL (tt : FT) (fe : FE) (st : D → Option xb) : List D → Option (List D)
  | [] => some []
  | d :: r => match st d with
    | none => none
    | some ρ => match tt ρ with
      | some (.ok true) => match fe ρ with
        | some (.ok v) => match v.st with
          | some y => (lcL tt fe st r).map (y :: ·)
          | none => none
        | _ => none
      | some (.ok false) => lcL tt fe st r
      | _ => none
@[simp] def yE (vs : List Nat) (st : xb → D → Option xb) (it : FI) (tt : FT) (fe : FE) (ρ : xb) : Option (Except Er Val) := if noOwn ρ vs = true then match it ρ with
  | none => none
  | some (.error e) => some (.error e)
  | some (.ok ds) => match lcL tt fe (st (wq ρ vs)) ds with
    | some es => if zz es.length = true then some (.ok (.f es)) else none
    | none => none else none
theorem jaH {σ : St} {ρ : xb} {i : Nat} {a : Addr} : ∀ {vs : List Nat}, jq (wipe σ vs) (wq ρ vs) i a → i ∉ vs ∧ jq σ ρ i a
  | [], h => ⟨by simp, h⟩
  | v :: vs, h => by
    unfold wipe wq at h
    have q := jaH (qY (s := .un) (fun z => nomatch z) h)
    refine ⟨fun m => ?_, q.2⟩
    rcases List.mem_cons.mp m with e | m
    · subst e
      obtain ⟨s, h2, h3⟩ := h.slot
      rw [List.getElem?_set, if_pos rfl] at h2
      split at h2
      · cases h2; cases h3
      · cases h2
    · exact q.1 m
theorem ybB {ρ : xb} {i : Nat} : ∀ {vs : List Nat}, i ∉ vs → (wq ρ vs)[i]? = ρ[i]?
  | [], _ => rfl
  | v :: vs, h => by
    have h1 : v ≠ i := fun e => h (by rw [e]; exact List.mem_cons_self)
    unfold wq
    rw [List.getElem?_set_ne h1]
    exact ybB fun m => h (List.mem_cons_of_mem _ m)
theorem xbB {σ : St} {i : Nat} : ∀ {vs : List Nat}, i ∉ vs → (wipe σ vs)[i]? = σ[i]?
  | [], _ => rfl
  | v :: vs, h => by
    have h1 : v ≠ i := fun e => h (by rw [e]; exact List.mem_cons_self)
    unfold wipe
    rw [List.getElem?_set_ne h1]
    exact xbB fun m => h (List.mem_cons_of_mem _ m)
theorem kbB (ρ : xb) : ∀ vs : List Nat, (wq ρ vs).length = ρ.length
  | [] => rfl
  | v :: vs => by unfold wq; rw [List.length_set, kbB ρ vs]
theorem kcH {σ : St} {ρ : xb} {i : Nat} {a : Addr} {vs : List Nat} (h : noOwn ρ vs = true) (o : jq σ ρ i a) : jq (wipe σ vs) (wq ρ vs) i a := by
  have hn : i ∉ vs := fun m => by
    have q := List.all_eq_true.mp h i m
    rcases o with ⟨_, es, h2⟩ | ⟨_, es, h2⟩ | ⟨_, h2⟩
    · rw [h2] at q
      cases q
    · rw [h2] at q
      cases q
    · rw [h2] at q
      cases q
  unfold jq at o ⊢
  rw [xbB hn, ybB hn]
  exact o
theorem DI.blk {Z : Addr → Prop} {H1 H : Hp} {σ : St} {ρ : xb} {vs : List Nat} {L : Addr} {acc : List V} (I : DI K Cl Z H1 σ ρ) (hn : noOwn ρ vs = true) (s : Same Cl H1 H) (nL : H1 L = none) (hL : H L = some (.lst acc)) : DI K Cl (ZP Z L) H (wipe σ vs) (wq ρ vs) := by
  have I' := I.same s
  have hm : vc (hide H1 (Zo Z σ ρ)) (hide H (Zo (ZP Z L) (wipe σ vs) (wq ρ vs))) := vw s fun b hb => by
    rcases hb with (hb | rfl) | ⟨j, q⟩
    · exact .inl (.inl hb)
    · exact .inr nL
    · exact .inl (.inr ⟨j, (jaH q).2⟩)
  refine ⟨by rw [kbB, wipe_length]; exact I.len, fun i j a h1 h2 => I.one i j a (jaH h1).2 (jaH h2).2, fun a ⟨j, q⟩ z => ?_, fun a z => ?_, fun i t e => ?_, I'.tb⟩
  · have q2 := (jaH q).2
    rcases z with z | rfl
    · exact I.out a ⟨j, q2⟩ z
    · exact I.jcd ⟨j, q2⟩ nL
  · rcases z with z | rfl
    · exact I'.live a z
    · rw [hL]
      intro z; cases z
  · by_cases hi : i ∈ vs
    · have q : ∀ {vs : List Nat}, i ∈ vs → (wq ρ vs)[i]? = some t → t = .un := by
        intro vs
        induction vs with
        | nil => intro m; cases m
        | cons v vs ih =>
          intro m e
          unfold wq at e
          by_cases hv : v = i
          · subst hv
            rw [List.getElem?_set, if_pos rfl] at e
            split at e
            · exact (Option.some.inj e).symm
            · cases e
          · rw [List.getElem?_set_ne hv] at e
            rcases List.mem_cons.mp m with z | m
            · exact absurd z.symm hv
            · exact ih m e
      rw [q hi e]
      trivial
    · rw [ybB hi] at e
      rw [xbB hi]
      have q := I.slots i t e
      cases t with
      | un => trivial
      | dat d =>
        obtain ⟨v, e1, h1⟩ := q
        exact ⟨v, e1, Dp.same hm h1⟩
      | own ds =>
        obtain ⟨a, xs, e1, e2, h1⟩ := q
        exact ⟨a, xs, e1, s.at e2, DpAll.same hm h1⟩
      | err a dd j => exact ⟨q.1, s.at q.2⟩
      | ownT a k gs =>
        obtain ⟨T, e1, h1⟩ := q
        exact ⟨T, e1, h1.same hm fun _ z => s.at z⟩
      | pin a => exact q
      | ob k fs => exact kat.same hm q
      | vX a c =>
        obtain ⟨e1, u, e2, h1⟩ := q
        exact ⟨e1, u, s.vX h1 e2, h1.same hm⟩
structure LcT (K : PySem.W.Frag) (vs : List Nat) (g : TG) (st : xb → D → Option xb) : Prop where
  go : ∀ (Cl : Nat → Addr) (Z : Addr → Prop) (σ : St) (ρ ρ' : xb) (H : Hp) (v : V) (d : D) (Q : St → Hp → Prop), DI K Cl Z H (wipe σ vs) (wq ρ vs) → Dp K (hide H (Zo Z (wipe σ vs) (wq ρ vs))) v d → st (wq ρ vs) d = some ρ' →
    (∀ σ', wipe σ' vs = wipe σ vs → DI K Cl Z H σ' ρ' → vc (hide H (Zo Z (wipe σ vs) (wq ρ vs))) (hide H (Zo Z σ' ρ')) → (∀ b, Zo Z (wipe σ vs) (wq ρ vs) b → Zo Z σ' ρ' b) → Q σ' H) → g v (wipe σ vs) H Q
theorem jbZ {vs : List Nat} {g : TG} {st : xb → D → Option xb} {it : FI} {tt : FT} {fe : FE} {σ : St} {H : Hp} {Q : VK} (T : LcT K vs g st) (h : qau K Cl W (yE vs st it tt fe) σ H Q) : tLc (xcH K Cl W it) g (jbl K Cl W0 tt) (qau K Cl W0 fe) vs σ H Q := by
  obtain ⟨Z, ρ, r, I, e, q⟩ := h
  unfold yE at e
  split at e
  · rename_i hno
    cases e1 : it ρ with
    | none => rw [e1] at e; cases e
    | some r1 =>
      rw [e1] at e
      refine ⟨Z, ρ, r1, I, e1, ?_⟩
      cases r1 with
      | error er => cases e; exact q
      | ok ds =>
        dsimp only at e
        intro J H1 s1 hJ L nL
        have I1 := I.same s1
        cases e2 : lcL tt fe (st (wq ρ vs)) ds with
        | none => rw [e2] at e; cases e
        | some es =>
          rw [e2] at e
          dsimp only at e
          split at e
          · rename_i hline
            cases e
            have hln := yS hline
            refine ⟨fun i m H' => ∃ acc as rest, H' L = some (.lst acc) ∧ Same Cl H1 H' ∧ DpAll K (hide H' (ZP (Zo Z σ ρ) L)) acc as ∧ lcL tt fe (st (wq ρ vs)) (ds.drop i) = some rest ∧ as ++ rest = es ∧ m = ds.length - i ∧ i ≤ ds.length,
              ⟨_, [], [], es, upd_same, yC nL, .nil, e2, rfl, rfl, Nat.zero_le _⟩, fun i m H' => ?_⟩
            rintro ⟨acc, as, rest, hL, s2, hacc, er, ea, rfl, hi⟩
            have hk : vc (hide H1 (Zo Z σ ρ)) (hide H' (ZP (Zo Z σ ρ) L)) := vw s2 fun b hb => by
              rcases hb with hb | rfl
              · exact .inl hb
              · exact .inr nL
            have hlive : ∀ b, ZP (Zo Z σ ρ) L b → H' b ≠ none := fun b hb => by
              rcases hb with hb | rfl
              · exact (I1.same s2).qal hb
              · rw [hL]; intro z; cases z
            obtain ⟨go, stop, yld⟩ := hJ (ZP (Zo Z σ ρ) L) H' hk hlive
            by_cases hlt : i < ds.length
            · refine .inr ⟨go i hlt, fun H3 => ∃ acc as rest, H3 L = some (.lst acc) ∧ Same Cl H1 H3 ∧ DpAll K (hide H3 (ZP (Zo Z σ ρ) L)) acc as ∧ lcL tt fe (st (wq ρ vs)) (ds.drop (i + 1)) = some rest ∧ as ++ rest = es,
                fun H3 ⟨acc, as, rest, b1, b2, b3, b4, b5⟩ => ⟨ds.length - (i + 1), by omega, acc, as, rest, b1, b2, b3, b4, b5, rfl, hlt⟩, fun x H'' y => ?_⟩
              have hd : ds[i]? = some ds[i] := List.getElem?_eq_getElem hlt
              obtain ⟨s3', hx⟩ := yld i x H'' _ y hd
              have s3 := s3' Cl
              rw [List.drop_eq_getElem_cons hlt] at er
              unfold lcL at er
              cases est : st (wq ρ vs) ds[i] with
              | none => rw [est] at er; cases er
              | some ρ' =>
                rw [est] at er
                dsimp only at er
                have B := I1.blk (vs := vs) hno (s2.trans s3) nL (s3.at hL)
                have zeq : ∀ b, Zo (ZP Z L) (wipe σ vs) (wq ρ vs) b → ZP (Zo Z σ ρ) L b := fun b hb => by
                  rcases hb with (hb | hb) | ⟨j, z⟩
                  · exact .inl (.inl hb)
                  · exact .inr hb
                  · exact .inl (.inr ⟨j, (jaH z).2⟩)
                have zeq2 : ∀ b, ZP (Zo Z σ ρ) L b → Zo (ZP Z L) (wipe σ vs) (wq ρ vs) b := fun b hb => by
                  rcases hb with (hb | ⟨j, z⟩) | hb
                  · exact .inl (.inl hb)
                  · exact .inr ⟨j, kcH hno z⟩
                  · exact .inl (.inr hb)
                refine T.go Cl (ZP Z L) σ ρ ρ' H'' x ds[i] _ B (Dp.same (qe (vc.refl _) fun b hb => .inl (zeq b hb)) hx) est fun σ' hw B' hs' hz' => ⟨hw, ?_⟩
                have up4 : ∀ H4, Same Cl H'' H4 → Same Cl H1 H4 := fun H4 s4 => s2.trans (s3.trans s4)
                have acc4 : ∀ H4, Same Cl H'' H4 → DpAll K (hide H4 (ZP (Zo Z σ ρ) L)) acc as := fun H4 s4 => DpAll.same (vw (s3.trans s4) fun _ h => .inl h) hacc
                cases ett : tt ρ' with
                | none => rw [ett] at er; cases er
                | some rt =>
                  rw [ett] at er
                  cases rt with
                  | error _ => cases er
                  | ok b =>
                    refine xaU B' ett (fun er z => by cases z) fun b1 H3 eb s4 B3 => ?_
                    cases eb
                    cases b with
                    | false =>
                      dsimp only at er
                      rw [if_neg Bool.false_ne_true]
                      exact ⟨acc, as, rest, s4.at (s3.at hL), up4 _ s4, acc4 _ s4, er, ea⟩
                    | true =>
                      dsimp only at er
                      rw [if_pos rfl]
                      cases efe : fe ρ' with
                      | none => rw [efe] at er; cases er
                      | some rf =>
                        rw [efe] at er
                        cases rf with
                        | error _ => cases er
                        | ok v =>
                          dsimp only at er
                          refine yaU B3 efe (fun er z => by cases z) fun v1 y H4 ev s5 hv B4 => ?_
                          cases ev
                          cases est : v.st with
                          | none => rw [est] at er; cases er
                          | some yd =>
                            rw [est] at er
                            dsimp only at er
                            cases el : lcL tt fe (st (wq ρ vs)) (ds.drop (i + 1)) with
                            | none => rw [el] at er; cases er
                            | some rest' =>
                              rw [el] at er
                              cases er
                              have s45 := s4.trans s5
                              have hL4 := s45.at (s3.at hL)
                              have hy := hv.stab B3 est
                              have hacc4 := acc4 _ s45
                              refine ⟨acc, hL4, ?_, ?_⟩
                              · have h1 := hacc4.length
                                have h2 := congrArg List.length ea
                                rw [List.length_append, List.length_cons] at h2
                                omega
                              · have hin : ∀ {H5 : Hp} , (∀ b, b ≠ L → H5 b = H4 b) → vc (hide H4 (ZP (Zo Z σ ρ) L)) (hide H5 (ZP (Zo Z σ ρ) L)) := fun {H5} k b o e _ => by
                                  obtain ⟨n, e1⟩ := wm e
                                  exact xg n (by rw [k b fun z => n (.inr z)]; exact e1)
                                have k5 : ∀ b, b ≠ L → upd H4 L (.lst (acc ++ [y])) b = H4 b := fun b hb => upd_ne hb
                                have hy2 : Dp K (hide H4 (ZP (Zo Z σ ρ) L)) y yd := Dp.same (qe (vc.refl _) fun b hb => .inl (hz' b (zeq2 b hb))) hy
                                refine ⟨acc ++ [y], as ++ [yd], rest', upd_same, (up4 _ s45).over nL hL4, DpAll.append (DpAll.same (hin k5) hacc4) (.cons (Dp.same (hin k5) hy2) .nil), rfl, by rw [← ea, List.append_assoc]; rfl⟩
            · have hie : i = ds.length := by omega
              subst hie
              rw [List.drop_length] at er
              cases er
              rw [List.append_nil] at ea
              subst ea
              exact .inl ⟨stop _ (Nat.le_refl _), q _ H' (s1.trans s2) ⟨L, acc, rfl, s1.free nL, hL, hacc⟩⟩
          · cases e
  · cases e
def zP (i : Nat) : xb → D → Option xb := fun ρ d => some (ρ.set i (.dat d))
theorem ydl {Z : Addr → Prop} {σ : St} {ρ : xb} {i : Nat} {x : Option V} {d : D} (hn : ∀ s, ρ[i]? = some s → ¬ s.jaz) (b : Addr) (h : Zo Z σ ρ b) : Zo Z (σ.set i x) (ρ.set i (.dat d)) b := by
  rcases h with h | ⟨j, h1⟩
  · exact .inl h
  · have hj : i ≠ j := fun e => by
      obtain ⟨s, e1, e2⟩ := h1.slot
      exact hn s (e ▸ e1) e2
    refine .inr ⟨j, ?_⟩
    unfold jq at h1 ⊢
    rw [List.getElem?_set_ne hj, List.getElem?_set_ne hj]
    exact h1
theorem zch {ρ : xb} {i : Nat} : ∀ {vs : List Nat}, i ∈ vs → ∀ s, (wq ρ vs)[i]? = some s → ¬ s.jaz
  | v :: vs, m, s, e => by
    unfold wq at e
    by_cases hv : v = i
    · subst hv
      rw [List.getElem?_set, if_pos rfl] at e
      split at e
      · cases e
        exact fun z => nomatch z
      · cases e
    · rw [List.getElem?_set_ne hv] at e
      rcases List.mem_cons.mp m with z | m
      · exact absurd z.symm hv
      · exact zch m s e
theorem zaN {i : Nat} : LcT K [i] (gName i) (zP i) := ⟨fun Cl Z σ ρ ρ' H v d Q B hd e q => by
  cases e
  refine q _ ?_ (B.vY hd) vcU (ydl (zch (by simp)))
  show (((σ.set i none).set i (some v)).set i none) = σ.set i none
  rw [List.set_set, List.set_set]⟩
theorem xcU {σ : St} {H : Hp} {Q : Bool → Hp → Prop} (h : jbl K Cl W (fun _ => some (.ok true)) σ H Q) : tYes σ H Q := by
  obtain ⟨Z, ρ, r, I, e, q⟩ := h
  cases e
  exact q H (Same.refl _)
theorem PTs.imp {X : Cx} {ifs : List Expr} {t t' : TT} (h : PTs X ifs t) (i : ∀ σ H Q, t' σ H Q → t σ H Q) : PTs X ifs t' := ⟨fun pins s σ H Q I q => h.run pins s σ H Q I (i σ H Q q)⟩
def DTs (X : Cx) (Cl : Nat → Addr) (W : WX) (ifs : List Expr) (f : FT) : Prop := PTs X ifs (jbl X.K Cl W f)
theorem kY : DTs X Cl W [] (fun _ => some (.ok true)) := PTs.imp pts_nil fun σ H Q h => xcU h
theorem xdl {c : Expr} {f : FT} (h : DT X Cl W c f) : DTs X Cl W [c] f := pts_one h
variable {elt tg iter : Expr} {ifs : List Expr} {scope : Scope} {own : List (Str × Nat)} {pos : Pos} {it : FI} {g : TG} {tt : FT} {fe : FE} {vs : List Nat} {st : xb → D → Option xb}
theorem waJ (hc : X.calm = true) (hN : X.N.Nodup) (T : LcT X.K vs g st) (hi : DIt X Cl W tg iter it) (ok : BlkOk X.N X.env.scope scope own)
    (hg : ∀ (s : Shared) (H : Hp) (C : Addr) (cl : List (Str × Addr)) (fp : List Addr), PG (X.blk s H scope (compEnvC scope cl C X.env) fp) tg g) (ht : ∀ (s : Shared) (H : Hp) (C : Addr) (cl : List (Str × Addr)) (fp : List Addr), DTs (X.blk s H scope (compEnvC scope cl C X.env) fp) Cl W0 ifs tt)
    (he : ∀ (s : Shared) (H : Hp) (C : Addr) (cl : List (Str × Addr)) (fp : List Addr), DE (X.blk s H scope (compEnvC scope cl C X.env) fp) Cl W0 elt fe) (hv : own.map (·.2) = vs := by rfl) (hs : ∀ x, foldedSetIterable iter X.env x = pure x := by intro _; rfl) :
    DE X Cl W (.ListComp elt [⟨tg, iter, ifs, 0⟩] scope pos) (yE vs st it tt fe) := PE.imp (pe_lc (tt := jbl X.K Cl W0 tt) (te := qau X.K Cl W0 fe) hc hN hi ok hg ht he hs) fun σ H Q h => by
  rw [hv]
  exact jbZ T h
theorem jc4 {i : Nat} {y : Str} {py spos : Pos} (hc : X.calm = true) (hN : X.N.Nodup) (T : LcT X.K vs g st) (hi : DIt X Cl W tg iter it) (ok : BlkOk X.N X.env.scope scope own)
    (hg : ∀ (s : Shared) (H : Hp) (C : Addr) (cl : List (Str × Addr)) (fp : List Addr), PG (X.blk s H scope (compEnvC scope cl C X.env) fp) tg g) (ht : ∀ (s : Shared) (H : Hp) (C : Addr) (cl : List (Str × Addr)) (fp : List Addr), DTs (X.blk s H scope (compEnvC scope cl C X.env) fp) Cl W0 ifs tt)
    (he : ∀ (s : Shared) (H : Hp) (C : Addr) (cl : List (Str × Addr)) (fp : List Addr), DE (X.blk s H scope (compEnvC scope cl C X.env) fp) Cl W0 elt fe) (hsw : swapsWith (.ListComp elt [⟨tg, iter, ifs, 0⟩] scope pos) (some (.Name y py)) spos.line X.env = pure true) (hy : X.N[i]? = some y := by rfl) (hyl : X.env.scope.names.lookup y = some .local := by rfl) (hv : own.map (·.2) = vs := by rfl) (hs : ∀ x, foldedSetIterable iter X.env x = pure x := by intro _; rfl) :
    DS X Cl W (.Assign [.Name y py] (.ListComp elt [⟨tg, iter, ifs, 0⟩] scope pos) spos) (je i (yE vs st it tt fe)) := PS.imp (ps_setLc (tt := jbl X.K Cl W0 tt) (te := qau X.K Cl W0 fe) hc hN hy hyl hsw hi ok hg ht he hs) fun D σ H h => by
  have h1 := ycg h
  rw [hv]
  exact jbZ T h1
end
section
variable {X : Cx} {Cl : Nat → Addr} {W : WX} {K : PySem.W.Frag} {e : Expr} {f : FE} {pos : Pos}
@[simp] def vT (a b : Val) : Option Val := (gI (fun i j => .bool (decide (i < j))) a b).or (gS (fun i j => .bool (decide (i.cps.toList < j.cps.toList))) a b)
@[simp] def wc4 (a b : Val) : Option Val := (gI (fun i j => .bool (decide (i ≤ j))) a b).or (gS (fun i j => .bool (!decide (j.cps.toList < i.cps.toList))) a b)
@[simp] def wz (a b : Val) : Option Val := (gI (fun i j => .bool (decide (j < i))) a b).or (gS (fun i j => .bool (decide (j.cps.toList < i.cps.toList))) a b)
@[simp] def zJ (a b : Val) : Option Val := (gI (fun i j => .bool (decide (j ≤ i))) a b).or (gS (fun i j => .bool (!decide (i.cps.toList < j.cps.toList))) a b)
def rX (g : Int → Int → V) (h : Str → Str → V) : R2 := fun x y H Q => rI0 g x y H Q ∨ (∃ i j, x = .str i ∧ y = .str j ∧ Q (h i j) H)
theorem zaf : OpR X (compareOp .Lt) (rX (fun i j => .bl (decide (i < j))) fun i j => .bl (decide (i.cps.toList < j.cps.toList))) := op_lt.or op_lt_str
theorem vI : OpR X (compareOp .Gt) (rX (fun i j => .bl (decide (j < i))) fun i j => .bl (decide (j.cps.toList < i.cps.toList))) := op_gt.or op_gt_str
theorem wav : OpR X (compareOp .GtE) (rX (fun i j => .bl (decide (j ≤ i))) fun i j => .bl (!decide (i.cps.toList < j.cps.toList))) := op_ge.or op_ge_str
theorem jaf : R2D K (rX (fun i j => .bl (decide (i < j))) fun i j => .bl (decide (i.cps.toList < j.cps.toList))) vT := (ybQ fun i j _ => .bl _).or (zc3 (g := fun i j => .bl (decide (i.cps.toList < j.cps.toList))) fun i j _ => .bl _)
theorem yI : R2D K (rX (fun i j => .bl (decide (j < i))) fun i j => .bl (decide (j.cps.toList < i.cps.toList))) wz := (ybQ fun i j _ => .bl _).or (zc3 (g := fun i j => .bl (decide (j.cps.toList < i.cps.toList))) fun i j _ => .bl _)
theorem vav : R2D K (rX (fun i j => .bl (decide (j ≤ i))) fun i j => .bl (!decide (i.cps.toList < j.cps.toList))) zJ := (ybQ fun i j _ => .bl _).or (zc3 (g := fun i j => .bl (!decide (i.cps.toList < j.cps.toList))) fun i j _ => .bl _)
def jw (g : FG) (f : FE) : FS := sE f fun v ρ => match v.st with
  | some d => (g d ρ).map .nx
  | none => none
theorem jD {tg : Expr} {g : FG} (hg : DG X Cl tg g) (he : DE X Cl W e f) (hs : swapsWithSole [tg] e pos.line X.env = pure false := by rfl) (hw : swappedStores [tg] e X.env = pure none := by rfl)
    (h1 : (assignEach [tg] X.env).map (·.2) = [assign tg X.env] := by rfl) : DS X Cl W (.Assign [tg] e pos) (jw g f) := PS.imp (ps_asg he hg hs hw h1) fun D σ H ⟨H0, Z, ρ, o, I, e, q⟩ => by
  refine jag I e q fun v x H1 _ h2 s1 hv I1 => ?_
  cases e1 : v.st with
  | none => rw [e1] at h2; cases h2
  | some d =>
    rw [e1] at h2
    dsimp only at h2
    cases e2 : g d ρ with
    | none => rw [e2] at h2; cases h2
    | some ρ' =>
      rw [e2] at h2
      cases h2
      exact ⟨_, Z, ρ, d, ρ', I1, hv.stab I.di e1, e2, fun σ' I' => q _ _ I'⟩
theorem ydI {p : Addr} {dd : Option Addr} {its : Array Value} {n : Nat} {ss : Array (Option Value)} {ns : List Int} (h : K.lookup p = some ⟨.type "tuple", dd, .seq its n, ss⟩) (hv : Vals (ns.map V.int) its.toList) (hl : zz its.size = true := by rfl) : ∀ H, DL.Dp K H (.ref p) (.tuple (ns.map .int)) :=
  fun H => .tup (.inr ⟨_, its, n, h, rfl, rfl, yS hl, hv⟩) (DpAll.of_ints ns)
def xdI (x : D) (ds : List D) : Option Nat := ds.findIdx? fun d => eqV (toV d) (toV x)
@[simp] def kd3 (a b : Val) : Option Val := match a.d with
  | .list ds => if (yu b.d && ds.all yu) = true then (xdI b.d ds).map fun j => .s (.int (j : Int)) else none
  | _ => none
def eLM (g : Val → Val → Option Val) (fa fb : FE) : FE := bE fa fun a ρ => match a.d with
  | .list _ => bE fb (fun b _ => (g a b).map .ok) ρ
  | _ => none
section
variable {g : Val → Val → Option Val} {h : Val → Option Val} {fa fb fe : FE} {i : Nat} {ρ : xb} {d : D} {gs : FGs} {tg : FG}
@[simp] theorem zdD : e2 g fa fb ρ = bE fa (fun a => bE fb fun b _ => (g a b).map .ok) ρ := rfl
@[simp] theorem jdD : e1 h fa ρ = bE fa (fun a _ => (h a).map .ok) ρ := rfl
@[simp] theorem zd4 : eLM g fa fb ρ = bE fa (fun a ρ => match a.d with
  | .list _ => bE fb (fun b _ => (g a b).map .ok) ρ
  | _ => none) ρ := rfl
@[simp] theorem kdI : xdC fa fb ρ = bE fa (fun v ρ => match v.d with
  | .bool true => fb ρ
  | .bool false => ok (.bool false)
  | _ => none) ρ := rfl
@[simp] theorem wcE : zcg fa fb ρ = bE fa (fun v ρ => match v.d with
  | .bool false => fb ρ
  | .bool true => ok (.bool true)
  | _ => none) ρ := rfl
@[simp] theorem vcE : je i fa ρ = sE fa (fun v ρ => v.st.map fun d => .nx (ρ.set i (.dat d))) ρ := rfl
@[simp] theorem vc4 : jaJ i fa ρ = sE fa (fun v ρ => match v with
  | .f ds => some (.nx (ρ.set i (.own ds)))
  | _ => none) ρ := rfl
@[simp] theorem yc4 : kbT fa ρ = sE fa (fun _ ρ => some (.nx ρ)) ρ := rfl
@[simp] theorem xbL : vh fa ρ = sE fa (fun v _ => match v with
  | .s d => some (.ret d)
  | .m d => some (.ret d)
  | .b ds => some (.retF ds)
  | .f ds => some (.retF ds)) ρ := rfl
@[simp] theorem kdl : qM i fa ρ = qaN i (fun ds => sE fa fun v ρ => match v.st with
  | some d => if zz (ds.length + 1) = true then some (.nx (ρ.set i (.own (ds ++ [d])))) else none
  | none => none) ρ := rfl
@[simp] theorem qdm : zaH i fa ρ = qaN i (fun ds => sE fa fun v ρ => match v.items with
  | some es => if zz (ds.length + es.length) = true then some (.nx (ρ.set i (.own (ds ++ es)))) else none
  | none => none) ρ := rfl
@[simp] theorem wd1 : zdI i ρ = qaN i (fun ds ρ => if ds.isEmpty = true then none else some (.nx (ρ.set i (.own ds.dropLast)))) ρ := rfl
@[simp] theorem vd1 : jdI i fa fe ρ = sE fe (fun v => qaN i fun ds => sE fa fun k ρ => match k.d, v.st with
  | .int j, some d => (ixN ds.length j).map fun n => .nx (ρ.set i (.own (ds.set n d)))
  | _, _ => none) ρ := rfl
@[simp] theorem keh : gN i d ρ = some (ρ.set i (.dat d)) := rfl
@[simp] theorem qdJ : wo [] ρ = some ρ := rfl
@[simp] theorem ydF {r : List D} : qc i gs (d :: r) ρ = gs r (ρ.set i (.dat d)) := rfl
@[simp] theorem qei {n : Nat} {ds : List D} : gT n gs (.tuple ds) ρ = if ds.length = n then gs ds ρ else none := rfl
@[simp] theorem jbU {n k : Nat} {f : FS} {ds : List D} : xA n k f ds = match f (ds.map .dat ++ List.replicate (k - n) .un) with
  | some (.nx _) => some (.ret .none)
  | some (.ret d) => some (.ret d)
  | some (.retF ds) => some (.retF ds)
  | some (.retX ds k) => some (.retX ds k)
  | some (.exc _ c i) => some (.exc c i)
  | _ => none := rfl
@[simp] theorem jd4 : zP i ρ d = some (ρ.set i (.dat d)) := rfl
@[simp] theorem ycE : jw tg fa ρ = sE fa (fun v ρ => match v.st with
  | some d => (tg d ρ).map .nx
  | none => none) ρ := rfl
end
def wcI (K : PySem.W.Frag) : Sp := fun vs H Q _ => ∃ (a : Addr) (ns : List Int), vs = [.ref a] ∧ SqL K H a (ns.map V.int) ∧ ns.length ≤ 63 ∧ ∀ H', Q (.bl true) H'
theorem vdt {Cl : Nat → Addr} {P : Program} {w : World} {mg : Str → Option Value} {base : Heap} {CX : CXT} {k : Nat} {fa : Addr} {fd : FuncData} {ps : List Str} {F : DF} (h : ∀ ns : List Int, ns.length ≤ 63 → F [scr ns] = some (.ret (.bool true))) (G : FnOk P w K mg base CX k fa fd ps (vB K Cl 1 F)) (hz : NoT Cl := by exact ⟨rfl, rfl, rfl, rfl⟩) : FnOk P w K mg base CX k fa fd ps (wcI K) :=
  G.imp fun vs H Q E ⟨a, ns, e, hs, hl, q⟩ => by
    subst e
    refine ⟨fun _ => False, [scr ns], _, ⟨fun _ z => z.elim, .none hz _⟩, .cons (.scr (SqL.kO (fun b o e _ => xg id e) hs)) .nil, rfl, h ns hl, fun v H' s hv => ?_⟩
    rw [hv.yaV]
    exact q H'
theorem zdm {P : Program} {w : World} {outer : List Env} {H : Hp} {s s' : Shared} {e : Value} (h : L2.CX P w outer H s (fun _ _ _ => False) e s') : False := by
  obtain ⟨_, _, _, _, _, _, _, _, _, _, _, _, z⟩ := h
  exact z
end
structure ExT (K : PySem.W.Frag) (mg : Str → Option Value) (x : Str) (C fI : Addr) : Prop where
  g : mg x = some (.ref C)
  oex : OexC K C
  no : PySem.W.findIn K (.ref C) "at" = some none
  iC : PySem.W.findIn K (.ref C) "__init__" = some (some (.ref fI))
  xf : XfC K C
structure InT (K : PySem.W.Frag) (q : Str) (st : Stmt) (fI : Addr) (fd : FuncData) : Prop where
  F : Fun K "__init__" q st fI fd
  tI : PySem.W.typeIn K (.ref fI) = some (.type "function")
  b : Binds K fd ["self", "at"] []
def zcH (K : PySem.W.Frag) : Sp := fun vs H Q _ => ∃ (a C : Addr) (y : V), vs = [.ref a, y] ∧ OexC K C ∧ PySem.W.findIn K (.ref C) "at" = some none ∧ H a = some (exo a C none) ∧
  ∀ dx, H dx = none → dx ≠ a → Q .non (upd (upd H dx (exd dx [("at", y)])) a (exo a C (some dx)))
section
variable {X : Cx} {Cl : Nat → Addr} {W : WX} {K : PySem.W.Frag} {e : Expr} {f : FE} {pos : Pos}
def yi (c : Nat) (f : FE) : FS := sE f fun v ρ => match v.d with
  | .int i => some (.exc ρ c i)
  | _ => none
@[simp] theorem zcV {c : Nat} {ρ : xb} : yi c f ρ = sE f (fun v ρ => match v.d with
  | .int i => some (.exc ρ c i)
  | _ => none) ρ := rfl
theorem xw {c : Nat} {x q : Str} {fI : Addr} {fd : FuncData} {st : Stmt} {p pos' : Pos} (T : ExT X.K X.mg x (Cl c) fI) (N : InT X.K q st fI fd) (F1 : FnOk X.prog X.w X.K X.mg X.base (L2.CX X.prog X.w) 1 fI fd ["self", "at"] (zcH X.K)) (tk : Takes X W) (hr : Room 2 X.A) (he : DE X Cl W e f)
    (hc : X.calm = true := by rfl) (hg : Gl X x := by rfl) (hdb : (x == ("__debug__" : Str)) = false := by decide) (hs : starEach (e :: []) X.env = (false, eval e X.env) :: starEach [] X.env := by rfl) (hpl : (backTo pos (starEach [] X.env)).any (·.1) = false := by rfl) :
    DS X Cl W (.Raise (some (.Call (.Name x p) [e] [] pos)) none pos') (yi c f) :=
  PS.imp (ps_raise hc tk (pmk_oex (dvs := []) (ds := []) T.oex T.iC N.tI F1 hr N.b .nil passL hg T.g (pa_cons he pa_nil hs) hdb hs hpl)) fun D σ H ⟨H0, Z, ρ, o, I, e, q⟩ => by
    refine jag I e q fun v y H1 _ h1 s1 hv I1 => ?_
    split at h1
    · rename_i i ei
      cases h1
      have ey := hv.int_inv I.di ei
      subst ey
      refine ⟨by show 1 ≤ 1000; decide, fun a na => ⟨a, Cl c, .int i, rfl, T.oex, T.no, upd_same, fun dx nd hne => ⟨rfl, dx, [("at", .int i)], ?_, ?_, ?_, ?_⟩⟩⟩
      · exact upd_same
      · rw [upd_ne hne, upd_same]
      · rw [upd_ne hne] at nd
        exact nd
      · rw [upd_ne hne] at nd
        refine q dx σ _ (I1.kO (.of (fun b o e => ?_) fun b o xs e => ?_)) upd_same
        · have n1 := ne_of_none e nd
          have n2 := ne_of_none e na
          rw [upd_ne n1, del_ne n2, upd_ne n2, upd_ne n1, upd_ne n2]
          exact e
        by_cases b1 : b = dx
        · rw [b1, upd_same] at e
          cases e
        rw [upd_ne b1] at e
        by_cases b2 : b = a
        · rw [b2, del_same] at e
          cases e
        rw [del_ne b2, upd_ne b2, upd_ne b1, upd_ne b2] at e
        exact e
    · cases h1
structure zS (X : Cx) (pins : List (Addr × Obj)) (a : Addr) (B : Heap) (sI : Shared) (σ : St) (H : Hp) (cls : Value) (d : Option Addr) (s : Shared) : Prop where
  inv : Inv X pins σ H sI
  ground : ∀ b o, sI.heap.get? b = some o → b ∉ frs X.stack → B.get? b = some o
  slots : sI.heap.UpToSlots s.heap
  fly : HandSPX.FlyingZ B (X.env :: X.outer) a (Zc cls d) s.heap
  free : H a = none
  os : s.os = sI.os
  bare : AllBare s.gens
def qbe (X : Cx) (hds : List ExceptHandler) (D : Ends) (wish : WX) : Prop := ∀ (pins : List (Addr × Obj)) (a : Addr) (B : Heap) (sI : Shared) (σ : St) (H : Hp) (cls : Value) (d : Option Addr) (s : Shared), zS X pins a B sI σ H cls d s → wish cls d σ H →
  wpAny (model X.prog X.w) X.A (handleBy (.ref a) X.env hds) (SP X pins D) X.xe s
theorem zS.now {pins : List (Addr × Obj)} {a : Addr} {B : Heap} {sI : Shared} {σ : St} {H : Hp} {cls : Value} {d : Option Addr} {s : Shared} (c : zS X pins a B sI σ H cls d s) : Inv X pins σ H s := c.inv.landed c.ground c.fly.1 c.slots c.os c.bare
theorem zS.out {pins : List (Addr × Obj)} {a : Addr} {B : Heap} {sI : Shared} {σ : St} {H : Hp} {cls : Value} {d : Option Addr} {s : Shared} (c : zS X pins a B sI σ H cls d s) (hf : X.env.frame = some X.env.locals) : a ≠ X.env.locals ∧ a ∉ X.fs := by
  obtain ⟨ob, fv, hob, _, hdat⟩ := c.fly.there
  have apart : a ∉ frs (X.env :: X.outer) := fun m => by
    obtain ⟨_, o2, e2, nf⟩ := c.fly.2.2.1.mem m
    rw [hob] at e2
    cases e2
    exact nf _ hdat
  refine ⟨fun z => apart (List.mem_filterMap.mpr ⟨X.env, List.mem_cons_self, by rw [hf, z]⟩), fun m => ?_⟩
  obtain ⟨en, men, q⟩ := List.mem_filterMap.mp m
  exact apart (List.mem_filterMap.mpr ⟨en, List.mem_cons_of_mem _ men, q⟩)
theorem jct {D : Ends} (hs : X.stack = X.env :: X.outer) (hf : X.env.frame = some X.env.locals) (tk : Takes X W) : qbe X [] D W := fun pins a B sI σ H cls d s c hw => by
  refine wpAny_handleBy_nil ?_
  obtain ⟨_, _, _, ob, fv, T, _, _, hob, _, hdat, h1, _⟩ := id c.fly
  unfold PySem.passOn
  have fin : wpAny (model X.prog X.w) X.A (setFlight (.ref a) X.env.frame) (fun _ s4 => wpAny (model X.prog X.w) X.A (throw (.ref a) : Sem Flow) (SP X pins D) X.xe s4) X.xe s := by
    rw [hf]
    refine HandSPX.setFlight_upZ c.fly fun h4 held more => wpAny_throw (tk _ _ ?_)
    exact ⟨a, B, sI, pins, σ, H, cls, d, rfl, c.inv, c.ground, c.slots.trans more, .inr (.inr (by rw [hs]; exact held)), c.free, c.os, c.bare, hw⟩
  refine wpAny_bind (wpAny_field hob hdat h1 ?_)
  rw [if_neg (show ¬ ((Value.ref T == Value.none) = true) by simp)]
  first
    | exact wpAny_bind (wpAny_pure (wpAny_bind fin))
    | exact wpAny_bind fin
def zdC (test : Value → Bool → Prop) (yes : Addr → Value → Option Addr → TS) (D : Ends) (rest : WX) : WX := fun cls d σ H => ∃ b, test cls b ∧ (b = true → ∀ a, H a = none → yes a cls d D σ H) ∧ (b = false → rest cls d σ H)
theorem zS.suite {pins : List (Addr × Obj)} {a : Addr} {B : Heap} {sI : Shared} {σ : St} {H : Hp} {cls : Value} {d : Option Addr} {s : Shared} (c : zS X pins a B sI σ H cls d s) (hf : X.env.frame = some X.env.locals) :
    ∃ oe, s.heap.get? a = some oe ∧ Zc cls d oe ∧ (∃ vs, oe.data = .fields vs) ∧ Inv (X.suite a ((a, oe) :: (X.pn ++ pins))) [] σ H s := by
  obtain ⟨ob, fv, hob, hz, hdat⟩ := c.fly.there
  obtain ⟨n1, n2⟩ := c.out hf
  exact ⟨ob, hob, hz, ⟨fv, hdat⟩, c.now.suite hob hdat c.free n1 n2⟩
theorem zS.again {pins : List (Addr × Obj)} {a : Addr} {B : Heap} {sI : Shared} {σ : St} {H : Hp} {cls : Value} {d : Option Addr} {s : Shared} {h4 : Heap} (c : zS X pins a B sI σ H cls d s) (fl : HandSPX.FlyingZ B (X.env :: X.outer) a (Zc cls d) h4) (up : s.heap.UpToSlots h4) : zS X pins a B sI σ H cls d { s with heap := h4 } :=
  ⟨c.inv, c.ground, c.slots.trans up, fl, c.free, c.os, c.bare⟩
theorem kdp {body : List Stmt} {h0 : ExceptHandler} {hds : List ExceptHandler} {tb : WX → TS} {wish : Ends → WX} (hs : X.stack = X.env :: X.outer) (hf : X.env.frame = some X.env.locals)
    (hb : ∀ (W : WX) (pn : List (Addr × Obj)) (xe : Value → Shared → Prop), Takes (X.tr pn xe) W → PassesOwn (model X.prog X.w) X.A X.env xe → PSs (X.tr pn xe) body (tb W)) (hc : ∀ D, X.Ok → qbe X (h0 :: hds) D (wish D)) :
    PS X (.Try body (h0 :: hds) [] [] pos) (fun D σ H => tb (wish D) D σ H) := by
  refine ⟨fun pins s σ H D I h => ?_⟩
  have ok := I.ok
  have top : X.A.frames = some (X.env :: X.outer) := by rw [ok.frames, hs]
  refine wpAny_Try_except (wpAny_mono ((hb (wish D) (X.pn ++ pins) (fun e s₁ => wpAny (model X.prog X.w) X.A (noteFrame e X.env) (fun _ s₂ => wpAny (model X.prog X.w) X.A (setFlight e none) (fun _ s₃ =>
    wpAny (model X.prog X.w) X.A (handleBy e X.env (h0 :: hds)) (SP X pins D) X.xe s₃) X.xe s₂) X.xe s₁) (fun u s' xx => ?_) PassesOwn.looking).run [] s σ H D (I.toTry _) h) (fun fl s1 r => ?_) (fun _ _ z => z))
  · obtain ⟨a, B, sI, pins', σ', H', cls, d, rfl, J', nb, up, sky, na, os, ag, w⟩ := xx
    have J : Inv X pins σ' H' sI := J'.ofTry ok
    refine Sky.land Zc.steady top hf (by rw [← hs]; exact sky) fun h3 fl3 up3 => ?_
    exact hc D ok pins a B sI σ' H' cls d { s' with heap := h3 } ⟨J, nb, up.trans up3, fl3, na, os, ag⟩ w
  · cases fl with
    | next => obtain ⟨σ6, H6, J6, q⟩ := r; exact wpAny_execs_nil ⟨σ6, H6, J6.ofTry ok, q⟩
    | brk => obtain ⟨σ6, H6, J6, q⟩ := r; exact ⟨σ6, H6, J6.ofTry ok, q⟩
    | cont => obtain ⟨σ6, H6, J6, q⟩ := r; exact ⟨σ6, H6, J6.ofTry ok, q⟩
    | ret u => obtain ⟨v6, σ6, H6, J6, r6, q⟩ := r; exact ⟨v6, σ6, H6, J6.ofTry ok, r6, q⟩
end
section
variable {X : Cx} {Cl : Nat → Addr} {W : WX} {K : PySem.W.Frag} {pos : Pos}
structure ErF (K : PySem.W.Frag) (C : Addr) : Prop where
  xf : XfC K C
  no : PySem.W.findIn K (.ref C) "at" = some none
  xc : ExcC K C
def eAt (k : Nat) (a dd : Addr) (ρ : xb) : Option (Except Er Val) := match ρ[k]? with
  | some (.err a' dd' i) => if a' = a ∧ dd' = dd then ok (.int i) else none
  | _ => none
def waz (k : Nat) (a dd : Addr) (b : Option Bool) (ρ : xb) : Option (Except Er Val) := match ρ[k]? with
  | some (.err a' dd' _) => if a' = a ∧ dd' = dd then b.map fun x => .ok (.s (.bool x)) else none
  | _ => none
theorem qdC {k : Nat} {a dd : Addr} {i : Int} {ρ : xb} (h : ρ[k]? = some (.err a dd i)) : eAt k a dd ρ = some (.ok (.s (.int i))) := by
  unfold eAt
  rw [h]
  dsimp only
  rw [if_pos ⟨rfl, rfl⟩]
  rfl
theorem waB {k : Nat} {a dd : Addr} {i : Int} {b : Bool} {ρ : xb} (h : ρ[k]? = some (.err a dd i)) : waz k a dd (some b) ρ = some (.ok (.s (.bool b))) := by
  unfold waz
  rw [h]
  dsimp only
  rw [if_pos ⟨rfl, rfl⟩]
  rfl
theorem vdp {a dd C : Addr} {oe : Obj} {pn : List (Addr × Obj)} {k : Nat} {n : Str} {pos' : Pos} (F : ErF X.K C) (hz : Zc (.ref C) (some dd) oe) (hf : ∃ vs, oe.data = .fields vs) (hv : PE (X.suite a ((a, oe) :: pn)) (.Name n pos') (tVar k))
    (hb : attributeBase (.Name n pos') "at" X.env (eval (.Name n pos') X.env) = eval (.Name n pos') X.env := by rfl) : DE (X.suite a ((a, oe) :: pn)) Cl W (.Attribute (.Name n pos') "at" pos) (eAt k a dd) :=
  PE.imp (pe_xf F.xf F.no hz hf hv hb) fun σ H Q ⟨Z, ρ, r, I, e, q⟩ => by
    unfold eAt at e
    split at e
    · rename_i a' dd' i hd
      split at e
      · rename_i h
        obtain ⟨rfl, rfl⟩ := h
        cases e
        obtain ⟨h1, h2⟩ := I.slots k _ hd
        exact ⟨_, h1, rfl, rfl, _, _, .int i, rfl, h2, rfl, q _ H (Same.refl _) (.int i)⟩
      · cases e
    · cases e
def vdH (K : PySem.W.Frag) (D a dd : Addr) : List V → Hp → VK → Prop := fun xs H Q => ∃ (c : V) (cv : Value) (b : Bool) (fs : List (Str × V)), xs = [.ref a, c] ∧ (∀ u, RelV c u → u = cv) ∧ PySem.W.kitOne K (.ref D) cv = some b ∧ H dd = some (.xd fs) ∧ Q (.bl b) H
abbrev HF := Nat → Int → xb → Option Out
def zcG (k : Nat) : Out → Option Out
  | .nx ρ => some (.nx (ρ.set k .un))
  | .brk ρ => some (.brk (ρ.set k .un))
  | .ct ρ => some (.ct (ρ.set k .un))
  | .ret d => some (.ret d)
  | .retF ds => some (.retF ds)
  | .retX ds k => some (.retX ds k)
  | .exc _ _ _ => none
noncomputable def kbS (F : Addr → Addr → Option Out) : Option Out := open Classical in if h : ∃ o, ∀ a dd, F a dd = some o then some (Classical.choose h) else none
theorem xc1 {F : Addr → Addr → Option Out} {o : Out} (a0 : Addr) (h : ∀ a dd, F a dd = some o) : kbS F = some o := by
  unfold kbS
  have hh : ∃ o, ∀ a dd, F a dd = some o := ⟨o, h⟩
  rw [dif_pos hh]
  have q := Classical.choose_spec hh a0 a0
  rw [h a0 a0] at q
  exact q.symm
theorem jcG {F : Addr → Addr → Option Out} {o : Out} (h : kbS F = some o) : ∀ a dd, F a dd = some o := by
  unfold kbS at h
  split at h
  · rename_i hh
    cases h
    exact Classical.choose_spec hh
  · cases h
def kc1 : HF := fun c i ρ => some (.exc ρ c i)
noncomputable def hAs (m : Nat → Option Bool) (k : Nat) (g : Nat → Addr → Addr → FS) (rest : HF) : HF := fun c i ρ => match m c with
  | some true => kbS fun a dd => (g c a dd (ρ.set k (.err a dd i))).bind (zcG k)
  | some false => rest c i ρ
  | none => none
def jbY (m : Nat → Option Bool) (g : FS) (rest : HF) : HF := fun c i ρ => match m c with
  | some true => match g ρ with
    | some (.exc _ _ _) => none
    | o => o
  | some false => rest c i ρ
  | none => none
def vaB (fb : FS) (h : HF) : FS := fun ρ => match fb ρ with
  | some (.exc ρ1 c i) => h c i ρ1
  | o => o
def HOk (K : PySem.W.Frag) (Cl : Nat → Addr) (W : WX) (h : HF) (wish : Ends → WX) : Prop := ∀ (D : Ends) (H0 : Hp) (Z : Addr → Prop) (o : Out) (c : Nat) (i : Int) (ρ : xb) (σ : St) (H : Hp) (dd : Addr), h c i ρ = some o → SI K Cl H0 Z H σ ρ → H dd = some (.xd [(("at" : Str), .int i)]) → OOk K Cl W H0 Z D o → wish D (.ref (Cl c)) (some dd) σ H
def DHs (X : Cx) (Cl : Nat → Addr) (W : WX) (hds : List ExceptHandler) (h : HF) : Prop := ∃ wish : Ends → WX, (∀ D, X.Ok → qbe X hds D (wish D)) ∧ HOk X.K Cl W h wish
theorem zdk (hs : X.stack = X.env :: X.outer) (hf : X.env.frame = some X.env.locals) (tk : Takes X W) : DHs X Cl W [] kc1 :=
  ⟨fun _ => W, fun D _ => jct hs hf tk, fun D H0 Z o c i ρ σ H dd e I hd q => by cases e; exact q dd σ H I hd⟩
theorem SI.ydp {H0 : Hp} {Z : Addr → Prop} {H : Hp} {σ : St} {ρ : xb} (I : SI K Cl H0 Z H σ ρ) {k : Nat} {a dd : Addr} {i : Int} (h : H dd = some (.xd [(("at" : Str), .int i)])) : SI K Cl H0 Z H (σ.set k (some (.ref a))) (ρ.set k (.err a dd i)) :=
  ⟨I.di.qc2 (fun z => nomatch z) fun _ _ => ⟨rfl, h⟩, I.same, fun b ⟨j, q⟩ => I.new b ⟨j, qY (s := .err a dd i) (fun z => nomatch z) q⟩⟩
def tsX (K : PySem.W.Frag) (Cl : Nat → Addr) (n : Nat → Prop) (g : Nat → Addr → Addr → FS) (a : Addr) (cls : Value) (d : Option Addr) : TS := fun D σ H => ∃ c dd, n c ∧ cls = .ref (Cl c) ∧ d = some dd ∧ ybk K Cl W0 (g c a dd) D σ H
theorem xdp {body : List Stmt} {h0 : ExceptHandler} {hds : List ExceptHandler} {fb : FS} {h : HF} (hs : X.stack = X.env :: X.outer) (hf : X.env.frame = some X.env.locals)
    (hb : ∀ (W' : WX) (pn : List (Addr × Obj)) (xe : Value → Shared → Prop), Takes (X.tr pn xe) W' → PassesOwn (model X.prog X.w) X.A X.env xe → DSs (X.tr pn xe) Cl W' body fb) (hh : DHs X Cl W (h0 :: hds) h) :
    DS X Cl W (.Try body (h0 :: hds) [] [] pos) (vaB fb h) := by
  obtain ⟨wish, h1, h2⟩ := hh
  refine PS.imp (kdp (tb := fun W' => ybk X.K Cl W' fb) hs hf hb h1) fun D σ H ⟨H0, Z, ρ, o, I, e, q⟩ => ?_
  unfold vaB at e
  cases e1 : fb ρ with
  | none => rw [e1] at e; cases e
  | some o1 =>
    rw [e1] at e
    refine ⟨H0, Z, ρ, o1, I, e1, ?_⟩
    cases o1 with
    | exc ρ1 c i => exact fun dd σ' H' I' hd => h2 D H0 Z o c i ρ1 σ' H' dd e I' hd q
    | nx ρ2 => cases e; exact q
    | brk ρ2 => cases e; exact q
    | ct ρ2 => cases e; exact q
    | ret d => cases e; exact q
    | retF ds => cases e; exact q
    | retX ds k => cases e; exact q
end
def mxL : List (Nat × Bool) → Nat → Option Bool
  | [], _ => none
  | (k, b) :: r, c => if k = c then some b else mxL r c
inductive AllL (P : Nat → Bool → Prop) : List (Nat × Bool) → Prop
  | nil : AllL P []
  | cons {k : Nat} {b : Bool} {r : List (Nat × Bool)} : P k b → AllL P r → AllL P ((k, b) :: r)
theorem vC {P : Nat → Bool → Prop} : ∀ {l : List (Nat × Bool)}, AllL P l → ∀ c b, mxL l c = some b → P c b
  | _, .nil, c, b, e => nomatch e
  | _, .cons (k := k) (b := b') h t, c, b, e => by
    unfold mxL at e
    by_cases hk : k = c
    · rw [if_pos hk] at e
      cases e
      exact hk ▸ h
    · rw [if_neg hk] at e
      exact vC t c b e
end DL
namespace FN
open PySem PySem.Spec PyProof.Rows L2 DL
noncomputable section
def wam : D := .tuple [.int 0, .int 498536548, .int 997073096, .int 651767980, .int 1994146192, .int 1802195444, .int 1303535960, .int 1342533948, .int 3988292384, .int 4027552580, .int 3604390888, .int 3412177804, .int 2607071920, .int 2262029012, .int 2685067896, .int 3183342108]
def waC : FS := vb (jaJ 1 (zw (ka))) (vb (kD (yj (qa (eG xcf (qa (eC (.int 63)) (qa (eG kl (qa (eV 0) (ka))) (ka)))) (ka))) (gN 2) (vb (je 3 (eG kcG (qa (e2 vi (eV 0) (eV 2)) (ka)))) (kh (tV (e2 zJ (eV 3) (e2 kc2 (eC (.int 10)) (eC (.int 18))))) (kD (yj (qa (eC (.int 60)) (ka))) (gN 4) (kh (tV (e2 wz (eV 3) (eC (.int 0)))) (vb (qM 1 (e2 qam (eG jY (qa (eV 3) (ka))) (eC (.int 65536)))) (je 3 (e2 xbA (eV 3) (eC (.int 65536))))) (ki))) (vb (je 5 (e2 qam (eG jY (qa (e2 wc (e2 jt (eV 3) (eC (.int 48271))) (e2 jt (e2 wc (eV 2) (eC (.int 1))) (eC (.int 69621)))) (ka))) (eC (.int 2147483647)))) (vb (je 5 (e2 qam (eG jY (qa (e2 wc (e2 wc (e2 jt (eV 5) (eC (.int 16807))) (e2 jt (eC (.int 11)) (eV 2))) (eC (.int 5))) (ka))) (eC (.int 2147483629)))) (vb (qM 1 (e2 qam (eG jY (qa (eV 5) (ka))) (eC (.int 65536)))) (qM 1 (e2 qam (eG jY (qa (e2 xbA (eV 5) (eC (.int 65536))) (ka))) (eC (.int 32768)))))))))) (vh (eV 1)))
def jaC : DF := xA 1 6 waC
def xaC : FS := vb (je 1 (eC (.int 4294967295))) (vb (kD (xY (eV 0)) (gN 2) (vb (je 1 (e2 qah (eV 1) (eV 2))) (vb (je 1 (e2 qah (e2 xC (eV 1) (eC (.int 4))) (e2 vi (eC wam) (e2 qw (eV 1) (eC (.int 15)))))) (je 1 (e2 qah (e2 xC (eV 1) (eC (.int 4))) (e2 vi (eC wam) (e2 qw (eV 1) (eC (.int 15))))))))) (vh (e2 qah (eV 1) (eC (.int 4294967295)))))
def qbW : DF := xA 1 3 xaC
def yG : FS := vh (zw (qa (e2 qw (eV 0) (eC (.int 255))) (qa (e2 qw (e2 xC (eV 0) (eC (.int 8))) (eC (.int 255))) (qa (e2 qw (e2 xC (eV 0) (eC (.int 16))) (eC (.int 255))) (qa (e2 qw (e2 xC (eV 0) (eC (.int 24))) (eC (.int 255))) (ka))))))
def kn : DF := xA 1 1 yG
def yk : FS := vb (kh (tV (e2 vT (eV 1) (eG kl (qa (eV 0) (ka))))) (vh (e2 qam (eG jY (qa (e2 vi (eV 0) (eV 1)) (ka))) (eV 2))) (ki)) (vh (eC (.int 0)))
def kf : DF := xA 3 3 yk
def jM : FS := vb (je 1 (eC (.int 4294967295))) (vb (kD (xY (eV 0)) (gN 2) (kD (yj (qa (eC (.int 8)) (ka))) (gN 3) (vb (je 4 (e2 qw (e2 qah (e2 xC (eV 2) (eV 3)) (eV 1)) (eC (.int 1)))) (vb (je 1 (e2 xC (eV 1) (eC (.int 1)))) (kh (tV (e2 qK (eV 4) (eC (.int 1)))) (je 1 (e2 qah (eV 1) (eC (.int 3988292384)))) (ki)))))) (vh (e2 qah (eV 1) (eC (.int 4294967295)))))
def zx : DF := xA 1 5 jM
def kT : FS := vh (e2 wc (e2 wc (e2 wc (e2 vi (eV 0) (eC (.int 0))) (e2 kag (e2 vi (eV 0) (eC (.int 1))) (eC (.int 8)))) (e2 kag (e2 vi (eV 0) (eC (.int 2))) (eC (.int 16)))) (e2 kag (e2 vi (eV 0) (eC (.int 3))) (eC (.int 24))))
def kF : DF := xA 1 1 kT
end
noncomputable section
def jaN : FS := vb (je 2 (e2 wc (e2 wc (kb FN.kf 3 (qa (eV 0) (qa (eV 1) (qa (eC (.int 65536)) (ka))))) (e2 jt (eC (.int 65536)) (kb FN.kf 3 (qa (eV 0) (qa (e2 wc (eV 1) (eC (.int 1))) (qa (eC (.int 65536)) (ka))))))) (e2 jt (eC (.int 4294967296)) (kb FN.kf 3 (qa (eV 0) (qa (e2 wc (eV 1) (eC (.int 2))) (qa (eC (.int 256)) (ka)))))))) (vh (e2 xC (eV 2) (kb FN.kf 3 (qa (eV 0) (qa (e2 wc (eV 1) (eC (.int 3))) (qa (eC (.int 41)) (ka)))))))
def kav : FS := vb (kh (wB (tV (e2 vT (eV 0) (eC (.int 0)))) (tV (e2 zJ (eV 0) (eC (.int 1099511627776))))) (yi 1 (eC (.int 0))) (ki)) (vb (jaJ 1 (zw (ka))) (vb (qch (tV (e2 zJ (eV 0) (eC (.int 128)))) (vb (qM 1 (e2 wc (e2 qw (eV 0) (eC (.int 127))) (eC (.int 128)))) (je 0 (e2 xC (eV 0) (eC (.int 7)))))) (vb (qM 1 (eV 0)) (vh (eV 1)))))
def xF : DF := xA 1 2 kav
def yam : FS := vb (jaJ 1 (zw (ka))) (vb (kD (yj (qa (eC (.int 7)) (ka))) (gN 2) (kh (wB (tV (e2 qK (eV 2) (eC (.int 0)))) (tV (e2 wz (eV 0) (eC (.int 0))))) (vb (qM 1 (e2 qw (eV 0) (eC (.int 127)))) (je 0 (e2 xC (eV 0) (eC (.int 7))))) (ki))) (vh (e2 wc (yE [3] (zP 3) (xY (qB (eV 1) (wu) (zj (e1 kbk (eC (.int 1)))))) (fun _ => some (.ok true)) (e2 wc (eV 3) (eC (.int 128)))) (qB (eV 1) (zj (e1 kbk (eC (.int 1)))) (wu)))))
def xZ : DF := xA 1 4 yam
def jL : FS := vb (kD (jar (qa (eV 1) (qa (e2 wc (eV 1) (eC (.int 6))) (ka)))) (gN 2) (vb (kh (tV (e2 zJ (eV 2) (eG kl (qa (eV 0) (ka))))) (yi 3 (eG kl (qa (eV 0) (ka)))) (ki)) (kh (tV (e2 vT (e2 vi (eV 0) (eV 2)) (eC (.int 128)))) (vh (e2 wc (eV 2) (eC (.int 1)))) (ki)))) (vh (e2 wc (eV 1) (eC (.int 6))))
def qv : DF := xA 2 3 jL
def jK : FS := vb (je 2 (kb FN.qv 2 (qa (eV 0) (qa (eV 1) (ka))))) (vb (je 3 (eC (.int 0))) (vb (kD (jar (qa (eV 1) (qa (eV 2) (ka)))) (gN 4) (kbY 3 (fun i j => i + j) (e2 kag (e2 qw (e2 vi (eV 0) (eV 4)) (eC (.int 127))) (e2 jt (eC (.int 7)) (e2 gSub (eV 4) (eV 1)))))) (vb (kh (wB (tV (e2 zJ (e2 vi (eV 0) (e2 gSub (eV 2) (eC (.int 1)))) (eC (.int 128)))) (tV (e2 zJ (eV 3) (eC (.int 1099511627776))))) (yi 1 (eV 1)) (ki)) (vb (kh (waS (tV (e2 wz (e2 gSub (eV 2) (eV 1)) (eC (.int 1)))) (tV (e2 qK (e2 vi (eV 0) (e2 gSub (eV 2) (eC (.int 1)))) (eC (.int 0))))) (yi 2 (eV 1)) (ki)) (vh (jn (qa (eV 3) (qa (eV 2) (ka)))))))))
def yB : DF := xA 2 5 jK
end
end FN
namespace DL
open PySem PySem.Spec PyProof.Rows L2
section
variable {X : Cx} {W : WX} {Cl : Nat → Addr}
theorem zS.grow {pins : List (Addr × Obj)} {a : Addr} {B : Heap} {sI : Shared} {σ : St} {H : Hp} {cls : Value} {d : Option Addr} {s : Shared} {h2 : Heap} (c : zS X pins a B sI σ H cls d s) (kp : ∀ b o, s.heap.get? b = some o → h2.get? b = some o) : zS X pins a B sI σ H cls d { s with heap := h2 } := by
  obtain ⟨f1, f2, f3, oe, ws, T, oT, ts, he, hz, hd, h1, hn, hne, hT, hdT, h3⟩ := c.fly
  exact ⟨c.inv, c.ground, c.slots.trans (Heap.UpToSlots.of_keeps kp), ⟨fun b o q => kp b o (f1 b o q), f2, f3.of_keeps fun b o q _ => ⟨o, kp b o q, rfl⟩, oe, ws, T, oT, ts, kp _ _ he, hz, hd, h1, hn, hne, kp _ _ hT, hdT, h3⟩, c.free, c.os, c.bare⟩
def qc8 (X : Cx) (t : Expr) (test : Value → Bool → Prop) : Prop := ∀ (pins : List (Addr × Obj)) (a : Addr) (B : Heap) (sI : Shared) (σ : St) (H : Hp) (cls : Value) (d : Option Addr) (s : Shared) (b : Bool) (Q : Bool → Shared → Prop) (E : Value → Shared → Prop),
  X.env.frame = some X.env.locals → zS X pins a B sI σ H cls d s → test cls b → (∀ h2, (∀ q o, s.heap.get? q = some o → h2.get? q = some o) → Q b { s with heap := h2 }) →
  wpAny (model X.prog X.w) (X.A.mark (some (.ref a))) (eval t X.env) (fun c s1 => wpAny (model X.prog X.w) (X.A.mark (some (.ref a))) (excMatches (.ref a) c) Q E s1) E s
theorem wbY {pins pn : List (Addr × Obj)} {a : Addr} {σ : St} {H : Hp} {s : Shared} {x : Str} {c : Value} {p : Pos} {Q : Value → Shared → Prop} {E : Value → Shared → Prop} (S : Inv (X.suite a pn) pins σ H s) (hc : Names X x c) (q : Q c s) : wpAny (model X.prog X.w) (X.A.mark (some (.ref a))) (eval (.Name x p) X.env) Q E s := by
  obtain ⟨hg, hdbg, hm | ⟨hm, hv, hnn⟩⟩ := hc
  · exact ld_glob (X := X.suite a pn) S hg hm q hdbg
  · exact ld_blt (X := X.suite a pn) S hg hm hv q hnn hdbg
theorem wcG {x1 x2 x3 : Str} {c1 c2 c3 : Value} {p1 p2 p3 tpos : Pos} {kk : Nat} (n1 : Names X x1 c1) (n2 : Names X x2 c2) (n3 : Names X x3 c3) :
    qc8 X (.Tuple [.Name x1 p1, .Name x2 p2, .Name x3 p3] kk tpos) (fun cls b => PySem.W.exmAny X.K cls [c1, c2, c3] = some b) := fun pins a B sI σ H cls d s b Q E hf ca hb q => by
  obtain ⟨ob, hob, hz, hdat, S⟩ := ca.suite hf
  have look : PySem.W.Looks (model X.prog X.w) s.heap (typeOf (.ref a)) cls := fun A Q E s' k q => wpAny_typeOf_ref (k _ _ hob) (by rw [hz.1]; exact q)
  refine wpAny_Tuple ?_
  refine wpAny_items_cons (wbY S n1 ?_)
  refine wpAny_items_cons (wbY S n2 ?_)
  refine wpAny_items_cons (wbY S n3 ?_)
  refine wpAny_items_nil ⟨by size_fits, ?_⟩
  have kp : ∀ q o, s.heap.get? q = some o → (s.heap.push { cls := .type "tuple", data := .seq [c1, c2, c3].toArray }).get? q = some o := fun _ _ z => Heap.get?_push_of_some _ z
  exact (PySem.W.exm_tup3 (M := model X.prog X.w) ((ca.now.kIn).keeps kp) (look.keeps kp) (Heap.get?_push_size s.heap rfl) hb).here (q _ kp)
theorem wct {D : Ends} {t : Expr} {test : Value → Bool → Prop} {b0 : Stmt} {suite : List Stmt} {pos' : Pos} {hds : List ExceptHandler} {rest : WX} {ts : Addr → Value → Option Addr → TS} (ok : X.Ok) (hf : X.env.frame = some X.env.locals) (ht : qc8 X t test)
    (hsu : ∀ (a : Addr) (oe : Obj) (cls : Value) (d : Option Addr) (pn : List (Addr × Obj)), Zc cls d oe → (∃ vs, oe.data = .fields vs) → PSs (X.suite a ((a, oe) :: pn)) (b0 :: suite) (ts a cls d)) (hr : qbe X hds D rest) :
    qbe X (.ExceptHandler (some t) none (b0 :: suite) pos' :: hds) D (zdC test ts D rest) := fun pins a B sI σ H cls d s ca ⟨b, hb, yes, no⟩ => by
  refine wpAny_handleBy_cons (codeAny_handlers_test (ht pins a B sI σ H cls d s b _ _ hf ca hb fun h2 kp => ?_)) (by intro q; cases q)
  have ca2 := ca.grow kp
  cases b with
  | false => exact hr pins a B sI σ H cls d _ ca2 (no rfl)
  | true =>
    refine codeAny_handlers_suite (HandSPX.lands_againZ ca2.fly fun h4 fl up => ?_)
    have ca4 := ca2.again fl up
    obtain ⟨ob4, _, hz4, hdat4, S4⟩ := ca4.suite hf
    refine wpAny_mono ((hsu a ob4 cls d (X.pn ++ pins) hz4 hdat4).run [] _ _ H _ S4 (yes rfl a ca.free)) (fun fl s6 r => ?_) (fun _ _ z => z.elim)
    cases fl with
    | next => obtain ⟨σ6, H6, S6, q6⟩ := r; exact ⟨σ6, H6, S6.unsuite ok, q6⟩
    | brk => obtain ⟨σ6, H6, S6, q6⟩ := r; exact ⟨σ6, H6, S6.unsuite ok, q6⟩
    | cont => obtain ⟨σ6, H6, S6, q6⟩ := r; exact ⟨σ6, H6, S6.unsuite ok, q6⟩
    | ret u => obtain ⟨v6, σ6, H6, S6, r6, q6⟩ := r; exact ⟨v6, σ6, H6, S6.unsuite ok, r6, q6⟩
theorem jbQ {K : PySem.W.Frag} {cls c1 c2 c3 : Value} {b1 b2 b3 : Bool} (h1 : PySem.W.exmOne K cls c1 = some b1) (h2 : PySem.W.exmOne K cls c2 = some b2) (h3 : PySem.W.exmOne K cls c3 = some b3) : PySem.W.exmAny K cls [c1, c2, c3] = some (b1 || (b2 || b3)) := by
  simp [PySem.W.exmAny, h1, h2, h3]
theorem zc2 {x1 x2 x3 : Str} {p1 p2 p3 tpos : Pos} {kk : Nat} {N : Nat → Prop} {C1 C2 C3 : Value} {b0 : Stmt} {suite : List Stmt} {pos' : Pos} {hds : List ExceptHandler} {rest : HF} {m : Nat → Option Bool} {g : FS} (hf : X.env.frame = some X.env.locals) (n1 : Names X x1 C1) (n2 : Names X x2 C2) (n3 : Names X x3 C3)
    (hm : ∀ c b, m c = some b → N c ∧ PySem.W.exmAny X.K (.ref (Cl c)) [C1, C2, C3] = some b)
    (hsu : ∀ (a : Addr) (oe : Obj) (pn : List (Addr × Obj)), DSs (X.suite a ((a, oe) :: pn)) Cl W0 (b0 :: suite) g) (hr : DHs X Cl W hds rest) :
    DHs X Cl W (.ExceptHandler (some (.Tuple [.Name x1 p1, .Name x2 p2, .Name x3 p3] kk tpos)) none (b0 :: suite) pos' :: hds) (jbY m g rest) := by
  obtain ⟨wr, h1, h2⟩ := hr
  refine ⟨_, fun D ok => wct (ts := fun _ _ _ => ybk X.K Cl W0 g) ok hf (wcG n1 n2 n3) (fun a oe cls d pn hz hdat => ⟨fun pins s σ H D I q => (hsu a oe pn).run pins s σ H D I q⟩) (h1 D ok), fun D H0 Z o c i ρ σ H dd e I hd q => ?_⟩
  unfold jbY at e
  cases e1 : m c with
  | none => rw [e1] at e; cases e
  | some b =>
    rw [e1] at e
    obtain ⟨hlt, hb⟩ := hm c b e1
    refine ⟨b, hb, fun hb1 a na => ?_, fun hb0 => ?_⟩
    · subst hb1
      dsimp only at e
      cases e2 : g ρ with
      | none => rw [e2] at e; cases e
      | some o2 =>
        rw [e2] at e
        refine ⟨H0, Z, _, o2, I, e2, ?_⟩
        cases o2 with
        | nx ρ2 => cases e; exact q
        | brk ρ2 => cases e; exact q
        | ct ρ2 => cases e; exact q
        | ret d => cases e; exact q
        | retF ds => cases e; exact q
        | retX ds k => cases e; exact q
        | exc _ _ _ => cases e
    · subst hb0
      exact h2 D H0 Z o c i ρ σ H dd e I hd q
end
theorem vct {v : Value} {o : Obj} {H : Heap → Prop} (B : Begins v o H) :
    Meets (Builtin.«enumerate.__new__» ⟨[.type "enumerate", v], []⟩) (fun _ R s => H s.heap ∧
      R (.ok (.ret (.ref (s.heap.push o).objs.size))) { s with heap := (s.heap.push o).push { cls := .type "enumerate", data := .fields #[.none, .bool false, .ref s.heap.objs.size, rawInt 0, .none, .none] } }) :=
  .of_wp fun prog w A R s h => by
    obtain ⟨hp, g, d, tk, os⟩ := s; obtain ⟨h1, h⟩ := h
    have hsub := sub_enumerate
    have q1 : ∀ {A' : Around} {E : Value → Shared → Prop} {Q : Value → Shared → Prop}, Q (.ref hp.objs.size) ⟨hp.push o, g, d, tk, os⟩ → wpAny (model prog w) A' (pyIter v) Q E ⟨hp, g, d, tk, os⟩ :=
      fun q => B.iter prog w _ _ ⟨hp, g, d, tk, os⟩ _ h1 q
    wp_walk using q1
    refine wpAny_stack_any fun st => wpAny_pure ?_
    split
    · rename_i c _ _ _ _ _
      cases (c == Value.type "enumerate")
      · wp_walk using q1
        exact ⟨_, rfl, h⟩
      · wp_walk using q1
        exact ⟨_, rfl, h⟩
    · wp_walk using q1
      exact ⟨_, rfl, h⟩
theorem vce {prog : Program} {w : World} {A : Around} {E : Value → Shared → Prop} {s : Shared} {v : Value} {o : Obj} {H : Heap → Prop} {Q : Value → Shared → Prop} (B : Begins v o H) (h1 : H s.heap)
    (h : ∀ h', IsEnum h' (s.heap.objs.size + 1) s.heap.objs.size 0 .none → h'.get? s.heap.objs.size = some o → h'.objs.size = s.heap.objs.size + 2 →
      (∀ b o, s.heap.get? b = some o → h'.get? b = some o) → Q (.ref (s.heap.objs.size + 1)) { s with heap := h' }) :
    wpAny (model prog w) A (call (.type "enumerate") [v]) Q E s := by
  refine callType_new F.called_enumerate (by decide) (F.typeCall_enumerate_1 _) (F.newCall_enumerate_1 _) (fun obj => F.args_object_init_2 obj _) F.entry_enumerate_new
    (vct B) ⟨h1, ?_⟩
  have hz : (s.heap.push o).objs.size = s.heap.objs.size + 1 := Heap.size_push ..
  show _ ∧ _
  rw [hz]
  have he : IsEnum ((s.heap.push o).push { cls := .type "enumerate", data := .fields #[.none, .bool false, .ref s.heap.objs.size, rawInt 0, .none, .none] }) (s.heap.objs.size + 1) s.heap.objs.size 0 .none := by
    have q := Heap.get?_push_size (s.heap.push o) (o := { cls := .type "enumerate", data := .fields #[.none, .bool false, .ref s.heap.objs.size, rawInt 0, .none, .none] }) rfl
    rw [hz] at q; exact q
  refine ⟨⟨_, he, rfl⟩, h _ he (Heap.get?_push_of_some _ (Heap.get?_push_size _ B.free)) (by rw [Heap.size_push, hz]) fun b o x => Heap.get?_push_of_some _ (Heap.get?_push_of_some _ x)⟩
def jc2 (K : PySem.W.Frag) (a : Addr) : It :=
  ⟨fun i H => ∃ (xs : List V) (x : V), SqT K H a xs ∧ xs[i]? = some x, fun i H v H' => ∃ T x, v = .ref T ∧ H T = none ∧ H' = upd H T (.tup [.int (i : Nat), x]) ∧ ∀ xs, SqT K H a xs → xs[i]? = some x, fun i H => ∃ xs : List V, SqT K H a xs ∧ xs.length ≤ i⟩
theorem vcG {P : Program} {w : World} {K : PySem.W.Frag} {elts : List Expr} {kk : Nat} {tpos : Pos} (a e it : Addr) :
    Turn P w K (.Tuple elts kk tpos) (jc2 K a) [e, it] e (fun i h => (∃ old, IsEnum h e it ((i : Nat) : Int) old) ∧ h.IsTupleIter it a i ∧ e ≠ it) where
  mem := by simp
  obj := fun i h st b hb => by
    obtain ⟨⟨old, he⟩, ⟨o, ho, hc, hd⟩, _⟩ := st
    have e' : b = e ∨ b = it := by simpa using hb
    rcases e' with z | z
    · rw [z]; exact ⟨_, he, fun v q => nomatch q⟩
    · rw [z]; exact ⟨o, ho, fun v q => by rw [hd] at q; cases q⟩
  keep := fun i h h' st k => let ⟨⟨old, he⟩, hi, hne⟩ := st; ⟨⟨old, k e (by simp) _ he⟩, hi.at fun o q => k it (by simp) o q, hne⟩
  item := by
    intro X hP hw hK hc i pins s σ H E I hf st hg
    subst hP hw hK
    obtain ⟨⟨old, he⟩, hit, hne⟩ := st
    obtain ⟨xs, x, hq, hx⟩ := hg
    obtain ⟨its, rv, p, hz⟩ := I.tuple hq
    obtain ⟨u, hu, ru⟩ := rv.get hx
    have hel : e < s.heap.objs.size := Heap.lt_size he
    have hil : it < s.heap.objs.size := by obtain ⟨_, q, _⟩ := hit; exact Heap.lt_size q
    have hai : a ≠ it := fun z => by
      obtain ⟨o1, q1, c1, _⟩ := p
      obtain ⟨o2, q2, c2, _⟩ := hit
      rw [z, q2] at q1
      cases q1
      rw [c1] at c2
      exact absurd c2 (by decide)
    have hae : e ≠ a := fun z => by
      obtain ⟨o1, q1, c1, _⟩ := p
      have q2 := he
      rw [z] at q2
      rw [show s.heap.get? a = _ from q2] at q1
      cases q1
      injection c1 with c1
      exact absurd c1 (by decide)
    have ilt : i < its.toArray.size := by
      have := (List.getElem?_eq_some_iff.mp hu).1
      simpa using this
    refine wpAny_pyNext_enum_itemD (Draws.tuple (A := X.A.in1) (I.ok.hd hc) it a hai its.toArray) he ⟨hit, p⟩ ilt hne (by simp [hne, hae]) fun x' h' tk hP ho hst' hT hsz hk => ?_
    obtain rfl : x' = u := by
      have q : its[i]? = some x' := by simpa using hP
      rw [hu] at q
      cases q
      rfl
    refine ⟨_, rfl, wpAny_letOwnedTupleGo_enum (s := { s with heap := h', toks := tk + 1 }) ho fun h'' he' sb => ?_⟩
    have hT2 : h''.get? s.heap.objs.size = some { cls := .type "tuple", data := .seq #[.int i tk, x'] } := (sb.2 _ (Nat.ne_of_gt hel)).trans hT
    have new : ObjOk X.prog X.w (upd H s.heap.objs.size (.tup [.int (i : Nat), x])) h'' s.heap.objs.size (.tup [.int (i : Nat), x]) :=
      ⟨by show 2 ≤ sizeLine; decide, [.int i tk, x'], .cons ⟨_, rfl⟩ (.cons ru .nil), ⟨_, hT2, rfl, _, rfl⟩⟩
    have I1 : Inv X pins σ (upd H s.heap.objs.size (.tup [.int (i : Nat), x])) { s with heap := h'', toks := tk + 1 } :=
      I.turnedNew (ch := [e, it]) (fun b ob hb q => (sb.2 b (fun z => hb (by simp [z]))).trans (hk b ob (fun z => hb (by simp [z])) (fun z => hb (by simp [z])) q)) hf (Nat.le_refl _) new
    refine ⟨.ref s.heap.objs.size, _, I1, rfl, ⟨_, x, rfl, I.hok.fresh (Nat.le_refl _), rfl, fun ys hy => by rw [I.tuple_inj hy hq]; exact hx⟩, ⟨⟨x', ?_⟩, hst'.1.at fun o q => (sb.2 it (Ne.symm hne)).trans q, hne⟩, fun b hb => ?_⟩
    · have e1 : ((i + 1 : Nat) : Int) = (i : Int) + 1 := by omega
      rw [e1]; exact he'
    · have hb' : b < s.heap.objs.size := by
        have e' : b = e ∨ b = it := by simpa using hb
        rcases e' with z | z
        · rw [z]; exact hel
        · rw [z]; exact hil
      rw [upd_ne (Nat.ne_of_lt hb')]
      exact (hf b hb).1
  done := by
    intro X hP hw hK hc i pins s σ H E I hf st hg
    subst hP hw hK
    obtain ⟨⟨old, he⟩, hit, hne⟩ := st
    obtain ⟨xs, hq, hx⟩ := hg
    obtain ⟨its, rv, p, hz⟩ := I.tuple hq
    obtain ⟨f0, f1, f2, f3, f4, f5⟩ := hf it (by simp)
    have hl := rv.length
    have hT : s.TypeIs (.ref e) "enumerate" := ⟨_, he, rfl⟩
    unfold pyNext
    refine wpAny_bind (wpAny_attempt (wpAny_callSpecial?_slot (name := Str.ofString "__next__") hT F.slot_enumerate_next
      (wpAny_call_entry F.slot_enumerate_next hT F.entry_enumerate_next ?_ (F.args_enumerate_next_1 _))))
    show wpAny _ _ (field (.ref e) 2 >>= _) _ _ _
    refine wpAny_bind (wpAny_field he rfl (x := .ref it) rfl ?_)
    refine wpAny_bind (wpAny_nextOf_tuple_end (A := X.A.in1) (I.ok.hd hc) hit p (by simp; omega) fun h' x he' hx' => ?_)
    obtain ⟨o, ho, hc⟩ := hx'
    refine wpAny_bind (wpAny_isInstance (T := "StopIteration") (b := true) ⟨o, ho, hc⟩ isSubtype_stop ?_)
    exact wpAny_pure ⟨rfl, I.turned (t' := s.toks) (fun b o hb q => he' b o hb q) f0 f1 f3 f4 f5⟩
  self := fun A i s Q E st h => let ⟨⟨_, he⟩, _⟩ := st; wpAny_pyIter_enum he h
def qdq (K : PySem.W.Frag) (ta : TA) : TI := fun σ H R => ta σ H fun vs H1 => ∃ a xs, vs = [.ref a] ∧ SqT K H1 a xs ∧ R (jc2 K a) H1
theorem wc2 {X : Cx} {e : Expr} {ta : TA} {p pos tpos : Pos} {elts : List Expr} {kk : Nat} (hg : Gl X "enumerate") (hm : X.mg "enumerate" = none) (ha : PA X [e] ta) (hs : starEach [e] X.env = [(false, eval e X.env)] := by rfl) :
    PI X (.Tuple elts kk tpos) (.Call (.Name "enumerate" p) [e] [] pos) (qdq X.K ta) := by
  refine ⟨fun pins s σ H R I h => ?_⟩
  refine Call_ (ld_blt I hg hm boot_enumerate (PyProof.Rows.callWith_type1 (thn (ha.run pos pins s σ H _ I h) fun us s1 ⟨vs, H1, I1, r1, q1⟩ => ?_) hs rfl))
  obtain ⟨a, xs, ex, hq, q⟩ := q1
  subst ex
  cases r1 with
  | cons r rr =>
    cases rr
    cases r
    obtain ⟨its, rv, p', hz⟩ := I1.tuple hq
    refine vce (begins_tuple a its.toArray) p' fun h' he hit hsz hk => wpAny_pyIter_enum he ?_
    have I2 : Inv X pins σ H1 { s1 with heap := h' } := I1.kept (t' := s1.toks) hk
    refine ⟨s1.heap.objs.size + 1, [s1.heap.objs.size + 1, s1.heap.objs.size], _, _, H1, rfl, I2, vcG a (s1.heap.objs.size + 1) s1.heap.objs.size, ⟨⟨.none, he⟩, ⟨_, hit, rfl, rfl⟩, Nat.succ_ne_self _⟩, fun b hb => ?_, q⟩
    have e' : b = s1.heap.objs.size + 1 ∨ b = s1.heap.objs.size := by simpa using hb
    have hle : s1.heap.objs.size ≤ b := by
      rcases e' with z | z
      · rw [z]; exact Nat.le_add_right _ _
      · rw [z]; exact Nat.le_refl _
    exact I1.fpOk hle (I1.hok.fresh hle)
theorem vc2 {K : PySem.W.Frag} {Hs : Hp} {a : Addr} {xs : List V} {ds : List D} (h1 : SqT K Hs a xs) (h2 : DpAll K Hs xs ds) : wbQ K Hs (jc2 K a) (waa ds) := fun Z' H' s live => by
  have q : SqT K H' a xs := SqT.same (s.trans wj) h1
  have hl : (waa ds).length = xs.length := by
    unfold waa
    rw [List.length_map, List.length_zipIdx, h2.length]
  refine ⟨fun i hi => ⟨xs, xs[i]'(by rw [← hl]; exact hi), q, List.getElem?_eq_getElem _⟩, fun i hi => ⟨xs, q, by rw [← hl]; exact hi⟩, fun i x H'' d y hd => ?_⟩
  obtain ⟨T, z, rfl, nT, rfl, y⟩ := y
  have e3 := y xs q
  obtain ⟨d', e1, e2⟩ := h2.get' e3
  unfold waa at hd
  rw [List.getElem?_map, List.getElem?_zipIdx, e1] at hd
  cases hd
  have nz : ¬ Z' T := fun z => live T z nT
  refine ⟨fun _ => yC nT, .tup (SqT.of (xg nz upd_same)) (.cons ?_ (.cons ?_ .nil))⟩
  · rw [Nat.zero_add]
    exact .int _
  · exact Dp.same (s.trans (qe (jS nT) fun _ h => .inl h)) e2
section
variable {X : Cx} {Cl : Nat → Addr} {W : WX} {e : Expr} {p pos : Pos} {g : FA}
@[simp] def zbT (g : FA) (ρ : xb) : Option (Except Er (List D)) := match g ρ with
  | none => none
  | some (.error e) => some (.error e)
  | some (.ok vs) => match vs with
    | [.s (.list ds)] => some (.ok (waa ds))
    | [.f ds] => some (.ok (waa ds))
    | [.s (.tuple ds)] => some (.ok (waa ds))
    | _ => none
theorem yc2 {elts : List Expr} {kk : Nat} {tpos : Pos} (hm : X.mg "enumerate" = none) (ha : DA X Cl W [e] g) (hg : Gl X "enumerate" := by rfl) (hs : starEach [e] X.env = [(false, eval e X.env)] := by rfl) :
    DIt X Cl W (.Tuple elts kk tpos) (.Call (.Name "enumerate" p) [e] [] pos) (zbT g) :=
  PI.imp (DL.PI.or (pi_enum hg hm ha hs) (wc2 hg hm ha hs)) fun σ H R ⟨Z, ρ, r, I, e, q⟩ => by
    unfold zbT at e
    cases e1 : g ρ with
    | none => rw [e1] at e; cases e
    | some r1 =>
      rw [e1] at e
      cases r1 with
      | error er =>
        cases e
        exact .inl (yK I e1 (fun er z => by cases z; exact q) fun vs xs H1 ev s1 hvs I1 => by cases ev)
      | ok vs0 =>
        dsimp only at e
        split at e
        · rename_i ds
          cases e
          refine .inl (yK I e1 (fun er z => by cases z) fun vs xs H1 ev s1 hvs I1 => ?_)
          cases ev
          obtain ⟨x, rfl, h⟩ := hvs.one
          obtain ⟨a, ys, rfl, h1, h2⟩ := Dp.lst_inv (show Dp X.K (hide H1 (Zo Z σ ρ)) x (.list ds) from h)
          exact ⟨a, ys, rfl, .inl (Rd.same wj h1), q _ H1 s1 (qcD h1 h2)⟩
        · rename_i ds
          cases e
          refine .inl (yK I e1 (fun er z => by cases z) fun vs xs H1 ev s1 hvs I1 => ?_)
          cases ev
          obtain ⟨x, rfl, h⟩ := hvs.one
          obtain ⟨a, ys, rfl, n, h1, h2⟩ := h
          have np : ¬ Zo Z σ ρ a := fun z => I.qal z n
          exact ⟨a, ys, rfl, SqL.of h1, q _ H1 s1 (qcD (Rd.of (xg np h1)) (DpAll.same (qe (vc.refl _) fun _ h => .inl (.inl h)) h2))⟩
        · rename_i ds
          cases e
          refine .inr (yK I e1 (fun er z => by cases z) fun vs xs H1 ev s1 hvs I1 => ?_)
          cases ev
          obtain ⟨x, rfl, h⟩ := hvs.one
          obtain ⟨a, ys, rfl, h1, h2⟩ := Dp.qR (show Dp X.K (hide H1 (Zo Z σ ρ)) x (.tuple ds) from h)
          exact ⟨a, ys, rfl, SqT.same wj h1, q _ H1 s1 (vc2 h1 h2)⟩
        · cases e
end
noncomputable def xce {α : Type} (F : Addr → Addr → Option α) : Option α := open Classical in if h : ∃ o, ∀ a dd, F a dd = some o then some (Classical.choose h) else none
theorem jdk {α : Type} {F : Addr → Addr → Option α} {o : α} (h : ∀ a dd, F a dd = some o) : xce F = some o := by
  unfold xce
  have hh : ∃ o, ∀ a dd, F a dd = some o := ⟨o, h⟩
  rw [dif_pos hh]
  have q := Classical.choose_spec hh 0 0
  rw [h 0 0] at q
  exact q.symm
theorem qcT {α : Type} {F : Addr → Addr → Option α} {o : α} (h : xce F = some o) : ∀ a dd, F a dd = some o := by
  unfold xce at h
  split at h
  · rename_i hh
    cases h
    exact Classical.choose_spec hh
  · cases h
abbrev DFE := Nat → Int → Option kaV
def zc8 : Out → Option kaV
  | .nx _ => some (.ret .none)
  | .ret d => some (.ret d)
  | .retF ds => some (.retF ds)
  | .retX ds k => some (.retX ds k)
  | .exc _ c i => some (.exc c i)
  | _ => none
noncomputable def mkE (k : Nat) (f : Nat → Addr → Addr → FS) : DFE := fun c i => xce fun a dd => (f c a dd (.err a dd i :: List.replicate (k - 1) .un)).bind zc8
def spE (K : PySem.W.Frag) (Cl : Nat → Addr) (base : Heap) (F : DFE) : Sp := fun vs H Q E => ∃ (Z : Addr → Prop) (a dd : Addr) (oe : Obj) (c : Nat) (i : Int) (o : kaV), vbQ Cl Z H ∧ vs = [.ref a] ∧ base.get? a = some oe ∧ Zc (.ref (Cl c)) (some dd) oe ∧ (∃ fs, oe.data = .fields fs) ∧ ErF K (Cl c) ∧ H dd = some (.xd [(("at" : Str), .int i)]) ∧ F c i = some o ∧ DOk K Cl Z H Q E o
section
variable {X : Cx} {Cl : Nat → Addr} {W : WX} {K : PySem.W.Frag} {pos : Pos}
theorem zcT {a D dd : Addr} {oe : Obj} (hbs : X.base.get? a = some oe) (C : ExcC X.K D) (hz : Zc (.ref D) (some dd) oe) (hf : ∃ vs, oe.data = .fields vs) : CallR X (.builtin "isinstance") (vdH X.K D a dd) := fun pins s σ H xs us Q I r h => by
  obtain ⟨c, cv, b, fs, rfl, hcv, e, hdd, q⟩ := h
  cases r with
  | cons rx rr => cases rr with
    | cons rt rr =>
      cases rr
      cases rx
      have ec := hcv _ rt
      subst ec
      obtain ⟨hget, _⟩ := I.bs a oe hbs
      have hx : ObjOk X.prog X.w H s.heap dd (.xd fs) := I.hok dd _ hdd
      obtain ⟨mA, hns, _⟩ := hx
      obtain ⟨od, ho, _⟩ := lookIn_ns hns
      obtain ⟨vs, hd⟩ := hf
      have inst : PySem.W.InstAt s.heap a oe D (some od) := ⟨hget, hz.1, (by unfold PySem.W.notCls; rw [hd] <;> rfl), (by rw [hz.2]; exact ho)⟩
      have hcl : (PySem.W.clsIn X.K D).isSome = true := by
        have hh := C.hd
        unfold PySem.W.hasDictIn at hh
        cases z : PySem.W.clsIn X.K D with
        | none => rw [z] at hh; cases hh
        | some _ => rfl
      exact PySem.W.kia_one (PySem.W.kitx_exc hcl C.hg C.hk C.hs C.ha C.hn C.ht C.hm) I.kIn inst e (fun z => nomatch z) fun tk =>
        ⟨.bl b, H, I.kept (t' := tk) fun _ _ z => z, rfl, q⟩
theorem zY {a dd C : Addr} {oe : Obj} {k : Nat} {n y x : Str} {p p1 p2 : Pos} {b : Option Bool} {v : V} {cv : Value} (hx : x = "isinstance") (hbs : X.base.get? a = some oe) (F : ErF X.K C) (hz : Zc (.ref C) (some dd) oe) (hf : ∃ vs, oe.data = .fields vs)
    (hm : X.mg x = none) (hv : PE X (.Name n p1) (tVar k)) (hy : PE X (.Name y p2) (tC v)) (hcv : ∀ u, RelV v u → u = cv) (hk : ∀ z, b = some z → PySem.W.kitOne X.K (.ref C) cv = some z) (hg : Gl X x := by rfl)
    (hs : starEach [.Name n p1, .Name y p2] X.env = (false, eval (.Name n p1) X.env) :: starEach [.Name y p2] X.env := by rfl) (hs2 : starEach [.Name y p2] X.env = (false, eval (.Name y p2) X.env) :: starEach [] X.env := by rfl) (hpl : (backTo pos (starEach [.Name y p2] X.env)).any (·.1) = false := by rfl) :
    DE X Cl W (.Call (.Name x p) [.Name n p1, .Name y p2] [] pos) (waz k a dd b) := by
  subst hx
  refine PE.imp (pe_callB (X := X) (zcT hbs F.xc hz hf) hg hm PyProof.Rows.boot_isinstance (pa_cons hv (pa_cons hy pa_nil hs2) hs) (by decide) (by decide) hs hpl) fun σ H Q ⟨Z, ρ, r, I, e, q⟩ => ?_
  unfold waz at e
  split at e
  · rename_i a' dd' i hd
    split at e
    · rename_i h
      obtain ⟨rfl, rfl⟩ := h
      cases b with
      | none => cases e
      | some z =>
        cases e
        obtain ⟨h1, h2⟩ := I.slots k _ hd
        exact ⟨_, h1, v, cv, z, _, rfl, hcv, hk z rfl, h2, q _ H (Same.refl _) (.bl z)⟩
    · cases e
  · cases e
theorem DI.wdq {Z : Addr → Prop} {H : Hp} {a dd : Addr} {i : Int} {m : Nat} (live : vbQ Cl Z H) (h : H dd = some (.xd [(("at" : Str), .int i)])) : DI K Cl Z H (some (.ref a) :: List.replicate m none) (.err a dd i :: List.replicate m .un) := by
  have no : ∀ j b, ¬ jq (some (V.ref a) :: List.replicate m none) (.err a dd i :: List.replicate m .un) j b := fun j b ho => by
    obtain ⟨s, h2, h3⟩ := ho.slot
    cases j with
    | zero => cases h2; cases h3
    | succ j =>
      rw [List.getElem?_cons_succ, List.getElem?_replicate] at h2
      split at h2
      · cases h2; cases h3
      · cases h2
  refine ⟨by simp, fun j k b h1 => absurd h1 (no j b), fun b ⟨j, z⟩ => absurd z (no j b), live.lv, fun j s e => ?_, live.tb⟩
  cases j with
  | zero => cases e; exact ⟨rfl, h⟩
  | succ j =>
    rw [List.getElem?_cons_succ, List.getElem?_replicate] at e
    split at e
    · cases e; trivial
    · cases e
theorem yct {pins : List (Addr × Obj)} {σ : St} {H : Hp} {s : Shared} {a : Addr} {oe : Obj} (I : Inv X pins σ H s) (hp : (a, oe) ∈ X.pn ++ pins) : ∃ base' : Heap, base'.get? a = some oe ∧ X.base.StaysIn base' ∧ Env0 X.prog X.w X.K X.mg base' X.A X.stack s H := by
  obtain ⟨hget, hHa, hloc, hfs, _⟩ := I.pin (a, oe) hp
  have hbs := I.bs
  obtain ⟨l, hl⟩ : ∃ l : List Addr, l = (List.range s.heap.objs.size).filter fun b => !((X.base.get? b).isSome || decide (b = a)) := ⟨_, rfl⟩
  have m1 : ∀ b, ((X.base.get? b).isSome || decide (b = a)) = true → b ∉ l := fun b hb hm => by
    rw [hl] at hm
    have z := (List.mem_filter.mp hm).2
    rw [hb] at z
    cases z
  have m2 : ∀ b, b < s.heap.objs.size → ((X.base.get? b).isSome || decide (b = a)) = false → b ∈ l := fun b h1 h2 => by
    rw [hl]
    exact List.mem_filter.mpr ⟨List.mem_range.mpr h1, by simp only [h2]; rfl⟩
  have back : ∀ b o, (PySem.W.hideAll s.heap l).get? b = some o → s.heap.get? b = some o ∧ ((X.base.get? b).isSome || decide (b = a)) = true := fun b o e => by
    have z := PySem.W.of_hideAll l e
    refine ⟨z, ?_⟩
    cases hb : ((X.base.get? b).isSome || decide (b = a)) with
    | true => rfl
    | false =>
      rw [PySem.W.hideAll_none l (m2 b (Heap.lt_size z) hb)] at e
      cases e
  have stay : X.base.StaysIn (PySem.W.hideAll s.heap l) := fun b o e => PySem.W.hideAll_get l (hbs b o e).1 (m1 b (by rw [e]; rfl))
  have apart : ∀ L ∈ frs X.stack, (PySem.W.hideAll s.heap l).get? L = none := fun L hL => by
    cases e : (PySem.W.hideAll s.heap l).get? L with
    | none => rfl
    | some o =>
      obtain ⟨e1, e2⟩ := back L o e
      obtain ⟨hn, _⟩ := I.stack.mem hL
      rw [hn] at e2
      have ea : L = a := by simpa using e2
      subst ea
      exfalso
      rcases I.ok.stk with h | ⟨h, hf⟩
      · exact hfs (by show L ∈ frs X.outer; rw [← h]; exact hL)
      · rw [h] at hL
        obtain ⟨en, men, q⟩ := List.mem_filterMap.mp hL
        rcases List.mem_cons.mp men with rfl | men
        · rw [hf] at q
          cases q
          exact hloc rfl
        · exact hfs (List.mem_filterMap.mpr ⟨en, men, q⟩)
  have E0 := I.env0
  refine ⟨PySem.W.hideAll s.heap l, PySem.W.hideAll_get l hget (m1 a (by simp)), stay, ⟨E0.frames, ?_, fun b o e => ?_, Nat.le_of_eq (PySem.W.hideAll_size _ _), funFrames_none E0.funs apart, E0.frf, E0.hok, E0.bare⟩⟩
  · obtain ⟨k1, k2, ⟨mb, k3, k4⟩, k5⟩ := E0.mod
    exact ⟨k1.keeps stay, k2.keeps stay, ⟨mb, k3.keeps stay, k4⟩, k5.keeps stay⟩
  · obtain ⟨e1, e2⟩ := back b o e
    refine ⟨e1, ?_⟩
    cases eb : X.base.get? b with
    | some o' => exact (hbs b o' eb).2
    | none =>
      rw [eb] at e2
      have ea : b = a := by simpa using e2
      rw [ea]
      exact hHa
noncomputable def zbe (F : DFE) (k : Nat) (a dd : Addr) (c : Nat) (ρ : xb) : Option (Except Er Val) := match ρ[k]? with
  | some (.err a' dd' i) => if a' = a ∧ dd' = dd then match F c i with
    | some (.ret d) => some (.ok (.s d))
    | some (.retF ds) => some (.ok (.f ds))
    | _ => none else none
  | _ => none
theorem jcT {F : DFE} {k : Nat} {a dd : Addr} {c : Nat} {i : Int} {ρ : xb} {ds : List D} (h : ρ[k]? = some (.err a dd i)) (e : F c i = some (.retF ds)) : zbe F k a dd c ρ = some (.ok (.f ds)) := by
  unfold zbe
  rw [h]
  dsimp only
  rw [if_pos ⟨rfl, rfl⟩, e]
end
variable {K : PySem.W.Frag} {Cl : Nat → Addr}
@[simp] def jbT : List Val → Option Val
  | [v] => v.items.map fun ds => .s (.tuple ds)
  | _ => none
theorem xc2 : CRD K (fun xs H Q => ∃ p ys, xs = [.ref p] ∧ ((SqL K H p ys ∧ ∀ l, H l = none → Q (.ref l) (upd H l (.tup ys))) ∨ (SqT K H p ys ∧ Q (.ref p) H))) jbT := fun Cl Z σ ρ H0 H xs vs v Q I s hv e q => by
  unfold jbT at e
  split at e
  · rename_i u
    obtain ⟨x, rfl, h⟩ := hv.one
    cases e1 : u.items with
    | none => rw [e1] at e; cases e
    | some ds =>
      rw [e1] at e
      cases e
      obtain ⟨p, ys, rfl, h1, h2⟩ := h.items I e1
      refine ⟨p, ys, rfl, .inl ⟨.inl h1, fun l nl => q _ _ (yC nl) ?_⟩⟩
      have n0 : H0 l = none := s.free nl
      have np : ¬ Zo Z σ ρ l := fun z => I.qal z n0
      exact Dp.tup (SqT.of (xg np upd_same)) (DpAll.same (qe (jS nl) fun _ z => .inl z) h2)
  · cases e
end DL
namespace FN
open PySem PySem.Spec PyProof.Rows L2 DL
noncomputable section
def jas : FS := vb (je 1 (jn (qa (eC (.int 4)) (qa (eC (.int 4294967295)) (qa (eC (.int 4294967295)) (qa (eC (.int 15)) (qa (eC (.int 16777215)) (qa (eC (.int 1099511627775)) (qa (eC (.int 16777215)) (qa (eC (.int 1)) (ka))))))))))) (vb (kD (zbT (qa (eV 1) (ka))) (gT 2 (qc 2 (qc 3 (wo)))) (kh (wB (tV (e2 vT (e2 vi (eV 0) (eV 2)) (eC (.int 0)))) (tV (e2 wz (e2 vi (eV 0) (eV 2)) (eV 3)))) (yi 1 (eV 2)) (ki))) (kh (tV (e2 wz (eG kl (qa (e2 vi (eV 0) (eC (.int 8))) (ka))) (eC (.int 1024)))) (yi 1 (eC (.int 8))) (ki)))
def kZ : DF := xA 1 4 jas
def qbE : FS := vb (kbT (kb FN.kZ 1 (qa (eV 0) (ka)))) (vb (jw (gT 9 (qc 1 (qc 2 (qc 3 (qc 4 (qc 5 (qc 6 (qc 7 (qc 8 (qc 9 (wo))))))))))) (eV 0)) (vb (jaJ 10 (e2 wc (e2 wc (zw (qa (eV 1) (ka))) (kb FN.kn 1 (qa (eV 2) (ka)))) (kb FN.kn 1 (qa (eV 3) (ka))))) (vb (kD (xY (jn (qa (eV 4) (qa (eV 5) (qa (eV 6) (qa (eV 7) (ka))))))) (gN 11) (zaH 10 (kb FN.xF 1 (qa (eV 11) (ka))))) (vb (qM 10 (eV 8)) (vb (zaH 10 (kb FN.xF 1 (qa (eG kl (qa (eV 9) (ka))) (ka)))) (vb (zaH 10 (eV 9)) (vh (e2 wc (eV 10) (kb FN.kn 1 (qa (kb FN.qbW 1 (qa (eV 10) (ka))) (ka)))))))))))
def kaC : FS := vb (kh (wB (tV (e2 qK (eG kl (qa (eV 0) (ka))) (eC (.int 0)))) (tV (e2 wz (e2 vi (eV 0) (eC (.int 0))) (eC (.int 4))))) (yi 5 (eC (.int 0))) (ki)) (vb (kh (tV (e2 vT (eG kl (qa (eV 0) (ka))) (eC (.int 5)))) (yi 6 (eC (.int 1))) (ki)) (vb (kh (tV (e2 vT (eG kl (qa (eV 0) (ka))) (eC (.int 9)))) (yi 7 (eC (.int 5))) (ki)) (vh (jn (qa (e2 vi (eV 0) (eC (.int 0))) (qa (kb FN.kF 1 (qa (qB (eV 0) (zj (eC (.int 1))) (zj (eC (.int 5)))) (ka))) (qa (kb FN.kF 1 (qa (qB (eV 0) (zj (eC (.int 5))) (zj (eC (.int 9)))) (ka))) (ka))))))))
def qaX : DF := xA 1 1 kaC
def jo : FS := vb (vaB (jw (gT 2 (qc 3 (qc 4 (wo)))) (kb FN.yB 2 (qa (eV 0) (qa (eV 1) (ka))))) (jbY (mxL [(1, true), (2, true), (3, true)]) (vh (jn (qa (eC .none) (qa (eV 1) (ka))))) (kc1))) (vb (kh (tV (e2 wz (eV 3) (eV 2))) (vh (jn (qa (eC .none) (qa (eV 1) (ka))))) (ki)) (vh (jn (qa (eV 3) (qa (eV 4) (ka))))))
def xj : DF := xA 3 5 jo
def qaD : FS := vb (jw (gT 2 (qc 1 (qc 2 (wo)))) (kb FN.xj 3 (qa (eV 0) (qa (eC (.int 9)) (qa (eC (.int 15)) (ka)))))) (vb (kh (tV (e2 yL (eV 1) (eC .none))) (yi 8 (eC (.int 9))) (ki)) (vb (jw (gT 2 (qc 3 (qc 4 (wo)))) (kb FN.xj 3 (qa (eV 0) (qa (eV 2) (qa (eC (.int 16777215)) (ka)))))) (vb (kh (tV (e2 yL (eV 3) (eC .none))) (yi 9 (eV 2)) (ki)) (vb (jw (gT 2 (qc 5 (qc 6 (wo)))) (kb FN.xj 3 (qa (eV 0) (qa (eV 4) (qa (eC (.int 1099511627775)) (ka)))))) (vb (kh (tV (e2 yL (eV 5) (eC .none))) (yi 10 (eV 4)) (ki)) (vb (jw (gT 2 (qc 7 (qc 8 (wo)))) (kb FN.xj 3 (qa (eV 0) (qa (eV 6) (qa (eC (.int 16777215)) (ka)))))) (vb (kh (tV (e2 yL (eV 7) (eC .none))) (yi 11 (eV 6)) (ki)) (vh (jn (qa (eV 1) (qa (eV 3) (qa (eV 5) (qa (eV 7) (qa (eV 8) (ka)))))))))))))))
def zaX : DF := xA 1 9 qaD
def yaJ : FS := vb (jw (gT 2 (qc 2 (qc 3 (wo)))) (kb FN.xj 3 (qa (eV 0) (qa (eV 1) (qa (eC (.int 1024)) (ka)))))) (vb (kh (tV (e2 yL (eV 2) (eC .none))) (yi 13 (eV 1)) (ki)) (vb (kh (tV (e2 wz (e2 wc (eV 3) (eV 2)) (eG kl (qa (eV 0) (ka))))) (yi 14 (eV 3)) (ki)) (vh (jn (qa (qB (eV 0) (zj (eV 3)) (zj (e2 wc (eV 3) (eV 2)))) (qa (e2 wc (eV 3) (eV 2)) (ka)))))))
def ja7 : DF := xA 2 4 yaJ
def wbO : FS := vb (jw (gT 3 (qc 1 (qc 2 (qc 3 (wo))))) (kb FN.qaX 1 (qa (eV 0) (ka)))) (vb (jw (gT 5 (qc 4 (qc 5 (qc 6 (qc 7 (qc 8 (wo))))))) (kb FN.zaX 1 (qa (eV 0) (ka)))) (vb (kh (wB (tV (e2 zJ (eV 8) (eG kl (qa (eV 0) (ka))))) (tV (e2 wz (e2 vi (eV 0) (eV 8)) (eC (.int 1))))) (yi 12 (eV 8)) (ki)) (vb (je 9 (e2 vi (eV 0) (eV 8))) (vb (jw (gT 2 (qc 10 (qc 11 (wo)))) (kb FN.ja7 2 (qa (eV 0) (qa (e2 wc (eV 8) (eC (.int 1))) (ka))))) (vb (kh (tV (e2 gNe (qB (eV 0) (zj (eV 11)) (wu)) (kb FN.kn 1 (qa (kb FN.qbW 1 (qa (qB (eV 0) (wu) (zj (eV 11))) (ka))) (ka))))) (yi 15 (eV 11)) (ki)) (vh (jn (qa (eV 1) (qa (eV 2) (qa (eV 3) (qa (eV 4) (qa (eV 5) (qa (eV 6) (qa (eV 7) (qa (eV 9) (qa (eV 10) (ka)))))))))))))))))
end
noncomputable section
def yas : FS := vb (jw (gT 9 (qc 1 (qc 2 (qc 3 (qc 4 (qc 5 (qc 6 (qc 7 (qc 8 (qc 9 (wo))))))))))) (eV 0)) (vb (je 10 (zw (qa (eV 1) (ka)))) (vb (kD (xY (zw (qa (eV 2) (qa (eV 3) (ka))))) (gN 11) (je 10 (e2 wc (eV 10) (yE [12] (zP 12) (yj (qa (eC (.int 4)) (ka))) (fun _ => some (.ok true)) (e2 qw (e2 xC (eV 11) (e2 jt (eC (.int 8)) (eV 12))) (eC (.int 255))))))) (vb (kD (xY (zw (qa (eV 4) (qa (eV 5) (qa (eV 6) (qa (eV 7) (ka))))))) (gN 13) (je 10 (e2 wc (eV 10) (kb FN.xZ 1 (qa (eV 13) (ka)))))) (vb (je 10 (e2 wc (e2 wc (e2 wc (eV 10) (zw (qa (eV 8) (ka)))) (kb FN.xZ 1 (qa (eG kl (qa (eV 9) (ka))) (ka)))) (eV 9))) (vh (e2 wc (eV 10) (yE [12] (zP 12) (yj (qa (eC (.int 4)) (ka))) (fun _ => some (.ok true)) (e2 qw (e2 xC (kb FN.zx 1 (qa (eV 10) (ka))) (e2 jt (eC (.int 8)) (eV 12))) (eC (.int 255))))))))))
def yZ : DF := xA 1 14 yas
def wK : FS := vb (je 3 (e2 wc (e2 wc (kb FN.kf 3 (qa (eV 0) (qa (eV 1) (qa (eC (.int 65536)) (ka))))) (e2 jt (eC (.int 65536)) (kb FN.kf 3 (qa (eV 0) (qa (e2 wc (eV 1) (eC (.int 1))) (qa (eC (.int 65536)) (ka))))))) (e2 jt (eC (.int 4294967296)) (kb FN.kf 3 (qa (eV 0) (qa (eV 1) (qa (eC (.int 256)) (ka)))))))) (vh (e2 xC (e2 qw (eV 3) (e2 gSub (e2 kag (eC (.int 1)) (eV 2)) (eC (.int 1)))) (e2 vi (zw (qa (eC (.int 0)) (qa (e2 gSub (eV 2) (eC (.int 7))) (qa (kb FN.kf 3 (qa (eV 0) (qa (e2 wc (eV 1) (eC (.int 1))) (qa (eV 2) (ka))))) (ka))))) (kb FN.kf 3 (qa (eV 0) (qa (eV 1) (qa (eC (.int 3)) (ka))))))))
def qG : DF := xA 3 4 wK
def vaJ : FS := vb (je 2 (kb FN.kf 3 (qa (eV 0) (qa (eV 1) (qa (eC (.int 5)) (ka)))))) (vb (je 3 (kb FN.qG 3 (qa (eV 0) (qa (e2 wc (eV 1) (eC (.int 1))) (qa (eC (.int 32)) (ka)))))) (vb (je 4 (kb FN.qG 3 (qa (eV 0) (qa (e2 wc (eV 1) (eC (.int 3))) (qa (eC (.int 32)) (ka)))))) (vb (je 5 (kb FN.kf 3 (qa (eV 0) (qa (e2 wc (eV 1) (eC (.int 5))) (qa (eC (.int 16)) (ka)))))) (vb (je 6 (kb FN.qG 3 (qa (eV 0) (qa (e2 wc (eV 1) (eC (.int 6))) (qa (eC (.int 24)) (ka)))))) (vb (je 7 (kb FN.qG 3 (qa (eV 0) (qa (e2 wc (eV 1) (eC (.int 8))) (qa (eC (.int 40)) (ka)))))) (vb (je 8 (kb FN.qG 3 (qa (eV 0) (qa (e2 wc (eV 1) (eC (.int 10))) (qa (eC (.int 24)) (ka)))))) (vb (je 9 (kb FN.kf 3 (qa (eV 0) (qa (e2 wc (eV 1) (eC (.int 12))) (qa (eC (.int 9)) (ka)))))) (vb (kh (tV (e2 qK (kb FN.kf 3 (qa (eV 0) (qa (e2 wc (eV 1) (eC (.int 12))) (qa (eC (.int 24)) (ka))))) (eC (.int 23)))) (je 9 (e2 wc (eC (.int 120)) (kb FN.kf 3 (qa (eV 0) (qa (e2 wc (eV 1) (eC (.int 13))) (qa (eC (.int 905)) (ka))))))) (ki)) (vb (je 10 (yE [11] (zP 11) (yj (qa (eV 9) (ka))) (fun _ => some (.ok true)) (e2 qw (eG jY (qa (e2 wc (kb FN.kf 3 (qa (eV 0) (qa (e2 wc (eV 1) (eC (.int 13))) (qa (eC (.int 65536)) (ka))))) (e2 jt (eV 11) (eV 11))) (ka))) (e2 vi (zw (qa (eC (.int 255)) (qa (eC (.int 1)) (qa (eC (.int 7)) (ka))))) (e2 qam (eG jY (qa (eV 11) (ka))) (eC (.int 3))))))) (vh (jn (qa (eV 2) (qa (eV 3) (qa (eV 4) (qa (eV 5) (qa (eV 6) (qa (eV 7) (qa (eV 8) (qa (kb FN.kf 3 (qa (eV 0) (qa (e2 wc (eV 1) (eC (.int 14))) (qa (eC (.int 2)) (ka))))) (qa (eV 10) (ka)))))))))))))))))))))
def xav : DF := xA 2 12 vaJ
def jx : FS := vb (je 1 (kb FN.yZ 1 (qa (kb FN.xav 2 (qa (eV 0) (qa (eC (.int 0)) (ka)))) (ka)))) (vb (je 2 (kb FN.kf 3 (qa (eV 0) (qa (eC (.int 20)) (qa (eC (.int 8)) (ka)))))) (vb (je 3 (kb FN.kf 3 (qa (eV 0) (qa (eC (.int 21)) (qa (eG kl (qa (eV 1) (ka))) (ka)))))) (vb (je 4 (kb FN.kf 3 (qa (eV 0) (qa (eC (.int 22)) (qa (eC (.int 256)) (ka)))))) (vb (kh (tV (e2 qK (eV 2) (eC (.int 0)))) (vh (qB (eV 1) (wu) (zj (eV 3)))) (ki)) (vb (kh (tV (e2 qK (eV 2) (eC (.int 1)))) (vh (e2 wc (e2 wc (qB (eV 1) (wu) (zj (eV 3))) (zw (qa (eV 4) (ka)))) (qB (eV 1) (zj (e2 wc (eV 3) (eC (.int 1)))) (wu)))) (ki)) (vb (kh (tV (e2 qK (eV 2) (eC (.int 2)))) (vh (e2 wc (qB (eV 1) (wu) (zj (eV 3))) (qB (eV 1) (zj (e2 wc (eV 3) (eC (.int 1)))) (wu)))) (ki)) (vb (kh (tV (e2 qK (eV 2) (eC (.int 3)))) (vh (e2 wc (e2 wc (qB (eV 1) (wu) (zj (eV 3))) (zw (qa (eV 4) (ka)))) (qB (eV 1) (zj (eV 3)) (wu)))) (ki)) (vb (kh (tV (e2 qK (eV 2) (eC (.int 4)))) (vh (e2 wc (eV 1) (zw (qa (eV 4) (ka))))) (ki)) (vb (kh (tV (e2 qK (eV 2) (eC (.int 5)))) (vb (je 1 (qB (eV 1) (wu) (zj (e1 kbk (eC (.int 4)))))) (vb (je 3 (eG xcf (qa (eV 3) (qa (e2 gSub (eG kl (qa (eV 1) (ka))) (eC (.int 1))) (ka))))) (vb (je 1 (e2 wc (e2 wc (qB (eV 1) (wu) (zj (eV 3))) (zw (qa (e2 vi (zw (qa (eV 4) (qa (eC (.int 255)) (qa (eC (.int 128)) (qa (e2 qw (eV 4) (eC (.int 7))) (ka)))))) (kb FN.kf 3 (qa (eV 0) (qa (eC (.int 23)) (qa (eC (.int 4)) (ka)))))) (ka)))) (qB (eV 1) (zj (e2 wc (eV 3) (kb FN.kf 3 (qa (eV 0) (qa (eC (.int 24)) (qa (eC (.int 2)) (ka))))))) (wu)))) (vh (e2 wc (eV 1) (yE [5] (zP 5) (yj (qa (eC (.int 4)) (ka))) (fun _ => some (.ok true)) (e2 qw (e2 xC (kb FN.zx 1 (qa (eV 1) (ka))) (e2 jt (eC (.int 8)) (eV 5))) (eC (.int 255))))))))) (ki)) (vb (kh (tV (e2 qK (eV 2) (eC (.int 6)))) (vb (je 6 (e2 wc (zw (qa (kb FN.kf 3 (qa (eV 0) (qa (eC (.int 25)) (qa (eC (.int 6)) (ka))))) (ka))) (yE [5] (zP 5) (yj (qa (eC (.int 8)) (ka))) (fun _ => some (.ok true)) (kb FN.kf 3 (qa (eV 0) (qa (e2 wc (eC (.int 26)) (eV 5)) (qa (eC (.int 256)) (ka)))))))) (vb (je 1 (e2 wc (eV 6) (yE [5] (zP 5) (yj (qa (eC (.int 14)) (ka))) (fun _ => some (.ok true)) (e2 vi (zw (qa (kb FN.kf 3 (qa (eV 0) (qa (e2 wc (eC (.int 34)) (eV 5)) (qa (eC (.int 17)) (ka))))) (qa (eC (.int 128)) (qa (eC (.int 255)) (ka))))) (kb FN.kf 3 (qa (eV 0) (qa (e2 wc (eC (.int 48)) (eV 5)) (qa (eC (.int 3)) (ka))))))))) (vh (e2 wc (eV 1) (yE [5] (zP 5) (yj (qa (eC (.int 4)) (ka))) (fun _ => some (.ok true)) (e2 qw (e2 xC (kb FN.zx 1 (qa (eV 1) (ka))) (e2 jt (eC (.int 8)) (eV 5))) (eC (.int 255)))))))) (ki)) (vh (eV 1))))))))))))
def kq : DF := xA 1 7 jx
def vZ : Nat → Addr → Addr → FS := fun xc xa xd => vb (je 1 (zw (qa (waz 0 xa xd (mxL [(1, false), (2, false), (3, false), (5, true), (6, false), (7, false), (8, false), (9, false), (10, false), (11, false), (12, false), (13, false), (14, false), (15, false)] xc)) (qa (waz 0 xa xd (mxL [(1, false), (2, false), (3, false), (5, false), (6, true), (7, false), (8, false), (9, false), (10, false), (11, false), (12, false), (13, false), (14, false), (15, false)] xc)) (qa (waz 0 xa xd (mxL [(1, false), (2, false), (3, false), (5, false), (6, false), (7, true), (8, false), (9, false), (10, false), (11, false), (12, false), (13, false), (14, false), (15, false)] xc)) (qa (waz 0 xa xd (mxL [(1, false), (2, false), (3, false), (5, false), (6, false), (7, false), (8, true), (9, false), (10, false), (11, false), (12, false), (13, false), (14, false), (15, false)] xc)) (ka))))))) (vb (je 1 (e2 wc (eV 1) (zw (qa (waz 0 xa xd (mxL [(1, false), (2, false), (3, false), (5, false), (6, false), (7, false), (8, false), (9, true), (10, false), (11, false), (12, false), (13, false), (14, false), (15, false)] xc)) (qa (waz 0 xa xd (mxL [(1, false), (2, false), (3, false), (5, false), (6, false), (7, false), (8, false), (9, false), (10, true), (11, false), (12, false), (13, false), (14, false), (15, false)] xc)) (qa (waz 0 xa xd (mxL [(1, false), (2, false), (3, false), (5, false), (6, false), (7, false), (8, false), (9, false), (10, false), (11, true), (12, false), (13, false), (14, false), (15, false)] xc)) (qa (waz 0 xa xd (mxL [(1, false), (2, false), (3, false), (5, false), (6, false), (7, false), (8, false), (9, false), (10, false), (11, false), (12, true), (13, false), (14, false), (15, false)] xc)) (ka)))))))) (vb (je 1 (e2 wc (eV 1) (zw (qa (waz 0 xa xd (mxL [(1, false), (2, false), (3, false), (5, false), (6, false), (7, false), (8, false), (9, false), (10, false), (11, false), (12, false), (13, true), (14, false), (15, false)] xc)) (qa (waz 0 xa xd (mxL [(1, false), (2, false), (3, false), (5, false), (6, false), (7, false), (8, false), (9, false), (10, false), (11, false), (12, false), (13, false), (14, true), (15, false)] xc)) (qa (waz 0 xa xd (mxL [(1, false), (2, false), (3, false), (5, false), (6, false), (7, false), (8, false), (9, false), (10, false), (11, false), (12, false), (13, false), (14, false), (15, true)] xc)) (ka))))))) (vb (je 2 (zw (qa (eC (.str "kind")) (qa (eC (.str "stamp")) (qa (eC (.str "number")) (qa (eC (.str "track")) (qa (eC (.str "ordinal")) (qa (eC (.str "time")) (qa (eC (.str "span")) (qa (eC (.str "key")) (qa (eC (.str "size")) (qa (eC (.str "body")) (qa (eC (.str "check")) (ka)))))))))))))) (vh (yE [3] (zP 3) (yj (qa (eC (.int 11)) (ka))) (tV (e2 vi (eV 1) (eV 3))) (e2 vi (eV 2) (eV 3)))))))
def vam : DFE := mkE 4 vZ
def zaA : FS := vb (je 3 (eC (.int 0))) (vb (kD (yj (qa (eC (.int 6)) (ka))) (gN 4) (kh (tV (e2 vT (e2 wc (eV 1) (eV 4)) (eG kl (qa (eV 0) (ka))))) (vb (je 3 (e2 wc (eV 3) (e2 kag (e2 qw (e2 vi (eV 0) (e2 wc (eV 1) (eV 4))) (eC (.int 127))) (e2 jt (eC (.int 7)) (eV 4))))) (kh (tV (e2 vT (e2 vi (eV 0) (e2 wc (eV 1) (eV 4))) (eC (.int 128)))) (vb (kh (wB (tV (e2 zJ (eV 3) (eV 2))) (waS (tV (e2 wz (eV 4) (eC (.int 0)))) (tV (e2 qK (e2 vi (eV 0) (e2 wc (eV 1) (eV 4))) (eC (.int 0)))))) (vh (eC .none)) (ki)) (vh (jn (qa (eV 3) (qa (e2 wc (e2 wc (eV 1) (eV 4)) (eC (.int 1))) (ka)))))) (ki))) (ki))) (vh (eC .none)))
def yA : DF := xA 3 5 zaA
def ybf : FS := vb (kh (wB (tV (e2 qK (eV 0) (zw (ka)))) (tV (e2 wz (e2 vi (eV 0) (eC (.int 0))) (eC (.int 4))))) (vh (jn (qa (eC (.str "kind")) (qa (eC (.int 0)) (ka))))) (ki)) (vb (kh (tV (e2 vT (eG kl (qa (eV 0) (ka))) (eC (.int 5)))) (vh (jn (qa (eC (.str "stamp")) (qa (eC (.int 1)) (ka))))) (ki)) (vb (kh (tV (e2 vT (eG kl (qa (eV 0) (ka))) (eC (.int 9)))) (vh (jn (qa (eC (.str "number")) (qa (eC (.int 5)) (ka))))) (ki)) (vb (jaJ 1 (e2 wc (zw (qa (e2 vi (eV 0) (eC (.int 0))) (ka))) (yE [3] (zP 3) (yj (qa (eC (.int 2)) (ka))) (fun _ => some (.ok true)) (eG xbQ (qa (yE [2] (zP 2) (yj (qa (eC (.int 4)) (ka))) (fun _ => some (.ok true)) (e2 kag (e2 vi (eV 0) (e2 wc (e2 wc (eC (.int 1)) (e2 jt (eC (.int 4)) (eV 3))) (eV 2))) (e2 jt (eC (.int 8)) (eV 2)))) (ka)))))) (vb (je 4 (eC (.int 9))) (vb (je 5 (zw (qa (jn (qa (eC (.str "track")) (qa (eC (.int 16)) (ka)))) (qa (jn (qa (eC (.str "ordinal")) (qa (eC (.int 16777216)) (ka)))) (qa (jn (qa (eC (.str "time")) (qa (eC (.int 1099511627776)) (ka)))) (qa (jn (qa (eC (.str "span")) (qa (eC (.int 16777216)) (ka)))) (ka))))))) (vb (kD (xY (eV 5)) (gT 2 (qc 6 (qc 7 (wo)))) (vb (je 8 (kb FN.yA 3 (qa (eV 0) (qa (eV 4) (qa (eV 7) (ka)))))) (vb (kh (tV (e2 yL (eV 8) (eC .none))) (vh (jn (qa (eV 6) (qa (eV 4) (ka))))) (ki)) (vb (qM 1 (e2 vi (eV 8) (eC (.int 0)))) (je 4 (e2 vi (eV 8) (eC (.int 1)))))))) (vb (kh (wB (tV (e2 zJ (eV 4) (eG kl (qa (eV 0) (ka))))) (tV (e2 wz (e2 vi (eV 0) (eV 4)) (eC (.int 1))))) (vh (jn (qa (eC (.str "key")) (qa (eV 4) (ka))))) (ki)) (vb (je 8 (kb FN.yA 3 (qa (eV 0) (qa (e2 wc (eV 4) (eC (.int 1))) (qa (eC (.int 1025)) (ka)))))) (vb (kh (tV (e2 yL (eV 8) (eC .none))) (vh (jn (qa (eC (.str "size")) (qa (e2 wc (eV 4) (eC (.int 1))) (ka))))) (ki)) (vb (je 9 (e2 wc (e2 vi (eV 8) (eC (.int 1))) (e2 vi (eV 8) (eC (.int 0))))) (vb (kh (tV (e2 wz (eV 9) (eG kl (qa (eV 0) (ka))))) (vh (jn (qa (eC (.str "body")) (qa (e2 vi (eV 8) (eC (.int 1))) (ka))))) (ki)) (vb (kh (wB (tV (e2 gNe (eG kl (qa (eV 0) (ka))) (e2 wc (eV 9) (eC (.int 4))))) (tV (e2 gNe (eG xbQ (qa (yE [2] (zP 2) (yj (qa (eC (.int 4)) (ka))) (fun _ => some (.ok true)) (e2 kag (e2 vi (eV 0) (e2 wc (eV 9) (eV 2))) (e2 jt (eC (.int 8)) (eV 2)))) (ka))) (kb FN.zx 1 (qa (qB (eV 0) (wu) (zj (eV 9))) (ka)))))) (vh (jn (qa (eC (.str "check")) (qa (eV 9) (ka))))) (ki)) (vh (eG jbT (qa (e2 wc (eV 1) (zw (qa (e2 vi (eV 0) (eV 4)) (qa (qB (eV 0) (zj (e2 vi (eV 8) (eC (.int 1)))) (zj (eV 9))) (ka))))) (ka))))))))))))))))
def zas : DF := xA 1 10 ybf
end
end FN
namespace DL
open PySem PySem.Spec PyProof.Rows L2
section
variable {X : Cx} {Cl : Nat → Addr} {W : WX} {K : PySem.W.Frag} {pos : Pos} {e : Expr} {es : List Expr} {g : FA}
end
section
variable {X : Cx} {Cl : Nat → Addr} {W : WX} {K : PySem.W.Frag} {pos : Pos} {a b : Expr} {fa fb : FE}
@[simp] def jdC (a b : Val) : Option Val := match a, b with
  | .s (.tuple xs), .s (.tuple ys) => if (!xs.isEmpty && !ys.isEmpty && zz (xs.length + ys.length)) = true then some (.s (.tuple (xs ++ ys))) else none
  | _, _ => none
@[simp] def weg (a b : Val) : Option Val := (wc a b).or (jdC a b)
end
section
variable {X : Cx} {Cl : Nat → Addr} {W : WX} {K : PySem.W.Frag} {pos : Pos} {a b c : Expr} {fa fb fc : FE}
end
section
variable {X : Cx} {Cl : Nat → Addr} {W : WX} {K : PySem.W.Frag} {pos apos : Pos} {o e : Expr} {fo fe : FE}
@[simp] def wei : List Val → Option Val
  | [v] => match v.d with
    | .str x => if x.length = 1 then some (.s (.int (x.cps.getD 0 0 : Nat))) else none
    | _ => none
  | _ => none
end
section
variable {K : PySem.W.Frag} {Cl : Nat → Addr}
@[simp] def vei (a b : Val) : Option Val := match a.d, b.d with
  | .bool x, .bool y => some (.s (.bool (decide (x = y))))
  | _, _ => none
@[simp] def xeg (a b : Val) : Option Val := match a.d, b.d with
  | .bool x, .bool y => some (.s (.bool (!decide (x = y))))
  | _, _ => none
end
section
variable {X : Cx} {Cl : Nat → Addr} {W : WX} {e tg : Expr} {es : List Expr} {f : FE} {g : FA} {p pos : Pos} {K : PySem.W.Frag}
def vdC (lo : Int) (n : Nat) : List D := (List.range n).map fun (i : Nat) => .int (lo - (i : Int))
@[simp] def kd0 (g : FA) (ρ : xb) : Option (Except Er (List D)) := match g ρ with
  | none => none
  | some (.error e) => some (.error e)
  | some (.ok vs) => match vs with
    | [v, u, w] => match v.d, u.d, w.d with
      | .int i, .int j, .int k => if (vaz i && (vaz j && k == -1)) = true then some (.ok (vdC i (i - j).toNat)) else none
      | _, _, _ => none
    | _ => none
def kdq (ds es : List D) : List D := (ds.zip es).map fun p => .tuple [p.1, p.2]
@[simp] def jbL : Val → Option (List D)
  | .s (.list ds) => some ds
  | .f ds => some ds
  | _ => none
theorem vA.lst {Z : Addr → Prop} {σ : St} {ρ : xb} {H H1 : Hp} {x : V} {v : Val} {ds : List D} (I : DI K Cl Z H σ ρ) (h : vA K Z σ ρ H H1 x v) (e : jbL v = some ds) : ∃ a xs, x = .ref a ∧ Rd (hide H1 (Zo Z σ ρ)) a (.lst xs) ∧ DpAll K (hide H1 (Zo Z σ ρ)) xs ds := by
  unfold jbL at e
  split at e
  · cases e
    obtain ⟨a, xs, rfl, h1, h2⟩ := Dp.lst_inv (show Dp K (hide H1 (Zo Z σ ρ)) x (.list ds) from h)
    exact ⟨a, xs, rfl, h1, h2⟩
  · cases e
    obtain ⟨a, xs, rfl, n, h1, h2⟩ := h
    have np : ¬ Zo Z σ ρ a := fun z => I.qal z n
    have sm : vc (hide H1 (ZP (Zo Z σ ρ) a)) (hide H1 (Zo Z σ ρ)) := qe (vc.refl _) fun _ h => .inl (.inl h)
    exact ⟨a, xs, rfl, Rd.of (xg np h1), DpAll.same sm h2⟩
  · cases e
@[simp] def keg (g : FA) (ρ : xb) : Option (Except Er (List D)) := match g ρ with
  | none => none
  | some (.error e) => some (.error e)
  | some (.ok vs) => match vs with
    | [v, u] => match jbL v, jbL u with
      | some ds, some es => some (.ok (kdq ds es))
      | _, _ => none
    | _ => none
@[simp] def yei (a b : Val) : Option Val := match b.d with
  | .list ds => if (SeqAt.shaped a.d && SeqAt.shaped (.list ds)) = true then some (.s (.bool (ds.any fun z => PyData.eqv z a.d))) else none
  | _ => none
@[simp] def qd1 (a b : Val) : Option Val := match b.d with
  | .list ds => if (SeqAt.shaped a.d && SeqAt.shaped (.list ds)) = true then some (.s (.bool (!ds.any fun z => PyData.eqv z a.d))) else none
  | _ => none
end
end DL
namespace FN
open PySem PySem.Spec PyProof.Rows L2 DL
noncomputable section
end
noncomputable section
def qay : FS := vb (je 2 (e2 qah (eV 0) (eC (.int 4294967295)))) (vb (kD (xY (eV 1)) (gN 3) (vb (je 2 (e2 qah (eV 2) (eV 3))) (vb (je 2 (e2 qah (e2 xC (eV 2) (eC (.int 4))) (e2 vi (eC wam) (e2 qw (eV 2) (eC (.int 15)))))) (je 2 (e2 qah (e2 xC (eV 2) (eC (.int 4))) (e2 vi (eC wam) (e2 qw (eV 2) (eC (.int 15))))))))) (vh (e2 qah (eV 2) (eC (.int 4294967295)))))
def kax : DF := xA 2 4 qay
def kbv : FS := vh (kb FN.kax 2 (qa (eC (.int 0)) (qa (eV 0) (ka))))
def yD : DF := xA 1 1 kbv
def xa5 : FS := vb (kbT (kb FN.kZ 1 (qa (eV 0) (ka)))) (vb (jw (gT 9 (qc 1 (qc 2 (qc 3 (qc 4 (qc 5 (qc 6 (qc 7 (qc 8 (qc 9 (wo))))))))))) (eV 0)) (vb (jaJ 10 (e2 wc (e2 wc (zw (qa (eV 1) (ka))) (kb FN.kn 1 (qa (eV 2) (ka)))) (kb FN.kn 1 (qa (eV 3) (ka))))) (vb (kD (xY (jn (qa (eV 4) (qa (eV 5) (qa (eV 6) (qa (eV 7) (ka))))))) (gN 11) (zaH 10 (kb FN.xF 1 (qa (eV 11) (ka))))) (vb (qM 10 (eV 8)) (vb (zaH 10 (kb FN.xF 1 (qa (eG kl (qa (eV 9) (ka))) (ka)))) (vb (zaH 10 (eV 9)) (vh (e2 wc (eV 10) (kb FN.kn 1 (qa (kb FN.yD 1 (qa (eV 10) (ka))) (ka)))))))))))
def wal : DF := xA 1 12 xa5
def yb1 : FS := vb (jw (gT 3 (qc 1 (qc 2 (qc 3 (wo))))) (kb FN.qaX 1 (qa (eV 0) (ka)))) (vb (jw (gT 5 (qc 4 (qc 5 (qc 6 (qc 7 (qc 8 (wo))))))) (kb FN.zaX 1 (qa (eV 0) (ka)))) (vb (kh (wB (tV (e2 zJ (eV 8) (eG kl (qa (eV 0) (ka))))) (tV (e2 wz (e2 vi (eV 0) (eV 8)) (eC (.int 1))))) (yi 12 (eV 8)) (ki)) (vb (je 9 (e2 vi (eV 0) (eV 8))) (vb (jw (gT 2 (qc 10 (qc 11 (wo)))) (kb FN.ja7 2 (qa (eV 0) (qa (e2 wc (eV 8) (eC (.int 1))) (ka))))) (vb (kh (tV (e2 gNe (qB (eV 0) (zj (eV 11)) (wu)) (kb FN.kn 1 (qa (kb FN.yD 1 (qa (qB (eV 0) (wu) (zj (eV 11))) (ka))) (ka))))) (yi 15 (eV 11)) (ki)) (vh (jn (qa (eV 1) (qa (eV 2) (qa (eV 3) (qa (eV 4) (qa (eV 5) (qa (eV 6) (qa (eV 7) (qa (eV 9) (qa (eV 10) (ka)))))))))))))))))
def xb1 : DF := xA 1 12 yb1
end
end FN
namespace DL
open PySem PySem.Spec PyProof.Rows L2
section
variable {X : Cx} {Cl : Nat → Addr} {W : WX} {K : PySem.W.Frag}
structure jd2 (ds : List D) : Prop where
  al : PySem.W.AllAlike ds
  so : PySem.W.Sortable ds
  dp : ∀ d ∈ ds, PyData.depth d ≤ 50
  ln : ds.length ≤ 16777216
  ly : PyData.canLayAll0 ds = true
theorem DpAll.zip : ∀ {H : Hp} {xs : List V} {ds : List D}, DpAll K H xs ds → ∀ x d, (x, d) ∈ xs.zip ds → Dp K H x d
  | _, _, _, .nil, x, d, h => nomatch h
  | _, _, _, .cons h t, x, d, hm => by
    rcases List.mem_cons.mp hm with e | hm
    · cases e
      exact h
    · exact t.zip x d hm
end
section
variable {P : Program} {w : World} {K : PySem.W.Frag} {Cl : Nat → Addr} {mg : Str → Option Value} {base : Heap}
def FnG (P : Program) (w : World) (K : PySem.W.Frag) (mg : Str → Option Value) (base : Heap) (CX : CXT) (k : Nat) (f : Addr) (fd : FuncData) (ps : List Str) (sp : Sp) : Prop :=
  ∀ (A : Around) (o : List Env) (s : Shared) (H : Hp) (ar : Args) (us : List Value) (vs : List V) (Q : VK) (E : XK), Room k A → A.guards = some [] → Env0 P w K mg base A o s H →
    BindsTo s fd ar (ps.zip us) → Vals vs us → sp vs H Q E → codeAny (model P w) A (.call (.ref f) ar) (CR CX o P w H s Q E) s
end
structure wd2 (d : D) : Prop where
  ly : PyData.canLay0 d = true
  sh : PyData.showable d = true
  ln : (PyData.shown d).length ≤ 16777216
  dp : PyData.depth d ≤ 50
section
variable {X : Cx} {K : PySem.W.Frag} {Cl : Nat → Addr}
@[simp] def xei : D → Bool
  | .list _ => true
  | .tuple _ => true
  | _ => false
end
section
variable {P : Program} {w : World} {K : PySem.W.Frag} {Cl : Nat → Addr} {mg : Str → Option Value} {base : Heap} 
theorem FnG.imp {CX : CXT} {k : Nat} {f : Addr} {fd : FuncData} {ps : List Str} {sp sp' : Sp} (F : FnG P w K mg base CX k f fd ps sp) (h : ∀ vs H Q E, sp' vs H Q E → sp vs H Q E) : FnG P w K mg base CX k f fd ps sp' :=
  fun A o s H ar us vs Q E r g e b v p => F A o s H ar us vs Q E r g e b v (h _ _ _ _ p)
theorem xcT {X : Cx} {N : List Str} {n m : Nat} {fb : FS} {bd : List Stmt} {vs : List V} {H : Hp} {Q : VK} {E : XK} (eK : X.K = K) (hm : N.length = m) (h : DSs X Cl (fun cls d _ H' => E cls d H') bd fb) (sp : vB K Cl n (xA n m fb) vs H Q E) :
    ∃ t, PSs X bd t ∧ t { nx := fun _ H' => Q .non H', rt := Q } (L2.start N vs) H := by
  subst eK
  refine ⟨_, h, ?_⟩
  obtain ⟨Z, ds, o, live, h1, h2, e, q⟩ := sp
  unfold xA at e
  have hst : L2.start N vs = vs.map some ++ List.replicate (m - n) none := by
    unfold L2.start
    rw [hm, h1.length, h2]
  rw [hst]
  cases eb : fb (ds.map .dat ++ List.replicate (m - n) .un) with
  | none => rw [eb] at e; cases e
  | some ob =>
    rw [eb] at e
    have I := DI.start (m := m - n) live h1
    have noO : ∀ a, xo (vs.map some ++ List.replicate (m - n) none) (ds.map .dat ++ List.replicate (m - n) .un) a → H a = none := fun a ⟨i, ho⟩ => (wcf ho).elim
    refine ⟨H, Z, _, ob, ⟨I, Same.refl _, noO⟩, eb, ?_⟩
    cases ob with
    | nx ρ => cases e; exact fun σ' H' I' => q .non H' I'.same .non
    | ret d => cases e; exact q
    | retF es => cases e; exact q
    | retX ds k => cases e; exact q
    | exc ρ c i => cases e; exact fun dd σ' H' I' hd => q dd H' I'.same hd
    | brk ρ => cases e
    | ct ρ => cases e
end
section
variable {X : Cx} {Cl : Nat → Addr} {W : WX} {K : PySem.W.Frag} {a b e : Expr} {fa fb f : FE} {pos : Pos}
@[simp] def qeh (i : Nat) (f : FE) (ρ : xb) : Option Out := match ρ[i]? with
  | some (.dat (.str a)) => sE f (fun v ρ => match v.d with
    | .str b => if zz (a.length + b.length) = true then some (.nx (ρ.set i (.dat (.str (a ++ b))))) else none
    | _ => none) ρ
  | _ => none
end
section
variable {X : Cx} {Cl : Nat → Addr} {W : WX} {K : PySem.W.Frag}
@[simp] def kei (i : Nat) (vs : List Nat) (st : xb → D → Option xb) (tt : FT) (fe : FE) (ρ : xb) : Option (Except Er Val) := if noOwn ρ vs = true then match ρ[i]? with
  | some (.own ds) => match lcL tt fe (st (wq ρ vs)) ds with
    | some es => if zz es.length = true then some (.ok (.f es)) else none
    | none => none
  | _ => none else none
variable {elt tg iter : Expr} {ifs : List Expr} {scope : Scope} {own : List (Str × Nat)} {pos : Pos} {g : TG} {tt : FT} {fe : FE} {vs : List Nat} {st : xb → D → Option xb} {i0 : Nat}
end
section
variable {X : Cx} {K : PySem.W.Frag} {Cl : Nat → Addr}
@[simp] def qej (a b : Val) : Option Val := match a.d, b.d with
  | .str i, .str j => some (.s (.bool (decide (i = j))))
  | _, _ => none
@[simp] def zej (a b : Val) : Option Val := match a.d, b.d with
  | .str i, .str j => some (.s (.bool (!decide (i = j))))
  | _, _ => none
end
section
variable {X : Cx} {K : PySem.W.Frag} {Cl : Nat → Addr}
end
def wcD (k : Int) (a e it : Addr) (i : Nat) (h : Heap) : Prop := (∃ old, IsEnum h e it (k + (i : Int)) old) ∧ h.IsListIter it a i ∧ e ≠ it
theorem wcD.cell {k : Int} {a e it : Addr} {i : Nat} {h : Heap} (c : wcD k a e it i h) {b : Addr} (m : b = e ∨ b = it) : ∃ o, h.get? b = some o ∧ ∀ v, o.data ≠ .cell v := by
  obtain ⟨⟨old, q⟩, ⟨o, q1, q2, q3⟩, _⟩ := c
  rcases m with rfl | rfl
  · exact ⟨_, q, fun v z => nomatch z⟩
  · exact ⟨o, q1, fun v z => by rw [q3] at z; cases z⟩
section
variable {M : Model} {A : Around} {E : Value → Shared → Prop} {s : Shared} {env : Env}
end
def ydH (k : Int) (ds : List D) : List D := ds.zipIdx.map fun p => .tuple [.int (k + (p.2 : Int)), p.1]
section
variable {X : Cx} {Cl : Nat → Addr} {W : WX} {e : Expr} {p pos : Pos} {g : FA}
@[simp] def vd2 (k : Int) (g : FA) (ρ : xb) : Option (Except Er (List D)) := match g ρ with
  | some (.ok vs) => match vs with
    | [.s (.list ds)] => some (.ok (ydH k ds))
    | _ => none
  | _ => none
end
section
variable {X : Cx} {Cl : Nat → Addr} {W : WX} {K : PySem.W.Frag} {pos : Pos}
def kdr (y x : Str) : Bool := !(Builtin.Str.occurrences y x 0 y.length 1).isEmpty
@[simp] def jej (a b : Val) : Option Val := match a.d, b.d with
  | .str i, .str j => some (.s (.bool (kdr j i)))
  | _, _ => none
@[simp] def zd1 (a b : Val) : Option Val := match a.d, b.d with
  | .str i, .str j => some (.s (.bool (!kdr j i)))
  | _, _ => none
end
end DL
namespace DL
open PySem PySem.Spec PyProof.Rows L2
section
variable {X : Cx} {Cl : Nat → Addr} {W : WX} {K : PySem.W.Frag} {e : Expr} {es : List Expr} {f : FE} {pos p : Pos} {ta : TA}
def excOf : D → Option (Addr × Int)
  | .dict [(.str _, .int i), (.int (.ofNat C), .none)] => some (C, i)
  | _ => none
@[simp] theorem zdF (C : Addr) (i : Int) : excOf (wdH C i) = some (C, i) := rfl
end
end DL
namespace DL
open PySem PySem.Spec PyProof.Rows L2
end DL
namespace DL
open PySem PySem.Spec PyProof.Rows L2
mutual
def wbT : D → Bool
  | .none => true | .bool _ => true | .int _ => true | .str _ => true
  | .tuple ds => wbe ds
  | _ => false
def wbe : List D → Bool
  | [] => true
  | d :: ds => wbT d && wbe ds
end
section
variable {K : PySem.W.Frag} {Cl : Nat → Addr} {Z : Addr → Prop} {H : Hp} {p : Addr} {ys : List V}
theorem xc8 {b : Addr} {o : HO} (hp : H p = some (.lst ys)) (e : hide H Z b = some o) (n : o ≠ .lst ys) : hide H (ZP Z p) b = some o := by
  obtain ⟨h1, h2⟩ := wm e
  refine xg (fun z => ?_) h2
  rcases z with z | z
  · exact h1 z
  · rw [z, hp] at h2
    exact n (Option.some.inj h2).symm
mutual
theorem Dp.free (hp : H p = some (.lst ys)) : ∀ {v : V} {d : D}, wbT d = true → Dp K (hide H Z) v d → Dp K (hide H (ZP Z p)) v d
  | _, _, _, .non => .non
  | _, _, _, .bl b => .bl b
  | _, _, _, .int i => .int i
  | _, _, _, .str x => .str x
  | _, _, c, .lst h t => nomatch c
  | _, _, c, .tup h t => by
    refine .tup ?_ (DpAll.free hp c t)
    rcases h with (h | ⟨o, h⟩) | h
    · exact .inl (.inl (xc8 hp h fun z => by cases z))
    · exact .inl (.inr ⟨o, xc8 hp h fun z => by cases z⟩)
    · exact .inr h
  | _, _, c, .scr h => nomatch c
  | _, _, c, .exc _ _ => nomatch c
theorem DpAll.free (hp : H p = some (.lst ys)) : ∀ {vs : List V} {ds : List D}, wbe ds = true → DpAll K (hide H Z) vs ds → DpAll K (hide H (ZP Z p)) vs ds
  | _, _, _, .nil => .nil
  | _, _, c, .cons h t => by
    have c' : (wbT _ && wbe _) = true := c
    rw [Bool.and_eq_true] at c'
    exact .cons (Dp.free hp c'.1 h) (DpAll.free hp c'.2 t)
end
end
section
variable {K : PySem.W.Frag} {Cl : Nat → Addr}  {W : WX} {H0 H1 : Hp} {Z : Addr → Prop} {H H' : Hp} {σ : St} {ρ : xb} {D : Ends}
end
section
variable {X : Cx} {Cl : Nat → Addr} {W : WX} {K : PySem.W.Frag}  {pos : Pos} {e : Expr} {es : List Expr} {g : FA}
end
def qds : List Int → Int
  | [] => 0
  | n :: ns => ns.foldl (fun a y => if a < y then y else a) n
@[simp] def weh : List Val → Option Val
  | [v] => match v.d with
    | .list ds => match xaB ds with
      | some ns => if ns.length = 0 then none else some (.s (.int (qds ns)))
      | none => none
    | _ => none
  | _ => none
section
variable {X : Cx} {Cl : Nat → Addr} {W : WX} {K : PySem.W.Frag} {e : Expr} {f : FE}
theorem Room.u2 {k : Nat} {A : Around} (r : Room k A) : A.units + 2 < cLine := by have := r.un; omega
@[simp] def kd2 (d : Int) (v : Val) : Option Val := match v.d with
  | .list ds => match xaB ds with
    | some ns => some (.s (.int (if ns = [] then d else qds ns)))
    | none => none
  | _ => none
end
section
variable {X : Cx} {K : PySem.W.Frag}
end
section
variable {P : Program} {w : World} {A : Around} {E : Value → Shared → Prop} {env : Env}
end
structure veh (x : Str) (e : Expr) (k : D → Option D) : Prop where
  run : ∀ {P : Program} {w : World} {A : Around} {E : Value → Shared → Prop} {env : Env} {s : Shared} {m : Str → Option Value} {u : Value} {d kd : D} {as : List Addr} {Q : Value → Shared → Prop}, env.scope.kind = .function → env.kindOf x = some .local → s.heap.Ns env.locals m → m x = some u → Reads s.heap u d as → k d = some kd →
    (∀ v h' tk, (∀ b o, s.heap.get? b = some o → h'.get? b = some o) → Reads h' v kd [] → Q v { s with heap := h', toks := tk }) → wpAny (model P w) A (eval e env) Q E s
def kI (i : Nat) : D → Option D
  | .tuple ds => match ds[i]? with
    | some d => if yu d = true then some d else none
    | none => none
  | _ => none
structure wej (scope : Scope) (x : Str) : Prop where
  kind : scope.kind = .function
  co : scope.isCoroutine = false
  gen : scope.isGenerator = false
  cell : ∀ y ∈ scope.names, y.2 ≠ .cell
  loc : scope.names.lookup x = some .local
  free : ∀ y ∈ scope.names, y.2 ≠ .free
section
variable {P : Program} {w : World} {A : Around}
end
structure kc8 (P : Addr) (q : Str) (H H1 : Hp) : Prop where
  old : ∀ b o, H b = some o → b ≠ P → H1 b = some o
  tab : LamX.TabS H1 P q
  nf : ∀ b o xs, H1 b = some (.frz o (.lst xs)) → H b = some (.frz o (.lst xs))
  was : ∃ ps, H P = some (.tbl ps)
theorem kc8.same {Cl : Nat → Addr} {P : Addr} {q : Str} {H H1 : Hp} (t : kc8 P q H H1) (hu : ∀ p ∈ LQ, Cl p.1 = P → p.2 = q) : Same Cl H H1 := by
  obtain ⟨ps, hP⟩ := t.was
  have nP : ∀ {b : Addr} {o : HO}, H b = some o → (∀ ps, o ≠ .tbl ps) → b ≠ P := fun {b o} e n z => by
    rw [z, hP] at e
    exact n ps (Option.some.inj e).symm
  refine ⟨fun b o e n => t.old b o e (nP e fun ps z => by rw [z] at n; cases n), fun T p hp n => ?_, fun b e => ?_, t.nf⟩
  · by_cases hb : Cl p.1 = P
    · rw [hu p hp hb, hb]
      exact t.tab
    · obtain ⟨ps', h1, h2, h3⟩ := T p hp n
      refine ⟨ps', t.old _ _ h1 hb, h2, fun pos cv hc => ?_⟩
      obtain ⟨c, e1, e2⟩ := h3 pos cv hc
      exact ⟨c, e1, t.old _ _ e2 (nP e2 fun ps => LamX.codeO_ne ps)⟩
  · by_cases hb : b = P
    · obtain ⟨ps', h1, _⟩ := t.tab
      rw [hb, h1]
      intro z; cases z
    · cases q : H b with
      | none => exact absurd q e
      | some o =>
        rw [t.old b o q hb]
        intro z; cases z
section
variable {X : Cx} {pins : List (Addr × Obj)} {σ : St} {H : Hp} {s : Shared}
end
def kk (k : D → Option D) (d : D) : D := (k d).getD .none
structure jd1 (k : D → Option D) (ds : List D) : Prop where
  ok : ∀ d ∈ ds, (k d).isSome = true
  al : PySem.W.AllAlike (ds.map (kk k))
  so : PySem.W.Sortable (ds.map (kk k))
  dp : ∀ d ∈ ds, PyData.depth (kk k d) ≤ 50
  ln : ds.length ≤ 16777216
  ly : PyData.canLayAll0 ds = true
section
variable {X : Cx} {Cl : Nat → Addr} {W : WX}
end
structure vej (K : PySem.W.Frag) (x qual : Str) (st : Stmt) (f : Addr) (fd : FuncData) (cd : Value) : Prop where
  ex : ∃ (oc : Value) (od : Option Addr) (kV doc pm : Value) (an : Option Addr) (ct : Value) (osl : Array (Option Value)),
    fd = PySem.W.fnOf x qual (defArgs st) (defBody st) (defScope st) .none kV doc pm an cd ct ∧ K.lookup f = some ⟨oc, od, .func fd, osl⟩ ∧ PySem.W.codeIn K cd qual = true
section
variable {P : Program} {w : World} {K : PySem.W.Frag} {mg : Str → Option Value} {base : Heap} {Cl : Nat → Addr}
end
def noSeq : HO → Bool
  | .tup _ => false
  | .frz _ _ => false
  | _ => true
theorem kX.noSeq {K : PySem.W.Frag} {Cl : Nat → Addr} {Hs : Hp} {a : Addr} {u : HO} {c : Cell} (h : kX K Cl Hs a u c) : DL.noSeq u = true := by
  cases c with
  | set ks =>
    obtain ⟨L, rfl, _, _⟩ := h
    rfl
  | lst ds =>
    obtain ⟨xs, rfl, _⟩ := h
    rfl
  | dic ps =>
    obtain ⟨L, rfl, _⟩ := h
    rfl
section
variable {K : PySem.W.Frag} {Z O : Addr → Prop} {H : Hp}
theorem qc9 {b : Addr} {o : HO} (hO : ∀ a, O a → ∃ u, H a = some u ∧ noSeq u = true) (e : hide H Z b = some o) (n : noSeq o = false) : hide H (fun b => Z b ∨ O b) b = some o := by
  obtain ⟨h1, h2⟩ := wm e
  refine xg (fun z => ?_) h2
  rcases z with z | z
  · exact h1 z
  · obtain ⟨u, q, q2⟩ := hO b z
    rw [q] at h2
    cases h2
    rw [n] at q2
    cases q2
mutual
theorem Dp.vcd (hO : ∀ a, O a → ∃ u, H a = some u ∧ noSeq u = true) : ∀ {v : V} {d : D}, wbT d = true → Dp K (hide H Z) v d → Dp K (hide H (fun b => Z b ∨ O b)) v d
  | _, _, _, .non => .non
  | _, _, _, .bl b => .bl b
  | _, _, _, .int i => .int i
  | _, _, _, .str x => .str x
  | _, _, c, .lst h t => nomatch c
  | _, _, c, .tup h t => by
    refine .tup ?_ (DpAll.vcd hO c t)
    rcases h with (h | ⟨o, h⟩) | h
    · exact .inl (.inl (qc9 hO h rfl))
    · exact .inl (.inr ⟨o, qc9 hO h rfl⟩)
    · exact .inr h
  | _, _, c, .scr h => nomatch c
  | _, _, c, .exc _ _ => nomatch c
theorem DpAll.vcd (hO : ∀ a, O a → ∃ u, H a = some u ∧ noSeq u = true) : ∀ {vs : List V} {ds : List D}, wbe ds = true → DpAll K (hide H Z) vs ds → DpAll K (hide H (fun b => Z b ∨ O b)) vs ds
  | _, _, _, .nil => .nil
  | _, _, c, .cons h t => by
    have c' : (wbT _ && wbe _) = true := c
    rw [Bool.and_eq_true] at c'
    exact .cons (Dp.vcd hO c'.1 h) (DpAll.vcd hO c'.2 t)
end
end
section
variable {X : Cx} {Cl : Nat → Addr} {W : WX} {e : Expr} {es : List Expr} {g : FA} {p pos : Pos}
end
section
variable {X : Cx} {Cl : Nat → Addr} {W : WX} {K : PySem.W.Frag}
end
section
variable {P : Program} {w : World} {K : PySem.W.Frag} {mg : Str → Option Value} {base : Heap}
theorem okN {x qual : Str} {st : Stmt} {f : Addr} {fd : FuncData} {N ps : List Str} {k : Nat} {sp : Sp} (F : Fun K x qual st f fd) (S : FnScope N ps (defScope st)) (len : ∀ vs H Q E, sp vs H Q E → vs.length = ps.length)
    (h : ∀ (cdv : Value) (A : Around) (outer : List Env) (s : Shared) (H : Hp) (vs : List V) (Q : VK) (E : XK), Room k (A.deeper (envOfC qual (defScope st) s.heap.objs.size f cdv)) → sp vs H Q E →
      ∃ t, PSs (cxOf (L2N.CX P w) P w K mg base N qual (defScope st) f cdv A outer s H E) (defBody st) t ∧ t { nx := fun _ H' => Q .non H', rt := Q } (L2.start N vs) H) : FnOk P w K mg base (L2N.CX P w) (k + 1) f fd ps sp := by
  obtain ⟨oc, od, kV, doc, pm, an, cdv, ct, osl, e, lk, hcd⟩ := F.ex
  subst e
  exact fn_of lk hcd S len (h cdv)
end
section
variable {X : Cx} {e : Expr} {es : List Expr} {ta : TA} {p pos : Pos}
theorem vc3 {CX : CXT} {x : Str} {C fI : Addr} {k : Nat} {fd : FuncData} {ps : List Str} {sp : Sp} {ds : List Value} {dvs : List V} (T : OexC X.K C) (iC : PySem.W.findIn X.K (.ref C) "__init__" = some (some (.ref fI))) (tI : PySem.W.typeIn X.K (.ref fI) = some (.type "function"))
    (F1 : FnOk X.prog X.w X.K X.mg X.base CX k fI fd ps sp) (hr : Room (k + 1) X.A) (hb : Binds X.K fd ps ds) (hd : Vals dvs ds) (hx : Passes CX X (fun _ _ _ => False)) (hg : Gl X x) (hm : X.mg x = some (.ref C)) (ha : PA X (e :: es) ta)
    (hdb : (x == ("__debug__" : Str)) = false := by decide) (he : starEach (e :: es) X.env = (false, eval e X.env) :: starEach es X.env := by rfl) (hpl : (backTo pos (starEach es X.env)).any (·.1) = false := by rfl) :
    L2N.PMk X (.Call (.Name x p) (e :: es) [] pos) (tMkO C sp dvs ta) := fun pins s σ H Q I h => by
  obtain ⟨_, _, _, _, bm, _, _, _, _, _, _, _, _, _, _, own, refs⟩ := T.cls
  refine wpAny_Call_Name_kw (ld_glob I hg hm (PySem.W.callWith_K (h₀ := X.base) I.ok.mod.kin T.kC (thn (ha.run pos pins s σ H _ I h) fun us s1 got => ?_) he hpl) hdb)
  obtain ⟨vs, H1, J, rv, few, fits⟩ := got
  refine ⟨J.kIn, ?_⟩
  obtain ⟨hp, gs, dr, tk, os⟩ := s1
  have above : hp.objs.size ≤ hp.objs.size + 1 := Nat.le_succ _
  have want := fits (hp.objs.size + 1) (J.hok.fresh above)
  have old : ∀ b o, hp.get? b = some o → ((hp.push (PySem.W.kdv_tup us)).push (PySem.HandSPX.excO C hp.objs.size)).get? b = some o := fun b o z => Heap.get?_push_of_some _ (Heap.get?_push_of_some _ z)
  have there : ((hp.push (PySem.W.kdv_tup us)).push (PySem.HandSPX.excO C hp.objs.size)).get? (hp.objs.size + 1) = some (PySem.HandSPX.excO C hp.objs.size) := by heap_get
  have J2 : Inv X pins σ (upd H1 (hp.objs.size + 1) (exo (hp.objs.size + 1) C none)) ⟨(hp.push (PySem.W.kdv_tup us)).push (PySem.HandSPX.excO C hp.objs.size), gs, dr, tk, os⟩ := J.laid (t' := tk) old above (exo_ok there)
  have rel : Vals (V.ref (hp.objs.size + 1) :: (vs ++ dvs)) (Value.ref (hp.objs.size + 1) :: (us ++ ds)) := .cons rfl (rv.append hd)
  have ln : (Value.ref (hp.objs.size + 1) :: us ++ ds).length = ps.length := (rel.length.symm.trans (F1.len _ _ _ _ want) : _)
  have short : us.length ≤ sizeLine := by
    have := Paired.length rv
    rw [sizeLine_eq]
    omega
  show wpAny _ _ (call (.ref C) us) _ _ _
  refine wpAny_call (PySem.HandSPX.call_own F.excBase_ValueError (fun Y => PySem.HandSPX.refsVE_contains Y bm refs) (J.kIn _ _ own) (PySem.W.looks_findIn J.kIn iC) (fun self => PySem.W.bind_fn J.kIn self tI) short (codeAny_mono (F1.run _ X.stack _ _ ⟨Value.ref (hp.objs.size + 1) :: us, []⟩ (Value.ref (hp.objs.size + 1) :: (us ++ ds)) _ _ (fun _ _ _ => False) (hr.make C us []) (J2.env0.make C us []) (hb _ (Value.ref (hp.objs.size + 1) :: us) J2.kIn ln) rel want) fun res s' got => ?_))
  match res, got with
  | .error er, got => exact hx pins σ _ _ er s' J2 got
  | .ok (.ret u), ⟨v, H2, o2, bare, un, ok2, ru, ev, d, fs, ea, ed, hd1, q⟩ =>
    subst ev
    obtain ⟨h2, g2, d2, t2, os'⟩ := s'
    obtain ⟨t0, G, J3, kG, ge, hoe, na⟩ := mk_end0 (d2 := d2) (t2 := t2) J above old un ok2 o2 bare ea ed hd1
    exact ⟨ru, hp.objs.size + 1, _, _, ⟨G, g2, d2, t2, os'⟩, _, .ref C, some d, rfl, J3, kG, ge, hoe, ⟨rfl, rfl, fun vs z => by cases z; rfl⟩, rfl, rfl, na, rfl, bare, raises_own T.exC T.tyC, q⟩
end
section
variable {X : Cx} {Cl : Nat → Addr} {W : WX} {K : PySem.W.Frag} {e : Expr} {es : List Expr} {f : FE} {g : FA} {p pos : Pos}
theorem vE {n k : Nat} {F : DF} {fa : Addr} {fd : FuncData} {ps : List Str} {x : Str} (G : FnOk X.prog X.w X.K X.mg X.base (L2N.CX X.prog X.w) k fa fd ps (vB X.K Cl n F)) (tk : L2N.Takes X W) (hr : Room k X.A) (hm : X.mg x = some (.ref fa)) (hk : PySem.W.keepIn X.K (.ref fa) = true) (hb : Binds X.K fd ps [])
    (ha : DA X Cl W (e :: es) g) (hg : Gl X x := by rfl) (hdb : (x == ("__debug__" : Str)) = false := by decide) (he : starEach (e :: es) X.env = (false, eval e X.env) :: starEach es X.env := by rfl) (hpl : (backTo pos (starEach es X.env)).any (·.1) = false := by rfl) :
    DE X Cl W (.Call (.Name x p) (e :: es) [] pos) (kb F n g) := PE.imp (pe_callS (E := WE W) G hr hg hm hk hb (fun σ => L2N.passAt tk σ) ha hdb he hpl) fun σ H Q ⟨Z, ρ, r, I, e, q⟩ => by
  unfold kb at e
  cases e1 : g ρ with
  | none => rw [e1] at e; cases e
  | some r1 =>
    rw [e1] at e
    refine yK I e1 (fun er z => ?_) fun vs xs H1 ev s1 hvs I1 => ?_
    · subst z
      cases e
      exact q
    · subst ev
      dsimp only at e
      split at e
      · rename_i hn
        cases eF : F (vs.map Val.d) with
        | none => rw [eF] at e; cases e
        | some o =>
          rw [eF] at e
          cases es : zD vs with
          | some ds =>
            have ed := kaU es
            refine ⟨Zo Z σ ρ, ds, o, ⟨fun b z => I1.qal z, I1.tb⟩, hvs.stab I es, by rw [kbA es]; exact hn, by rw [← ed]; exact eF, ?_⟩
            cases o with
            | exc c i => cases e; exact fun dd H' s hd => q dd H' (s1.trans s) hd
            | ret d =>
              rw [es] at e
              cases e
              exact fun v H' s hd => q v H' (s1.trans s) hd
            | retX gs k =>
              rw [es] at e
              cases e
              exact fun T p xs ys H' s h1 h2 _ _ _ => q _ H' (s1.trans s) (.tup h1 h2)
            | retF gs =>
              rw [es] at e
              cases e
              exact fun p xs H' s n h2 h3 => q _ H' (s1.trans s) ⟨p, xs, rfl, s1.free n, h2, h3⟩
          | none =>
            refine ⟨Z, vs.map Val.d, o, ⟨fun b z => I1.live b z, I1.tb⟩, hvs.dp I, by rw [List.length_map]; exact hn, eF, ?_⟩
            cases o with
            | exc c i => cases e; exact fun dd H' s hd => q dd H' (s1.trans s) hd
            | ret d =>
              rw [es] at e
              cases e
              exact fun v H' s hd => q v H' (s1.trans s) hd
            | retX gs k =>
              rw [es] at e
              cases e
              exact fun T p xs ys H' s h1 h2 _ _ _ => q _ H' (s1.trans s) (.tup h1 h2)
            | retF gs =>
              rw [es] at e
              dsimp only at e
              split at e
              · rename_i sc
                cases e
                exact fun p xs H' s n h2 h3 => q _ H' (s1.trans s) ⟨p, xs, rfl, s1.free n, h2, DpAll.scalar sc h3⟩
              · cases e
                intro p xs H' s n h2 h3
                have np : ¬ Z p := fun z => I1.live p z n
                exact q _ H' (s1.trans s) (DL.Dp.lst (Rd.of (xg np h2)) (DpAll.same (qe (vc.refl _) fun _ h => .inl (.inl h)) h3))
      · cases e
theorem qcH {c : Nat} {D : Ends} {σ : St} {H H0 : Hp} {Z : Addr → Prop} {ρ : xb} {i : Int} (oex : OexC K (Cl c)) (no : PySem.W.findIn K (.ref (Cl c)) "at" = some none) (I : SI K Cl H0 Z H σ ρ) (q : OOk K Cl W H0 Z D (.exc ρ c i)) :
    tMkO (Cl c) (zcH K) [] (fun σ H Q => Q [.int i] H) σ H (fun cls d H' => W cls d σ H') := by
  refine ⟨by show 1 ≤ 1000; decide, fun a na => ⟨a, Cl c, .int i, rfl, oex, no, upd_same, fun dx nd hne => ⟨rfl, dx, [("at", .int i)], ?_, ?_, ?_, ?_⟩⟩⟩
  · exact upd_same
  · rw [upd_ne hne, upd_same]
  · rw [upd_ne hne] at nd
    exact nd
  · rw [upd_ne hne] at nd
    refine q dx σ _ (I.kO (.of (fun b o e => ?_) fun b o xs e => ?_)) upd_same
    · have n1 := ne_of_none e nd
      have n2 := ne_of_none e na
      rw [upd_ne n1, del_ne n2, upd_ne n2, upd_ne n1, upd_ne n2]
      exact e
    by_cases b1 : b = dx
    · rw [b1, upd_same] at e
      cases e
    rw [upd_ne b1] at e
    by_cases b2 : b = a
    · rw [b2, del_same] at e
      cases e
    rw [del_ne b2, upd_ne b2, upd_ne b1, upd_ne b2] at e
    exact e
theorem wG {c : Nat} {x q : Str} {fI : Addr} {fd : FuncData} {st : Stmt} {p pos' : Pos} (T : ExT X.K X.mg x (Cl c) fI) (N : InT X.K q st fI fd) (F1 : FnOk X.prog X.w X.K X.mg X.base (L2.CX X.prog X.w) 1 fI fd ["self", "at"] (zcH X.K)) (tk : L2N.Takes X W) (hr : Room 2 X.A) (he : DE X Cl W e f)
    (hc : X.calm = true := by rfl) (hg : Gl X x := by rfl) (hdb : (x == ("__debug__" : Str)) = false := by decide) (hs : starEach (e :: []) X.env = (false, eval e X.env) :: starEach [] X.env := by rfl) (hpl : (backTo pos (starEach [] X.env)).any (·.1) = false := by rfl) :
    DS X Cl W (.Raise (some (.Call (.Name x p) [e] [] pos)) none pos') (yi c f) :=
  PS.imp (L2N.ps_raise hc tk (vc3 (dvs := []) (ds := []) T.oex T.iC N.tI F1 hr N.b .nil passL hg T.g (pa_cons he pa_nil hs) hdb hs hpl)) fun D σ H ⟨H0, Z, ρ, o, I, e, q⟩ => by
    refine jag I e q fun v y H1 _ h1 s1 hv I1 => ?_
    split at h1
    · rename_i i ei
      cases h1
      have ey := hv.int_inv I.di ei
      subst ey
      exact qcH T.oex T.no (I1.kO (Same.refl _)) q
    · cases h1
end
section
variable {P : Program} {w : World} {K : PySem.W.Frag} {mg : Str → Option Value} {base : Heap} {Cl : Nat → Addr}
theorem wbL {x qual : Str} {st : Stmt} {fa : Addr} {fd : FuncData} {N ps : List Str} {k n m : Nat} {fb : FS} (F : Fun K x qual st fa fd) (S : FnScope N ps (defScope st)) (hn : ps.length = n) (hm : N.length = m)
    (h : ∀ (cdv : Value) (A : Around) (outer : List Env) (s : Shared) (H : Hp) (E : XK), Room k (A.deeper (envOfC qual (defScope st) s.heap.objs.size fa cdv)) →
      DSs (cxOf (L2N.CX P w) P w K mg base N qual (defScope st) fa cdv A outer s H E) Cl (fun cls d _ H' => E cls d H') (defBody st) fb) : FnOk P w K mg base (L2N.CX P w) (k + 1) fa fd ps (vB K Cl n (xA n m fb)) :=
  okN F S (fun vs H Q E ⟨Z, ds, o, _, h1, h2, _⟩ => by rw [h1.length, h2, hn]) fun cdv A outer s H vs Q E hr hsp => xcT rfl hm (h cdv A outer s H E hr) hsp
def qF (F : DF) : DF := fun ds => match F ds with
  | some (.exc _ _) => none
  | o => o
theorem FnOk.toN {k n : Nat} {F : DF} {fa : Addr} {fd : FuncData} {ps : List Str} (G : FnOk P w K mg base (L2.CX P w) k fa fd ps (vB K Cl n F)) : FnOk P w K mg base (L2N.CX P w) k fa fd ps (vB K Cl n (qF F)) := by
  refine ⟨fun vs H Q E ⟨Z, ds, o, h0, h1, h2, h3, h4⟩ => ?_, fun A outer s H args us vs Q E hr e0 hb r ⟨Z, ds, o, h0, h1, h2, h3, h4⟩ => ?_⟩
  · have e : F ds = some o := by
      unfold qF at h3
      split at h3
      · cases h3
      · exact h3
    have q : vB K Cl n F vs H (fun _ _ => True) (fun _ _ _ => True) := ⟨Z, ds, o, h0, h1, h2, e, by cases o <;> (simp only [DOk]; intros; trivial)⟩
    exact G.len vs H _ _ q
  · have e : F ds = some o ∧ ∀ c i, o ≠ .exc c i := by
      unfold qF at h3
      split at h3
      · cases h3
      · rename_i hne
        exact ⟨h3, fun c i z => hne c i (by rw [h3, z])⟩
    have q : vB K Cl n F vs H Q (fun _ _ _ => False) := ⟨Z, ds, o, h0, h1, h2, e.1, by
      cases o with
      | exc c i => exact absurd rfl (e.2 c i)
      | ret d => exact h4
      | retF d => exact h4
      | retX d k => exact h4⟩
    refine codeAny_mono (G.run A outer s H args us vs Q _ hr e0 hb r q) fun r s' hq => ?_
    cases r with
    | error er =>
      obtain ⟨_, _, _, _, _, _, _, _, _, _, _, _, z⟩ := hq
      exact z.elim
    | ok fl => cases fl <;> exact hq
end
section
variable {P : Program} {w : World} {K : PySem.W.Frag} {mg : Str → Option Value} {base : Heap} {Cl : Nat → Addr}
end
section
variable {X : Cx} {Cl : Nat → Addr} {W : WX}
end
section
variable {P : Program} {w : World} {A : Around} {E : Value → Shared → Prop} {s : Shared} {a : Addr} {L : List (Addr × List Int)} {es : Array (Int × Value)} {ep : Nat} {t : SetTable}
end
section
variable {X : Cx} {b : Bool}
theorem SetTR.ty {P : Program} {w : World} {s : Shared} {a : Addr} {L : List (Addr × List Int)} {es : Array (Int × Value)} {ep : Nat} {t : SetTable} (R : SetTR P w s.heap a L es ep t) : s.TypeIs (.ref a) "set" := by
  obtain ⟨o, h1, h2, _⟩ := R.ob
  exact ⟨o, h1, h2.1⟩
end
section
variable {K : PySem.W.Frag} {Cl : Nat → Addr} {W : WX} {H0 H1 : Hp} {Z : Addr → Prop} {H H' : Hp} {σ : St} {ρ : xb} {D : Ends}
theorem TBl.ycd {H4 : Hp} {L : Addr} {u u' : HO} (t : TBl Cl H4) (hL : H4 L = some u) (n1 : ∀ ps, u ≠ .tbl ps) (n2 : ∀ q, u ≠ LamX.CodeO L q) : TBl Cl (upd H4 L u') := fun p hp n => by
  obtain ⟨ps, h1, h2, h3⟩ := t p hp n
  have a1 : Cl p.1 ≠ L := fun z => by
    rw [z, hL] at h1
    exact n1 _ (Option.some.inj h1)
  refine ⟨ps, by rw [upd_ne a1]; exact h1, h2, fun pos cv hc => ?_⟩
  obtain ⟨c, e1, e2⟩ := h3 pos cv hc
  have a2 : c ≠ L := fun z => by
    rw [z, hL] at e2
    exact n2 _ (Option.some.inj e2)
  exact ⟨c, e1, by rw [upd_ne a2]; exact e2⟩
theorem Same.ycd {H1 H4 : Hp} {L : Addr} {u u' : HO} (s : Same Cl H1 H4) (nL : H1 L = none) (hL : H4 L = some u) (n1 : ∀ ps, u ≠ .tbl ps) (n2 : ∀ q, u ≠ LamX.CodeO L q) (n3 : ∀ o v, u' ≠ .frz o v) : Same Cl H1 (upd H4 L u') := by
  have ne : ∀ {b : Addr}, H1 b ≠ none → b ≠ L := fun {b} e z => e (by rw [z]; exact nL)
  exact ⟨fun b o e n => by rw [upd_ne (ne (by rw [e]; intro z; cases z))]; exact s.d b o e n, fun t => (s.tb t).ycd hL n1 n2, fun b e => (by rw [upd_ne (ne e)]; exact s.live b e), fun b o xs e => (by
    by_cases z : b = L
    · rw [z, upd_same] at e
      exact absurd (Option.some.inj e) (n3 _ _)
    · rw [upd_ne z] at e
      exact s.nf b o xs e)⟩
end
section
variable {X : Cx} {Cl : Nat → Addr} {W : WX} {e : Expr} {fe : FE} {pos : Pos}
end
section
variable {K : PySem.W.Frag} {Cl : Nat → Addr} {W : WX} {Z Z1 : Addr → Prop} {H0 H H' : Hp} {σ : St} {ρ : xb}
theorem DI.less (I : DI K Cl Z1 H σ ρ) (h : ∀ a, Z a → Z1 a) : DI K Cl Z H σ ρ := by
  have hm : vc (hide H (Zo Z1 σ ρ)) (hide H (Zo Z σ ρ)) := qe (vc.refl _) fun b hb => .inl (hb.elim (fun z => .inl (h b z)) .inr)
  refine ⟨I.len, I.one, fun a o z => I.out a o (h a z), fun a z => I.live a (h a z), fun i t e => ?_, I.tb⟩
  have q := I.slots i t e
  cases t with
  | un => trivial
  | dat d =>
    obtain ⟨v, e1, h1⟩ := q
    exact ⟨v, e1, Dp.same hm h1⟩
  | own ds =>
    obtain ⟨a, xs, e1, e2, h1⟩ := q
    exact ⟨a, xs, e1, e2, DpAll.same hm h1⟩
  | err a dd j => exact q
  | ownT a k gs =>
    obtain ⟨T, e1, h1⟩ := q
    exact ⟨T, e1, h1.same hm fun _ z => z⟩
  | pin a => exact q
  | ob k fs => exact kat.same hm q
  | vX a c =>
    obtain ⟨e1, u, e2, h1⟩ := q
    exact ⟨e1, u, e2, h1.same hm⟩
theorem SI.less (I : SI K Cl H0 Z1 H σ ρ) (h : ∀ a, Z a → Z1 a) : SI K Cl H0 Z H σ ρ := ⟨I.di.less h, I.same, I.new⟩
theorem SI.yc3 (I : SI K Cl H0 Z H σ ρ) {q : Addr} {ys zs : List V} (hz : Z q) (h0 : H0 q = none) (hq : H q = some (.lst ys)) : SI K Cl H0 Z (upd H q (.lst zs)) σ ρ := by
  have hm : vc (hide H (Zo Z σ ρ)) (hide (upd H q (.lst zs)) (Zo Z σ ρ)) := fun b o e _ => by
    obtain ⟨n, e1⟩ := wm e
    exact xg n (by rw [upd_ne fun z => n (.inl (by rw [z]; exact hz))]; exact e1)
  have no : ∀ a, xo σ ρ a → a ≠ q := fun a o z => I.di.out a o (by rw [z]; exact hz)
  refine ⟨⟨I.di.len, I.di.one, I.di.out, fun a z => ?_, fun i t e => ?_, I.di.tb.over hq⟩, I.same.over h0 hq, I.new⟩
  · by_cases e : a = q
    · rw [e, upd_same]
      intro z; cases z
    · rw [upd_ne e]
      exact I.di.live a z
  · have k := I.di.slots i t e
    cases t with
    | un => trivial
    | dat d =>
      obtain ⟨v, e1, h1⟩ := k
      exact ⟨v, e1, Dp.same hm h1⟩
    | own ds =>
      obtain ⟨a, xs, e1, e2, h1⟩ := k
      exact ⟨a, xs, e1, by rw [upd_ne (no a ⟨i, .inl ⟨e1, ds, e⟩⟩)]; exact e2, DpAll.same hm h1⟩
    | err a dd j =>
      have nd : dd ≠ q := fun z => by
        have k2 := k.2
        rw [z, hq] at k2
        cases k2
      exact ⟨k.1, by rw [upd_ne nd]; exact k.2⟩
    | ownT a k' gs =>
      obtain ⟨T, e1, h1⟩ := k
      exact ⟨T, e1, h1.same hm fun _ z => by rw [upd_ne (no a ⟨i, .inr (.inl ⟨k', gs, e⟩)⟩)]; exact z⟩
    | pin a => exact k
    | ob k fs => exact kat.same hm k
    | vX a c =>
      obtain ⟨e1, u, e2, h1⟩ := k
      exact ⟨e1, u, by rw [upd_ne (no a ⟨i, .inr (.inr ⟨c, e⟩)⟩)]; exact e2, h1.same hm⟩
end
section
variable {X : Cx} {Cl : Nat → Addr} {W : WX} {K : PySem.W.Frag}
variable {elt tg iter : Expr} {scope : Scope} {own : List (Str × Nat)} {pos rpos : Pos} {it : FI} {g : TG} {fe : FE} {vs : List Nat} {st : xb → D → Option xb}
end
section
variable {X : Cx} {Cl : Nat → Addr} {W : WX} {e : Expr} {es : List Expr} {g : FA} {f2 : FE} {t3 : FT} {rest : FS}
end
section
variable {X : Cx} {Cl : Nat → Addr} {pos : Pos}
end
section
variable {X : Cx} {K : PySem.W.Frag} {Cl : Nat → Addr} {W : WX} {H0 H1 : Hp} {Z : Addr → Prop} {H H' : Hp} {σ : St} {ρ : xb}
variable {tg : Expr} {x : Str} {pos p0 : Pos}
end
theorem ybT : ∀ {ns : List Str} {vs : List V} {j : Nat} {f : Str} {v : V}, ns.Nodup → ns[j]? = some f → vs[j]? = some v → (ns.zip vs).lookup f = some v
  | [], _, _, _, _, _, h, _ => by simp at h
  | n :: ns, [], _, _, _, _, _, h => by simp at h
  | n :: ns, x :: vs, 0, f, v, _, h1, h2 => by
    simp at h1 h2
    subst h1 h2
    rw [List.zip_cons_cons, List.lookup_cons]
    simp
  | n :: ns, x :: vs, j + 1, f, v, nd, h1, h2 => by
    rw [List.nodup_cons] at nd
    have h1 : ns[j]? = some f := by simpa using h1
    have h2 : vs[j]? = some v := by simpa using h2
    have ne : (f == n) = false := by
      rw [beq_eq_false_iff_ne]
      intro z
      rw [← z] at nd
      exact nd.1 (List.mem_of_getElem? h1)
    rw [List.zip_cons_cons, List.lookup_cons, ne]
    exact ybT nd.2 h1 h2
def jbB : List (Int × D) → Int → Option D
  | [], _ => none
  | (k, d) :: ps, n => if k = n then some d else jbB ps n
theorem vn.get {K : PySem.W.Frag} {Hs : Hp} {n : Int} : ∀ {kvs : List (Key × V)} {ps : List (Int × D)}, vn K Hs kvs ps → Dp K Hs ((valV kvs (Sum.inl n : Key)).getD .non) ((jbB ps n).getD .none)
  | _, _, .nil => .non
  | _, _, .cons (k := k) (v := v) (d := d) (kvs := kvs) (ps := ps) h t => by
    have ih := vn.get (n := n) t
    unfold valV at ih ⊢
    unfold jbB
    by_cases z : k = n
    · subst z
      rw [if_pos rfl, List.find?_cons_of_pos (by simp)]
      exact h
    · rw [if_neg z, List.find?_cons_of_neg (by simp [z])]
      exact ih
section
variable {X : Cx} {Cl : Nat → Addr} {W : WX} {K : PySem.W.Frag} {f : Str} {e o : Expr} {es : List Expr} {fe : FE} {g : FA} {pos apos cpos : Pos}
abbrev MF := List OF → DF
end
section
variable {Cl : Nat → Addr} {K : PySem.W.Frag}
end
section
variable {X : Cx} {CX : CXT} {k : Nat} {g C : Addr} {fd : FuncData} {ps : List Str} {sp : Sp} {E : St → XK} {m : Str} {pos apos : Pos} {e o : Expr} {es : List Expr} {ta : TE} {t : TA}
end
section
variable {X : Cx} {Cl : Nat → Addr} {W : WX} {o e : Expr} {es : List Expr} {g : FA} {pos apos : Pos}
end
structure WS where
  size : Int
  ja5 : List Int
  total : Int
  number : Int
  kind : Int
  zi : Int
  zc9 : Int
  skip : Int
  rows : List D
  tags : List D
  kaB : List D
  named : List (Int × D)
def WS.of (s : WS) : List OF := [.dat (.int s.size), .dat (.list (s.ja5.map .int)), .dat (.int s.total), .dat (.int s.number), .dat (.int s.kind), .dat (.int s.zi), .dat (.int s.zc9), .dat (.int s.skip), .dat (.list s.rows), .dat (.list s.tags), .dat (.list s.kaB), .dic s.named]
structure WAd where
  dx : Addr
  q : Addr
  r : Addr
  n : Addr
def jl (a : Addr) (w : WAd) : Addr → Prop := fun b => b = a ∨ b = w.dx ∨ b = w.q ∨ b = w.r ∨ b = w.n
def jcH (w : WAd) (s : WS) (vr vt : V) : List V := [.int s.size, .ref w.q, .int s.total, .int s.number, .int s.kind, .int s.zi, .int s.zc9, .int s.skip, vr, vt, .ref w.r, .ref w.n]
structure WA (K : PySem.W.Frag) (Cl : Nat → Addr) (H Hs : Hp) (a : Addr) (w : WAd) (s : WS) : Prop where
  o : ∃ vr vt, H a = some (.ins (Cl 3000) w.dx ((xaM 3000).zip (jcH w s vr vt))) ∧ Dp K Hs vr (.list s.rows) ∧ Dp K Hs vt (.list s.tags)
  d : H w.dx = some (.own a)
  p : H w.q = some (.lst (s.ja5.map V.int))
  sp : ∃ xs, H w.r = some (.lst xs) ∧ DpAll K Hs xs s.kaB
  nm : ∃ kvs, H w.n = some (.dK kvs) ∧ vn K Hs kvs s.named
  qr : w.q ≠ w.r
def wa5 : HO → Bool
  | .ins _ _ _ => true | .own _ => true | .lst _ => true | .dK _ => true
  | _ => false
section
variable {K : PySem.W.Frag} {Cl : Nat → Addr} {W : WX} {H H' H0 Hs Hs' : Hp} {a : Addr} {w w' : WAd} {s s' : WS} {Z : Addr → Prop} {σ σ' : St} {ρ ρ' : xb} {iw : Nat}
theorem WA.at_ (h : WA K Cl H Hs a w s) {b : Addr} (hb : jl a w b) : ∃ u, H b = some u ∧ wa5 u = true := by
  obtain ⟨vr, vt, h1, _, _⟩ := h.o
  obtain ⟨xs, h2, _⟩ := h.sp
  obtain ⟨kvs, h3, _⟩ := h.nm
  rcases hb with rfl | rfl | rfl | rfl | rfl
  · exact ⟨_, h1, rfl⟩
  · exact ⟨_, h.d, rfl⟩
  · exact ⟨_, h.p, rfl⟩
  · exact ⟨_, h2, rfl⟩
  · exact ⟨_, h3, rfl⟩
theorem WA.same (h : WA K Cl H Hs a w s) (h1 : ∀ b, jl a w b → H' b = H b) (m : vc Hs Hs') : WA K Cl H' Hs' a w s := by
  obtain ⟨vr, vt, e1, e2, e3⟩ := h.o
  obtain ⟨xs, e4, e5⟩ := h.sp
  obtain ⟨kvs, e6, e7⟩ := h.nm
  exact ⟨⟨vr, vt, by rw [h1 a (.inl rfl)]; exact e1, Dp.same m e2, Dp.same m e3⟩, by rw [h1 _ (.inr (.inl rfl))]; exact h.d, by rw [h1 _ (.inr (.inr (.inl rfl)))]; exact h.p, ⟨xs, by rw [h1 _ (.inr (.inr (.inr (.inl rfl))))]; exact e4, DpAll.same m e5⟩, ⟨kvs, by rw [h1 _ (.inr (.inr (.inr (.inr rfl))))]; exact e6, e7.same m⟩, h.qr⟩
theorem va5 {u : HO} (h : wa5 u = true) : ntb u = true := by cases u <;> first | rfl | cases h
theorem WA.kept (h : WA K Cl H Hs a w s) (sm : Same Cl H H') {b : Addr} (hb : jl a w b) : H' b = H b := by
  obtain ⟨u, e, k⟩ := h.at_ hb
  rw [e, sm.at e (va5 k)]
def ZA (Z : Addr → Prop) (a : Addr) (w : WAd) : Addr → Prop := fun b => Z b ∨ jl a w b
open Classical in
noncomputable def kaM (H0 H : Hp) (a : Addr) (w : WAd) : Hp := fun b => if jl a w b then H b else H0 b
theorem yY {b : Addr} (h : jl a w b) : kaM H0 H a w b = H b := by unfold kaM; rw [if_pos h]
theorem ym {b : Addr} (h : ¬ jl a w b) : kaM H0 H a w b = H0 b := by unfold kaM; rw [if_neg h]
structure jr (K : PySem.W.Frag) (Cl : Nat → Addr) (H0 : Hp) (Z : Addr → Prop) (H : Hp) (σ : St) (ρ : xb) (iw : Nat) (a : Addr) (w : WAd) (s : WS) : Prop where
  si : SI K Cl (kaM H0 H a w) (ZA Z a w) H σ (ρ.set iw (.pin a))
  wa : WA K Cl H (hide H (Zo (ZA Z a w) σ (ρ.set iw (.pin a)))) a w s
  h0 : ∀ b, jl a w b → H0 b = none
  nz : ∀ b, jl a w b → ¬ Z b
  un : ρ[iw]? = some .un
theorem jr.mix (S : jr K Cl H0 Z H σ ρ iw a w s) : Same Cl H0 (kaM H0 H a w) := by
  have ne : ∀ {b : Addr}, H0 b ≠ none → ¬ jl a w b := fun {b} e z => e (S.h0 b z)
  refine .of (fun b o e => by rw [ym (ne (by rw [e]; intro z; cases z))]; exact e) fun b o xs e => ?_
  by_cases h : jl a w b
  · obtain ⟨u, e2, k⟩ := S.wa.at_ h
    rw [yY h, e2] at e
    cases e
    cases k
  · rw [ym h] at e
    exact e
theorem jr.base (S : jr K Cl H0 Z H σ ρ iw a w s) : Same Cl H0 H := S.mix.trans S.si.same
theorem jr.same (S : jr K Cl H0 Z H σ ρ iw a w s) (sm : Same Cl H H') : jr K Cl H0 Z H' σ ρ iw a w s := by
  have e : kaM H0 H' a w = kaM H0 H a w := funext fun b => by
    by_cases h : jl a w b
    · rw [yY h, yY h, S.wa.kept sm h]
    · rw [ym h, ym h]
  exact ⟨by rw [e]; exact S.si.kO sm, S.wa.same (fun b hb => S.wa.kept sm hb) (vw sm fun _ h => .inl h), S.h0, S.nz, S.un⟩
theorem jr.step (S : jr K Cl H0 Z H σ ρ iw a w s) (I : SI K Cl (vy H σ (ρ.set iw (.pin a))) (ZA Z a w) H' σ' ρ') (hp : ρ'[iw]? = some (.pin a)) : jr K Cl H0 Z H' σ' (ρ'.set iw .un) iw a w s := by
  have hi : iw < ρ'.length := (List.getElem?_eq_some_iff.mp hp).1
  have back : (ρ'.set iw .un).set iw (.pin a) = ρ' := by
    obtain ⟨h1, h2⟩ := List.getElem?_eq_some_iff.mp hp
    rw [List.set_set, ← h2, List.set_getElem_self h1]
  have no : ∀ b, jl a w b → ¬ xo σ (ρ.set iw (.pin a)) b := fun b hb z => S.si.di.out b z (.inr hb)
  have kept : ∀ b, jl a w b → H' b = H b := fun b hb => by
    obtain ⟨u, e, k⟩ := S.wa.at_ hb
    rw [e, I.same.at (kL (no b hb) e) (va5 k)]
  have e : kaM H0 H' a w = kaM H0 H a w := funext fun b => by
    by_cases h : jl a w b
    · rw [yY h, yY h, kept b h]
    · rw [ym h, ym h]
  refine ⟨?_, ?_, S.h0, S.nz, by rw [List.getElem?_set, if_pos rfl, if_pos hi]⟩
  · rw [back, e]
    exact I.rebase S.si.based.1
  · rw [back]
    exact S.wa.same kept I.kept
structure After (Cl : Nat → Addr) (H : Hp) (a : Addr) (w : WAd) (H' : Hp) (w' : WAd) : Prop where
  s : Same Cl (hide H (jl a w)) H'
  tb : TBl Cl H → TBl Cl H'
  new : ∀ b, jl a w' b → jl a w b ∨ H b = none
theorem After.live (f : After Cl H a w H' w') {b : Addr} (n : ¬ jl a w b) (e : H b ≠ none) : H' b ≠ none := f.s.live b (by unfold hide; rw [if_neg n]; exact e)
theorem After.keep (f : After Cl H a w H' w') {b : Addr} {o : HO} (n : ¬ jl a w b) (e : H b = some o) (t : ntb o = true) : H' b = some o := f.s.at (xg n e) t
theorem jr.wbB (S : jr K Cl H0 Z H σ ρ iw a w s) (f : After Cl H a w H' w') : vc (hide H (Zo (ZA Z a w) σ (ρ.set iw (.pin a)))) (hide H' (Zo (ZA Z a w') σ (ρ.set iw (.pin a)))) := fun b o e t => by
  obtain ⟨n, e1⟩ := wm e
  refine xg (fun z => ?_) (f.keep (fun z => n (.inl (.inr z))) e1 t)
  rcases z with (z | z) | z
  · exact n (.inl (.inl z))
  · rcases f.new b z with z | z
    · exact n (.inl (.inr z))
    · rw [z] at e1
      cases e1
  · exact n (.inr z)
theorem jr.after (S : jr K Cl H0 Z H σ ρ iw a w s) (f : After Cl H a w H' w') (wa' : WA K Cl H' (hide H' (Zo (ZA Z a w') σ (ρ.set iw (.pin a)))) a w' s') : jr K Cl H0 Z H' σ ρ iw a w' s' := by
  have m := S.wbB f
  have noA : ∀ b, xo σ (ρ.set iw (.pin a)) b → ¬ jl a w b := fun b o z => S.si.di.out b o (.inr z)
  have wcH : ∀ b, xo σ (ρ.set iw (.pin a)) b → ¬ jl a w' b := fun b o z => by
    rcases f.new b z with z | z
    · exact noA b o z
    · exact S.si.di.jcd o z
  have h0' : ∀ b, jl a w' b → H0 b = none := fun b z => by
    rcases f.new b z with z | z
    · exact S.h0 b z
    · exact S.base.free z
  have nz' : ∀ b, jl a w' b → ¬ Z b := fun b z y => by
    rcases f.new b z with z | z
    · exact S.nz b z y
    · exact S.si.di.live b (.inl y) z
  have kbQ : ∀ {b : Addr} {o : HO}, xo σ (ρ.set iw (.pin a)) b → H b = some o → ntb o = true → H' b = some o := fun {b o} ob e t => f.keep (noA b ob) e t
  refine ⟨⟨⟨S.si.di.len, S.si.di.one, fun b o z => ?_, fun b z => ?_, fun i t e => ?_, f.tb S.si.di.tb⟩, ?_, fun b o => ?_⟩, wa', h0', nz', S.un⟩
  · rcases z with z | z
    · exact S.si.di.out b o (.inl z)
    · exact wcH b o z
  · rcases z with z | z
    · exact f.live (fun y => S.nz b y z) (S.si.di.live b (.inl z))
    · obtain ⟨u, e, _⟩ := wa'.at_ z
      rw [e]
      intro y
      cases y
  · have k := S.si.di.slots i t e
    cases t with
    | un => trivial
    | dat d =>
      obtain ⟨v, e1, h1⟩ := k
      exact ⟨v, e1, Dp.same m h1⟩
    | own ds =>
      obtain ⟨b, xs, e1, e2, h1⟩ := k
      exact ⟨b, xs, e1, kbQ ⟨i, .inl ⟨e1, ds, e⟩⟩ e2 rfl, DpAll.same m h1⟩
    | err b dd j =>
      refine ⟨k.1, f.keep (fun z => ?_) k.2 rfl⟩
      obtain ⟨u, e3, k3⟩ := S.wa.at_ z
      have k2 := k.2
      rw [e3] at k2
      cases k2
      cases k3
    | ownT b k' gs =>
      obtain ⟨T, e1, h1⟩ := k
      exact ⟨T, e1, h1.same m fun ys z => kbQ ⟨i, .inr (.inl ⟨k', gs, e⟩)⟩ z rfl⟩
    | pin b => exact k
    | ob k' fs =>
      exact kat.same m k
    | vX b c =>
      obtain ⟨e1, u, e2, h1⟩ := k
      exact ⟨e1, u, kbQ ⟨i, .inr (.inr ⟨c, e⟩)⟩ e2 h1.ntb, h1.same m⟩
  · refine ⟨fun b o e t => ?_, fun _ => f.tb S.si.di.tb, fun b e => ?_, fun b o xs e => ?_⟩
    · by_cases h : jl a w' b
      · rw [yY h] at e
        exact e
      · rw [ym h] at e
        have n : ¬ jl a w b := fun z => by rw [S.h0 b z] at e; cases e
        exact f.keep n (S.si.same.d b o (by rw [ym n]; exact e) t) t
    · by_cases h : jl a w' b
      · rw [yY h] at e
        exact e
      · rw [ym h] at e
        exact f.live (fun y => e (S.h0 b y)) (S.base.live b e)
    · have n : ¬ jl a w' b := fun z => by
        obtain ⟨u, e2, k⟩ := wa'.at_ z
        rw [e2] at e
        cases e
        cases k
      obtain ⟨n1, e1⟩ := wm (f.s.nf b o xs e)
      have e3 := S.si.same.nf b o xs e1
      rw [ym n1] at e3
      rw [ym n]
      exact e3
  · rw [ym (wcH b o)]
    have q := S.si.new b o
    rw [ym (noA b o)] at q
    exact q
structure RTW (K : PySem.W.Frag) (Cl : Nat → Addr) (H0 : Hp) (Z : Addr → Prop) (H : Hp) (a : Addr) (w : WAd) (s : WS) : Prop where
  same : Same Cl H0 H
  tb : TBl Cl H
  wa : WA K Cl H (hide H (ZA Z a w)) a w s
  h0 : ∀ b, jl a w b → H0 b = none
  nz : ∀ b, jl a w b → ¬ Z b
theorem jr.rt (S : jr K Cl H0 Z H σ ρ iw a w s) : RTW K Cl H0 Z H a w s := ⟨S.base, S.si.di.tb, S.wa.same (fun _ _ => rfl) (qe (vc.refl _) fun _ h => .inl (.inl h)), S.h0, S.nz⟩
def OkW (K : PySem.W.Frag) (Cl : Nat → Addr) (W : WX) (H0 : Hp) (Z : Addr → Prop) (iw : Nat) (a : Addr) (D : Ends) : WS × Out → Prop
  | (s, .nx ρ) => ∀ σ H w, jr K Cl H0 Z H σ ρ iw a w s → D.nx σ H
  | (s, .brk ρ) => ∀ σ H w, jr K Cl H0 Z H σ ρ iw a w s → D.bk σ H
  | (s, .ct ρ) => ∀ σ H w, jr K Cl H0 Z H σ ρ iw a w s → D.ct σ H
  | (s, .ret d) => ∀ v H w, RTW K Cl H0 Z H a w s → Dp K (hide H (ZA Z a w)) v d → D.rt v H
  | (s, .retF ds) => ∀ p xs H w, RTW K Cl H0 Z H a w s → H0 p = none → ¬ jl a w p → H p = some (.lst xs) → DpAll K (hide H (ZP (ZA Z a w) p)) xs ds → D.rt (.ref p) H
  | (_, .retX _ _) => False
  | (s, .exc ρ c i) => ∀ dd σ H w, jr K Cl H0 Z H σ ρ iw a w s → H dd = some (.xd [(("at" : Str), .int i)]) → W (.ref (Cl c)) (some dd) σ H
abbrev FW := WS → xb → Option (WS × Out)
section
variable {X : Cx} {st : Stmt} {sts : List Stmt} {f : FS} {g h : FW}
end
end
section
variable {K : PySem.W.Frag} {Cl : Nat → Addr} {W : WX} {H H' H0 Hs Hs' : Hp} {a : Addr} {w w' : WAd} {s s' : WS} {Z : Addr → Prop} {σ σ' : St} {ρ ρ' : xb} {iw : Nat}
theorem zb6 {i : Nat} {s s' : Slot} (hs : ρ[i]? = some s) (n : ¬ s.jaz) (n' : ¬ s'.jaz) (j : Nat) (b : Addr) : jq σ (ρ.set i s') j b ↔ jq σ ρ j b := by
  by_cases hj : i = j
  · subst hj
    have hl : i < ρ.length := (List.getElem?_eq_some_iff.mp hs).1
    constructor
    · intro h
      obtain ⟨t, h1, h2⟩ := h.slot
      rw [List.getElem?_set, if_pos rfl, if_pos hl] at h1
      cases h1
      exact absurd h2 n'
    · intro h
      obtain ⟨t, h1, h2⟩ := h.slot
      rw [hs] at h1
      cases h1
      exact absurd h2 n
  · unfold jq
    rw [List.getElem?_set_ne hj]
theorem WA.ob (h : WA K Cl H Hs a w s) (e : ∀ b, jl a w b → Hs' b = H b) (m : vc Hs Hs') : zbY K Cl Hs' a 3000 s.of := by
  obtain ⟨vr, vt, e1, e2, e3⟩ := h.o
  obtain ⟨xs, e4, e5⟩ := h.sp
  obtain ⟨kvs, e6, e7⟩ := h.nm
  have hl : ∀ {b : Addr} {xs : List V}, jl a w b → H b = some (.lst xs) → Rd Hs' b (.lst xs) := fun {b xs} hb q => Rd.of (by rw [e b hb]; exact q)
  refine ⟨w.dx, jcH w s vr vt, by rw [e a (.inl rfl)]; exact e1, rfl, rfl, fun j x hx => ?_⟩
  match j, hx with
  | 0, hx => cases hx; exact ⟨_, rfl, .int _⟩
  | 1, hx =>
    cases hx
    exact ⟨_, rfl, .lst (hl (.inr (.inr (.inl rfl))) h.p) (DpAll.of_ints _)⟩
  | 2, hx => cases hx; exact ⟨_, rfl, .int _⟩
  | 3, hx => cases hx; exact ⟨_, rfl, .int _⟩
  | 4, hx => cases hx; exact ⟨_, rfl, .int _⟩
  | 5, hx => cases hx; exact ⟨_, rfl, .int _⟩
  | 6, hx => cases hx; exact ⟨_, rfl, .int _⟩
  | 7, hx => cases hx; exact ⟨_, rfl, .int _⟩
  | 8, hx => cases hx; exact ⟨_, rfl, Dp.same m e2⟩
  | 9, hx => cases hx; exact ⟨_, rfl, Dp.same m e3⟩
  | 10, hx =>
    cases hx
    exact ⟨_, rfl, .lst (hl (.inr (.inr (.inr (.inl rfl)))) e4) (DpAll.same m e5)⟩
  | 11, hx =>
    cases hx
    exact ⟨_, rfl, w.n, kvs, rfl, by rw [e _ (.inr (.inr (.inr (.inr rfl))))]; exact e6, e7.same m⟩
  | j + 12, hx => cases hx
theorem jr.err {e : Er} {D : Ends} (S : jr K Cl H0 Z H σ ρ iw a w s) (h : OkW K Cl W H0 Z iw a D (s, .exc ρ e.1 e.2)) : jaa Cl W σ H e := fun dd H' sm hd => h dd σ H' w (S.same sm) hd
section
variable {X : Cx} {c : Expr} {sa sb : List Stmt} {pos : Pos} {t : FT} {f g : FW}
end
theorem jr.based (S : jr K Cl H0 Z H σ ρ iw a w s) : Same Cl H0 (hide (vy H σ (ρ.set iw (.pin a))) (jl a w)) ∧ jr K Cl (hide (vy H σ (ρ.set iw (.pin a))) (jl a w)) Z H σ ρ iw a w s := by
  obtain ⟨b0, I2⟩ := S.si.based
  have nA : ∀ {b : Addr}, H0 b ≠ none → ¬ jl a w b := fun {b} e z => e (S.h0 b z)
  have nt : ∀ {b : Addr} {o : HO}, vy H σ (ρ.set iw (.pin a)) b = some o → ((∃ ps, o = .tbl ps) ∨ ∃ q, o = LamX.CodeO b q) → ¬ jl a w b := fun {b o} e k z => by
    obtain ⟨u, e2, k2⟩ := S.wa.at_ z
    rw [(qbR e).2] at e2
    cases e2
    rcases k with ⟨ps, rfl⟩ | ⟨q, rfl⟩
    · cases k2
    · unfold LamX.CodeO at k2
      cases k2
  have s0 := S.mix.trans b0
  refine ⟨⟨fun b o e t => xg (nA (by rw [e]; intro z; cases z)) (s0.d b o e t), fun t q hq n => ?_, fun b e z => ?_, fun b o xs e => s0.nf b o xs (wm e).2⟩, ?_, S.wa, fun b h => ?_, S.nz, S.un⟩
  · obtain ⟨ps, h1, h2, h3⟩ := s0.tb t q hq n
    refine ⟨ps, xg (nt h1 (.inl ⟨ps, rfl⟩)) h1, h2, fun pos cv hc => ?_⟩
    obtain ⟨c, e1, e2⟩ := h3 pos cv hc
    exact ⟨c, e1, xg (nt e2 (.inr ⟨_, rfl⟩)) e2⟩
  · have q := s0.live b e
    unfold hide at z
    rw [if_neg (nA e)] at z
    exact q z
  · have e : kaM (hide (vy H σ (ρ.set iw (.pin a))) (jl a w)) H a w = vy H σ (ρ.set iw (.pin a)) := funext fun b => by
      by_cases h : jl a w b
      · obtain ⟨u, e, _⟩ := S.wa.at_ h
        rw [yY h, e, kL (fun z => S.si.di.out b z (.inr h)) e]
      · rw [ym h]
        unfold hide
        rw [if_neg h]
    rw [e]
    exact I2
  · unfold hide
    rw [if_pos h]
theorem jr.rebase {H1 : Hp} (S : jr K Cl H1 Z H σ ρ iw a w s) (sm : Same Cl H0 H1) : jr K Cl H0 Z H σ ρ iw a w s := by
  have h0 : ∀ b, jl a w b → H0 b = none := fun b h => sm.free (S.h0 b h)
  refine ⟨⟨S.si.di, ⟨fun b o e t => ?_, fun _ => S.si.di.tb, fun b e => ?_, fun b o xs e => (by
    have n : ¬ jl a w b := fun z => by
      obtain ⟨u, e2, k⟩ := S.wa.at_ z
      rw [e2] at e
      cases e
      cases k
    have e3 := S.si.same.nf b o xs e
    rw [ym n] at e3
    rw [ym n]
    exact sm.nf b o xs e3)⟩, fun b o => ?_⟩, S.wa, h0, S.nz, S.un⟩
  · by_cases h : jl a w b
    · rw [yY h] at e
      exact e
    · rw [ym h] at e
      exact S.si.same.d b o (by rw [ym h]; exact sm.d b o e t) t
  · by_cases h : jl a w b
    · rw [yY h] at e
      exact e
    · rw [ym h] at e
      exact S.si.same.live b (by rw [ym h]; exact sm.live b e)
  · have n : ¬ jl a w b := fun z => S.si.di.out b o (.inr z)
    have q := S.si.new b o
    rw [ym n] at q ⊢
    exact sm.free q
theorem RTW.rebase {H1 : Hp} (S : RTW K Cl H1 Z H a w s) (sm : Same Cl H0 H1) : RTW K Cl H0 Z H a w s := ⟨sm.trans S.same, S.tb, S.wa, fun b h => sm.free (S.h0 b h), S.nz⟩
theorem OkW.rebase {H1 : Hp} {D : Ends} {r : WS × Out} (sm : Same Cl H0 H1) (h : OkW K Cl W H0 Z iw a D r) : OkW K Cl W H1 Z iw a D r := by
  obtain ⟨s, o⟩ := r
  cases o with
  | nx ρ => exact fun σ H w S => h σ H w (S.rebase sm)
  | brk ρ => exact fun σ H w S => h σ H w (S.rebase sm)
  | ct ρ => exact fun σ H w S => h σ H w (S.rebase sm)
  | ret d => exact fun v H w R hd => h v H w (R.rebase sm) hd
  | retF ds => exact fun p xs H w R np nA hp hd => h p xs H w (R.rebase sm) (sm.free np) nA hp hd
  | retX ds k => exact h
  | exc ρ c i => exact fun dd σ H w S hd => h dd σ H w (S.rebase sm) hd
theorem jr.kept (S : jr K Cl (hide (vy H σ (ρ.set iw (.pin a))) (jl a w)) Z H' σ' ρ' iw a w' s') : vc (hide H (Zo (ZA Z a w) σ (ρ.set iw (.pin a)))) (hide H' (Zo (ZA Z a w') σ' (ρ'.set iw (.pin a)))) := fun b o e nt => by
  obtain ⟨n, e1⟩ := wm e
  have e2 : hide (vy H σ (ρ.set iw (.pin a))) (jl a w) b = some o := xg (fun z => n (.inl (.inr z))) (kL (fun z => n (.inr z)) e1)
  have nA : ¬ jl a w' b := fun z => by rw [S.h0 b z] at e2; cases e2
  refine xg (fun z => ?_) (S.si.same.d b o (by rw [ym nA]; exact e2) nt)
  rcases z with (z | z) | z
  · exact n (.inl (.inl z))
  · exact nA z
  · have q := S.si.new b z
    rw [ym nA, e2] at q
    cases q
section
variable {X : Cx} {tg e : Expr} {body : List Stmt} {pos : Pos} {it : FI} {g : FG} {fb : FW}
end
end
def wcg (xs : List D) : Bool := xs.all fun d => match d with
  | .int _ => true
  | _ => false
def vcg : D → Bool
  | .tuple _ => true
  | _ => false
def vbL (s : WS) (xs : List D) : Bool := wcg xs && (decide (xs.length ≠ s.ja5.length) && !(xs.isEmpty && s.kaB.isEmpty))
def vcH (s : WS) : D → Bool
  | .list xs => vbL s xs
  | d => yu d
def ycH (s : WS) (d : D) : Bool := s.kaB.all vcg && match d with
  | .tuple ds => ds.all (vcH s)
  | d => yu d
section
variable {K : PySem.W.Frag} {Cl : Nat → Addr} {W : WX} {H H' H0 Hs Hs' : Hp} {a : Addr} {w w' : WAd} {s s' : WS} {Z Y : Addr → Prop} {σ σ' : St} {ρ ρ' : xb} {iw : Nat}
theorem free_at (h : WA K Cl H Hs a w s) {b : Addr} {xs : List V} {ds : List D} (hb : H b = some (.lst xs)) (hd : DpAll K Hs' xs ds) (hf : vbL s ds = true) (ht : s.kaB.all vcg = true) : ¬ jl a w b := fun z => by
  unfold vbL at hf
  rw [Bool.and_eq_true, Bool.and_eq_true, decide_eq_true_eq, Bool.not_eq_true', Bool.and_eq_false_iff] at hf
  obtain ⟨h1, h2, h3⟩ := hf
  have hl := hd.length
  rcases z with rfl | rfl | rfl | rfl | rfl
  · obtain ⟨vr, vt, e, _⟩ := h.o
    rw [e] at hb
    cases hb
  · rw [h.d] at hb
    cases hb
  · rw [h.p] at hb
    cases hb
    rw [List.length_map] at hl
    exact h2 hl.symm
  · obtain ⟨ys, e, hy⟩ := h.sp
    rw [e] at hb
    cases hb
    have hl2 := hy.length
    generalize s.kaB = sp at hy hl2 h3 ht
    cases hd with
    | nil =>
      cases hy
      rcases h3 with h3 | h3 <;> cases h3
    | cons a1 a2 =>
      cases hy with
      | cons b1 b2 =>
        rename_i v vs d ds' d2 ds2
        unfold wcg at h1
        rw [List.all_cons, Bool.and_eq_true] at h1 ht
        cases d <;> first | cases h1.1 | skip
        cases d2 <;> first | cases ht.1 | skip
        rw [a1.int_inv] at b1
        cases b1
  · obtain ⟨kvs, e, _⟩ := h.nm
    rw [e] at hb
    cases hb
theorem zdl (h : WA K Cl H Hs a w s) {b : Addr} {xs : List V} {ds : List D} (hb : Rd (hide H Y) b (.lst xs)) (hd : DpAll K (hide H Y) xs ds) (hf : vbL s ds = true) (ht : s.kaB.all vcg = true) : Rd (hide H fun b => Y b ∨ jl a w b) b (.lst xs) := by
  rcases hb with hb | ⟨o, hb⟩
  · obtain ⟨n, e⟩ := wm hb
    exact .inl (xg (fun z => z.elim n (free_at h e hd hf ht)) e)
  · obtain ⟨n, e⟩ := wm hb
    refine .inr ⟨o, xg (fun z => z.elim n fun z => ?_) e⟩
    obtain ⟨u, e2, k⟩ := h.at_ z
    rw [e] at e2
    cases e2
    cases k
theorem xc3 {xs : List V} {ds : List D} (hl : wcg ds = true) (hd : DpAll K Hs xs ds) : DpAll K Hs' xs ds := DpAll.scalar (by
  rw [List.all_eq_true]
  intro d hd
  unfold wcg at hl
  have q := List.all_eq_true.mp hl d hd
  cases d <;> first | rfl | cases q) hd
theorem jcU (h : WA K Cl H Hs a w s) {v : V} {d : D} (hd : Dp K (hide H Y) v d) (hf : vcH s d = true) (ht : s.kaB.all vcg = true) : Dp K (hide H fun b => Y b ∨ jl a w b) v d := by
  cases d with
  | list ds =>
    obtain ⟨b, xs, rfl, r1, r2⟩ := hd.lst_inv
    have hf : vbL s ds = true := hf
    have hl : wcg ds = true := by
      unfold vbL at hf
      rw [Bool.and_eq_true] at hf
      exact hf.1
    exact .lst (zdl h r1 r2 hf ht) (xc3 hl r2)
  | none => exact Dp.scalar rfl hd
  | bool b => exact Dp.scalar rfl hd
  | int i => exact Dp.scalar rfl hd
  | str x => exact Dp.scalar rfl hd
  | tuple ds => cases hf
  | dict ks => cases hf
theorem xbT (h : WA K Cl H Hs a w s) (ht : s.kaB.all vcg = true) : ∀ {xs : List V} {ds : List D}, DpAll K (hide H Y) xs ds → ds.all (vcH s) = true → DpAll K (hide H fun b => Y b ∨ jl a w b) xs ds
  | _, _, .nil, _ => .nil
  | _, _, .cons q1 q2, hf => by
    rw [List.all_cons, Bool.and_eq_true] at hf
    exact .cons (jcU h q1 hf.1 ht) (xbT h ht q2 hf.2)
theorem jdl (h : WA K Cl H Hs a w s) {v : V} {d : D} (hd : Dp K (hide H Y) v d) (hf : ycH s d = true) : Dp K (hide H fun b => Y b ∨ jl a w b) v d := by
  unfold ycH at hf
  rw [Bool.and_eq_true] at hf
  obtain ⟨ht, hf⟩ := hf
  cases d with
  | tuple ds =>
    obtain ⟨T, xs, rfl, r1, r2⟩ := hd.qR
    refine .tup ?_ (xbT h ht r2 hf)
    have nk : ∀ {o : HO}, H T = some o → wa5 o = false → ¬ jl a w T := fun {o} e k z => by
      obtain ⟨u, e2, k2⟩ := h.at_ z
      rw [e] at e2
      cases e2
      rw [k] at k2
      cases k2
    rcases r1 with (r1 | ⟨o, r1⟩) | r1
    · obtain ⟨n, e⟩ := wm r1
      exact .inl (.inl (xg (fun z => z.elim n (nk e rfl)) e))
    · obtain ⟨n, e⟩ := wm r1
      exact .inl (.inr ⟨o, xg (fun z => z.elim n (nk e rfl)) e⟩)
    · exact .inr r1
  | none => exact Dp.scalar rfl hd
  | bool b => exact Dp.scalar rfl hd
  | int i => exact Dp.scalar rfl hd
  | str x => exact Dp.scalar rfl hd
  | list ds => cases hf
  | dict ks => cases hf
theorem jr.wc9 (S : jr K Cl H0 Z H σ ρ iw a w s) : (ρ.set iw (.pin a))[iw]? = some (.pin a) := by rw [List.getElem?_set, if_pos rfl, if_pos (List.getElem?_eq_some_iff.mp S.un).1]
theorem jr.vc9 (S : jr K Cl H0 Z H σ ρ iw a w s) (b : Addr) : xo σ (ρ.set iw (.ob 3000 s.of)) b ↔ xo σ (ρ.set iw (.pin a)) b := by
  have e : ρ.set iw (.ob 3000 s.of) = (ρ.set iw (.pin a)).set iw (.ob 3000 s.of) := by rw [List.set_set]
  rw [e]
  exact ⟨fun ⟨j, q⟩ => ⟨j, (zb6 (s := .pin a) (s' := .ob 3000 s.of) S.wc9 (show ¬ Slot.jaz (.pin a) from fun z => z) (show ¬ Slot.jaz (.ob 3000 s.of) from fun z => z) j b).mp q⟩, fun ⟨j, q⟩ => ⟨j, (zb6 (s := .pin a) (s' := .ob 3000 s.of) S.wc9 (show ¬ Slot.jaz (.pin a) from fun z => z) (show ¬ Slot.jaz (.ob 3000 s.of) from fun z => z) j b).mpr q⟩⟩
theorem jr.free (S : jr K Cl H0 Z H σ ρ iw a w s) {v : V} {d : D} (hd : Dp K (hide H (Zo Z σ (ρ.set iw (.ob 3000 s.of)))) v d) (hf : ycH s d = true) : Dp K (hide H (Zo (ZA Z a w) σ (ρ.set iw (.pin a)))) v d :=
  Dp.same (qe (vc.refl _) fun b hb => .inl (by
    rcases hb with (hb | hb) | hb
    · exact .inl (.inl hb)
    · exact .inr hb
    · exact .inl (.inr ((S.vc9 b).mpr hb)))) (jdl S.wa hd hf)
theorem jr.vY (S : jr K Cl H0 Z H σ ρ iw a w s) {j : Nat} {v : V} {d : D} (hj : iw ≠ j) (hd : Dp K (hide H (Zo (ZA Z a w) σ (ρ.set iw (.pin a)))) v d) : jr K Cl H0 Z H (σ.set j (some v)) (ρ.set j (.dat d)) iw a w s := by
  have e : (ρ.set j (.dat d)).set iw (.pin a) = (ρ.set iw (.pin a)).set j (.dat d) := List.set_comm _ _ (Ne.symm hj)
  have I := S.si.vY (i := j) hd
  have m : vc (hide H (Zo (ZA Z a w) σ (ρ.set iw (.pin a)))) (hide H (Zo (ZA Z a w) (σ.set j (some v)) ((ρ.set iw (.pin a)).set j (.dat d)))) := qe (vc.refl _) fun b hb => .inl (hb.imp id fun ⟨k, q⟩ => ⟨k, qY (s := .dat d) (fun z => nomatch z) q⟩)
  exact ⟨by rw [e]; exact I, by rw [e]; exact S.wa.same (fun _ _ => rfl) m, S.h0, S.nz, by rw [List.getElem?_set_ne (Ne.symm hj)]; exact S.un⟩
section
variable {X : Cx} {e : Expr} {f : FE} {pos : Pos}
end
open Classical in
noncomputable def pinned {β : Type} (iw : Nat) (g : xb → Option β) (ρ : xb) : Option β := if h : ∃ o, ∀ a, g (ρ.set iw (.pin a)) = some o then some h.choose else none
abbrev WF := WS → List D → Option (WS × kaV)
theorem jr.start {rest : List V} {ds : List D} {m : Nat} (live : vbQ Cl (ZA Z a w) H) (wa : WA K Cl H (hide H (ZA Z a w)) a w s) (nz : ∀ b, jl a w b → ¬ Z b) (h : DpAll K (hide H (ZA Z a w)) rest ds) : jr K Cl (hide H (jl a w)) Z H (some (.ref a) :: (rest.map some ++ List.replicate m none)) (.un :: (ds.map .dat ++ List.replicate m .un)) 0 a w s := by
  have e : kaM (hide H (jl a w)) H a w = H := funext fun b => by
    by_cases z : jl a w b
    · rw [yY z]
    · rw [ym z]
      unfold hide
      rw [if_neg z]
  have no : ∀ i b, ¬ jq (some (.ref a) :: (rest.map some ++ List.replicate m none)) (.pin a :: (ds.map .dat ++ List.replicate m .un)) i b := fun i b ho => by
    obtain ⟨t, h2, h3⟩ := ho.slot
    cases i with
    | zero => cases h2; cases h3
    | succ i =>
      have h2 : (ds.map Slot.dat ++ List.replicate m .un)[i]? = some t := h2
      rw [List.getElem?_append] at h2
      split at h2
      · rw [List.getElem?_map] at h2
        cases e : ds[i]? with
        | none => rw [e] at h2; cases h2
        | some d => rw [e] at h2; cases h2; cases h3
      · rw [List.getElem?_replicate] at h2
        split at h2
        · cases h2; cases h3
        · cases h2
  have hl := h.length
  have hm : vc (hide H (ZA Z a w)) (hide H (Zo (ZA Z a w) (some (.ref a) :: (rest.map some ++ List.replicate m none)) (.pin a :: (ds.map .dat ++ List.replicate m .un)))) := qe (vc.refl _) fun b hb => .inl (hb.elim id fun ⟨j, z⟩ => absurd z (no j b))
  refine ⟨?_, wa.same (fun _ _ => rfl) hm, fun b z => by unfold hide; rw [if_pos z], nz, rfl⟩
  rw [e]
  refine ⟨⟨by simp [hl], fun i j b h1 => absurd h1 (no i b), fun b ⟨i, z⟩ => absurd z (no i b), live.lv, fun i t e => ?_, live.tb⟩, Same.refl _, fun b ⟨i, z⟩ => absurd z (no i b)⟩
  cases i with
  | zero =>
    cases e
    exact rfl
  | succ i =>
    have e : (ds.map Slot.dat ++ List.replicate m .un)[i]? = some t := e
    show xbS K Cl H _ ((rest.map some ++ List.replicate m none)[i]?) t
    rw [List.getElem?_append] at e
    split at e
    · rename_i hi
      rw [List.length_map] at hi
      rw [List.getElem?_map] at e
      cases e1 : ds[i]? with
      | none => rw [e1] at e; cases e
      | some d =>
        rw [e1] at e
        cases e
        obtain ⟨v, e2, e3⟩ := h.get e1
        refine ⟨v, ?_, Dp.same hm e3⟩
        rw [List.getElem?_append_left (by rw [List.length_map, hl]; exact hi), List.getElem?_map, e2]
        rfl
    · rw [List.getElem?_replicate] at e
      split at e
      · cases e; trivial
      · cases e
theorem RTW.after {w0 : WAd} (R : RTW K Cl (hide H (jl a w0)) Z H' a w s) : After Cl H a w0 H' w := ⟨R.same, fun _ => R.tb, fun b hb => by
  have q := R.h0 b hb
  unfold hide at q
  split at q
  · rename_i z
    exact .inl z
  · exact .inr q⟩
end
section
variable {K : PySem.W.Frag} {Cl : Nat → Addr} {W : WX} {H H' H0 Hs Hs' : Hp} {a : Addr} {w w' : WAd} {s s' : WS} {Z Y : Addr → Prop} {σ σ' : St} {ρ ρ' : xb} {iw : Nat}
theorem zeq : ZA (Zo Z σ ρ) a w = Zo (ZA Z a w) σ ρ := funext fun b => propext ⟨fun h => by
  rcases h with (h | h) | h
  · exact .inl (.inl h)
  · exact .inr h
  · exact .inl (.inr h), fun h => by
  rcases h with (h | h) | h
  · exact .inl (.inl h)
  · exact .inr h
  · exact .inl (.inr h)⟩
section
variable {X : Cx} {o e : Expr} {es : List Expr} {g : FA} {pos cpos apos : Pos}
end
def ws0 : WS := ⟨0, [], 0, 0, -1, 0, 0, 0, [], [], [], []⟩
structure yej (Cl : Nat → Addr) (H H' : Hp) (x dx : Addr) (w : WAd) (pr pt : Addr) : Prop where
  edx : w.dx = dx
  o : H' x = some (.ins (Cl 3000) dx ((xaM 3000).zip (jcH w ws0 (.ref pr) (.ref pt))))
  d : H' dx = some (.own x)
  p : H' w.q = some (.lst [])
  r : H' w.r = some (.lst [])
  n : H' w.n = some (.dK [])
  hpr : H' pr = some (.lst [])
  hpt : H' pt = some (.lst [])
  nq : H w.q = none
  nr : H w.r = none
  nn : H w.n = none
  npr : H pr = none
  npt : H pt = none
  ap : w.q ≠ w.r ∧ pr ≠ w.q ∧ pr ≠ w.r ∧ pt ≠ w.q ∧ pt ≠ w.r
  keep : ∀ b o, H b = some o → b ≠ x → H' b = some o
  nf : ∀ b o xs, H' b = some (.frz o (.lst xs)) → H b = some (.frz o (.lst xs))
section
variable {X : Cx} {srest : List Stmt} {rest : FW} {pos p pos0 p1 : Pos}
end
end
section
variable {K : PySem.W.Frag} {Cl : Nat → Addr} {W : WX} {H H' H0 H1 H2 Hs Hs' : Hp} {a : Addr} {w w' : WAd} {s s' : WS} {Z Y : Addr → Prop} {σ σ' : St} {ρ ρ' : xb} {iw : Nat}
theorem jr.nk (S : jr K Cl H0 Z H σ ρ iw a w s) (sm : Same Cl H H1) {x : Addr} {u : HO} (hu : ∀ o v, u ≠ .frz o v) : ∀ b o xs, jl a w b → upd H1 x u b ≠ some (.frz o (.lst xs)) := fun b o xs h e => by
  by_cases z : b = x
  · rw [z, upd_same] at e
    exact hu _ _ (Option.some.inj e)
  · rw [upd_ne z, S.wa.kept sm h] at e
    obtain ⟨u2, e2, k⟩ := S.wa.at_ h
    rw [e2] at e
    cases e
    cases k
theorem jr.put (S : jr K Cl H0 Z H σ ρ iw a w s) (sm : Same Cl H H1) (nk : ∀ b o xs, jl a w b → H2 b ≠ some (.frz o (.lst xs))) (h2 : ∀ b, ¬ jl a w b → H2 b = H1 b) (new : ∀ b, jl a w' b → jl a w b ∨ H b = none) : After Cl H a w H2 w' := by
  have k1 : ∀ {b : Addr} {o : HO}, H1 b = some o → ((∃ ps, o = .tbl ps) ∨ ∃ q, o = LamX.CodeO b q) → ¬ jl a w b := fun {b o} e k z => by
    obtain ⟨u, e2, k2⟩ := S.wa.at_ z
    rw [S.wa.kept sm z, e2] at e
    cases e
    rcases k with ⟨ps, rfl⟩ | ⟨q, rfl⟩
    · cases k2
    · unfold LamX.CodeO at k2
      cases k2
  have tb : TBl Cl H → TBl Cl H2 := fun t q hq n => by
    obtain ⟨ps, e1, e2, e3⟩ := sm.tb t q hq n
    refine ⟨ps, by rw [h2 _ (k1 e1 (.inl ⟨ps, rfl⟩))]; exact e1, e2, fun pos cv hc => ?_⟩
    obtain ⟨c, e4, e5⟩ := e3 pos cv hc
    exact ⟨c, e4, by rw [h2 _ (k1 e5 (.inr ⟨_, rfl⟩))]; exact e5⟩
  refine ⟨⟨fun b o e t => ?_, fun _ => tb S.si.di.tb, fun b e => ?_, fun b o xs e => ?_⟩, tb, new⟩
  · obtain ⟨n, e1⟩ := wm e
    rw [h2 b n]
    exact sm.at e1 t
  · unfold hide at e
    split at e
    · exact absurd rfl e
    · rename_i n
      rw [h2 b n]
      exact sm.live b e
  · by_cases h : jl a w b
    · exact absurd e (nk b o xs h)
    · exact xg h (sm.nf b o xs (by rw [← h2 b h]; exact e))
section
variable {X : Cx} {o e : Expr} {f : Str} {fe : FE} {pos pos' apos cpos : Pos}
end
end
def qda : D → Bool
  | .tuple es => es.all yu
  | _ => false
def zbU (ps : List (Int × D)) (k : Int) (d : D) : List (Int × D) := if (ps.any fun p => decide (p.1 = k)) = true then ps.map (fun p => if p.1 = k then (p.1, d) else p) else ps ++ [(k, d)]
section
variable {K : PySem.W.Frag} {Cl : Nat → Addr} {W : WX} {H H' H0 H1 H2 Hs Hs' : Hp} {a : Addr} {w w' : WAd} {s s' : WS} {Z Y : Addr → Prop} {σ σ' : St} {ρ ρ' : xb} {iw : Nat}
theorem vn.len : ∀ {kvs : List (Key × V)} {ps : List (Int × D)}, vn K Hs kvs ps → kvs.length = ps.length
  | _, _, .nil => rfl
  | _, _, .cons _ t => by rw [List.length_cons, List.length_cons, vn.len t]
theorem vn.any {k : Int} : ∀ {kvs : List (Key × V)} {ps : List (Int × D)}, vn K Hs kvs ps → (kvs.any fun kv => decide (kv.1 = (Sum.inl k : Key))) = ps.any fun p => decide (p.1 = k)
  | _, _, .nil => rfl
  | _, _, .cons (k := j) _ t => by
    rw [List.any_cons, List.any_cons, vn.any t]
    congr 1
    exact decide_eq_decide.mpr ⟨fun h => Sum.inl.inj h, fun h => congrArg Sum.inl h⟩
theorem vn.snoc {k : Int} {v : V} {d : D} (h : Dp K Hs v d) : ∀ {kvs : List (Key × V)} {ps : List (Int × D)}, vn K Hs kvs ps → vn K Hs (kvs ++ [(Sum.inl k, v)]) (ps ++ [(k, d)])
  | _, _, .nil => .cons h .nil
  | _, _, .cons q t => .cons q (vn.snoc h t)
theorem vn.repl {k : Int} {v : V} {d : D} (h : Dp K Hs v d) : ∀ {kvs : List (Key × V)} {ps : List (Int × D)}, vn K Hs kvs ps → vn K Hs (kvs.map fun kv => if kv.1 = (Sum.inl k : Key) then (kv.1, v) else kv) (ps.map fun p => if p.1 = k then (p.1, d) else p)
  | _, _, .nil => .nil
  | _, _, .cons (k := j) q t => by
    rw [List.map_cons, List.map_cons]
    by_cases z : j = k
    · subst z
      rw [if_pos rfl, if_pos rfl]
      exact .cons h (vn.repl h t)
    · rw [if_neg (fun y => z (Sum.inl.inj y)), if_neg z]
      exact .cons q (vn.repl h t)
theorem vn.put {k : Int} {v : V} {d : D} {kvs : List (Key × V)} {ps : List (Int × D)} (q : vn K Hs kvs ps) (h : Dp K Hs v d) : vn K Hs (putK kvs (Sum.inl k : Key) v) (zbU ps k d) := by
  unfold putK zbU
  rw [q.any]
  split
  · exact q.repl h
  · exact q.snoc h
theorem vdl {B : Addr → Prop} (hB : ∀ b, B b → ∃ u, H b = some u ∧ wa5 u = true) {v : V} {d : D} (hd : Dp K (hide H Y) v d) (hs : qda d = true) : Dp K (hide H fun b => Y b ∨ B b) v d := by
  cases d with
  | tuple es =>
    obtain ⟨T, xs, rfl, r1, r2⟩ := hd.qR
    have nk : ∀ {o : HO}, H T = some o → wa5 o = false → ¬ B T := fun {o} e k z => by
      obtain ⟨u, e2, k2⟩ := hB T z
      rw [e] at e2
      cases e2
      rw [k] at k2
      cases k2
    refine .tup ?_ (DpAll.scalar hs r2)
    rcases r1 with (r1 | ⟨o, r1⟩) | r1
    · obtain ⟨n, e⟩ := wm r1
      exact .inl (.inl (xg (fun z => z.elim n (nk e rfl)) e))
    · obtain ⟨n, e⟩ := wm r1
      exact .inl (.inr ⟨o, xg (fun z => z.elim n (nk e rfl)) e⟩)
    · exact .inr r1
  | _ => cases hs
theorem jr.app {i : Int} (S : jr K Cl H0 Z H σ ρ iw a w s) : jr K Cl H0 Z (upd H w.q (.lst (s.ja5.map V.int ++ [.int i]))) σ ρ iw a w { s with ja5 := s.ja5 ++ [i] } := by
  obtain ⟨vr, vt, e1, e2, e3⟩ := S.wa.o
  have af := S.put (H1 := H) (H2 := upd H w.q (.lst (s.ja5.map V.int ++ [.int i]))) (w' := w) (Same.refl _) (S.nk (Same.refl _) fun _ _ z => nomatch z) (fun b n => upd_ne (fun z => n (.inr (.inr (.inl z))))) (fun b h => .inl h)
  have m := S.wbB af
  have ne : ∀ {b : Addr} {o : HO}, H b = some o → (∀ l, o ≠ .lst l) → b ≠ w.q := fun {b o} h n z => by
    rw [z, S.wa.p] at h
    exact n _ (Option.some.inj h).symm
  obtain ⟨xs, e4, e5⟩ := S.wa.sp
  obtain ⟨kvs, e6, e7⟩ := S.wa.nm
  refine S.after af ⟨⟨vr, vt, ?_, Dp.same m e2, Dp.same m e3⟩, ?_, ?_, ⟨xs, ?_, DpAll.same m e5⟩, ⟨kvs, ?_, e7.same m⟩, S.wa.qr⟩
  · rw [upd_ne (ne e1 fun _ z => by cases z)]
    exact e1
  · rw [upd_ne (ne S.wa.d fun _ z => by cases z)]
    exact S.wa.d
  · rw [upd_same]
    show _ = some (HO.lst ((s.ja5 ++ [i]).map V.int))
    rw [List.map_append]
    rfl
  · rw [upd_ne S.wa.qr.symm]
    exact e4
  · rw [upd_ne (ne e6 fun _ z => by cases z)]
    exact e6
theorem jr.putAt {j : Nat} {x : V} {d : D} {xs : List V} (S : jr K Cl H0 Z H σ ρ iw a w s) (hr : H w.r = some (.lst xs)) (hx : Dp K (hide H (Zo (ZA Z a w) σ (ρ.set iw (.pin a)))) x d) : jr K Cl H0 Z (upd H w.r (.lst (xs.set j x))) σ ρ iw a w { s with kaB := s.kaB.set j d } := by
  obtain ⟨vr, vt, e1, e2, e3⟩ := S.wa.o
  have af := S.put (H1 := H) (H2 := upd H w.r (.lst (xs.set j x))) (w' := w) (Same.refl _) (S.nk (Same.refl _) fun _ _ z => nomatch z) (fun b n => upd_ne (fun z => n (.inr (.inr (.inr (.inl z)))))) (fun b h => .inl h)
  have m := S.wbB af
  obtain ⟨ys, e4, e5⟩ := S.wa.sp
  rw [hr] at e4
  cases e4
  have ne : ∀ {b : Addr} {o : HO}, H b = some o → (∀ l, o ≠ .lst l) → b ≠ w.r := fun {b o} h n z => by
    rw [z, hr] at h
    exact n _ (Option.some.inj h).symm
  obtain ⟨kvs, e6, e7⟩ := S.wa.nm
  refine S.after af ⟨⟨vr, vt, ?_, Dp.same m e2, Dp.same m e3⟩, ?_, ?_, ⟨_, upd_same, DpAll.set (Dp.same m hx) j (DpAll.same m e5)⟩, ⟨kvs, ?_, e7.same m⟩, S.wa.qr⟩
  · rw [upd_ne (ne e1 fun _ z => by cases z)]
    exact e1
  · rw [upd_ne (ne S.wa.d fun _ z => by cases z)]
    exact S.wa.d
  · rw [upd_ne S.wa.qr]
    exact S.wa.p
  · rw [upd_ne (ne e6 fun _ z => by cases z)]
    exact e6
theorem jr.tup (S : jr K Cl H0 Z H σ ρ iw a w s) {v : V} {d : D} (hd : Dp K (hide H (Zo Z σ (ρ.set iw (.ob 3000 s.of)))) v d) (hs : qda d = true) : Dp K (hide H (Zo (ZA Z a w) σ (ρ.set iw (.pin a)))) v d :=
  Dp.same (qe (vc.refl _) fun b hb => .inl (by
    rcases hb with (hb | hb) | hb
    · exact .inl (.inl hb)
    · exact .inr hb
    · exact .inl (.inr ((S.vc9 b).mpr hb)))) (vdl (B := jl a w) (fun b hb => S.wa.at_ hb) hd hs)
section
variable {X : Cx} {o e i : Expr} {fe fk : FE} {pos pos' apos cpos : Pos}
end
end
theorem kcg : ∀ {ns : List Str} {vs : List V} {f : Str} {y : V}, f ∉ ns → vs.length = ns.length → putF f y (ns.zip vs) = (ns ++ [f]).zip (vs ++ [y])
  | [], [], f, y, _, _ => rfl
  | [], _ :: _, _, _, _, h => nomatch h
  | _ :: _, [], _, _, _, h => nomatch h
  | n :: ns, v :: vs, f, y, h1, h2 => by
    show (if n = f then (n, y) :: ns.zip vs else (n, v) :: putF f y (ns.zip vs)) = _
    rw [if_neg (fun z => h1 (by rw [z]; exact List.mem_cons_self)), kcg (fun z => h1 (List.mem_cons_of_mem _ z)) (Nat.succ.inj h2)]
    rfl
structure Par (C : Addr) (H H' : Hp) (x dx : Addr) (ns : List Str) (vs : List V) (ls : List (Addr × HO)) : Prop where
  o : H' x = some (.ins C dx (ns.zip vs))
  hx : H x = some (.ins C dx [])
  ln : vs.length = ns.length
  hl : ∀ p ∈ ls, H' p.1 = some p.2 ∧ H p.1 = none
  nd : (ls.map (·.1)).Nodup
  keep : ∀ b o, H b = some o → b ≠ x → H' b = some o
  nf : ∀ b o xs, H' b = some (.frz o (.lst xs)) → H b = some (.frz o (.lst xs))
section
variable {K : PySem.W.Frag} {C : Addr} {H H' : Hp} {x dx p : Addr} {ns : List Str} {vs : List V} {ls : List (Addr × HO)} {f : Str} {v : V} {o : HO} {D : Ends}
theorem Par.ne (S : Par C H H' x dx ns vs ls) {q : Addr × HO} (h : q ∈ ls) : q.1 ≠ x := fun z => by
  have := (S.hl q h).2
  rw [z, S.hx] at this
  cases this
theorem Par.val (S : Par C H H' x dx ns vs ls) (n : f ∉ ns) : Par C H (upd H' x (.ins C dx (putF f v (ns.zip vs)))) x dx (ns ++ [f]) (vs ++ [v]) ls :=
  ⟨by rw [upd_same, kcg n S.ln], S.hx, by rw [List.length_append, List.length_append, S.ln]; rfl, fun q h => ⟨by rw [upd_ne (S.ne h)]; exact (S.hl q h).1, (S.hl q h).2⟩, S.nd, fun b o e n => (by rw [upd_ne n]; exact S.keep b o e n), fun b o xs e => (by
    by_cases z : b = x
    · rw [z, upd_same] at e
      cases e
    · rw [upd_ne z] at e
      exact S.nf b o xs e)⟩
theorem Par.ob (S : Par C H H' x dx ns vs ls) (np : H' p = none) (no : ∀ o' v', o ≠ .frz o' v') : Par C H (upd H' p o) x dx ns vs (ls ++ [(p, o)]) := by
  have nx : x ≠ p := ne_of_none S.o np
  have nH : H p = none := by
    cases e : H p with
    | none => rfl
    | some u =>
      by_cases z : p = x
      · exact absurd z.symm nx
      · rw [S.keep p u e z] at np
        cases np
  refine ⟨by rw [upd_ne nx]; exact S.o, S.hx, S.ln, fun q h => ?_, ?_, fun b o e n => (by rw [upd_ne (ne_of_none e nH)]; exact S.keep b o e n), fun b o' xs e => (by
    by_cases z : b = p
    · rw [z, upd_same] at e
      exact absurd (Option.some.inj e) (no _ _)
    · rw [upd_ne z] at e
      exact S.nf b o' xs e)⟩
  · rcases List.mem_append.mp h with h | h
    · refine ⟨?_, (S.hl q h).2⟩
      rw [upd_ne (ne_of_none (S.hl q h).1 np)]
      exact (S.hl q h).1
    · cases List.mem_singleton.mp h
      exact ⟨upd_same, nH⟩
  · rw [List.map_append, List.nodup_append]
    refine ⟨S.nd, List.nodup_cons.mpr ⟨List.not_mem_nil, List.nodup_nil⟩, fun a ha b hb => ?_⟩
    obtain ⟨q, hq, rfl⟩ := List.mem_map.mp ha
    cases List.mem_singleton.mp hb
    exact ne_of_none (S.hl q hq).1 np
end
section
variable {K : PySem.W.Frag} {Cl : Nat → Addr} {vs : List V} {H : Hp} {Q : VK} {E : XK} {D : Ends}
end
section
variable {X : Cx} {Cl : Nat → Addr} {W : WX} {st : Stmt}
end
section
variable {X : Cx} {Cl : Nat → Addr} {W : WX} {a b c : Expr} {g : FA} {pos : Pos} {K : PySem.W.Frag} {H : Hp} {Z : Addr → Prop} {σ : St} {ρ : xb}
end
section
variable {X : Cx} {Cl : Nat → Addr} {W : WX} {e : Expr} {es : List Expr} {g : FA} {f2 : FE} {t1 t3 : FT} {rest : FS}
end
def zbZ (K : PySem.W.Frag) (k : Nat) (H H' : Hp) (v : V) (d : D) : Prop := ∃ (T : Addr) (ys : List V) (ds : List D) (q : Addr) (zs : List V) (ws : List D), v = V.ref T ∧ d = .tuple ds ∧ SqT K H' T ys ∧ ys[k]? = some (V.ref q) ∧ ds[k]? = some (.list ws) ∧ H q = none ∧ H' q = some (.lst zs) ∧ zs.length = ws.length
abbrev TY := List D → Option D
section
variable {K : PySem.W.Frag} {Cl : Nat → Addr} {H H0 H1 H2 : Hp} {k : Nat} {v : V} {d : D}
theorem zbZ.same (t : zbZ K k H0 H1 v d) (s : Same Cl H1 H2) : zbZ K k H0 H2 v d := by
  obtain ⟨T, ys, ds, q, zs, ws, e1, e2, h1, h2, h3, h4, h5, h6⟩ := t
  exact ⟨T, ys, ds, q, zs, ws, e1, e2, SqT.same s.d h1, h2, h3, h4, s.at h5, h6⟩
theorem zbZ.from (t : zbZ K k H1 H2 v d) (s : Same Cl H0 H1) : zbZ K k H0 H2 v d := by
  obtain ⟨T, ys, ds, q, zs, ws, e1, e2, h1, h2, h3, h4, h5, h6⟩ := t
  exact ⟨T, ys, ds, q, zs, ws, e1, e2, h1, h2, h3, s.free h4, h5, h6⟩
end
section
variable {K : PySem.W.Frag} {Cl : Nat → Addr}
theorem kc3 {vs : List V} {ds : List D} {m : Nat} {i : Nat} {a : Addr} (ho : jq (vs.map some ++ List.replicate m none) (ds.map .dat ++ List.replicate m .un) i a) : False := by
  obtain ⟨s, h2, h3⟩ := ho.slot
  rw [List.getElem?_append] at h2
  split at h2
  · rw [List.getElem?_map] at h2
    cases e : ds[i]? with
    | none => rw [e] at h2; cases h2
    | some d => rw [e] at h2; cases h2; cases h3
  · rw [List.getElem?_replicate] at h2
    split at h2
    · cases h2; cases h3
    · cases h2
theorem SI.start {Z : Addr → Prop} {H : Hp} {vs : List V} {ds : List D} {m : Nat} (live : vbQ Cl Z H) (h : DpAll K (hide H Z) vs ds) : SI K Cl H Z H (vs.map some ++ List.replicate m none) (ds.map .dat ++ List.replicate m .un) :=
  ⟨DI.start live h, Same.refl _, fun b ⟨i, o⟩ => (kc3 o).elim⟩
end
section
variable {X : Cx} {Cl : Nat → Addr} {W : WX} {a b : Expr} {fa fb : FE}
end
section
variable {K : PySem.W.Frag} {Cl : Nat → Addr} {Hs : Hp}
theorem vn.at {n : Int} {d : D} : ∀ {kvs : List (Key × V)} {ps : List (Int × D)}, vn K Hs kvs ps → jbB ps n = some d → ∃ (v : V) (j : Nat), valV kvs (Sum.inl n : Key) = some v ∧ kvs[j]? = some ((Sum.inl n : Key), v) ∧ ps[j]? = some (n, d) ∧ Dp K Hs v d
  | _, _, .nil, e => by cases e
  | _, _, .cons (k := k) (v := v) (d := d0) (kvs := kvs) (ps := ps) h t, e => by
    unfold jbB at e
    by_cases z : k = n
    · subst z
      rw [if_pos rfl] at e
      cases e
      exact ⟨v, 0, valV_pos (p := ((Sum.inl k : Key), v)) rfl, rfl, rfl, h⟩
    · rw [if_neg z] at e
      obtain ⟨v2, j, h1, h2, h3, h4⟩ := vn.at t e
      exact ⟨v2, j + 1, by rw [valV_neg (p := ((Sum.inl k : Key), v)) (fun y => z (Sum.inl.inj y))]; exact h1, by simpa using h2, by simpa using h3, h4⟩
theorem SI.qdD {H0 H : Hp} {Z : Addr → Prop} {σ : St} {ρ : xb} (I : SI K Cl H0 Z H σ ρ) {q : Addr} {ys zs : List (Key × V)} (hz : Z q) (h0 : H0 q = none) (hq : H q = some (.dK ys)) : SI K Cl H0 Z (upd H q (.dK zs)) σ ρ := by
  have hm : vc (hide H (Zo Z σ ρ)) (hide (upd H q (.dK zs)) (Zo Z σ ρ)) := fun b o e _ => by
    obtain ⟨n, e1⟩ := wm e
    exact xg n (by rw [upd_ne fun z => n (.inl (by rw [z]; exact hz))]; exact e1)
  have no : ∀ a, xo σ ρ a → a ≠ q := fun a o z => I.di.out a o (by rw [z]; exact hz)
  have n1 : ∀ ps, (HO.dK ys) ≠ .tbl ps := fun ps z => nomatch z
  have n2 : ∀ s, (HO.dK ys) ≠ LamX.CodeO q s := fun s z => by unfold LamX.CodeO at z; cases z
  refine ⟨⟨I.di.len, I.di.one, I.di.out, fun a z => ?_, fun i t e => ?_, I.di.tb.ycd hq n1 n2⟩, I.same.ycd h0 hq n1 n2 (fun _ _ z => nomatch z), I.new⟩
  · by_cases e : a = q
    · rw [e, upd_same]
      intro z; cases z
    · rw [upd_ne e]
      exact I.di.live a z
  · have k := I.di.slots i t e
    cases t with
    | un => trivial
    | dat d =>
      obtain ⟨v, e1, h1⟩ := k
      exact ⟨v, e1, Dp.same hm h1⟩
    | own ds =>
      obtain ⟨a, xs, e1, e2, h1⟩ := k
      exact ⟨a, xs, e1, by rw [upd_ne (no a ⟨i, .inl ⟨e1, ds, e⟩⟩)]; exact e2, DpAll.same hm h1⟩
    | err a dd j =>
      have nd : dd ≠ q := fun z => by
        have k2 := k.2
        rw [z, hq] at k2
        cases k2
      exact ⟨k.1, by rw [upd_ne nd]; exact k.2⟩
    | ownT a k' gs =>
      obtain ⟨T, e1, h1⟩ := k
      exact ⟨T, e1, h1.same hm fun _ z => by rw [upd_ne (no a ⟨i, .inr (.inl ⟨k', gs, e⟩)⟩)]; exact z⟩
    | pin a => exact k
    | ob k fs => exact kat.same hm k
    | vX a c =>
      obtain ⟨e1, u, e2, h1⟩ := k
      exact ⟨e1, u, by rw [upd_ne (no a ⟨i, .inr (.inr ⟨c, e⟩)⟩)]; exact e2, h1.same hm⟩
end
section
variable {X : Cx} {Cl : Nat → Addr} {W : WX} {tg iter c1 ke ke2 ae : Expr} {it : FI} {g : FG} {t1 : FT} {fk : FE} {ga : FA} {F : TY}
end
section
variable {P : Program} {w : World} {A : Around} {E : Value → Shared → Prop} {s : Shared}
end
section
variable {X : Cx} {Cl : Nat → Addr} {W : WX} {e : Expr} {fe : FE}
end
structure RS where
  ws : WS
  found : List D
  cont : List (Int × D)
structure RAd where
  dx : Addr
  a : Addr
  w : WAd
  f : Addr
  c : Addr
  k : Addr
def qc4 (r : Addr) (x : RAd) : Addr → Prop := fun b => b = r ∨ b = x.dx ∨ b = x.f ∨ b = x.c ∨ b = x.k
def inR (r : Addr) (x : RAd) : Addr → Prop := fun b => qc4 r x b ∨ jl x.a x.w b
def xcd (x : RAd) : List V := [.ref x.a, .ref x.f, .ref x.c, .ref x.k]
structure RA (K : PySem.W.Frag) (Cl : Nat → Addr) (H Hs : Hp) (r : Addr) (x : RAd) (s : RS) : Prop where
  o : H r = some (.ins (Cl 3001) x.dx ((xaM 3001).zip (xcd x)))
  d : H x.dx = some (.own r)
  wa : WA K Cl H Hs x.a x.w s.ws
  f : ∃ xs, H x.f = some (.lst xs) ∧ DpAll K Hs xs s.found
  c : ∃ kvs, H x.c = some (.dK kvs) ∧ vn K Hs kvs s.cont
  k : H x.k = some (.lst [])
  ap : ∀ b, qc4 r x b → ¬ jl x.a x.w b
  fk : x.f ≠ x.k
def ZR (Z : Addr → Prop) (r : Addr) (x : RAd) : Addr → Prop := fun b => Z b ∨ inR r x b
structure ybe (Cl : Nat → Addr) (H : Hp) (r : Addr) (x : RAd) (H' : Hp) (x' : RAd) : Prop where
  s : Same Cl (hide H (inR r x)) H'
  tb : TBl Cl H → TBl Cl H'
  new : ∀ b, inR r x' b → inR r x b ∨ H b = none
section
variable {K : PySem.W.Frag} {Cl : Nat → Addr} {H H' H0 H1 H2 Hs Hs' : Hp} {r : Addr} {x x' : RAd} {s s' : RS} {Z Y : Addr → Prop} {σ σ' : St} {ρ ρ' : xb}
theorem RA.at_ (h : RA K Cl H Hs r x s) {b : Addr} (hb : inR r x b) : ∃ u, H b = some u ∧ wa5 u = true := by
  obtain ⟨xs, h2, _⟩ := h.f
  obtain ⟨kvs, h3, _⟩ := h.c
  rcases hb with (rfl | rfl | rfl | rfl | rfl) | hb
  · exact ⟨_, h.o, rfl⟩
  · exact ⟨_, h.d, rfl⟩
  · exact ⟨_, h2, rfl⟩
  · exact ⟨_, h3, rfl⟩
  · exact ⟨_, h.k, rfl⟩
  · exact h.wa.at_ hb
theorem RA.same (h : RA K Cl H Hs r x s) (h1 : ∀ b, inR r x b → H' b = H b) (m : vc Hs Hs') : RA K Cl H' Hs' r x s := by
  obtain ⟨xs, e1, e2⟩ := h.f
  obtain ⟨kvs, e3, e4⟩ := h.c
  exact ⟨by rw [h1 _ (.inl (.inl rfl))]; exact h.o, by rw [h1 _ (.inl (.inr (.inl rfl)))]; exact h.d, h.wa.same (fun b hb => h1 b (.inr hb)) m, ⟨xs, by rw [h1 _ (.inl (.inr (.inr (.inl rfl))))]; exact e1, DpAll.same m e2⟩,
    ⟨kvs, by rw [h1 _ (.inl (.inr (.inr (.inr (.inl rfl)))))]; exact e3, e4.same m⟩, by rw [h1 _ (.inl (.inr (.inr (.inr (.inr rfl)))))]; exact h.k, h.ap, h.fk⟩
theorem RA.kept (h : RA K Cl H Hs r x s) (sm : Same Cl H H') {b : Addr} (hb : inR r x b) : H' b = H b := by
  obtain ⟨u, e, k⟩ := h.at_ hb
  rw [e, sm.at e (va5 k)]
theorem RA.up (h : RA K Cl H (hide H Y) r x s) (sm : Same Cl H H') : RA K Cl H' (hide H' Y) r x s := h.same (fun b hb => h.kept sm hb) (vw sm fun _ h => .inl h)
theorem Same.hidden {S : Addr → Prop} (sm : Same Cl H0 H) (n : ∀ b, S b → H0 b = none) (k : ∀ b, S b → ∃ u, H b = some u ∧ wa5 u = true) : Same Cl H0 (hide H S) := by
  have nS : ∀ {b : Addr}, H0 b ≠ none → ¬ S b := fun {b} e z => e (n b z)
  have nt : ∀ {b : Addr} {o : HO}, H b = some o → ((∃ ps, o = .tbl ps) ∨ ∃ q, o = LamX.CodeO b q) → ¬ S b := fun {b o} e k2 z => by
    obtain ⟨u, e2, k3⟩ := k b z
    rw [e] at e2
    cases e2
    rcases k2 with ⟨ps, rfl⟩ | ⟨q, rfl⟩
    · cases k3
    · unfold LamX.CodeO at k3
      cases k3
  refine ⟨fun b o e t => xg (nS (by rw [e]; intro z; cases z)) (sm.d b o e t), fun t q hq m => ?_, fun b e z => ?_, fun b o xs e => sm.nf b o xs (wm e).2⟩
  · obtain ⟨ps, h1, h2, h3⟩ := sm.tb t q hq m
    refine ⟨ps, xg (nt h1 (.inl ⟨ps, rfl⟩)) h1, h2, fun pos cv hc => ?_⟩
    obtain ⟨c, e1, e2⟩ := h3 pos cv hc
    exact ⟨c, e1, xg (nt e2 (.inr ⟨_, rfl⟩)) e2⟩
  · unfold hide at z
    rw [if_neg (nS e)] at z
    exact sm.live b e z
end
abbrev FC := D → List (Int × D) → Option (List D)
section
variable {K : PySem.W.Frag} {Cl : Nat → Addr}
end
section
variable {X : Cx} {Cl : Nat → Addr} {W : WX} {c1 ke e0 : Expr} {t1 : FT} {fk : FE} {fin : FS} {tr : Stmt}
end
abbrev RF := RS → List D → Option (RS × List D)
theorem xds : (xaM 3001).Nodup := by decide +kernel
section
variable {K : PySem.W.Frag} {Cl : Nat → Addr} {H H' H0 H1 H2 Hs Hs' : Hp} {r : Addr} {x x' : RAd} {s s' : RS} {Z Y Y' : Addr → Prop} {σ σ' : St} {ρ ρ' : xb}
theorem RA.mv (h : RA K Cl H (hide H Y) r x s) (sm : Same Cl H H') (y : ∀ b, Y' b → Y b ∨ H b = none) : RA K Cl H' (hide H' Y') r x s := h.same (fun b hb => h.kept sm hb) (vw sm y)
theorem RA.look (h : RA K Cl H Hs r x s) {j : Nat} {f : Str} {v : V} (h1 : (xaM 3001)[j]? = some f) (h2 : (xcd x)[j]? = some v) : ((xaM 3001).zip (xcd x)).lookup f = some v := ybT xds h1 h2
structure RB (K : PySem.W.Frag) (Cl : Nat → Addr) (H0 : Hp) (Z : Addr → Prop) (H : Hp) (σ : St) (ρ : xb) (r : Addr) (x : RAd) (s : RS) : Prop where
  si : SI K Cl (hide H0 (inR r x)) (ZR Z r x) H σ ρ
  ra : RA K Cl H (hide H (Zo (ZR Z r x) σ ρ)) r x s
  nz : ∀ b, inR r x b → ¬ Z b
  me : ρ[0]? = some (.pin r)
theorem RB.up (B : RB K Cl H0 Z H σ ρ r x s) (sm : Same Cl H H') : RB K Cl H0 Z H' σ ρ r x s := ⟨B.si.kO sm, B.ra.up sm, B.nz, B.me⟩
theorem RB.vY (B : RB K Cl H0 Z H σ ρ r x s) {i : Nat} {v : V} {d : DL.D} (hi : i ≠ 0) (h : Dp K (hide H (Zo (ZR Z r x) σ ρ)) v d) : RB K Cl H0 Z H (σ.set i (some v)) (ρ.set i (.dat d)) r x s :=
  ⟨B.si.vY h, B.ra.mv (Same.refl _) fun b hb => .inl (hb.imp id fun ⟨j, q⟩ => ⟨j, qY (s := .dat d) (fun z => nomatch z) q⟩), B.nz, by rw [List.getElem?_set_ne hi]; exact B.me⟩
theorem RB.zbB (B : RB K Cl H0 Z H σ ρ r x s) {i : Nat} {p : Addr} {xs : List V} {ds : List DL.D} (hi : i ≠ 0) (np : H p = none) (h : DpAll K (hide (upd H p (.lst xs)) (ZP (Zo (ZR Z r x) σ ρ) p)) xs ds) : RB K Cl H0 Z (upd H p (.lst xs)) (σ.set i (some (.ref p))) (ρ.set i (.own ds)) r x s := by
  have sm : Same Cl H (upd H p (.lst xs)) := yC np
  refine ⟨B.si.zbB sm np upd_same h, B.ra.mv sm fun b hb => ?_, B.nz, by rw [List.getElem?_set_ne hi]; exact B.me⟩
  rcases hb with hb | ⟨j, hb⟩
  · exact .inl (.inl hb)
  · by_cases hj : i = j
    · subst hj
      obtain ⟨h1, ds', h2⟩ | ⟨k, ds', h2⟩ | ⟨c, h2⟩ := hb
      · have hlt : i < (σ.set i (some (.ref p))).length := (List.getElem?_eq_some_iff.mp h1).1
        rw [List.length_set] at hlt
        rw [List.getElem?_set, if_pos rfl, if_pos hlt] at h1
        cases h1
        exact .inr np
      · rw [List.getElem?_set, if_pos rfl] at h2
        split at h2 <;> cases h2
      · rw [List.getElem?_set, if_pos rfl] at h2
        split at h2 <;> cases h2
    · unfold jq at hb
      rw [List.getElem?_set_ne hj, List.getElem?_set_ne hj] at hb
      exact .inl (.inr ⟨j, hb⟩)
theorem RB.out (B : RB K Cl H0 Z H σ ρ r x s) {b : Addr} (o : xo σ ρ b) : ¬ inR r x b := fun z => B.si.di.out b o (.inr z)
end
section
variable {X : Cx} {Cl : Nat → Addr} {W : WX} {H H0 : Hp} {r : Addr} {x : RAd} {s s' : RS} {Z : Addr → Prop} {σ : St} {ρ : xb}
end
section
variable {K : PySem.W.Frag} {Cl : Nat → Addr} {W : WX} {H H' H0 H1 : Hp} {r : Addr} {x : RAd} {s s' : RS} {Z Y : Addr → Prop} {σ σ' : St} {ρ ρ' : xb} {D : Ends}
theorem RB.step (B : RB K Cl H0 Z H σ ρ r x s) (I : SI K Cl (vy H σ ρ) (ZR Z r x) H' σ' ρ') (hp : ρ'[0]? = some (.pin r)) : RB K Cl H0 Z H' σ' ρ' r x s := by
  obtain ⟨b0, I2⟩ := B.si.based
  refine ⟨I.rebase b0, B.ra.same (fun b hb => ?_) I.kept, B.nz, hp⟩
  obtain ⟨u, e, k⟩ := B.ra.at_ hb
  rw [e]
  exact I.same.at (kL (fun z => B.out z hb) e) (va5 k)
theorem RB.ts {f : FS} (B : RB K Cl H0 Z H σ ρ r x s) (e : f ρ = some (.nx ρ')) (hp : ρ'[0]? = some (.pin r)) (k : ∀ σ' H', RB K Cl H0 Z H' σ' ρ' r x s → D.nx σ' H') : ybk K Cl W f D σ H :=
  ⟨_, _, ρ, .nx ρ', B.si.based.2, e, fun σ' H' I => k σ' H' (B.step I hp)⟩
theorem RB.zeq (r : Addr) (x : RAd) (Z : Addr → Prop) (σ : St) (ρ : xb) : Zo (ZR Z r x) σ ρ = ZA (fun b => Zo Z σ ρ b ∨ qc4 r x b) x.a x.w := funext fun b => propext ⟨fun h => by
  rcases h with (h | h | h) | h
  · exact .inl (.inl (.inl h))
  · exact .inl (.inr h)
  · exact .inr h
  · exact .inl (.inl (.inr h)), fun h => by
  rcases h with ((h | h) | h) | h
  · exact .inl (.inl h)
  · exact .inr h
  · exact .inl (.inr (.inl h))
  · exact .inl (.inr (.inr h))⟩
theorem vbB {q : Addr} {u : HO} (h : Y q) : vc (hide H Y) (hide (upd H q u) Y) := fun b o e _ => by
  obtain ⟨n, e1⟩ := wm e
  exact xg n (by rw [upd_ne fun z => n (by rw [z]; exact h)]; exact e1)
theorem RB.found (B : RB K Cl H0 Z H σ ρ r x s) {v : V} {d : DL.D} {xs : List V} (hx : H x.f = some (.lst xs)) (hxs : DpAll K (hide H (Zo (ZR Z r x) σ ρ)) xs s.found) (hd : Dp K (hide H (Zo (ZR Z r x) σ ρ)) v d) : RB K Cl H0 Z (upd H x.f (.lst (xs ++ [v]))) σ ρ r x { s with found := s.found ++ [d] } := by
  have A := B.ra
  have inf : inR r x x.f := .inl (.inr (.inr (.inl rfl)))
  have m : vc (hide H (Zo (ZR Z r x) σ ρ)) (hide (upd H x.f (.lst (xs ++ [v]))) (Zo (ZR Z r x) σ ρ)) := vbB (.inl (.inr inf))
  have nI : r ≠ x.f := fun z => by
    have := A.o
    rw [z, hx] at this
    cases this
  have nD : x.dx ≠ x.f := fun z => by
    have := A.d
    rw [z, hx] at this
    cases this
  obtain ⟨kvs, c1, c2⟩ := A.c
  have nC : x.c ≠ x.f := fun z => by
    rw [z, hx] at c1
    cases c1
  refine ⟨B.si.yc3 (.inr inf) (by unfold hide; rw [if_pos inf]) hx, ⟨by rw [upd_ne nI]; exact A.o, by rw [upd_ne nD]; exact A.d, A.wa.same (fun b hb => upd_ne fun z => A.ap x.f (.inr (.inr (.inl rfl))) (by rw [← z]; exact hb)) m, ⟨_, upd_same, (DpAll.same m hxs).append (.cons (Dp.same m hd) .nil)⟩, ⟨kvs, by rw [upd_ne nC]; exact c1, c2.same m⟩, by rw [upd_ne (Ne.symm A.fk)]; exact A.k, A.ap, A.fk⟩, B.nz, B.me⟩
theorem RB.cont (B : RB K Cl H0 Z H σ ρ r x s) {v : V} {k : Int} {d : DL.D} {kvs : List (Key × V)} (hx : H x.c = some (.dK kvs)) (hk : vn K (hide H (Zo (ZR Z r x) σ ρ)) kvs s.cont) (hd : Dp K (hide H (Zo (ZR Z r x) σ ρ)) v d) : RB K Cl H0 Z (upd H x.c (.dK (putK kvs (Sum.inl k : Key) v))) σ ρ r x { s with cont := zbU s.cont k d } := by
  have A := B.ra
  have inc : inR r x x.c := .inl (.inr (.inr (.inr (.inl rfl))))
  have m : vc (hide H (Zo (ZR Z r x) σ ρ)) (hide (upd H x.c (.dK (putK kvs (Sum.inl k : Key) v))) (Zo (ZR Z r x) σ ρ)) := vbB (.inl (.inr inc))
  have nI : r ≠ x.c := fun z => by
    have := A.o
    rw [z, hx] at this
    cases this
  have nD : x.dx ≠ x.c := fun z => by
    have := A.d
    rw [z, hx] at this
    cases this
  have nK : x.k ≠ x.c := fun z => by
    have := A.k
    rw [z, hx] at this
    cases this
  obtain ⟨xs, f1, f2⟩ := A.f
  have nF : x.f ≠ x.c := fun z => by
    rw [z, hx] at f1
    cases f1
  refine ⟨B.si.qdD (.inr inc) (by unfold hide; rw [if_pos inc]) hx, ⟨by rw [upd_ne nI]; exact A.o, by rw [upd_ne nD]; exact A.d, A.wa.same (fun b hb => upd_ne fun z => A.ap x.c (.inr (.inr (.inr (.inl rfl)))) (by rw [← z]; exact hb)) m, ⟨xs, by rw [upd_ne nF]; exact f1, DpAll.same m f2⟩, ⟨_, upd_same, (c2_put m hk hd)⟩, by rw [upd_ne nK]; exact A.k, A.ap, A.fk⟩, B.nz, B.me⟩
where c2_put {H1 Hs : Hp} (m : vc Hs H1) (hk : vn K Hs kvs s.cont) (hd : Dp K Hs v d) : vn K H1 (putK kvs (Sum.inl k : Key) v) (zbU s.cont k d) := (hk.same m).put (Dp.same m hd)
end
section
variable {X : Cx} {Cl : Nat → Addr} {W : WX} {H H0 : Hp} {r : Addr} {x : RAd} {s s' : RS} {Z : Addr → Prop} {σ : St} {ρ ρ' : xb} {Q : VK} {E : St → XK}
end
section
variable {X : Cx} {Cl : Nat → Addr} {W : WX} {E1 E2 E3 : St → XK} {F1 : MF} {F2 : WF} {FCn : FC} {g1 g2 : FA} {s2 s3 : FS} {t1 : FT} {fl fu ff fk fc : FE} {e1 e4 e5 e6 e10 c1 : Expr} {st2 st9 : Stmt}
end
section
variable {K : PySem.W.Frag} {Cl : Nat → Addr} {H : Hp} {r : Addr} {x : RAd} {s : RS} {Z : Addr → Prop}
theorem RB.start {rest : List V} {ds : List D} {m : Nat} (live : vbQ Cl (ZR Z r x) H) (ra : RA K Cl H (hide H (ZR Z r x)) r x s) (nz : ∀ b, inR r x b → ¬ Z b) (h : DpAll K (hide H (ZR Z r x)) rest ds) : RB K Cl H Z H (some (.ref r) :: (rest.map some ++ List.replicate m none)) (.pin r :: (ds.map .dat ++ List.replicate m .un)) r x s := by
  have no : ∀ i b, ¬ jq (some (.ref r) :: (rest.map some ++ List.replicate m none)) (.pin r :: (ds.map .dat ++ List.replicate m .un)) i b := fun i b ho => by
    obtain ⟨t, h2, h3⟩ := ho.slot
    cases i with
    | zero => cases h2; cases h3
    | succ i =>
      have h2 : (ds.map Slot.dat ++ List.replicate m .un)[i]? = some t := h2
      rw [List.getElem?_append] at h2
      split at h2
      · rw [List.getElem?_map] at h2
        cases e : ds[i]? with
        | none => rw [e] at h2; cases h2
        | some d => rw [e] at h2; cases h2; cases h3
      · rw [List.getElem?_replicate] at h2
        split at h2
        · cases h2; cases h3
        · cases h2
  have hl := h.length
  have hm : vc (hide H (ZR Z r x)) (hide H (Zo (ZR Z r x) (some (.ref r) :: (rest.map some ++ List.replicate m none)) (.pin r :: (ds.map .dat ++ List.replicate m .un)))) := qe (vc.refl _) fun b hb => .inl (hb.elim id fun ⟨j, z⟩ => absurd z (no j b))
  have base : Same Cl (hide H (inR r x)) H := ⟨fun b o e _ => (wm e).2, fun _ => live.tb, fun b e z => e (by unfold hide; rw [z]; split <;> rfl), fun b o xs e => xg (fun z => by
    obtain ⟨u, e2, k⟩ := ra.at_ z
    rw [e] at e2
    cases e2
    cases k) e⟩
  refine ⟨⟨⟨by simp [hl], fun i j b h1 => absurd h1 (no i b), fun b ⟨i, z⟩ => absurd z (no i b), live.lv, fun i t e => ?_, live.tb⟩, base, fun b ⟨i, z⟩ => absurd z (no i b)⟩, ra.same (fun _ _ => rfl) hm, nz, rfl⟩
  cases i with
  | zero =>
    cases e
    exact rfl
  | succ i =>
    have e : (ds.map Slot.dat ++ List.replicate m .un)[i]? = some t := e
    show xbS K Cl H _ ((rest.map some ++ List.replicate m none)[i]?) t
    rw [List.getElem?_append] at e
    split at e
    · rename_i hi
      rw [List.length_map] at hi
      rw [List.getElem?_map] at e
      cases e1 : ds[i]? with
      | none => rw [e1] at e; cases e
      | some d =>
        rw [e1] at e
        cases e
        obtain ⟨v, e2, e3⟩ := h.get e1
        refine ⟨v, ?_, Dp.same hm e3⟩
        rw [List.getElem?_append_left (by rw [List.length_map, hl]; exact hi), List.getElem?_map, e2]
        rfl
    · rw [List.getElem?_replicate] at e
      split at e
      · cases e; trivial
      · cases e
end
structure RL (K : PySem.W.Frag) (Cl : Nat → Addr) (Hb : Hp) (Z : Addr → Prop) (H : Hp) (σ : St) (ρ : xb) (r : Addr) (x : RAd) (s : RS) : Prop where
  si : SI K Cl Hb (ZR Z r x) H σ ρ
  ra : RA K Cl H (hide H (Zo (ZR Z r x) σ ρ)) r x s
  nz : ∀ b, inR r x b → ¬ Z b
  me : ρ[0]? = some (.pin r)
  h0 : ∀ b, inR r x b → Hb b = none
section
variable {K : PySem.W.Frag} {Cl : Nat → Addr} {W : WX} {H H' Hb Hc H1 : Hp} {r : Addr} {x x' : RAd} {s s' : RS} {Z Y : Addr → Prop} {σ σ' : St} {ρ ρ' : xb} {D : Ends}
theorem RL.up (B : RL K Cl Hb Z H σ ρ r x s) (sm : Same Cl H H') : RL K Cl Hb Z H' σ ρ r x s := ⟨B.si.kO sm, B.ra.up sm, B.nz, B.me, B.h0⟩
theorem RL.out (B : RL K Cl Hb Z H σ ρ r x s) {b : Addr} (o : xo σ ρ b) : ¬ inR r x b := fun z => B.si.di.out b o (.inr z)
theorem RL.vY (B : RL K Cl Hb Z H σ ρ r x s) {i : Nat} {v : V} {d : DL.D} (hi : i ≠ 0) (h : Dp K (hide H (Zo (ZR Z r x) σ ρ)) v d) : RL K Cl Hb Z H (σ.set i (some v)) (ρ.set i (.dat d)) r x s :=
  ⟨B.si.vY h, B.ra.mv (Same.refl _) fun b hb => .inl (hb.imp id fun ⟨j, q⟩ => ⟨j, qY (s := .dat d) (fun z => nomatch z) q⟩), B.nz, by rw [List.getElem?_set_ne hi]; exact B.me, B.h0⟩
theorem ybe.live (f : ybe Cl H r x H' x') {b : Addr} (n : ¬ inR r x b) (e : H b ≠ none) : H' b ≠ none := f.s.live b (by unfold hide; rw [if_neg n]; exact e)
theorem ybe.keep (f : ybe Cl H r x H' x') {b : Addr} {o : HO} (n : ¬ inR r x b) (e : H b = some o) (t : ntb o = true) : H' b = some o := f.s.at (xg n e) t
theorem RL.wbB (S : RL K Cl Hb Z H σ ρ r x s) (f : ybe Cl H r x H' x') : vc (hide H (Zo (ZR Z r x) σ ρ)) (hide H' (Zo (ZR Z r x') σ ρ)) := fun b o e t => by
  obtain ⟨n, e1⟩ := wm e
  refine xg (fun z => ?_) (f.keep (fun z => n (.inl (.inr z))) e1 t)
  rcases z with (z | z) | z
  · exact n (.inl (.inl z))
  · rcases f.new b z with z | z
    · exact n (.inl (.inr z))
    · rw [z] at e1
      cases e1
  · exact n (.inr z)
theorem RL.after (S : RL K Cl Hb Z H σ ρ r x s) (f : ybe Cl H r x H' x') (ra' : RA K Cl H' (hide H' (Zo (ZR Z r x') σ ρ)) r x' s') : RL K Cl Hb Z H' σ ρ r x' s' := by
  have m := S.wbB f
  have noA : ∀ b, xo σ ρ b → ¬ inR r x b := fun b o z => S.si.di.out b o (.inr z)
  have wcH : ∀ b, xo σ ρ b → ¬ inR r x' b := fun b o z => by
    rcases f.new b z with z | z
    · exact noA b o z
    · exact S.si.di.jcd o z
  have h0' : ∀ b, inR r x' b → Hb b = none := fun b z => by
    rcases f.new b z with z | z
    · exact S.h0 b z
    · exact S.si.same.free z
  have nz' : ∀ b, inR r x' b → ¬ Z b := fun b z y => by
    rcases f.new b z with z | z
    · exact S.nz b z y
    · exact S.si.di.live b (.inl y) z
  have kbQ : ∀ {b : Addr} {o : HO}, xo σ ρ b → H b = some o → ntb o = true → H' b = some o := fun {b o} ob e t => f.keep (noA b ob) e t
  refine ⟨⟨⟨S.si.di.len, S.si.di.one, fun b o z => ?_, fun b z => ?_, fun i t e => ?_, f.tb S.si.di.tb⟩, ?_, fun b o => S.si.new b o⟩, ra', nz', S.me, h0'⟩
  · rcases z with z | z
    · exact S.si.di.out b o (.inl z)
    · exact wcH b o z
  · rcases z with z | z
    · exact f.live (fun y => S.nz b y z) (S.si.di.live b (.inl z))
    · obtain ⟨u, e, _⟩ := ra'.at_ z
      rw [e]
      intro y
      cases y
  · have k := S.si.di.slots i t e
    cases t with
    | un => trivial
    | dat d =>
      obtain ⟨v, e1, h1⟩ := k
      exact ⟨v, e1, Dp.same m h1⟩
    | own ds =>
      obtain ⟨b, xs, e1, e2, h1⟩ := k
      exact ⟨b, xs, e1, kbQ ⟨i, .inl ⟨e1, ds, e⟩⟩ e2 rfl, DpAll.same m h1⟩
    | err b dd j =>
      refine ⟨k.1, f.keep (fun z => ?_) k.2 rfl⟩
      obtain ⟨u, e3, k3⟩ := S.ra.at_ z
      have k2 := k.2
      rw [e3] at k2
      cases k2
      cases k3
    | ownT b k' gs =>
      obtain ⟨T, e1, h1⟩ := k
      exact ⟨T, e1, h1.same m fun ys z => kbQ ⟨i, .inr (.inl ⟨k', gs, e⟩)⟩ z rfl⟩
    | pin b => exact k
    | ob k' fs => exact kat.same m k
    | vX b c =>
      obtain ⟨e1, u, e2, h1⟩ := k
      exact ⟨e1, u, kbQ ⟨i, .inr (.inr ⟨c, e⟩)⟩ e2 h1.ntb, h1.same m⟩
  · refine ⟨fun b o e t => ?_, fun _ => f.tb S.si.di.tb, fun b e => ?_, fun b o xs e => ?_⟩
    · have n : ¬ inR r x b := fun z => by rw [S.h0 b z] at e; cases e
      exact f.keep n (S.si.same.d b o e t) t
    · exact f.live (fun y => e (S.h0 b y)) (S.si.same.live b e)
    · obtain ⟨n1, e1⟩ := wm (f.s.nf b o xs e)
      exact S.si.same.nf b o xs e1
theorem RL.based (S : RL K Cl Hb Z H σ ρ r x s) : Same Cl Hb (hide (vy H σ ρ) (inR r x)) ∧ RL K Cl (hide (vy H σ ρ) (inR r x)) Z H σ ρ r x s := by
  obtain ⟨b0, I2⟩ := S.si.based
  have wk : ∀ b, inR r x b → ∃ u, vy H σ ρ b = some u ∧ wa5 u = true := fun b hb => by
    obtain ⟨u, e, k⟩ := S.ra.at_ hb
    exact ⟨u, kL (fun z => S.out z hb) e, k⟩
  refine ⟨b0.hidden S.h0 wk, ⟨I2.di, ⟨fun b o e t => I2.same.d b o (wm e).2 t, fun _ => I2.di.tb, fun b e => I2.same.live b fun z => e (by unfold hide; rw [z]; split <;> rfl), fun b o xs e => xg (fun z => ?_) (I2.same.nf b o xs e)⟩, fun b o => ?_⟩, S.ra, S.nz, S.me, fun b z => by unfold hide; rw [if_pos z]⟩
  · obtain ⟨u, e2, k⟩ := S.ra.at_ z
    rw [e] at e2
    cases e2
    cases k
  · unfold hide
    split
    · rfl
    · exact I2.new b o
theorem RL.rebase (S : RL K Cl Hc Z H σ ρ r x s) (sm : Same Cl Hb Hc) : RL K Cl Hb Z H σ ρ r x s := ⟨S.si.rebase sm, S.ra, S.nz, S.me, fun b z => sm.free (S.h0 b z)⟩
theorem RL.kept (S : RL K Cl (hide (vy H σ ρ) (inR r x)) Z H' σ' ρ' r x' s') : vc (hide H (Zo (ZR Z r x) σ ρ)) (hide H' (Zo (ZR Z r x') σ' ρ')) := fun b o e nt => by
  obtain ⟨n, e1⟩ := wm e
  have e2 : hide (vy H σ ρ) (inR r x) b = some o := xg (fun z => n (.inl (.inr z))) (kL (fun z => n (.inr z)) e1)
  refine xg (fun z => ?_) (S.si.same.d b o e2 nt)
  rcases z with (z | z) | z
  · exact n (.inl (.inl z))
  · rw [S.h0 b z] at e2
    cases e2
  · rw [S.si.new b z] at e2
    cases e2
theorem RL.write (S : RL K Cl Hb Z H σ ρ r x s) {i : Nat} {p : Addr} {xs : List V} {ds es : List DL.D} (hi0 : i ≠ 0) (hi : σ[i]? = some (some (.ref p))) (hr : ρ[i]? = some (.own es)) (h : DpAll K (hide H (Zo (ZR Z r x) σ ρ)) xs ds) : RL K Cl Hb Z (upd H p (.lst xs)) σ (ρ.set i (.own ds)) r x s := by
  have hil : i < ρ.length := (List.getElem?_eq_some_iff.mp hr).1
  have op : xo σ ρ p := ⟨i, .inl ⟨hi, es, hr⟩⟩
  have sub : ∀ b, Zo (ZR Z r x) σ (ρ.set i (.own ds)) b → Zo (ZR Z r x) σ ρ b := fun b hb => by
    rcases hb with hb | ⟨j, hb⟩
    · exact .inl hb
    · by_cases hj : i = j
      · subst hj
        rcases hb with ⟨h1, _⟩ | ⟨k, d, h2⟩ | ⟨c, h2⟩
        · exact .inr ⟨i, .inl ⟨h1, es, hr⟩⟩
        · rw [List.getElem?_set, if_pos rfl, if_pos hil] at h2
          cases h2
        · rw [List.getElem?_set, if_pos rfl, if_pos hil] at h2
          cases h2
      · unfold jq at hb
        rw [List.getElem?_set_ne hj] at hb
        exact .inr ⟨j, hb⟩
  refine ⟨S.si.write hi hr h, S.ra.same (fun b hb => upd_ne fun z => S.out op (by rw [← z]; exact hb)) fun b o e t => ?_, S.nz, by rw [List.getElem?_set_ne hi0]; exact S.me, S.h0⟩
  obtain ⟨n, e1⟩ := wm e
  exact xg (fun z => n (sub b z)) (by rw [upd_ne fun z => n (by rw [z]; exact .inr op)]; exact e1)
theorem RL.zeq (r : Addr) (x : RAd) (Z : Addr → Prop) (σ : St) (ρ : xb) : ZR (Zo Z σ ρ) r x = Zo (ZR Z r x) σ ρ := funext fun b => propext ⟨fun h => by
  rcases h with (h | h) | h
  · exact .inl (.inl h)
  · exact .inr h
  · exact .inl (.inr h), fun h => by
  rcases h with (h | h) | h
  · exact .inl (.inl h)
  · exact .inr h
  · exact .inl (.inr h)⟩
end
section
variable {X : Cx} {Cl : Nat → Addr} {W : WX} {H Hb : Hp} {r : Addr} {x : RAd} {s s' : RS} {Z : Addr → Prop} {σ : St} {ρ ρ' : xb} {Q : VK} {E : St → XK}
end
section
variable {X : Cx} {Cl : Nat → Addr} {W : WX} {H Hb : Hp} {r : Addr} {x : RAd} {s s' : RS} {Z : Addr → Prop} {σ : St} {ρ ρ' : xb} {E : St → XK} {D : Ends}
end
def RS.of (s : RS) : List OF := [.sub 3000 s.ws.of, .dat (.list s.found), .dic s.cont, .dat (.list [])]
def rs0 : RS := ⟨ws0, [], []⟩
structure kej (Cl : Nat → Addr) (H H' : Hp) (r dx : Addr) (x : RAd) : Prop where
  edx : x.dx = dx
  ra : ∀ (K : PySem.W.Frag) (Y : Addr → Prop), (∀ b, Y b → H b ≠ none ∨ inR r x b) → RA K Cl H' (hide H' Y) r x rs0
  new : ∀ b, inR r x b → b = r ∨ b = dx ∨ H b = none
  keep : ∀ b o, H b = some o → b ≠ r → H' b = some o
  nf : ∀ b o xs, H' b = some (.frz o (.lst xs)) → H b = some (.frz o (.lst xs))
section
variable {K : PySem.W.Frag} {Cl : Nat → Addr} {vs : List V} {H : Hp} {Q : VK} {E : XK} {E' : XK}
end
theorem zcd.down {K : PySem.W.Frag} {Cl : Nat → Addr} {Hs : Hp} {v : V} {x : OF} (h : zcd K Cl Hs v x) (n : ∀ k fs, x ≠ .sub k fs) : xaV K Hs v x := by
  cases x with
  | dat d => exact h
  | dic ps => exact h
  | sub k fs => exact absurd rfl (n k fs)
theorem WS.plain {s : WS} {j : Nat} {x : OF} (h : s.of[j]? = some x) : ∀ k fs, x ≠ .sub k fs := by
  have m := List.mem_of_getElem? h
  unfold WS.of at m
  intro k fs e
  subst e
  simp at m
section
variable {K : PySem.W.Frag} {Cl : Nat → Addr} {W : WX} {H H' Hs Hs' : Hp} {r : Addr} {x : RAd} {s : RS}
theorem RA.ob (h : RA K Cl H Hs r x s) (e : ∀ b, inR r x b → Hs' b = H b) (m : vc Hs Hs') : zbY K Cl Hs' r 3001 s.of := by
  obtain ⟨dw, vs, w1, w2, w3, w4⟩ := h.wa.ob (Hs' := Hs') (fun b hb => e b (.inr hb)) m
  obtain ⟨xs, f1, f2⟩ := h.f
  obtain ⟨kvs, c1, c2⟩ := h.c
  refine ⟨x.dx, xcd x, by rw [e r (.inl (.inl rfl))]; exact h.o, rfl, rfl, fun j y hy => ?_⟩
  match j, hy with
  | 0, hy =>
    cases hy
    exact ⟨_, rfl, x.a, dw, vs, rfl, w1, w2, w3, fun j2 y2 h2 => (w4 j2 y2 h2).imp fun u q => ⟨q.1, q.2.down (WS.plain h2)⟩⟩
  | 1, hy =>
    cases hy
    exact ⟨_, rfl, .lst (Rd.of (by rw [e x.f (.inl (.inr (.inr (.inl rfl))))]; exact f1)) (DpAll.same m f2)⟩
  | 2, hy =>
    cases hy
    exact ⟨_, rfl, x.c, kvs, rfl, by rw [e x.c (.inl (.inr (.inr (.inr (.inl rfl)))))]; exact c1, c2.same m⟩
  | 3, hy =>
    cases hy
    exact ⟨_, rfl, .lst (Rd.of (by rw [e x.k (.inl (.inr (.inr (.inr (.inr rfl)))))]; exact h.k)) .nil⟩
  | j + 4, hy => cases hy
end
section
variable {X : Cx} {Cl : Nat → Addr} {W : WX} {f g : Str} {e o : Expr} {pos apos cpos p1 : Pos}
end
section
variable {X : Cx} {Cl : Nat → Addr} {W : WX} {E1 : XK} {E2 E3 : St → XK} {F2 : RF} {F3 : MF} {g : FA} {e1 e2 e3 : Expr} {z1 : Str} {p1 p2 p3 p4 : Pos}
end
section
variable {K : PySem.W.Frag} {Cl : Nat → Addr} {W : WX} {H0 : Hp} {Z Z1 : Addr → Prop} {D : Ends}
theorem OOk.more {o : Out} (h : ∀ a, Z a → Z1 a) (q : OOk K Cl W H0 Z D o) : OOk K Cl W H0 Z1 D o := by
  cases o with
  | nx ρ => exact fun σ H I => q σ H (I.less h)
  | brk ρ => exact fun σ H I => q σ H (I.less h)
  | ct ρ => exact fun σ H I => q σ H (I.less h)
  | ret d => exact fun v H s hd => q v H s (Dp.same (qe (vc.refl _) fun b hb => .inl (h b hb)) hd)
  | retF ds => exact fun p xs H s n hp hd => q p xs H s n hp (DpAll.same (qe (vc.refl _) fun b hb => .inl (hb.imp (h b) id)) hd)
  | retX ds k => exact fun T p xs ys H s h1 h2 h3 h4 h5 => q T p xs ys H s (SqT.same (qe (vc.refl _) fun b hb => .inl (h b hb)) h1) (DpAll.same (qe (vc.refl _) fun b hb => .inl (h b hb)) h2) h3 h4 h5
  | exc ρ c i => exact fun dd σ H I hd => q dd σ H (I.less h) hd
end
section
variable {X : Cx} {Cl : Nat → Addr} {W : WX} {e : Expr} {es : List Expr} {g : FA} {t1 : FT} {rest : FS}
end
section
variable {K : PySem.W.Frag} {Cl : Nat → Addr} {W : WX} {Z : Addr → Prop} {H : Hp} {σ : St} {ρ : xb}
theorem DI.yc3 (I : DI K Cl Z H σ ρ) {q : Addr} {ys zs : List V} (hz : Z q) (hq : H q = some (.lst ys)) : DI K Cl Z (upd H q (.lst zs)) σ ρ := by
  have hm : vc (hide H (Zo Z σ ρ)) (hide (upd H q (.lst zs)) (Zo Z σ ρ)) := vbB (.inl hz)
  have no : ∀ a, xo σ ρ a → a ≠ q := fun a o z => I.out a o (by rw [z]; exact hz)
  refine ⟨I.len, I.one, I.out, fun a z => ?_, fun i t e => ?_, I.tb.over hq⟩
  · by_cases e : a = q
    · rw [e, upd_same]
      intro z; cases z
    · rw [upd_ne e]
      exact I.live a z
  · have k := I.slots i t e
    cases t with
    | un => trivial
    | dat d =>
      obtain ⟨v, e1, h1⟩ := k
      exact ⟨v, e1, Dp.same hm h1⟩
    | own ds =>
      obtain ⟨a, xs, e1, e2, h1⟩ := k
      exact ⟨a, xs, e1, by rw [upd_ne (no a ⟨i, .inl ⟨e1, ds, e⟩⟩)]; exact e2, DpAll.same hm h1⟩
    | err a dd j =>
      have nd : dd ≠ q := fun z => by
        have k2 := k.2
        rw [z, hq] at k2
        cases k2
      exact ⟨k.1, by rw [upd_ne nd]; exact k.2⟩
    | ownT a k' gs =>
      obtain ⟨T, e1, h1⟩ := k
      exact ⟨T, e1, h1.same hm fun _ z => by rw [upd_ne (no a ⟨i, .inr (.inl ⟨k', gs, e⟩)⟩)]; exact z⟩
    | pin a => exact k
    | ob k fs => exact kat.same hm k
    | vX a c =>
      obtain ⟨e1, u, e2, h1⟩ := k
      exact ⟨e1, u, by rw [upd_ne (no a ⟨i, .inr (.inr ⟨c, e⟩)⟩)]; exact e2, h1.same hm⟩
end
section
variable {X : Cx} {Cl : Nat → Addr} {W : WX} {elt tg iter tg1 iter1 : Expr} {ifs ifs1 : List Expr} {scope : Scope} {own : List (Str × Nat)} {pos : Pos} {it it1 : FI} {g g1 : TG} {tt tt1 : FT} {fe : FE} {vs vs1 : List Nat} {st zP : xb → D → Option xb}
end
def vdI : List Int → Int
  | [] => 0
  | n :: ns => ns.foldl min n
@[simp] def xeh : List Val → Option Val
  | [v] => match v.d with
    | .list ds => match xaB ds with
      | some ns => if ns.length = 0 then none else some (.s (.int (vdI ns)))
      | none => none
    | _ => none
  | _ => none
section
variable {X : Cx} {Cl : Nat → Addr} {W : WX} {K : PySem.W.Frag} {e : Expr} {f : FE}
end
section
variable {X : Cx} {Cl : Nat → Addr} {W : WX} {K : PySem.W.Frag}
end
structure qcI (K : PySem.W.Frag) (H Hh : Hp) (R : Addr) (qs : List Addr) (dss : List (List D)) : Prop where
  r : H R = some (.lst (qs.map V.ref))
  l : qs.length = dss.length
  q : ∀ (k : Nat) a, qs[k]? = some a → ∃ ys row, H a = some (.lst ys) ∧ dss[k]? = some row ∧ DpAll K Hh ys row
section
variable {K : PySem.W.Frag} {Cl : Nat → Addr}
theorem qcI.same {H H' Hh Hh' : Hp} {R : Addr} {qs : List Addr} {dss : List (List D)} (h : qcI K H Hh R qs dss) (s : Same Cl H H') (m : vc Hh Hh') : qcI K H' Hh' R qs dss := ⟨s.at h.r, h.l, fun k a e => by
  obtain ⟨ys, row, h1, h2, h3⟩ := h.q k a e
  exact ⟨ys, row, s.at h1, h2, DpAll.same m h3⟩⟩
end
section
variable {X : Cx} {Cl : Nat → Addr} {W : WX} {elt tg0 iter0 tg iter c1 ke kk2 ae ixe e1 e2 e4 : Expr} {s1 : Stmt} {it0 it : FI} {g0 : TG} {st0 : xb → D → Option xb} {vs : List Nat} {fe : FE} {g : FG} {f1 : FS} {t1 : FT} {fk fk2 fl ix ea eb ec : FE} {F : FC}
end
section
variable {P : Program} {w : World} {K : PySem.W.Frag} {mg : Str → Option Value} {base : Heap} {N : List Str} {q : Str} {sc : Scope} {fa : Addr} {cdv : Value} {A : Around} {outer : List Env} {s : Shared} {H : Hp} {E : XK} {Cl : Nat → Addr} {b : List Stmt}
end
section
variable {prog : Program} {w : World} {A : Around} {E : Value → Shared → Prop} {s : Shared}
end
section
variable {prog : Program} {w : World} {A : Around} {E : Value → Shared → Prop} {s : Shared}
end
def zdt (ds es : List D) : List D := waa (kdq ds es)
section
variable {X : Cx} {Cl : Nat → Addr} {W : WX} {p p2 pos pos2 : Pos} {g : FA}
@[simp] def xd3 (g : FA) (ρ : xb) : Option (Except Er (List D)) := match g ρ with
  | none => none
  | some (.error e) => some (.error e)
  | some (.ok vs) => match vs with
    | [v, u] => match jbL v, jbL u with
      | some ds, some es => some (.ok (zdt ds es))
      | _, _ => none
    | _ => none
end
section
variable {X : Cx} {Cl : Nat → Addr} {W : WX} {elt tg0 iter0 tg iter c1 ixe ae : Expr} {it0 it : FI} {g0 : TG} {st0 : xb → D → Option xb} {vs : List Nat} {fe : FE} {g : FG} {t1 : FT} {ix fa : FE}
end
structure zcI (K : PySem.W.Frag) (k : Nat) (H H' Hh : Hp) (p q : Addr) (x : V) (d : D) : Prop where
  go : ∃ (T0 T : Addr) (u v : V) (a b : D) (ys : List V) (ds : List D) (zs : List V) (ws : List D), x = V.ref T0 ∧ d = .tuple [a, b, .tuple ds] ∧ SqT K Hh T0 [u, v, .ref T] ∧ Dp K Hh u a ∧ Dp K Hh v b ∧ SqT K Hh T ys ∧ DpAll K Hh ys ds ∧ ys[k]? = some (V.ref q) ∧ ds[k]? = some (.list ws) ∧ H' q = some (.lst zs) ∧ DpAll K Hh zs ws
  ne : q ≠ p
  new : H q = none
section
variable {K : PySem.W.Frag} {Cl : Nat → Addr}
theorem zcI.to {k : Nat} {H0 H1 H2 Hh1 Hh2 : Hp} {p q : Addr} {x : V} {d : DL.D} (t : zcI K k H0 H1 Hh1 p q x d) (m : vc Hh1 Hh2) (h : ∀ zs, H1 q = some (.lst zs) → H2 q = some (.lst zs)) : zcI K k H0 H2 Hh2 p q x d := by
  obtain ⟨⟨T0, T, u, v, a, b, ys, ds, zs, ws, e1, e2, h1, h2, h3, h4, h5, h6, h7, h8, h9⟩, ne, nw⟩ := t
  exact ⟨⟨T0, T, u, v, a, b, ys, ds, zs, ws, e1, e2, SqT.same m h1, Dp.same m h2, Dp.same m h3, SqT.same m h4, DpAll.same m h5, h6, h7, h _ h8, DpAll.same m h9⟩, ne, nw⟩
end
section
variable {X : Cx} {Cl : Nat → Addr} {tg iter e0 ae : Expr} {it : FI} {g : FG} {f0 : FE} {ga : FA} {F : DF} {hf0 : HF}
end
structure TK (H H' : Hp) : Prop where
  t : ∀ b ys, H b = some (.tup ys) → H' b = some (.tup ys)
  f : ∀ b o ys, H b = some (.frz o (.tup ys)) → H' b = some (.frz o (.tup ys))
theorem TK.refl (H : Hp) : TK H H := ⟨fun _ _ h => h, fun _ _ _ h => h⟩
theorem TK.same {Cl : Nat → Addr} {H H1 H2 : Hp} (t : TK H H1) (s : Same Cl H1 H2) : TK H H2 := ⟨fun b ys h => s.d _ _ (t.t b ys h) rfl, fun b o ys h => s.d _ _ (t.f b o ys h) rfl⟩
theorem TK.yc3 {H H1 : Hp} {q : Addr} {zs ws : List V} (t : TK H H1) (hq : H1 q = some (.lst zs)) : TK H (upd H1 q (.lst ws)) :=
  ⟨fun b ys h => by
    have := t.t b ys h
    rw [upd_ne fun z => by rw [z, hq] at this; cases this]
    exact this, fun b o ys h => by
    have := t.f b o ys h
    rw [upd_ne fun z => by rw [z, hq] at this; cases this]
    exact this⟩
theorem DpAll.one {K : PySem.W.Frag} {H H' : Hp} {k : Nat} {q : Addr} {ys : List V} {ds ws : List D} (h : DpAll K H ys ds) (hy : ys[k]? = some (.ref q)) (hd : ds[k]? = some (.list ws)) (hs : (ds.set k .none).all yu = true) (hq : Dp K H' (.ref q) (.list ws)) : DpAll K H' ys ds := by
  have h1 : DpAll K H' (ys.set k .non) (ds.set k .none) := DpAll.scalar hs (DpAll.set .non k h)
  have h2 := DpAll.set hq k h1
  rw [List.set_set, List.set_set] at h2
  obtain ⟨l1, e1⟩ := List.getElem?_eq_some_iff.mp hy
  obtain ⟨l2, e2⟩ := List.getElem?_eq_some_iff.mp hd
  have r1 : ys.set k (.ref q) = ys := by rw [← e1]; exact List.set_getElem_self l1
  have r2 : ds.set k (.list ws) = ds := by rw [← e2]; exact List.set_getElem_self l2
  rw [r1, r2] at h2
  exact h2
section
variable {X : Cx} {Cl : Nat → Addr} {W : WX} {e : Expr} {es : List Expr} {g : FA} {f2 : FE} {t3 t4 t5 : FT} {rest : FS}
end
def qaC (L : List (List Int × Addr × V)) (k : List Int) : Option V := (L.find? fun x => decide (x.1 = k)).map (·.2.2)
def putL (L : List (List Int × Addr × V)) (k : List Int) (b : Addr) (v : V) : List (List Int × Addr × V) :=
  if (qaC L k).isSome then L.map fun x => if x.1 = k then (x.1, x.2.1, v) else x else L ++ [(k, b, v)]
theorem xX.val {L : List (List Int × Addr × V)} {xs : List (List Int × Addr × Value)} (r : xX L xs) (k : List Int) : RelO (qaC L k) ((atKey xs k).map (·.2)) := by
  unfold xX at r
  induction r with
  | nil => trivial
  | @cons p q ps qs h t ih =>
    unfold qaC atKey at ih ⊢
    obtain ⟨h1, h2, h3⟩ := h
    rw [List.find?_cons, List.find?_cons, ← h1]
    by_cases e : p.1 = k
    · rw [decide_eq_true e]
      exact h3
    · rw [decide_eq_false e]
      exact ih
theorem xX.set {k : List Int} {v : V} {u : Value} (ru : RelV v u) : ∀ {L : List (List Int × Addr × V)} {xs : List (List Int × Addr × Value)}, xX L xs → xX (L.map fun x => if x.1 = k then (x.1, x.2.1, v) else x) (xs.map (putAt k u))
  | _, _, .nil => .nil
  | p :: _, q :: _, .cons h t => .cons (by
    obtain ⟨h1, h2, h3⟩ := h
    unfold putAt
    dsimp only
    rw [← h1]
    by_cases e : p.1 = k
    · rw [if_pos e, if_pos e]
      exact ⟨rfl, h2, ru⟩
    · rw [if_neg e, if_neg e]
      exact ⟨h1, h2, h3⟩) (xX.set ru t)
theorem xX.snoc {k : List Int} {b : Addr} {v : V} {u : Value} (ru : RelV v u) : ∀ {L : List (List Int × Addr × V)} {xs : List (List Int × Addr × Value)}, xX L xs → xX (L ++ [(k, b, v)]) (xs ++ [(k, b, u)])
  | _, _, .nil => .cons ⟨rfl, rfl, ru⟩ .nil
  | _, _, .cons h t => .cons h (xX.snoc ru t)
theorem xX.put {L : List (List Int × Addr × V)} {xs : List (List Int × Addr × Value)} (r : xX L xs) (k : List Int) (b : Addr) {v : V} {u : Value} (ru : RelV v u) : xX (putL L k b v) (storedH xs k b u) := by
  have e : (qaC L k).isSome = (atKey xs k).isSome := by
    have q := (r.val k).isSome_eq
    rw [Option.isSome_map] at q
    exact q
  unfold putL storedH
  rw [e]
  split
  · exact r.set ru
  · exact r.snoc ru
theorem xX.len {L : List (List Int × Addr × V)} {xs : List (List Int × Addr × Value)} (r : xX L xs) : L.length = xs.length := Paired.length r
section
variable {X : Cx}
theorem xX.at : ∀ {L : List (List Int × Addr × V)} {xs : List (List Int × Addr × Value)}, xX L xs → ∀ (i : Nat) p y, L[i]? = some p → xs[i]? = some y → p.1 = y.1 ∧ p.2.1 = y.2.1
  | _, _, .nil, i, p, y, h, _ => by simp at h
  | _, _, .cons h t, 0, p, y, e1, e2 => by
    cases e1
    cases e2
    exact ⟨h.1, h.2.1⟩
  | _, _, .cons h t, i + 1, p, y, e1, e2 => xX.at t i p y (by simpa using e1) (by simpa using e2)
end
def jcI (ps : List (List Int × D)) (k : List Int) : Option D := (ps.find? fun x => decide (x.1 = k)).map (·.2)
def jdt (ps : List (List Int × D)) (k : List Int) (d : D) : List (List Int × D) := if (jcI ps k).isSome then ps.map fun x => if x.1 = k then (x.1, d) else x else ps ++ [(k, d)]
section
variable {K : PySem.W.Frag} {Hs : Hp}
theorem wC.val {L : List (List Int × Addr × V)} {ps : List (List Int × D)} (h : wC K Hs L ps) (k : List Int) : (qaC L k = none ∧ jcI ps k = none) ∨ ∃ v d, qaC L k = some v ∧ jcI ps k = some d ∧ Dp K Hs v d := by
  induction h with
  | nil => exact .inl ⟨rfl, rfl⟩
  | @cons k' b v d L ps t hv r ih =>
    unfold qaC jcI at ih ⊢
    rw [List.find?_cons, List.find?_cons]
    by_cases e : k' = k
    · dsimp only
      rw [decide_eq_true e]
      exact .inr ⟨v, d, rfl, rfl, hv⟩
    · dsimp only
      rw [decide_eq_false e]
      exact ih
theorem wC.wdt : ∀ {L : List (List Int × Addr × V)} {ps : List (List Int × D)}, wC K Hs L ps → L.map (·.1) = ps.map (·.1)
  | _, _, .nil => rfl
  | _, _, .cons _ _ r => by rw [List.map_cons, List.map_cons, wC.wdt r]
theorem wC.len {L : List (List Int × Addr × V)} {ps : List (List Int × D)} (h : wC K Hs L ps) : L.length = ps.length := by
  have := congrArg List.length h.wdt
  rwa [List.length_map, List.length_map] at this
theorem wC.set {k : List Int} {v : V} {d : D} (hv : Dp K Hs v d) : ∀ {L : List (List Int × Addr × V)} {ps : List (List Int × D)}, wC K Hs L ps → wC K Hs (L.map fun x => if x.1 = k then (x.1, x.2.1, v) else x) (ps.map fun x => if x.1 = k then (x.1, d) else x)
  | _, _, .nil => .nil
  | _, _, .cons (k := k') (b := b) (v := v') (d := d') t h r => by
    rw [List.map_cons, List.map_cons]
    by_cases e : k' = k
    · dsimp only
      rw [if_pos e, if_pos e]
      exact .cons t hv (wC.set hv r)
    · dsimp only
      rw [if_neg e, if_neg e]
      exact .cons t h (wC.set hv r)
theorem wC.snoc {k : List Int} {b : Addr} {v : V} {d : D} (hk : SqT K Hs b (k.map V.int)) (hv : Dp K Hs v d) : ∀ {L : List (List Int × Addr × V)} {ps : List (List Int × D)}, wC K Hs L ps → wC K Hs (L ++ [(k, b, v)]) (ps ++ [(k, d)])
  | _, _, .nil => .cons hk hv .nil
  | _, _, .cons t h r => .cons t h (wC.snoc hk hv r)
theorem wC.put {L : List (List Int × Addr × V)} {ps : List (List Int × D)} (h : wC K Hs L ps) {k : List Int} {b : Addr} {v : V} {d : D} (hk : SqT K Hs b (k.map V.int)) (hv : Dp K Hs v d) : wC K Hs (putL L k b v) (jdt ps k d) := by
  unfold putL jdt
  rcases h.val k with ⟨e1, e2⟩ | ⟨v', d', e1, e2, _⟩
  · rw [e1, e2, if_neg (by simp), if_neg (by simp)]
    exact h.snoc hk hv
  · rw [e1, e2]
    show wC K Hs (if true = true then _ else _) (if true = true then _ else _)
    rw [if_pos rfl, if_pos rfl]
    exact h.set hv
end
section
variable {X : Cx} {Cl : Nat → Addr} {W : WX} {e ke : Expr} {fe fk : FE} {pos : Pos}
end
abbrev PsD := List (List Int × D)
section
variable {K : PySem.W.Frag} {Cl : Nat → Addr}
end
section
variable {X : Cx} {Cl : Nat → Addr} {W : WX} {F1 : FS} {st : Stmt}
end
section
variable {X : Cx} {Cl : Nat → Addr} {W : WX} {e : Expr} {es : List Expr} {ga : FA} {rest : FS}
end
def xaz (H H' : Hp) (p : Addr) (L : List (List Int × Addr × V)) : Prop := ∃ qs : List Addr, L.map (·.2.2) = qs.map V.ref ∧ qs.Nodup ∧ ∀ q ∈ qs, q ≠ p ∧ H q = none ∧ ∃ zs, H' q = some (.lst zs)
section
variable {K : PySem.W.Frag} {Cl : Nat → Addr} {H H1 H2 : Hp} {p : Addr} {L : List (List Int × Addr × V)}
theorem xaz.nil : xaz H H1 p [] := ⟨[], rfl, .nil, fun _ h => nomatch h⟩
theorem xaz.same (s : Same Cl H1 H2) (h : xaz H H1 p L) : xaz H H2 p L := by
  obtain ⟨qs, h1, h2, h3⟩ := h
  exact ⟨qs, h1, h2, fun q hq => ⟨(h3 q hq).1, (h3 q hq).2.1, (h3 q hq).2.2.imp fun zs z => s.at z⟩⟩
theorem xaz.upd {u : HO} (h : xaz H H1 p L) : xaz H (upd H1 p u) p L := by
  obtain ⟨qs, h1, h2, h3⟩ := h
  exact ⟨qs, h1, h2, fun q hq => ⟨(h3 q hq).1, (h3 q hq).2.1, (h3 q hq).2.2.imp fun zs z => by rw [upd_ne (h3 q hq).1]; exact z⟩⟩
theorem xaz.put {k : List Int} {b q : Addr} {zs : List V} (h : xaz H H1 p L) (s : Same Cl H1 H2) (hk : qaC L k = none) (nq : H1 q = none) (n0 : H q = none) (np : q ≠ p) (hq : H2 q = some (.lst zs)) : xaz H H2 p (putL L k b (.ref q)) := by
  obtain ⟨qs, h1, h2, h3⟩ := h
  unfold putL
  rw [hk, if_neg (by simp)]
  refine ⟨qs ++ [q], by rw [List.map_append, List.map_append, h1]; rfl, ?_, fun x hx => ?_⟩
  · rw [List.nodup_append]
    refine ⟨h2, List.pairwise_singleton _ _, fun x hx y hy => ?_⟩
    rw [List.mem_singleton] at hy
    subst hy
    intro z
    subst z
    obtain ⟨_, _, zs, e⟩ := h3 x hx
    rw [nq] at e
    cases e
  · rcases List.mem_append.mp hx with hx | hx
    · exact ⟨(h3 x hx).1, (h3 x hx).2.1, (h3 x hx).2.2.imp fun zs z => s.at z⟩
    · rw [List.mem_singleton] at hx
      subst hx
      exact ⟨np, n0, zs, hq⟩
def ydt : Slot → Slot
  | .vX a _ => .pin a
  | s => s
def jbR (ρ : xb) : xb := ρ.map ydt
def xbe (ρ : xb) : Prop := ∀ (j : Nat) s, ρ[j]? = some s → s.jaz → ∃ a ps, s = .vX a (.dic ps)
variable {Z : Addr → Prop} {σ σ2 : St} {ρ : xb} {H0 : Hp}
theorem xbe.own (h : xbe ρ) {j : Nat} {a : Addr} : jq σ ρ j a ↔ ∃ ps, ρ[j]? = some (.vX a (.dic ps)) := by
  constructor
  · intro o
    obtain ⟨s, h1, h2⟩ := o.slot
    obtain ⟨b, ps, rfl⟩ := h j s h1 h2
    rcases o with ⟨_, ds, z⟩ | ⟨k, ds, z⟩ | ⟨c, z⟩
    · rw [h1] at z; cases z
    · rw [h1] at z; cases z
    · rw [h1] at z; cases z; exact ⟨ps, h1⟩
  · rintro ⟨ps, e⟩
    exact .inr (.inr ⟨_, e⟩)
theorem xcE {j : Nat} : (jbR ρ)[j]? = ρ[j]?.map ydt := by
  unfold jbR
  rw [List.getElem?_map]
theorem wbZ (h : xbe ρ) (j : Nat) (a : Addr) : ¬ jq σ (jbR ρ) j a := fun o => by
  obtain ⟨s, h1, h2⟩ := o.slot
  rw [xcE] at h1
  obtain ⟨t, e1, e2⟩ := Option.map_eq_some_iff.mp h1
  cases t <;> cases e2 <;> first | exact h2 | (obtain ⟨_, _, z⟩ := h j _ e1 trivial; cases z)
theorem DI.pinned (I : DI K Cl Z H σ ρ) (h : xbe ρ) : DI K Cl (Zo Z σ ρ) H σ (jbR ρ) := by
  have zo : ∀ b, Zo (Zo Z σ ρ) σ (jbR ρ) b ↔ Zo Z σ ρ b := fun b => ⟨fun z => z.elim id fun ⟨j, o⟩ => absurd o (wbZ h j b), .inl⟩
  refine ⟨by unfold jbR; rw [List.length_map]; exact I.len, fun i j a h1 => absurd h1 (wbZ h i a), fun a ⟨j, o⟩ => absurd o (wbZ h j a), fun a z => I.qal z, fun j s e => ?_, I.tb⟩
  rw [xcE] at e
  obtain ⟨t, e1, e2⟩ := Option.map_eq_some_iff.mp e
  have q := I.slots j t e1
  have hm : vc (hide H (Zo Z σ ρ)) (hide H (Zo (Zo Z σ ρ) σ (jbR ρ))) := qe (vc.refl _) fun b hb => .inl ((zo b).mp hb)
  cases t with
  | un => cases e2; trivial
  | dat d => cases e2; obtain ⟨v, f1, f2⟩ := q; exact ⟨v, f1, Dp.same hm f2⟩
  | own ds => obtain ⟨_, _, z⟩ := h j _ e1 trivial; cases z
  | err a dd i => cases e2; exact q
  | ownT a k ds => obtain ⟨_, _, z⟩ := h j _ e1 trivial; cases z
  | vX a c => cases e2; exact q.1
  | pin a => cases e2; exact q
  | ob k fs => cases e2; exact kat.same hm q
end
def zdJ (ρ : xb) (b : Addr) : Prop := ∃ (j : Nat) (ps : PsD), ρ[j]? = some (Slot.vX b (Cell.dic ps))
section
variable {K : PySem.W.Frag} {Cl : Nat → Addr} {W : WX} {U H : Hp} {Z : Addr → Prop} {σ : St} {ρ ρ' : xb} {a : Nat} {f : FE}
theorem xbe.owned (h : xbe ρ) {b : Addr} : xo σ ρ b ↔ zdJ ρ b := ⟨fun ⟨j, o⟩ => ⟨j, h.own.mp o⟩, fun ⟨j, o⟩ => ⟨j, h.own.mpr o⟩⟩
end
section
variable {X : Cx} {Cl : Nat → Addr} {W : WX} {tg iter e1 e2 e3 c3 c4 ke ec : Expr} {it : FI} {g : FG} {f1 f2 f3 fk fc : FE} {t3 t4 : FT} {hf : HF}
end
section
variable {K : PySem.W.Frag} {Cl : Nat → Addr}
end
structure wbU (K : PySem.W.Frag) (k : Nat) (H H' Hh : Hp) (p q c : Addr) (x : V) (d : D) : Prop where
  go : ∃ (T0 T : Addr) (ys : List V) (ds : List D) (zs : List V) (ws : List D) (us : List V) (cs : List D), x = V.ref T0 ∧ d = .tuple [.tuple ds, .list cs] ∧ SqT K Hh T0 [.ref T, .ref c] ∧ SqT K Hh T ys ∧ DpAll K Hh ys ds ∧ ys[k]? = some (V.ref q) ∧ ds[k]? = some (.list ws) ∧ H' q = some (.lst zs) ∧ DpAll K Hh zs ws ∧ H' c = some (.lst us) ∧ DpAll K Hh us cs
  neq : q ≠ p
  nec : c ≠ p
  qek : H q = none
  zek : H c = none
section
variable {K : PySem.W.Frag} {Cl : Nat → Addr}
theorem wbU.to {k : Nat} {H0 H1 H2 Hh1 Hh2 : Hp} {p q c : Addr} {x : V} {d : DL.D} (t : wbU K k H0 H1 Hh1 p q c x d) (m : vc Hh1 Hh2) (h : ∀ a zs, a = q ∨ a = c → H1 a = some (.lst zs) → H2 a = some (.lst zs)) : wbU K k H0 H2 Hh2 p q c x d := by
  obtain ⟨⟨T0, T, ys, ds, zs, ws, us, cs, e1, e2, h1, h2, h3, h4, h5, h6, h7, h8, h9⟩, n1, n2, n3, n4⟩ := t
  exact ⟨⟨T0, T, ys, ds, zs, ws, us, cs, e1, e2, SqT.same m h1, SqT.same m h2, DpAll.same m h3, h4, h5, h _ _ (.inl rfl) h6, DpAll.same m h7, h _ _ (.inr rfl) h8, DpAll.same m h9⟩, n1, n2, n3, n4⟩
def vbl (K : PySem.W.Frag) (k : Nat) (H H' Hh : Hp) (R : Addr) (xs : List V) (acc : List D) (qs cs : List Addr) : Prop := qs.length = xs.length ∧ cs.length = xs.length ∧ qs.Nodup ∧ cs.Nodup ∧ (∀ q ∈ qs, q ∉ cs) ∧ (∀ q ∈ qs, H' q ≠ none) ∧ ∀ (j : Nat) x d q c, xs[j]? = some x → acc[j]? = some d → qs[j]? = some q → cs[j]? = some c → wbU K k H H' Hh R q c x d
theorem vbl.nil {k : Nat} {H H' Hh : Hp} {R : Addr} : vbl K k H H' Hh R [] [] [] [] := ⟨rfl, rfl, .nil, .nil, fun _ h => (nomatch h), fun _ h => (nomatch h), fun j x d q c h => by simp at h⟩
theorem vbl.same {k : Nat} {H H1 H2 Hh1 Hh2 : Hp} {R : Addr} {xs : List V} {acc : List D} {qs cs : List Addr} (h : vbl K k H H1 Hh1 R xs acc qs cs) (s : Same Cl H1 H2) (m : vc Hh1 Hh2) : vbl K k H H2 Hh2 R xs acc qs cs := by
  obtain ⟨h1, h2, h3, h4, h5, h6, h7⟩ := h
  exact ⟨h1, h2, h3, h4, h5, fun q hq => s.live q (h6 q hq), fun j x d q c a b e f => (h7 j x d q c a b e f).to m fun a zs _ z => s.at z⟩
theorem vbl.snoc {k : Nat} {H H1 H2 Hh : Hp} {R : Addr} {xs : List V} {acc : List D} {qs cs : List Addr} {x : V} {d : DL.D} {q c : Addr} (h : vbl K k H H1 Hh R xs acc qs cs) (lx : acc.length = xs.length) (m : ∀ a zs, H1 a = some (.lst zs) → a ≠ R → H2 a = some (.lst zs)) (lv : ∀ a, H1 a ≠ none → H2 a ≠ none) (nq : q ∉ qs) (nq2 : q ∉ cs) (nc : c ∉ cs) (ncq : c ∉ qs) (nqc : q ≠ c) (hq : H2 q ≠ none) (hn : wbU K k H H2 Hh R q c x d) : vbl K k H H2 Hh R (xs ++ [x]) (acc ++ [d]) (qs ++ [q]) (cs ++ [c]) := by
  obtain ⟨h1, h2, h3, h4, h5, h6, h7⟩ := h
  refine ⟨by rw [List.length_append, List.length_append, h1]; rfl, by rw [List.length_append, List.length_append, h2]; rfl, ?_, ?_, fun a ha hb => ?_, fun a ha => ?_, fun j x' d' q' c' a b e f => ?_⟩
  · rw [List.nodup_append]
    exact ⟨h3, List.pairwise_singleton _ _, fun a ha b hb z => nq (by rw [List.mem_singleton] at hb; rw [← hb, ← z]; exact ha)⟩
  · rw [List.nodup_append]
    exact ⟨h4, List.pairwise_singleton _ _, fun a ha b hb z => nc (by rw [List.mem_singleton] at hb; rw [← hb, ← z]; exact ha)⟩
  · rcases List.mem_append.mp ha with ha | ha <;> rcases List.mem_append.mp hb with hb | hb
    · exact h5 a ha hb
    · rw [List.mem_singleton] at hb; subst hb; exact ncq ha
    · rw [List.mem_singleton] at ha; subst ha; exact nq2 hb
    · rw [List.mem_singleton] at ha hb
      subst ha; subst hb
      obtain ⟨⟨T0, T, ys, ds, zs, ws, us, cs', e1, e2, g1, g2, g3, g4, g5, g6, g7, g8, g9⟩, _⟩ := hn
      exact nqc rfl
  · rcases List.mem_append.mp ha with ha | ha
    · exact lv a (h6 a ha)
    · rw [List.mem_singleton] at ha; subst ha; exact hq
  · by_cases hj : j < xs.length
    · rw [List.getElem?_append_left hj] at a
      rw [List.getElem?_append_left (by omega)] at b e f
      have t := h7 j x' d' q' c' a b e f
      exact t.to (vc.refl _) fun a zs ha z => m a zs z (by rcases ha with rfl | rfl; exact t.neq; exact t.nec)
    · have : j = xs.length := by
        have := (List.getElem?_eq_some_iff.mp a).1
        rw [List.length_append, List.length_singleton] at this
        omega
      subst this
      rw [List.getElem?_append_right (by omega)] at a b e f
      simp only [Nat.sub_self, lx, h1, h2, List.getElem?_cons_zero, Option.some.injEq] at a b e f
      subst a; subst b; subst e; subst f
      exact hn
end
def xc4 (K : PySem.W.Frag) (k : Nat) (H H' Hh : Hp) (v : V) (d : D) : Prop := ∃ (T : Addr) (ys : List V) (ds : List D) (q : Addr) (zs : List V) (ws : List D), v = V.ref T ∧ d = .tuple ds ∧ SqT K Hh T ys ∧ DpAll K Hh ys ds ∧ ys[k]? = some (V.ref q) ∧ ds[k]? = some (.list ws) ∧ H q = none ∧ H' q = some (.lst zs) ∧ DpAll K Hh zs ws
section
variable {K : PySem.W.Frag} {Cl : Nat → Addr}
theorem xc4.to {k : Nat} {H0 H1 H2 Hh1 Hh2 : Hp} {v : V} {d : D} (t : xc4 K k H0 H1 Hh1 v d) (m : vc Hh1 Hh2) (s : Same Cl H1 H2) : xc4 K k H0 H2 Hh2 v d := by
  obtain ⟨T, ys, ds, q, zs, ws, e1, e2, h1, h2, h3, h4, h5, h6, h7⟩ := t
  exact ⟨T, ys, ds, q, zs, ws, e1, e2, SqT.same m h1, DpAll.same m h2, h3, h4, h5, s.at h6, DpAll.same m h7⟩
end
section
variable {X : Cx} {Cl : Nat → Addr} {W : WX} {a b : Expr} {fa fb : FE}
end
theorem kc4 {L : List (List Int × Addr × V)} {k : List Int} {v : V} (h : qaC L k = some v) : ∃ b, (k, b, v) ∈ L := by
  unfold qaC at h
  obtain ⟨x, h1, h2⟩ := Option.map_eq_some_iff.mp h
  have h3 := List.find?_some h1
  have e : x.1 = k := by simpa using h3
  exact ⟨x.2.1, by rw [← h2, ← e]; exact List.mem_of_find?_eq_some h1⟩
theorem xaz.val {H H' : Hp} {p : Addr} {L : List (List Int × Addr × V)} (h : xaz H H' p L) {k : List Int} {v : V} (e : qaC L k = some v) : ∃ q zs, v = .ref q ∧ q ≠ p ∧ H q = none ∧ H' q = some (.lst zs) := by
  obtain ⟨qs, h1, h2, h3⟩ := h
  obtain ⟨b, m⟩ := kc4 e
  have : v ∈ L.map (·.2.2) := List.mem_map.mpr ⟨_, m, rfl⟩
  rw [h1] at this
  obtain ⟨q, hq, rfl⟩ := List.mem_map.mp this
  obtain ⟨n1, n2, zs, n3⟩ := h3 q hq
  exact ⟨q, zs, rfl, n1, n2, n3⟩
theorem xaz.nd {H H' : Hp} {p : Addr} {L : List (List Int × Addr × V)} (h : xaz H H' p L) : (L.map (·.2.2)).Nodup := by
  obtain ⟨qs, h1, h2, _⟩ := h
  rw [h1]
  exact List.Pairwise.map _ (fun a b z y => z (V.ref.inj y)) h2
structure qc5 (K : PySem.W.Frag) (Cl : Nat → Addr) (U H0 : Hp) (Zh Zf : Addr → Prop) (c R : Addr) (L : List (List Int × Addr × V)) (ps : PsD) (kx i j : Nat) (σ : St) (H : Hp) (ρ : xb) (xs : List V) (acc : List D) (qs cs : List Addr) (ks : List (List Int)) : Prop where
  I : SI K Cl U Zh H σ ρ
  pi : ρ[i]? = some (.pin c)
  pj : ρ[j]? = some (.pin R)
  hc : H c = some (qbL c L)
  hR : H R = some (.lst xs)
  zc : Zh c
  zR : Zh R
  uR : U R = none
  zo : ∀ b, Zo Zh σ ρ b ↔ Zf b
  hL : wC K (hide H Zf) L ps
  nd : (L.map (·.2.2)).Nodup
  vl : ∀ k v, qaC L k = some v → ∃ q zs, v = .ref q ∧ q ≠ R ∧ H0 q = none ∧ H q = some (.lst zs)
  dx : DpAll K (hide H Zf) xs acc
  ps : vbl K kx H0 H (hide H Zf) R xs acc qs cs
  ku : ks.length = cs.length
  kv : ∀ (t : Nat) a b, cs[t]? = some a → ks[t]? = some b → qaC L b = some (.ref a)
  qn : ∀ q ∈ qs, ∀ k, qaC L k ≠ some (.ref q)
  s0 : Same Cl H0 U
section
variable {X : Cx} {Cl : Nat → Addr} {W : WX} {U H0 H H1 : Hp} {Zh Zf : Addr → Prop} {c R : Addr} {L : List (List Int × Addr × V)} {ps : PsD} {kx i j iz : Nat} {σ : St} {ρ : xb} {xs : List V} {acc : List D} {qs cs : List Addr} {ks : List (List Int)} {ga : FA} {F : TY} {Q : VK}
theorem qc5.same (S : qc5 X.K Cl U H0 Zh Zf c R L ps kx i j σ H ρ xs acc qs cs ks) (s : Same Cl H H1) : qc5 X.K Cl U H0 Zh Zf c R L ps kx i j σ H1 ρ xs acc qs cs ks := by
  have up : vc (hide H Zf) (hide H1 Zf) := vw s fun _ h => .inl h
  exact ⟨S.I.kO s, S.pi, S.pj, s.at S.hc, s.at S.hR, S.zc, S.zR, S.uR, S.zo, S.hL.same up, S.nd, fun k v e => by
    obtain ⟨q, zs, h1, h2, h3, h4⟩ := S.vl k v e
    exact ⟨q, zs, h1, h2, h3, s.at h4⟩, S.dx.same up, S.ps.same s up, S.ku, S.kv, S.qn, S.s0⟩
end
section
variable {K : PySem.W.Frag} {Cl : Nat → Addr} {U H0 H H1 : Hp} {Zh Zf : Addr → Prop} {c R : Addr} {L : List (List Int × Addr × V)} {ps : PsD} {kx i j : Nat} {σ σ1 : St} {ρ ρ1 : xb} {xs : List V} {acc : List D} {qs cs : List Addr} {ks : List (List Int)}
def kbe (ρ : xb) : Prop := ∀ (j : Nat) s, ρ[j]? = some s → s.jaz → ∃ a ks, s = .vX a (.set ks)
theorem kbe.nl (h : kbe ρ) {Z : Addr → Prop} (I : DI K Cl Z H σ ρ) {b : Addr} (o : xo σ ρ b) (zs : List V) : H b ≠ some (.lst zs) := fun z => by
  obtain ⟨t, o⟩ := o
  obtain ⟨s, h1, h2⟩ := o.slot
  obtain ⟨a, ks, rfl⟩ := h t s h1 h2
  have ab : a = b := by
    rcases o with ⟨_, ds, y⟩ | ⟨k, ds, y⟩ | ⟨c, y⟩
    · rw [h1] at y; cases y
    · rw [h1] at y; cases y
    · rw [h1] at y; cases y; rfl
  obtain ⟨_, u, e2, L, hu, _⟩ := I.slots t _ h1
  rw [ab, z] at e2
  cases e2
  unfold vbk at hu
  cases hu
end
def zc5 (ρ : xb) (b : Addr) : Prop := ∃ (n : Nat) (ks : List (List Int)), ρ[n]? = some (.vX b (.set ks))
theorem kbe.owned {σ : St} {ρ : xb} (h : kbe ρ) {b : Addr} : xo σ ρ b ↔ zc5 ρ b := by
  constructor
  · rintro ⟨t, o⟩
    obtain ⟨s, h1, h2⟩ := o.slot
    obtain ⟨a, ks, rfl⟩ := h t s h1 h2
    rcases o with ⟨_, ds, y⟩ | ⟨k, ds, y⟩ | ⟨c, y⟩
    · rw [h1] at y; cases y
    · rw [h1] at y; cases y
    · rw [h1] at y; cases y; exact ⟨t, ks, h1⟩
  · rintro ⟨t, ks, e⟩
    exact ⟨t, .inr (.inr ⟨_, e⟩)⟩
def zda (i j : Nat) (ρ ρ' : xb) : Prop := kbe ρ' ∧ ρ'[i]? = ρ[i]? ∧ ρ'[j]? = ρ[j]? ∧ ∀ b, zc5 ρ' b ↔ zc5 ρ b
theorem zda.zo {i j : Nat} {ρ ρ' : xb} (h : zda i j ρ ρ') (h0 : kbe ρ) {Z Zf : Addr → Prop} {σ σ' : St} (zo : ∀ b, Zo Z σ ρ b ↔ Zf b) : ∀ b, Zo Z σ' ρ' b ↔ Zf b := fun b => by
  refine Iff.trans ⟨fun z => z.imp id fun z => ?_, fun z => z.imp id fun z => ?_⟩ (zo b)
  · exact h0.owned.mpr ((h.2.2.2 b).mp (h.1.owned.mp z))
  · exact h.1.owned.mpr ((h.2.2.2 b).mpr (h0.owned.mp z))
section
variable {X : Cx} {Cl : Nat → Addr} {W : WX} {U H0 H : Hp} {Zh Zf : Addr → Prop} {c R : Addr} {L : List (List Int × Addr × V)} {ps : PsD} {kx i j iz : Nat} {σ : St} {ρ ρ9 : xb} {xs : List V} {acc acc9 : List D} {qs cs : List Addr} {ks ks9 : List (List Int)} {fA : FE} {t3 : FT} {fB : FS} {ga : FA} {F : TY} {D : Ends}
end
section
variable {X : Cx} {Cl : Nat → Addr} {W : WX} {e e0 eA c3 c4 app tg iter : Expr} {es : List Expr} {stB : Stmt} {g0 ga : FA} {f0 fA : FE} {it : FI} {g : FG} {t3 : FT} {fB : FS} {F : TY}
end
section
variable {X : Cx} {Cl : Nat → Addr} {W : WX} {e : Expr} {es : List Expr} {g : FA} {f2 : FE} {t3 t4 : FT} {rest : FS}
end
section
variable {X : Cx}
end
section
variable {X : Cx} {Cl : Nat → Addr} {W : WX} {tg iter c1 ke ke2 ae : Expr} {it : FI} {g : FG} {t1 : FT} {fk : FE} {ga : FA} {F : TY}
end
section
variable {X : Cx} {Cl : Nat → Addr} {W : WX}
variable {elt tg iter : Expr} {ifs : List Expr} {scope : Scope} {own : List (Str × Nat)} {pos : Pos} {g : TG} {tt : FT} {fe : FE} {vs : List Nat} {st : xb → D → Option xb} {i0 : Nat}
end
section
variable {X : Cx} {Cl : Nat → Addr} {W : WX} {e : Expr} {f : FE} {pos : Pos}
end
section
variable {K : PySem.W.Frag}
end
section
variable {X : Cx} {Cl : Nat → Addr} {W : WX} {a b : Expr} {fa fb : FE} {pos : Pos}
end
section
variable {X : Cx} {Cl : Nat → Addr} {W : WX} {e : Expr} {fe : FE}
end
end DL
namespace DL
open PySem PySem.Spec PyProof.Rows L2
open PySem.W (findIn nsIn mg_of keepIn fnOf codeIn isFn hasDictIn subIn typeIn)
variable {K : PySem.W.Frag} {h : Heap} {mg : Str → Option Value} {x qn : Str} {st : Stmt} {q C fI : Addr}
def ErA (K : PySem.W.Frag) (x : Str) (C fI : Addr) : Prop := nsIn K mainGlobals x = some (some (.ref C)) ∧ OexC K C ∧ findIn K (.ref C) "at" = some none ∧ findIn K (.ref C) "__init__" = some (some (.ref fI)) ∧ XfC K C
theorem ErA.ext (X : K.In h) (G : h.Ns mainGlobals mg) (z : ErA K x C fI) : ExT K mg x C fI := ⟨mg_of X G z.1, z.2.1, z.2.2.1, z.2.2.2.1, z.2.2.2.2⟩
theorem ErA.er (z : ErA K x C fI) (xc : findIn K (.ref C) "__class__" = some (some (.builtin "object.__class__"))) (yn : PySem.W.specialIn K (.builtin "object.__class__") "__get__" = some (some (.builtin "getset_descriptor.__get__"))) (yt : PySem.W.takesIn K (.builtin "object.__class__") = some true) (xm : PySem.W.mroIn K C (.type "object") = some true) : ErF K C := ⟨z.2.2.2.2, z.2.2.1, ⟨z.2.2.2.2.ga, z.2.2.2.2.gg, z.2.2.2.2.exC, z.2.2.2.2.hdC, xc, yn, yt, xm⟩⟩
structure FnT (K : PySem.W.Frag) (mg : Str → Option Value) (x : Str) (st : Stmt) (ps : List Str) where
  a : Addr
  d : FuncData
  F : Fun K x x st a d
  g : mg x = some (.ref a)
  b : Binds K d ps []
structure MnT (K : PySem.W.Frag) (C : Addr) (x qn : Str) (st : Stmt) (ps : List Str) where
  a : Addr
  d : FuncData
  F : Fun K x qn st a d
  g : Meth K C x a
  b : Binds K d ps []
end DL
namespace DL
open PySem PySem.Spec PyProof.Rows L2 L2H
section
variable {X : Cx} {pins : List (Addr × Obj)} {σ : St} {H : Hp} {s : Shared}
theorem xdt {p : Addr × Obj} (I : Inv X pins σ H s) (hp : s.heap.get? p.1 = some p.2 ∧ H p.1 = none ∧ p.1 ≠ X.env.locals ∧ p.1 ∉ X.fs ∧ ∀ v, p.2.data ≠ .cell v) : Inv { X with pn := p :: X.pn } pins σ H s :=
  ⟨⟨I.ok.mod, I.ok.kind, I.ok.glob, I.ok.blt, I.ok.above, I.ok.inj, I.ok.has, I.ok.cab, I.ok.hd, I.ok.frames, I.ok.stk, I.ok.exf, I.ok.bs, I.ok.bsz, I.ok.noex, I.ok.exfs, I.ok.funs, I.ok.frf⟩, I.os, I.bare, I.base, I.loc, I.cell, I.free, I.freeC, fun q hq => by
    rcases List.mem_cons.mp hq with rfl | hq
    · exact hp
    · exact I.pin q hq, I.hok, I.len⟩
abbrev zau (X : Cx) (s : Shared) (H : Hp) (scope : Scope) (cenv : Env) (fp : List Addr) (p : Addr × Obj) : Cx := { X.blk s H scope cenv fp with pn := [p] }
variable {elt tg iter : Expr} {ifs : List Expr} {scope : Scope} {own : List (Str × Nat)} {pos : Pos} {wi : TI} {g : TG} {tt : TT} {te : TE}
theorem kdt (hc : HotC X) (hN : X.N.Nodup) (hi : PIH X tg iter wi) (ok : BlkOk X.N X.env.scope scope own)
    (hg : ∀ (s : Shared) (H : Hp) (C : Addr) (cl : List (Str × Addr)) (fp : List Addr) (p : Addr × Obj), PG (zau X s H scope (compEnvC scope cl C X.env) fp p) tg g) (ht : ∀ (s : Shared) (H : Hp) (C : Addr) (cl : List (Str × Addr)) (fp : List Addr) (p : Addr × Obj), PTs (zau X s H scope (compEnvC scope cl C X.env) fp p) ifs tt)
    (he : ∀ (s : Shared) (H : Hp) (C : Addr) (cl : List (Str × Addr)) (fp : List Addr) (p : Addr × Obj), PE (zau X s H scope (compEnvC scope cl C X.env) fp p) elt te) (hs : ∀ x, foldedSetIterable iter X.env x = pure x := by intro _; rfl) :
    PE X (.ListComp elt [⟨tg, iter, ifs, 0⟩] scope pos) (tLc wi g tt te (own.map (·.2))) := by
  refine ⟨fun pins s σ H Q I h => ?_⟩
  rw [eval_ListComp]
  obtain ⟨p, hot, hp⟩ := hc
  have hfree : ∀ y ∈ scope.names, y.2 = .free → ∃ c, X.env.cells.lookup y.1 = some c := fun y hy e => (ok.free y hy e).elim (fun k => I.ok.has _ (.inl k)) fun k => I.ok.has _ (.inr k)
  refine wpAny_comprehension_free rfl hs (closure_ok hfree) ok.kind (fun y hy e => by rw [ok.uniq y hy, e]) (thn (hi.run pins s σ H _ I h) fun xv s1 hx => thn hx fun itv s2 h2 => ?_)
  obtain ⟨it, fp, tn, J, H2, rfl, I2, T, st2, f2, q⟩ := h2
  refine wpAny_newObj_type (newEnv_comp ?_) (by show 0 ≤ sizeLine; decide)
  have hDn : H2 s2.heap.objs.size = none := I2.hok.fresh (Nat.le_refl _)
  obtain ⟨W, ⟨m0, w0⟩, turn⟩ := q _ hDn
  generalize hD : s2.heap.objs.size = D at hDn w0 turn ⊢
  generalize hs3 : ({ s2 with heap := s2.heap.push { cls := .type "list", data := .seq ([] : List Value).toArray } } : Shared) = s3
  have h3 : s3.heap = s2.heap.push { cls := .type "list", data := .seq ([] : List Value).toArray } := by rw [← hs3]
  have I3 : Inv X pins σ (upd H2 D (.lst [])) s3 := by
    rw [← hs3]
    refine I2.laid (t' := s2.toks) (fun b o e => Heap.get?_push_of_some _ e) (Nat.le_of_eq hD) ⟨Nat.zero_le _, [], 0, .nil, ?_⟩
    rw [← hD]
    exact Heap.get?_push_size _ rfl
  have f3 : ∀ b ∈ fp, FpOk X pins (upd H2 D (.lst [])) b ∧ b < s3.heap.objs.size := fun b hb => by
    obtain ⟨o, e, _⟩ := T.obj _ _ st2 b hb
    have hlt := Heap.lt_size e
    refine ⟨⟨?_, (f2 b hb).2⟩, by rw [h3, Heap.size_push]; exact Nat.lt_succ_of_lt hlt⟩
    rw [upd_ne (by rw [← hD]; exact Nat.ne_of_lt hlt)]
    exact (f2 b hb).1
  have st3 : tn 0 s3.heap := T.keep _ _ _ st2 fun b _ o e => by rw [h3]; exact Heap.get?_push_of_some _ e
  -- the block
  generalize hH3 : upd H2 D (.lst []) = H3 at I3 w0 f3
  have I4 := block_start I3 ok hN f3
  have pg := fun p => hg s3 H3 s3.heap.objs.size (cellsFrom (s3.heap.objs.size + 1) scope.names (cloFrom X.env.cells scope.names [])) fp p
  have pt := fun p => ht s3 H3 s3.heap.objs.size (cellsFrom (s3.heap.objs.size + 1) scope.names (cloFrom X.env.cells scope.names [])) fp p
  have pe := fun p => he s3 H3 s3.heap.objs.size (cellsFrom (s3.heap.objs.size + 1) scope.names (cloFrom X.env.cells scope.names [])) fp p
  show codeAny _ _ (.compStart (.ListComp elt [⟨tg, iter, ifs, 0⟩] scope pos) 0 (.ref it) (.ref D) (compEnvC scope (cellsFrom (s3.heap.objs.size + 1) scope.names (cloFrom X.env.cells scope.names [])) s3.heap.objs.size X.env)) _ { s3 with heap := pushCells (s3.heap.push { cls := .type "dict", data := .dict #[] }) scope.names }
  have keep4 : ∀ b o, s3.heap.get? b = some o → (pushCells (s3.heap.push { cls := .type "dict", data := .dict #[] }) scope.names).get? b = some o := fun b o e => pushCells_keeps _ _ _ _ (Heap.get?_push_of_some _ e)
  generalize hce : compEnvC scope (cellsFrom (s3.heap.objs.size + 1) scope.names (cloFrom X.env.cells scope.names [])) s3.heap.objs.size X.env = ce at I4 pg pt pe ⊢
  have cL : ce.locals = s3.heap.objs.size := by subst hce; rfl
  generalize hs4 : ({ s3 with heap := pushCells (s3.heap.push { cls := .type "dict", data := .dict #[] }) scope.names } : Shared) = s4 at I4 ⊢
  have e4 : s4.heap = pushCells (s3.heap.push { cls := .type "dict", data := .dict #[] }) scope.names := by rw [← hs4]
  have st4 : tn 0 s4.heap := T.keep _ _ _ st3 fun b _ o e => by rw [e4]; exact keep4 _ _ e
  have P3 := I3.pin p (List.mem_append_left _ hp)
  have I4' : Inv (zau X s3 H3 scope ce fp p) [] (wipe σ (own.map (·.2))) H3 s4 := xdt I4 ⟨by rw [e4]; exact keep4 _ _ P3.1, P3.2.1, by
    show p.1 ≠ ce.locals
    rw [cL]
    exact Nat.ne_of_lt (Heap.lt_size P3.1), fun hm => (List.mem_cons.mp (I3.stkSub p.1 hm)).elim P3.2.2.1 P3.2.2.2.1, P3.2.2.2.2⟩
  have hotB : HotC (zau X s3 H3 scope ce fp p) := ⟨p, hot, List.mem_singleton.mpr rfl⟩
  have pfp : ∀ b ∈ fp, p.1 ≠ b := fun b hb => (f3 b hb).1.2.2.2.2.2 p (List.mem_append_left _ hp)
  have stat : ∀ {σ' : St} {H' : Hp} {s' : Shared}, Inv (zau X s3 H3 scope ce fp p) [] σ' H' s' → (∀ b ∈ fp, H' b = none) → ∀ b ∈ fp, FpOk (zau X s3 H3 scope ce fp p) [] H' b := fun {σ' H' s'} I' hn b hb =>
    ⟨hn b hb, (I'.ok.exf b hb).1, I'.ok.exfs b hb, .inl hb, fun x c e => (I'.ok.exf b hb).2 x c e, fun q hq => by
      have : q = p := by simpa using (show q ∈ [p] ++ ([] : List (Addr × Obj)) from hq)
      rw [this]
      exact pfp b hb⟩
  have loop : codeAny (model X.prog X.w) X.A (.compLoop (.ListComp elt [⟨tg, iter, ifs, 0⟩] scope pos) 0 (.ref it) (.ref D) ce) (compPost (model X.prog X.w) X.A X.xe none (EP X pins σ Q) (.ref D) s3.heap.objs.size) s4 := by
    refine compLoop_any (fun n s' => ∃ i H', Inv (zau X s3 H3 scope ce fp p) [] (wipe σ (own.map (·.2))) H' s' ∧ tn i s'.heap ∧ (∀ b ∈ fp, H' b = none) ∧ W i n H') ?_ m0 ⟨0, H3, I4', st4, fun b hb => (f3 b hb).1.1, w0⟩
    rintro n s5 ⟨i, H5, I5, st5, n5, w5⟩
    rcases turn i n H5 w5 with ⟨stop, qq⟩ | ⟨go, Nx, hNx, step⟩
    · refine thnF (T.done (zau X s3 H3 scope ce fp p) rfl rfl rfl hotB i [] s5 _ H5 (fun _ _ => False) I5 (stat I5 n5) st5 stop) fun r s6 ⟨hr, I6⟩ => ?_
      subst hr
      have I7 : Inv X pins σ H5 s6 := I3.call' (ch := fp) I6.os I6.base I6.hok I6.bare fun b hb => ⟨(f3 b hb).1.2.2.2.1, (f3 b hb).1.2.1, (f3 b hb).1.2.2.2.2.1, (f3 b hb).1.2.2.2.2.2⟩
      have nC : H5 s3.heap.objs.size = none := by
        have z : H5 ce.locals = none := I6.free
        rwa [cL] at z
      obtain ⟨m, hn, _⟩ := I6.loc
      have hn : s6.heap.Ns ce.locals m := hn
      rw [cL] at hn
      obtain ⟨g0, g1, g2, g3, g4, g5⟩ := I3.fpOk (Nat.le_refl _) nC
      exact ⟨m, hn, fun h'' sb => ⟨.ref D, H5, I7.turned (t' := s6.toks) (fun b o hb e => (sb.2 b hb).trans e) g0 g1 g3 g4 g5, rfl, qq⟩⟩
    · refine thnF (T.item (zau X s3 H3 scope ce fp p) rfl rfl rfl hotB i [] s5 _ H5 (fun _ _ => False) I5 (stat I5 n5) st5 go) fun r s6 ⟨u, hr, h6⟩ => ?_
      subst hr
      refine thnF h6 fun _ s7 ⟨x, H7, I7, r7, y7, st7, n7⟩ => ?_
      refine thnF ((pg p).run _ s7 _ H7 x u _ (I7.pinned (stat I7 n7) (T.obj _ _ st7)) r7 (step x H7 y7)) fun _ s8 ⟨σ8, H8, I8, hw8, q8⟩ => ?_
      refine thnF ((pt p).run _ s8 σ8 H8 _ I8 q8) fun b s9 ⟨H9, I9, q9⟩ => ?_
      have fin : ∀ {s' : Shared} {H' : Hp}, Inv (zau X s3 H3 scope ce fp p) ([] ++ pinsAt fp s7.heap) σ8 H' s' → Nx H' → ∃ m, m < n ∧ ∃ i H', Inv (zau X s3 H3 scope ce fp p) [] (wipe σ (own.map (·.2))) H' s' ∧ tn i s'.heap ∧ (∀ b ∈ fp, H' b = none) ∧ W i m H' := fun {s' H'} I' nx => by
        obtain ⟨m', hm, w'⟩ := hNx H' nx
        have pin' : ∀ b ∈ fp, ∀ o, s7.heap.get? b = some o → s'.heap.get? b = some o ∧ H' b = none := fun b hb o e =>
          let z := I'.pin (b, o) (List.mem_append_right _ (List.mem_append_right _ (mem_pinsAt hb e)))
          ⟨z.1, z.2.1⟩
        have hl : (wipe σ (own.map (·.2))).length = σ8.length := by rw [← hw8, wipe_length]
        refine ⟨m', hm, i + 1, H', (I'.unpinned (pins := [])).weak hl (fun j v e => ?_), T.keep _ _ _ st7 fun b hb o e => (pin' b hb o e).1, fun b hb => ?_, w'⟩
        · rw [← hw8] at e
          exact (wipe_some e).1
        · obtain ⟨o, e, _⟩ := T.obj _ _ st7 b hb
          exact (pin' b hb o e).2
      cases b with
      | false =>
        simp only [Bool.false_eq_true, if_false] at q9 ⊢
        exact fin I9 q9
      | true =>
        simp only [if_true] at q9 ⊢
        refine thnF ((pe p).run _ s9 σ8 H9 _ I9 q9) fun z s10 ⟨yv, H10, I10, r10, acc, hD10, hz10, nx⟩ => ?_
        exact app_ok (X := zau X s3 H3 scope ce fp p) I10 hD10 hz10 r10 fun s11 I11 => fin I11 nx
  exact codeAny_compStart_list loop (T.self X.A 0 _ _ _ st4 loop)
end
end DL
namespace DL
open PySem PySem.Spec PyProof.Rows L2
section
variable {X : Cx} {Cl : Nat → Addr} {W : WX} {K : PySem.W.Frag} {g : FA} {p pos : Pos} {tg : Expr}
theorem PIH.imp {iter : Expr} {wi wi' : TI} (h : L2H.PIH X tg iter wi) (i : ∀ σ H R, wi' σ H R → wi σ H R) : L2H.PIH X tg iter wi' := ⟨fun pins s σ H R I q => h.run pins s σ H R I (i σ H R q)⟩
theorem vcI {a : Expr} (hm : X.mg "range" = none) (ha : DA X Cl W [a] g) (hg : Gl X "range" := by rfl) (hs : starEach [a] X.env = [(false, eval a X.env)] := by rfl) : L2H.PIH X tg (.Call (.Name "range" p) [a] [] pos) (xcH X.K Cl W (yj g)) :=
  PIH.imp (L2H.pi_range1H hg hm ha hs) fun σ H R ⟨Z, ρ, r, I, e, q⟩ => by
    unfold yj at e
    cases e1 : g ρ with
    | none => rw [e1] at e; cases e
    | some r1 =>
      rw [e1] at e
      refine yK I e1 (fun er z => ?_) fun vs xs H1 ev s1 hvs I1 => ?_
      · subst z
        cases e
        exact q
      · subst ev
        dsimp only at e
        split at e
        · rename_i v
          obtain ⟨x, rfl, h⟩ := hvs.one
          split at e
          · rename_i j ej
            split at e
            · rename_i hc
              cases e
              obtain ⟨h1, h2⟩ := ybL hc
              exact ⟨j, by rw [h.int_inv I ej], h1, h2, q _ H1 s1 zbR⟩
            · cases e
          · cases e
        · cases e
variable {elt iter : Expr} {ifs : List Expr} {scope : Scope} {own : List (Str × Nat)} {it : FI} {gg : TG} {tt : FT} {fe : FE} {vs : List Nat} {st : xb → D → Option xb}
theorem qdu (hc : L2H.HotC X) (hN : X.N.Nodup) (T : LcT X.K vs gg st) (hi : L2H.PIH X tg iter (xcH X.K Cl W it)) (ok : BlkOk X.N X.env.scope scope own)
    (hg : ∀ (s : Shared) (H : Hp) (C : Addr) (cl : List (Str × Addr)) (fp : List Addr) (p : Addr × Obj), PG (zau X s H scope (compEnvC scope cl C X.env) fp p) tg gg) (ht : ∀ (s : Shared) (H : Hp) (C : Addr) (cl : List (Str × Addr)) (fp : List Addr) (p : Addr × Obj), DTs (zau X s H scope (compEnvC scope cl C X.env) fp p) Cl W0 ifs tt)
    (he : ∀ (s : Shared) (H : Hp) (C : Addr) (cl : List (Str × Addr)) (fp : List Addr) (p : Addr × Obj), DE (zau X s H scope (compEnvC scope cl C X.env) fp p) Cl W0 elt fe) (hv : own.map (·.2) = vs := by rfl) (hs : ∀ x, foldedSetIterable iter X.env x = pure x := by intro _; rfl) :
    DE X Cl W (.ListComp elt [⟨tg, iter, ifs, 0⟩] scope pos) (yE vs st it tt fe) := PE.imp (kdt (tt := jbl X.K Cl W0 tt) (te := qau X.K Cl W0 fe) hc hN hi ok hg ht he hs) fun σ H Q h => by
  rw [hv]
  exact jbZ T h
end
theorem jc5 {P : Program} {w : World} {K : PySem.W.Frag} {Cl : Nat → Addr} {mg : Str → Option Value} {base : Heap} {x qual : Str} {st : Stmt} {fa : Addr} {fd : FuncData} {N : List Str} {pn : Str} {k m : Nat} {fb : Nat → Addr → Addr → FS} (F : Fun K x qual st fa fd) (S : FnScope N [pn] (defScope st)) (hm : N.length = m)
    (h : ∀ (a dd : Addr) (oe : Obj) (c : Nat), base.get? a = some oe → ErF K (Cl c) → Zc (.ref (Cl c)) (some dd) oe → (∃ fs, oe.data = .fields fs) → ∀ (cdv : Value) (A : Around) (outer : List Env) (s : Shared) (H : Hp) (E : XK) (p : Addr × Obj), L2H.HotC (L2H.cxH (L2.CX P w) P w K mg base N qual (defScope st) fa cdv A outer s H E p) →
      DSs (L2H.cxH (L2.CX P w) P w K mg base N qual (defScope st) fa cdv A outer s H E p) Cl (fun cls d _ H' => E cls d H') (defBody st) (fb c a dd)) : L2H.FnH P w K mg base (L2.CX P w) (k + 1) fa fd [pn] (spE K Cl base (mkE m fb)) := by
  obtain ⟨oc, od, kV, doc, pm, an, cdv, ct, osl, e, lk, hcd⟩ := F.ex
  subst e
  refine L2H.fn_ofH lk hcd S (fun vs H Q E ⟨Z, a, dd, oe, c, i, o, _, e, _⟩ => by rw [e]; rfl) fun A outer s H vs Q E p hp hr hsp => ?_
  obtain ⟨Z, a, dd, oe, c, i, o, live, rfl, h1, h2, h3, h4, h5, e, q⟩ := hsp
  refine ⟨_, h a dd oe c h1 h4 h2 h3 cdv A outer s H E p ⟨p, hp, List.mem_singleton.mpr rfl⟩, ?_⟩
  have e' := qcT e a dd
  have hst : L2.start N [V.ref a] = some (.ref a) :: List.replicate (m - 1) none := by
    unfold L2.start
    rw [hm]
    rfl
  rw [hst]
  cases eb : fb c a dd (.err a dd i :: List.replicate (m - 1) .un) with
  | none => rw [eb] at e'; cases e'
  | some ob =>
    rw [eb] at e'
    have I := DI.wdq (K := K) (a := a) (m := m - 1) live h5
    have noO : ∀ b, xo (some (V.ref a) :: List.replicate (m - 1) none) (.err a dd i :: List.replicate (m - 1) .un) b → H b = none := fun b ⟨j, ho⟩ => by
      obtain ⟨s, h2, h3⟩ := ho.slot
      cases j with
      | zero => cases h2; cases h3
      | succ j =>
        rw [List.getElem?_cons_succ, List.getElem?_replicate] at h2
        split at h2
        · cases h2; cases h3
        · cases h2
    refine ⟨H, Z, _, ob, ⟨I, Same.refl _, noO⟩, eb, ?_⟩
    cases ob with
    | nx ρ => cases e'; exact fun σ' H' I' => q .non H' I'.same .non
    | ret d => cases e'; exact q
    | retF es => cases e'; exact q
    | retX ds k => cases e'; exact q
    | exc ρ c i => cases e'; exact fun dd σ' H' I' hd => q dd H' I'.same hd
    | brk ρ => cases e'
    | ct ρ => cases e'
section
variable {X : Cx} {Cl : Nat → Addr} {W : WX} {K : PySem.W.Frag} {pos : Pos}
theorem jcV {F : DFE} {a dd : Addr} {oe : Obj} {c kk k : Nat} {fa : Addr} {fd : FuncData} {pn n x : Str} {p p1 : Pos} (G : ∀ base' : Heap, L2H.FnH X.prog X.w X.K X.mg base' (L2.CX X.prog X.w) kk fa fd [pn] (spE X.K Cl base' F)) (hr : L2H.RoomH kk X.A) (hot : L2H.HotC X)
    (hpn : (a, oe) ∈ X.pn) (hz : Zc (.ref (Cl c)) (some dd) oe) (hf : ∃ fs, oe.data = .fields fs) (hE : ErF X.K (Cl c)) (hm : X.mg x = some (.ref fa)) (hk : PySem.W.keepIn X.K (.ref fa) = true) (hb : Binds X.K fd [pn] []) (hv : PE X (.Name n p1) (tVar k))
    (hg : Gl X x := by rfl) (hdb : (x == ("__debug__" : Str)) = false := by decide) (he : starEach (.Name n p1 :: []) X.env = (false, eval (.Name n p1) X.env) :: starEach [] X.env := by rfl) (hpl : (backTo pos (starEach [] X.env)).any (·.1) = false := by rfl) :
    DE X Cl W (.Call (.Name x p) [.Name n p1] [] pos) (zbe F k a dd c) := by
  refine ⟨fun pins s σ H Q I h => ?_⟩
  obtain ⟨Z, ρ, r, J, e, q⟩ := h
  unfold zbe at e
  split at e
  · rename_i a' dd' i hd
    split at e
    · rename_i hh
      obtain ⟨rfl, rfl⟩ := hh
      obtain ⟨h1, h2⟩ := J.slots k _ hd
      have ha : PA X [.Name n p1] (tCons (tVar k) tNil) := pa_cons hv pa_nil he
      refine wpAny_Call_Name_kw (ld_glob I hg hm ?_ hdb)
      refine PySem.W.callWith_K (h₀ := X.base) I.ok.mod.kin hk (thn (ha.run pos pins s σ H (fun vs H1 => vs = [V.ref a'] ∧ H = H1) I ⟨_, h1, rfl, rfl⟩) fun us s1 ⟨vs, H1, I1, r1, ev, eH⟩ => ⟨I1.kIn, ?_⟩) he hpl
      subst ev
      subst eH
      obtain ⟨hp, hot1, hpp⟩ := id hot
      obtain ⟨base', hb1, _, E0⟩ := yct I1 (List.mem_append_left _ hpn)
      have P1 := I1.pin hp (List.mem_append_left _ hpp)
      have hpin : L2H.PinOk X.stack H s1 hp := ⟨P1.1, P1.2.1, fun hm => (List.mem_cons.mp (I1.stkSub hp.1 hm)).elim P1.2.2.1 P1.2.2.2.1, P1.2.2.2.2⟩
      have b := hb s1 us I1.kIn (by rw [List.append_nil, ← r1.length]; rfl)
      rw [List.append_nil] at b
      have fin : ∀ (o : kaV) (eo : F c i = some o), DOk X.K Cl (Zo Z σ ρ) H Q (fun _ _ _ => False) o → wpAny (model X.prog X.w) X.A (call (.ref fa) us) (EP X pins σ Q) X.xe s1 := fun o eo qo => by
        refine wpAny_call (codeAny_mono ((G base').run X.A X.stack s1 H ⟨us, []⟩ us [V.ref a'] Q (fun _ _ _ => False) hp hr hot1 hpin E0 b r1 ⟨Zo Z σ ρ, a', dd', oe, c, i, o, ⟨fun b z => J.qal z, J.tb⟩, rfl, hb1, hz, hf, hE, h2, eo, qo⟩) fun r s' hq => ?_)
        cases r with
        | error er =>
          obtain ⟨_, _, _, _, _, _, _, _, _, _, _, _, z⟩ := hq
          exact z.elim
        | ok fl =>
          cases fl with
          | ret u => exact I1.after hq
          | next => exact False.elim hq
          | brk => exact False.elim hq
          | cont => exact False.elim hq
      split at e
      · rename_i d ed
        cases e
        exact fin _ ed fun v H' s hd => q v H' s hd
      · rename_i ds ed
        cases e
        exact fin _ ed fun p xs H' s n h2 h3 => q _ H' s ⟨p, xs, rfl, n, h2, h3⟩
      · cases e
    · cases e
  · cases e
def ycI : HF := fun _ _ _ => none
theorem jdm {body : List Stmt} {fb : FS} {x n : Str} {k : Nat} {N : Nat → Prop} {C : Value} {b0 : Stmt} {suite : List Stmt} {np pos' : Pos} {m : Nat → Option Bool} {g : Nat → Addr → Addr → FS} (hs : X.stack = X.env :: X.outer) (hf : X.env.frame = some X.env.locals) (hN : X.N.Nodup) (hc : Names X x C)
    (hm : ∀ c b, m c = some b → N c ∧ PySem.W.exmOne X.K (.ref (Cl c)) C = some b)
    (hb : ∀ (W1 : WX) (pn : List (Addr × Obj)) (xe : Value → Shared → Prop), L2N.Takes (X.tr pn xe) W1 → PassesOwn (model X.prog X.w) X.A X.env xe → DSs (X.tr pn xe) Cl W1 body fb)
    (hsu : ∀ (a dd : Addr) (c : Nat) (oe : Obj) (pn : List (Addr × Obj)), N c → Zc (.ref (Cl c)) (some dd) oe → (∃ vs, oe.data = .fields vs) → L2H.HotC (X.suite a ((a, oe) :: pn)) → DSs (X.suite a ((a, oe) :: pn)) Cl W0 (b0 :: suite) (g c a dd))
    (hi : X.N[k]? = some n := by rfl) (hln : X.env.kindOf n = some .local := by rfl) : DS X Cl W (.Try body [.ExceptHandler (some (.Name x np)) (some n) (b0 :: suite) pos'] [] [] pos) (vaB fb (hAs m k g ycI)) := by
  have no : L2N.Takes X (fun _ _ _ _ => False) := fun u s' z => by
    obtain ⟨_, _, _, _, _, _, _, _, _, _, _, _, _, _, _, _, z⟩ := z
    exact z.elim
  refine PS.imp (L2N.ps_try_as (c := C) (i := k) (ts := tsX X.K Cl N g) (tb := fun W1 => ybk X.K Cl W1 fb) (Wout := fun _ _ _ _ => False) hs hf hN hi hln hc no (fun W1 pn xe t1 p1 => hb W1 pn xe t1 p1) (fun a oe cls d pn hz hdat => ⟨fun pins s σ H D I q => ?_⟩)) fun D σ H ⟨H0, Z, ρ, o, I, e, q⟩ => ?_
  · obtain ⟨c, dd, hlt, rfl, rfl, q⟩ := q
    obtain ⟨vs, hd⟩ := hdat
    exact (hsu a dd c oe pn hlt hz.zc ⟨vs, hd⟩ ⟨(a, oe), ⟨rfl, vs, hd, hz.2.2 vs hd⟩, List.mem_cons_self⟩).run pins s σ H D I q
  · unfold vaB at e
    cases e1 : fb ρ with
    | none => rw [e1] at e; cases e
    | some o1 =>
      rw [e1] at e
      refine ⟨H0, Z, ρ, o1, I, e1, ?_⟩
      cases o1 with
      | nx ρ2 => cases e; exact q
      | brk ρ2 => cases e; exact q
      | ct ρ2 => cases e; exact q
      | ret d => cases e; exact q
      | retF ds => cases e; exact q
      | retX ds k => cases e; exact q
      | exc ρ1 c i =>
        intro dd σ' H' I' hd
        dsimp only at e
        unfold hAs ycI at e
        cases em : m c with
        | none => rw [em] at e; cases e
        | some b =>
          rw [em] at e
          obtain ⟨hlt, hb⟩ := hm c b em
          refine ⟨b, hb, fun hb1 a na => ?_, fun hb0 => ?_⟩
          · subst hb1
            have sp := jcG e a dd
            cases e2 : g c a dd (ρ1.set k (.err a dd i)) with
            | none => rw [e2] at sp; cases sp
            | some o2 =>
              rw [e2] at sp
              refine ⟨c, dd, hlt, rfl, rfl, H0, Z, _, o2, I'.ydp hd, e2, ?_⟩
              cases o2 with
              | nx ρ2 => cases sp; exact fun σ' H' I' => q _ H' I'.vbT
              | brk ρ2 => cases sp; exact fun σ' H' I' => q _ H' I'.vbT
              | ct ρ2 => cases sp; exact fun σ' H' I' => q _ H' I'.vbT
              | ret d => cases sp; exact q
              | retF ds => cases sp; exact q
              | retX ds k => cases sp; exact q
              | exc _ _ _ => cases sp
          · subst hb0
            cases e
end
end DL
namespace FN
open PySem PySem.Spec PyProof.Rows L2 DL
noncomputable section
def zT : FS := vb (kh (wB (tV (e2 qK (eG kl (qa (eV 0) (ka))) (eC (.int 0)))) (tV (e2 wz (e2 vi (eV 0) (eC (.int 0))) (eC (.int 4))))) (yi 5 (eC (.int 0))) (ki)) (vb (kh (tV (e2 vT (eG kl (qa (eV 0) (ka))) (eC (.int 5)))) (yi 6 (eC (.int 1))) (ki)) (vb (kh (tV (e2 vT (eG kl (qa (eV 0) (ka))) (eC (.int 9)))) (yi 7 (eC (.int 5))) (ki)) (vh (jn (qa (e2 vi (eV 0) (eC (.int 0))) (qa (kb (qF FN.kF) 1 (qa (qB (eV 0) (zj (eC (.int 1))) (zj (eC (.int 5)))) (ka))) (qa (kb (qF FN.kF) 1 (qa (qB (eV 0) (zj (eC (.int 5))) (zj (eC (.int 9)))) (ka))) (ka))))))))
def zp : DF := xA 1 1 zT
def qa6 : FS := vb (jw (gT 2 (qc 1 (qc 2 (wo)))) (kb (qF FN.xj) 3 (qa (eV 0) (qa (eC (.int 9)) (qa (eC (.int 15)) (ka)))))) (vb (kh (tV (e2 yL (eV 1) (eC .none))) (yi 8 (eC (.int 9))) (ki)) (vb (jw (gT 2 (qc 3 (qc 4 (wo)))) (kb (qF FN.xj) 3 (qa (eV 0) (qa (eV 2) (qa (eC (.int 16777215)) (ka)))))) (vb (kh (tV (e2 yL (eV 3) (eC .none))) (yi 9 (eV 2)) (ki)) (vb (jw (gT 2 (qc 5 (qc 6 (wo)))) (kb (qF FN.xj) 3 (qa (eV 0) (qa (eV 4) (qa (eC (.int 1099511627775)) (ka)))))) (vb (kh (tV (e2 yL (eV 5) (eC .none))) (yi 10 (eV 4)) (ki)) (vb (jw (gT 2 (qc 7 (qc 8 (wo)))) (kb (qF FN.xj) 3 (qa (eV 0) (qa (eV 6) (qa (eC (.int 16777215)) (ka)))))) (vb (kh (tV (e2 yL (eV 7) (eC .none))) (yi 11 (eV 6)) (ki)) (vh (jn (qa (eV 1) (qa (eV 3) (qa (eV 5) (qa (eV 7) (qa (eV 8) (ka)))))))))))))))
def jT : DF := xA 1 9 qa6
def wbf : FS := vb (jw (gT 2 (qc 2 (qc 3 (wo)))) (kb (qF FN.xj) 3 (qa (eV 0) (qa (eV 1) (qa (eC (.int 1024)) (ka)))))) (vb (kh (tV (e2 yL (eV 2) (eC .none))) (yi 13 (eV 1)) (ki)) (vb (kh (tV (e2 wz (e2 wc (eV 3) (eV 2)) (eG kl (qa (eV 0) (ka))))) (yi 14 (eV 3)) (ki)) (vh (jn (qa (qB (eV 0) (zj (eV 3)) (zj (e2 wc (eV 3) (eV 2)))) (qa (e2 wc (eV 3) (eV 2)) (ka)))))))
def zL : DF := xA 2 4 wbf
def vbf : FS := vb (jw (gT 3 (qc 1 (qc 2 (qc 3 (wo))))) (kb FN.zp 1 (qa (eV 0) (ka)))) (vb (jw (gT 5 (qc 4 (qc 5 (qc 6 (qc 7 (qc 8 (wo))))))) (kb FN.jT 1 (qa (eV 0) (ka)))) (vb (kh (wB (tV (e2 zJ (eV 8) (eG kl (qa (eV 0) (ka))))) (tV (e2 wz (e2 vi (eV 0) (eV 8)) (eC (.int 1))))) (yi 12 (eV 8)) (ki)) (vb (je 9 (e2 vi (eV 0) (eV 8))) (vb (jw (gT 2 (qc 10 (qc 11 (wo)))) (kb FN.zL 2 (qa (eV 0) (qa (e2 wc (eV 8) (eC (.int 1))) (ka))))) (vb (kh (tV (e2 gNe (qB (eV 0) (zj (eV 11)) (wu)) (kb (qF FN.kn) 1 (qa (kb (qF FN.yD) 1 (qa (qB (eV 0) (wu) (zj (eV 11))) (ka))) (ka))))) (yi 15 (eV 11)) (ki)) (vh (jn (qa (eV 1) (qa (eV 2) (qa (eV 3) (qa (eV 4) (qa (eV 5) (qa (eV 6) (qa (eV 7) (qa (eV 9) (qa (eV 10) (ka)))))))))))))))))
def qas : DF := xA 1 12 vbf
def za6 : FS := vaB (vh (kb FN.qas 1 (qa (eV 0) (ka)))) (hAs (mxL [(1, true), (2, true), (3, true), (5, true), (6, true), (7, true), (8, true), (9, true), (10, true), (11, true), (12, true), (13, true), (14, true), (15, true)]) 1 (fun xc xa xd => vb (je 2 (zbe FN.vam 1 xa xd xc)) (vb (kh (tV (e2 gNe (eG kl (qa (eV 2) (ka))) (eC (.int 1)))) (vh (eC .none)) (ki)) (vh (jn (qa (e2 vi (eV 2) (eC (.int 0))) (qa (eAt 1 xa xd) (ka))))))) ycI)
def yal : DF := xA 1 3 za6
def kbD : FS := vb (je 1 (kb FN.jaC 1 (qa (eV 0) (ka)))) (vb (je 2 (kb FN.kq 1 (qa (eV 1) (ka)))) (vb (je 3 (eG wcd (qa (eV 2) (ka)))) (vb (je 4 (kb FN.yal 1 (qa (eV 2) (ka)))) (vb (je 5 (kb FN.zas 1 (qa (eV 3) (ka)))) (vb (kh (wB (wbl (tV (e1 (qcg "tuple") (eV 4)))) (wB (tV (e2 gNe (eV 4) (eV 5))) (tV (e2 gNe (eV 2) (eV 3))))) (vh (eC (.bool false))) (ki)) (vh (zcg (e2 qK (eG kl (qa (eV 5) (ka))) (eC (.int 2))) (e2 qK (kb FN.wal 1 (qa (eV 4) (ka))) (eV 3)))))))))
def xam : DF := xA 1 6 kbD
end
end FN
namespace K05
open PySem PySem.Spec PyProof.Rows L2 DL
open FN (wam)
def qE (i : Nat) : Stmt := PySem.Challenge.pw_spoolbox_k05_writings_read_only_so.main.body.getD i (.Pass ⟨0, 0, 0, 0⟩)
abbrev vz : Stmt := qE 46
theorem xD : FnScope ["script", "draws", "k", "rest", "turn", "mixed"] ["script"] (defScope vz) := ⟨rfl, rfl, rfl, by decide +kernel, rfl, by decide +kernel, by decide +kernel⟩
abbrev wx : Stmt := qE 49
theorem kR : FnScope ["number", "out", "k", "byte"] ["number"] (defScope wx) := ⟨rfl, rfl, rfl, by decide +kernel, rfl, by decide +kernel, by decide +kernel⟩
abbrev yz : Stmt := qE 50
theorem xH : FnScope ["row", "rest", "byte", "k", "low"] ["row"] (defScope yz) := ⟨rfl, rfl, rfl, by decide +kernel, rfl, by decide +kernel, by decide +kernel⟩
abbrev yo : Stmt := qE 53
theorem yh : FnScope ["leaf", "kind", "stamp", "number", "track", "ordinal", "time", "span", "key", "body", "out", "word", "k", "field"] ["leaf"] (defScope yo) := ⟨rfl, rfl, rfl, by decide +kernel, rfl, by decide +kernel, by decide +kernel⟩
abbrev vK : Stmt := qE 47
theorem kcJ : FnScope ["draws", "k", "many"] ["draws", "k", "many"] (defScope vK) := ⟨rfl, rfl, rfl, by decide +kernel, rfl, by decide +kernel, by decide +kernel⟩
abbrev xB : Stmt := qE 52
theorem wbF : FnScope ["draws", "k", "bits", "number"] ["draws", "k", "bits"] (defScope xB) := ⟨rfl, rfl, rfl, by decide +kernel, rfl, by decide +kernel, by decide +kernel⟩
abbrev kz : Stmt := qE 51
theorem qu : FnScope ["draws", "k", "kind", "stamp", "number", "track", "ordinal", "time", "span", "size", "body", "n"] ["draws", "k"] (defScope kz) := ⟨rfl, rfl, rfl, by decide +kernel, rfl, by decide +kernel, by decide +kernel⟩
abbrev vp : Stmt := qE 54
theorem kj : FnScope ["draws", "row", "word", "place", "byte", "k", "front"] ["draws"] (defScope vp) := ⟨rfl, rfl, rfl, by decide +kernel, rfl, by decide +kernel, by decide +kernel⟩
abbrev kB : Stmt := qE 27
theorem xck : FnScope ["row"] ["row"] (defScope kB) := ⟨rfl, rfl, rfl, by decide +kernel, rfl, by decide +kernel, by decide +kernel⟩
abbrev yp : Stmt := qE 41
theorem qbw : FnScope ["writing"] ["writing"] (defScope yp) := ⟨rfl, rfl, rfl, by decide +kernel, rfl, by decide +kernel, by decide +kernel⟩
abbrev zv : Stmt := qE 21
theorem va6 : FnScope ["row", "at", "place"] ["row", "at"] (defScope zv) := ⟨rfl, rfl, rfl, by decide +kernel, rfl, by decide +kernel, by decide +kernel⟩
abbrev qC : Stmt := qE 20
theorem xaq : FnScope ["row", "at", "stop", "number", "place"] ["row", "at"] (defScope qC) := ⟨rfl, rfl, rfl, by decide +kernel, rfl, by decide +kernel, by decide +kernel⟩
abbrev qA : Stmt := qE 44
theorem vaP : FnScope ["row", "at", "top", "number", "stop"] ["row", "at", "top"] (defScope qA) := ⟨rfl, rfl, rfl, by decide +kernel, rfl, by decide +kernel, by decide +kernel⟩
abbrev xp : Stmt := qE 42
theorem qk : FnScope ["writing", "track", "track_stop", "ordinal", "ordinal_stop", "time", "time_stop", "span", "span_stop"] ["writing"] (defScope xp) := ⟨rfl, rfl, rfl, by decide +kernel, rfl, by decide +kernel, by decide +kernel⟩
abbrev yr : Stmt := qE 43
theorem y9 : FnScope ["writing", "at", "size", "start"] ["writing", "at"] (defScope yr) := ⟨rfl, rfl, rfl, by decide +kernel, rfl, by decide +kernel, by decide +kernel⟩
abbrev zA : Stmt := qE 26
theorem yb7 : FnScope ["number"] ["number"] (defScope zA) := ⟨rfl, rfl, rfl, by decide +kernel, rfl, by decide +kernel, by decide +kernel⟩
abbrev yx : Stmt := qE 25
theorem vL : FnScope ["total", "row", "remainder", "byte"] ["total", "row"] (defScope yx) := ⟨rfl, rfl, rfl, by decide +kernel, rfl, by decide +kernel, by decide +kernel⟩
abbrev zG : Stmt := qE 24
theorem zcu : FnScope ["row"] ["row"] (defScope zG) := ⟨rfl, rfl, rfl, by decide +kernel, rfl, by decide +kernel, by decide +kernel⟩
abbrev xr : Stmt := qE 40
theorem xh : FnScope ["writing", "kind", "stamp", "number", "track", "ordinal", "time", "span", "at", "key", "body", "stop"] ["writing"] (defScope xr) := ⟨rfl, rfl, rfl, by decide +kernel, rfl, by decide +kernel, by decide +kernel⟩
abbrev xN : Stmt := qE 57
theorem kH : FnScope ["e", "kinds", "words", "k"] ["e"] (defScope xN) := ⟨rfl, rfl, rfl, by decide +kernel, rfl, by decide +kernel, by decide +kernel⟩
abbrev zC : Stmt := qE 58
theorem va0 : FnScope ["row", "e", "words"] ["row"] (defScope zC) := ⟨rfl, rfl, rfl, by decide +kernel, rfl, by decide +kernel, by decide +kernel⟩
abbrev qy : Stmt := qE 55
theorem vat : FnScope ["row", "at", "bound", "number", "k"] ["row", "at", "bound"] (defScope qy) := ⟨rfl, rfl, rfl, by decide +kernel, rfl, by decide +kernel, by decide +kernel⟩
abbrev zy : Stmt := qE 56
theorem zm : FnScope ["row", "fields", "k", "j", "at", "words", "word", "bound", "told", "stop"] ["row"] (defScope zy) := ⟨rfl, rfl, rfl, by decide +kernel, rfl, by decide +kernel, by decide +kernel⟩
abbrev jv : Stmt := qE 39
theorem xal : FnScope ["leaf", "tops", "at", "top"] ["leaf"] (defScope jv) := ⟨rfl, rfl, rfl, by decide +kernel, rfl, by decide +kernel, by decide +kernel⟩
abbrev jC : Stmt := qE 19
theorem ya0 : FnScope ["number", "row"] ["number"] (defScope jC) := ⟨rfl, rfl, rfl, by decide +kernel, rfl, by decide +kernel, by decide +kernel⟩
abbrev jA : Stmt := qE 38
theorem yq : FnScope ["leaf", "kind", "stamp", "number", "track", "ordinal", "time", "span", "key", "body", "row", "field"] ["leaf"] (defScope jA) := ⟨rfl, rfl, rfl, by decide +kernel, rfl, by decide +kernel, by decide +kernel⟩
abbrev vaK : Stmt := qE 59
theorem kbf : FnScope ["script", "draws", "row", "kept", "told", "due"] ["script"] (defScope vaK) := ⟨rfl, rfl, rfl, by decide +kernel, rfl, by decide +kernel, by decide +kernel⟩
abbrev qbg : Stmt := inClass (qE 1) 0
theorem jdp : FnScope ["self", "at"] ["self", "at"] (defScope qbg) := ⟨rfl, rfl, rfl, by decide +kernel, rfl, by decide +kernel, by decide +kernel⟩
structure Txt (K : PySem.W.Frag) (mg : Str → Option Value) (Cl : Nat → Addr) where
  kN : Addr
  yaP : FuncData
  vbF : Fun K "_law_draws" "_law_draws" vz kN yaP
  kck : mg "_law_draws" = some (.ref kN)
  waC : Binds K yaP ["script"] []
  qO : Addr
  xaP : FuncData
  xa0 : Fun K "_law_steps" "_law_steps" wx qO xaP
  ybF : mg "_law_steps" = some (.ref qO)
  yam : Binds K xaP ["number"] []
  zO : Addr
  kaP : FuncData
  kaq : Fun K "_law_check" "_law_check" yz zO kaP
  waF : mg "_law_check" = some (.ref zO)
  jM : Binds K kaP ["row"] []
  jF : Addr
  vaF : FuncData
  zbg : Fun K "_law_writing" "_law_writing" yo jF vaF
  zb2 : mg "_law_writing" = some (.ref jF)
  yas : Binds K vaF ["leaf"] []
  qar : Addr
  vbq : FuncData
  yl : Fun K "_law_at" "_law_at" vK qar vbq
  km : mg "_law_at" = some (.ref qar)
  yk : Binds K vbq ["draws", "k", "many"] []
  yW : Addr
  ka0 : FuncData
  xag : Fun K "_law_wide" "_law_wide" xB yW ka0
  wax : mg "_law_wide" = some (.ref yW)
  wK : Binds K ka0 ["draws", "k", "bits"] []
  xW : Addr
  qa1 : FuncData
  vbO : Fun K "_law_leaf" "_law_leaf" kz xW qa1
  jcu : mg "_law_leaf" = some (.ref xW)
  vaJ : Binds K qa1 ["draws", "k"] []
  jO : Addr
  qaQ : FuncData
  xbF : Fun K "_law_input" "_law_input" vp jO qaQ
  qcl : mg "_law_input" = some (.ref jO)
  jx : Binds K qaQ ["draws"] []
  kW : Addr
  za1 : FuncData
  vax : Fun K "number_of" "number_of" kB kW za1
  yaK : mg "number_of" = some (.ref kW)
  kT : Binds K za1 ["row"] []
  zu : Addr
  kay : FuncData
  yaF : Fun K "read_front" "read_front" yp zu kay
  kbF : mg "read_front" = some (.ref zu)
  kaC : Binds K kay ["writing"] []
  wF : Addr
  xaF : FuncData
  jbg : Fun K "end_of_steps" "end_of_steps" zv wF xaF
  jb2 : mg "end_of_steps" = some (.ref wF)
  jL : Binds K xaF ["row", "at"] []
  qX : Addr
  ja1 : FuncData
  ybO : Fun K "get_steps" "get_steps" qC qX ja1
  wcu : mg "get_steps" = some (.ref qX)
  jK : Binds K ja1 ["row", "at"] []
  wO : Addr
  zaQ : FuncData
  vx : Fun K "step_up_to" "step_up_to" qA wO zaQ
  wA : mg "step_up_to" = some (.ref wO)
  jo : Binds K zaQ ["row", "at", "top"] []
  ju : Addr
  qaz : FuncData
  kaF : Fun K "read_place" "read_place" xp ju qaz
  qbG : mg "read_place" = some (.ref ju)
  qaD : Binds K qaz ["writing"] []
  jy : Addr
  qaG : FuncData
  xaK : Fun K "read_body" "read_body" yr jy qaG
  xbO : mg "read_body" = some (.ref jy)
  yaJ : Binds K qaG ["writing", "at"] []
  vO : Addr
  jaQ : FuncData
  x9 : Fun K "four_bytes" "four_bytes" zA vO jaQ
  zar : mg "four_bytes" = some (.ref vO)
  yG : Binds K jaQ ["number"] []
  qI : Addr
  xaI : FuncData
  zbw : Fun K "checksum_on" "checksum_on" yx qI xaI
  xb7 : mg "checksum_on" = some (.ref qI)
  qay : Binds K xaI ["total", "row"] []
  kae : Addr
  vba : FuncData
  xaT : Fun K "checksum" "checksum" zG kae vba
  ybq : mg "checksum" = some (.ref kae)
  xaC : Binds K vba ["row"] []
  wy : Addr
  zaG : FuncData
  yba : Fun K "read_leaf" "read_leaf" xr wy zaG
  vcu : mg "read_leaf" = some (.ref wy)
  wbO : Binds K zaG ["writing"] []
  wa1 : Addr
  waQ : FuncData
  zbG : Fun K "_law_words" "_law_words" xN wa1 waQ
  zcl : mg "_law_words" = some (.ref wa1)
  vZ : Binds K waQ ["e"] []
  zX : Addr
  va1 : FuncData
  kbO : Fun K "_law_told" "_law_told" zC zX va1
  ycu : mg "_law_told" = some (.ref zX)
  xcu : Binds K va1 ["row"] []
  zI : Addr
  kaI : FuncData
  vaQ : Fun K "_law_number" "_law_number" qy zI kaI
  jbw : mg "_law_number" = some (.ref zI)
  jaN : Binds K kaI ["row", "at", "bound"] []
  jX : Addr
  ya1 : FuncData
  qbP : Fun K "_law_read" "_law_read" zy jX ya1
  kcu : mg "_law_read" = some (.ref jX)
  qcv : Binds K ya1 ["row"] []
  vF : Addr
  jaG : FuncData
  wbg : Fun K "check_fields" "check_fields" jv vF jaG
  wb2 : mg "check_fields" = some (.ref vF)
  jas : Binds K jaG ["leaf"] []
  wX : Addr
  xa1 : FuncData
  xba : Fun K "put_steps" "put_steps" jC wX xa1
  zbP : mg "put_steps" = some (.ref wX)
  kav : Binds K xa1 ["number"] []
  yO : Addr
  yaQ : FuncData
  jbG : Fun K "write_leaf" "write_leaf" jA yO yaQ
  jcl : mg "write_leaf" = some (.ref yO)
  qbE : Binds K yaQ ["leaf"] []
  xbq : Addr
  jbW : FuncData
  wdE : Fun K "law" "law" vaK xbq jbW
  zei : mg "law" = some (.ref xbq)
  jei : Binds K jbW ["script"] []
  qt : mg "range" = none
  xbM : mg "min" = none
  zt : mg "len" = none
  zbW : mg "abs" = none
  zay : mg "int" = none
  qm : mg "isinstance" = none
  kbM : mg "sum" = none
  vaV : mg "tuple" = none
  zaw : mg "enumerate" = none
  zbE : mg "list" = none
  qcK : Tok
  zcK : mg "END" = some (.int 4 qcK)
  vb2 : Tok
  zaB : mg "FRONT" = some (.int 9 vb2)
  ka1 : Tok
  wbG : mg "MOST_STEPS" = some (.int 6 ka1)
  qa2 : Tok
  vbG : mg "STEP_LIMIT" = some (.int 1099511627776 qa2)
  kba : Tok
  qbb : mg "TOP_TRACK" = some (.int 15 kba)
  xaQ : Tok
  kaQ : mg "TOP_ORDINAL" = some (.int 16777215 xaQ)
  kbq : Tok
  qbr : mg "TOP_TIME" = some (.int 1099511627775 kbq)
  zbr : Tok
  jbr : mg "TOP_SPAN" = some (.int 16777215 zbr)
  wbr : Tok
  vbr : mg "TOP_BODY" = some (.int 1024 wbr)
  za2 : Addr
  wcl : mg "HALVES" = some (.ref za2)
  vcl : ∀ H, DL.Dp K H (.ref za2) wam
  ybG : Tok
  xbG : mg "TOP_KEY" = some (.int 1 ybG)
  ybr : Tok
  wbW : mg "TOP_WORD" = some (.int 4294967295 ybr)
  qJ : Addr
  ycF : FuncData
  zq : InT K "SpoolboxError.__init__" qbg qJ ycF
  xb6 : ExT K mg "BadKind" (Cl 5) qJ
  vbW : ExT K mg "BadStamp" (Cl 6) qJ
  jbP : ExT K mg "BadNumber" (Cl 7) qJ
  zcv : ExT K mg "Truncated" (Cl 3) qJ
  waG : ExT K mg "OutOfRange" (Cl 1) qJ
  kb7 : ExT K mg "LooseNumber" (Cl 2) qJ
  ybW : ExT K mg "BadTrack" (Cl 8) qJ
  kbG : ExT K mg "BadOrdinal" (Cl 9) qJ
  kb6 : ExT K mg "BadTime" (Cl 10) qJ
  qb7 : ExT K mg "BadSpan" (Cl 11) qJ
  zb7 : ExT K mg "BadSize" (Cl 13) qJ
  wbP : ExT K mg "ShortBody" (Cl 14) qJ
  ycl : ExT K mg "BadKey" (Cl 12) qJ
  xbW : ExT K mg "BadCheck" (Cl 15) qJ
  xcl : mg "Truncated" = some (.ref (Cl 3))
  qb8 : mg "OutOfRange" = some (.ref (Cl 1))
  yb2 : mg "LooseNumber" = some (.ref (Cl 2))
  jcv : mg "BadTrack" = some (.ref (Cl 8))
  kcl : mg "BadNumber" = some (.ref (Cl 7))
  wcv : mg "BadStamp" = some (.ref (Cl 6))
  jcK : mg "BadKind" = some (.ref (Cl 5))
  ycY : mg "BadKey" = some (.ref (Cl 12))
  wcK : mg "BadSpan" = some (.ref (Cl 11))
  vcK : mg "BadTime" = some (.ref (Cl 10))
  zb8 : mg "BadOrdinal" = some (.ref (Cl 9))
  vcv : mg "BadCheck" = some (.ref (Cl 15))
  qcm : mg "ShortBody" = some (.ref (Cl 14))
  ycK : mg "BadSize" = some (.ref (Cl 13))
  jbS : mg "SpoolboxError" = some (.ref (Cl 0))
  qbH : ErF K (Cl 3)
  vbg : ErF K (Cl 2)
  wbw : ErF K (Cl 1)
  ycv : ErF K (Cl 15)
  zcm : ErF K (Cl 14)
  xcK : ErF K (Cl 13)
  xcY : ErF K (Cl 12)
  kcK : ErF K (Cl 11)
  qcL : ErF K (Cl 10)
  jb8 : ErF K (Cl 9)
  xcv : ErF K (Cl 8)
  jcm : ErF K (Cl 7)
  kcv : ErF K (Cl 6)
  zcL : ErF K (Cl 5)
  zbb : PySem.W.exmOne K (.ref (Cl 3)) (.ref (Cl 3)) = some true
  ya3 : PySem.W.exmOne K (.ref (Cl 3)) (.ref (Cl 1)) = some false
  ja2 : PySem.W.exmOne K (.ref (Cl 3)) (.ref (Cl 2)) = some false
  wa2 : PySem.W.exmOne K (.ref (Cl 2)) (.ref (Cl 3)) = some false
  kaT : PySem.W.exmOne K (.ref (Cl 2)) (.ref (Cl 1)) = some false
  qaR : PySem.W.exmOne K (.ref (Cl 2)) (.ref (Cl 2)) = some true
  xa3 : PySem.W.exmOne K (.ref (Cl 1)) (.ref (Cl 3)) = some false
  va2 : PySem.W.exmOne K (.ref (Cl 1)) (.ref (Cl 1)) = some true
  qaU : PySem.W.exmOne K (.ref (Cl 1)) (.ref (Cl 2)) = some false
  zaU : PySem.W.exmOne K (.ref (Cl 15)) (.ref (Cl 0)) = some true
  zaR : PySem.W.exmOne K (.ref (Cl 14)) (.ref (Cl 0)) = some true
  ya2 : PySem.W.exmOne K (.ref (Cl 13)) (.ref (Cl 0)) = some true
  ka3 : PySem.W.exmOne K (.ref (Cl 12)) (.ref (Cl 0)) = some true
  xa2 : PySem.W.exmOne K (.ref (Cl 11)) (.ref (Cl 0)) = some true
  ka2 : PySem.W.exmOne K (.ref (Cl 10)) (.ref (Cl 0)) = some true
  vaM : PySem.W.exmOne K (.ref (Cl 9)) (.ref (Cl 0)) = some true
  jaU : PySem.W.exmOne K (.ref (Cl 8)) (.ref (Cl 0)) = some true
  jaR : PySem.W.exmOne K (.ref (Cl 7)) (.ref (Cl 0)) = some true
  waU : PySem.W.exmOne K (.ref (Cl 6)) (.ref (Cl 0)) = some true
  qa3 : PySem.W.exmOne K (.ref (Cl 5)) (.ref (Cl 0)) = some true
  waR : PySem.W.exmOne K (.ref (Cl 3)) (.ref (Cl 0)) = some true
  qaJ : PySem.W.exmOne K (.ref (Cl 2)) (.ref (Cl 0)) = some true
  yaM : PySem.W.exmOne K (.ref (Cl 1)) (.ref (Cl 0)) = some true
  xbr : PySem.W.kitOne K (.ref (Cl 15)) (.ref (Cl 8)) = some false
  ybg : PySem.W.kitOne K (.ref (Cl 14)) (.ref (Cl 8)) = some false
  zbx : PySem.W.kitOne K (.ref (Cl 13)) (.ref (Cl 8)) = some false
  zbH : PySem.W.kitOne K (.ref (Cl 12)) (.ref (Cl 8)) = some false
  jbx : PySem.W.kitOne K (.ref (Cl 11)) (.ref (Cl 8)) = some false
  wbx : PySem.W.kitOne K (.ref (Cl 10)) (.ref (Cl 8)) = some false
  jbb : PySem.W.kitOne K (.ref (Cl 9)) (.ref (Cl 8)) = some false
  kbr : PySem.W.kitOne K (.ref (Cl 8)) (.ref (Cl 8)) = some true
  xbg : PySem.W.kitOne K (.ref (Cl 7)) (.ref (Cl 8)) = some false
  qbs : PySem.W.kitOne K (.ref (Cl 6)) (.ref (Cl 8)) = some false
  vbx : PySem.W.kitOne K (.ref (Cl 5)) (.ref (Cl 8)) = some false
  kbg : PySem.W.kitOne K (.ref (Cl 3)) (.ref (Cl 8)) = some false
  qa4 : PySem.W.kitOne K (.ref (Cl 2)) (.ref (Cl 8)) = some false
  wbb : PySem.W.kitOne K (.ref (Cl 1)) (.ref (Cl 8)) = some false
  qbh : PySem.W.kitOne K (.ref (Cl 15)) (.ref (Cl 7)) = some false
  vbb : PySem.W.kitOne K (.ref (Cl 14)) (.ref (Cl 7)) = some false
  zbs : PySem.W.kitOne K (.ref (Cl 13)) (.ref (Cl 7)) = some false
  ybx : PySem.W.kitOne K (.ref (Cl 12)) (.ref (Cl 7)) = some false
  jbs : PySem.W.kitOne K (.ref (Cl 11)) (.ref (Cl 7)) = some false
  wbs : PySem.W.kitOne K (.ref (Cl 10)) (.ref (Cl 7)) = some false
  za4 : PySem.W.kitOne K (.ref (Cl 9)) (.ref (Cl 7)) = some false
  zbh : PySem.W.kitOne K (.ref (Cl 8)) (.ref (Cl 7)) = some false
  ybb : PySem.W.kitOne K (.ref (Cl 7)) (.ref (Cl 7)) = some true
  jbh : PySem.W.kitOne K (.ref (Cl 6)) (.ref (Cl 7)) = some false
  vbs : PySem.W.kitOne K (.ref (Cl 5)) (.ref (Cl 7)) = some false
  xbb : PySem.W.kitOne K (.ref (Cl 3)) (.ref (Cl 7)) = some false
  za3 : PySem.W.kitOne K (.ref (Cl 2)) (.ref (Cl 7)) = some false
  ja4 : PySem.W.kitOne K (.ref (Cl 1)) (.ref (Cl 7)) = some false
  ybs : PySem.W.kitOne K (.ref (Cl 15)) (.ref (Cl 6)) = some false
  wbh : PySem.W.kitOne K (.ref (Cl 14)) (.ref (Cl 6)) = some false
  xbx : PySem.W.kitOne K (.ref (Cl 13)) (.ref (Cl 6)) = some false
  jbH : PySem.W.kitOne K (.ref (Cl 12)) (.ref (Cl 6)) = some false
  kbx : PySem.W.kitOne K (.ref (Cl 11)) (.ref (Cl 6)) = some false
  qby : PySem.W.kitOne K (.ref (Cl 10)) (.ref (Cl 6)) = some false
  kbb : PySem.W.kitOne K (.ref (Cl 9)) (.ref (Cl 6)) = some false
  xbs : PySem.W.kitOne K (.ref (Cl 8)) (.ref (Cl 6)) = some false
  vbh : PySem.W.kitOne K (.ref (Cl 7)) (.ref (Cl 6)) = some false
  kbs : PySem.W.kitOne K (.ref (Cl 6)) (.ref (Cl 6)) = some true
  zby : PySem.W.kitOne K (.ref (Cl 5)) (.ref (Cl 6)) = some false
  ybh : PySem.W.kitOne K (.ref (Cl 3)) (.ref (Cl 6)) = some false
  wa4 : PySem.W.kitOne K (.ref (Cl 2)) (.ref (Cl 6)) = some false
  qbc : PySem.W.kitOne K (.ref (Cl 1)) (.ref (Cl 6)) = some false
  jby : PySem.W.kitOne K (.ref (Cl 15)) (.ref (Cl 5)) = some false
  qbt : PySem.W.kitOne K (.ref (Cl 14)) (.ref (Cl 5)) = some false
  wbH : PySem.W.kitOne K (.ref (Cl 13)) (.ref (Cl 5)) = some false
  qbN : PySem.W.kitOne K (.ref (Cl 12)) (.ref (Cl 5)) = some false
  vbH : PySem.W.kitOne K (.ref (Cl 11)) (.ref (Cl 5)) = some false
  ybH : PySem.W.kitOne K (.ref (Cl 10)) (.ref (Cl 5)) = some false
  xbh : PySem.W.kitOne K (.ref (Cl 9)) (.ref (Cl 5)) = some false
  wby : PySem.W.kitOne K (.ref (Cl 8)) (.ref (Cl 5)) = some false
  zbt : PySem.W.kitOne K (.ref (Cl 7)) (.ref (Cl 5)) = some false
  vby : PySem.W.kitOne K (.ref (Cl 6)) (.ref (Cl 5)) = some false
  xbH : PySem.W.kitOne K (.ref (Cl 5)) (.ref (Cl 5)) = some true
  jbt : PySem.W.kitOne K (.ref (Cl 3)) (.ref (Cl 5)) = some false
  zbc : PySem.W.kitOne K (.ref (Cl 2)) (.ref (Cl 5)) = some false
  kbh : PySem.W.kitOne K (.ref (Cl 1)) (.ref (Cl 5)) = some false
  kbH : PySem.W.kitOne K (.ref (Cl 15)) (.ref (Cl 12)) = some false
  yby : PySem.W.kitOne K (.ref (Cl 14)) (.ref (Cl 12)) = some false
  zbN : PySem.W.kitOne K (.ref (Cl 13)) (.ref (Cl 12)) = some false
  wbS : PySem.W.kitOne K (.ref (Cl 12)) (.ref (Cl 12)) = some true
  jbN : PySem.W.kitOne K (.ref (Cl 11)) (.ref (Cl 12)) = some false
  wbN : PySem.W.kitOne K (.ref (Cl 10)) (.ref (Cl 12)) = some false
  wbt : PySem.W.kitOne K (.ref (Cl 9)) (.ref (Cl 12)) = some false
  qbI : PySem.W.kitOne K (.ref (Cl 8)) (.ref (Cl 12)) = some false
  xby : PySem.W.kitOne K (.ref (Cl 7)) (.ref (Cl 12)) = some false
  zbI : PySem.W.kitOne K (.ref (Cl 6)) (.ref (Cl 12)) = some false
  vbN : PySem.W.kitOne K (.ref (Cl 5)) (.ref (Cl 12)) = some false
  kby : PySem.W.kitOne K (.ref (Cl 3)) (.ref (Cl 12)) = some false
  qbi : PySem.W.kitOne K (.ref (Cl 2)) (.ref (Cl 12)) = some false
  vbt : PySem.W.kitOne K (.ref (Cl 1)) (.ref (Cl 12)) = some false
  qbz : PySem.W.kitOne K (.ref (Cl 15)) (.ref (Cl 11)) = some false
  ybt : PySem.W.kitOne K (.ref (Cl 14)) (.ref (Cl 11)) = some false
  jbI : PySem.W.kitOne K (.ref (Cl 13)) (.ref (Cl 11)) = some false
  ybN : PySem.W.kitOne K (.ref (Cl 12)) (.ref (Cl 11)) = some false
  wbI : PySem.W.kitOne K (.ref (Cl 11)) (.ref (Cl 11)) = some true
  vbI : PySem.W.kitOne K (.ref (Cl 10)) (.ref (Cl 11)) = some false
  zbi : PySem.W.kitOne K (.ref (Cl 9)) (.ref (Cl 11)) = some false
  zbz : PySem.W.kitOne K (.ref (Cl 8)) (.ref (Cl 11)) = some false
  xbt : PySem.W.kitOne K (.ref (Cl 7)) (.ref (Cl 11)) = some false
  jbz : PySem.W.kitOne K (.ref (Cl 6)) (.ref (Cl 11)) = some false
  ybI : PySem.W.kitOne K (.ref (Cl 5)) (.ref (Cl 11)) = some false
  kbt : PySem.W.kitOne K (.ref (Cl 3)) (.ref (Cl 11)) = some false
  jbc : PySem.W.kitOne K (.ref (Cl 2)) (.ref (Cl 11)) = some false
  jbi : PySem.W.kitOne K (.ref (Cl 1)) (.ref (Cl 11)) = some false
  wbz : PySem.W.kitOne K (.ref (Cl 15)) (.ref (Cl 10)) = some false
  qbu : PySem.W.kitOne K (.ref (Cl 14)) (.ref (Cl 10)) = some false
  xbI : PySem.W.kitOne K (.ref (Cl 13)) (.ref (Cl 10)) = some false
  xbN : PySem.W.kitOne K (.ref (Cl 12)) (.ref (Cl 10)) = some false
  kbI : PySem.W.kitOne K (.ref (Cl 11)) (.ref (Cl 10)) = some false
  qbJ : PySem.W.kitOne K (.ref (Cl 10)) (.ref (Cl 10)) = some true
  wbi : PySem.W.kitOne K (.ref (Cl 9)) (.ref (Cl 10)) = some false
  vbz : PySem.W.kitOne K (.ref (Cl 8)) (.ref (Cl 10)) = some false
  zbu : PySem.W.kitOne K (.ref (Cl 7)) (.ref (Cl 10)) = some false
  ybz : PySem.W.kitOne K (.ref (Cl 6)) (.ref (Cl 10)) = some false
  zbJ : PySem.W.kitOne K (.ref (Cl 5)) (.ref (Cl 10)) = some false
  jbu : PySem.W.kitOne K (.ref (Cl 3)) (.ref (Cl 10)) = some false
  wbc : PySem.W.kitOne K (.ref (Cl 2)) (.ref (Cl 10)) = some false
  vbi : PySem.W.kitOne K (.ref (Cl 1)) (.ref (Cl 10)) = some false
  vbc : PySem.W.kitOne K (.ref (Cl 15)) (.ref (Cl 9)) = some false
  va4 : PySem.W.kitOne K (.ref (Cl 14)) (.ref (Cl 9)) = some false
  ybi : PySem.W.kitOne K (.ref (Cl 13)) (.ref (Cl 9)) = some false
  wbu : PySem.W.kitOne K (.ref (Cl 12)) (.ref (Cl 9)) = some false
  xbi : PySem.W.kitOne K (.ref (Cl 11)) (.ref (Cl 9)) = some false
  kbi : PySem.W.kitOne K (.ref (Cl 10)) (.ref (Cl 9)) = some false
  ja3 : PySem.W.kitOne K (.ref (Cl 9)) (.ref (Cl 9)) = some true
  ybc : PySem.W.kitOne K (.ref (Cl 8)) (.ref (Cl 9)) = some false
  ya4 : PySem.W.kitOne K (.ref (Cl 7)) (.ref (Cl 9)) = some false
  xbc : PySem.W.kitOne K (.ref (Cl 6)) (.ref (Cl 9)) = some false
  qbj : PySem.W.kitOne K (.ref (Cl 5)) (.ref (Cl 9)) = some false
  xa4 : PySem.W.kitOne K (.ref (Cl 3)) (.ref (Cl 9)) = some false
  vaU : PySem.W.kitOne K (.ref (Cl 2)) (.ref (Cl 9)) = some false
  wa3 : PySem.W.kitOne K (.ref (Cl 1)) (.ref (Cl 9)) = some false
  vbu : PySem.W.kitOne K (.ref (Cl 15)) (.ref (Cl 15)) = some true
  zbj : PySem.W.kitOne K (.ref (Cl 14)) (.ref (Cl 15)) = some false
  xbz : PySem.W.kitOne K (.ref (Cl 13)) (.ref (Cl 15)) = some false
  jbJ : PySem.W.kitOne K (.ref (Cl 12)) (.ref (Cl 15)) = some false
  kbz : PySem.W.kitOne K (.ref (Cl 11)) (.ref (Cl 15)) = some false
  qbA : PySem.W.kitOne K (.ref (Cl 10)) (.ref (Cl 15)) = some false
  kbc : PySem.W.kitOne K (.ref (Cl 9)) (.ref (Cl 15)) = some false
  ybu : PySem.W.kitOne K (.ref (Cl 8)) (.ref (Cl 15)) = some false
  jbj : PySem.W.kitOne K (.ref (Cl 7)) (.ref (Cl 15)) = some false
  xbu : PySem.W.kitOne K (.ref (Cl 6)) (.ref (Cl 15)) = some false
  zbA : PySem.W.kitOne K (.ref (Cl 5)) (.ref (Cl 15)) = some false
  wbj : PySem.W.kitOne K (.ref (Cl 3)) (.ref (Cl 15)) = some false
  ka4 : PySem.W.kitOne K (.ref (Cl 2)) (.ref (Cl 15)) = some false
  qbd : PySem.W.kitOne K (.ref (Cl 1)) (.ref (Cl 15)) = some false
  vbj : PySem.W.kitOne K (.ref (Cl 15)) (.ref (Cl 14)) = some false
  zbd : PySem.W.kitOne K (.ref (Cl 14)) (.ref (Cl 14)) = some true
  kbu : PySem.W.kitOne K (.ref (Cl 13)) (.ref (Cl 14)) = some false
  jbA : PySem.W.kitOne K (.ref (Cl 12)) (.ref (Cl 14)) = some false
  qbv : PySem.W.kitOne K (.ref (Cl 11)) (.ref (Cl 14)) = some false
  zbv : PySem.W.kitOne K (.ref (Cl 10)) (.ref (Cl 14)) = some false
  qa5 : PySem.W.kitOne K (.ref (Cl 9)) (.ref (Cl 14)) = some false
  ybj : PySem.W.kitOne K (.ref (Cl 8)) (.ref (Cl 14)) = some false
  jbd : PySem.W.kitOne K (.ref (Cl 7)) (.ref (Cl 14)) = some false
  xbj : PySem.W.kitOne K (.ref (Cl 6)) (.ref (Cl 14)) = some false
  jbv : PySem.W.kitOne K (.ref (Cl 5)) (.ref (Cl 14)) = some false
  wbd : PySem.W.kitOne K (.ref (Cl 3)) (.ref (Cl 14)) = some false
  va3 : PySem.W.kitOne K (.ref (Cl 2)) (.ref (Cl 14)) = some false
  za5 : PySem.W.kitOne K (.ref (Cl 1)) (.ref (Cl 14)) = some false
  wbA : PySem.W.kitOne K (.ref (Cl 15)) (.ref (Cl 13)) = some false
  wbv : PySem.W.kitOne K (.ref (Cl 14)) (.ref (Cl 13)) = some false
  wbJ : PySem.W.kitOne K (.ref (Cl 13)) (.ref (Cl 13)) = some true
  kbN : PySem.W.kitOne K (.ref (Cl 12)) (.ref (Cl 13)) = some false
  vbJ : PySem.W.kitOne K (.ref (Cl 11)) (.ref (Cl 13)) = some false
  ybJ : PySem.W.kitOne K (.ref (Cl 10)) (.ref (Cl 13)) = some false
  kbj : PySem.W.kitOne K (.ref (Cl 9)) (.ref (Cl 13)) = some false
  vbA : PySem.W.kitOne K (.ref (Cl 8)) (.ref (Cl 13)) = some false
  vbv : PySem.W.kitOne K (.ref (Cl 7)) (.ref (Cl 13)) = some false
  ybA : PySem.W.kitOne K (.ref (Cl 6)) (.ref (Cl 13)) = some false
  xbJ : PySem.W.kitOne K (.ref (Cl 5)) (.ref (Cl 13)) = some false
  ybv : PySem.W.kitOne K (.ref (Cl 3)) (.ref (Cl 13)) = some false
  vbd : PySem.W.kitOne K (.ref (Cl 2)) (.ref (Cl 13)) = some false
  qbk : PySem.W.kitOne K (.ref (Cl 1)) (.ref (Cl 13)) = some false
section
variable {P : Program} {w : World} {K : PySem.W.Frag} {mg : Str → Option Value} {base : Heap} {Cl : Nat → Addr}
theorem qS (T : Txt K mg Cl) : FnOk P w K mg base (L2.CX P w) 1 T.qJ T.ycF ["self", "at"] (zcH K) := by
  refine T.zq.F.okX jdp (fun vs H Q E ⟨a, C, y, e, _⟩ => by rw [e]; rfl) fun cdv A outer s H vs Q E hr h => ?_
  obtain ⟨a, C, y, rfl, h1, h2, h3, q⟩ := h
  refine ⟨_, pss_one (ps_ost (pv 0) (pv 1)), ?_⟩
  exact ⟨y, rfl, .ref a, rfl, a, C, rfl, h1, h2, .inl ⟨h3, fun dx n ne => q dx n ne⟩⟩
theorem wb8 (T : Txt K mg Cl) : FnOk P w K mg base (L2.CX P w) 1 T.kN T.yaP ["script"] (vB K Cl 1 FN.jaC) := by
  refine js (k := 0) T.vbF xD rfl rfl fun cdv A outer s H E hr => ?_
  have tk := takes_of (X := cxOf (L2.CX P w) P w K mg base ["script", "draws", "k", "rest", "turn", "mixed"] "_law_draws" (defScope vz) T.kN cdv A outer s H E) rfl rfl rfl rfl
  have hp : PassesOwn (model P w) (cxOf (L2.CX P w) P w K mg base ["script", "draws", "k", "rest", "turn", "mixed"] "_law_draws" (defScope vz) T.kN cdv A outer s H E).A (cxOf (L2.CX P w) P w K mg base ["script", "draws", "k", "rest", "turn", "mixed"] "_law_draws" (defScope vz) T.kN cdv A outer s H E).env (cxOf (L2.CX P w) P w K mg base ["script", "draws", "k", "rest", "turn", "mixed"] "_law_draws" (defScope vz) T.kN cdv A outer s H E).xe := PassesOwn.leaving
  exact wb (vbe (i := 1) xD.nd (kr (zb))) (wb (kS hp rfl (yw T.qt (ja (xi (call_min2 rfl) vcD T.xbM (by decide +kernel) (ja (ya) (ja (xi call_len xq T.zt PySem.boot_len (ja (za (pv 0)) (zb))) (zb)))) (zb))) (jR (i := 2) xD.nd) (wb (yg (i := 3) xD.nd (xi call_abs zdr T.zbW (by decide +kernel) (ja (jk (za (pv 0)) (za (pv 2))) (zb)))) (jc (ji (ve wav vav (za (pv 3)) (vdq (ya) (ya)) (nomark _)) (jc (kS hp rfl (yw T.qt (ja (ya) (zb))) (jR (i := 4) xD.nd) (jc (ji (ve vI yI (za (pv 3)) (ya) (nomark _)) (wb (vaL (i := 1) (pe_bm PySem.F.plainAttrs_list PySem.F.slot_list_append PySem.F.type_list_append mt_append (pv 1) (pa_cons (zaW (zK call_int1 jaL T.zay (by decide +kernel) (ja (za (pv 3)) (zb))) (ya)) pa_nil))) (jc (yg (i := 3) xD.nd (vcT (za (pv 3)) (ya))))) (qh))))) (wb (yg (i := 5) xD.nd (zaW (zK call_int1 jaL T.zay (by decide +kernel) (ja (kc (jI (za (pv 3)) (ya)) (jI (kc (za (pv 2)) (ya)) (ya))) (zb))) (ya))) (wb (yg (i := 5) xD.nd (zaW (zK call_int1 jaL T.zay (by decide +kernel) (ja (kc (kc (jI (za (pv 5)) (ya)) (jI (ya) (za (pv 2)))) (ya)) (zb))) (ya))) (wb (vaL (i := 1) (pe_bm PySem.F.plainAttrs_list PySem.F.slot_list_append PySem.F.type_list_append mt_append (pv 1) (pa_cons (zaW (zK call_int1 jaL T.zay (by decide +kernel) (ja (za (pv 5)) (zb))) (ya)) pa_nil))) (jc (vaL (i := 1) (pe_bm PySem.F.plainAttrs_list PySem.F.slot_list_append PySem.F.type_list_append mt_append (pv 1) (pa_cons (zaW (zK call_int1 jaL T.zay (by decide +kernel) (ja (vcT (za (pv 5)) (ya)) (zb))) (ya)) pa_nil))))))))))) (jc (jh (za (pv 1)))))
theorem vb8 (T : Txt K mg Cl) : FnOk P w K mg base (L2.CX P w) 1 T.qO T.xaP ["number"] (vB K Cl 1 FN.xZ) := by
  refine js (k := 0) T.xa0 kR rfl rfl fun cdv A outer s H E hr => ?_
  have tk := takes_of (X := cxOf (L2.CX P w) P w K mg base ["number", "out", "k", "byte"] "_law_steps" (defScope wx) T.qO cdv A outer s H E) rfl rfl rfl rfl
  have hp : PassesOwn (model P w) (cxOf (L2.CX P w) P w K mg base ["number", "out", "k", "byte"] "_law_steps" (defScope wx) T.qO cdv A outer s H E).A (cxOf (L2.CX P w) P w K mg base ["number", "out", "k", "byte"] "_law_steps" (defScope wx) T.qO cdv A outer s H E).env (cxOf (L2.CX P w) P w K mg base ["number", "out", "k", "byte"] "_law_steps" (defScope wx) T.qO cdv A outer s H E).xe := PassesOwn.leaving
  exact wb (vbe (i := 1) kR.nd (kr (zb))) (wb (kS hp rfl (yw T.qt (ja (ya) (zb))) (jR (i := 2) kR.nd) (jc (ji (yaz (jal (ve (op_eqD hr.units) xS (za (pv 2)) (ya) (nomark _)) (wY (ve vI yI (za (pv 0)) (ya) (nomark _))))) (wb (vaL (i := 1) (pe_bm PySem.F.plainAttrs_list PySem.F.slot_list_append PySem.F.type_list_append mt_append (pv 1) (pa_cons (jE (za (pv 0)) (ya)) pa_nil))) (jc (yg (i := 0) kR.nd (vS (za (pv 0)) (ya))))) (qh)))) (jc (jh (kc (waJ (own := [("byte", 3)]) (tg := .Name _ _) rfl kR.nd zaN (jaW (jB (za (pv 1)) (kA) (xk (zcf (ya))))) (blkOk_by (own := [("byte", 3)]) (N := ["number", "out", "k", "byte"]) (sc := defScope wx) (by decide +kernel)) (fun _ _ _ _ _ => pg_name (i := 3) kR.nd rfl (by first | exact Or.inl rfl | exact Or.inr rfl)) (fun _ _ _ _ _ => kY) (fun _ _ _ _ _ => kc (za (pv 3)) (ya))) (jB (za (pv 1)) (xk (zcf (ya))) (kA))))))
theorem vaR (T : Txt K mg Cl) : FnOk P w K mg base (L2.CX P w) 1 T.zO T.kaP ["row"] (vB K Cl 1 FN.zx) := by
  refine js (k := 0) T.kaq xH rfl rfl fun cdv A outer s H E hr => ?_
  have tk := takes_of (X := cxOf (L2.CX P w) P w K mg base ["row", "rest", "byte", "k", "low"] "_law_check" (defScope yz) T.zO cdv A outer s H E) rfl rfl rfl rfl
  have hp : PassesOwn (model P w) (cxOf (L2.CX P w) P w K mg base ["row", "rest", "byte", "k", "low"] "_law_check" (defScope yz) T.zO cdv A outer s H E).A (cxOf (L2.CX P w) P w K mg base ["row", "rest", "byte", "k", "low"] "_law_check" (defScope yz) T.zO cdv A outer s H E).env (cxOf (L2.CX P w) P w K mg base ["row", "rest", "byte", "k", "low"] "_law_check" (defScope yz) T.zO cdv A outer s H E).xe := PassesOwn.leaving
  exact wb (yg (i := 1) xH.nd (ya)) (wb (kS hp rfl (jaW (za (pv 0))) (jR (i := 2) xH.nd) (jc (kS hp rfl (yw T.qt (ja (ya) (zb))) (jR (i := 3) xH.nd) (wb (yg (i := 4) xH.nd (jE (zaL (vS (za (pv 2)) (za (pv 3))) (za (pv 1))) (ya))) (wb (yg (i := 1) xH.nd (vS (za (pv 1)) (ya))) (jc (ji (ve (op_eqD hr.units) xS (za (pv 4)) (ya) (nomark _)) (jc (yg (i := 1) xH.nd (zaL (za (pv 1)) (ya)))) (qh)))))))) (jc (jh (zaL (za (pv 1)) (ya)))))
theorem kbW (T : Txt K mg Cl) : FnOk P w K mg base (L2.CX P w) 2 T.jF T.vaF ["leaf"] (vB K Cl 1 FN.yZ) := by
  have kbJ := vb8 (P := P) (w := w) (base := base) T
  have qaa := vaR (P := P) (w := w) (base := base) T
  refine js (k := 1) T.zbg yh rfl rfl fun cdv A outer s H E hr => ?_
  have tk := takes_of (X := cxOf (L2.CX P w) P w K mg base ["leaf", "kind", "stamp", "number", "track", "ordinal", "time", "span", "key", "body", "out", "word", "k", "field"] "_law_writing" (defScope yo) T.jF cdv A outer s H E) rfl rfl rfl rfl
  have hp : PassesOwn (model P w) (cxOf (L2.CX P w) P w K mg base ["leaf", "kind", "stamp", "number", "track", "ordinal", "time", "span", "key", "body", "out", "word", "k", "field"] "_law_writing" (defScope yo) T.jF cdv A outer s H E).A (cxOf (L2.CX P w) P w K mg base ["leaf", "kind", "stamp", "number", "track", "ordinal", "time", "span", "key", "body", "out", "word", "k", "field"] "_law_writing" (defScope yo) T.jF cdv A outer s H E).env (cxOf (L2.CX P w) P w K mg base ["leaf", "kind", "stamp", "number", "track", "ordinal", "time", "span", "key", "body", "out", "word", "k", "field"] "_law_writing" (defScope yo) T.jF cdv A outer s H E).xe := PassesOwn.leaving
  exact wb (jD (jz rfl (yc (i := 1) yh.nd (yc (i := 2) yh.nd (yc (i := 3) yh.nd (yc (i := 4) yh.nd (yc (i := 5) yh.nd (yc (i := 6) yh.nd (yc (i := 7) yh.nd (yc (i := 8) yh.nd (yc (i := 9) yh.nd (xu))))))))))) (za (pv 0))) (wb (yg (i := 10) yh.nd (kr (ja (za (pv 1)) (zb)))) (wb (kS hp rfl (jaW (kr (ja (za (pv 2)) (ja (za (pv 3)) (zb))))) (jR (i := 11) yh.nd) (jc (yg (i := 10) yh.nd (kc (za (pv 10)) (waJ (own := [("k", 12)]) (tg := .Name _ _) rfl yh.nd zaN (yw T.qt (ja (ya) (zb))) (blkOk_by (own := [("k", 12)]) (N := ["leaf", "kind", "stamp", "number", "track", "ordinal", "time", "span", "key", "body", "out", "word", "k", "field"]) (sc := defScope yo) (by decide +kernel)) (fun _ _ _ _ _ => pg_name (i := 12) yh.nd rfl (by first | exact Or.inl rfl | exact Or.inr rfl)) (fun _ _ _ _ _ => kY) (fun _ _ _ _ _ => jE (vS (za (pv 11)) (jI (ya) (za (pv 12)))) (ya))))))) (wb (kS hp rfl (jaW (kr (ja (za (pv 4)) (ja (za (pv 5)) (ja (za (pv 6)) (ja (za (pv 7)) (zb))))))) (jR (i := 13) yh.nd) (jc (yg (i := 10) yh.nd (kc (za (pv 10)) (ze kbJ tk (hr.mono (by decide)) T.ybF T.xa0.kp T.yam (ja (za (pv 13)) (zb))))))) (wb (yg (i := 10) yh.nd (kc (kc (kc (za (pv 10)) (kr (ja (za (pv 8)) (zb)))) (ze kbJ tk (hr.mono (by decide)) T.ybF T.xa0.kp T.yam (ja (xi call_len xq T.zt PySem.boot_len (ja (za (pv 9)) (zb))) (zb)))) (za (pv 9)))) (jc (jh (kc (za (pv 10)) (waJ (own := [("k", 12)]) (tg := .Name _ _) rfl yh.nd zaN (yw T.qt (ja (ya) (zb))) (blkOk_by (own := [("k", 12)]) (N := ["leaf", "kind", "stamp", "number", "track", "ordinal", "time", "span", "key", "body", "out", "word", "k", "field"]) (sc := defScope yo) (by decide +kernel)) (fun _ _ _ _ _ => pg_name (i := 12) yh.nd rfl (by first | exact Or.inl rfl | exact Or.inr rfl)) (fun _ _ _ _ _ => kY) (fun _ _ _ _ _ => jE (vS (ze qaa takes0 (hr.mono (by decide)) T.waF T.kaq.kp T.jM (ja (za (pv 10)) (zb))) (jI (ya) (za (pv 12)))) (ya))))))))))
theorem xbv (T : Txt K mg Cl) : FnOk P w K mg base (L2.CX P w) 1 T.qar T.vbq ["draws", "k", "many"] (vB K Cl 3 FN.kf) := by
  refine js (k := 0) T.yl kcJ rfl rfl fun cdv A outer s H E hr => ?_
  have tk := takes_of (X := cxOf (L2.CX P w) P w K mg base ["draws", "k", "many"] "_law_at" (defScope vK) T.qar cdv A outer s H E) rfl rfl rfl rfl
  have hp : PassesOwn (model P w) (cxOf (L2.CX P w) P w K mg base ["draws", "k", "many"] "_law_at" (defScope vK) T.qar cdv A outer s H E).A (cxOf (L2.CX P w) P w K mg base ["draws", "k", "many"] "_law_at" (defScope vK) T.qar cdv A outer s H E).env (cxOf (L2.CX P w) P w K mg base ["draws", "k", "many"] "_law_at" (defScope vK) T.qar cdv A outer s H E).xe := PassesOwn.leaving
  exact wb (ji (ve zaf jaf (za (pv 1)) (xi call_len xq T.zt PySem.boot_len (ja (za (pv 0)) (zb))) (nomark _)) (jc (jh (zaW (zK call_int1 jaL T.zay (by decide +kernel) (ja (jk (za (pv 0)) (za (pv 1))) (zb))) (za (pv 2))))) (qh)) (jc (jh (ya)))
theorem wcm (T : Txt K mg Cl) : FnOk P w K mg base (L2.CX P w) 2 T.yW T.ka0 ["draws", "k", "bits"] (vB K Cl 3 FN.qG) := by
  have zl := xbv (P := P) (w := w) (base := base) T
  refine js (k := 1) T.xag wbF rfl rfl fun cdv A outer s H E hr => ?_
  have tk := takes_of (X := cxOf (L2.CX P w) P w K mg base ["draws", "k", "bits", "number"] "_law_wide" (defScope xB) T.yW cdv A outer s H E) rfl rfl rfl rfl
  have hp : PassesOwn (model P w) (cxOf (L2.CX P w) P w K mg base ["draws", "k", "bits", "number"] "_law_wide" (defScope xB) T.yW cdv A outer s H E).A (cxOf (L2.CX P w) P w K mg base ["draws", "k", "bits", "number"] "_law_wide" (defScope xB) T.yW cdv A outer s H E).env (cxOf (L2.CX P w) P w K mg base ["draws", "k", "bits", "number"] "_law_wide" (defScope xB) T.yW cdv A outer s H E).xe := PassesOwn.leaving
  exact wb (yg (i := 3) wbF.nd (kc (kc (ze zl tk (hr.mono (by decide)) T.km T.yl.kp T.yk (ja (za (pv 0)) (ja (za (pv 1)) (ja (ya) (zb))))) (jI (ya) (ze zl tk (hr.mono (by decide)) T.km T.yl.kp T.yk (ja (za (pv 0)) (ja (kc (za (pv 1)) (ya)) (ja (ya) (zb))))))) (jI (ya) (ze zl tk (hr.mono (by decide)) T.km T.yl.kp T.yk (ja (za (pv 0)) (ja (za (pv 1)) (ja (ya) (zb)))))))) (jc (jh (vS (jE (za (pv 3)) (qaW (qaL (ya) (za (pv 2))) (ya))) (jk (kr (ja (ya) (ja (qaW (za (pv 2)) (ya)) (ja (ze zl tk (hr.mono (by decide)) T.km T.yl.kp T.yk (ja (za (pv 0)) (ja (kc (za (pv 1)) (ya)) (ja (za (pv 2)) (zb))))) (zb))))) (ze zl tk (hr.mono (by decide)) T.km T.yl.kp T.yk (ja (za (pv 0)) (ja (za (pv 1)) (ja (ya) (zb)))))))))
theorem vcm (T : Txt K mg Cl) : FnOk P w K mg base (L2.CX P w) 3 T.xW T.qa1 ["draws", "k"] (vB K Cl 2 FN.xav) := by
  have zl := xbv (P := P) (w := w) (base := base) T
  have yax := wcm (P := P) (w := w) (base := base) T
  refine js (k := 2) T.vbO qu rfl rfl fun cdv A outer s H E hr => ?_
  have tk := takes_of (X := cxOf (L2.CX P w) P w K mg base ["draws", "k", "kind", "stamp", "number", "track", "ordinal", "time", "span", "size", "body", "n"] "_law_leaf" (defScope kz) T.xW cdv A outer s H E) rfl rfl rfl rfl
  have hp : PassesOwn (model P w) (cxOf (L2.CX P w) P w K mg base ["draws", "k", "kind", "stamp", "number", "track", "ordinal", "time", "span", "size", "body", "n"] "_law_leaf" (defScope kz) T.xW cdv A outer s H E).A (cxOf (L2.CX P w) P w K mg base ["draws", "k", "kind", "stamp", "number", "track", "ordinal", "time", "span", "size", "body", "n"] "_law_leaf" (defScope kz) T.xW cdv A outer s H E).env (cxOf (L2.CX P w) P w K mg base ["draws", "k", "kind", "stamp", "number", "track", "ordinal", "time", "span", "size", "body", "n"] "_law_leaf" (defScope kz) T.xW cdv A outer s H E).xe := PassesOwn.leaving
  exact wb (yg (i := 2) qu.nd (ze zl tk (hr.mono (by decide)) T.km T.yl.kp T.yk (ja (za (pv 0)) (ja (za (pv 1)) (ja (ya) (zb)))))) (wb (yg (i := 3) qu.nd (ze yax tk (hr.mono (by decide)) T.wax T.xag.kp T.wK (ja (za (pv 0)) (ja (kc (za (pv 1)) (ya)) (ja (ya) (zb)))))) (wb (yg (i := 4) qu.nd (ze yax tk (hr.mono (by decide)) T.wax T.xag.kp T.wK (ja (za (pv 0)) (ja (kc (za (pv 1)) (ya)) (ja (ya) (zb)))))) (wb (yg (i := 5) qu.nd (ze zl tk (hr.mono (by decide)) T.km T.yl.kp T.yk (ja (za (pv 0)) (ja (kc (za (pv 1)) (ya)) (ja (ya) (zb)))))) (wb (yg (i := 6) qu.nd (ze yax tk (hr.mono (by decide)) T.wax T.xag.kp T.wK (ja (za (pv 0)) (ja (kc (za (pv 1)) (ya)) (ja (ya) (zb)))))) (wb (yg (i := 7) qu.nd (ze yax tk (hr.mono (by decide)) T.wax T.xag.kp T.wK (ja (za (pv 0)) (ja (kc (za (pv 1)) (ya)) (ja (ya) (zb)))))) (wb (yg (i := 8) qu.nd (ze yax tk (hr.mono (by decide)) T.wax T.xag.kp T.wK (ja (za (pv 0)) (ja (kc (za (pv 1)) (ya)) (ja (ya) (zb)))))) (wb (yg (i := 9) qu.nd (ze zl tk (hr.mono (by decide)) T.km T.yl.kp T.yk (ja (za (pv 0)) (ja (kc (za (pv 1)) (ya)) (ja (ya) (zb)))))) (wb (ji (ve (op_eqD hr.units) xS (ze zl tk (hr.mono (by decide)) T.km T.yl.kp T.yk (ja (za (pv 0)) (ja (kc (za (pv 1)) (ya)) (ja (ya) (zb))))) (ya) (nomark _)) (jc (yg (i := 9) qu.nd (kc (ya) (ze zl tk (hr.mono (by decide)) T.km T.yl.kp T.yk (ja (za (pv 0)) (ja (kc (za (pv 1)) (ya)) (ja (ya) (zb)))))))) (qh)) (wb (jc4 (i := 10) (own := [("n", 11)]) (tg := .Name _ _) rfl qu.nd zaN (yw T.qt (ja (za (pv 9)) (zb))) (blkOk_by (own := [("n", 11)]) (N := ["draws", "k", "kind", "stamp", "number", "track", "ordinal", "time", "span", "size", "body", "n"]) (sc := defScope kz) (by decide +kernel)) (fun _ _ _ _ _ => pg_name (i := 11) qu.nd rfl (by first | exact Or.inl rfl | exact Or.inr rfl)) (fun _ _ _ _ _ => kY) (fun _ _ _ _ _ => jE (zK call_int1 jaL T.zay (by decide +kernel) (ja (kc (ze zl takes0 (hr.mono (by decide)) T.km T.yl.kp T.yk (ja (za (pv 0)) (ja (kc (za (pv 1)) (ya)) (ja (ya) (zb))))) (jI (za (pv 11)) (za (pv 11)))) (zb))) (jk (kr (ja (ya) (ja (ya) (ja (ya) (zb))))) (zaW (zK call_int1 jaL T.zay (by decide +kernel) (ja (za (pv 11)) (zb))) (ya)))) (sw_true rfl rfl rfl (by decide +kernel))) (jc (jh (ko (ja (za (pv 2)) (ja (za (pv 3)) (ja (za (pv 4)) (ja (za (pv 5)) (ja (za (pv 6)) (ja (za (pv 7)) (ja (za (pv 8)) (ja (ze zl tk (hr.mono (by decide)) T.km T.yl.kp T.yk (ja (za (pv 0)) (ja (kc (za (pv 1)) (ya)) (ja (ya) (zb))))) (ja (za (pv 10)) (zb))))))))))))))))))))))
theorem yb8 (T : Txt K mg Cl) : FnOk P w K mg base (L2.CX P w) 4 T.jO T.qaQ ["draws"] (vB K Cl 1 FN.kq) := by
  have xb2 := kbW (P := P) (w := w) (base := base) T
  have qcw := vcm (P := P) (w := w) (base := base) T
  have zl := xbv (P := P) (w := w) (base := base) T
  have qaa := vaR (P := P) (w := w) (base := base) T
  refine js (k := 3) T.xbF kj rfl rfl fun cdv A outer s H E hr => ?_
  have tk := takes_of (X := cxOf (L2.CX P w) P w K mg base ["draws", "row", "word", "place", "byte", "k", "front"] "_law_input" (defScope vp) T.jO cdv A outer s H E) rfl rfl rfl rfl
  have hp : PassesOwn (model P w) (cxOf (L2.CX P w) P w K mg base ["draws", "row", "word", "place", "byte", "k", "front"] "_law_input" (defScope vp) T.jO cdv A outer s H E).A (cxOf (L2.CX P w) P w K mg base ["draws", "row", "word", "place", "byte", "k", "front"] "_law_input" (defScope vp) T.jO cdv A outer s H E).env (cxOf (L2.CX P w) P w K mg base ["draws", "row", "word", "place", "byte", "k", "front"] "_law_input" (defScope vp) T.jO cdv A outer s H E).xe := PassesOwn.leaving
  exact wb (yg (i := 1) kj.nd (ze xb2 tk (hr.mono (by decide)) T.zb2 T.zbg.kp T.yas (ja (ze qcw tk (hr.mono (by decide)) T.jcu T.vbO.kp T.vaJ (ja (za (pv 0)) (ja (ya) (zb)))) (zb)))) (wb (yg (i := 2) kj.nd (ze zl tk (hr.mono (by decide)) T.km T.yl.kp T.yk (ja (za (pv 0)) (ja (ya) (ja (ya) (zb)))))) (wb (yg (i := 3) kj.nd (ze zl tk (hr.mono (by decide)) T.km T.yl.kp T.yk (ja (za (pv 0)) (ja (ya) (ja (xi call_len xq T.zt PySem.boot_len (ja (za (pv 1)) (zb))) (zb)))))) (wb (yg (i := 4) kj.nd (ze zl tk (hr.mono (by decide)) T.km T.yl.kp T.yk (ja (za (pv 0)) (ja (ya) (ja (ya) (zb)))))) (wb (ji (ve (op_eqD hr.units) xS (za (pv 2)) (ya) (nomark _)) (jc (jh (jB (za (pv 1)) (kA) (xk (za (pv 3)))))) (qh)) (wb (ji (ve (op_eqD hr.units) xS (za (pv 2)) (ya) (nomark _)) (jc (jh (kc (kc (jB (za (pv 1)) (kA) (xk (za (pv 3)))) (kr (ja (za (pv 4)) (zb)))) (jB (za (pv 1)) (xk (kc (za (pv 3)) (ya))) (kA))))) (qh)) (wb (ji (ve (op_eqD hr.units) xS (za (pv 2)) (ya) (nomark _)) (jc (jh (kc (jB (za (pv 1)) (kA) (xk (za (pv 3)))) (jB (za (pv 1)) (xk (kc (za (pv 3)) (ya))) (kA))))) (qh)) (wb (ji (ve (op_eqD hr.units) xS (za (pv 2)) (ya) (nomark _)) (jc (jh (kc (kc (jB (za (pv 1)) (kA) (xk (za (pv 3)))) (kr (ja (za (pv 4)) (zb)))) (jB (za (pv 1)) (xk (za (pv 3))) (kA))))) (qh)) (wb (ji (ve (op_eqD hr.units) xS (za (pv 2)) (ya) (nomark _)) (jc (jh (kc (za (pv 1)) (kr (ja (za (pv 4)) (zb)))))) (qh)) (wb (ji (ve (op_eqD hr.units) xS (za (pv 2)) (ya) (nomark _)) (wb (yg (i := 1) kj.nd (jB (za (pv 1)) (kA) (xk (zcf (ya))))) (wb (yg (i := 3) kj.nd (xi (call_min2 rfl) vcD T.xbM (by decide +kernel) (ja (za (pv 3)) (ja (qaW (xi call_len xq T.zt PySem.boot_len (ja (za (pv 1)) (zb))) (ya)) (zb))))) (wb (yg (i := 1) kj.nd (kc (kc (jB (za (pv 1)) (kA) (xk (za (pv 3)))) (kr (ja (jk (kr (ja (za (pv 4)) (ja (ya) (ja (ya) (ja (jE (za (pv 4)) (ya)) (zb)))))) (ze zl tk (hr.mono (by decide)) T.km T.yl.kp T.yk (ja (za (pv 0)) (ja (ya) (ja (ya) (zb)))))) (zb)))) (jB (za (pv 1)) (xk (kc (za (pv 3)) (ze zl tk (hr.mono (by decide)) T.km T.yl.kp T.yk (ja (za (pv 0)) (ja (ya) (ja (ya) (zb))))))) (kA)))) (jc (jh (kc (za (pv 1)) (waJ (own := [("k", 5)]) (tg := .Name _ _) rfl kj.nd zaN (yw T.qt (ja (ya) (zb))) (blkOk_by (own := [("k", 5)]) (N := ["draws", "row", "word", "place", "byte", "k", "front"]) (sc := defScope vp) (by decide +kernel)) (fun _ _ _ _ _ => pg_name (i := 5) kj.nd rfl (by first | exact Or.inl rfl | exact Or.inr rfl)) (fun _ _ _ _ _ => kY) (fun _ _ _ _ _ => jE (vS (ze qaa takes0 (hr.mono (by decide)) T.waF T.kaq.kp T.jM (ja (za (pv 1)) (zb))) (jI (ya) (za (pv 5)))) (ya))))))))) (qh)) (wb (ji (ve (op_eqD hr.units) xS (za (pv 2)) (ya) (nomark _)) (wb (yg (i := 6) kj.nd (kc (kr (ja (ze zl tk (hr.mono (by decide)) T.km T.yl.kp T.yk (ja (za (pv 0)) (ja (ya) (ja (ya) (zb))))) (zb))) (waJ (own := [("k", 5)]) (tg := .Name _ _) rfl kj.nd zaN (yw T.qt (ja (ya) (zb))) (blkOk_by (own := [("k", 5)]) (N := ["draws", "row", "word", "place", "byte", "k", "front"]) (sc := defScope vp) (by decide +kernel)) (fun _ _ _ _ _ => pg_name (i := 5) kj.nd rfl (by first | exact Or.inl rfl | exact Or.inr rfl)) (fun _ _ _ _ _ => kY) (fun _ _ _ _ _ => ze zl takes0 (hr.mono (by decide)) T.km T.yl.kp T.yk (ja (za (pv 0)) (ja (kc (ya) (za (pv 5))) (ja (ya) (zb)))))))) (wb (yg (i := 1) kj.nd (kc (za (pv 6)) (waJ (own := [("k", 5)]) (tg := .Name _ _) rfl kj.nd zaN (yw T.qt (ja (ya) (zb))) (blkOk_by (own := [("k", 5)]) (N := ["draws", "row", "word", "place", "byte", "k", "front"]) (sc := defScope vp) (by decide +kernel)) (fun _ _ _ _ _ => pg_name (i := 5) kj.nd rfl (by first | exact Or.inl rfl | exact Or.inr rfl)) (fun _ _ _ _ _ => kY) (fun _ _ _ _ _ => jk (kr (ja (ze zl takes0 (hr.mono (by decide)) T.km T.yl.kp T.yk (ja (za (pv 0)) (ja (kc (ya) (za (pv 5))) (ja (ya) (zb))))) (ja (ya) (ja (ya) (zb))))) (ze zl takes0 (hr.mono (by decide)) T.km T.yl.kp T.yk (ja (za (pv 0)) (ja (kc (ya) (za (pv 5))) (ja (ya) (zb))))))))) (jc (jh (kc (za (pv 1)) (waJ (own := [("k", 5)]) (tg := .Name _ _) rfl kj.nd zaN (yw T.qt (ja (ya) (zb))) (blkOk_by (own := [("k", 5)]) (N := ["draws", "row", "word", "place", "byte", "k", "front"]) (sc := defScope vp) (by decide +kernel)) (fun _ _ _ _ _ => pg_name (i := 5) kj.nd rfl (by first | exact Or.inl rfl | exact Or.inr rfl)) (fun _ _ _ _ _ => kY) (fun _ _ _ _ _ => jE (vS (ze qaa takes0 (hr.mono (by decide)) T.waF T.kaq.kp T.jM (ja (za (pv 1)) (zb))) (jI (ya) (za (pv 5)))) (ya)))))))) (qh)) (jc (jh (za (pv 1))))))))))))))
theorem qbK (T : Txt K mg Cl) : FnOk P w K mg base (L2.CX P w) 1 T.kW T.za1 ["row"] (vB K Cl 1 FN.kF) := by
  refine js (k := 0) T.vax xck rfl rfl fun cdv A outer s H E hr => ?_
  have tk := takes_of (X := cxOf (L2.CX P w) P w K mg base ["row"] "number_of" (defScope kB) T.kW cdv A outer s H E) rfl rfl rfl rfl
  have hp : PassesOwn (model P w) (cxOf (L2.CX P w) P w K mg base ["row"] "number_of" (defScope kB) T.kW cdv A outer s H E).A (cxOf (L2.CX P w) P w K mg base ["row"] "number_of" (defScope kB) T.kW cdv A outer s H E).env (cxOf (L2.CX P w) P w K mg base ["row"] "number_of" (defScope kB) T.kW cdv A outer s H E).xe := PassesOwn.leaving
  exact jc (jh (kc (kc (kc (jk (za (pv 0)) (ya)) (qaL (jk (za (pv 0)) (ya)) (ya))) (qaL (jk (za (pv 0)) (ya)) (ya))) (qaL (jk (za (pv 0)) (ya)) (ya))))
theorem vbw (T : Txt K mg Cl) : FnOk P w K mg base (L2.CX P w) 3 T.zu T.kay ["writing"] (vB K Cl 1 FN.qaX) := by
  have zk := qS (P := P) (w := w) (base := base) T
  have xax := qbK (P := P) (w := w) (base := base) T
  refine js (k := 2) T.yaF qbw rfl rfl fun cdv A outer s H E hr => ?_
  have tk := takes_of (X := cxOf (L2.CX P w) P w K mg base ["writing"] "read_front" (defScope yp) T.zu cdv A outer s H E) rfl rfl rfl rfl
  have hp : PassesOwn (model P w) (cxOf (L2.CX P w) P w K mg base ["writing"] "read_front" (defScope yp) T.zu cdv A outer s H E).A (cxOf (L2.CX P w) P w K mg base ["writing"] "read_front" (defScope yp) T.zu cdv A outer s H E).env (cxOf (L2.CX P w) P w K mg base ["writing"] "read_front" (defScope yp) T.zu cdv A outer s H E).xe := PassesOwn.leaving
  exact wb (ji (yaz (jal (ve (op_eqD hr.units) xS (xi call_len xq T.zt PySem.boot_len (ja (za (pv 0)) (zb))) (ya) (nomark _)) (wY (ve vI yI (jk (za (pv 0)) (ya)) (qi T.zcK) (nomark _))))) (jc (xw (c := 5) T.xb6 T.zq zk tk (hr.mono (by decide)) (ya))) (qh)) (wb (ji (ve zaf jaf (xi call_len xq T.zt PySem.boot_len (ja (za (pv 0)) (zb))) (ya) (nomark _)) (jc (xw (c := 6) T.vbW T.zq zk tk (hr.mono (by decide)) (ya))) (qh)) (wb (ji (ve zaf jaf (xi call_len xq T.zt PySem.boot_len (ja (za (pv 0)) (zb))) (qi T.zaB) (nomark _)) (jc (xw (c := 7) T.jbP T.zq zk tk (hr.mono (by decide)) (ya))) (qh)) (jc (jh (ko (ja (jk (za (pv 0)) (ya)) (ja (ze xax tk (hr.mono (by decide)) T.yaK T.vax.kp T.kT (ja (jB (za (pv 0)) (xk (ya)) (xk (ya))) (zb))) (ja (ze xax tk (hr.mono (by decide)) T.yaK T.vax.kp T.kT (ja (jB (za (pv 0)) (xk (ya)) (xk (qi T.zaB))) (zb))) (zb)))))))))
theorem qb3 (T : Txt K mg Cl) : FnOk P w K mg base (L2N.CX P w) 3 T.zu T.kay ["writing"] (vB K Cl 1 FN.zp) := by
  have zk := qS (P := P) (w := w) (base := base) T
  have xax := qbK (P := P) (w := w) (base := base) T
  refine wbL (k := 2) T.yaF qbw rfl rfl fun cdv A outer s H E hr => ?_
  have tk := L2N.takes_of (X := cxOf (L2N.CX P w) P w K mg base ["writing"] "read_front" (defScope yp) T.zu cdv A outer s H E) rfl rfl rfl rfl
  have hp : PassesOwn (model P w) (cxOf (L2N.CX P w) P w K mg base ["writing"] "read_front" (defScope yp) T.zu cdv A outer s H E).A (cxOf (L2N.CX P w) P w K mg base ["writing"] "read_front" (defScope yp) T.zu cdv A outer s H E).env (cxOf (L2N.CX P w) P w K mg base ["writing"] "read_front" (defScope yp) T.zu cdv A outer s H E).xe := PassesOwn.leaving
  exact wb (ji (yaz (jal (ve (op_eqD hr.units) xS (xi call_len xq T.zt PySem.boot_len (ja (za (pv 0)) (zb))) (ya) (nomark _)) (wY (ve vI yI (jk (za (pv 0)) (ya)) (qi T.zcK) (nomark _))))) (jc (wG (c := 5) T.xb6 T.zq zk tk (hr.mono (by decide)) (ya))) (qh)) (wb (ji (ve zaf jaf (xi call_len xq T.zt PySem.boot_len (ja (za (pv 0)) (zb))) (ya) (nomark _)) (jc (wG (c := 6) T.vbW T.zq zk tk (hr.mono (by decide)) (ya))) (qh)) (wb (ji (ve zaf jaf (xi call_len xq T.zt PySem.boot_len (ja (za (pv 0)) (zb))) (qi T.zaB) (nomark _)) (jc (wG (c := 7) T.jbP T.zq zk tk (hr.mono (by decide)) (ya))) (qh)) (jc (jh (ko (ja (jk (za (pv 0)) (ya)) (ja (vE (FnOk.toN xax) tk (hr.mono (by decide)) T.yaK T.vax.kp T.kT (ja (jB (za (pv 0)) (xk (ya)) (xk (ya))) (zb))) (ja (vE (FnOk.toN xax) tk (hr.mono (by decide)) T.yaK T.vax.kp T.kT (ja (jB (za (pv 0)) (xk (ya)) (xk (qi T.zaB))) (zb))) (zb)))))))))
theorem qbX (T : Txt K mg Cl) : FnOk P w K mg base (L2.CX P w) 3 T.wF T.xaF ["row", "at"] (vB K Cl 2 FN.qv) := by
  have zk := qS (P := P) (w := w) (base := base) T
  refine js (k := 2) T.jbg va6 rfl rfl fun cdv A outer s H E hr => ?_
  have tk := takes_of (X := cxOf (L2.CX P w) P w K mg base ["row", "at", "place"] "end_of_steps" (defScope zv) T.wF cdv A outer s H E) rfl rfl rfl rfl
  have hp : PassesOwn (model P w) (cxOf (L2.CX P w) P w K mg base ["row", "at", "place"] "end_of_steps" (defScope zv) T.wF cdv A outer s H E).A (cxOf (L2.CX P w) P w K mg base ["row", "at", "place"] "end_of_steps" (defScope zv) T.wF cdv A outer s H E).env (cxOf (L2.CX P w) P w K mg base ["row", "at", "place"] "end_of_steps" (defScope zv) T.wF cdv A outer s H E).xe := PassesOwn.leaving
  exact wb (kS hp rfl (wb6 T.qt (ja (za (pv 1)) (ja (kc (za (pv 1)) (qi T.wbG)) (zb)))) (jR (i := 2) va6.nd) (wb (ji (ve wav vav (za (pv 2)) (xi call_len xq T.zt PySem.boot_len (ja (za (pv 0)) (zb))) (nomark _)) (jc (xw (c := 3) T.zcv T.zq zk tk (hr.mono (by decide)) (xi call_len xq T.zt PySem.boot_len (ja (za (pv 0)) (zb))))) (qh)) (jc (ji (ve zaf jaf (jk (za (pv 0)) (za (pv 2))) (ya) (nomark _)) (jc (jh (kc (za (pv 2)) (ya)))) (qh))))) (jc (jh (kc (za (pv 1)) (qi T.wbG))))
theorem ycm (T : Txt K mg Cl) : FnOk P w K mg base (L2.CX P w) 4 T.qX T.ja1 ["row", "at"] (vB K Cl 2 FN.yB) := by
  have zk := qS (P := P) (w := w) (base := base) T
  have zb3 := qbX (P := P) (w := w) (base := base) T
  refine js (k := 3) T.ybO xaq rfl rfl fun cdv A outer s H E hr => ?_
  have tk := takes_of (X := cxOf (L2.CX P w) P w K mg base ["row", "at", "stop", "number", "place"] "get_steps" (defScope qC) T.qX cdv A outer s H E) rfl rfl rfl rfl
  have hp : PassesOwn (model P w) (cxOf (L2.CX P w) P w K mg base ["row", "at", "stop", "number", "place"] "get_steps" (defScope qC) T.qX cdv A outer s H E).A (cxOf (L2.CX P w) P w K mg base ["row", "at", "stop", "number", "place"] "get_steps" (defScope qC) T.qX cdv A outer s H E).env (cxOf (L2.CX P w) P w K mg base ["row", "at", "stop", "number", "place"] "get_steps" (defScope qC) T.qX cdv A outer s H E).xe := PassesOwn.leaving
  exact wb (yg (i := 2) xaq.nd (ze zb3 tk (hr.mono (by decide)) T.jb2 T.jbg.kp T.jL (ja (za (pv 0)) (ja (za (pv 1)) (zb))))) (wb (yg (i := 3) xaq.nd (ya)) (wb (kS hp rfl (wb6 T.qt (ja (za (pv 1)) (ja (za (pv 2)) (zb)))) (jR (i := 4) xaq.nd) (jc (yds (i := 3) xaq.nd (qaL (jE (jk (za (pv 0)) (za (pv 4))) (ya)) (jI (ya) (qaW (za (pv 4)) (za (pv 1))))) ip_add))) (wb (ji (yaz (jal (ve wav vav (jk (za (pv 0)) (qaW (za (pv 2)) (ya))) (ya) (nomark _)) (wY (ve wav vav (za (pv 3)) (qi T.vbG) (nomark _))))) (jc (xw (c := 1) T.waG T.zq zk tk (hr.mono (by decide)) (za (pv 1)))) (qh)) (wb (ji (yaz (zcU (ve vI yI (qaW (za (pv 2)) (za (pv 1))) (ya) (nomark _)) (xcD (ve (op_eqD hr.units) xS (jk (za (pv 0)) (qaW (za (pv 2)) (ya))) (ya) (nomark _))))) (jc (xw (c := 2) T.kb7 T.zq zk tk (hr.mono (by decide)) (za (pv 1)))) (qh)) (jc (jh (ko (ja (za (pv 3)) (ja (za (pv 2)) (zb))))))))))
theorem zaz (T : Txt K mg Cl) : FnOk P w K mg base (L2.CX P w) 5 T.wO T.zaQ ["row", "at", "top"] (vB K Cl 3 FN.xj) := by
  have zcw := ycm (P := P) (w := w) (base := base) T
  refine js (k := 4) T.vx vaP rfl rfl fun cdv A outer s H E hr => ?_
  have tk := takes_of (X := cxOf (L2.CX P w) P w K mg base ["row", "at", "top", "number", "stop"] "step_up_to" (defScope qA) T.wO cdv A outer s H E) rfl rfl rfl rfl
  have hp : PassesOwn (model P w) (cxOf (L2.CX P w) P w K mg base ["row", "at", "top", "number", "stop"] "step_up_to" (defScope qA) T.wO cdv A outer s H E).A (cxOf (L2.CX P w) P w K mg base ["row", "at", "top", "number", "stop"] "step_up_to" (defScope qA) T.wO cdv A outer s H E).env (cxOf (L2.CX P w) P w K mg base ["row", "at", "top", "number", "stop"] "step_up_to" (defScope qA) T.wO cdv A outer s H E).xe := PassesOwn.leaving
  exact wb (xdp rfl rfl (fun W1 pn1 xe1 tk1 hp1 => jc (jD (jz rfl (yc (i := 3) vaP.nd (yc (i := 4) vaP.nd (xu)))) (ze zcw tk1 (hr.mono (by decide)) T.wcu T.ybO.kp T.jK (ja (za (pv 0)) (ja (za (pv 1)) (zb)))))) (zc2 (N := fun c => DL.ErF K (Cl c)) rfl ⟨rfl, by decide, .inl T.xcl⟩ ⟨rfl, by decide, .inl T.qb8⟩ ⟨rfl, by decide, .inl T.yb2⟩ (vC (P := fun c b => DL.ErF K (Cl c) ∧ PySem.W.exmAny K (.ref (Cl c)) [.ref (Cl 3), .ref (Cl 1), .ref (Cl 2)] = some b) (.cons ⟨T.wbw, jbQ T.xa3 T.va2 T.qaU⟩ (.cons ⟨T.vbg, jbQ T.wa2 T.kaT T.qaR⟩ (.cons ⟨T.qbH, jbQ T.zbb T.ya3 T.ja2⟩ .nil)))) (fun xa oe pn => jc (jh (ko (ja (jG) (ja (za (pv 1)) (zb)))))) (zdk rfl rfl tk))) (wb (ji (ve vI yI (za (pv 3)) (za (pv 2)) (nomark _)) (jc (jh (ko (ja (jG) (ja (za (pv 1)) (zb)))))) (qh)) (jc (jh (ko (ja (za (pv 3)) (ja (za (pv 4)) (zb)))))))
theorem ybw (T : Txt K mg Cl) : FnOk P w K mg base (L2.CX P w) 6 T.ju T.qaz ["writing"] (vB K Cl 1 FN.zaX) := by
  have zk := qS (P := P) (w := w) (base := base) T
  have zr := zaz (P := P) (w := w) (base := base) T
  refine js (k := 5) T.kaF qk rfl rfl fun cdv A outer s H E hr => ?_
  have tk := takes_of (X := cxOf (L2.CX P w) P w K mg base ["writing", "track", "track_stop", "ordinal", "ordinal_stop", "time", "time_stop", "span", "span_stop"] "read_place" (defScope xp) T.ju cdv A outer s H E) rfl rfl rfl rfl
  have hp : PassesOwn (model P w) (cxOf (L2.CX P w) P w K mg base ["writing", "track", "track_stop", "ordinal", "ordinal_stop", "time", "time_stop", "span", "span_stop"] "read_place" (defScope xp) T.ju cdv A outer s H E).A (cxOf (L2.CX P w) P w K mg base ["writing", "track", "track_stop", "ordinal", "ordinal_stop", "time", "time_stop", "span", "span_stop"] "read_place" (defScope xp) T.ju cdv A outer s H E).env (cxOf (L2.CX P w) P w K mg base ["writing", "track", "track_stop", "ordinal", "ordinal_stop", "time", "time_stop", "span", "span_stop"] "read_place" (defScope xp) T.ju cdv A outer s H E).xe := PassesOwn.leaving
  exact wb (jD (jz rfl (yc (i := 1) qk.nd (yc (i := 2) qk.nd (xu)))) (ze zr tk (hr.mono (by decide)) T.wA T.vx.kp T.jo (ja (za (pv 0)) (ja (qi T.zaB) (ja (qi T.qbb) (zb)))))) (wb (ji (ve op_isN qaf (za (pv 1)) (jG) (nomark _)) (jc (xw (c := 8) T.ybW T.zq zk tk (hr.mono (by decide)) (qi T.zaB))) (qh)) (wb (jD (jz rfl (yc (i := 3) qk.nd (yc (i := 4) qk.nd (xu)))) (ze zr tk (hr.mono (by decide)) T.wA T.vx.kp T.jo (ja (za (pv 0)) (ja (za (pv 2)) (ja (qi T.kaQ) (zb)))))) (wb (ji (ve op_isN qaf (za (pv 3)) (jG) (nomark _)) (jc (xw (c := 9) T.kbG T.zq zk tk (hr.mono (by decide)) (za (pv 2)))) (qh)) (wb (jD (jz rfl (yc (i := 5) qk.nd (yc (i := 6) qk.nd (xu)))) (ze zr tk (hr.mono (by decide)) T.wA T.vx.kp T.jo (ja (za (pv 0)) (ja (za (pv 4)) (ja (qi T.qbr) (zb)))))) (wb (ji (ve op_isN qaf (za (pv 5)) (jG) (nomark _)) (jc (xw (c := 10) T.kb6 T.zq zk tk (hr.mono (by decide)) (za (pv 4)))) (qh)) (wb (jD (jz rfl (yc (i := 7) qk.nd (yc (i := 8) qk.nd (xu)))) (ze zr tk (hr.mono (by decide)) T.wA T.vx.kp T.jo (ja (za (pv 0)) (ja (za (pv 6)) (ja (qi T.jbr) (zb)))))) (wb (ji (ve op_isN qaf (za (pv 7)) (jG) (nomark _)) (jc (xw (c := 11) T.qb7 T.zq zk tk (hr.mono (by decide)) (za (pv 6)))) (qh)) (jc (jh (ko (ja (za (pv 1)) (ja (za (pv 3)) (ja (za (pv 5)) (ja (za (pv 7)) (ja (za (pv 8)) (zb))))))))))))))))
theorem jb3 (T : Txt K mg Cl) : FnOk P w K mg base (L2N.CX P w) 6 T.ju T.qaz ["writing"] (vB K Cl 1 FN.jT) := by
  have zk := qS (P := P) (w := w) (base := base) T
  have zr := zaz (P := P) (w := w) (base := base) T
  refine wbL (k := 5) T.kaF qk rfl rfl fun cdv A outer s H E hr => ?_
  have tk := L2N.takes_of (X := cxOf (L2N.CX P w) P w K mg base ["writing", "track", "track_stop", "ordinal", "ordinal_stop", "time", "time_stop", "span", "span_stop"] "read_place" (defScope xp) T.ju cdv A outer s H E) rfl rfl rfl rfl
  have hp : PassesOwn (model P w) (cxOf (L2N.CX P w) P w K mg base ["writing", "track", "track_stop", "ordinal", "ordinal_stop", "time", "time_stop", "span", "span_stop"] "read_place" (defScope xp) T.ju cdv A outer s H E).A (cxOf (L2N.CX P w) P w K mg base ["writing", "track", "track_stop", "ordinal", "ordinal_stop", "time", "time_stop", "span", "span_stop"] "read_place" (defScope xp) T.ju cdv A outer s H E).env (cxOf (L2N.CX P w) P w K mg base ["writing", "track", "track_stop", "ordinal", "ordinal_stop", "time", "time_stop", "span", "span_stop"] "read_place" (defScope xp) T.ju cdv A outer s H E).xe := PassesOwn.leaving
  exact wb (jD (jz rfl (yc (i := 1) qk.nd (yc (i := 2) qk.nd (xu)))) (vE (FnOk.toN zr) tk (hr.mono (by decide)) T.wA T.vx.kp T.jo (ja (za (pv 0)) (ja (qi T.zaB) (ja (qi T.qbb) (zb)))))) (wb (ji (ve op_isN qaf (za (pv 1)) (jG) (nomark _)) (jc (wG (c := 8) T.ybW T.zq zk tk (hr.mono (by decide)) (qi T.zaB))) (qh)) (wb (jD (jz rfl (yc (i := 3) qk.nd (yc (i := 4) qk.nd (xu)))) (vE (FnOk.toN zr) tk (hr.mono (by decide)) T.wA T.vx.kp T.jo (ja (za (pv 0)) (ja (za (pv 2)) (ja (qi T.kaQ) (zb)))))) (wb (ji (ve op_isN qaf (za (pv 3)) (jG) (nomark _)) (jc (wG (c := 9) T.kbG T.zq zk tk (hr.mono (by decide)) (za (pv 2)))) (qh)) (wb (jD (jz rfl (yc (i := 5) qk.nd (yc (i := 6) qk.nd (xu)))) (vE (FnOk.toN zr) tk (hr.mono (by decide)) T.wA T.vx.kp T.jo (ja (za (pv 0)) (ja (za (pv 4)) (ja (qi T.qbr) (zb)))))) (wb (ji (ve op_isN qaf (za (pv 5)) (jG) (nomark _)) (jc (wG (c := 10) T.kb6 T.zq zk tk (hr.mono (by decide)) (za (pv 4)))) (qh)) (wb (jD (jz rfl (yc (i := 7) qk.nd (yc (i := 8) qk.nd (xu)))) (vE (FnOk.toN zr) tk (hr.mono (by decide)) T.wA T.vx.kp T.jo (ja (za (pv 0)) (ja (za (pv 6)) (ja (qi T.jbr) (zb)))))) (wb (ji (ve op_isN qaf (za (pv 7)) (jG) (nomark _)) (jc (wG (c := 11) T.qb7 T.zq zk tk (hr.mono (by decide)) (za (pv 6)))) (qh)) (jc (jh (ko (ja (za (pv 1)) (ja (za (pv 3)) (ja (za (pv 5)) (ja (za (pv 7)) (ja (za (pv 8)) (zb))))))))))))))))
theorem zbK (T : Txt K mg Cl) : FnOk P w K mg base (L2.CX P w) 6 T.jy T.qaG ["writing", "at"] (vB K Cl 2 FN.ja7) := by
  have zk := qS (P := P) (w := w) (base := base) T
  have zr := zaz (P := P) (w := w) (base := base) T
  refine js (k := 5) T.xaK y9 rfl rfl fun cdv A outer s H E hr => ?_
  have tk := takes_of (X := cxOf (L2.CX P w) P w K mg base ["writing", "at", "size", "start"] "read_body" (defScope yr) T.jy cdv A outer s H E) rfl rfl rfl rfl
  have hp : PassesOwn (model P w) (cxOf (L2.CX P w) P w K mg base ["writing", "at", "size", "start"] "read_body" (defScope yr) T.jy cdv A outer s H E).A (cxOf (L2.CX P w) P w K mg base ["writing", "at", "size", "start"] "read_body" (defScope yr) T.jy cdv A outer s H E).env (cxOf (L2.CX P w) P w K mg base ["writing", "at", "size", "start"] "read_body" (defScope yr) T.jy cdv A outer s H E).xe := PassesOwn.leaving
  exact wb (jD (jz rfl (yc (i := 2) y9.nd (yc (i := 3) y9.nd (xu)))) (ze zr tk (hr.mono (by decide)) T.wA T.vx.kp T.jo (ja (za (pv 0)) (ja (za (pv 1)) (ja (qi T.vbr) (zb)))))) (wb (ji (ve op_isN qaf (za (pv 2)) (jG) (nomark _)) (jc (xw (c := 13) T.zb7 T.zq zk tk (hr.mono (by decide)) (za (pv 1)))) (qh)) (wb (ji (ve vI yI (kc (za (pv 3)) (za (pv 2))) (xi call_len xq T.zt PySem.boot_len (ja (za (pv 0)) (zb))) (nomark _)) (jc (xw (c := 14) T.wbP T.zq zk tk (hr.mono (by decide)) (za (pv 3)))) (qh)) (jc (jh (ko (ja (jB (za (pv 0)) (xk (za (pv 3))) (xk (kc (za (pv 3)) (za (pv 2))))) (ja (kc (za (pv 3)) (za (pv 2))) (zb))))))))
theorem xb8 (T : Txt K mg Cl) : FnOk P w K mg base (L2N.CX P w) 6 T.jy T.qaG ["writing", "at"] (vB K Cl 2 FN.zL) := by
  have zk := qS (P := P) (w := w) (base := base) T
  have zr := zaz (P := P) (w := w) (base := base) T
  refine wbL (k := 5) T.xaK y9 rfl rfl fun cdv A outer s H E hr => ?_
  have tk := L2N.takes_of (X := cxOf (L2N.CX P w) P w K mg base ["writing", "at", "size", "start"] "read_body" (defScope yr) T.jy cdv A outer s H E) rfl rfl rfl rfl
  have hp : PassesOwn (model P w) (cxOf (L2N.CX P w) P w K mg base ["writing", "at", "size", "start"] "read_body" (defScope yr) T.jy cdv A outer s H E).A (cxOf (L2N.CX P w) P w K mg base ["writing", "at", "size", "start"] "read_body" (defScope yr) T.jy cdv A outer s H E).env (cxOf (L2N.CX P w) P w K mg base ["writing", "at", "size", "start"] "read_body" (defScope yr) T.jy cdv A outer s H E).xe := PassesOwn.leaving
  exact wb (jD (jz rfl (yc (i := 2) y9.nd (yc (i := 3) y9.nd (xu)))) (vE (FnOk.toN zr) tk (hr.mono (by decide)) T.wA T.vx.kp T.jo (ja (za (pv 0)) (ja (za (pv 1)) (ja (qi T.vbr) (zb)))))) (wb (ji (ve op_isN qaf (za (pv 2)) (jG) (nomark _)) (jc (wG (c := 13) T.zb7 T.zq zk tk (hr.mono (by decide)) (za (pv 1)))) (qh)) (wb (ji (ve vI yI (kc (za (pv 3)) (za (pv 2))) (xi call_len xq T.zt PySem.boot_len (ja (za (pv 0)) (zb))) (nomark _)) (jc (wG (c := 14) T.wbP T.zq zk tk (hr.mono (by decide)) (za (pv 3)))) (qh)) (jc (jh (ko (ja (jB (za (pv 0)) (xk (za (pv 3))) (xk (kc (za (pv 3)) (za (pv 2))))) (ja (kc (za (pv 3)) (za (pv 2))) (zb))))))))
theorem yaR (T : Txt K mg Cl) : FnOk P w K mg base (L2.CX P w) 1 T.vO T.jaQ ["number"] (vB K Cl 1 FN.kn) := by
  refine js (k := 0) T.x9 yb7 rfl rfl fun cdv A outer s H E hr => ?_
  have tk := takes_of (X := cxOf (L2.CX P w) P w K mg base ["number"] "four_bytes" (defScope zA) T.vO cdv A outer s H E) rfl rfl rfl rfl
  have hp : PassesOwn (model P w) (cxOf (L2.CX P w) P w K mg base ["number"] "four_bytes" (defScope zA) T.vO cdv A outer s H E).A (cxOf (L2.CX P w) P w K mg base ["number"] "four_bytes" (defScope zA) T.vO cdv A outer s H E).env (cxOf (L2.CX P w) P w K mg base ["number"] "four_bytes" (defScope zA) T.vO cdv A outer s H E).xe := PassesOwn.leaving
  exact jc (jh (kr (ja (jE (za (pv 0)) (ya)) (ja (jE (vS (za (pv 0)) (ya)) (ya)) (ja (jE (vS (za (pv 0)) (ya)) (ya)) (ja (jE (vS (za (pv 0)) (ya)) (ya)) (zb)))))))
theorem wb3 (T : Txt K mg Cl) : FnOk P w K mg base (L2.CX P w) 1 T.qI T.xaI ["total", "row"] (vB K Cl 2 FN.kax) := by
  refine js (k := 0) T.zbw vL rfl rfl fun cdv A outer s H E hr => ?_
  have tk := takes_of (X := cxOf (L2.CX P w) P w K mg base ["total", "row", "remainder", "byte"] "checksum_on" (defScope yx) T.qI cdv A outer s H E) rfl rfl rfl rfl
  have hp : PassesOwn (model P w) (cxOf (L2.CX P w) P w K mg base ["total", "row", "remainder", "byte"] "checksum_on" (defScope yx) T.qI cdv A outer s H E).A (cxOf (L2.CX P w) P w K mg base ["total", "row", "remainder", "byte"] "checksum_on" (defScope yx) T.qI cdv A outer s H E).env (cxOf (L2.CX P w) P w K mg base ["total", "row", "remainder", "byte"] "checksum_on" (defScope yx) T.qI cdv A outer s H E).xe := PassesOwn.leaving
  exact wb (yg (i := 2) vL.nd (zaL (za (pv 0)) (ya))) (wb (kS hp rfl (jaW (za (pv 1))) (jR (i := 3) vL.nd) (wb (yg (i := 2) vL.nd (zaL (za (pv 2)) (za (pv 3)))) (wb (yg (i := 2) vL.nd (zaL (vS (za (pv 2)) (ya)) (jk (kce T.wcl T.vcl) (jE (za (pv 2)) (ya))))) (jc (yg (i := 2) vL.nd (zaL (vS (za (pv 2)) (ya)) (jk (kce T.wcl T.vcl) (jE (za (pv 2)) (ya))))))))) (jc (jh (zaL (za (pv 2)) (ya)))))
theorem ybd (T : Txt K mg Cl) : FnOk P w K mg base (L2.CX P w) 2 T.kae T.vba ["row"] (vB K Cl 1 FN.yD) := by
  have kb8 := wb3 (P := P) (w := w) (base := base) T
  refine js (k := 1) T.xaT zcu rfl rfl fun cdv A outer s H E hr => ?_
  have tk := takes_of (X := cxOf (L2.CX P w) P w K mg base ["row"] "checksum" (defScope zG) T.kae cdv A outer s H E) rfl rfl rfl rfl
  have hp : PassesOwn (model P w) (cxOf (L2.CX P w) P w K mg base ["row"] "checksum" (defScope zG) T.kae cdv A outer s H E).A (cxOf (L2.CX P w) P w K mg base ["row"] "checksum" (defScope zG) T.kae cdv A outer s H E).env (cxOf (L2.CX P w) P w K mg base ["row"] "checksum" (defScope zG) T.kae cdv A outer s H E).xe := PassesOwn.leaving
  exact jc (jh (ze kb8 tk (hr.mono (by decide)) T.xb7 T.zbw.kp T.qay (ja (ya) (ja (za (pv 0)) (zb)))))
theorem xcm (T : Txt K mg Cl) : FnOk P w K mg base (L2.CX P w) 7 T.wy T.zaG ["writing"] (vB K Cl 1 FN.xb1) := by
  have zk := qS (P := P) (w := w) (base := base) T
  have jbK := vbw (P := P) (w := w) (base := base) T
  have wbK := ybw (P := P) (w := w) (base := base) T
  have vbP := zbK (P := P) (w := w) (base := base) T
  have xO := yaR (P := P) (w := w) (base := base) T
  have vaG := ybd (P := P) (w := w) (base := base) T
  refine js (k := 6) T.yba xh rfl rfl fun cdv A outer s H E hr => ?_
  have tk := takes_of (X := cxOf (L2.CX P w) P w K mg base ["writing", "kind", "stamp", "number", "track", "ordinal", "time", "span", "at", "key", "body", "stop"] "read_leaf" (defScope xr) T.wy cdv A outer s H E) rfl rfl rfl rfl
  have hp : PassesOwn (model P w) (cxOf (L2.CX P w) P w K mg base ["writing", "kind", "stamp", "number", "track", "ordinal", "time", "span", "at", "key", "body", "stop"] "read_leaf" (defScope xr) T.wy cdv A outer s H E).A (cxOf (L2.CX P w) P w K mg base ["writing", "kind", "stamp", "number", "track", "ordinal", "time", "span", "at", "key", "body", "stop"] "read_leaf" (defScope xr) T.wy cdv A outer s H E).env (cxOf (L2.CX P w) P w K mg base ["writing", "kind", "stamp", "number", "track", "ordinal", "time", "span", "at", "key", "body", "stop"] "read_leaf" (defScope xr) T.wy cdv A outer s H E).xe := PassesOwn.leaving
  exact wb (jD (jz rfl (yc (i := 1) xh.nd (yc (i := 2) xh.nd (yc (i := 3) xh.nd (xu))))) (ze jbK tk (hr.mono (by decide)) T.kbF T.yaF.kp T.kaC (ja (za (pv 0)) (zb)))) (wb (jD (jz rfl (yc (i := 4) xh.nd (yc (i := 5) xh.nd (yc (i := 6) xh.nd (yc (i := 7) xh.nd (yc (i := 8) xh.nd (xu))))))) (ze wbK tk (hr.mono (by decide)) T.qbG T.kaF.kp T.qaD (ja (za (pv 0)) (zb)))) (wb (ji (yaz (jal (ve wav vav (za (pv 8)) (xi call_len xq T.zt PySem.boot_len (ja (za (pv 0)) (zb))) (nomark _)) (wY (ve vI yI (jk (za (pv 0)) (za (pv 8))) (qi T.xbG) (nomark _))))) (jc (xw (c := 12) T.ycl T.zq zk tk (hr.mono (by decide)) (za (pv 8)))) (qh)) (wb (yg (i := 9) xh.nd (jk (za (pv 0)) (za (pv 8)))) (wb (jD (jz rfl (yc (i := 10) xh.nd (yc (i := 11) xh.nd (xu)))) (ze vbP tk (hr.mono (by decide)) T.xbO T.xaK.kp T.yaJ (ja (za (pv 0)) (ja (kc (za (pv 8)) (ya)) (zb))))) (wb (ji (ve (op_neD hr.units) qbl (jB (za (pv 0)) (xk (za (pv 11))) (kA)) (ze xO tk (hr.mono (by decide)) T.zar T.x9.kp T.yG (ja (ze vaG tk (hr.mono (by decide)) T.ybq T.xaT.kp T.xaC (ja (jB (za (pv 0)) (kA) (xk (za (pv 11)))) (zb))) (zb))) (nomark _)) (jc (xw (c := 15) T.xbW T.zq zk tk (hr.mono (by decide)) (za (pv 11)))) (qh)) (jc (jh (ko (ja (za (pv 1)) (ja (za (pv 2)) (ja (za (pv 3)) (ja (za (pv 4)) (ja (za (pv 5)) (ja (za (pv 6)) (ja (za (pv 7)) (ja (za (pv 9)) (ja (za (pv 10)) (zb))))))))))))))))))
theorem qb9 (T : Txt K mg Cl) : FnOk P w K mg base (L2N.CX P w) 7 T.wy T.zaG ["writing"] (vB K Cl 1 FN.qas) := by
  have zk := qS (P := P) (w := w) (base := base) T
  have jbK := vbw (P := P) (w := w) (base := base) T
  have wbK := ybw (P := P) (w := w) (base := base) T
  have vbP := zbK (P := P) (w := w) (base := base) T
  have xO := yaR (P := P) (w := w) (base := base) T
  have vaG := ybd (P := P) (w := w) (base := base) T
  have zb9 := qb3 (P := P) (w := w) (base := base) T
  have jb9 := jb3 (P := P) (w := w) (base := base) T
  have kcm := xb8 (P := P) (w := w) (base := base) T
  refine wbL (k := 6) T.yba xh rfl rfl fun cdv A outer s H E hr => ?_
  have tk := L2N.takes_of (X := cxOf (L2N.CX P w) P w K mg base ["writing", "kind", "stamp", "number", "track", "ordinal", "time", "span", "at", "key", "body", "stop"] "read_leaf" (defScope xr) T.wy cdv A outer s H E) rfl rfl rfl rfl
  have hp : PassesOwn (model P w) (cxOf (L2N.CX P w) P w K mg base ["writing", "kind", "stamp", "number", "track", "ordinal", "time", "span", "at", "key", "body", "stop"] "read_leaf" (defScope xr) T.wy cdv A outer s H E).A (cxOf (L2N.CX P w) P w K mg base ["writing", "kind", "stamp", "number", "track", "ordinal", "time", "span", "at", "key", "body", "stop"] "read_leaf" (defScope xr) T.wy cdv A outer s H E).env (cxOf (L2N.CX P w) P w K mg base ["writing", "kind", "stamp", "number", "track", "ordinal", "time", "span", "at", "key", "body", "stop"] "read_leaf" (defScope xr) T.wy cdv A outer s H E).xe := PassesOwn.leaving
  exact wb (jD (jz rfl (yc (i := 1) xh.nd (yc (i := 2) xh.nd (yc (i := 3) xh.nd (xu))))) (vE zb9 tk (hr.mono (by decide)) T.kbF T.yaF.kp T.kaC (ja (za (pv 0)) (zb)))) (wb (jD (jz rfl (yc (i := 4) xh.nd (yc (i := 5) xh.nd (yc (i := 6) xh.nd (yc (i := 7) xh.nd (yc (i := 8) xh.nd (xu))))))) (vE jb9 tk (hr.mono (by decide)) T.qbG T.kaF.kp T.qaD (ja (za (pv 0)) (zb)))) (wb (ji (yaz (jal (ve wav vav (za (pv 8)) (xi call_len xq T.zt PySem.boot_len (ja (za (pv 0)) (zb))) (nomark _)) (wY (ve vI yI (jk (za (pv 0)) (za (pv 8))) (qi T.xbG) (nomark _))))) (jc (wG (c := 12) T.ycl T.zq zk tk (hr.mono (by decide)) (za (pv 8)))) (qh)) (wb (yg (i := 9) xh.nd (jk (za (pv 0)) (za (pv 8)))) (wb (jD (jz rfl (yc (i := 10) xh.nd (yc (i := 11) xh.nd (xu)))) (vE kcm tk (hr.mono (by decide)) T.xbO T.xaK.kp T.yaJ (ja (za (pv 0)) (ja (kc (za (pv 8)) (ya)) (zb))))) (wb (ji (ve (op_neD hr.units) qbl (jB (za (pv 0)) (xk (za (pv 11))) (kA)) (vE (FnOk.toN xO) tk (hr.mono (by decide)) T.zar T.x9.kp T.yG (ja (vE (FnOk.toN vaG) tk (hr.mono (by decide)) T.ybq T.xaT.kp T.xaC (ja (jB (za (pv 0)) (kA) (xk (za (pv 11)))) (zb))) (zb))) (nomark _)) (jc (wG (c := 15) T.xbW T.zq zk tk (hr.mono (by decide)) (za (pv 11)))) (qh)) (jc (jh (ko (ja (za (pv 1)) (ja (za (pv 2)) (ja (za (pv 3)) (ja (za (pv 4)) (ja (za (pv 5)) (ja (za (pv 6)) (ja (za (pv 7)) (ja (za (pv 9)) (ja (za (pv 10)) (zb))))))))))))))))))
theorem vb3 (T : Txt K mg Cl) (base : Heap) : L2H.FnH P w K mg base (L2.CX P w) 1 T.wa1 T.waQ ["e"] (spE K Cl base FN.vam) := by
  refine jc5 (k := 0) T.zbG kH rfl fun xa xd oe xc hbs hE hz hf cdv A outer s H E p hot => ?_
  exact wb (yg (i := 1) kH.nd (kr (ja (zY rfl hbs hE hz hf T.qm (pv 0) (pe_glob (v := .ref (Cl 5)) rfl T.jcK rfl (by decide)) (fun u r => by cases r; rfl) (fun z h => vC (P := fun c b => PySem.W.kitOne K (.ref (Cl c)) (.ref (Cl 5)) = some b) (.cons T.kbh (.cons T.zbc (.cons T.jbt (.cons T.xbH (.cons T.vby (.cons T.zbt (.cons T.wby (.cons T.xbh (.cons T.ybH (.cons T.vbH (.cons T.qbN (.cons T.wbH (.cons T.qbt (.cons T.jby .nil)))))))))))))) xc z h)) (ja (zY rfl hbs hE hz hf T.qm (pv 0) (pe_glob (v := .ref (Cl 6)) rfl T.wcv rfl (by decide)) (fun u r => by cases r; rfl) (fun z h => vC (P := fun c b => PySem.W.kitOne K (.ref (Cl c)) (.ref (Cl 6)) = some b) (.cons T.qbc (.cons T.wa4 (.cons T.ybh (.cons T.zby (.cons T.kbs (.cons T.vbh (.cons T.xbs (.cons T.kbb (.cons T.qby (.cons T.kbx (.cons T.jbH (.cons T.xbx (.cons T.wbh (.cons T.ybs .nil)))))))))))))) xc z h)) (ja (zY rfl hbs hE hz hf T.qm (pv 0) (pe_glob (v := .ref (Cl 7)) rfl T.kcl rfl (by decide)) (fun u r => by cases r; rfl) (fun z h => vC (P := fun c b => PySem.W.kitOne K (.ref (Cl c)) (.ref (Cl 7)) = some b) (.cons T.ja4 (.cons T.za3 (.cons T.xbb (.cons T.vbs (.cons T.jbh (.cons T.ybb (.cons T.zbh (.cons T.za4 (.cons T.wbs (.cons T.jbs (.cons T.ybx (.cons T.zbs (.cons T.vbb (.cons T.qbh .nil)))))))))))))) xc z h)) (ja (zY rfl hbs hE hz hf T.qm (pv 0) (pe_glob (v := .ref (Cl 8)) rfl T.jcv rfl (by decide)) (fun u r => by cases r; rfl) (fun z h => vC (P := fun c b => PySem.W.kitOne K (.ref (Cl c)) (.ref (Cl 8)) = some b) (.cons T.wbb (.cons T.qa4 (.cons T.kbg (.cons T.vbx (.cons T.qbs (.cons T.xbg (.cons T.kbr (.cons T.jbb (.cons T.wbx (.cons T.jbx (.cons T.zbH (.cons T.zbx (.cons T.ybg (.cons T.xbr .nil)))))))))))))) xc z h)) (zb))))))) (wb (yg (i := 1) kH.nd (kc (za (pv 1)) (kr (ja (zY rfl hbs hE hz hf T.qm (pv 0) (pe_glob (v := .ref (Cl 9)) rfl T.zb8 rfl (by decide)) (fun u r => by cases r; rfl) (fun z h => vC (P := fun c b => PySem.W.kitOne K (.ref (Cl c)) (.ref (Cl 9)) = some b) (.cons T.wa3 (.cons T.vaU (.cons T.xa4 (.cons T.qbj (.cons T.xbc (.cons T.ya4 (.cons T.ybc (.cons T.ja3 (.cons T.kbi (.cons T.xbi (.cons T.wbu (.cons T.ybi (.cons T.va4 (.cons T.vbc .nil)))))))))))))) xc z h)) (ja (zY rfl hbs hE hz hf T.qm (pv 0) (pe_glob (v := .ref (Cl 10)) rfl T.vcK rfl (by decide)) (fun u r => by cases r; rfl) (fun z h => vC (P := fun c b => PySem.W.kitOne K (.ref (Cl c)) (.ref (Cl 10)) = some b) (.cons T.vbi (.cons T.wbc (.cons T.jbu (.cons T.zbJ (.cons T.ybz (.cons T.zbu (.cons T.vbz (.cons T.wbi (.cons T.qbJ (.cons T.kbI (.cons T.xbN (.cons T.xbI (.cons T.qbu (.cons T.wbz .nil)))))))))))))) xc z h)) (ja (zY rfl hbs hE hz hf T.qm (pv 0) (pe_glob (v := .ref (Cl 11)) rfl T.wcK rfl (by decide)) (fun u r => by cases r; rfl) (fun z h => vC (P := fun c b => PySem.W.kitOne K (.ref (Cl c)) (.ref (Cl 11)) = some b) (.cons T.jbi (.cons T.jbc (.cons T.kbt (.cons T.ybI (.cons T.jbz (.cons T.xbt (.cons T.zbz (.cons T.zbi (.cons T.vbI (.cons T.wbI (.cons T.ybN (.cons T.jbI (.cons T.ybt (.cons T.qbz .nil)))))))))))))) xc z h)) (ja (zY rfl hbs hE hz hf T.qm (pv 0) (pe_glob (v := .ref (Cl 12)) rfl T.ycY rfl (by decide)) (fun u r => by cases r; rfl) (fun z h => vC (P := fun c b => PySem.W.kitOne K (.ref (Cl c)) (.ref (Cl 12)) = some b) (.cons T.vbt (.cons T.qbi (.cons T.kby (.cons T.vbN (.cons T.zbI (.cons T.xby (.cons T.qbI (.cons T.wbt (.cons T.wbN (.cons T.jbN (.cons T.wbS (.cons T.zbN (.cons T.yby (.cons T.kbH .nil)))))))))))))) xc z h)) (zb)))))))) (wb (yg (i := 1) kH.nd (kc (za (pv 1)) (kr (ja (zY rfl hbs hE hz hf T.qm (pv 0) (pe_glob (v := .ref (Cl 13)) rfl T.ycK rfl (by decide)) (fun u r => by cases r; rfl) (fun z h => vC (P := fun c b => PySem.W.kitOne K (.ref (Cl c)) (.ref (Cl 13)) = some b) (.cons T.qbk (.cons T.vbd (.cons T.ybv (.cons T.xbJ (.cons T.ybA (.cons T.vbv (.cons T.vbA (.cons T.kbj (.cons T.ybJ (.cons T.vbJ (.cons T.kbN (.cons T.wbJ (.cons T.wbv (.cons T.wbA .nil)))))))))))))) xc z h)) (ja (zY rfl hbs hE hz hf T.qm (pv 0) (pe_glob (v := .ref (Cl 14)) rfl T.qcm rfl (by decide)) (fun u r => by cases r; rfl) (fun z h => vC (P := fun c b => PySem.W.kitOne K (.ref (Cl c)) (.ref (Cl 14)) = some b) (.cons T.za5 (.cons T.va3 (.cons T.wbd (.cons T.jbv (.cons T.xbj (.cons T.jbd (.cons T.ybj (.cons T.qa5 (.cons T.zbv (.cons T.qbv (.cons T.jbA (.cons T.kbu (.cons T.zbd (.cons T.vbj .nil)))))))))))))) xc z h)) (ja (zY rfl hbs hE hz hf T.qm (pv 0) (pe_glob (v := .ref (Cl 15)) rfl T.vcv rfl (by decide)) (fun u r => by cases r; rfl) (fun z h => vC (P := fun c b => PySem.W.kitOne K (.ref (Cl c)) (.ref (Cl 15)) = some b) (.cons T.qbd (.cons T.ka4 (.cons T.wbj (.cons T.zbA (.cons T.xbu (.cons T.jbj (.cons T.ybu (.cons T.kbc (.cons T.qbA (.cons T.kbz (.cons T.jbJ (.cons T.xbz (.cons T.zbj (.cons T.vbu .nil)))))))))))))) xc z h)) (zb))))))) (wb (yg (i := 2) kH.nd (kr (ja (xy) (ja (xy) (ja (xy) (ja (xy) (ja (xy) (ja (xy) (ja (xy) (ja (xy) (ja (xy) (ja (xy) (ja (xy) (zb)))))))))))))) (jc (jh (qdu (own := [("k", 3)]) (tg := .Name _ _) hot kH.nd zaN (vcI T.qt (ja (ya) (zb))) (blkOk_by (own := [("k", 3)]) (N := ["e", "kinds", "words", "k"]) (sc := defScope xN) (by decide +kernel)) (fun _ _ _ _ _ _ => pg_name (i := 3) kH.nd rfl (by first | exact Or.inl rfl | exact Or.inr rfl)) (fun _ _ _ _ _ _ => xdl (qcU (jk (za (pv 1)) (za (pv 3))))) (fun _ _ _ _ _ _ => jk (za (pv 2)) (za (pv 3)))))))))
theorem qcn (T : Txt K mg Cl) : FnOk P w K mg base (L2.CX P w) 8 T.zX T.va1 ["row"] (vB K Cl 1 FN.yal) := by
  have zcn := qb9 (P := P) (w := w) (base := base) T
  have kdB := xcm (P := P) (w := w) (base := base) T
  have wb9 := fun base => vb3 (P := P) (w := w) T base
  refine js (k := 7) T.kbO va0 rfl rfl fun cdv A outer s H E hr => ?_
  have tk := takes_of (X := cxOf (L2.CX P w) P w K mg base ["row", "e", "words"] "_law_told" (defScope zC) T.zX cdv A outer s H E) rfl rfl rfl rfl
  have hp : PassesOwn (model P w) (cxOf (L2.CX P w) P w K mg base ["row", "e", "words"] "_law_told" (defScope zC) T.zX cdv A outer s H E).A (cxOf (L2.CX P w) P w K mg base ["row", "e", "words"] "_law_told" (defScope zC) T.zX cdv A outer s H E).env (cxOf (L2.CX P w) P w K mg base ["row", "e", "words"] "_law_told" (defScope zC) T.zX cdv A outer s H E).xe := PassesOwn.leaving
  exact jc (jdm (k := 1) (N := fun c => DL.ErF K (Cl c)) rfl rfl va0.nd ⟨rfl, by decide, .inl T.jbS⟩ (vC (P := fun c b => DL.ErF K (Cl c) ∧ PySem.W.exmOne K (.ref (Cl c)) (.ref (Cl 0)) = some b) (.cons ⟨T.wbw, T.yaM⟩ (.cons ⟨T.vbg, T.qaJ⟩ (.cons ⟨T.qbH, T.waR⟩ (.cons ⟨T.zcL, T.qa3⟩ (.cons ⟨T.kcv, T.waU⟩ (.cons ⟨T.jcm, T.jaR⟩ (.cons ⟨T.xcv, T.jaU⟩ (.cons ⟨T.jb8, T.vaM⟩ (.cons ⟨T.qcL, T.ka2⟩ (.cons ⟨T.kcK, T.xa2⟩ (.cons ⟨T.xcY, T.ka3⟩ (.cons ⟨T.xcK, T.ya2⟩ (.cons ⟨T.zcm, T.zaR⟩ (.cons ⟨T.ycv, T.zaU⟩ .nil))))))))))))))) (fun W1 pn1 xe1 tk1 hp1 => jc (jh (vE zcn tk1 (hr.mono (by decide)) T.vcu T.yba.kp T.wbO (ja (za (pv 0)) (zb))))) (fun xa xd xc oe pn hxc hz hdat hot => wb (yg (i := 2) va0.nd (jcV (k := 1) wb9 (L2H.roomH_mark (hr.mono (by decide)) _) hot List.mem_cons_self hz hdat hxc T.zcl T.zbG.kp T.vZ (pv 1))) (wb (ji (ve (op_neD hr.units) qbl (xi call_len xq T.zt PySem.boot_len (ja (za (pv 2)) (zb))) (ya) (nomark _)) (jc (jh (jG))) (qh)) (jc (jh (ko (ja (jk (za (pv 2)) (ya)) (ja (vdp hxc hz hdat (pv 1)) (zb)))))))))
theorem yb3 (T : Txt K mg Cl) : FnOk P w K mg base (L2.CX P w) 1 T.zI T.kaI ["row", "at", "bound"] (vB K Cl 3 FN.yA) := by
  refine js (k := 0) T.vaQ vat rfl rfl fun cdv A outer s H E hr => ?_
  have tk := takes_of (X := cxOf (L2.CX P w) P w K mg base ["row", "at", "bound", "number", "k"] "_law_number" (defScope qy) T.zI cdv A outer s H E) rfl rfl rfl rfl
  have hp : PassesOwn (model P w) (cxOf (L2.CX P w) P w K mg base ["row", "at", "bound", "number", "k"] "_law_number" (defScope qy) T.zI cdv A outer s H E).A (cxOf (L2.CX P w) P w K mg base ["row", "at", "bound", "number", "k"] "_law_number" (defScope qy) T.zI cdv A outer s H E).env (cxOf (L2.CX P w) P w K mg base ["row", "at", "bound", "number", "k"] "_law_number" (defScope qy) T.zI cdv A outer s H E).xe := PassesOwn.leaving
  exact wb (yg (i := 3) vat.nd (ya)) (wb (kS hp rfl (yw T.qt (ja (ya) (zb))) (jR (i := 4) vat.nd) (jc (ji (ve zaf jaf (kc (za (pv 1)) (za (pv 4))) (xi call_len xq T.zt PySem.boot_len (ja (za (pv 0)) (zb))) (nomark _)) (wb (yg (i := 3) vat.nd (kc (za (pv 3)) (qaL (jE (jk (za (pv 0)) (kc (za (pv 1)) (za (pv 4)))) (ya)) (jI (ya) (za (pv 4)))))) (jc (ji (ve zaf jaf (jk (za (pv 0)) (kc (za (pv 1)) (za (pv 4)))) (ya) (nomark _)) (wb (ji (yaz (jal (ve wav vav (za (pv 3)) (za (pv 2)) (nomark _)) (wY (yaz (zcU (ve vI yI (za (pv 4)) (ya) (nomark _)) (xcD (ve (op_eqD hr.units) xS (jk (za (pv 0)) (kc (za (pv 1)) (za (pv 4)))) (ya) (nomark _)))))))) (jc (jh (jG))) (qh)) (jc (jh (ko (ja (za (pv 3)) (ja (kc (kc (za (pv 1)) (za (pv 4))) (ya)) (zb))))))) (qh)))) (qh)))) (jc (jh (jG))))
theorem jcn (T : Txt K mg Cl) : FnOk P w K mg base (L2.CX P w) 2 T.jX T.ya1 ["row"] (vB K Cl 1 FN.zas) := by
  have xbw := yb3 (P := P) (w := w) (base := base) T
  have qaa := vaR (P := P) (w := w) (base := base) T
  refine js (k := 1) T.qbP zm rfl rfl fun cdv A outer s H E hr => ?_
  have tk := takes_of (X := cxOf (L2.CX P w) P w K mg base ["row", "fields", "k", "j", "at", "words", "word", "bound", "told", "stop"] "_law_read" (defScope zy) T.jX cdv A outer s H E) rfl rfl rfl rfl
  have hp : PassesOwn (model P w) (cxOf (L2.CX P w) P w K mg base ["row", "fields", "k", "j", "at", "words", "word", "bound", "told", "stop"] "_law_read" (defScope zy) T.jX cdv A outer s H E).A (cxOf (L2.CX P w) P w K mg base ["row", "fields", "k", "j", "at", "words", "word", "bound", "told", "stop"] "_law_read" (defScope zy) T.jX cdv A outer s H E).env (cxOf (L2.CX P w) P w K mg base ["row", "fields", "k", "j", "at", "words", "word", "bound", "told", "stop"] "_law_read" (defScope zy) T.jX cdv A outer s H E).xe := PassesOwn.leaving
  exact wb (ji (yaz (jal (ve (op_eqD hr.units) xS (za (pv 0)) (kr (zb)) (nomark _)) (wY (ve vI yI (jk (za (pv 0)) (ya)) (ya) (nomark _))))) (jc (jh (ko (ja (xy) (ja (ya) (zb)))))) (qh)) (wb (ji (ve zaf jaf (xi call_len xq T.zt PySem.boot_len (ja (za (pv 0)) (zb))) (ya) (nomark _)) (jc (jh (ko (ja (xy) (ja (ya) (zb)))))) (qh)) (wb (ji (ve zaf jaf (xi call_len xq T.zt PySem.boot_len (ja (za (pv 0)) (zb))) (ya) (nomark _)) (jc (jh (ko (ja (xy) (ja (ya) (zb)))))) (qh)) (wb (vbe (i := 1) zm.nd (kc (kr (ja (jk (za (pv 0)) (ya)) (zb))) (waJ (own := [("j", 3)]) (tg := .Name _ _) rfl zm.nd zaN (yw T.qt (ja (ya) (zb))) (blkOk_by (own := [("j", 3)]) (N := ["row", "fields", "k", "j", "at", "words", "word", "bound", "told", "stop"]) (sc := defScope zy) (by decide +kernel)) (fun _ _ _ _ _ => pg_name (i := 3) zm.nd rfl (by first | exact Or.inl rfl | exact Or.inr rfl)) (fun _ _ _ _ _ => kY) (fun _ _ _ _ _ => xi (cr_sum rfl) ycD T.kbM (by decide +kernel) (ja (waJ (own := [("k", 2)]) (tg := .Name _ _) rfl zm.nd zaN (yw T.qt (ja (ya) (zb))) (blkOk_by (own := [("k", 2)]) (N := ["row", "fields", "k", "j", "at", "words", "word", "bound", "told", "stop"]) (by rfl)) (fun _ _ _ _ _ => pg_name (i := 2) zm.nd rfl (by first | exact Or.inl rfl | exact Or.inr rfl)) (fun _ _ _ _ _ => kY) (fun _ _ _ _ _ => qaL (jk (za (pv 0)) (kc (kc (ya) (jI (ya) (za (pv 3)))) (za (pv 2)))) (jI (ya) (za (pv 2))))) (zb)))))) (wb (yg (i := 4) zm.nd (ya)) (wb (yg (i := 5) zm.nd (kr (ja (ko (ja (xy) (ja (ya) (zb)))) (ja (ko (ja (xy) (ja (ya) (zb)))) (ja (ko (ja (xy) (ja (ya) (zb)))) (ja (ko (ja (xy) (ja (ya) (zb)))) (zb))))))) (wb (kS hp rfl (jaW (za (pv 5))) (jz rfl (yc (i := 6) zm.nd (yc (i := 7) zm.nd (xu)))) (wb (yg (i := 8) zm.nd (ze xbw tk (hr.mono (by decide)) T.jbw T.vaQ.kp T.jaN (ja (za (pv 0)) (ja (za (pv 4)) (ja (za (pv 7)) (zb)))))) (wb (ji (ve op_isN qaf (za (pv 8)) (jG) (nomark _)) (jc (jh (ko (ja (za (pv 6)) (ja (za (pv 4)) (zb)))))) (qh)) (wb (vaL (i := 1) (pe_bm PySem.F.plainAttrs_list PySem.F.slot_list_append PySem.F.type_list_append mt_append (pv 1) (pa_cons (jk (za (pv 8)) (ya)) pa_nil))) (jc (yg (i := 4) zm.nd (jk (za (pv 8)) (ya)))))))) (wb (ji (yaz (jal (ve wav vav (za (pv 4)) (xi call_len xq T.zt PySem.boot_len (ja (za (pv 0)) (zb))) (nomark _)) (wY (ve vI yI (jk (za (pv 0)) (za (pv 4))) (ya) (nomark _))))) (jc (jh (ko (ja (xy) (ja (za (pv 4)) (zb)))))) (qh)) (wb (yg (i := 8) zm.nd (ze xbw tk (hr.mono (by decide)) T.jbw T.vaQ.kp T.jaN (ja (za (pv 0)) (ja (kc (za (pv 4)) (ya)) (ja (ya) (zb)))))) (wb (ji (ve op_isN qaf (za (pv 8)) (jG) (nomark _)) (jc (jh (ko (ja (xy) (ja (kc (za (pv 4)) (ya)) (zb)))))) (qh)) (wb (yg (i := 9) zm.nd (kc (jk (za (pv 8)) (ya)) (jk (za (pv 8)) (ya)))) (wb (ji (ve vI yI (za (pv 9)) (xi call_len xq T.zt PySem.boot_len (ja (za (pv 0)) (zb))) (nomark _)) (jc (jh (ko (ja (xy) (ja (jk (za (pv 8)) (ya)) (zb)))))) (qh)) (wb (ji (yaz (jal (ve (op_neD hr.units) qbl (xi call_len xq T.zt PySem.boot_len (ja (za (pv 0)) (zb))) (kc (za (pv 9)) (ya)) (nomark _)) (wY (ve (op_neD hr.units) qbl (xi (cr_sum rfl) ycD T.kbM (by decide +kernel) (ja (waJ (own := [("k", 2)]) (tg := .Name _ _) rfl zm.nd zaN (yw T.qt (ja (ya) (zb))) (blkOk_by (own := [("k", 2)]) (N := ["row", "fields", "k", "j", "at", "words", "word", "bound", "told", "stop"]) (sc := defScope zy) (by decide +kernel)) (fun _ _ _ _ _ => pg_name (i := 2) zm.nd rfl (by first | exact Or.inl rfl | exact Or.inr rfl)) (fun _ _ _ _ _ => kY) (fun _ _ _ _ _ => qaL (jk (za (pv 0)) (kc (za (pv 9)) (za (pv 2)))) (jI (ya) (za (pv 2))))) (zb))) (ze qaa tk (hr.mono (by decide)) T.waF T.kaq.kp T.jM (ja (jB (za (pv 0)) (kA) (xk (za (pv 9)))) (zb))) (nomark _))))) (jc (jh (ko (ja (xy) (ja (za (pv 9)) (zb)))))) (qh)) (jc (jh (zK call_tuple_of xc2 T.vaV (by decide +kernel) (ja (kc (za (pv 1)) (kr (ja (jk (za (pv 0)) (za (pv 4))) (ja (jB (za (pv 0)) (xk (jk (za (pv 8)) (ya))) (xk (za (pv 9)))) (zb))))) (zb)))))))))))))))))
theorem zbX (T : Txt K mg Cl) : FnOk P w K mg base (L2.CX P w) 3 T.vF T.jaG ["leaf"] (vB K Cl 1 FN.kZ) := by
  have zk := qS (P := P) (w := w) (base := base) T
  refine js (k := 2) T.wbg xal rfl rfl fun cdv A outer s H E hr => ?_
  have tk := takes_of (X := cxOf (L2.CX P w) P w K mg base ["leaf", "tops", "at", "top"] "check_fields" (defScope jv) T.vF cdv A outer s H E) rfl rfl rfl rfl
  have hp : PassesOwn (model P w) (cxOf (L2.CX P w) P w K mg base ["leaf", "tops", "at", "top"] "check_fields" (defScope jv) T.vF cdv A outer s H E).A (cxOf (L2.CX P w) P w K mg base ["leaf", "tops", "at", "top"] "check_fields" (defScope jv) T.vF cdv A outer s H E).env (cxOf (L2.CX P w) P w K mg base ["leaf", "tops", "at", "top"] "check_fields" (defScope jv) T.vF cdv A outer s H E).xe := PassesOwn.leaving
  exact wb (yg (i := 1) xal.nd (ko (ja (qi T.zcK) (ja (qi T.wbW) (ja (qi T.wbW) (ja (qi T.qbb) (ja (qi T.kaQ) (ja (qi T.qbr) (ja (qi T.jbr) (ja (qi T.xbG) (zb))))))))))) (wb (kS hp rfl (yc2 T.zaw (ja (za (pv 1)) (zb))) (jz rfl (yc (i := 2) xal.nd (yc (i := 3) xal.nd (xu)))) (jc (ji (yaz (jal (ve zaf jaf (jk (za (pv 0)) (za (pv 2))) (ya) (nomark _)) (wY (ve vI yI (jk (za (pv 0)) (za (pv 2))) (za (pv 3)) (nomark _))))) (jc (xw (c := 1) T.waG T.zq zk tk (hr.mono (by decide)) (za (pv 2)))) (qh)))) (jc (ji (ve vI yI (xi call_len xq T.zt PySem.boot_len (ja (jk (za (pv 0)) (ya)) (zb))) (qi T.vbr) (nomark _)) (jc (xw (c := 1) T.waG T.zq zk tk (hr.mono (by decide)) (ya))) (qh))))
theorem wcn (T : Txt K mg Cl) : FnOk P w K mg base (L2.CX P w) 3 T.wX T.xa1 ["number"] (vB K Cl 1 FN.xF) := by
  have zk := qS (P := P) (w := w) (base := base) T
  refine js (k := 2) T.xba ya0 rfl rfl fun cdv A outer s H E hr => ?_
  have tk := takes_of (X := cxOf (L2.CX P w) P w K mg base ["number", "row"] "put_steps" (defScope jC) T.wX cdv A outer s H E) rfl rfl rfl rfl
  have hp : PassesOwn (model P w) (cxOf (L2.CX P w) P w K mg base ["number", "row"] "put_steps" (defScope jC) T.wX cdv A outer s H E).A (cxOf (L2.CX P w) P w K mg base ["number", "row"] "put_steps" (defScope jC) T.wX cdv A outer s H E).env (cxOf (L2.CX P w) P w K mg base ["number", "row"] "put_steps" (defScope jC) T.wX cdv A outer s H E).xe := PassesOwn.leaving
  exact wb (ji (yaz (jal (ve zaf jaf (za (pv 0)) (ya) (nomark _)) (wY (ve wav vav (za (pv 0)) (qi T.vbG) (nomark _))))) (jc (xw (c := 1) T.waG T.zq zk tk (hr.mono (by decide)) (ya))) (qh)) (wb (vbe (i := 1) ya0.nd (kr (zb))) (wb (zc4 hp (ve wav vav (za (pv 0)) (ya) (nomark _)) (wb (vaL (i := 1) (pe_bm PySem.F.plainAttrs_list PySem.F.slot_list_append PySem.F.type_list_append mt_append (pv 1) (pa_cons (kc (jE (za (pv 0)) (ya)) (ya)) pa_nil))) (jc (yg (i := 0) ya0.nd (vS (za (pv 0)) (ya)))))) (wb (vaL (i := 1) (pe_bm PySem.F.plainAttrs_list PySem.F.slot_list_append PySem.F.type_list_append mt_append (pv 1) (pa_cons (za (pv 0)) pa_nil))) (jc (jh (za (pv 1)))))))
theorem vb9 (T : Txt K mg Cl) : FnOk P w K mg base (L2.CX P w) 4 T.yO T.yaQ ["leaf"] (vB K Cl 1 FN.wal) := by
  have xb3 := zbX (P := P) (w := w) (base := base) T
  have xO := yaR (P := P) (w := w) (base := base) T
  have ybP := wcn (P := P) (w := w) (base := base) T
  have vaG := ybd (P := P) (w := w) (base := base) T
  refine js (k := 3) T.jbG yq rfl rfl fun cdv A outer s H E hr => ?_
  have tk := takes_of (X := cxOf (L2.CX P w) P w K mg base ["leaf", "kind", "stamp", "number", "track", "ordinal", "time", "span", "key", "body", "row", "field"] "write_leaf" (defScope jA) T.yO cdv A outer s H E) rfl rfl rfl rfl
  have hp : PassesOwn (model P w) (cxOf (L2.CX P w) P w K mg base ["leaf", "kind", "stamp", "number", "track", "ordinal", "time", "span", "key", "body", "row", "field"] "write_leaf" (defScope jA) T.yO cdv A outer s H E).A (cxOf (L2.CX P w) P w K mg base ["leaf", "kind", "stamp", "number", "track", "ordinal", "time", "span", "key", "body", "row", "field"] "write_leaf" (defScope jA) T.yO cdv A outer s H E).env (cxOf (L2.CX P w) P w K mg base ["leaf", "kind", "stamp", "number", "track", "ordinal", "time", "span", "key", "body", "row", "field"] "write_leaf" (defScope jA) T.yO cdv A outer s H E).xe := PassesOwn.leaving
  exact wb (wdl (ze xb3 tk (hr.mono (by decide)) T.wb2 T.wbg.kp T.jas (ja (za (pv 0)) (zb)))) (wb (jD (jz rfl (yc (i := 1) yq.nd (yc (i := 2) yq.nd (yc (i := 3) yq.nd (yc (i := 4) yq.nd (yc (i := 5) yq.nd (yc (i := 6) yq.nd (yc (i := 7) yq.nd (yc (i := 8) yq.nd (yc (i := 9) yq.nd (xu))))))))))) (za (pv 0))) (wb (vbe (i := 10) yq.nd (kc (kc (kr (ja (za (pv 1)) (zb))) (ze xO tk (hr.mono (by decide)) T.zar T.x9.kp T.yG (ja (za (pv 2)) (zb)))) (ze xO tk (hr.mono (by decide)) T.zar T.x9.kp T.yG (ja (za (pv 3)) (zb))))) (wb (kS hp rfl (jaW (ko (ja (za (pv 4)) (ja (za (pv 5)) (ja (za (pv 6)) (ja (za (pv 7)) (zb))))))) (jR (i := 11) yq.nd) (jc (xcg (i := 10) (pe_bm PySem.F.plainAttrs_list PySem.F.slot_list_extend PySem.F.type_list_extend qbZ (pv 10) (pa_cons (ze ybP tk (hr.mono (by decide)) T.zbP T.xba.kp T.kav (ja (za (pv 11)) (zb))) pa_nil))))) (wb (vaL (i := 10) (pe_bm PySem.F.plainAttrs_list PySem.F.slot_list_append PySem.F.type_list_append mt_append (pv 10) (pa_cons (za (pv 8)) pa_nil))) (wb (xcg (i := 10) (pe_bm PySem.F.plainAttrs_list PySem.F.slot_list_extend PySem.F.type_list_extend qbZ (pv 10) (pa_cons (ze ybP tk (hr.mono (by decide)) T.zbP T.xba.kp T.kav (ja (xi call_len xq T.zt PySem.boot_len (ja (za (pv 9)) (zb))) (zb))) pa_nil))) (wb (xcg (i := 10) (pe_bm PySem.F.plainAttrs_list PySem.F.slot_list_extend PySem.F.type_list_extend qbZ (pv 10) (pa_cons (za (pv 9)) pa_nil))) (jc (jh (kc (za (pv 10)) (ze xO tk (hr.mono (by decide)) T.zar T.x9.kp T.yG (ja (ze vaG tk (hr.mono (by decide)) T.ybq T.xaT.kp T.xaC (ja (za (pv 10)) (zb))) (zb))))))))))))
theorem jdz (T : Txt K mg Cl) : FnOk P w K mg base (L2.CX P w) 9 T.xbq T.jbW ["script"] (vB K Cl 1 FN.xam) := by
  have vcn := wb8 (P := P) (w := w) (base := base) T
  have ycn := yb8 (P := P) (w := w) (base := base) T
  have jcw := qcn (P := P) (w := w) (base := base) T
  have wcw := jcn (P := P) (w := w) (base := base) T
  have xcn := vb9 (P := P) (w := w) (base := base) T
  refine js (k := 8) T.wdE kbf rfl rfl fun cdv A outer s H E hr => ?_
  have tk := takes_of (X := cxOf (L2.CX P w) P w K mg base ["script", "draws", "row", "kept", "told", "due"] "law" (defScope vaK) T.xbq cdv A outer s H E) rfl rfl rfl rfl
  have hp : PassesOwn (model P w) (cxOf (L2.CX P w) P w K mg base ["script", "draws", "row", "kept", "told", "due"] "law" (defScope vaK) T.xbq cdv A outer s H E).A (cxOf (L2.CX P w) P w K mg base ["script", "draws", "row", "kept", "told", "due"] "law" (defScope vaK) T.xbq cdv A outer s H E).env (cxOf (L2.CX P w) P w K mg base ["script", "draws", "row", "kept", "told", "due"] "law" (defScope vaK) T.xbq cdv A outer s H E).xe := PassesOwn.leaving
  exact wb (yg (i := 1) kbf.nd (ze vcn tk (hr.mono (by decide)) T.kck T.vbF.kp T.waC (ja (za (pv 0)) (zb)))) (wb (yg (i := 2) kbf.nd (ze ycn tk (hr.mono (by decide)) T.qcl T.xbF.kp T.jx (ja (za (pv 1)) (zb)))) (wb (yg (i := 3) kbf.nd (zK call_list_of xdk T.zbE (by decide +kernel) (ja (za (pv 2)) (zb)))) (wb (yg (i := 4) kbf.nd (ze jcw tk (hr.mono (by decide)) T.ycu T.kbO.kp T.xcu (ja (za (pv 2)) (zb)))) (wb (yg (i := 5) kbf.nd (ze wcw tk (hr.mono (by decide)) T.kcu T.qbP.kp T.qcv (ja (za (pv 3)) (zb)))) (wb (ji (yaz (jal (vdr (qcU (jdr rfl T.qm T.vaV (by decide +kernel) (by decide) (za (pv 4))))) (jal (ve (op_neD hr.units) qbl (za (pv 4)) (za (pv 5)) (nomark _)) (wY (ve (op_neD hr.units) qbl (za (pv 2)) (za (pv 3)) (nomark _)))))) (jc (jh (wdC))) (qh)) (jc (jh (xdr (wcT (op_eqD hr.units) xS (xi call_len xq T.zt PySem.boot_len (ja (za (pv 5)) (zb))) (ya) (nomark _)) (ydr (wcT (op_eqD hr.units) xS (ze xcn tk (hr.mono (by decide)) T.jcl T.jbG.kp T.qbE (ja (za (pv 4)) (zb))) (za (pv 3)) (nomark _)))))))))))
end
theorem all_mk {P : Program} {w : World} {K : PySem.W.Frag} {h : Heap} {mg : Str → Option Value} {fa : Addr} (X : K.In h) (G : h.Ns mainGlobals mg) (hfa : mg "law" = some (.ref fa)) (hl : ∀ ns : List Int, ns.length ≤ 63 → FN.xam [scr ns] = some (.ret (.bool true)))
    {f0 : Addr} {od0 an0 : Option Addr} {sl0 : Array (Option Value)} {oc0 kV0 dc0 pm0 cd0 ct0 : Value}
    (a0 : PySem.W.nsIn K mainGlobals "_law_draws" = some (some (.ref f0))) (l0 : K.lookup f0 = some ⟨oc0, od0, .func (PySem.W.fnOf "_law_draws" "_law_draws" (defArgs vz) (defBody vz) (defScope vz) .none kV0 dc0 pm0 an0 cd0 ct0), sl0⟩) (c0 : PySem.W.codeIn K cd0 "_law_draws" = true) (k0 : PySem.W.keepIn K (.ref f0) = true)
    {f1 : Addr} {od1 an1 : Option Addr} {sl1 : Array (Option Value)} {oc1 kV1 dc1 pm1 cd1 ct1 : Value}
    (a1 : PySem.W.nsIn K mainGlobals "_law_steps" = some (some (.ref f1))) (l1 : K.lookup f1 = some ⟨oc1, od1, .func (PySem.W.fnOf "_law_steps" "_law_steps" (defArgs wx) (defBody wx) (defScope wx) .none kV1 dc1 pm1 an1 cd1 ct1), sl1⟩) (c1 : PySem.W.codeIn K cd1 "_law_steps" = true) (k1 : PySem.W.keepIn K (.ref f1) = true)
    {f2 : Addr} {od2 an2 : Option Addr} {sl2 : Array (Option Value)} {oc2 kV2 dc2 pm2 cd2 ct2 : Value}
    (a2 : PySem.W.nsIn K mainGlobals "_law_check" = some (some (.ref f2))) (l2 : K.lookup f2 = some ⟨oc2, od2, .func (PySem.W.fnOf "_law_check" "_law_check" (defArgs yz) (defBody yz) (defScope yz) .none kV2 dc2 pm2 an2 cd2 ct2), sl2⟩) (c2 : PySem.W.codeIn K cd2 "_law_check" = true) (k2 : PySem.W.keepIn K (.ref f2) = true)
    {f3 : Addr} {od3 an3 : Option Addr} {sl3 : Array (Option Value)} {oc3 kV3 dc3 pm3 cd3 ct3 : Value}
    (a3 : PySem.W.nsIn K mainGlobals "_law_writing" = some (some (.ref f3))) (l3 : K.lookup f3 = some ⟨oc3, od3, .func (PySem.W.fnOf "_law_writing" "_law_writing" (defArgs yo) (defBody yo) (defScope yo) .none kV3 dc3 pm3 an3 cd3 ct3), sl3⟩) (c3 : PySem.W.codeIn K cd3 "_law_writing" = true) (k3 : PySem.W.keepIn K (.ref f3) = true)
    {f4 : Addr} {od4 an4 : Option Addr} {sl4 : Array (Option Value)} {oc4 kV4 dc4 pm4 cd4 ct4 : Value}
    (a4 : PySem.W.nsIn K mainGlobals "_law_at" = some (some (.ref f4))) (l4 : K.lookup f4 = some ⟨oc4, od4, .func (PySem.W.fnOf "_law_at" "_law_at" (defArgs vK) (defBody vK) (defScope vK) .none kV4 dc4 pm4 an4 cd4 ct4), sl4⟩) (c4 : PySem.W.codeIn K cd4 "_law_at" = true) (k4 : PySem.W.keepIn K (.ref f4) = true)
    {f5 : Addr} {od5 an5 : Option Addr} {sl5 : Array (Option Value)} {oc5 kV5 dc5 pm5 cd5 ct5 : Value}
    (a5 : PySem.W.nsIn K mainGlobals "_law_wide" = some (some (.ref f5))) (l5 : K.lookup f5 = some ⟨oc5, od5, .func (PySem.W.fnOf "_law_wide" "_law_wide" (defArgs xB) (defBody xB) (defScope xB) .none kV5 dc5 pm5 an5 cd5 ct5), sl5⟩) (c5 : PySem.W.codeIn K cd5 "_law_wide" = true) (k5 : PySem.W.keepIn K (.ref f5) = true)
    {f6 : Addr} {od6 an6 : Option Addr} {sl6 : Array (Option Value)} {oc6 kV6 dc6 pm6 cd6 ct6 : Value}
    (a6 : PySem.W.nsIn K mainGlobals "_law_leaf" = some (some (.ref f6))) (l6 : K.lookup f6 = some ⟨oc6, od6, .func (PySem.W.fnOf "_law_leaf" "_law_leaf" (defArgs kz) (defBody kz) (defScope kz) .none kV6 dc6 pm6 an6 cd6 ct6), sl6⟩) (c6 : PySem.W.codeIn K cd6 "_law_leaf" = true) (k6 : PySem.W.keepIn K (.ref f6) = true)
    {f7 : Addr} {od7 an7 : Option Addr} {sl7 : Array (Option Value)} {oc7 kV7 dc7 pm7 cd7 ct7 : Value}
    (a7 : PySem.W.nsIn K mainGlobals "_law_input" = some (some (.ref f7))) (l7 : K.lookup f7 = some ⟨oc7, od7, .func (PySem.W.fnOf "_law_input" "_law_input" (defArgs vp) (defBody vp) (defScope vp) .none kV7 dc7 pm7 an7 cd7 ct7), sl7⟩) (c7 : PySem.W.codeIn K cd7 "_law_input" = true) (k7 : PySem.W.keepIn K (.ref f7) = true)
    {f8 : Addr} {od8 an8 : Option Addr} {sl8 : Array (Option Value)} {oc8 kV8 dc8 pm8 cd8 ct8 : Value}
    (a8 : PySem.W.nsIn K mainGlobals "number_of" = some (some (.ref f8))) (l8 : K.lookup f8 = some ⟨oc8, od8, .func (PySem.W.fnOf "number_of" "number_of" (defArgs kB) (defBody kB) (defScope kB) .none kV8 dc8 pm8 an8 cd8 ct8), sl8⟩) (c8 : PySem.W.codeIn K cd8 "number_of" = true) (k8 : PySem.W.keepIn K (.ref f8) = true)
    {f9 : Addr} {od9 an9 : Option Addr} {sl9 : Array (Option Value)} {oc9 kV9 dc9 pm9 cd9 ct9 : Value}
    (a9 : PySem.W.nsIn K mainGlobals "read_front" = some (some (.ref f9))) (l9 : K.lookup f9 = some ⟨oc9, od9, .func (PySem.W.fnOf "read_front" "read_front" (defArgs yp) (defBody yp) (defScope yp) .none kV9 dc9 pm9 an9 cd9 ct9), sl9⟩) (c9 : PySem.W.codeIn K cd9 "read_front" = true) (k9 : PySem.W.keepIn K (.ref f9) = true)
    {f10 : Addr} {kdJ qdK : Option Addr} {zdK : Array (Option Value)} {jdK wdK vdK ydK wdz xdK : Value}
    (a10 : PySem.W.nsIn K mainGlobals "end_of_steps" = some (some (.ref f10))) (l10 : K.lookup f10 = some ⟨jdK, kdJ, .func (PySem.W.fnOf "end_of_steps" "end_of_steps" (defArgs zv) (defBody zv) (defScope zv) .none wdK vdK ydK qdK wdz xdK), zdK⟩) (c10 : PySem.W.codeIn K wdz "end_of_steps" = true) (k10 : PySem.W.keepIn K (.ref f10) = true)
    {f11 : Addr} {kdK qdL : Option Addr} {zdL : Array (Option Value)} {jdL wdL vdL ydL vdz xdL : Value}
    (a11 : PySem.W.nsIn K mainGlobals "get_steps" = some (some (.ref f11))) (l11 : K.lookup f11 = some ⟨jdL, kdK, .func (PySem.W.fnOf "get_steps" "get_steps" (defArgs qC) (defBody qC) (defScope qC) .none wdL vdL ydL qdL vdz xdL), zdL⟩) (c11 : PySem.W.codeIn K vdz "get_steps" = true) (k11 : PySem.W.keepIn K (.ref f11) = true)
    {f12 : Addr} {kdL qdM : Option Addr} {zdM : Array (Option Value)} {jdM wdM vdM ydM ydz xdM : Value}
    (a12 : PySem.W.nsIn K mainGlobals "step_up_to" = some (some (.ref f12))) (l12 : K.lookup f12 = some ⟨jdM, kdL, .func (PySem.W.fnOf "step_up_to" "step_up_to" (defArgs qA) (defBody qA) (defScope qA) .none wdM vdM ydM qdM ydz xdM), zdM⟩) (c12 : PySem.W.codeIn K ydz "step_up_to" = true) (k12 : PySem.W.keepIn K (.ref f12) = true)
    {f13 : Addr} {kdM qdN : Option Addr} {zdN : Array (Option Value)} {jdN wdN vdN ydN xdz xdN : Value}
    (a13 : PySem.W.nsIn K mainGlobals "read_place" = some (some (.ref f13))) (l13 : K.lookup f13 = some ⟨jdN, kdM, .func (PySem.W.fnOf "read_place" "read_place" (defArgs xp) (defBody xp) (defScope xp) .none wdN vdN ydN qdN xdz xdN), zdN⟩) (c13 : PySem.W.codeIn K xdz "read_place" = true) (k13 : PySem.W.keepIn K (.ref f13) = true)
    {f14 : Addr} {kdN qdO : Option Addr} {zdO : Array (Option Value)} {jdO wdO vdO ydO kdz xdO : Value}
    (a14 : PySem.W.nsIn K mainGlobals "read_body" = some (some (.ref f14))) (l14 : K.lookup f14 = some ⟨jdO, kdN, .func (PySem.W.fnOf "read_body" "read_body" (defArgs yr) (defBody yr) (defScope yr) .none wdO vdO ydO qdO kdz xdO), zdO⟩) (c14 : PySem.W.codeIn K kdz "read_body" = true) (k14 : PySem.W.keepIn K (.ref f14) = true)
    {f15 : Addr} {kdO qdP : Option Addr} {zdP : Array (Option Value)} {jdP wdP vdP ydP qdA xdP : Value}
    (a15 : PySem.W.nsIn K mainGlobals "four_bytes" = some (some (.ref f15))) (l15 : K.lookup f15 = some ⟨jdP, kdO, .func (PySem.W.fnOf "four_bytes" "four_bytes" (defArgs zA) (defBody zA) (defScope zA) .none wdP vdP ydP qdP qdA xdP), zdP⟩) (c15 : PySem.W.codeIn K qdA "four_bytes" = true) (k15 : PySem.W.keepIn K (.ref f15) = true)
    {f16 : Addr} {kdP qdQ : Option Addr} {zdQ : Array (Option Value)} {jdQ wdQ vdQ ydQ zdA xdQ : Value}
    (a16 : PySem.W.nsIn K mainGlobals "checksum_on" = some (some (.ref f16))) (l16 : K.lookup f16 = some ⟨jdQ, kdP, .func (PySem.W.fnOf "checksum_on" "checksum_on" (defArgs yx) (defBody yx) (defScope yx) .none wdQ vdQ ydQ qdQ zdA xdQ), zdQ⟩) (c16 : PySem.W.codeIn K zdA "checksum_on" = true) (k16 : PySem.W.keepIn K (.ref f16) = true)
    {f17 : Addr} {kdQ qdR : Option Addr} {zdR : Array (Option Value)} {jdR wdR vdR ydR jdA xdR : Value}
    (a17 : PySem.W.nsIn K mainGlobals "checksum" = some (some (.ref f17))) (l17 : K.lookup f17 = some ⟨jdR, kdQ, .func (PySem.W.fnOf "checksum" "checksum" (defArgs zG) (defBody zG) (defScope zG) .none wdR vdR ydR qdR jdA xdR), zdR⟩) (c17 : PySem.W.codeIn K jdA "checksum" = true) (k17 : PySem.W.keepIn K (.ref f17) = true)
    {f18 : Addr} {kdR qdS : Option Addr} {zdS : Array (Option Value)} {jdS wdS vdS ydS wdA xdS : Value}
    (a18 : PySem.W.nsIn K mainGlobals "read_leaf" = some (some (.ref f18))) (l18 : K.lookup f18 = some ⟨jdS, kdR, .func (PySem.W.fnOf "read_leaf" "read_leaf" (defArgs xr) (defBody xr) (defScope xr) .none wdS vdS ydS qdS wdA xdS), zdS⟩) (c18 : PySem.W.codeIn K wdA "read_leaf" = true) (k18 : PySem.W.keepIn K (.ref f18) = true)
    {f19 : Addr} {kdS qdT : Option Addr} {zdT : Array (Option Value)} {jdT wdT vdT ydT vdA xdT : Value}
    (a19 : PySem.W.nsIn K mainGlobals "_law_words" = some (some (.ref f19))) (l19 : K.lookup f19 = some ⟨jdT, kdS, .func (PySem.W.fnOf "_law_words" "_law_words" (defArgs xN) (defBody xN) (defScope xN) .none wdT vdT ydT qdT vdA xdT), zdT⟩) (c19 : PySem.W.codeIn K vdA "_law_words" = true) (k19 : PySem.W.keepIn K (.ref f19) = true)
    {f20 : Addr} {kdT qdU : Option Addr} {zdU : Array (Option Value)} {jdU wdU vdU ydU ydA xdU : Value}
    (a20 : PySem.W.nsIn K mainGlobals "_law_told" = some (some (.ref f20))) (l20 : K.lookup f20 = some ⟨jdU, kdT, .func (PySem.W.fnOf "_law_told" "_law_told" (defArgs zC) (defBody zC) (defScope zC) .none wdU vdU ydU qdU ydA xdU), zdU⟩) (c20 : PySem.W.codeIn K ydA "_law_told" = true) (k20 : PySem.W.keepIn K (.ref f20) = true)
    {f21 : Addr} {kdU qdV : Option Addr} {zdV : Array (Option Value)} {jdV wdV vdV ydV xdA xdV : Value}
    (a21 : PySem.W.nsIn K mainGlobals "_law_number" = some (some (.ref f21))) (l21 : K.lookup f21 = some ⟨jdV, kdU, .func (PySem.W.fnOf "_law_number" "_law_number" (defArgs qy) (defBody qy) (defScope qy) .none wdV vdV ydV qdV xdA xdV), zdV⟩) (c21 : PySem.W.codeIn K xdA "_law_number" = true) (k21 : PySem.W.keepIn K (.ref f21) = true)
    {f22 : Addr} {kdV qdW : Option Addr} {zdW : Array (Option Value)} {jdW wdW vdW ydW kdA xdW : Value}
    (a22 : PySem.W.nsIn K mainGlobals "_law_read" = some (some (.ref f22))) (l22 : K.lookup f22 = some ⟨jdW, kdV, .func (PySem.W.fnOf "_law_read" "_law_read" (defArgs zy) (defBody zy) (defScope zy) .none wdW vdW ydW qdW kdA xdW), zdW⟩) (c22 : PySem.W.codeIn K kdA "_law_read" = true) (k22 : PySem.W.keepIn K (.ref f22) = true)
    {f23 : Addr} {kdW qdX : Option Addr} {zdX : Array (Option Value)} {jdX wdX vdX ydX qdB xdX : Value}
    (a23 : PySem.W.nsIn K mainGlobals "check_fields" = some (some (.ref f23))) (l23 : K.lookup f23 = some ⟨jdX, kdW, .func (PySem.W.fnOf "check_fields" "check_fields" (defArgs jv) (defBody jv) (defScope jv) .none wdX vdX ydX qdX qdB xdX), zdX⟩) (c23 : PySem.W.codeIn K qdB "check_fields" = true) (k23 : PySem.W.keepIn K (.ref f23) = true)
    {f24 : Addr} {kdX qdY : Option Addr} {zdY : Array (Option Value)} {jdY wdY vdY ydY zdB xdY : Value}
    (a24 : PySem.W.nsIn K mainGlobals "put_steps" = some (some (.ref f24))) (l24 : K.lookup f24 = some ⟨jdY, kdX, .func (PySem.W.fnOf "put_steps" "put_steps" (defArgs jC) (defBody jC) (defScope jC) .none wdY vdY ydY qdY zdB xdY), zdY⟩) (c24 : PySem.W.codeIn K zdB "put_steps" = true) (k24 : PySem.W.keepIn K (.ref f24) = true)
    {f25 : Addr} {kdY qdZ : Option Addr} {zdZ : Array (Option Value)} {jdZ wdZ vdZ ydZ jdB xdZ : Value}
    (a25 : PySem.W.nsIn K mainGlobals "write_leaf" = some (some (.ref f25))) (l25 : K.lookup f25 = some ⟨jdZ, kdY, .func (PySem.W.fnOf "write_leaf" "write_leaf" (defArgs jA) (defBody jA) (defScope jA) .none wdZ vdZ ydZ qdZ jdB xdZ), zdZ⟩) (c25 : PySem.W.codeIn K jdB "write_leaf" = true) (k25 : PySem.W.keepIn K (.ref f25) = true)
    {f26 : Addr} {kdZ qd0 : Option Addr} {zd0 : Array (Option Value)} {jd0 wd0 vd0 yd0 vdB xd0 : Value}
    (a26 : PySem.W.nsIn K mainGlobals "law" = some (some (.ref f26))) (l26 : K.lookup f26 = some ⟨jd0, kdZ, .func (PySem.W.fnOf "law" "law" (defArgs vaK) (defBody vaK) (defScope vaK) .none wd0 vd0 yd0 qd0 vdB xd0), zd0⟩) (c26 : PySem.W.codeIn K vdB "law" = true) (k26 : PySem.W.keepIn K (.ref f26) = true)
    (qt : PySem.W.nsIn K mainGlobals "range" = some none)
    (xbM : PySem.W.nsIn K mainGlobals "min" = some none)
    (zt : PySem.W.nsIn K mainGlobals "len" = some none)
    (zbW : PySem.W.nsIn K mainGlobals "abs" = some none)
    (zay : PySem.W.nsIn K mainGlobals "int" = some none)
    (qm : PySem.W.nsIn K mainGlobals "isinstance" = some none)
    (kbM : PySem.W.nsIn K mainGlobals "sum" = some none)
    (vaV : PySem.W.nsIn K mainGlobals "tuple" = some none)
    (zaw : PySem.W.nsIn K mainGlobals "enumerate" = some none)
    (zbE : PySem.W.nsIn K mainGlobals "list" = some none)
    {qcK : Tok} (xcJ : PySem.W.nsIn K mainGlobals "END" = some (some (.int 4 qcK)))
    {vb2 : Tok} (qb2 : PySem.W.nsIn K mainGlobals "FRONT" = some (some (.int 9 vb2)))
    {ka1 : Tok} (jaX : PySem.W.nsIn K mainGlobals "MOST_STEPS" = some (some (.int 6 ka1)))
    {qa2 : Tok} (waX : PySem.W.nsIn K mainGlobals "STEP_LIMIT" = some (some (.int 1099511627776 qa2)))
    {kba : Tok} (wa7 : PySem.W.nsIn K mainGlobals "TOP_TRACK" = some (some (.int 15 kba)))
    {xaQ : Tok} (waN : PySem.W.nsIn K mainGlobals "TOP_ORDINAL" = some (some (.int 16777215 xaQ)))
    {kbq : Tok} (qbm : PySem.W.nsIn K mainGlobals "TOP_TIME" = some (some (.int 1099511627775 kbq)))
    {zbr : Tok} (zbm : PySem.W.nsIn K mainGlobals "TOP_SPAN" = some (some (.int 16777215 zbr)))
    {wbr : Tok} (jbm : PySem.W.nsIn K mainGlobals "TOP_BODY" = some (some (.int 1024 wbr)))
    {za2 : Addr} {kcY : Option Addr} {qcZ : Nat} {zcZ : Array (Option Value)} {jcL wcL vcL ycL xcL kcL qcM zcM jcM wcM vcw ycw xcw kcw qcx zcx : Tok} (qbS : PySem.W.nsIn K mainGlobals "HALVES" = some (some (.ref za2))) (zbS : K.lookup za2 = some ⟨.type "tuple", kcY, .seq #[.int 0 jcL, .int 498536548 wcL, .int 997073096 vcL, .int 651767980 ycL, .int 1994146192 xcL, .int 1802195444 kcL, .int 1303535960 qcM, .int 1342533948 zcM, .int 3988292384 jcM, .int 4027552580 wcM, .int 3604390888 vcw, .int 3412177804 ycw, .int 2607071920 xcw, .int 2262029012 kcw, .int 2685067896 qcx, .int 3183342108 zcx] qcZ, zcZ⟩)
    {ybG : Tok} (jbE : PySem.W.nsIn K mainGlobals "TOP_KEY" = some (some (.int 1 ybG)))
    {ybr : Tok} (wbm : PySem.W.nsIn K mainGlobals "TOP_WORD" = some (some (.int 4294967295 ybr)))
    {fI : Addr} {odI anI : Option Addr} {slI : Array (Option Value)} {ocI kVI dcI pmI cdI ctI : Value} (lI : K.lookup fI = some ⟨ocI, odI, .func (PySem.W.fnOf "__init__" "SpoolboxError.__init__" (defArgs qbg) (defBody qbg) (defScope qbg) .none kVI dcI pmI anI cdI ctI), slI⟩) (cI : PySem.W.codeIn K cdI "SpoolboxError.__init__" = true) (kI : PySem.W.keepIn K (.ref fI) = true) (tI : PySem.W.typeIn K (.ref fI) = some (.type "function"))
    {qg : Addr} {vcM jcZ : Str} {wcZ : Addr} {ycM jbX : List Value} {xcM : List Str} {jcx : List Value} {kcM : Bool} {wcx : Option Bool} {qcN : Option Addr} {zcN jcN wcN vcN ycN : Option Value}
    (xaS : PySem.W.nsIn K mainGlobals "BadKind" = some (some (.ref qg))) (vbm : K.lookup qg = some (excClassObj vcM jcZ qg wcZ ycM jbX true xcM jcx kcM wcx qcN zcN jcN wcN vcN ycN "ValueError.__new__")) (ybm : PySem.HandSPX.refsVE jbX = true)
    (xbm : PySem.W.findIn K (.ref qg) "__setattr__" = some (some (.builtin "object.__setattr__"))) (xas : PySem.W.subIn K (.ref qg) (.type "BaseException") = some true) (kbm : PySem.W.typeIn K (.ref qg) = some (.type "type")) (qbn : PySem.W.keepIn K (.ref qg) = true)
    (kaS : PySem.W.findIn K (.ref qg) "at" = some none) (zbn : PySem.W.findIn K (.ref qg) "__init__" = some (some (.ref fI))) (zaD : PySem.W.findIn K (.ref qg) "__getattribute__" = some (some (.builtin "BaseException.__getattribute__"))) (jaD : PySem.W.findIn K (.ref qg) "__getattr__" = some none) (waD : PySem.W.hasDictIn K qg = true)
    {zf : Addr} {vcx xcN : Str} {kcN : Addr} {ycx xbP : List Value} {xcx : List Str} {kcn : List Value} {kcx : Bool} {qco : Option Bool} {qcy : Option Addr} {zcy jcy wcy vcy ycy : Option Value}
    (xaJ : PySem.W.nsIn K mainGlobals "BadStamp" = some (some (.ref zf))) (va7 : K.lookup zf = some (excClassObj vcx xcN zf kcN ycx xbP true xcx kcn kcx qco qcy zcy jcy wcy vcy ycy "ValueError.__new__")) (ya7 : PySem.HandSPX.refsVE xbP = true)
    (xa7 : PySem.W.findIn K (.ref zf) "__setattr__" = some (some (.builtin "object.__setattr__"))) (wag : PySem.W.subIn K (.ref zf) (.type "BaseException") = some true) (ka7 : PySem.W.typeIn K (.ref zf) = some (.type "type")) (qa8 : PySem.W.keepIn K (.ref zf) = true)
    (kaJ : PySem.W.findIn K (.ref zf) "at" = some none) (za8 : PySem.W.findIn K (.ref zf) "__init__" = some (some (.ref fI))) (jaw : PySem.W.findIn K (.ref zf) "__getattribute__" = some (some (.builtin "BaseException.__getattribute__"))) (waw : PySem.W.findIn K (.ref zf) "__getattr__" = some none) (vaw : PySem.W.hasDictIn K zf = true)
    {wd : Addr} {zco xcy : Str} {kcy : Addr} {jco vbK : List Value} {wco : List Str} {yb9 : List Value} {vco : Bool} {xb9 : Option Bool} {yco : Option Addr} {xco kco qcp zcp jcp : Option Value}
    (vaD : PySem.W.nsIn K mainGlobals "BadNumber" = some (some (.ref wd))) (vaX : K.lookup wd = some (excClassObj zco xcy wd kcy jco vbK true wco yb9 vco xb9 yco xco kco qcp zcp jcp "ValueError.__new__")) (yaX : PySem.HandSPX.refsVE vbK = true)
    (xaX : PySem.W.findIn K (.ref wd) "__setattr__" = some (some (.builtin "object.__setattr__"))) (q0 : PySem.W.subIn K (.ref wd) (.type "BaseException") = some true) (kaX : PySem.W.typeIn K (.ref wd) = some (.type "type")) (qaY : PySem.W.keepIn K (.ref wd) = true)
    (yaD : PySem.W.findIn K (.ref wd) "at" = some none) (zaY : PySem.W.findIn K (.ref wd) "__init__" = some (some (.ref fI))) (kam : PySem.W.findIn K (.ref wd) "__getattribute__" = some (some (.builtin "BaseException.__getattribute__"))) (qan : PySem.W.findIn K (.ref wd) "__getattr__" = some none) (zan : PySem.W.hasDictIn K wd = true)
    {vg : Addr} {wcp qcz : Str} {zcz : Addr} {vcp ybK : List Value} {ycp : List Str} {kb9 : List Value} {xcp : Bool} {qca : Option Bool} {kcp : Option Addr} {qcq zcq jcq wcq vcq : Option Value}
    (xaD : PySem.W.nsIn K mainGlobals "Truncated" = some (some (.ref vg))) (jaY : K.lookup vg = some (excClassObj wcp qcz vg zcz vcp ybK true ycp kb9 xcp qca kcp qcq zcq jcq wcq vcq "ValueError.__new__")) (waY : PySem.HandSPX.refsVE ybK = true)
    (vaY : PySem.W.findIn K (.ref vg) "__setattr__" = some (some (.builtin "object.__setattr__"))) (z0 : PySem.W.subIn K (.ref vg) (.type "BaseException") = some true) (yaY : PySem.W.typeIn K (.ref vg) = some (.type "type")) (xaY : PySem.W.keepIn K (.ref vg) = true)
    (kaD : PySem.W.findIn K (.ref vg) "at" = some none) (kaY : PySem.W.findIn K (.ref vg) "__init__" = some (some (.ref fI))) (jan : PySem.W.findIn K (.ref vg) "__getattribute__" = some (some (.builtin "BaseException.__getattribute__"))) (wan : PySem.W.findIn K (.ref vg) "__getattr__" = some none) (van : PySem.W.hasDictIn K vg = true)
    {yf : Addr} {zca ycq : Str} {xcq : Addr} {jca kbw : List Value} {wca : List Str} {kb3 : List Value} {vca : Bool} {qb4 : Option Bool} {yca : Option Addr} {xca kca qcb zcb jcb : Option Value}
    (jay : PySem.W.nsIn K mainGlobals "OutOfRange" = some (some (.ref yf))) (vaN : K.lookup yf = some (excClassObj zca ycq yf xcq jca kbw true wca kb3 vca qb4 yca xca kca qcb zcb jcb "ValueError.__new__")) (yaN : PySem.HandSPX.refsVE kbw = true)
    (xaN : PySem.W.findIn K (.ref yf) "__setattr__" = some (some (.builtin "object.__setattr__"))) (yR : PySem.W.subIn K (.ref yf) (.type "BaseException") = some true) (kaN : PySem.W.typeIn K (.ref yf) = some (.type "type")) (qaO : PySem.W.keepIn K (.ref yf) = true)
    (vay : PySem.W.findIn K (.ref yf) "at" = some none) (zaO : PySem.W.findIn K (.ref yf) "__init__" = some (some (.ref fI))) (vaf : PySem.W.findIn K (.ref yf) "__getattribute__" = some (some (.builtin "BaseException.__getattribute__"))) (yaf : PySem.W.findIn K (.ref yf) "__getattr__" = some none) (xaf : PySem.W.hasDictIn K yf = true)
    {we : Addr} {zb4 wcb : Str} {vcb : Addr} {jb4 zbk : List Value} {wb4 : List Str} {wbX : List Value} {vb4 : Bool} {vbX : Option Bool} {yb4 : Option Addr} {xb4 kb4 qb5 zb5 jb5 : Option Value}
    (kas : PySem.W.nsIn K mainGlobals "LooseNumber" = some (some (.ref we))) (xaH : K.lookup we = some (excClassObj zb4 wcb we vcb jb4 zbk true wb4 wbX vb4 vbX yb4 xb4 kb4 qb5 zb5 jb5 "ValueError.__new__")) (kaH : PySem.HandSPX.refsVE zbk = true)
    (qaI : PySem.W.findIn K (.ref we) "__setattr__" = some (some (.builtin "object.__setattr__"))) (wL : PySem.W.subIn K (.ref we) (.type "BaseException") = some true) (zaI : PySem.W.typeIn K (.ref we) = some (.type "type")) (jaI : PySem.W.keepIn K (.ref we) = true)
    (qat : PySem.W.findIn K (.ref we) "at" = some none) (waI : PySem.W.findIn K (.ref we) "__init__" = some (some (.ref fI))) (j0 : PySem.W.findIn K (.ref we) "__getattribute__" = some (some (.builtin "BaseException.__getattribute__"))) (y0 : PySem.W.findIn K (.ref we) "__getattr__" = some none) (j1 : PySem.W.hasDictIn K we = true)
    {jf : Addr} {jcz qcO : Str} {zcO : Addr} {wcz kbP : List Value} {vcz : List Str} {kcq : List Value} {ycz : Bool} {qcr : Option Bool} {xcz : Option Addr} {kcz qcA zcA jcA wcA : Option Value}
    (qaK : PySem.W.nsIn K mainGlobals "BadTrack" = some (some (.ref jf))) (ja8 : K.lookup jf = some (excClassObj jcz qcO jf zcO wcz kbP true vcz kcq ycz qcr xcz kcz qcA zcA jcA wcA "ValueError.__new__")) (wa8 : PySem.HandSPX.refsVE kbP = true)
    (va8 : PySem.W.findIn K (.ref jf) "__setattr__" = some (some (.builtin "object.__setattr__"))) (vag : PySem.W.subIn K (.ref jf) (.type "BaseException") = some true) (ya8 : PySem.W.typeIn K (.ref jf) = some (.type "type")) (xa8 : PySem.W.keepIn K (.ref jf) = true)
    (zaK : PySem.W.findIn K (.ref jf) "at" = some none) (ka8 : PySem.W.findIn K (.ref jf) "__init__" = some (some (.ref fI))) (yaw : PySem.W.findIn K (.ref jf) "__getattribute__" = some (some (.builtin "BaseException.__getattribute__"))) (xaw : PySem.W.findIn K (.ref jf) "__getattr__" = some none) (kaw : PySem.W.hasDictIn K jf = true)
    {qd : Addr} {ycb zcr : Str} {jcr : Addr} {xcb qbx : List Value} {kcb : List Str} {wb5 : List Value} {qcc : Bool} {vb5 : Option Bool} {zcc : Option Addr} {jcc wcc vcc ycc xcc : Option Value}
    (yay : PySem.W.nsIn K mainGlobals "BadOrdinal" = some (some (.ref qd))) (jaO : K.lookup qd = some (excClassObj ycb zcr qd jcr xcb qbx true kcb wb5 qcc vb5 zcc jcc wcc vcc ycc xcc "ValueError.__new__")) (waO : PySem.HandSPX.refsVE qbx = true)
    (vaO : PySem.W.findIn K (.ref qd) "__setattr__" = some (some (.builtin "object.__setattr__"))) (xR : PySem.W.subIn K (.ref qd) (.type "BaseException") = some true) (yaO : PySem.W.typeIn K (.ref qd) = some (.type "type")) (xaO : PySem.W.keepIn K (.ref qd) = true)
    (xay : PySem.W.findIn K (.ref qd) "at" = some none) (kaO : PySem.W.findIn K (.ref qd) "__init__" = some (some (.ref fI))) (kaf : PySem.W.findIn K (.ref qd) "__getattribute__" = some (some (.builtin "BaseException.__getattribute__"))) (qag : PySem.W.findIn K (.ref qd) "__getattr__" = some none) (zag : PySem.W.hasDictIn K qd = true)
    {zg : Addr} {jcO vcZ : Str} {ycZ : Addr} {wcO ybX : List Value} {vcO : List Str} {vcA : List Value} {ycO : Bool} {ycA : Option Bool} {xcO : Option Addr} {kcO qcP zcP jcP wcP : Option Value}
    (qaT : PySem.W.nsIn K mainGlobals "BadTime" = some (some (.ref zg))) (jbn : K.lookup zg = some (excClassObj jcO vcZ zg ycZ wcO ybX true vcO vcA ycO ycA xcO kcO qcP zcP jcP wcP "ValueError.__new__")) (wbn : PySem.HandSPX.refsVE ybX = true)
    (vbn : PySem.W.findIn K (.ref zg) "__setattr__" = some (some (.builtin "object.__setattr__"))) (zat : PySem.W.subIn K (.ref zg) (.type "BaseException") = some true) (ybn : PySem.W.typeIn K (.ref zg) = some (.type "type")) (xbn : PySem.W.keepIn K (.ref zg) = true)
    (zaT : PySem.W.findIn K (.ref zg) "at" = some none) (kbn : PySem.W.findIn K (.ref zg) "__init__" = some (some (.ref fI))) (qaE : PySem.W.findIn K (.ref zg) "__getattribute__" = some (some (.builtin "BaseException.__getattribute__"))) (zaE : PySem.W.findIn K (.ref zg) "__getattr__" = some none) (jaE : PySem.W.hasDictIn K zg = true)
    {jg : Addr} {vcP xcZ : Str} {kcZ : Addr} {ycP xbX : List Value} {xcP : List Str} {xcA : List Value} {kcP : Bool} {kcA : Option Bool} {qcQ : Option Addr} {zcQ jcQ wcQ vcQ ycQ : Option Value}
    (jaT : PySem.W.nsIn K mainGlobals "BadSpan" = some (some (.ref jg))) (qbo : K.lookup jg = some (excClassObj vcP xcZ jg kcZ ycP xbX true xcP xcA kcP kcA qcQ zcQ jcQ wcQ vcQ ycQ "ValueError.__new__")) (zbo : PySem.HandSPX.refsVE xbX = true)
    (jbo : PySem.W.findIn K (.ref jg) "__setattr__" = some (some (.builtin "object.__setattr__"))) (jat : PySem.W.subIn K (.ref jg) (.type "BaseException") = some true) (wbo : PySem.W.typeIn K (.ref jg) = some (.type "type")) (vbo : PySem.W.keepIn K (.ref jg) = true)
    (waT : PySem.W.findIn K (.ref jg) "at" = some none) (ybo : PySem.W.findIn K (.ref jg) "__init__" = some (some (.ref fI))) (waE : PySem.W.findIn K (.ref jg) "__getattribute__" = some (some (.builtin "BaseException.__getattribute__"))) (vaE : PySem.W.findIn K (.ref jg) "__getattr__" = some none) (yaE : PySem.W.hasDictIn K jg = true)
    {wg : Addr} {xcQ qc0 : Str} {zc0 : Addr} {kcQ kbX : List Value} {qcR : List Str} {qcB : List Value} {zcR : Bool} {zcB : Option Bool} {jcR : Option Addr} {wcR vcR ycR xcR kcR : Option Value}
    (vaT : PySem.W.nsIn K mainGlobals "BadSize" = some (some (.ref wg))) (xbo : K.lookup wg = some (excClassObj xcQ qc0 wg zc0 kcQ kbX true qcR qcB zcR zcB jcR wcR vcR ycR xcR kcR "ValueError.__new__")) (kbo : PySem.HandSPX.refsVE kbX = true)
    (qbp : PySem.W.findIn K (.ref wg) "__setattr__" = some (some (.builtin "object.__setattr__"))) (wat : PySem.W.subIn K (.ref wg) (.type "BaseException") = some true) (zbp : PySem.W.typeIn K (.ref wg) = some (.type "type")) (jbp : PySem.W.keepIn K (.ref wg) = true)
    (yaT : PySem.W.findIn K (.ref wg) "at" = some none) (wbp : PySem.W.findIn K (.ref wg) "__init__" = some (some (.ref fI))) (xaE : PySem.W.findIn K (.ref wg) "__getattribute__" = some (some (.builtin "BaseException.__getattribute__"))) (kaE : PySem.W.findIn K (.ref wg) "__getattr__" = some none) (qaF : PySem.W.hasDictIn K wg = true)
    {vd : Addr} {wcr jcB : Str} {wcB : Addr} {vcr xbK : List Value} {ycr : List Str} {kcc : List Value} {xcr : Bool} {qcd : Option Bool} {kcr : Option Addr} {qcs zcs jcs wcs ycs : Option Value}
    (zaF : PySem.W.nsIn K mainGlobals "ShortBody" = some (some (.ref vd))) (qaZ : K.lookup vd = some (excClassObj wcr jcB vd wcB vcr xbK true ycr kcc xcr qcd kcr qcs zcs jcs wcs ycs "ValueError.__new__")) (zaZ : PySem.HandSPX.refsVE xbK = true)
    (jaZ : PySem.W.findIn K (.ref vd) "__setattr__" = some (some (.builtin "object.__setattr__"))) (y1 : PySem.W.subIn K (.ref vd) (.type "BaseException") = some true) (waZ : PySem.W.typeIn K (.ref vd) = some (.type "type")) (vaZ : PySem.W.keepIn K (.ref vd) = true)
    (jaF : PySem.W.findIn K (.ref vd) "at" = some none) (yaZ : PySem.W.findIn K (.ref vd) "__init__" = some (some (.ref fI))) (yan : PySem.W.findIn K (.ref vd) "__getattribute__" = some (some (.builtin "BaseException.__getattribute__"))) (xan : PySem.W.findIn K (.ref vd) "__getattr__" = some none) (kan : PySem.W.hasDictIn K vd = true)
    {zh : Addr} {jc0 yc7 : Str} {xc7 : Addr} {wc0 jb7 : List Value} {vc0 : List Str} {qcS : List Value} {yc0 : Bool} {zcS : Option Bool} {xc0 : Option Addr} {kc0 qc1 zc1 jc1 wc1 : Option Value}
    (ja6 : PySem.W.nsIn K mainGlobals "BadKey" = some (some (.ref zh))) (wbE : K.lookup zh = some (excClassObj jc0 yc7 zh xc7 wc0 jb7 true vc0 qcS yc0 zcS xc0 kc0 qc1 zc1 jc1 wc1 "ValueError.__new__")) (vbE : PySem.HandSPX.refsVE jb7 = true)
    (ybE : PySem.W.findIn K (.ref zh) "__setattr__" = some (some (.builtin "object.__setattr__"))) (qaB : PySem.W.subIn K (.ref zh) (.type "BaseException") = some true) (xbE : PySem.W.typeIn K (.ref zh) = some (.type "type")) (kbE : PySem.W.keepIn K (.ref zh) = true)
    (wa6 : PySem.W.findIn K (.ref zh) "at" = some none) (qbF : PySem.W.findIn K (.ref zh) "__init__" = some (some (.ref fI))) (zaM : PySem.W.findIn K (.ref zh) "__getattribute__" = some (some (.builtin "BaseException.__getattribute__"))) (jaM : PySem.W.findIn K (.ref zh) "__getattr__" = some none) (waM : PySem.W.hasDictIn K zh = true)
    {vf : Addr} {vcB jcS : Str} {wcS : Addr} {ycB qbQ : List Value} {xcB : List Str} {xcs : List Value} {kcB : Bool} {kcs : Option Bool} {qcC : Option Addr} {zcC jcC wcC vcC ycC : Option Value}
    (jaK : PySem.W.nsIn K mainGlobals "BadCheck" = some (some (.ref vf))) (qa9 : K.lookup vf = some (excClassObj vcB jcS vf wcS ycB qbQ true xcB xcs kcB kcs qcC zcC jcC wcC vcC ycC "ValueError.__new__")) (za9 : PySem.HandSPX.refsVE qbQ = true)
    (ja9 : PySem.W.findIn K (.ref vf) "__setattr__" = some (some (.builtin "object.__setattr__"))) (yag : PySem.W.subIn K (.ref vf) (.type "BaseException") = some true) (wa9 : PySem.W.typeIn K (.ref vf) = some (.type "type")) (va9 : PySem.W.keepIn K (.ref vf) = true)
    (waK : PySem.W.findIn K (.ref vf) "at" = some none) (ya9 : PySem.W.findIn K (.ref vf) "__init__" = some (some (.ref fI))) (qax : PySem.W.findIn K (.ref vf) "__getattribute__" = some (some (.builtin "BaseException.__getattribute__"))) (zax : PySem.W.findIn K (.ref vf) "__getattr__" = some none) (jax : PySem.W.hasDictIn K vf = true)
    {vj : Addr} (jaA : PySem.W.nsIn K mainGlobals "SpoolboxError" = some (some (.ref vj)))
    (yn : PySem.W.specialIn K (.builtin "object.__class__") "__get__" = some (some (.builtin "getset_descriptor.__get__"))) (yt : PySem.W.takesIn K (.builtin "object.__class__") = some true)
    (xaZ : PySem.W.findIn K (.ref vg) "__class__" = some (some (.builtin "object.__class__"))) (kaZ : PySem.W.mroIn K vg (.type "object") = some true)
    (vaI : PySem.W.findIn K (.ref we) "__class__" = some (some (.builtin "object.__class__"))) (yaI : PySem.W.mroIn K we (.type "object") = some true)
    (qaP : PySem.W.findIn K (.ref yf) "__class__" = some (some (.builtin "object.__class__"))) (zaP : PySem.W.mroIn K yf (.type "object") = some true)
    (xa9 : PySem.W.findIn K (.ref vf) "__class__" = some (some (.builtin "object.__class__"))) (ka9 : PySem.W.mroIn K vf (.type "object") = some true)
    (qa0 : PySem.W.findIn K (.ref vd) "__class__" = some (some (.builtin "object.__class__"))) (za0 : PySem.W.mroIn K vd (.type "object") = some true)
    (vbp : PySem.W.findIn K (.ref wg) "__class__" = some (some (.builtin "object.__class__"))) (ybp : PySem.W.mroIn K wg (.type "object") = some true)
    (zbF : PySem.W.findIn K (.ref zh) "__class__" = some (some (.builtin "object.__class__"))) (jbF : PySem.W.mroIn K zh (.type "object") = some true)
    (xbp : PySem.W.findIn K (.ref jg) "__class__" = some (some (.builtin "object.__class__"))) (kbp : PySem.W.mroIn K jg (.type "object") = some true)
    (qbq : PySem.W.findIn K (.ref zg) "__class__" = some (some (.builtin "object.__class__"))) (zbq : PySem.W.mroIn K zg (.type "object") = some true)
    (jaP : PySem.W.findIn K (.ref qd) "__class__" = some (some (.builtin "object.__class__"))) (waP : PySem.W.mroIn K qd (.type "object") = some true)
    (qba : PySem.W.findIn K (.ref jf) "__class__" = some (some (.builtin "object.__class__"))) (zba : PySem.W.mroIn K jf (.type "object") = some true)
    (ja0 : PySem.W.findIn K (.ref wd) "__class__" = some (some (.builtin "object.__class__"))) (wa0 : PySem.W.mroIn K wd (.type "object") = some true)
    (jba : PySem.W.findIn K (.ref zf) "__class__" = some (some (.builtin "object.__class__"))) (wba : PySem.W.mroIn K zf (.type "object") = some true)
    (jbq : PySem.W.findIn K (.ref qg) "__class__" = some (some (.builtin "object.__class__"))) (wbq : PySem.W.mroIn K qg (.type "object") = some true)
    (qU : PySem.W.exmOne K (.ref vg) (.ref vg) = some true)
    (jP : PySem.W.exmOne K (.ref vg) (.ref yf) = some false)
    (wM : PySem.W.exmOne K (.ref vg) (.ref we) = some false)
    (vM : PySem.W.exmOne K (.ref we) (.ref vg) = some false)
    (jJ : PySem.W.exmOne K (.ref we) (.ref yf) = some false)
    (jH : PySem.W.exmOne K (.ref we) (.ref we) = some true)
    (vP : PySem.W.exmOne K (.ref yf) (.ref vg) = some false)
    (yM : PySem.W.exmOne K (.ref yf) (.ref yf) = some true)
    (wJ : PySem.W.exmOne K (.ref yf) (.ref we) = some false)
    (vJ : PySem.W.exmOne K (.ref vf) (.ref vj) = some true)
    (wH : PySem.W.exmOne K (.ref vd) (.ref vj) = some true)
    (xM : PySem.W.exmOne K (.ref wg) (.ref vj) = some true)
    (yP : PySem.W.exmOne K (.ref zh) (.ref vj) = some true)
    (kM : PySem.W.exmOne K (.ref jg) (.ref vj) = some true)
    (qN : PySem.W.exmOne K (.ref zg) (.ref vj) = some true)
    (xG : PySem.W.exmOne K (.ref qd) (.ref vj) = some true)
    (yJ : PySem.W.exmOne K (.ref jf) (.ref vj) = some true)
    (vH : PySem.W.exmOne K (.ref wd) (.ref vj) = some true)
    (xJ : PySem.W.exmOne K (.ref zf) (.ref vj) = some true)
    (zN : PySem.W.exmOne K (.ref qg) (.ref vj) = some true)
    (yH : PySem.W.exmOne K (.ref vg) (.ref vj) = some true)
    (zF : PySem.W.exmOne K (.ref we) (.ref vj) = some true)
    (qH : PySem.W.exmOne K (.ref yf) (.ref vj) = some true)
    (kaa : PySem.W.kitOne K (.ref vf) (.ref jf) = some false)
    (j3 : PySem.W.kitOne K (.ref vd) (.ref jf) = some false)
    (wah : PySem.W.kitOne K (.ref wg) (.ref jf) = some false)
    (qao : PySem.W.kitOne K (.ref zh) (.ref jf) = some false)
    (vah : PySem.W.kitOne K (.ref jg) (.ref jf) = some false)
    (yah : PySem.W.kitOne K (.ref zg) (.ref jf) = some false)
    (zU : PySem.W.kitOne K (.ref qd) (.ref jf) = some false)
    (qab : PySem.W.kitOne K (.ref jf) (.ref jf) = some true)
    (v3 : PySem.W.kitOne K (.ref wd) (.ref jf) = some false)
    (zab : PySem.W.kitOne K (.ref zf) (.ref jf) = some false)
    (xah : PySem.W.kitOne K (.ref qg) (.ref jf) = some false)
    (y3 : PySem.W.kitOne K (.ref vg) (.ref jf) = some false)
    (xP : PySem.W.kitOne K (.ref we) (.ref jf) = some false)
    (jU : PySem.W.kitOne K (.ref yf) (.ref jf) = some false)
    (j4 : PySem.W.kitOne K (.ref vf) (.ref wd) = some false)
    (wU : PySem.W.kitOne K (.ref vd) (.ref wd) = some false)
    (jab : PySem.W.kitOne K (.ref wg) (.ref wd) = some false)
    (kah : PySem.W.kitOne K (.ref zh) (.ref wd) = some false)
    (wab : PySem.W.kitOne K (.ref jg) (.ref wd) = some false)
    (vab : PySem.W.kitOne K (.ref zg) (.ref wd) = some false)
    (kP : PySem.W.kitOne K (.ref qd) (.ref wd) = some false)
    (y4 : PySem.W.kitOne K (.ref jf) (.ref wd) = some false)
    (vU : PySem.W.kitOne K (.ref wd) (.ref wd) = some true)
    (q5 : PySem.W.kitOne K (.ref zf) (.ref wd) = some false)
    (yab : PySem.W.kitOne K (.ref qg) (.ref wd) = some false)
    (yU : PySem.W.kitOne K (.ref vg) (.ref wd) = some false)
    (jN : PySem.W.kitOne K (.ref we) (.ref wd) = some false)
    (qQ : PySem.W.kitOne K (.ref yf) (.ref wd) = some false)
    (xab : PySem.W.kitOne K (.ref vf) (.ref zf) = some false)
    (z5 : PySem.W.kitOne K (.ref vd) (.ref zf) = some false)
    (qai : PySem.W.kitOne K (.ref wg) (.ref zf) = some false)
    (zao : PySem.W.kitOne K (.ref zh) (.ref zf) = some false)
    (zai : PySem.W.kitOne K (.ref jg) (.ref zf) = some false)
    (jai : PySem.W.kitOne K (.ref zg) (.ref zf) = some false)
    (xU : PySem.W.kitOne K (.ref qd) (.ref zf) = some false)
    (kab : PySem.W.kitOne K (.ref jf) (.ref zf) = some false)
    (j5 : PySem.W.kitOne K (.ref wd) (.ref zf) = some false)
    (qac : PySem.W.kitOne K (.ref zf) (.ref zf) = some true)
    (wai : PySem.W.kitOne K (.ref qg) (.ref zf) = some false)
    (v5 : PySem.W.kitOne K (.ref vg) (.ref zf) = some false)
    (zQ : PySem.W.kitOne K (.ref we) (.ref zf) = some false)
    (kU : PySem.W.kitOne K (.ref yf) (.ref zf) = some false)
    (vai : PySem.W.kitOne K (.ref vf) (.ref qg) = some false)
    (zac : PySem.W.kitOne K (.ref vd) (.ref qg) = some false)
    (jao : PySem.W.kitOne K (.ref wg) (.ref qg) = some false)
    (jau : PySem.W.kitOne K (.ref zh) (.ref qg) = some false)
    (wao : PySem.W.kitOne K (.ref jg) (.ref qg) = some false)
    (vao : PySem.W.kitOne K (.ref zg) (.ref qg) = some false)
    (y5 : PySem.W.kitOne K (.ref qd) (.ref qg) = some false)
    (yai : PySem.W.kitOne K (.ref jf) (.ref qg) = some false)
    (jac : PySem.W.kitOne K (.ref wd) (.ref qg) = some false)
    (xai : PySem.W.kitOne K (.ref zf) (.ref qg) = some false)
    (yao : PySem.W.kitOne K (.ref qg) (.ref qg) = some true)
    (wac : PySem.W.kitOne K (.ref vg) (.ref qg) = some false)
    (qV : PySem.W.kitOne K (.ref we) (.ref qg) = some false)
    (z6 : PySem.W.kitOne K (.ref yf) (.ref qg) = some false)
    (xao : PySem.W.kitOne K (.ref vf) (.ref zh) = some false)
    (kai : PySem.W.kitOne K (.ref vd) (.ref zh) = some false)
    (wau : PySem.W.kitOne K (.ref wg) (.ref zh) = some false)
    (waA : PySem.W.kitOne K (.ref zh) (.ref zh) = some true)
    (vau : PySem.W.kitOne K (.ref jg) (.ref zh) = some false)
    (yau : PySem.W.kitOne K (.ref zg) (.ref zh) = some false)
    (vac : PySem.W.kitOne K (.ref qd) (.ref zh) = some false)
    (kao : PySem.W.kitOne K (.ref jf) (.ref zh) = some false)
    (qaj : PySem.W.kitOne K (.ref wd) (.ref zh) = some false)
    (qap : PySem.W.kitOne K (.ref zf) (.ref zh) = some false)
    (xau : PySem.W.kitOne K (.ref qg) (.ref zh) = some false)
    (zaj : PySem.W.kitOne K (.ref vg) (.ref zh) = some false)
    (j6 : PySem.W.kitOne K (.ref we) (.ref zh) = some false)
    (yac : PySem.W.kitOne K (.ref yf) (.ref zh) = some false)
    (jaj : PySem.W.kitOne K (.ref vf) (.ref jg) = some false)
    (xac : PySem.W.kitOne K (.ref vd) (.ref jg) = some false)
    (zap : PySem.W.kitOne K (.ref wg) (.ref jg) = some false)
    (kau : PySem.W.kitOne K (.ref zh) (.ref jg) = some false)
    (jap : PySem.W.kitOne K (.ref jg) (.ref jg) = some true)
    (wap : PySem.W.kitOne K (.ref zg) (.ref jg) = some false)
    (w6 : PySem.W.kitOne K (.ref qd) (.ref jg) = some false)
    (waj : PySem.W.kitOne K (.ref jf) (.ref jg) = some false)
    (kac : PySem.W.kitOne K (.ref wd) (.ref jg) = some false)
    (vaj : PySem.W.kitOne K (.ref zf) (.ref jg) = some false)
    (vap : PySem.W.kitOne K (.ref qg) (.ref jg) = some false)
    (qad : PySem.W.kitOne K (.ref vg) (.ref jg) = some false)
    (zV : PySem.W.kitOne K (.ref we) (.ref jg) = some false)
    (y6 : PySem.W.kitOne K (.ref yf) (.ref jg) = some false)
    (yaj : PySem.W.kitOne K (.ref vf) (.ref zg) = some false)
    (zad : PySem.W.kitOne K (.ref vd) (.ref zg) = some false)
    (yap : PySem.W.kitOne K (.ref wg) (.ref zg) = some false)
    (qav : PySem.W.kitOne K (.ref zh) (.ref zg) = some false)
    (xap : PySem.W.kitOne K (.ref jg) (.ref zg) = some false)
    (kap : PySem.W.kitOne K (.ref zg) (.ref zg) = some true)
    (q7 : PySem.W.kitOne K (.ref qd) (.ref zg) = some false)
    (xaj : PySem.W.kitOne K (.ref jf) (.ref zg) = some false)
    (jad : PySem.W.kitOne K (.ref wd) (.ref zg) = some false)
    (kaj : PySem.W.kitOne K (.ref zf) (.ref zg) = some false)
    (qaq : PySem.W.kitOne K (.ref qg) (.ref zg) = some false)
    (wad : PySem.W.kitOne K (.ref vg) (.ref zg) = some false)
    (jV : PySem.W.kitOne K (.ref we) (.ref zg) = some false)
    (z7 : PySem.W.kitOne K (.ref yf) (.ref zg) = some false)
    (wV : PySem.W.kitOne K (.ref vf) (.ref qd) = some false)
    (jQ : PySem.W.kitOne K (.ref vd) (.ref qd) = some false)
    (j7 : PySem.W.kitOne K (.ref wg) (.ref qd) = some false)
    (vad : PySem.W.kitOne K (.ref zh) (.ref qd) = some false)
    (w7 : PySem.W.kitOne K (.ref jg) (.ref qd) = some false)
    (v7 : PySem.W.kitOne K (.ref zg) (.ref qd) = some false)
    (wN : PySem.W.kitOne K (.ref qd) (.ref qd) = some true)
    (vV : PySem.W.kitOne K (.ref jf) (.ref qd) = some false)
    (wQ : PySem.W.kitOne K (.ref wd) (.ref qd) = some false)
    (yV : PySem.W.kitOne K (.ref zf) (.ref qd) = some false)
    (z8 : PySem.W.kitOne K (.ref qg) (.ref qd) = some false)
    (vQ : PySem.W.kitOne K (.ref vg) (.ref qd) = some false)
    (kJ : PySem.W.kitOne K (.ref we) (.ref qd) = some false)
    (vN : PySem.W.kitOne K (.ref yf) (.ref qd) = some false)
    (yad : PySem.W.kitOne K (.ref vf) (.ref vf) = some true)
    (j8 : PySem.W.kitOne K (.ref vd) (.ref vf) = some false)
    (qak : PySem.W.kitOne K (.ref wg) (.ref vf) = some false)
    (zaq : PySem.W.kitOne K (.ref zh) (.ref vf) = some false)
    (zak : PySem.W.kitOne K (.ref jg) (.ref vf) = some false)
    (jak : PySem.W.kitOne K (.ref zg) (.ref vf) = some false)
    (xV : PySem.W.kitOne K (.ref qd) (.ref vf) = some false)
    (xad : PySem.W.kitOne K (.ref jf) (.ref vf) = some false)
    (w8 : PySem.W.kitOne K (.ref wd) (.ref vf) = some false)
    (kad : PySem.W.kitOne K (.ref zf) (.ref vf) = some false)
    (wak : PySem.W.kitOne K (.ref qg) (.ref vf) = some false)
    (v8 : PySem.W.kitOne K (.ref vg) (.ref vf) = some false)
    (yQ : PySem.W.kitOne K (.ref we) (.ref vf) = some false)
    (qW : PySem.W.kitOne K (.ref yf) (.ref vf) = some false)
    (y8 : PySem.W.kitOne K (.ref vf) (.ref vd) = some false)
    (zW : PySem.W.kitOne K (.ref vd) (.ref vd) = some true)
    (qae : PySem.W.kitOne K (.ref wg) (.ref vd) = some false)
    (vak : PySem.W.kitOne K (.ref zh) (.ref vd) = some false)
    (zae : PySem.W.kitOne K (.ref jg) (.ref vd) = some false)
    (jae : PySem.W.kitOne K (.ref zg) (.ref vd) = some false)
    (xQ : PySem.W.kitOne K (.ref qd) (.ref vd) = some false)
    (z9 : PySem.W.kitOne K (.ref jf) (.ref vd) = some false)
    (jW : PySem.W.kitOne K (.ref wd) (.ref vd) = some false)
    (j9 : PySem.W.kitOne K (.ref zf) (.ref vd) = some false)
    (wae : PySem.W.kitOne K (.ref qg) (.ref vd) = some false)
    (wW : PySem.W.kitOne K (.ref vg) (.ref vd) = some false)
    (yN : PySem.W.kitOne K (.ref we) (.ref vd) = some false)
    (kQ : PySem.W.kitOne K (.ref yf) (.ref vd) = some false)
    (yak : PySem.W.kitOne K (.ref vf) (.ref wg) = some false)
    (vae : PySem.W.kitOne K (.ref vd) (.ref wg) = some false)
    (jaq : PySem.W.kitOne K (.ref wg) (.ref wg) = some true)
    (zav : PySem.W.kitOne K (.ref zh) (.ref wg) = some false)
    (waq : PySem.W.kitOne K (.ref jg) (.ref wg) = some false)
    (vaq : PySem.W.kitOne K (.ref zg) (.ref wg) = some false)
    (w9 : PySem.W.kitOne K (.ref qd) (.ref wg) = some false)
    (xak : PySem.W.kitOne K (.ref jf) (.ref wg) = some false)
    (yae : PySem.W.kitOne K (.ref wd) (.ref wg) = some false)
    (kak : PySem.W.kitOne K (.ref zf) (.ref wg) = some false)
    (yaq : PySem.W.kitOne K (.ref qg) (.ref wg) = some false)
    (xae : PySem.W.kitOne K (.ref vg) (.ref wg) = some false)
    (vW : PySem.W.kitOne K (.ref we) (.ref wg) = some false)
    (v9 : PySem.W.kitOne K (.ref yf) (.ref wg) = some false)
    : ∃ fd : FuncData, (∀ (s : Shared) (v : Value), BindsTo s fd ⟨[v], []⟩ [("script", v)]) ∧ ∀ base : Heap, K.In base → base.Ns mainGlobals mg → FnOk P w K mg base (L2.CX P w) 9 fa fd ["script"] (DL.wcI K) := by
  have e := hfa.symm.trans (PySem.W.mg_of X G a26)
  cases e
  let T : Txt K mg (fun n => match n with | 5 => qg | 6 => zf | 7 => wd | 3 => vg | 1 => yf | 2 => we | 8 => jf | 9 => qd | 10 => zg | 11 => jg | 13 => wg | 14 => vd | 12 => zh | 15 => vf | 0 => vj  | _ => 0) := ⟨f0, _, fun_mk l0 c0 k0, PySem.W.mg_of X G a0, (fun_mk (st := vz) l0 c0 k0).binds (ps := ["script"]) fun _ _ _ _ _ _ us hl => match us, hl with | [_], _ => rfl, f1, _, fun_mk l1 c1 k1, PySem.W.mg_of X G a1, (fun_mk (st := wx) l1 c1 k1).binds (ps := ["number"]) fun _ _ _ _ _ _ us hl => match us, hl with | [_], _ => rfl, f2, _, fun_mk l2 c2 k2, PySem.W.mg_of X G a2, (fun_mk (st := yz) l2 c2 k2).binds (ps := ["row"]) fun _ _ _ _ _ _ us hl => match us, hl with | [_], _ => rfl, f3, _, fun_mk l3 c3 k3, PySem.W.mg_of X G a3, (fun_mk (st := yo) l3 c3 k3).binds (ps := ["leaf"]) fun _ _ _ _ _ _ us hl => match us, hl with | [_], _ => rfl, f4, _, fun_mk l4 c4 k4, PySem.W.mg_of X G a4, (fun_mk (st := vK) l4 c4 k4).binds (ps := ["draws", "k", "many"]) fun _ _ _ _ _ _ us hl => match us, hl with | [_, _, _], _ => rfl, f5, _, fun_mk l5 c5 k5, PySem.W.mg_of X G a5, (fun_mk (st := xB) l5 c5 k5).binds (ps := ["draws", "k", "bits"]) fun _ _ _ _ _ _ us hl => match us, hl with | [_, _, _], _ => rfl, f6, _, fun_mk l6 c6 k6, PySem.W.mg_of X G a6, (fun_mk (st := kz) l6 c6 k6).binds (ps := ["draws", "k"]) fun _ _ _ _ _ _ us hl => match us, hl with | [_, _], _ => rfl, f7, _, fun_mk l7 c7 k7, PySem.W.mg_of X G a7, (fun_mk (st := vp) l7 c7 k7).binds (ps := ["draws"]) fun _ _ _ _ _ _ us hl => match us, hl with | [_], _ => rfl, f8, _, fun_mk l8 c8 k8, PySem.W.mg_of X G a8, (fun_mk (st := kB) l8 c8 k8).binds (ps := ["row"]) fun _ _ _ _ _ _ us hl => match us, hl with | [_], _ => rfl, f9, _, fun_mk l9 c9 k9, PySem.W.mg_of X G a9, (fun_mk (st := yp) l9 c9 k9).binds (ps := ["writing"]) fun _ _ _ _ _ _ us hl => match us, hl with | [_], _ => rfl, f10, _, fun_mk l10 c10 k10, PySem.W.mg_of X G a10, (fun_mk (st := zv) l10 c10 k10).binds (ps := ["row", "at"]) fun _ _ _ _ _ _ us hl => match us, hl with | [_, _], _ => rfl, f11, _, fun_mk l11 c11 k11, PySem.W.mg_of X G a11, (fun_mk (st := qC) l11 c11 k11).binds (ps := ["row", "at"]) fun _ _ _ _ _ _ us hl => match us, hl with | [_, _], _ => rfl, f12, _, fun_mk l12 c12 k12, PySem.W.mg_of X G a12, (fun_mk (st := qA) l12 c12 k12).binds (ps := ["row", "at", "top"]) fun _ _ _ _ _ _ us hl => match us, hl with | [_, _, _], _ => rfl, f13, _, fun_mk l13 c13 k13, PySem.W.mg_of X G a13, (fun_mk (st := xp) l13 c13 k13).binds (ps := ["writing"]) fun _ _ _ _ _ _ us hl => match us, hl with | [_], _ => rfl, f14, _, fun_mk l14 c14 k14, PySem.W.mg_of X G a14, (fun_mk (st := yr) l14 c14 k14).binds (ps := ["writing", "at"]) fun _ _ _ _ _ _ us hl => match us, hl with | [_, _], _ => rfl, f15, _, fun_mk l15 c15 k15, PySem.W.mg_of X G a15, (fun_mk (st := zA) l15 c15 k15).binds (ps := ["number"]) fun _ _ _ _ _ _ us hl => match us, hl with | [_], _ => rfl, f16, _, fun_mk l16 c16 k16, PySem.W.mg_of X G a16, (fun_mk (st := yx) l16 c16 k16).binds (ps := ["total", "row"]) fun _ _ _ _ _ _ us hl => match us, hl with | [_, _], _ => rfl, f17, _, fun_mk l17 c17 k17, PySem.W.mg_of X G a17, (fun_mk (st := zG) l17 c17 k17).binds (ps := ["row"]) fun _ _ _ _ _ _ us hl => match us, hl with | [_], _ => rfl, f18, _, fun_mk l18 c18 k18, PySem.W.mg_of X G a18, (fun_mk (st := xr) l18 c18 k18).binds (ps := ["writing"]) fun _ _ _ _ _ _ us hl => match us, hl with | [_], _ => rfl, f19, _, fun_mk l19 c19 k19, PySem.W.mg_of X G a19, (fun_mk (st := xN) l19 c19 k19).binds (ps := ["e"]) fun _ _ _ _ _ _ us hl => match us, hl with | [_], _ => rfl, f20, _, fun_mk l20 c20 k20, PySem.W.mg_of X G a20, (fun_mk (st := zC) l20 c20 k20).binds (ps := ["row"]) fun _ _ _ _ _ _ us hl => match us, hl with | [_], _ => rfl, f21, _, fun_mk l21 c21 k21, PySem.W.mg_of X G a21, (fun_mk (st := qy) l21 c21 k21).binds (ps := ["row", "at", "bound"]) fun _ _ _ _ _ _ us hl => match us, hl with | [_, _, _], _ => rfl, f22, _, fun_mk l22 c22 k22, PySem.W.mg_of X G a22, (fun_mk (st := zy) l22 c22 k22).binds (ps := ["row"]) fun _ _ _ _ _ _ us hl => match us, hl with | [_], _ => rfl, f23, _, fun_mk l23 c23 k23, PySem.W.mg_of X G a23, (fun_mk (st := jv) l23 c23 k23).binds (ps := ["leaf"]) fun _ _ _ _ _ _ us hl => match us, hl with | [_], _ => rfl, f24, _, fun_mk l24 c24 k24, PySem.W.mg_of X G a24, (fun_mk (st := jC) l24 c24 k24).binds (ps := ["number"]) fun _ _ _ _ _ _ us hl => match us, hl with | [_], _ => rfl, f25, _, fun_mk l25 c25 k25, PySem.W.mg_of X G a25, (fun_mk (st := jA) l25 c25 k25).binds (ps := ["leaf"]) fun _ _ _ _ _ _ us hl => match us, hl with | [_], _ => rfl, fa, _, fun_mk l26 c26 k26, PySem.W.mg_of X G a26, (fun_mk (st := vaK) l26 c26 k26).binds (ps := ["script"]) fun _ _ _ _ _ _ us hl => match us, hl with | [_], _ => rfl, PySem.W.mg_none_of X G qt, PySem.W.mg_none_of X G xbM, PySem.W.mg_none_of X G zt, PySem.W.mg_none_of X G zbW, PySem.W.mg_none_of X G zay, PySem.W.mg_none_of X G qm, PySem.W.mg_none_of X G kbM, PySem.W.mg_none_of X G vaV, PySem.W.mg_none_of X G zaw, PySem.W.mg_none_of X G zbE, _, PySem.W.mg_of X G xcJ, _, PySem.W.mg_of X G qb2, _, PySem.W.mg_of X G jaX, _, PySem.W.mg_of X G waX, _, PySem.W.mg_of X G wa7, _, PySem.W.mg_of X G waN, _, PySem.W.mg_of X G qbm, _, PySem.W.mg_of X G zbm, _, PySem.W.mg_of X G jbm, _, PySem.W.mg_of X G qbS, ydI (ns := [0, 498536548, 997073096, 651767980, 1994146192, 1802195444, 1303535960, 1342533948, 3988292384, 4027552580, 3604390888, 3412177804, 2607071920, 2262029012, 2685067896, 3183342108]) zbS (.cons ⟨_, rfl⟩ (.cons ⟨_, rfl⟩ (.cons ⟨_, rfl⟩ (.cons ⟨_, rfl⟩ (.cons ⟨_, rfl⟩ (.cons ⟨_, rfl⟩ (.cons ⟨_, rfl⟩ (.cons ⟨_, rfl⟩ (.cons ⟨_, rfl⟩ (.cons ⟨_, rfl⟩ (.cons ⟨_, rfl⟩ (.cons ⟨_, rfl⟩ (.cons ⟨_, rfl⟩ (.cons ⟨_, rfl⟩ (.cons ⟨_, rfl⟩ (.cons ⟨_, rfl⟩ (.nil))))))))))))))))), _, PySem.W.mg_of X G jbE, _, PySem.W.mg_of X G wbm, fI, _, ⟨fun_mk lI cI kI, tI, (fun_mk (st := qbg) lI cI kI).binds (ps := ["self", "at"]) fun _ _ _ _ _ _ us hl => match us, hl with | [_, _], _ => rfl⟩, ⟨PySem.W.mg_of X G xaS, ⟨⟨_, _, _, _, _, _, _, _, _, _, _, _, _, _, _, vbm, ybm⟩, xbm, xas, kbm, qbn⟩, kaS, zbn, ⟨zaD, jaD, xas, waD⟩⟩, ⟨PySem.W.mg_of X G xaJ, ⟨⟨_, _, _, _, _, _, _, _, _, _, _, _, _, _, _, va7, ya7⟩, xa7, wag, ka7, qa8⟩, kaJ, za8, ⟨jaw, waw, wag, vaw⟩⟩, ⟨PySem.W.mg_of X G vaD, ⟨⟨_, _, _, _, _, _, _, _, _, _, _, _, _, _, _, vaX, yaX⟩, xaX, q0, kaX, qaY⟩, yaD, zaY, ⟨kam, qan, q0, zan⟩⟩, ⟨PySem.W.mg_of X G xaD, ⟨⟨_, _, _, _, _, _, _, _, _, _, _, _, _, _, _, jaY, waY⟩, vaY, z0, yaY, xaY⟩, kaD, kaY, ⟨jan, wan, z0, van⟩⟩, ⟨PySem.W.mg_of X G jay, ⟨⟨_, _, _, _, _, _, _, _, _, _, _, _, _, _, _, vaN, yaN⟩, xaN, yR, kaN, qaO⟩, vay, zaO, ⟨vaf, yaf, yR, xaf⟩⟩, ⟨PySem.W.mg_of X G kas, ⟨⟨_, _, _, _, _, _, _, _, _, _, _, _, _, _, _, xaH, kaH⟩, qaI, wL, zaI, jaI⟩, qat, waI, ⟨j0, y0, wL, j1⟩⟩, ⟨PySem.W.mg_of X G qaK, ⟨⟨_, _, _, _, _, _, _, _, _, _, _, _, _, _, _, ja8, wa8⟩, va8, vag, ya8, xa8⟩, zaK, ka8, ⟨yaw, xaw, vag, kaw⟩⟩, ⟨PySem.W.mg_of X G yay, ⟨⟨_, _, _, _, _, _, _, _, _, _, _, _, _, _, _, jaO, waO⟩, vaO, xR, yaO, xaO⟩, xay, kaO, ⟨kaf, qag, xR, zag⟩⟩, ⟨PySem.W.mg_of X G qaT, ⟨⟨_, _, _, _, _, _, _, _, _, _, _, _, _, _, _, jbn, wbn⟩, vbn, zat, ybn, xbn⟩, zaT, kbn, ⟨qaE, zaE, zat, jaE⟩⟩, ⟨PySem.W.mg_of X G jaT, ⟨⟨_, _, _, _, _, _, _, _, _, _, _, _, _, _, _, qbo, zbo⟩, jbo, jat, wbo, vbo⟩, waT, ybo, ⟨waE, vaE, jat, yaE⟩⟩, ⟨PySem.W.mg_of X G vaT, ⟨⟨_, _, _, _, _, _, _, _, _, _, _, _, _, _, _, xbo, kbo⟩, qbp, wat, zbp, jbp⟩, yaT, wbp, ⟨xaE, kaE, wat, qaF⟩⟩, ⟨PySem.W.mg_of X G zaF, ⟨⟨_, _, _, _, _, _, _, _, _, _, _, _, _, _, _, qaZ, zaZ⟩, jaZ, y1, waZ, vaZ⟩, jaF, yaZ, ⟨yan, xan, y1, kan⟩⟩, ⟨PySem.W.mg_of X G ja6, ⟨⟨_, _, _, _, _, _, _, _, _, _, _, _, _, _, _, wbE, vbE⟩, ybE, qaB, xbE, kbE⟩, wa6, qbF, ⟨zaM, jaM, qaB, waM⟩⟩, ⟨PySem.W.mg_of X G jaK, ⟨⟨_, _, _, _, _, _, _, _, _, _, _, _, _, _, _, qa9, za9⟩, ja9, yag, wa9, va9⟩, waK, ya9, ⟨qax, zax, yag, jax⟩⟩, PySem.W.mg_of X G xaD, PySem.W.mg_of X G jay, PySem.W.mg_of X G kas, PySem.W.mg_of X G qaK, PySem.W.mg_of X G vaD, PySem.W.mg_of X G xaJ, PySem.W.mg_of X G xaS, PySem.W.mg_of X G ja6, PySem.W.mg_of X G jaT, PySem.W.mg_of X G qaT, PySem.W.mg_of X G yay, PySem.W.mg_of X G jaK, PySem.W.mg_of X G zaF, PySem.W.mg_of X G vaT, PySem.W.mg_of X G jaA, ⟨⟨jan, wan, z0, van⟩, kaD, ⟨jan, wan, z0, van, xaZ, yn, yt, kaZ⟩⟩, ⟨⟨j0, y0, wL, j1⟩, qat, ⟨j0, y0, wL, j1, vaI, yn, yt, yaI⟩⟩, ⟨⟨vaf, yaf, yR, xaf⟩, vay, ⟨vaf, yaf, yR, xaf, qaP, yn, yt, zaP⟩⟩, ⟨⟨qax, zax, yag, jax⟩, waK, ⟨qax, zax, yag, jax, xa9, yn, yt, ka9⟩⟩, ⟨⟨yan, xan, y1, kan⟩, jaF, ⟨yan, xan, y1, kan, qa0, yn, yt, za0⟩⟩, ⟨⟨xaE, kaE, wat, qaF⟩, yaT, ⟨xaE, kaE, wat, qaF, vbp, yn, yt, ybp⟩⟩, ⟨⟨zaM, jaM, qaB, waM⟩, wa6, ⟨zaM, jaM, qaB, waM, zbF, yn, yt, jbF⟩⟩, ⟨⟨waE, vaE, jat, yaE⟩, waT, ⟨waE, vaE, jat, yaE, xbp, yn, yt, kbp⟩⟩, ⟨⟨qaE, zaE, zat, jaE⟩, zaT, ⟨qaE, zaE, zat, jaE, qbq, yn, yt, zbq⟩⟩, ⟨⟨kaf, qag, xR, zag⟩, xay, ⟨kaf, qag, xR, zag, jaP, yn, yt, waP⟩⟩, ⟨⟨yaw, xaw, vag, kaw⟩, zaK, ⟨yaw, xaw, vag, kaw, qba, yn, yt, zba⟩⟩, ⟨⟨kam, qan, q0, zan⟩, yaD, ⟨kam, qan, q0, zan, ja0, yn, yt, wa0⟩⟩, ⟨⟨jaw, waw, wag, vaw⟩, kaJ, ⟨jaw, waw, wag, vaw, jba, yn, yt, wba⟩⟩, ⟨⟨zaD, jaD, xas, waD⟩, kaS, ⟨zaD, jaD, xas, waD, jbq, yn, yt, wbq⟩⟩, qU, jP, wM, vM, jJ, jH, vP, yM, wJ, vJ, wH, xM, yP, kM, qN, xG, yJ, vH, xJ, zN, yH, zF, qH, kaa, j3, wah, qao, vah, yah, zU, qab, v3, zab, xah, y3, xP, jU, j4, wU, jab, kah, wab, vab, kP, y4, vU, q5, yab, yU, jN, qQ, xab, z5, qai, zao, zai, jai, xU, kab, j5, qac, wai, v5, zQ, kU, vai, zac, jao, jau, wao, vao, y5, yai, jac, xai, yao, wac, qV, z6, xao, kai, wau, waA, vau, yau, vac, kao, qaj, qap, xau, zaj, j6, yac, jaj, xac, zap, kau, jap, wap, w6, waj, kac, vaj, vap, qad, zV, y6, yaj, zad, yap, qav, xap, kap, q7, xaj, jad, kaj, qaq, wad, jV, z7, wV, jQ, j7, vad, w7, v7, wN, vV, wQ, yV, z8, vQ, kJ, vN, yad, j8, qak, zaq, zak, jak, xV, xad, w8, kad, wak, v8, yQ, qW, y8, zW, qae, vak, zae, jae, xQ, z9, jW, j9, wae, wW, yN, kQ, yak, vae, jaq, zav, waq, vaq, w9, xak, yae, kak, yaq, xae, vW, v9⟩
  exact ⟨T.jbW, fun s v => .of_eq rfl, fun base _ _ => vdt hl (jdz T)⟩
end K05
namespace DL
open PySem PySem.Spec PyProof.Rows L2
theorem wcV {α : Type} {xs : List α} {i : Int} (h0 : 0 ≤ i) (h1 : i < xs.length) : atI xs i = some (xs[i.toNat]'(by omega)) := by
  unfold atI ixN
  rw [if_pos h0, if_pos h1]
  exact List.getElem?_eq_getElem _
theorem wdm {α β : Type} (f : α → β) (xs : List α) (i : Int) : atI (xs.map f) i = (atI xs i).map f := by
  unfold atI
  rw [List.length_map]
  cases ixN xs.length i with
  | none => rfl
  | some j => simp
theorem vbZ {i j : Int} (h : 0 < j) : ycG i j = true := decide_eq_true h
theorem ybZ {i j : Int} (h : 0 < j) (h2 : j < 1073741824) : vbY i j = true := by
  unfold vbY
  rw [decide_eq_true h, decide_eq_true h2]
  rfl
theorem jch {i j : Int} (h : -1000000000 < i) (h2 : i < 1000000000) : xbk i j = true := by
  unfold xbk
  rw [decide_eq_true (show -(2 ^ 64) < i by omega), decide_eq_true (show i < 2 ^ 64 by omega)]
  rfl
theorem wch {i j : Int} (h : -1000000000 < j) (h2 : j < 1000000000) : xbk i j = true := by
  unfold xbk
  rw [decide_eq_true (show -(2 ^ 64) < j by omega), decide_eq_true (show j < 2 ^ 64 by omega)]
  exact Bool.or_true _
theorem jaV {i j : Int} (h0 : 0 ≤ j) (h1 : j ≤ 1000000) (h2 : -1000000000 < i) (h3 : i < 1000000000) : ya6 i j = true := by
  unfold ya6
  rw [decide_eq_true h0, decide_eq_true h1, decide_eq_true (show i.natAbs < 2 ^ 64 by omega)]
  rfl
theorem kbL {i j : Int} (h : 0 ≤ j) : ybY i j = true := decide_eq_true h
theorem qbM {j : Int} (h : -1000000000 < j) (h2 : j < 1000000000) : vaz j = true := by
  unfold vaz
  rw [decide_eq_true (show -(2 ^ 62) ≤ j by omega), decide_eq_true (show j < 2 ^ 62 by omega)]
  rfl
theorem wD {n : Nat} (h : n ≤ 16777216) : zz n = true := decide_eq_true h
theorem zbO : ∀ (ns ms : List Int), PyData.eqvAll (ns.map PyData.int) (ms.map PyData.int) = decide (ns = ms)
  | [], [] => rfl
  | [], _ :: _ => rfl
  | _ :: _, [] => rfl
  | n :: ns, m :: ms => by
    show (PyData.eqv (.int n) (.int m) && PyData.eqvAll (ns.map PyData.int) (ms.map PyData.int)) = _
    rw [zbO ns ms]
    show ((n == m) && decide (ns = ms)) = _
    by_cases h1 : n = m
    · by_cases h2 : ns = ms
      · simp [h1, h2]
      · simp [h1, h2]
    · simp [h1]
theorem ka6 : ∀ ns : List Int, PyData.canLayAll0 (ns.map PyData.int) = true
  | [] => rfl
  | n :: ns => ka6 ns
theorem depth_ints : ∀ ns : List Int, PyData.depthAll (ns.map PyData.int) = 0
  | [] => rfl
  | n :: ns => by
    show max 0 (PyData.depthAll (ns.map PyData.int)) = 0
    rw [depth_ints ns]
    rfl
@[simp] theorem wdD (i : Int) : SeqAt.shaped (.int i) = true := rfl
@[simp] theorem ydB (i : Bool) : SeqAt.shaped (.bool i) = true := rfl
@[simp] theorem xdB : SeqAt.shaped .none = true := rfl
@[simp] theorem shaped_ints (ns : List Int) : SeqAt.shaped (.list (ns.map PyData.int)) = true := by
  unfold SeqAt.shaped
  have h1 : PyData.canLay0 (.list (ns.map PyData.int)) = true := ka6 ns
  have h2 : PyData.depth (.list (ns.map PyData.int)) = 1 := by
    show PyData.depthAll (ns.map PyData.int) + 1 = 1
    rw [depth_ints ns]
  rw [h1, h2]
  rfl
theorem vch {d : D} (h : SeqAt.shaped d = true) : eqD d d = some true := by
  unfold eqD
  rw [h]
  show some (PyData.eqv d d) = some true
  rw [SeqAt.eqv_refl d (SeqAt.canLay_of_shaped h)]
@[simp] theorem yd1 (i j : Int) : eqD (.int i) (.int j) = some (i == j) := rfl
@[simp] theorem wc5 (ns ms : List Int) : eqD (.list (ns.map PyData.int)) (.list (ms.map PyData.int)) = some (decide (ns = ms)) := by
  unfold eqD
  rw [shaped_ints, shaped_ints]
  show some (PyData.eqvAll (ns.map PyData.int) (ms.map PyData.int)) = _
  rw [zbO]
theorem yT {g : FG} {body : FS} (Inv : Nat → xb → Prop) {ds : List D} {ρ : xb} (h0 : Inv 0 ρ)
    (h : ∀ i d ρ, ds[i]? = some d → Inv i ρ → ∃ ρ1 ρ2, g d ρ = some ρ1 ∧ body ρ1 = some (.nx ρ2) ∧ Inv (i + 1) ρ2) : ∃ ρ', forL g body ds ρ = some (.nx ρ') ∧ Inv ds.length ρ' := by
  have go : ∀ (k n : Nat) (ρ : xb), ds.length - n = k → n ≤ ds.length → Inv n ρ → ∃ ρ', forL g body (ds.drop n) ρ = some (.nx ρ') ∧ Inv ds.length ρ' := by
    intro k
    induction k with
    | zero =>
      intro n ρ hk hn hI
      have e : n = ds.length := by omega
      subst e
      rw [List.drop_length]
      exact ⟨ρ, rfl, hI⟩
    | succ k ih =>
      intro n ρ hk hn hI
      have hlt : n < ds.length := by omega
      obtain ⟨ρ1, ρ2, h1, h2, h3⟩ := h n ds[n] ρ (List.getElem?_eq_getElem hlt) hI
      obtain ⟨ρ', h4, h5⟩ := ih (n + 1) ρ2 (by omega) hlt h3
      refine ⟨ρ', ?_, h5⟩
      rw [List.drop_eq_getElem_cons hlt]
      unfold forL
      rw [h1]
      dsimp only
      rw [h2]
      exact h4
  have q := go _ 0 ρ rfl (Nat.zero_le _) h0
  rw [List.drop_zero] at q
  exact q
theorem xbZ {α : Type} {tt : FT} {fe : FE} {st : D → Option xb} (dat : α → D) (F : α → D) : ∀ {xs : List α}, (∀ x ∈ xs, ∃ ρ v, st (dat x) = some ρ ∧ tt ρ = some (.ok true) ∧ fe ρ = some (.ok v) ∧ v.st = some (F x)) → lcL tt fe st (xs.map dat) = some (xs.map F)
  | [], _ => rfl
  | x :: xs, h => by
    obtain ⟨ρ, v, h1, h2, h3, h4⟩ := h x List.mem_cons_self
    have ih := xbZ (tt := tt) (fe := fe) (st := st) dat F (xs := xs) fun y hy => h y (List.mem_cons_of_mem _ hy)
    rw [List.map_cons, List.map_cons]
    unfold lcL
    rw [h1]
    dsimp only
    rw [h2]
    dsimp only
    rw [h3]
    dsimp only
    rw [h4, ih]
    rfl
theorem ya5 (lo : Int) (n : Nat) : vk lo n = (List.range n).map fun (i : Nat) => PyData.int (lo + (i : Int)) := rfl
section
variable {f g : FS} {ρ ρ1 : xb} {o : Option Out} {n k : Nat} {ds : List D} {d : D} {E F fa fb fc : FE} {t u : FT} {i : Nat} {v a b : Val}
theorem ye (h1 : f ρ = some (.nx ρ1)) (h2 : g ρ1 = o) : vb f g ρ = o := by
  unfold vb
  rw [h1]
  exact h2
theorem vaa (h1 : f ρ = some (.ret d)) : vb f g ρ = some (.ret d) := by
  unfold vb
  rw [h1]
theorem vD (h : f (ds.map .dat ++ List.replicate (k - n) .un) = some (.ret d)) : xA n k f ds = some (.ret d) := by
  rw [jbU, h]
theorem qZ {es : List D} (h : f (ds.map .dat ++ List.replicate (k - n) .un) = some (.retF es)) : xA n k f ds = some (.retF es) := by
  rw [jbU, h]
theorem ky {c : Nat} {j : Int} {ρ' : xb} (h : f (ds.map .dat ++ List.replicate (k - n) .un) = some (.exc ρ' c j)) : xA n k f ds = some (.exc c j) := by
  rw [jbU, h]
theorem vdD (h : f (ds.map .dat ++ List.replicate (k - n) .un) = some (.nx ρ1)) : xA n k f ds = some (.ret .none) := by
  rw [jbU, h]
theorem xT {h : Val → Val → Option Val} (ha : fa ρ = some (.ok a)) (hb : fb ρ = some (.ok b)) (e : h a b = some v) : e2 h fa fb ρ = some (.ok v) := by
  rw [zdD]
  unfold bE
  rw [ha]
  dsimp only
  rw [hb]
  dsimp only
  rw [e]
  rfl
theorem zdu {h : Val → Option Val} (ha : fa ρ = some (.ok a)) (e : h a = some v) : e1 h fa ρ = some (.ok v) := by
  rw [jdD]
  unfold bE
  rw [ha]
  dsimp only
  rw [e]
  rfl
theorem vq {d : D} (q : E ρ = some (.ok v)) (h : v.st = some d) (e : ρ.set i (.dat d) = ρ1) : je i E ρ = some (.nx ρ1) := by
  rw [vcE]
  unfold sE
  rw [q]
  dsimp only
  rw [h, ← e]
  rfl
theorem vbU (q : E ρ = some (.ok (.f ds))) (e : ρ.set i (.own ds) = ρ1) : jaJ i E ρ = some (.nx ρ1) := by
  rw [vc4]
  unfold sE
  rw [q, ← e]
theorem xn (h : t ρ = some (.ok true)) (e : f ρ = o) : kh t f g ρ = o := by
  unfold kh
  rw [h]
  exact e
theorem xl (h : t ρ = some (.ok false)) (e : g ρ = o) : kh t f g ρ = o := by
  unfold kh
  rw [h]
  exact e
theorem vu (q : E ρ = some (.ok (.s d))) : vh E ρ = some (.ret d) := by
  rw [xbL]
  unfold sE
  rw [q]
theorem zam (q : E ρ = some (.ok (.f ds))) : vh E ρ = some (.retF ds) := by
  rw [xbL]
  unfold sE
  rw [q]
theorem jdu (q : E ρ = some (.ok (.b ds))) : vh E ρ = some (.retF ds) := by
  rw [xbL]
  unfold sE
  rw [q]
theorem jah {x : Bool} (q : E ρ = some (.ok v)) (h : v.d = .bool x) : tV E ρ = some (.ok x) := by
  unfold tV
  rw [q]
  dsimp only
  rw [h]
theorem wda {x : Bool} (q : t ρ = some (.ok x)) : wbl t ρ = some (.ok (!x)) := by
  unfold wbl
  rw [q]
theorem ych (q : t ρ = some (.ok true)) : wbl t ρ = some (.ok false) := wda q
theorem wdu (q : t ρ = some (.ok false)) : wbl t ρ = some (.ok true) := wda q
theorem vda {T : String} (q : fa ρ = some (.ok v)) (n : yc1 v.d = false := by rfl) : e1 (qcg T) fa ρ = some (.ok (.s (.bool (wc3 T v.d)))) := zdu q (by unfold qcg; rw [n]; rfl)
theorem zaC (q : t ρ = some (.ok true)) : wB t u ρ = some (.ok true) := by
  unfold wB
  rw [q]
theorem qx {x : Bool} (q : t ρ = some (.ok false)) (q2 : u ρ = some (.ok x)) : wB t u ρ = some (.ok x) := by
  unfold wB
  rw [q]
  exact q2
theorem qbf {x : Bool} (q : t ρ = some (.ok true)) (q2 : u ρ = some (.ok x)) : waS t u ρ = some (.ok x) := by
  unfold waS
  rw [q]
  exact q2
theorem kbZ (q : t ρ = some (.ok false)) : waS t u ρ = some (.ok false) := by
  unfold waS
  rw [q]
theorem yb : ka ρ = some (.ok []) := rfl
theorem va {A : FA} {vs : List Val} (q : E ρ = some (.ok v)) (q2 : A ρ = some (.ok vs)) : qa E A ρ = some (.ok (v :: vs)) := by
  unfold qa
  rw [q]
  dsimp only
  rw [q2]
theorem qbC {h : List Val → Option Val} {A : FA} {vs : List Val} (q : A ρ = some (.ok vs)) (e : h vs = some v) : eG h A ρ = some (.ok v) := by
  unfold eG
  rw [q]
  dsimp only
  rw [e]
  rfl
theorem qj {G : DF} {A : FA} {vs : List Val} {es : List D} {d : D} (q : A ρ = some (.ok vs)) (hs : zD vs = some es) (hn : vs.length = n) (e : G es = some (.ret d)) : kb G n A ρ = some (.ok (.s d)) := by
  unfold kb
  rw [q]
  dsimp only
  rw [if_pos hn, kaU hs, e]
  dsimp only
  rw [hs]
theorem zZ {G : DF} {A : FA} {vs : List Val} {es : List D} {ds : List D} (q : A ρ = some (.ok vs)) (hs : zD vs = some es) (hn : vs.length = n) (e : G es = some (.retF ds)) : kb G n A ρ = some (.ok (.f ds)) := by
  unfold kb
  rw [q]
  dsimp only
  rw [if_pos hn, kaU hs, e]
  dsimp only
  rw [hs]
theorem vc5 {G : DF} {A : FA} {vs : List Val} {es : List D} {ds : List D} (q : A ρ = some (.ok vs)) (hs : vs.map Val.d = es) (hn : vs.length = n) (e : G es = some (.retF ds)) (hd : ds.all yu = true) : kb G n A ρ = some (.ok (.f ds)) := by
  unfold kb
  rw [q]
  dsimp only
  rw [if_pos hn, hs, e]
  dsimp only
  cases zD vs with
  | some _ => rfl
  | none =>
    dsimp only
    rw [if_pos hd]
theorem jbO : ∀ ns : List Int, (ns.map PyData.int).all yu = true
  | [] => rfl
  | n :: ns => jbO ns
theorem wR {G : DF} {A : FA} {vs : List Val} {es : List D} {c : Nat} {j : Int} (q : A ρ = some (.ok vs)) (hs : zD vs = some es) (hn : vs.length = n) (e : G es = some (.exc c j)) : kb G n A ρ = some (.error (c, j)) := by
  unfold kb
  rw [q]
  dsimp only
  rw [if_pos hn, kaU hs, e]
theorem jb {d : D} (h : ρ[i]? = some (.dat d)) : eV i ρ = some (.ok (.s d)) := by
  unfold eV
  rw [h]
  rfl
theorem xch {x : Bool} (ha : fa ρ = some (.ok a)) (hb : fb ρ = some (.ok b)) (e : eqD a.d b.d = some x) : e2 qK fa fb ρ = some (.ok (.s (.bool x))) := xT ha hb (by unfold qK; rw [e]; rfl)
theorem qb0 {x : Bool} (ha : fa ρ = some (.ok a)) (hb : fb ρ = some (.ok b)) (e : eqD a.d b.d = some x) : e2 gNe fa fb ρ = some (.ok (.s (.bool (!x)))) := xT ha hb (by unfold gNe; rw [e]; rfl)
theorem yda {i j : Int} (ha : fa ρ = some (.ok (.s (.int i)))) (hb : fb ρ = some (.ok (.s (.int j)))) : e2 qK fa fb ρ = some (.ok (.s (.bool (i == j)))) := xch ha hb rfl
theorem xda {i j : Int} (ha : fa ρ = some (.ok (.s (.int i)))) (hb : fb ρ = some (.ok (.s (.int j)))) : e2 gNe fa fb ρ = some (.ok (.s (.bool (!(i == j))))) := qb0 ha hb rfl
theorem waH {i j : Int} (ha : fa ρ = some (.ok (.s (.int i)))) (hb : fb ρ = some (.ok (.s (.int j)))) (h : i = j) : tV (e2 qK fa fb) ρ = some (.ok true) := jah (yda ha hb) (by rw [beq_iff_eq.mpr h]; rfl)
theorem war {i j : Int} (ha : fa ρ = some (.ok (.s (.int i)))) (hb : fb ρ = some (.ok (.s (.int j)))) (h : i ≠ j) : tV (e2 qK fa fb) ρ = some (.ok false) := jah (yda ha hb) (by rw [beq_eq_false_iff_ne.mpr h]; rfl)
theorem zbM {i j : Int} (ha : fa ρ = some (.ok (.s (.int i)))) (hb : fb ρ = some (.ok (.s (.int j)))) (h : i = j) : tV (e2 gNe fa fb) ρ = some (.ok false) := jah (xda ha hb) (by rw [beq_iff_eq.mpr h]; rfl)
theorem zb0 {i j : Int} (ha : fa ρ = some (.ok (.s (.int i)))) (hb : fb ρ = some (.ok (.s (.int j)))) (h : i ≠ j) : tV (e2 gNe fa fb) ρ = some (.ok true) := jah (xda ha hb) (by rw [beq_eq_false_iff_ne.mpr h]; rfl)
theorem ydD {es : List D} {d : D} (ho : ρ[i]? = some (.own es)) (q : E ρ = some (.ok v)) (h : v.st = some d) (hl : es.length + 1 ≤ 16777216) (e : ρ.set i (.own (es ++ [d])) = ρ1) : qM i E ρ = some (.nx ρ1) := by
  rw [kdl]
  unfold qaN
  rw [ho]
  dsimp only
  unfold sE
  rw [q]
  dsimp only
  rw [h]
  dsimp only
  rw [if_pos (wD hl), ← e]
theorem kda {es us : List D} (ho : ρ[i]? = some (.own es)) (q : E ρ = some (.ok v)) (h : v.items = some us) (hl : es.length + us.length ≤ 16777216) (e : ρ.set i (.own (es ++ us)) = ρ1) : zaH i E ρ = some (.nx ρ1) := by
  rw [qdm]
  unfold qaN
  rw [ho]
  dsimp only
  unfold sE
  rw [q]
  dsimp only
  rw [h]
  dsimp only
  rw [if_pos (wD hl), ← e]
end
theorem vaA {vs : List Nat} {st : xb → D → Option xb} {a : FA} {tt : FT} {fe : FE} {ρ : xb} {n : Nat} {F : Nat → D} (h0 : noOwn ρ vs = true) (ha : yj a ρ = some (.ok (vk 0 n))) (hl : n ≤ 16777216)
    (h : ∀ k, k < n → ∃ ρ1 v, st (wq ρ vs) (.int (k : Int)) = some ρ1 ∧ tt ρ1 = some (.ok true) ∧ fe ρ1 = some (.ok v) ∧ v.st = some (F k)) : yE vs st (yj a) tt fe ρ = some (.ok (.f ((List.range n).map F))) := by
  have e : lcL tt fe (st (wq ρ vs)) (vk 0 n) = some ((List.range n).map F) := by
    rw [ya5]
    refine xbZ (fun (i : Nat) => PyData.int (0 + (i : Int))) F fun k hk => ?_
    rw [Int.zero_add]
    exact h k (List.mem_range.mp hk)
  unfold yE
  rw [if_pos h0, ha]
  dsimp only
  rw [e]
  dsimp only
  rw [if_pos (wD (by rw [List.length_map, List.length_range]; exact hl))]
theorem atI_nat {α : Type} {xs : List α} {i : Nat} (h : i < xs.length) : atI xs (i : Int) = some xs[i] := by
  rw [wcV (Int.natCast_nonneg i) (by omega)]
  simp
def jd (row : List Nat) : List D := row.map fun (n : Nat) => .int (n : Int)
@[simp] theorem yd4 : jd [] = [] := rfl
theorem kcE (n : Nat) (r : List Nat) : jd (n :: r) = .int (n : Int) :: jd r := rfl
theorem ybU (a b : List Nat) : jd (a ++ b) = jd a ++ jd b := List.map_append
theorem xI (r : List Nat) : (jd r).length = r.length := List.length_map ..
theorem vaH (r : List Nat) : jd r = (r.map fun (n : Nat) => (n : Int)).map PyData.int := by
  unfold jd
  rw [List.map_map]
  rfl
theorem vdu {a b : List Nat} (h : jd a = jd b) : a = b := by
  induction a generalizing b with
  | nil => cases b with
    | nil => rfl
    | cons _ _ => cases h
  | cons n a ih => cases b with
    | nil => cases h
    | cons m b =>
      rw [kcE, kcE] at h
      injection h with h1 h2
      injection h1 with h1
      rw [ih h2, Int.ofNat.inj h1]
theorem kch (a b : List Nat) : eqD (.list (jd a)) (.list (jd b)) = some (decide (a = b)) := by
  rw [vaH, vaH, wc5]
  congr 1
  apply decide_eq_decide.mpr
  constructor
  · intro h
    apply vdu
    rw [vaH, vaH, h]
  · intro h
    rw [h]
theorem qa7 (a : List Nat) : eqD (.list (jd a)) (.list (jd a)) = some true := by
  rw [kch]
  simp
theorem ydu {r : List Nat} {i : Nat} (h : i < r.length) : atI (jd r) (i : Int) = some (.int (r[i] : Nat)) := by
  have h' : i < (jd r).length := by rw [xI]; exact h
  rw [atI_nat h']
  simp [jd]
theorem xdD {r : List Nat} {i : Nat} {d : D} (h : (jd r)[i]? = some d) : ∃ hi : i < r.length, d = .int (r[i] : Nat) := by
  obtain ⟨hi, e⟩ := List.getElem?_eq_some_iff.mp h
  have hi' : i < r.length := by rw [xI] at hi; exact hi
  refine ⟨hi', ?_⟩
  rw [← e]
  simp [jd]
theorem yc5 {α : Type} (xs : List α) (i j : Nat) (hj : j ≤ xs.length) (hi : i ≤ j) : zah xs (some (i : Int)) (some (j : Int)) = (xs.drop i).take (j - i) := by
  unfold zah
  rw [HT.sIx_nat, HT.sIx_nat, Nat.min_eq_left hj, Nat.min_eq_left (Nat.le_trans hi hj)]
section
variable {ρ ρ1 : xb} {ds us : List D} {d : D} {E fa fb : FE} {A : FA} {vs : List Val} {i : Nat} {v : Val}
theorem qT {it : FI} {g : FG} {body : FS} {xs : List D} {o : Out} (q : it ρ = some (.ok xs)) (h : forL g body xs ρ = some o) : kD it g body ρ = some o := by
  unfold kD
  rw [q]
  exact h
theorem xdu {xs : List D} (q : E ρ = some (.ok (.f xs))) : xY E ρ = some (.ok xs) := by
  unfold xY
  rw [q]
theorem kdu {xs : List D} (q : E ρ = some (.ok (.s (.list xs)))) : xY E ρ = some (.ok xs) := by
  unfold xY
  rw [q]
theorem zbC {j : Int} (q : E ρ = some (.ok (.s (.int j)))) : zj E ρ = some (.ok (some j)) := by
  unfold zj
  rw [q]
  rfl
theorem jb0 {L R : FO} {lo hi : Option Int} {xs : List D} (q : E ρ = some (.ok v)) (hv : v = .s (.list xs) ∨ v = .b xs ∨ v = .f xs) (q1 : L ρ = some (.ok lo)) (q2 : R ρ = some (.ok hi)) : qB E L R ρ = some (.ok (.f (zah xs lo hi))) := by
  unfold qB
  rw [q]
  dsimp only
  rw [q1]
  dsimp only
  rw [q2]
  rcases hv with rfl | rfl | rfl <;> rfl
theorem kdD {g : Int → Int → Int} {a j : Int} (h : ρ[i]? = some (.dat (.int a))) (q : E ρ = some (.ok (.s (.int j)))) (e : ρ.set i (.dat (.int (g a j))) = ρ1) : kbY i g E ρ = some (.nx ρ1) := by
  unfold kbY
  rw [h]
  dsimp only
  unfold sE
  rw [q, ← e]
  rfl
theorem vdm {t : FT} {body : FS} {n : Nat} {o : Out} (h : wI t body n ρ = some o) (hn : n ≤ 1000000000) : qch t body ρ = some o := xa6 fuel h (by
  have e : fuel = 18446744073709551616 := rfl
  omega)
theorem vcV {t : FT} {body : FS} {n : Nat} (q : t ρ = some (.ok false)) : wI t body (n + 1) ρ = some (.nx ρ) := by
  unfold wI
  rw [q]
theorem jdJ {t : FT} {body : FS} {n : Nat} {o : Option Out} (q : t ρ = some (.ok true)) (q2 : body ρ = some (.nx ρ1)) (h : wI t body n ρ1 = o) : wI t body (n + 1) ρ = o := by
  unfold wI
  rw [q]
  dsimp only
  rw [q2]
  exact h
theorem yar {j : Int} (q : E ρ = some (.ok (.s (.int j)))) (h1 : -1000000000 < j) (h2 : j < 1000000000) : yj (qa E (ka)) ρ = some (.ok (vk 0 j.toNat)) := by
  unfold yj
  rw [va q yb]
  show (if vaz j = true then some (Except.ok (vk 0 j.toNat)) else none) = _
  rw [if_pos (qbM h1 h2)]
theorem r_b (h : ρ[i]? = some (.own ds)) : eV i ρ = some (.ok (.b ds)) := by
  unfold eV
  rw [h]
theorem zE (q : A ρ = some (.ok vs)) (h : zD vs = some ds) (hl : vs.length ≤ 16777216) : zw A ρ = some (.ok (.f ds)) := by
  unfold zw
  rw [q]
  dsimp only
  rw [if_pos (wD hl), h]
theorem kcd {es : List D} (q : E ρ = some (.ok v)) (h : v.d = .list es) : eG kl (qa E (ka)) ρ = some (.ok (.s (.int (es.length : Int)))) := by
  refine qbC (va q yb) ?_
  unfold kl
  dsimp only
  rw [h]
  rfl
theorem zbf {i j : Int} (ha : fa ρ = some (.ok (.s (.int i)))) (hb : fb ρ = some (.ok (.s (.int j)))) : e2 wc fa fb ρ = some (.ok (.s (.int (i + j)))) := xT ha hb rfl
theorem jbC {i j : Int} (ha : fa ρ = some (.ok (.s (.int i)))) (hb : fb ρ = some (.ok (.s (.int j)))) : e2 gSub fa fb ρ = some (.ok (.s (.int (i - j)))) := xT ha hb rfl
theorem ycV {i j : Int} (ha : fa ρ = some (.ok (.s (.int i)))) (hb : fb ρ = some (.ok (.s (.int j)))) (h : xbk i j = true) : e2 jt fa fb ρ = some (.ok (.s (.int (i * j)))) := xT ha hb (by
  show (if xbk i j = true then some (Val.s (.int (i * j))) else none) = _
  rw [if_pos h])
theorem xcV {i j : Int} (ha : fa ρ = some (.ok (.s (.int i)))) (hb : fb ρ = some (.ok (.s (.int j)))) (h : 0 < j) : e2 qam fa fb ρ = some (.ok (.s (.int (i % j)))) := xT ha hb (by
  show (if ycG i j = true then some (Val.s (.int (i % j))) else none) = _
  rw [if_pos (vbZ h)])
theorem qdv {i j : Int} (ha : fa ρ = some (.ok (.s (.int i)))) (hb : fb ρ = some (.ok (.s (.int j)))) (h : 0 < j) (h2 : j < 1000000000) : e2 xbA fa fb ρ = some (.ok (.s (.int (i / j)))) := xT ha hb (by
  show (if vbY i j = true then some (Val.s (.int (i / j))) else none) = _
  rw [if_pos (ybZ h (by omega))])
theorem xcI {i : Int} (ha : fa ρ = some (.ok (.s (.int i)))) : eG jY (qa fa (ka)) ρ = some (.ok (.s (.int i))) := qbC (va ha yb) rfl
theorem qdb {i j : Int} (ha : fa ρ = some (.ok (.s (.int i)))) (hb : fb ρ = some (.ok (.s (.int j)))) : tV (e2 wz fa fb) ρ = some (.ok (decide (j < i))) := jah (xT ha hb rfl) rfl
theorem zdb {i j : Int} (ha : fa ρ = some (.ok (.s (.int i)))) (hb : fb ρ = some (.ok (.s (.int j)))) : tV (e2 vT fa fb) ρ = some (.ok (decide (i < j))) := jah (xT ha hb rfl) rfl
theorem xK {i j : Int} (ha : fa ρ = some (.ok (.s (.int i)))) (hb : fb ρ = some (.ok (.s (.int j)))) (h : j < i) : tV (e2 wz fa fb) ρ = some (.ok true) := by rw [qdb ha hb, decide_eq_true h]
theorem kK {i j : Int} (ha : fa ρ = some (.ok (.s (.int i)))) (hb : fb ρ = some (.ok (.s (.int j)))) (h : i ≤ j) : tV (e2 wz fa fb) ρ = some (.ok false) := by rw [qdb ha hb, decide_eq_false (by omega)]
theorem xar {i j : Int} (ha : fa ρ = some (.ok (.s (.int i)))) (hb : fb ρ = some (.ok (.s (.int j)))) (h : i < j) : tV (e2 vT fa fb) ρ = some (.ok true) := by rw [zdb ha hb, decide_eq_true h]
theorem jZ {i j : Int} (ha : fa ρ = some (.ok (.s (.int i)))) (hb : fb ρ = some (.ok (.s (.int j)))) (h : j ≤ i) : tV (e2 vT fa fb) ρ = some (.ok false) := by rw [zdb ha hb, decide_eq_false (by omega)]
theorem zdv {es : List D} {j : Int} (ha : fa ρ = some (.ok (.s (.list es)))) (hb : fb ρ = some (.ok (.s (.int j)))) (h : atI es j = some d) : e2 vi fa fb ρ = some (.ok (.s d)) := xT ha hb (by
  show (atI es j).map Val.s = _
  rw [h]
  rfl)
theorem xbU {xs ys : List D} {a b : Val} (ha : fa ρ = some (.ok a)) (hb : fb ρ = some (.ok b)) (h1 : a.items = some xs) (h2 : b.items = some ys) (hn : xcG a b = none) (hl : xs.length + ys.length ≤ 16777216) : e2 wc fa fb ρ = some (.ok (.f (xs ++ ys))) := xT ha hb (by
  unfold wc
  rw [hn]
  show jcf a b = _
  unfold jcf
  rw [h1, h2]
  dsimp only
  rw [if_pos (wD hl)])
end
section
variable {f g : FS} {ρ ρ1 : xb} {o : Option Out} {n k : Nat} {ds : List D} {d : D} {E F fa fb fc : FE} {t u : FT} {i : Nat} {v a b : Val} {c : Nat} {j : Int}
theorem vG (h1 : f ρ = some (.exc ρ1 c j)) : vb f g ρ = some (.exc ρ1 c j) := by
  unfold vb
  rw [h1]
theorem qdE (h1 : f ρ = some (.retF ds)) : vb f g ρ = some (.retF ds) := by
  unfold vb
  rw [h1]
theorem xE (q : E ρ = some (.ok (.s (.int j)))) : yi c E ρ = some (.exc ρ c j) := by
  rw [zcV]
  unfold sE
  rw [q]
  rfl
theorem jdv {h : HF} (q : f ρ = some (.nx ρ1)) : vaB f h ρ = some (.nx ρ1) := by
  unfold vaB
  rw [q]
theorem wdv {h : HF} (q : f ρ = some (.ret d)) : vaB f h ρ = some (.ret d) := by
  unfold vaB
  rw [q]
theorem kcV {h : HF} (q : f ρ = some (.exc ρ1 c j)) (q2 : h c j ρ1 = o) : vaB f h ρ = o := by
  unfold vaB
  rw [q]
  exact q2
theorem yF {A : FA} {vs : List Val} (q : A ρ = some (.ok vs)) (h : zD vs = some ds) (hl : vs.length ≤ 16777216) : jn A ρ = some (.ok (.s (.tuple ds))) := by
  unfold jn
  rw [q]
  dsimp only
  rw [if_pos (wD hl), h]
theorem vdv (q : E ρ = some (.error (c, j))) : vh E ρ = some (.exc ρ c j) := by
  rw [xbL]
  unfold sE
  rw [q]
theorem ydv (q : E ρ = some (.error (c, j))) : je i E ρ = some (.exc ρ c j) := by
  rw [vcE]
  unfold sE
  rw [q]
end
theorem qcW (r : List Nat) : PyData.canLayAll0 (jd r) = true := by
  rw [vaH]
  exact ka6 _
theorem xc5 (r : List Nat) : PyData.depthAll (jd r) = 0 := by
  rw [vaH]
  exact depth_ints _
end DL
namespace FL
open PySem PySem.Spec PyProof.Rows L2 DL FN
def atD (ds : List Int) (k many : Int) : Int := if k < ds.length then (ds.getD k.toNat 0) % many else 0
theorem vb6 (ds : List Int) (k many : Int) (hk : 0 ≤ k) (hm : 0 < many) : kf [.list (ds.map .int), .int k, .int many] = some (.ret (.int (atD ds k many))) := by
  unfold kf yk atD
  by_cases h : k < ds.length
  · have e := wcV hk h
    simp [wdm, e, h, hk, hm, ycG]
  · simp [h, hk, hm]
def Drawn (ds : List Int) : Prop := ∀ d ∈ ds, 0 ≤ d ∧ d < 65536
theorem kbC {ds : List Int} {d : Int} (h : Drawn ds) (h0 : 0 ≤ d) (h1 : d < 65536) : Drawn (ds ++ [d]) := fun x hx => by
  rcases List.mem_append.mp hx with hx | hx
  · exact h x hx
  · rw [List.mem_singleton.mp hx]
    exact ⟨h0, h1⟩
theorem zc6 (s0 s2 s4 s5 : DL.Slot) (ds : List Int) (rest : Int) (hd : Drawn ds) (hl : ds.length ≤ 60 * 63) (h0 : 0 ≤ rest) : ∃ (es : List Int) (r : Int) (s4' : DL.Slot), Drawn es ∧ es.length ≤ ds.length + 60 ∧
    forL (gN 4) (kh (tV (e2 wz (eV 3) (eC (.int 0)))) (vb (qM 1 (e2 qam (eG jY (qa (eV 3) (ka))) (eC (.int 65536)))) (je 3 (e2 xbA (eV 3) (eC (.int 65536))))) (ki)) (vk 0 60) [s0, .own (ds.map .int), s2, .dat (.int rest), s4, s5]
      = some (.nx [s0, .own (es.map .int), s2, .dat (.int r), s4', s5]) := by
  have key := yT (g := gN 4) (ds := vk 0 60) (ρ := [s0, .own (ds.map .int), s2, .dat (.int rest), s4, s5])
    (body := kh (tV (e2 wz (eV 3) (eC (.int 0)))) (vb (qM 1 (e2 qam (eG jY (qa (eV 3) (ka))) (eC (.int 65536)))) (je 3 (e2 xbA (eV 3) (eC (.int 65536))))) (ki))
    (fun j ρ => ∃ (es : List Int) (r : Int) (s4 : DL.Slot), ρ = [s0, .own (es.map .int), s2, .dat (.int r), s4, s5] ∧ Drawn es ∧ es.length ≤ ds.length + j ∧ 0 ≤ r ∧ j ≤ 60)
    ⟨ds, rest, s4, rfl, hd, Nat.le_refl _, h0, by decide⟩ (by
      rintro j d ρ hj ⟨es, r, s4, rfl, he, hel, hr, _⟩
      have hj : j < 60 := by simpa [vk] using (List.getElem?_eq_some_iff.mp hj).1
      by_cases hpos : 0 < r
      · refine ⟨_, _, rfl, ?_, es ++ [r % 65536], r / 65536, .dat d, rfl, kbC he (by omega) (by omega), by simp; omega, by omega, hj⟩
        have hln : zz (es.length + 1) = true := wD (by omega)
        simp [hpos, vbZ, ybZ, hln]
      · refine ⟨_, _, rfl, ?_, es, r, .dat d, rfl, he, by omega, hr, hj⟩
        simp [hpos])
  obtain ⟨ρ', h1, es, r, s4', rfl, h3, h4, _⟩ := key
  refine ⟨es, r, s4', h3, ?_, h1⟩
  simpa [vk] using h4
def yaW : FS := vb (je 3 (eG kcG (qa (e2 vi (eV 0) (eV 2)) (ka)))) (kh (tV (e2 zJ (eV 3) (e2 kc2 (eC (.int 10)) (eC (.int 18))))) (kD (yj (qa (eC (.int 60)) (ka))) (gN 4) (kh (tV (e2 wz (eV 3) (eC (.int 0)))) (vb (qM 1 (e2 qam (eG jY (qa (eV 3) (ka))) (eC (.int 65536)))) (je 3 (e2 xbA (eV 3) (eC (.int 65536))))) (ki))) (vb (je 5 (e2 qam (eG jY (qa (e2 wc (e2 jt (eV 3) (eC (.int 48271))) (e2 jt (e2 wc (eV 2) (eC (.int 1))) (eC (.int 69621)))) (ka))) (eC (.int 2147483647)))) (vb (je 5 (e2 qam (eG jY (qa (e2 wc (e2 wc (e2 jt (eV 5) (eC (.int 16807))) (e2 jt (eC (.int 11)) (eV 2))) (eC (.int 5))) (ka))) (eC (.int 2147483629)))) (vb (qM 1 (e2 qam (eG jY (qa (eV 5) (ka))) (eC (.int 65536)))) (qM 1 (e2 qam (eG jY (qa (e2 xbA (eV 5) (eC (.int 65536))) (ka))) (eC (.int 32768))))))))
theorem qcJ (ks : List (D × D)) (cell i : Int) (s3 s4 s5 : DL.Slot) (ds : List Int) (hd : Drawn ds) (hl : ds.length ≤ 60 * 62) (hat : atI ks i = some (.int cell, .none)) (hex : qbY ks = false) :
    ∃ (es : List Int) (s3' s4' s5' : DL.Slot), Drawn es ∧ es.length ≤ ds.length + 60 ∧ yaW [.dat (.dict ks), .own (ds.map .int), .dat (.int i), s3, s4, s5] = some (.nx [.dat (.dict ks), .own (es.map .int), .dat (.int i), s3', s4', s5']) := by
  generalize hrest : (if cell < 0 then -cell else cell) = rest
  have h0 : 0 ≤ rest := by rw [← hrest]; split <;> omega
  by_cases hbig : (1000000000000000000 : Int) ≤ rest
  · obtain ⟨es, r, s4', he, hel, h3⟩ := zc6 (.dat (.dict ks)) (.dat (.int i)) s4 s5 ds rest hd (by omega) h0
    refine ⟨es, .dat (.int r), s4', s5, he, hel, ?_⟩
    simp [yaW, hat, hex, hrest, hbig, jaV, h3, qbM]
  · have hln : ∀ m, m ≤ 3790 → zz m = true := fun m h => wD (by omega)
    generalize hm1 : (rest * 48271 + (i + 1) * 69621) % 2147483647 = m1
    generalize hm2 : (m1 * 16807 + 11 * i + 5) % 2147483629 = m2
    refine ⟨ds ++ [m2 % 65536] ++ [m2 / 65536 % 32768], .dat (.int rest), s4, .dat (.int m2), kbC (kbC hd (by omega) (by omega)) (by omega) (by omega), by simp, ?_⟩
    simp [yaW, hat, hex, hrest, hbig, jaV, jch, wch, vbZ, ybZ, hm1, hm2, hln (ds.length + 1) (by omega), hln (ds.length + 1 + 1) (by omega)]
theorem wci (ns : List Int) (hl : ns.length ≤ 63) : ∃ ds : List Int, Drawn ds ∧ ds.length ≤ 3780 ∧ jaC [scr ns] = some (.retF (ds.map .int)) := by
  have hmin : (if ((ns.length : Nat) : Int) < 63 then ((ns.length : Nat) : Int) else 63) = (ns.length : Int) := by split <;> omega
  have key := yT (g := gN 2) (ds := vk 0 ns.length) (ρ := [.dat (scr ns), .own [], .un, .un, .un, .un]) (body := yaW)
    (fun i ρ => ∃ (ds : List Int) (s2 s3 s4 s5 : DL.Slot), ρ = [.dat (scr ns), .own (ds.map .int), s2, s3, s4, s5] ∧ Drawn ds ∧ ds.length ≤ 60 * i ∧ i ≤ ns.length)
    ⟨[], _, _, _, _, rfl, (fun _ h => nomatch h), Nat.zero_le _, Nat.zero_le _⟩ (by
      rintro i d ρ hd ⟨ds, s2, s3, s4, s5, rfl, hdr, hlen, _⟩
      have hi : i < ns.length := by simpa [vk] using (List.getElem?_eq_some_iff.mp hd).1
      have ed : d = .int i := by
        rw [ya5, List.getElem?_map, List.getElem?_range hi] at hd
        cases hd
        simp
      subst ed
      have hat : atI (ns.map fun n => ((PyData.int n, PyData.none) : D × D)) (i : Int) = some (.int ns[i], .none) := by
        rw [atI_nat (j := i) (v := (.int ns[i], .none))]
        rw [List.getElem?_map, List.getElem?_eq_getElem hi]
        rfl
      obtain ⟨es, s3', s4', s5', h1, h2, h3⟩ := qcJ _ _ i s3 s4 s5 ds hdr (by omega) hat (wce ns)
      exact ⟨_, _, rfl, h3, es, _, _, _, _, rfl, h1, by omega, hi⟩)
  obtain ⟨ρ', h1, ds, s2, s3, s4, s5, rfl, hd, hlen, _⟩ := key
  have hlen' : ds.length ≤ 3780 := by
    have e : (vk 0 ns.length).length = ns.length := by simp [vk]
    rw [e] at hlen
    omega
  refine ⟨ds, hd, hlen', ?_⟩
  have hr : vaz (ns.length : Int) = true := by simp [vaz]; omega
  unfold yaW at h1
  simp [jaC, waC, hmin, hr, h1, zz]
theorem vci (ds : List Int) (k m : Int) (hm : 0 < m) : 0 ≤ atD ds k m := by
  unfold atD
  split
  · exact Int.emod_nonneg _ (by omega)
  · exact Int.le_refl _
theorem kcW (ds : List Int) (k m : Int) (hm : 0 < m) : atD ds k m < m := by
  unfold atD
  split
  · exact Int.emod_lt_of_pos _ hm
  · exact hm
theorem yci {fa fb fc : FE} {ρ : xb} {ds : List Int} {k m : Int} (h1 : fa ρ = some (.ok (.s (.list (ds.map .int))))) (h2 : fb ρ = some (.ok (.s (.int k)))) (h3 : fc ρ = some (.ok (.s (.int m)))) (hk : 0 ≤ k) (hm : 0 < m) :
    kb kf 3 (qa fa (qa fb (qa fc (ka)))) ρ = some (.ok (.s (.int (atD ds k m)))) := qj (va h1 (va h2 (va h3 yb))) rfl rfl (vb6 ds k m hk hm)
theorem wZ (ds : List Int) (k m : Int) (hm : 0 < m) : ∃ n : Nat, (n : Int) = atD ds k m ∧ (n : Int) < m :=
  ⟨(atD ds k m).toNat, Int.toNat_of_nonneg (vci ds k m hm), by rw [Int.toNat_of_nonneg (vci ds k m hm)]; exact kcW ds k m hm⟩
end FL
namespace CR
def P : Nat := 3988292384
def f (x : Nat) : Nat := (x / 2) ^^^ (if x % 2 = 1 then P else 0)
theorem wbk (a b : Nat) : (a ^^^ b) % 2 = (a % 2) ^^^ (b % 2) := Nat.xor_mod_two_pow (n := 1)
theorem wdp (a b c d : Nat) : (a ^^^ b) ^^^ (c ^^^ d) = (a ^^^ c) ^^^ (b ^^^ d) := by
  rw [Nat.xor_assoc, Nat.xor_assoc, ← Nat.xor_assoc b, Nat.xor_comm b c, Nat.xor_assoc c]
theorem xz (a : Nat) : a ^^^ 0 = a := Nat.xor_zero a
theorem vbS (a b : Nat) : f (a ^^^ b) = f a ^^^ f b := by
  unfold f
  rw [Nat.xor_div_two, wbk, wdp]
  congr 1
  rcases Nat.mod_two_eq_zero_or_one a with h | h <;> rcases Nat.mod_two_eq_zero_or_one b with h' | h' <;> rw [h, h'] <;> simp
theorem ybS (a : Nat) : f (2 * a) = a := by
  unfold f
  rw [Nat.mul_div_cancel_left _ (by decide), Nat.mul_mod_right]
  exact xz a
def HV : List Nat := [0, 498536548, 997073096, 651767980, 1994146192, 1802195444, 1303535960, 1342533948, 3988292384, 4027552580, 3604390888, 3412177804, 2607071920, 2262029012, 2685067896, 3183342108]
def g (x : Nat) : Nat := (x / 16) ^^^ (HV.getD (x % 16) 0)
theorem hv4 : ∀ l : Fin 16, f (f (f (f l.1))) = HV.getD l.1 0 := by decide
theorem cancel {a b c : Nat} (h : a ^^^ b = c) : a = c ^^^ b := by
  rw [← h, Nat.xor_assoc, Nat.xor_self, xz]
theorem g_f (x : Nat) : g x = f (f (f (f x))) := by
  have h1 : (x ^^^ x % 16) % 16 = 0 := by
    have q := Nat.xor_mod_two_pow (a := x) (b := x % 16) (n := 4)
    simp only [show (2 : Nat) ^ 4 = 16 from rfl] at q
    rw [q, Nat.mod_mod, Nat.xor_self]
  have h2 : (x ^^^ x % 16) / 16 = x / 16 := by
    have q := Nat.xor_div_two_pow (a := x) (b := x % 16) (n := 4)
    simp only [show (2 : Nat) ^ 4 = 16 from rfl] at q
    rw [q, Nat.div_eq_of_lt (Nat.mod_lt x (by decide)), xz]
  have h3 : x ^^^ x % 16 = 2 * (2 * (2 * (2 * (x / 16)))) := by omega
  have h4 : f (f (f (f (x ^^^ x % 16)))) = x / 16 := by
    rw [h3, ybS, ybS, ybS, ybS]
  rw [vbS, vbS, vbS, vbS] at h4
  rw [cancel h4, hv4 ⟨x % 16, Nat.mod_lt x (by decide)⟩]
  rfl
theorem kaK (s b : Nat) : f (s ^^^ b) = f (s ^^^ b % 2) ^^^ (b / 2) := by
  have h1 : (b ^^^ b % 2) % 2 = 0 := by
    rw [wbk, Nat.mod_mod, Nat.xor_self]
  have h2 : (b ^^^ b % 2) / 2 = b / 2 := by
    rw [Nat.xor_div_two, Nat.div_eq_of_lt (Nat.mod_lt b (by decide)), xz]
  have h3 : b ^^^ b % 2 = 2 * (b / 2) := by omega
  have h4 : f (b ^^^ b % 2) = b / 2 := by rw [h3, ybS]
  have h5 : s ^^^ b = (s ^^^ b % 2) ^^^ (b ^^^ b % 2) := by
    rw [wdp, Nat.xor_comm (b % 2), ← Nat.xor_assoc, Nat.xor_assoc (s ^^^ b), Nat.xor_self, xz]
  rw [h5, vbS, h4]
def crc (β : Nat → Nat) (r : Nat) : Nat → Nat
  | 0 => r
  | n + 1 => f (crc β r n ^^^ β n)
theorem zbQ (β : Nat → Nat) (r i b : Nat) (hb : b < 256) (h : ∀ j < 8, β (8 * i + j) = b / 2 ^ j % 2) : crc β r (8 * (i + 1)) = g (g (crc β r (8 * i) ^^^ b)) := by
  generalize hs : crc β r (8 * i) = s
  have e : crc β r (8 * (i + 1)) = f (f (f (f (f (f (f (f (s ^^^ β (8 * i)) ^^^ β (8 * i + 1)) ^^^ β (8 * i + 2)) ^^^ β (8 * i + 3)) ^^^ β (8 * i + 4)) ^^^ β (8 * i + 5)) ^^^ β (8 * i + 6)) ^^^ β (8 * i + 7)) := by
    rw [← hs]
    rfl
  rw [e, h 1 (by omega), h 2 (by omega), h 3 (by omega), h 4 (by omega), h 5 (by omega), h 6 (by omega), h 7 (by omega)]
  have h0 : β (8 * i) = b % 2 := by
    have q := h 0 (by omega)
    rw [Nat.add_zero] at q
    rw [q]
    simp
  rw [h0, g_f, g_f, kaK s b, kaK _ (b / 2), kaK _ (b / 2 / 2), kaK _ (b / 2 / 2 / 2), kaK _ (b / 2 / 2 / 2 / 2), kaK _ (b / 2 / 2 / 2 / 2 / 2), kaK _ (b / 2 / 2 / 2 / 2 / 2 / 2), kaK _ (b / 2 / 2 / 2 / 2 / 2 / 2 / 2)]
  have e7 : b / 2 / 2 / 2 / 2 / 2 / 2 / 2 / 2 = 0 := by omega
  rw [e7, xz]
  simp only [Nat.div_div_eq_div_mul]
theorem jdH {x : Nat} (hx : x < 2 ^ 32) : f x < 2 ^ 32 := by
  unfold f
  refine Nat.xor_lt_two_pow (by omega) ?_
  split
  · decide
  · decide
theorem xcS (β : Nat → Nat) (r : Nat) (hr : r < 2 ^ 32) (hb : ∀ k, β k < 2) : ∀ n, crc β r n < 2 ^ 32
  | 0 => hr
  | n + 1 => jdH (Nat.xor_lt_two_pow (xcS β r hr hb n) (by have := hb n; omega))
end CR
namespace FL
open PySem PySem.Spec PyProof.Rows L2 DL FN
open CR (crc g HV)
theorem bx (a b : Nat) : Builtin.bitXor (a : Int) (b : Int) = ((a ^^^ b : Nat) : Int) := by
  rw [Bits.bitXor_pp (Int.natCast_nonneg a) (Int.natCast_nonneg b)]
  rfl
def J (row : List Nat) : List Int := row.map fun (n : Nat) => (n : Int)
theorem zdE (s : Nat) : atI [PyData.int 0, .int 498536548, .int 997073096, .int 651767980, .int 1994146192, .int 1802195444, .int 1303535960, .int 1342533948, .int 3988292384, .int 4027552580, .int 3604390888, .int 3412177804, .int 2607071920, .int 2262029012, .int 2685067896, .int 3183342108] ((s : Int) % 16) = some (.int ((HV.getD (s % 16) 0 : Nat) : Int)) := by
  have e : ((s : Int) % 16) = ((s % 16 : Nat) : Int) := by omega
  rw [e]
  have h : s % 16 < 16 := Nat.mod_lt _ (by decide)
  have k : ∀ l : Fin 16, atI [PyData.int 0, .int 498536548, .int 997073096, .int 651767980, .int 1994146192, .int 1802195444, .int 1303535960, .int 1342533948, .int 3988292384, .int 4027552580, .int 3604390888, .int 3412177804, .int 2607071920, .int 2262029012, .int 2685067896, .int 3183342108] (l.1 : Int) = some (.int ((HV.getD l.1 0 : Nat) : Int)) := by
    intro l
    rcases l with ⟨l, hl⟩
    rcases (show l = 0 ∨ l = 1 ∨ l = 2 ∨ l = 3 ∨ l = 4 ∨ l = 5 ∨ l = 6 ∨ l = 7 ∨ l = 8 ∨ l = 9 ∨ l = 10 ∨ l = 11 ∨ l = 12 ∨ l = 13 ∨ l = 14 ∨ l = 15 by omega) with h | h | h | h | h | h | h | h | h | h | h | h | h | h | h | h <;> subst h <;> rfl
  exact k ⟨s % 16, h⟩
def zH (row : List Nat) (k : Nat) : Nat := row.getD (k / 8) 0 / 2 ^ (k % 8) % 2
theorem yc6 (row : List Nat) (k : Nat) : zH row k < 2 := Nat.mod_lt _ (by decide)
theorem kci (row : List Nat) (i j : Nat) (hj : j < 8) : zH row (8 * i + j) = row.getD i 0 / 2 ^ j % 2 := by
  unfold zH
  rw [show (8 * i + j) / 8 = i by omega, show (8 * i + j) % 8 = j by omega]
def sumOf (row : List Nat) : Nat := crc (zH row) 4294967295 (8 * row.length) ^^^ 4294967295
theorem ydJ {row : List Nat} {i : Nat} {d : D} (h : ((J row).map PyData.int)[i]? = some d) : ∃ hi : i < row.length, d = .int (row[i] : Nat) := by
  obtain ⟨hi, e⟩ := List.getElem?_eq_some_iff.mp h
  simp [J] at hi e
  exact ⟨hi, e.symm⟩
def kaL : FS := vb (je 4 (e2 qw (e2 qah (e2 xC (eV 2) (eV 3)) (eV 1)) (eC (.int 1)))) (vb (je 1 (e2 xC (eV 1) (eC (.int 1)))) (kh (tV (e2 qK (eV 4) (eC (.int 1)))) (je 1 (e2 qah (eV 1) (eC (.int 3988292384)))) (ki)))
theorem xdJ (s b k : Nat) : CR.f (s ^^^ b / 2 ^ k % 2) = s / 2 ^^^ (if (b / 2 ^ k ^^^ s) % 2 = 1 then 3988292384 else 0) := by
  unfold CR.f
  rw [Nat.xor_div_two, Nat.div_eq_of_lt (Nat.mod_lt (b / 2 ^ k) (by decide)), Nat.xor_zero, CR.wbk, CR.wbk (b / 2 ^ k), Nat.mod_mod, Nat.xor_comm (s % 2)]
  rfl
theorem jdo (s0 s4 : DL.Slot) (s b k : Nat) : ∃ s4', kaL [s0, .dat (.int s), .dat (.int b), .dat (.int k), s4] = some (.nx [s0, .dat (.int (CR.f (s ^^^ b / 2 ^ k % 2) : Nat)), .dat (.int b), .dat (.int k), s4']) := by
  have e1 : ((b : Int) / 2 ^ (k : Int).toNat) = ((b / 2 ^ k : Nat) : Int) := by
    rw [Int.toNat_natCast]
    norm_cast
  have e2 : ((s : Int) / 2) = ((s / 2 : Nat) : Int) := by omega
  have e4 : Builtin.bitXor ((s / 2 : Nat) : Int) 3988292384 = ((s / 2 ^^^ 3988292384 : Nat) : Int) := bx _ _
  have hk : ybY (b : Int) (k : Int) = true := kbL (Int.natCast_nonneg k)
  have hs : ybY (s : Int) 1 = true := rfl
  rw [xdJ]
  refine ⟨.dat (.int (((b / 2 ^ k ^^^ s : Nat) : Int) % 2)), ?_⟩
  by_cases h : (b / 2 ^ k ^^^ s) % 2 = 1
  · have h' : ((b / 2 ^ k ^^^ s : Nat) : Int) % 2 = 1 := by omega
    rw [if_pos h, h']
    simp [kaL, hk, hs, e1, e2, bx, bitAnd_m1, h', e4, -Int.toNat_natCast, -Int.natCast_ediv]
  · have h' : ((b / 2 ^ k ^^^ s : Nat) : Int) % 2 = 0 := by omega
    rw [if_neg h, h']
    simp [kaL, hk, hs, e1, e2, bx, bitAnd_m1, h', -Int.toNat_natCast, -Int.natCast_ediv]
theorem wdo (s0 s3 s4 : DL.Slot) (s b : Nat) (hb : b < 256) : ∃ s3' s4', kD (yj (qa (eC (.int 8)) (ka))) (gN 3) kaL [s0, .dat (.int s), .dat (.int b), s3, s4] = some (.nx [s0, .dat (.int (g (g (s ^^^ b)) : Nat)), .dat (.int b), s3', s4']) := by
  have key := yT (g := gN 3) (ds := vk 0 8) (ρ := [s0, .dat (.int s), .dat (.int b), s3, s4]) (body := kaL)
    (fun i ρ => ∃ s3 s4, ρ = [s0, .dat (.int (crc (fun j => b / 2 ^ j % 2) s i : Nat)), .dat (.int b), s3, s4])
    ⟨_, _, rfl⟩ (by
      rintro i d ρ hd ⟨s3, s4, rfl⟩
      have hi : i < 8 := by simpa [vk] using (List.getElem?_eq_some_iff.mp hd).1
      have ed : d = .int i := by
        rw [ya5, List.getElem?_map, List.getElem?_range hi] at hd
        cases hd
        simp
      subst ed
      obtain ⟨s4', h⟩ := jdo s0 s4 (crc (fun j => b / 2 ^ j % 2) s i) b i
      exact ⟨_, _, rfl, h, _, _, rfl⟩)
  obtain ⟨ρ', h1, s3', s4', rfl⟩ := key
  refine ⟨s3', s4', ?_⟩
  have h2 : crc (fun j => b / 2 ^ j % 2) s 8 = g (g (s ^^^ b)) := by
    have q := CR.zbQ (fun j => b / 2 ^ j % 2) s 0 b hb (fun j _ => by rw [Nat.mul_zero, Nat.zero_add])
    exact q
  have e : (vk 0 8).length = 8 := by simp [vk]
  rw [e, h2] at h1
  have hr : vaz 8 = true := by decide
  simp [hr, h1]
theorem qck (row : List Nat) (hr : ∀ b ∈ row, b < 256) : zx [.list ((J row).map .int)] = some (.ret (.int (sumOf row : Nat))) := by
  have key := yT (g := gN 2) (ds := (J row).map .int) (ρ := [.dat (.list ((J row).map .int)), .dat (.int 4294967295), .un, .un, .un]) (body := kD (yj (qa (eC (.int 8)) (ka))) (gN 3) kaL)
    (fun i ρ => ∃ s2 s3 s4, ρ = [.dat (.list ((J row).map .int)), .dat (.int (crc (zH row) 4294967295 (8 * i) : Nat)), s2, s3, s4])
    ⟨_, _, _, rfl⟩ (by
      rintro i d ρ hd ⟨s2, s3, s4, rfl⟩
      obtain ⟨hi, rfl⟩ := ydJ hd
      have hb := hr _ (List.getElem_mem hi)
      obtain ⟨s3', s4', h⟩ := wdo (.dat (.list ((J row).map .int))) s3 s4 (crc (zH row) 4294967295 (8 * i)) row[i] hb
      refine ⟨_, _, rfl, h, .dat (.int (row[i] : Nat)), s3', s4', ?_⟩
      rw [CR.zbQ (zH row) 4294967295 i row[i] hb (fun j hj => by rw [kci _ _ _ hj]; simp [hi])])
  obtain ⟨ρ', h1, s2, s3, s4, rfl⟩ := key
  have e : ((J row).map PyData.int).length = row.length := by simp [J]
  rw [e] at h1
  have ex : Builtin.bitXor ((crc (zH row) 4294967295 (8 * row.length) : Nat) : Int) 4294967295 = (sumOf row : Nat) := bx _ _
  have e3 : jM = vb (je 1 (eC (.int 4294967295))) (vb (kD (xY (eV 0)) (gN 2) (kD (yj (qa (eC (.int 8)) (ka))) (gN 3) kaL)) (vh (e2 qah (eV 1) (eC (.int 4294967295))))) := rfl
  generalize kD (yj (qa (eC (.int 8)) (ka))) (gN 3) kaL = body at h1 e3
  simp [zx, e3, h1, ex]
def zce (n : Int) : List Int := [n % 256, n / 256 % 256, n / 65536 % 256, n / 16777216 % 256]
theorem vb7 (n : Int) : kn [.int n] = some (.retF ((zce n).map .int)) := by
  have h : ∀ k : Int, 0 ≤ k → ybY n k = true := fun k => kbL
  simp [kn, yG, h, bitAnd_m8, zce, zz]
theorem zck (a b c d : Int) (hb : 0 ≤ b) (hb' : b < 256) (hc : 0 ≤ c) (hc' : c < 256) (hd : 0 ≤ d) (hd' : d < 256) : kF [.list [.int a, .int b, .int c, .int d]] = some (.ret (.int (a + b * 256 + c * 65536 + d * 16777216))) := by
  have h1 : ya6 b 8 = true := jaV (by omega) (by omega) (by omega) (by omega)
  have h2 : ya6 c 16 = true := jaV (by omega) (by omega) (by omega) (by omega)
  have h3 : ya6 d 24 = true := jaV (by omega) (by omega) (by omega) (by omega)
  simp [kF, kT, h1, h2, h3, atI, ixN]
end FL
namespace SN
def val (b : Nat → Nat) : Nat → Nat
  | 0 => 0
  | k + 1 => val b k + (b k % 128) * 128 ^ k
theorem kbK (b : Nat → Nat) : ∀ k, val b (k + 1) = b 0 % 128 + 128 * val (fun j => b (j + 1)) k
  | 0 => by simp [val]
  | k + 1 => by
    have q := kbK b k
    rw [val, q]
    show _ = b 0 % 128 + 128 * (val (fun j => b (j + 1)) k + (b (k + 1) % 128) * 128 ^ k)
    rw [Nat.mul_add, Nat.pow_succ, Nat.mul_left_comm 128, Nat.mul_comm (128 ^ k) 128, Nat.add_assoc]
def steps (n : Nat) : List Nat := if h : n < 128 then [n] else (n % 128 + 128) :: steps (n / 128)
termination_by n
decreasing_by omega
theorem qaA {n : Nat} (h : n < 128) : steps n = [n] := by
  rw [steps, dif_pos h]
theorem kbl {n : Nat} (h : 128 ≤ n) : steps n = (n % 128 + 128) :: steps (n / 128) := by
  rw [steps, dif_neg (by omega)]
structure Ends (b : Nat → Nat) (p : Nat) : Prop where
  big : ∀ j, j < p → 128 ≤ b j
  small : b p < 128
structure Spec (n : Nat) (l : List Nat) (p : Nat) : Prop where
  len : l.length = p + 1
  ends : Ends (fun j => l.getD j 0) p
  val : val (fun j => l.getD j 0) (p + 1) = n
  ydE : 0 < p → l.getD p 0 ≠ 0
  size : 0 < p → 128 ^ p ≤ n
  byte : ∀ x ∈ l, x < 256
theorem spec : ∀ (m n : Nat), n ≤ m → ∃ p, Spec n (steps n) p := by
  intro m
  induction m with
  | zero =>
    intro n hn
    have e : n = 0 := by omega
    subst e
    rw [qaA (by decide)]
    exact ⟨0, rfl, ⟨fun j hj => absurd hj (Nat.not_lt_zero _), by decide⟩, rfl, fun h => absurd h (by decide), fun h => absurd h (by decide), fun x hx => by rw [List.mem_singleton.mp hx]; decide⟩
  | succ m ih =>
    intro n hn
    by_cases h : n < 128
    · rw [qaA h]
      refine ⟨0, rfl, ⟨fun j hj => absurd hj (Nat.not_lt_zero _), h⟩, ?_, fun h => absurd h (by decide), fun h => absurd h (by decide), fun x hx => by rw [List.mem_singleton.mp hx]; omega⟩
      simp [val]
      omega
    · obtain ⟨p, q⟩ := ih (n / 128) (by omega)
      rw [kbl (by omega)]
      refine ⟨p + 1, by rw [List.length_cons, q.len], ⟨fun j hj => ?_, ?_⟩, ?_, fun _ => ?_, fun _ => ?_, fun x hx => ?_⟩
      · cases j with
        | zero => simp
        | succ j =>
          have := q.ends.big j (by omega)
          simpa using this
      · have := q.ends.small
        simpa using this
      · rw [kbK]
        have e : (fun j => (((n % 128 + 128) :: steps (n / 128)).getD (j + 1) 0)) = fun j => (steps (n / 128)).getD j 0 := by
          funext j
          simp
        have e0 : ((n % 128 + 128) :: steps (n / 128)).getD 0 0 = n % 128 + 128 := by simp
        rw [e, q.val]
        rw [e0]
        omega
      · rcases Nat.eq_zero_or_pos p with hp | hp
        · subst hp
          have h1 := q.val
          simp [val] at h1
          have h2 := q.ends.small
          simp at h2
          simp
          omega
        · have := q.ydE hp
          simpa using this
      · rcases Nat.eq_zero_or_pos p with hp | hp
        · subst hp
          simp
          omega
        · have := q.size hp
          rw [Nat.pow_succ]
          omega
      · rcases List.mem_cons.mp hx with hx | hx
        · omega
        · exact q.byte x hx
theorem jce (n : Nat) : ∃ p, Spec n (steps n) p := spec n n (Nat.le_refl _)
theorem Spec.xc6 {n p : Nat} {l : List Nat} (s : Spec n l p) (h : n < 2 ^ 40) : p < 6 := by
  rcases Nat.lt_or_ge p 6 with h1 | h1
  · exact h1
  · have h2 := s.size (by omega)
    have h3 : 128 ^ 6 ≤ 128 ^ p := Nat.pow_le_pow_right (by decide) h1
    have h4 : (128 : Nat) ^ 6 = 4398046511104 := by decide
    have h5 : (2 : Nat) ^ 40 = 1099511627776 := by decide
    omega
theorem uniq : ∀ (p : Nat) (b : Nat → Nat), Ends b p → (∀ j, j ≤ p → b j < 256) → (0 < p → b p ≠ 0) → steps (val b (p + 1)) = (List.range (p + 1)).map b
  | 0, b, h, _, _ => by
    have h1 := h.small
    have e : val b (0 + 1) = b 0 := by
      simp [val]
      omega
    rw [e, qaA h1]
    rfl
  | p + 1, b, h, hb, ht => by
    have h0 := h.big 0 (by omega)
    have hb0 := hb 0 (by omega)
    have hnz : 0 < val (fun j => b (j + 1)) (p + 1) := by
      have : val (fun j => b (j + 1)) (p + 1) = val (fun j => b (j + 1)) p + (b (p + 1) % 128) * 128 ^ p := rfl
      have h2 := ht (by omega)
      have h3 := h.small
      have h4 : 1 ≤ b (p + 1) % 128 := by omega
      have h5 : 1 * 128 ^ p ≤ (b (p + 1) % 128) * 128 ^ p := Nat.mul_le_mul_right _ h4
      have h6 : 0 < 128 ^ p := Nat.pow_pos (by decide)
      omega
    have ih := uniq p (fun j => b (j + 1)) ⟨fun j hj => h.big (j + 1) (by omega), h.small⟩ (fun j hj => hb (j + 1) (by omega)) (fun _ => ht (by omega))
    rw [kbK, kbl (by omega)]
    have e1 : (b 0 % 128 + 128 * val (fun j => b (j + 1)) (p + 1)) % 128 + 128 = b 0 := by omega
    have e2 : (b 0 % 128 + 128 * val (fun j => b (j + 1)) (p + 1)) / 128 = val (fun j => b (j + 1)) (p + 1) := by omega
    rw [e1, e2, ih, List.range_succ_eq_map (n := p + 1), List.map_cons, List.map_map]
    rfl
inductive At (b : Nat → Nat) (rest : Nat) : Prop
  | ends (p : Nat) : p < 6 → p < rest → Ends b p → At b rest
  | short : rest < 6 → (∀ j, j < rest → 128 ≤ b j) → At b rest
  | long : 6 ≤ rest → (∀ j, j < 6 → 128 ≤ b j) → At b rest
theorem vck (b : Nat → Nat) (rest : Nat) : At b rest := by
  have go : ∀ k, k ≤ 6 → k ≤ rest → (∀ j, j < k → 128 ≤ b j) ∨ At b rest := by
    intro k
    induction k with
    | zero => exact fun _ _ => .inl fun j hj => absurd hj (Nat.not_lt_zero _)
    | succ k ih =>
      intro h1 h2
      rcases ih (by omega) (by omega) with h | h
      · by_cases hk : b k < 128
        · exact .inr (.ends k (by omega) (by omega) ⟨h, hk⟩)
        · refine .inl fun j hj => ?_
          rcases Nat.lt_or_ge j k with h3 | h3
          · exact h j h3
          · have e : j = k := by omega
            subst e
            omega
      · exact .inr h
  by_cases hr : 6 ≤ rest
  · rcases go 6 (Nat.le_refl _) hr with h | h
    · exact .long hr h
    · exact h
  · rcases go rest (by omega) (Nat.le_refl _) with h | h
    · exact .short (by omega) h
    · exact h
theorem qaM {b : Nat → Nat} {p q : Nat} (h : Ends b p) (h' : Ends b q) : p = q := by
  rcases Nat.lt_trichotomy p q with hl | hl | hl
  · have h1 := h'.big p hl
    have h2 := h.small
    omega
  · exact hl
  · have h1 := h.big q hl
    have h2 := h'.small
    omega
def dig (n : Nat) : List Nat := if h : n < 128 then [n] else (n % 128) :: dig (n / 128)
termination_by n
decreasing_by omega
theorem zct {n : Nat} (h : n < 128) : dig n = [n] := by
  rw [dig, dif_pos h]
theorem vc1 {n : Nat} (h : 128 ≤ n) : dig n = (n % 128) :: dig (n / 128) := by
  rw [dig, dif_neg (by omega)]
theorem qcY : ∀ (m n : Nat), n ≤ m → (dig n).dropLast.map (fun x => x + 128) ++ (dig n).drop ((dig n).length - 1) = steps n ∧ dig n ≠ [] := by
  intro m
  induction m with
  | zero =>
    intro n hn
    rw [zct (by omega), qaA (by omega)]
    exact ⟨rfl, by simp⟩
  | succ m ih =>
    intro n hn
    by_cases h : n < 128
    · rw [zct h, qaA h]
      exact ⟨rfl, by simp⟩
    · obtain ⟨q1, q2⟩ := ih (n / 128) (by omega)
      rw [vc1 (by omega), kbl (by omega), ← q1]
      refine ⟨?_, by simp⟩
      cases hd : dig (n / 128) with
      | nil => exact absurd hd q2
      | cons y ys => simp
structure Part (n k : Nat) (out : List Nat) (m : Nat) : Prop where
  le : m * 128 ^ k ≤ n
  now : (0 < k ∧ m = 0 ∧ out = dig n) ∨ ((k = 0 ∨ 0 < m) ∧ out ++ dig m = dig n)
theorem part0 (n : Nat) : Part n 0 [] n := ⟨by simp, .inr ⟨.inl rfl, rfl⟩⟩
theorem part_go {n k m : Nat} {out : List Nat} (h : Part n k out m) (hg : k = 0 ∨ 0 < m) : Part n (k + 1) (out ++ [m % 128]) (m / 128) := by
  have hle : m / 128 * 128 ^ (k + 1) ≤ n := by
    have h1 : m / 128 * 128 ≤ m := Nat.div_mul_le_self _ _
    have h2 : m / 128 * 128 * 128 ^ k ≤ m * 128 ^ k := Nat.mul_le_mul_right _ h1
    have h3 : m / 128 * 128 ^ (k + 1) = m / 128 * 128 * 128 ^ k := by
      rw [Nat.pow_succ, Nat.mul_assoc, Nat.mul_comm (128 ^ k)]
    have := h.le
    omega
  have e : out ++ dig m = dig n := by
    rcases h.now with ⟨h1, h2, h3⟩ | ⟨_, h2⟩
    · rcases hg with h4 | h4 <;> omega
    · exact h2
  refine ⟨hle, ?_⟩
  by_cases hm : m < 128
  · refine .inl ⟨by omega, by omega, ?_⟩
    rw [zct hm] at e
    rw [← e]
    congr 2
    omega
  · refine .inr ⟨.inr (by omega), ?_⟩
    rw [vc1 (by omega)] at e
    rw [← e]
    simp
theorem kcX {n k m : Nat} {out : List Nat} (h : Part n k out m) (hg : ¬ (k = 0 ∨ 0 < m)) : Part n (k + 1) out m := by
  rcases h.now with ⟨h1, h2, h3⟩ | ⟨h1, _⟩
  · subst h2
    exact ⟨by simp, .inl ⟨by omega, rfl, h3⟩⟩
  · exact absurd h1 hg
theorem zc7 {n m : Nat} {out : List Nat} (h : Part n 7 out m) (hn : n < 2 ^ 49) : out = dig n := by
  have h1 := h.le
  have h2 : (128 : Nat) ^ 7 = 2 ^ 49 := by decide
  rcases h.now with ⟨_, _, h3⟩ | ⟨h3, _⟩
  · exact h3
  · have : 1 * 128 ^ 7 ≤ m * 128 ^ 7 := Nat.mul_le_mul_right _ (by omega)
    omega
end SN
namespace DL
open PySem PySem.Spec PyProof.Rows L2
section
variable {f g : FS} {ρ ρ1 : xb} {o : Option Out} {n k : Nat} {ds : List D} {d : D} {E F fa fb fc : FE} {t u : FT} {i : Nat} {v a b : Val} {c : Nat} {j : Int}
theorem ydm (q1 : fa ρ = some (.ok (.s (.bool true)))) : zcg fa fb ρ = some (.ok (.s (.bool true))) := by
  rw [wcE]
  unfold bE
  rw [q1]
  rfl
theorem xdm (q1 : fa ρ = some (.ok (.s (.bool false)))) (q2 : fb ρ = some (.ok v)) : zcg fa fb ρ = some (.ok v) := by
  rw [wcE]
  unfold bE
  rw [q1]
  exact q2
theorem ql {i j : Nat} (ha : fa ρ = some (.ok (.s (.int (i : Int))))) (hb : fb ρ = some (.ok (.s (.int (j : Int))))) : e2 wc fa fb ρ = some (.ok (.s (.int ((i + j : Nat) : Int)))) := by
  rw [Int.natCast_add]
  exact zbf ha hb
theorem wbC {i j : Int} (ha : fa ρ = some (.ok (.s (.int i)))) (hb : fb ρ = some (.ok (.s (.int j)))) : e2 qw fa fb ρ = some (.ok (.s (.int (Builtin.bitAnd i j)))) := xT ha hb rfl
theorem qce {es : List D} {j : Int} (ha : fa ρ = some (.ok (.f es))) (hb : fb ρ = some (.ok (.s (.int j)))) (h : atI es j = some d) (hs : yu d = true) : e2 vi fa fb ρ = some (.ok (.s d)) := xT ha hb (by
  show (atI es j).map Val.s = _
  rw [h]
  rfl)
theorem vaS {es : List D} {j : Int} (ha : fa ρ = some (.ok (.s (.tuple es)))) (hb : fb ρ = some (.ok (.s (.int j)))) (h : atI es j = some d) : e2 vi fa fb ρ = some (.ok (.s d)) := xT ha hb (by
  show (atI es j).map Val.s = _
  rw [h]
  rfl)
theorem qci {es : List D} (q : E ρ = some (.ok v)) (h : v.seq = some es) : eG wcd (qa E (ka)) ρ = some (.ok (.f es)) := qbC (va q yb) (by
  show v.seq.map Val.f = _
  rw [h]
  rfl)
end
theorem kdm {α : Type} (xs : List α) (i : Nat) : zah xs none (some (i : Int)) = xs.take i := by
  unfold zah
  rw [HT.sIx_none, HT.sIx_nat, List.drop_zero, Nat.sub_zero]
  by_cases h : i ≤ xs.length
  · rw [Nat.min_eq_left h]
  · rw [Nat.min_eq_right (by omega), List.take_length, List.take_of_length_le (by omega)]
theorem zcW {α : Type} (xs : List α) (i : Nat) : zah xs (some (i : Int)) none = xs.drop i := by
  unfold zah
  rw [HT.sIx_none, HT.sIx_nat]
  by_cases h : i ≤ xs.length
  · rw [Nat.min_eq_left h, List.take_of_length_le (by rw [List.length_drop]; omega)]
  · rw [Nat.min_eq_right (by omega), List.drop_length, List.drop_of_length_le (by omega), List.take_nil]
theorem jcW {α : Type} (xs : List α) : zah xs none (some (-1)) = xs.dropLast := by
  unfold zah
  rw [HT.sIx_none, List.drop_zero, Nat.sub_zero, List.dropLast_eq_take]
  congr 1
  show (if (-1 : Int) < 0 then ((-1 : Int) + (xs.length : Int)).toNat else min (-1 : Int).toNat xs.length) = _
  rw [if_pos (by decide)]
  omega
theorem wcW {α : Type} (xs : List α) : zah xs (some (-1)) none = xs.drop (xs.length - 1) := by
  unfold zah
  rw [HT.sIx_none]
  have e : HT.sIx xs.length 0 (some (-1)) = xs.length - 1 := by
    show (if (-1 : Int) < 0 then ((-1 : Int) + (xs.length : Int)).toNat else min (-1 : Int).toNat xs.length) = _
    rw [if_pos (by decide)]
    omega
  rw [e, List.take_of_length_le (by rw [List.length_drop]; omega)]
theorem zcF (r : List Nat) (n : Nat) : (jd r).take n = jd (r.take n) := by
  unfold jd
  rw [List.map_take]
theorem wb0 (r : List Nat) (n : Nat) : (jd r).drop n = jd (r.drop n) := by
  unfold jd
  rw [List.map_drop]
theorem xct (r : List Nat) : (jd r).dropLast = jd r.dropLast := by
  unfold jd
  rw [List.map_dropLast]
section
variable {ρ ρ1 : xb} {E F : FE} {v : Val} {r : List Nat} {i j : Nat}
theorem waW (q : E ρ = some (.ok v)) (hv : v = .s (.list (jd r)) ∨ v = .b (jd r) ∨ v = .f (jd r)) (q2 : F ρ = some (.ok (.s (.int (i : Int))))) : qB E wu (zj F) ρ = some (.ok (.f (jd (r.take i)))) := by
  rw [jb0 q hv rfl (zbC q2), kdm, zcF]
theorem vaW (q : E ρ = some (.ok v)) (hv : v = .s (.list (jd r)) ∨ v = .b (jd r) ∨ v = .f (jd r)) (q2 : F ρ = some (.ok (.s (.int (i : Int))))) : qB E (zj F) wu ρ = some (.ok (.f (jd (r.drop i)))) := by
  rw [jb0 q hv (zbC q2) rfl, zcW, wb0]
theorem jbM {G : FE} (q : E ρ = some (.ok v)) (hv : v = .s (.list (jd r)) ∨ v = .b (jd r) ∨ v = .f (jd r)) (q1 : F ρ = some (.ok (.s (.int (i : Int))))) (q2 : G ρ = some (.ok (.s (.int (j : Int))))) (hij : i ≤ j) (hj : j ≤ r.length) : qB E (zj F) (zj G) ρ = some (.ok (.f (jd ((r.drop i).take (j - i))))) := by
  rw [jb0 q hv (zbC q1) (zbC q2), yc5 _ _ _ (by rw [xI]; exact hj) hij, wb0, zcF]
theorem qz {fa fb : FE} {a b : Val} {x y : List Nat} (ha : fa ρ = some (.ok a)) (hb : fb ρ = some (.ok b)) (h1 : a.items = some (jd x)) (h2 : b.items = some (jd y)) (hn : xcG a b = none) (hl : x.length + y.length ≤ 10000000) : e2 wc fa fb ρ = some (.ok (.f (jd (x ++ y)))) := by
  rw [xbU ha hb h1 h2 hn (by rw [xI, xI]; omega), ybU]
end
theorem vbC {g : FG} {body : FS} {o : Out} (Inv : Nat → xb → Prop) {ds : List D} {ρ : xb} {m : Nat} (hm : m < ds.length) (h0 : Inv 0 ρ)
    (h : ∀ i d ρ, i < m → ds[i]? = some d → Inv i ρ → ∃ ρ1 ρ2, g d ρ = some ρ1 ∧ body ρ1 = some (.nx ρ2) ∧ Inv (i + 1) ρ2)
    (hr : ∀ d ρ, ds[m]? = some d → Inv m ρ → ∃ ρ1, g d ρ = some ρ1 ∧ body ρ1 = some o) (ho : (∃ d, o = .ret d) ∨ (∃ x, o = .retF x) ∨ ∃ ρ' c j, o = .exc ρ' c j) : forL g body ds ρ = some o := by
  have go : ∀ (k n : Nat) (ρ : xb), m - n = k → n ≤ m → Inv n ρ → forL g body (ds.drop n) ρ = some o := by
    intro k
    induction k with
    | zero =>
      intro n ρ hk hn hI
      have e : n = m := by omega
      subst e
      obtain ⟨ρ1, h1, h2⟩ := hr ds[n] ρ (List.getElem?_eq_getElem hm) hI
      rw [List.drop_eq_getElem_cons hm]
      unfold forL
      rw [h1]
      dsimp only
      rw [h2]
      rcases ho with ⟨d, rfl⟩ | ⟨x, rfl⟩ | ⟨ρ', c, j, rfl⟩ <;> rfl
    | succ k ih =>
      intro n ρ hk hn hI
      have hlt : n < ds.length := by omega
      obtain ⟨ρ1, ρ2, h1, h2, h3⟩ := h n ds[n] ρ (by omega) (List.getElem?_eq_getElem hlt) hI
      rw [List.drop_eq_getElem_cons hlt]
      unfold forL
      rw [h1]
      dsimp only
      rw [h2]
      exact ih (n + 1) ρ2 (by omega) (by omega) h3
  have q := go _ 0 ρ rfl (Nat.zero_le _) h0
  rw [List.drop_zero] at q
  exact q
theorem vR (lo : Int) (n : Nat) : (vk lo n).length = n := by simp [vk]
theorem jam {lo n : Nat} {i : Nat} {d : D} (h : (vk (lo : Int) n)[i]? = some d) : i < n ∧ d = .int ((lo + i : Nat) : Int) := by
  have hi : i < n := by
    have := (List.getElem?_eq_some_iff.mp h).1
    rw [vR] at this
    exact this
  refine ⟨hi, ?_⟩
  rw [ya5, List.getElem?_map, List.getElem?_range hi] at h
  cases h
  rfl
theorem kar {n : Nat} {i : Nat} {d : D} (h : (vk 0 n)[i]? = some d) : i < n ∧ d = .int (i : Int) := by
  have q := jam (lo := 0) h
  rw [Nat.zero_add] at q
  exact q
theorem qdn {r : List Nat} {i : Nat} (h : i < r.length) : atI (jd r) (i : Int) = some (.int (r.getD i 0 : Nat)) := by
  rw [ydu h]
  congr 3
  rw [List.getD_eq_getElem?_getD, List.getElem?_eq_getElem h]
  rfl
section
variable {f g : FS} {ρ ρ1 : xb} {o : Option Out} {n k : Nat} {ds : List D} {d : D} {E F fa fb fc : FE} {t u : FT} {i j : Nat} {v a b : Val} {c : Nat}
theorem ybC (ha : fa ρ = some (.ok (.s (.int (i : Int))))) (hb : fb ρ = some (.ok (.s (.int (j : Int))))) (h : j ≤ i) : e2 gSub fa fb ρ = some (.ok (.s (.int ((i - j : Nat) : Int)))) := by
  rw [Int.natCast_sub h]
  exact jbC ha hb
theorem yaL (ha : fa ρ = some (.ok (.s (.int (i : Int))))) (hb : fb ρ = some (.ok (.s (.int (j : Int))))) (h : i < 1000000000 ∨ j < 1000000000) : e2 jt fa fb ρ = some (.ok (.s (.int ((i * j : Nat) : Int)))) := by
  rw [Int.natCast_mul]
  refine ycV ha hb ?_
  rcases h with h | h
  · exact jch (by omega) (by omega)
  · exact wch (by omega) (by omega)
theorem kbU (ha : fa ρ = some (.ok (.s (.int (i : Int))))) (hb : fb ρ = some (.ok (.s (.int 127)))) : e2 qw fa fb ρ = some (.ok (.s (.int ((i % 128 : Nat) : Int)))) := by
  have e : ((i % 128 : Nat) : Int) = Builtin.bitAnd (i : Int) 127 := by
    rw [bitAnd_m7]
    omega
  rw [e]
  exact wbC ha hb
theorem xdv (ha : fa ρ = some (.ok (.s (.int (i : Int))))) (hb : fb ρ = some (.ok (.s (.int 255)))) : e2 qw fa fb ρ = some (.ok (.s (.int ((i % 256 : Nat) : Int)))) := by
  have e : ((i % 256 : Nat) : Int) = Builtin.bitAnd (i : Int) 255 := by
    rw [bitAnd_m8]
    omega
  rw [e]
  exact wbC ha hb
theorem vcW (k : Nat) : ((2 : Int) ^ (k : Int).toNat) = ((2 ^ k : Nat) : Int) := by
  rw [Int.toNat_natCast, Int.natCast_pow]
  rfl
theorem qbV (ha : fa ρ = some (.ok (.s (.int (i : Int))))) (hb : fb ρ = some (.ok (.s (.int (j : Int))))) : e2 xC fa fb ρ = some (.ok (.s (.int ((i / 2 ^ j : Nat) : Int)))) := xT ha hb (by
  show (if ybY (i : Int) (j : Int) = true then some (Val.s (.int ((i : Int) / 2 ^ (j : Int).toNat))) else none) = _
  rw [if_pos (kbL (Int.natCast_nonneg _)), vcW, Int.natCast_ediv])
theorem zbV (ha : fa ρ = some (.ok (.s (.int (i : Int))))) (hb : fb ρ = some (.ok (.s (.int (j : Int))))) (h : i < 1000000000) (h2 : j ≤ 1000000) : e2 kag fa fb ρ = some (.ok (.s (.int ((i * 2 ^ j : Nat) : Int)))) := xT ha hb (by
  show (if ya6 (i : Int) (j : Int) = true then some (Val.s (.int ((i : Int) * 2 ^ (j : Int).toNat))) else none) = _
  rw [if_pos (jaV (by omega) (by omega) (by omega) (by omega)), vcW, Int.natCast_mul])
theorem jdb {x y : Int} (ha : fa ρ = some (.ok (.s (.int x)))) (hb : fb ρ = some (.ok (.s (.int y)))) : tV (e2 zJ fa fb) ρ = some (.ok (decide (y ≤ x))) := jah (xT ha hb rfl) rfl
theorem wdb {x y : Int} (ha : fa ρ = some (.ok (.s (.int x)))) (hb : fb ρ = some (.ok (.s (.int y)))) : tV (e2 wc4 fa fb) ρ = some (.ok (decide (x ≤ y))) := jah (xT ha hb rfl) rfl
theorem yaA {x y : Int} (ha : fa ρ = some (.ok (.s (.int x)))) (hb : fb ρ = some (.ok (.s (.int y)))) (h : y ≤ x) : tV (e2 zJ fa fb) ρ = some (.ok true) := by rw [jdb ha hb, decide_eq_true h]
theorem kE {x y : Int} (ha : fa ρ = some (.ok (.s (.int x)))) (hb : fb ρ = some (.ok (.s (.int y)))) (h : x < y) : tV (e2 zJ fa fb) ρ = some (.ok false) := by rw [jdb ha hb, decide_eq_false (by omega)]
theorem zdn {x y : Int} (ha : fa ρ = some (.ok (.s (.int x)))) (hb : fb ρ = some (.ok (.s (.int y)))) (h : x ≤ y) : tV (e2 wc4 fa fb) ρ = some (.ok true) := by rw [wdb ha hb, decide_eq_true h]
theorem jdn {x y : Int} (ha : fa ρ = some (.ok (.s (.int x)))) (hb : fb ρ = some (.ok (.s (.int y)))) (h : y < x) : tV (e2 wc4 fa fb) ρ = some (.ok false) := by rw [wdb ha hb, decide_eq_false (by omega)]
theorem zci {x y : Int} (ha : fa ρ = some (.ok (.s (.int x)))) (hb : fb ρ = some (.ok (.s (.int y)))) (h1 : -1000000000 < x) (h2 : x < 1000000000) (h3 : -1000000000 < y) (h4 : y < 1000000000) : jar (qa fa (qa fb (ka))) ρ = some (.ok (vk x (y - x).toNat)) := by
  unfold jar
  rw [va ha (va hb yb)]
  show (if (vaz x && vaz y) = true then some (Except.ok (vk x (y - x).toNat)) else none) = _
  rw [if_pos (by rw [qbM h1 h2, qbM h3 h4]; rfl)]
theorem kcI {x : Int} (ha : fa ρ = some (.ok (.s (.int x)))) : e1 kbk fa ρ = some (.ok (.s (.int (-x)))) := zdu ha rfl
theorem xt {r : List Nat} (q : E ρ = some (.ok v)) (h : v.d = .list (jd r)) : eG kl (qa E (ka)) ρ = some (.ok (.s (.int (r.length : Int)))) := by
  rw [kcd q h, xI]
theorem jci {es : List D} (q : E ρ = some (.ok v)) (h : v.d = .tuple es) : eG kl (qa E (ka)) ρ = some (.ok (.s (.int (es.length : Int)))) := by
  refine qbC (va q yb) ?_
  unfold kl
  dsimp only
  rw [h]
  rfl
theorem qP {r : List Nat} (ha : fa ρ = some (.ok (.s (.list (jd r))))) (hb : fb ρ = some (.ok (.s (.int (i : Int))))) (h : i < r.length) : e2 vi fa fb ρ = some (.ok (.s (.int (r.getD i 0 : Nat)))) := zdv ha hb (qdn h)
theorem xbC {es : List Nat} (ho : ρ[i]? = some (.own (jd es))) (q : E ρ = some (.ok (.s (.int (j : Int))))) (hl : es.length ≤ 10000000) (e : ρ.set i (.own (jd (es ++ [j]))) = ρ1) : qM i E ρ = some (.nx ρ1) :=
  ydD ho q rfl (by rw [xI]; omega) (by rw [← e, ybU]; rfl)
theorem kdv (q : E ρ = some (.ok v)) : kbT E ρ = some (.nx ρ) := by
  rw [yc4]
  unfold sE
  rw [q]
end
theorem wdn {α : Type} {vs : List Nat} {st : xb → D → Option xb} {it : FI} {tt : FT} {fe : FE} {ρ : xb} (dat F : α → D) {xs : List α} (h0 : noOwn ρ vs = true) (ha : it ρ = some (.ok (xs.map dat))) (hl : xs.length ≤ 16777216)
    (h : ∀ x ∈ xs, ∃ ρ1 v, st (wq ρ vs) (dat x) = some ρ1 ∧ tt ρ1 = some (.ok true) ∧ fe ρ1 = some (.ok v) ∧ v.st = some (F x)) : yE vs st it tt fe ρ = some (.ok (.f (xs.map F))) := by
  have e : lcL tt fe (st (wq ρ vs)) (xs.map dat) = some (xs.map F) := xbZ dat F h
  unfold yE
  rw [if_pos h0, ha]
  dsimp only
  rw [e]
  dsimp only
  rw [if_pos (wD (by rw [List.length_map]; exact hl))]
end DL
namespace FL
open PySem PySem.Spec PyProof.Rows L2 DL FN
noncomputable def zdx : FT := tV (e2 zJ (eV 0) (eC (.int 128)))
noncomputable def ycX : FS := vb (qM 1 (e2 wc (e2 qw (eV 0) (eC (.int 127))) (eC (.int 128)))) (je 0 (e2 xC (eV 0) (eC (.int 7))))
theorem vdo : ∀ (k n : Nat) (pre : List Nat), n < 128 ^ (k + 1) → pre.length + k ≤ 1000 → ∃ m q, m < 128 ∧ SN.steps n = q ++ [m] ∧
    wI zdx ycX (k + 1) [.dat (.int (n : Nat)), .own (jd pre)] = some (.nx [.dat (.int (m : Nat)), .own (jd (pre ++ q))]) := by
  intro k
  induction k with
  | zero =>
    intro n pre hn _
    refine ⟨n, [], by simpa using hn, SN.qaA (by simpa using hn), ?_⟩
    rw [List.append_nil]
    exact vcV (kE (jb rfl) rfl (by simp at hn; omega))
  | succ k ih =>
    intro n pre hn hl
    by_cases h : n < 128
    · refine ⟨n, [], h, SN.qaA h, ?_⟩
      rw [List.append_nil]
      exact vcV (kE (jb rfl) rfl (by omega))
    · have hn2 : n / 128 < 128 ^ (k + 1) := by
        rw [Nat.pow_succ] at hn
        omega
      obtain ⟨m, q, h1, h2, h3⟩ := ih (n / 128) (pre ++ [n % 128 + 128]) hn2 (by simp; omega)
      refine ⟨m, (n % 128 + 128) :: q, h1, by rw [SN.kbl (by omega), h2]; rfl, ?_⟩
      have e : pre ++ [n % 128 + 128] ++ q = pre ++ (n % 128 + 128) :: q := by simp
      rw [e] at h3
      refine jdJ (yaA (jb rfl) rfl (by omega)) ?_ h3
      unfold ycX
      refine ye (ρ1 := [.dat (.int (n : Nat)), .own (jd (pre ++ [n % 128 + 128]))]) (xbC rfl (ql (j := 128) (kbU (jb rfl) rfl) rfl) (by omega) rfl) ?_
      exact vq (qbV (j := 7) (jb rfl) rfl) rfl rfl
theorem zbD (n : Nat) (h : n < 2 ^ 40) : xF [.int (n : Nat)] = some (.retF (jd (SN.steps n))) := by
  have h40 : (2 : Nat) ^ 40 = 1099511627776 := by decide
  obtain ⟨m, q, h1, h2, h3⟩ := vdo 5 n [] (by (have : (128 : Nat) ^ 6 = 4398046511104 := by decide); omega) (by simp)
  rw [List.nil_append] at h3
  unfold xF kav
  refine qZ ?_
  refine ye (xl (qx (jZ (jb rfl) rfl (by omega)) (kE (jb rfl) rfl (by omega))) rfl) ?_
  refine ye (ρ1 := [.dat (.int (n : Nat)), .own (jd [])]) (vbU (zE yb rfl (by decide)) rfl) ?_
  refine ye (vdm h3 (by decide)) ?_
  have hl : q.length ≤ 1000 := by
    obtain ⟨p, s⟩ := SN.jce n
    have s1 := s.len
    have s2 := s.xc6 h
    rw [h2, List.length_append, List.length_singleton] at s1
    omega
  refine ye (ρ1 := [.dat (.int (m : Nat)), .own (jd (q ++ [m]))]) (xbC rfl (jb rfl) (by omega) rfl) ?_
  rw [← h2]
  exact jdu rfl
def kg (r : List Nat) (at_ : Nat) : Nat → Nat := fun j => r.getD (at_ + j) 0
noncomputable def xaA : FS := vb (kh (tV (e2 zJ (eV 2) (eG kl (qa (eV 0) (ka))))) (yi 3 (eG kl (qa (eV 0) (ka)))) (ki)) (kh (tV (e2 vT (e2 vi (eV 0) (eV 2)) (eC (.int 128)))) (vh (e2 wc (eV 2) (eC (.int 1)))) (ki))
theorem ydo (r : List Nat) (a j : Nat) (h : a + j < r.length) (hb : 128 ≤ kg r a j) : xaA [.dat (.list (jd r)), .dat (.int (a : Nat)), .dat (.int ((a + j : Nat) : Int))] = some (.nx [.dat (.list (jd r)), .dat (.int (a : Nat)), .dat (.int ((a + j : Nat) : Int))]) := by
  unfold xaA
  refine ye (xl (kE (jb rfl) (xt (jb rfl) rfl) (by omega)) rfl) ?_
  unfold kg at hb
  exact xl (jZ (qP (jb rfl) (jb rfl) h) rfl (by omega)) rfl
theorem vbD (r : List Nat) (a : Nat) (ha : a ≤ 100000) (s2 : DL.Slot) : jar (qa (eV 1) (qa (e2 wc (eV 1) (eC (.int 6))) (ka))) [.dat (.list (jd r)), .dat (.int (a : Nat)), s2] = some (.ok (vk (a : Int) 6)) := by
  have q := zci (fa := eV 1) (fb := e2 wc (eV 1) (eC (.int 6))) (ρ := [.dat (.list (jd r)), .dat (.int (a : Nat)), s2]) (x := a) (y := a + 6) (jb rfl) (zbf (jb rfl) rfl) (by omega) (by omega) (by omega) (by omega)
  rw [show ((a : Int) + 6 - a).toNat = 6 by omega] at q
  exact q
theorem xbR (r : List Nat) (a : Nat) (i : Nat) (d : D) (ρ : xb) (hd : (vk (a : Int) 6)[i]? = some d) (hi : a + i < r.length) (hb : 128 ≤ kg r a i) (h : ∃ s2 : DL.Slot, ρ = [.dat (.list (jd r)), .dat (.int (a : Nat)), s2]) :
    ∃ ρ1 ρ2, gN 2 d ρ = some ρ1 ∧ xaA ρ1 = some (.nx ρ2) ∧ ∃ s2 : DL.Slot, ρ2 = [.dat (.list (jd r)), .dat (.int (a : Nat)), s2] := by
  obtain ⟨s2, rfl⟩ := h
  obtain ⟨_, rfl⟩ := jam hd
  exact ⟨_, _, rfl, ydo r a i hi hb, _, rfl⟩
theorem kc6 (r : List Nat) (a p : Nat) (ha : a ≤ 100000) (hp : p < 6) (hr : a + p < r.length) (h : SN.Ends (kg r a) p) : qv [.list (jd r), .int (a : Nat)] = some (.ret (.int ((a + p + 1 : Nat) : Int))) := by
  have key := vbC (g := gN 2) (body := xaA) (o := .ret (.int ((a + p + 1 : Nat) : Int))) (ds := vk (a : Int) 6) (ρ := [.dat (.list (jd r)), .dat (.int (a : Nat)), .un]) (m := p) (fun _ ρ => ∃ s2 : DL.Slot, ρ = [.dat (.list (jd r)), .dat (.int (a : Nat)), s2])
    (by rw [vR]; exact hp) ⟨_, rfl⟩ (fun i d ρ hi hd hI => xbR r a i d ρ hd (by omega) (h.big i hi) hI) (by
      rintro d ρ hd ⟨s2, rfl⟩
      obtain ⟨_, rfl⟩ := jam hd
      refine ⟨_, rfl, ?_⟩
      have hs := h.small
      unfold kg at hs
      unfold xaA
      refine ye (xl (kE (jb rfl) (xt (jb rfl) rfl) (by omega)) rfl) ?_
      exact xn (xar (qP (jb rfl) (jb rfl) hr) rfl (by omega)) (vu (ql (j := 1) (jb rfl) rfl))) (.inl ⟨_, rfl⟩)
  unfold qv jL
  exact vD (vaa (qT (vbD r a ha _) key))
theorem xcX (r : List Nat) (a : Nat) (ha : a ≤ r.length) (hl : r.length ≤ 100000) (hr : r.length - a < 6) (h : ∀ j, j < r.length - a → 128 ≤ kg r a j) : qv [.list (jd r), .int (a : Nat)] = some (.exc 3 (r.length : Nat)) := by
  have key := vbC (g := gN 2) (body := xaA) (o := .exc [.dat (.list (jd r)), .dat (.int (a : Nat)), .dat (.int ((a + (r.length - a) : Nat) : Int))] 3 (r.length : Nat)) (ds := vk (a : Int) 6) (ρ := [.dat (.list (jd r)), .dat (.int (a : Nat)), .un]) (m := r.length - a) (fun _ ρ => ∃ s2 : DL.Slot, ρ = [.dat (.list (jd r)), .dat (.int (a : Nat)), s2])
    (by rw [vR]; exact hr) ⟨_, rfl⟩ (fun i d ρ hi hd hI => xbR r a i d ρ hd (by omega) (h i hi) hI) (by
      rintro d ρ hd ⟨s2, rfl⟩
      obtain ⟨_, rfl⟩ := jam hd
      refine ⟨_, rfl, ?_⟩
      unfold xaA
      exact vG (xn (yaA (jb rfl) (xt (jb rfl) rfl) (by omega)) (xE (xt (jb rfl) rfl)))) (.inr (.inr ⟨_, _, _, rfl⟩))
  unfold qv jL
  exact ky (vG (qT (vbD r a (by omega) _) key))
theorem qc7 (r : List Nat) (a : Nat) (ha : a ≤ 100000) (hr : a + 6 ≤ r.length) (h : ∀ j, j < 6 → 128 ≤ kg r a j) : qv [.list (jd r), .int (a : Nat)] = some (.ret (.int ((a + 6 : Nat) : Int))) := by
  have key := yT (g := gN 2) (body := xaA) (ds := vk (a : Int) 6) (ρ := [.dat (.list (jd r)), .dat (.int (a : Nat)), .un]) (fun _ ρ => ∃ s2 : DL.Slot, ρ = [.dat (.list (jd r)), .dat (.int (a : Nat)), s2])
    ⟨_, rfl⟩ (fun i d ρ hd hI => xbR r a i d ρ hd (by have := (jam hd).1; omega) (h i (jam hd).1) hI)
  obtain ⟨ρ', h1, s2, rfl⟩ := key
  unfold qv jL
  exact vD (ye (qT (vbD r a ha _) h1) (vu (ql (j := 6) (jb rfl) rfl)))
noncomputable def jck : FS := kbY 3 (fun i j => i + j) (e2 kag (e2 qw (e2 vi (eV 0) (eV 4)) (eC (.int 127))) (e2 jt (eC (.int 7)) (e2 gSub (eV 4) (eV 1))))
theorem xdo (r : List Nat) (a n : Nat) (hn : n ≤ 6) (hr : a + n ≤ r.length) (ha : a ≤ 100000) (s4 : DL.Slot) : ∃ s4' : DL.Slot, kD (jar (qa (eV 1) (qa (eV 2) (ka)))) (gN 4) jck [.dat (.list (jd r)), .dat (.int (a : Nat)), .dat (.int ((a + n : Nat) : Int)), .dat (.int 0), s4] = some (.nx [.dat (.list (jd r)), .dat (.int (a : Nat)), .dat (.int ((a + n : Nat) : Int)), .dat (.int (SN.val (kg r a) n : Nat)), s4']) := by
  have key := yT (g := gN 4) (body := jck) (ds := vk (a : Int) n) (ρ := [.dat (.list (jd r)), .dat (.int (a : Nat)), .dat (.int ((a + n : Nat) : Int)), .dat (.int 0), s4]) (fun i ρ => ∃ s4 : DL.Slot, ρ = [.dat (.list (jd r)), .dat (.int (a : Nat)), .dat (.int ((a + n : Nat) : Int)), .dat (.int (SN.val (kg r a) i : Nat)), s4])
    ⟨_, rfl⟩ (by
      rintro i d ρ hd ⟨s4, rfl⟩
      obtain ⟨hi, rfl⟩ := jam hd
      refine ⟨_, _, rfl, ?_, .dat (.int ((a + i : Nat) : Int)), rfl⟩
      have e1 : a + i - a = i := by omega
      have q := yaL (fa := eC (.int 7)) (fb := e2 gSub (eV 4) (eV 1)) (ρ := [.dat (.list (jd r)), .dat (.int (a : Nat)), .dat (.int ((a + n : Nat) : Int)), .dat (.int (SN.val (kg r a) i : Nat)), .dat (.int ((a + i : Nat) : Int))]) (i := 7) (j := a + i - a) rfl (ybC (jb rfl) (jb rfl) (by omega)) (.inl (by decide))
      rw [e1] at q
      refine kdD (a := (SN.val (kg r a) i : Nat)) rfl (zbV (kbU (qP (jb rfl) (jb rfl) (by omega)) rfl) q (by omega) (by omega)) ?_
      have e2 : ((SN.val (kg r a) (i + 1) : Nat) : Int) = (SN.val (kg r a) i : Nat) + ((r.getD (a + i) 0 % 128 * 2 ^ (7 * i) : Nat) : Int) := by
        rw [SN.val, Int.natCast_add, Nat.pow_mul]
        rfl
      rw [e2]
      rfl)
  obtain ⟨ρ', h1, s4', rfl⟩ := key
  rw [vR] at h1
  refine ⟨s4', qT ?_ h1⟩
  have q := zci (fa := eV 1) (fb := eV 2) (ρ := [.dat (.list (jd r)), .dat (.int (a : Nat)), .dat (.int ((a + n : Nat) : Int)), .dat (.int 0), s4]) (x := a) (y := ((a + n : Nat) : Int)) (jb rfl) (jb rfl) (by omega) (by omega) (by omega) (by omega)
  rw [show (((a + n : Nat) : Int) - a).toNat = n by omega] at q
  exact q
inductive Gs (r : List Nat) (a : Nat) : kaV → Prop
  | num (p : Nat) : p < 6 → a + p < r.length → SN.Ends (kg r a) p → SN.val (kg r a) (p + 1) < 2 ^ 40 → ¬ (0 < p ∧ kg r a p = 0) → Gs r a (.ret (.tuple [.int (SN.val (kg r a) (p + 1) : Nat), .int ((a + p + 1 : Nat) : Int)]))
  | loose (p : Nat) : p < 6 → a + p < r.length → SN.Ends (kg r a) p → SN.val (kg r a) (p + 1) < 2 ^ 40 → 0 < p → kg r a p = 0 → Gs r a (.exc 2 (a : Nat))
  | great (p : Nat) : p < 6 → a + p < r.length → SN.Ends (kg r a) p → 2 ^ 40 ≤ SN.val (kg r a) (p + 1) → Gs r a (.exc 1 (a : Nat))
  | long : a + 6 ≤ r.length → (∀ j, j < 6 → 128 ≤ kg r a j) → Gs r a (.exc 1 (a : Nat))
  | short : r.length - a < 6 → (∀ j, j < r.length - a → 128 ≤ kg r a j) → Gs r a (.exc 3 (r.length : Nat))
theorem jcF (r : List Nat) (a n : Nat) (hn : 0 < n) (hr : a + n ≤ r.length) (s3 s4 : DL.Slot) : e2 vi (eV 0) (e2 gSub (eV 2) (eC (.int 1))) [.dat (.list (jd r)), .dat (.int (a : Nat)), .dat (.int ((a + n : Nat) : Int)), s3, s4] = some (.ok (.s (.int (kg r a (n - 1) : Nat)))) := by
  have q := qP (fa := eV 0) (fb := e2 gSub (eV 2) (eC (.int 1))) (ρ := [.dat (.list (jd r)), .dat (.int (a : Nat)), .dat (.int ((a + n : Nat) : Int)), s3, s4]) (r := r) (i := a + n - 1) (jb rfl) (ybC (j := 1) (jb rfl) rfl (by omega)) (by omega)
  unfold kg
  rw [show a + (n - 1) = a + n - 1 by omega]
  exact q
theorem wck (r : List Nat) (a : Nat) (ha : a ≤ r.length) (hl : r.length ≤ 100000) : ∃ o, yB [.list (jd r), .int (a : Nat)] = some o ∧ Gs r a o := by
  have h40 : (2 : Nat) ^ 40 = 1099511627776 := by decide
  have pre : ∀ (n : Nat), n ≤ 6 → 0 < n → a + n ≤ r.length → qv [.list (jd r), .int (a : Nat)] = some (.ret (.int ((a + n : Nat) : Int))) → ∃ s4 : DL.Slot, ∀ {g : FS} {o : Option Out}, g [.dat (.list (jd r)), .dat (.int (a : Nat)), .dat (.int ((a + n : Nat) : Int)), .dat (.int (SN.val (kg r a) n : Nat)), s4] = o →
      vb (je 2 (kb FN.qv 2 (qa (eV 0) (qa (eV 1) (ka))))) (vb (je 3 (eC (.int 0))) (vb (kD (jar (qa (eV 1) (qa (eV 2) (ka)))) (gN 4) jck) g)) [.dat (.list (jd r)), .dat (.int (a : Nat)), .un, .un, .un] = o := by
    intro n h6 h0 hn he
    obtain ⟨s4', h1⟩ := xdo r a n h6 hn (by omega) .un
    refine ⟨s4', fun hg => ?_⟩
    refine ye (ρ1 := [.dat (.list (jd r)), .dat (.int (a : Nat)), .dat (.int ((a + n : Nat) : Int)), .un, .un]) (vq (qj (va (jb rfl) (va (jb rfl) yb)) rfl rfl he) rfl rfl) ?_
    refine ye (ρ1 := [.dat (.list (jd r)), .dat (.int (a : Nat)), .dat (.int ((a + n : Nat) : Int)), .dat (.int 0), .un]) (vq (v := .s (.int 0)) rfl rfl rfl) ?_
    exact ye h1 hg
  rcases SN.vck (kg r a) (r.length - a) with ⟨p, hp, hr, he⟩ | ⟨hr, hb⟩ | ⟨hr, hb⟩
  · have h1 := kc6 r a p (by omega) hp (by omega) he
    have hs := he.small
    obtain ⟨s4, go⟩ := pre (p + 1) (by omega) (by omega) (by omega) h1
    have hlast := fun s3 => jcF r a (p + 1) (by omega) (by omega) s3 s4
    rw [Nat.add_sub_cancel] at hlast
    by_cases hv : SN.val (kg r a) (p + 1) < 2 ^ 40
    · have first : kh (wB (tV (e2 zJ (e2 vi (eV 0) (e2 gSub (eV 2) (eC (.int 1)))) (eC (.int 128)))) (tV (e2 zJ (eV 3) (eC (.int 1099511627776))))) (yi 1 (eV 1)) (ki) [.dat (.list (jd r)), .dat (.int (a : Nat)), .dat (.int ((a + (p + 1) : Nat) : Int)), .dat (.int (SN.val (kg r a) (p + 1) : Nat)), s4] = some (.nx [.dat (.list (jd r)), .dat (.int (a : Nat)), .dat (.int ((a + (p + 1) : Nat) : Int)), .dat (.int (SN.val (kg r a) (p + 1) : Nat)), s4]) :=
        xl (qx (kE (hlast _) rfl (by omega)) (kE (jb rfl) rfl (by omega))) rfl
      by_cases hz : 0 < p ∧ kg r a p = 0
      · refine ⟨_, ?_, .loose p hp (by omega) he hv hz.1 hz.2⟩
        unfold yB jK
        exact ky (go (ye first (vG (xn (qbf (xK (jbC (jb rfl) (jb rfl)) rfl (by omega)) (waH (hlast _) rfl (by omega))) (xE (jb rfl))))))
      · refine ⟨_, ?_, .num p hp (by omega) he hv hz⟩
        unfold yB jK
        refine vD (go (ye first (ye (xl ?_ rfl) (vu (yF (va (jb rfl) (va (jb rfl) yb)) rfl (by simp))))))
        by_cases hp0 : 0 < p
        · exact qbf (xK (jbC (jb rfl) (jb rfl)) rfl (by omega)) (war (hlast _) rfl (by
            intro e
            exact hz ⟨hp0, by omega⟩))
        · exact kbZ (kK (jbC (jb rfl) (jb rfl)) rfl (by omega))
    · refine ⟨_, ?_, .great p hp (by omega) he (by omega)⟩
      unfold yB jK
      exact ky (go (vG (xn (qx (kE (hlast _) rfl (by omega)) (yaA (jb rfl) rfl (by omega))) (xE (jb rfl)))))
  · have h1 := xcX r a ha hl hr hb
    refine ⟨_, ?_, .short hr hb⟩
    unfold yB jK
    exact ky (vG (ydv (wR (va (jb rfl) (va (jb rfl) yb)) rfl rfl h1)))
  · have h1 := qc7 r a (by omega) (by omega) hb
    obtain ⟨s4, go⟩ := pre 6 (by omega) (by omega) (by omega) h1
    have hlast : ∀ s3, _ := fun s3 => jcF r a 6 (by omega) (by omega) s3 s4
    rw [show 6 - 1 = 5 from rfl] at hlast
    have h5 := hb 5 (by omega)
    refine ⟨_, ?_, .long (by omega) hb⟩
    unfold yB jK
    exact ky (go (vG (xn (zaC (yaA (hlast _) rfl (by omega))) (xE (jb rfl)))))
noncomputable def jb1 : FS := kh (wB (tV (e2 qK (eV 2) (eC (.int 0)))) (tV (e2 wz (eV 0) (eC (.int 0))))) (vb (qM 1 (e2 qw (eV 0) (eC (.int 127)))) (je 0 (e2 xC (eV 0) (eC (.int 7))))) (ki)
theorem ybD (n : Nat) (h : n < 2 ^ 40) : xZ [.int (n : Nat)] = some (.retF (jd (SN.steps n))) := by
  have h40 : (2 : Nat) ^ 40 = 1099511627776 := by decide
  have h49 : (2 : Nat) ^ 49 = 562949953421312 := by decide
  have key := yT (g := gN 2) (body := jb1) (ds := vk 0 7) (ρ := [.dat (.int (n : Nat)), .own (jd []), .un, .un]) (fun i ρ => ∃ (m : Nat) (out : List Nat) (s2 : DL.Slot), ρ = [.dat (.int (m : Nat)), .own (jd out), s2, .un] ∧ SN.Part n i out m ∧ out.length ≤ i)
    ⟨n, [], .un, rfl, SN.part0 n, Nat.le_refl _⟩ (by
      rintro i d ρ hd ⟨m, out, s2, rfl, hP, hlen⟩
      obtain ⟨hi, rfl⟩ := kar hd
      have run : (i = 0 ∨ 0 < m) → vb (qM 1 (e2 qw (eV 0) (eC (.int 127)))) (je 0 (e2 xC (eV 0) (eC (.int 7)))) [.dat (.int (m : Nat)), .own (jd out), .dat (.int (i : Nat)), .un] = some (.nx [.dat (.int (m / 128 : Nat)), .own (jd (out ++ [m % 128])), .dat (.int (i : Nat)), .un]) := fun _ =>
        ye (ρ1 := [.dat (.int (m : Nat)), .own (jd (out ++ [m % 128])), .dat (.int (i : Nat)), .un]) (xbC rfl (kbU (jb rfl) rfl) (by omega) rfl) (vq (qbV (j := 7) (jb rfl) rfl) rfl rfl)
      by_cases hg : i = 0 ∨ 0 < m
      · refine ⟨_, _, rfl, ?_, m / 128, out ++ [m % 128], .dat (.int (i : Nat)), rfl, SN.part_go hP hg, by simp; omega⟩
        unfold jb1
        refine xn ?_ (run hg)
        by_cases h0 : i = 0
        · exact zaC (waH (jb rfl) rfl (by omega))
        · exact qx (war (jb rfl) rfl (by omega)) (xK (jb rfl) rfl (by omega))
      · refine ⟨_, _, rfl, ?_, m, out, .dat (.int (i : Nat)), rfl, SN.kcX hP hg, by omega⟩
        unfold jb1
        exact xl (qx (war (jb rfl) rfl (by omega)) (kK (jb rfl) rfl (by omega))) rfl)
  obtain ⟨ρ', h1, m, out, s2, rfl, hP, hlen⟩ := key
  rw [vR] at hP hlen
  have ho := SN.zc7 hP (by omega)
  obtain ⟨hst, _⟩ := SN.qcY n n (Nat.le_refl _)
  rw [← ho] at hst
  unfold xZ yam
  refine qZ ?_
  refine ye (ρ1 := [.dat (.int (n : Nat)), .own (jd []), .un, .un]) (vbU (zE yb rfl (by decide)) rfl) ?_
  refine ye (qT (yar (j := 7) rfl (by decide) (by decide)) h1) (zam ?_)
  have a1 : qB (eV 1) (wu) (zj (e1 kbk (eC (.int 1)))) [.dat (.int (m : Nat)), .own (jd out), s2, .un] = some (.ok (.f (jd out.dropLast))) := by
    rw [jb0 (r_b rfl) (.inr (.inl rfl)) rfl (zbC (kcI (x := 1) rfl)), jcW, xct]
  have a2 : qB (eV 1) (zj (e1 kbk (eC (.int 1)))) (wu) [.dat (.int (m : Nat)), .own (jd out), s2, .un] = some (.ok (.f (jd (out.drop (out.length - 1))))) := by
    rw [jb0 (r_b rfl) (.inr (.inl rfl)) (zbC (kcI (x := 1) rfl)) rfl, wcW, xI, wb0]
  have a3 := wdn (vs := [3]) (st := zP 3) (tt := fun _ => some (.ok true)) (fe := e2 wc (eV 3) (eC (.int 128))) (dat := fun (n : Nat) => PyData.int (n : Int)) (F := fun (n : Nat) => PyData.int ((n + 128 : Nat) : Int)) (xs := out.dropLast) rfl (xdu a1) (by rw [List.length_dropLast]; omega) (fun x _ => ⟨_, _, rfl, rfl, ql (j := 128) (jb rfl) rfl, rfl⟩)
  have e3 : (out.dropLast.map fun (n : Nat) => PyData.int ((n + 128 : Nat) : Int)) = jd (out.dropLast.map fun x => x + 128) := by
    unfold jd
    rw [List.map_map]
    rfl
  rw [e3] at a3
  have a4 := qz a3 a2 rfl rfl rfl (by simp; omega)
  rw [hst] at a4
  exact a4
end FL
namespace LF
open FL (sumOf zH kg)
theorem wc6 (row : List Nat) : sumOf row < 2 ^ 32 := by
  unfold sumOf
  exact Nat.xor_lt_two_pow (CR.xcS _ _ (by decide) (FL.yc6 row) _) (by decide)
def four (n : Nat) : List Nat := [n % 256, n / 256 % 256, n / 65536 % 256, n / 16777216 % 256]
def jj (l : List Nat) : Nat := l.getD 0 0 + l.getD 1 0 * 256 + l.getD 2 0 * 65536 + l.getD 3 0 * 16777216
theorem jcY (n : Nat) (h : n < 2 ^ 32) : jj (four n) = n := by
  simp [jj, four]
  omega
theorem xbD {a b c d : Nat} (ha : a < 256) (hb : b < 256) (hc : c < 256) (hd : d < 256) : four (jj [a, b, c, d]) = [a, b, c, d] := by
  simp [jj, four]
  omega
theorem xcF {a b c d : Nat} (ha : a < 256) (hb : b < 256) (hc : c < 256) (hd : d < 256) : jj [a, b, c, d] < 2 ^ 32 := by
  simp [jj]
  omega
theorem waV (n : Nat) : ∀ x ∈ four n, x < 256 := by
  intro x hx
  simp [four] at hx
  omega
structure vo where
  kind : Nat
  zi : Nat
  number : Nat
  zd : Nat
  ordinal : Nat
  time : Nat
  span : Nat
  key : Nat
  body : List Nat
structure vo.Ok (l : vo) : Prop where
  kind : l.kind ≤ 4
  zi : l.zi < 2 ^ 32
  number : l.number < 2 ^ 32
  zd : l.zd ≤ 15
  ordinal : l.ordinal ≤ 16777215
  time : l.time ≤ 1099511627775
  span : l.span ≤ 16777215
  key : l.key ≤ 1
  size : l.body.length ≤ 1024
  byte : ∀ x ∈ l.body, x < 256
def vo.fields (l : vo) : List Nat := [l.kind] ++ four l.zi ++ four l.number ++ SN.steps l.zd ++ SN.steps l.ordinal ++ SN.steps l.time ++ SN.steps l.span ++ [l.key] ++ SN.steps l.body.length ++ l.body
def vo.qL (l : vo) : List Nat := l.fields ++ four (sumOf l.fields)
def Good (r : List Nat) (a top p : Nat) : Prop := p < 6 ∧ a + p < r.length ∧ SN.Ends (kg r a) p ∧ SN.val (kg r a) (p + 1) ≤ top ∧ ¬ (0 < p ∧ kg r a p = 0)
open Classical in
noncomputable def rd (r : List Nat) (a top : Nat) : Option (Nat × Nat) := if h : ∃ p, Good r a top p then some (SN.val (kg r a) (Classical.choose h + 1), a + Classical.choose h + 1) else none
theorem wb1 {r : List Nat} {a top p : Nat} (h : Good r a top p) : rd r a top = some (SN.val (kg r a) (p + 1), a + p + 1) := by
  unfold rd
  have hh : ∃ p, Good r a top p := ⟨p, h⟩
  rw [dif_pos hh]
  have q := Classical.choose_spec hh
  rw [SN.qaM q.2.2.1 h.2.2.1]
theorem vas {r : List Nat} {a top : Nat} (h : ∀ p, ¬ Good r a top p) : rd r a top = none := by
  unfold rd
  rw [dif_neg (fun ⟨p, q⟩ => h p q)]
theorem qct (r : List Nat) (a top : Nat) : (∃ p, Good r a top p ∧ rd r a top = some (SN.val (kg r a) (p + 1), a + p + 1)) ∨ ((∀ p, ¬ Good r a top p) ∧ rd r a top = none) := by
  by_cases h : ∃ p, Good r a top p
  · obtain ⟨p, q⟩ := h
    exact .inl ⟨p, q, wb1 q⟩
  · exact .inr ⟨fun p q => h ⟨p, q⟩, vas fun p q => h ⟨p, q⟩⟩
theorem vcS (r : List Nat) (a n : Nat) (h : a + n ≤ r.length) : (List.range n).map (kg r a) = (r.drop a).take n := by
  refine List.ext_getElem (by simp; omega) fun i h1 h2 => ?_
  simp at h1
  simp only [List.getElem_map, List.getElem_range, List.getElem_take, List.getElem_drop, kg]
  rw [List.getD_eq_getElem?_getD, List.getElem?_eq_getElem (by omega)]
  rfl
theorem jbk {r : List Nat} {a top n s : Nat} (hr : ∀ x ∈ r, x < 256) (h : rd r a top = some (n, s)) : r.drop a = SN.steps n ++ r.drop s ∧ s ≤ r.length ∧ n ≤ top ∧ a < s := by
  rcases qct r a top with ⟨p, q, e⟩ | ⟨_, e⟩
  · rw [e] at h
    cases h
    obtain ⟨h1, h2, h3, h4, h5⟩ := q
    have hb : ∀ j, j ≤ p → kg r a j < 256 := by
      intro j hj
      unfold kg
      rw [List.getD_eq_getElem?_getD, List.getElem?_eq_getElem (by omega)]
      exact hr _ (List.getElem_mem _)
    have u := SN.uniq p (kg r a) h3 hb (fun h0 hz => h5 ⟨h0, hz⟩)
    refine ⟨?_, by omega, h4, by omega⟩
    rw [u, vcS r a (p + 1) (by omega), show a + p + 1 = a + (p + 1) by omega, ← List.drop_drop, List.take_append_drop]
  · rw [e] at h
    cases h
noncomputable def yaa (r : List Nat) (zd ordinal time span a4 : Nat) : Except (Nat × Nat) vo :=
  if r.length ≤ a4 ∨ 1 < r.getD a4 0 then .error (12, a4) else
  match rd r (a4 + 1) 1024 with
  | none => .error (13, a4 + 1)
  | some (size, a5) =>
    if r.length < a5 + size then .error (14, a5) else
    if r.drop (a5 + size) ≠ four (sumOf (r.take (a5 + size))) then .error (15, a5 + size) else
    .ok ⟨r.getD 0 0, jj ((r.drop 1).take 4), jj ((r.drop 5).take 4), zd, ordinal, time, span, r.getD a4 0, (r.drop a5).take size⟩
noncomputable def read (r : List Nat) : Except (Nat × Nat) vo :=
  if r.length = 0 ∨ 4 < r.getD 0 0 then .error (5, 0) else
  if r.length < 5 then .error (6, 1) else
  if r.length < 9 then .error (7, 5) else
  match rd r 9 15 with
  | none => .error (8, 9)
  | some (zd, a1) => match rd r a1 16777215 with
    | none => .error (9, a1)
    | some (ordinal, a2) => match rd r a2 1099511627775 with
      | none => .error (10, a2)
      | some (time, a3) => match rd r a3 16777215 with
        | none => .error (11, a3)
        | some (span, a4) => yaa r zd ordinal time span a4
theorem xcC {r : List Nat} {zd ordinal time span a4 : Nat} {l : vo} (hr : ∀ x ∈ r, x < 256) (h : yaa r zd ordinal time span a4 = .ok l) : ∃ key size body s, a4 < r.length ∧ key ≤ 1 ∧ r.drop a4 = key :: (SN.steps size ++ (body ++ four (sumOf (r.take s)))) ∧ body.length = size ∧ size ≤ 1024 ∧ s = r.length - 4 ∧ 4 ≤ r.length ∧ a4 + 1 + (SN.steps size).length + size = s ∧ l = ⟨r.getD 0 0, jj ((r.drop 1).take 4), jj ((r.drop 5).take 4), zd, ordinal, time, span, key, body⟩ := by
  unfold yaa at h
  split at h
  · cases h
  rename_i h1
  split at h
  · cases h
  rename_i size a5 e5
  split at h
  · cases h
  rename_i h2
  split at h
  · cases h
  rename_i h3
  have h3 : r.drop (a5 + size) = four (sumOf (r.take (a5 + size))) := Classical.byContradiction h3
  cases h
  obtain ⟨q1, q2, q3, q4⟩ := jbk hr e5
  have hl4 : (r.drop (a5 + size)).length = 4 := by rw [h3]; rfl
  rw [List.length_drop] at hl4
  have hlb : ((r.drop a5).take size).length = size := by rw [List.length_take, List.length_drop]; omega
  have hs : a4 + 1 + (SN.steps size).length = a5 := by
    have := congrArg List.length q1
    rw [List.length_append, List.length_drop, List.length_drop] at this
    omega
  refine ⟨r.getD a4 0, size, (r.drop a5).take size, a5 + size, by omega, by omega, ?_, hlb, q3, by omega, by omega, by omega, rfl⟩
  have e4 : r.drop a4 = r.getD a4 0 :: r.drop (a4 + 1) := by
    rw [List.drop_eq_getElem_cons (by omega), List.getD_eq_getElem?_getD, List.getElem?_eq_getElem (by omega)]
    rfl
  rw [e4, q1, ← h3]
  congr 2
  rw [← List.drop_drop, List.take_append_drop]
theorem nine (r : List Nat) (h : 9 ≤ r.length) : ∃ x0 x1 x2 x3 x4 x5 x6 x7 x8 t, r = x0 :: x1 :: x2 :: x3 :: x4 :: x5 :: x6 :: x7 :: x8 :: t := by
  have go : ∀ (n : Nat) (l : List Nat), n + 1 ≤ l.length → ∃ x t, l = x :: t ∧ n ≤ t.length := by
    intro n l h
    cases l with
    | nil => simp at h
    | cons x t => exact ⟨x, t, rfl, by simpa using h⟩
  obtain ⟨x0, t0, rfl, h0⟩ := go 8 r h
  obtain ⟨x1, t1, rfl, h1⟩ := go 7 t0 h0
  obtain ⟨x2, t2, rfl, h2⟩ := go 6 t1 h1
  obtain ⟨x3, t3, rfl, h3⟩ := go 5 t2 h2
  obtain ⟨x4, t4, rfl, h4⟩ := go 4 t3 h3
  obtain ⟨x5, t5, rfl, h5⟩ := go 3 t4 h4
  obtain ⟨x6, t6, rfl, h6⟩ := go 2 t5 h5
  obtain ⟨x7, t7, rfl, h7⟩ := go 1 t6 h6
  obtain ⟨x8, t8, rfl, h8⟩ := go 0 t7 h7
  exact ⟨_, _, _, _, _, _, _, _, _, _, rfl⟩
theorem ycS {r : List Nat} {L : vo} {s : Nat} (whole : r = L.fields ++ four (sumOf (r.take s))) (hs : s = r.length - 4) : L.qL = r := by
  have hlen : L.fields.length = s := by
    have q := congrArg List.length whole
    rw [List.length_append] at q
    have h4 : (four (sumOf (r.take s))).length = 4 := rfl
    omega
  have ht : r.take s = L.fields := by
    rw [← hlen]
    generalize four (sumOf (r.take s)) = f at whole
    rw [whole]
    exact List.take_left
  unfold vo.qL
  rw [← ht]
  rw [ht] at whole
  rw [ht]
  exact whole.symm
theorem zdp {r : List Nat} {l : vo} (hr : ∀ x ∈ r, x < 256) (h : read r = .ok l) : l.Ok ∧ l.qL = r := by
  unfold read at h
  split at h
  · cases h
  rename_i h0
  split at h
  · cases h
  rename_i h5
  split at h
  · cases h
  rename_i h9
  split at h
  · cases h
  rename_i zd a1 e1
  split at h
  · cases h
  rename_i ordinal a2 e2
  split at h
  · cases h
  rename_i time a3 e3
  split at h
  · cases h
  rename_i span a4 e4
  obtain ⟨t1, t2, t3, t4⟩ := jbk hr e1
  obtain ⟨o1, o2, o3, o4⟩ := jbk hr e2
  obtain ⟨m1, m2, m3, m4⟩ := jbk hr e3
  obtain ⟨p1, p2, p3, p4⟩ := jbk hr e4
  obtain ⟨key, size, body, s, k1, k2, k3, k4, k5, k6, k7, k8, rfl⟩ := xcC hr h
  obtain ⟨x0, x1, x2, x3, x4, x5, x6, x7, x8, t, er⟩ := nine r (by omega)
  have b1 := hr x1 (by rw [er]; simp)
  have b2 := hr x2 (by rw [er]; simp)
  have b3 := hr x3 (by rw [er]; simp)
  have b4 := hr x4 (by rw [er]; simp)
  have b5 := hr x5 (by rw [er]; simp)
  have b6 := hr x6 (by rw [er]; simp)
  have b7 := hr x7 (by rw [er]; simp)
  have b8 := hr x8 (by rw [er]; simp)
  have f1 : (r.drop 1).take 4 = [x1, x2, x3, x4] := by rw [er]; rfl
  have f2 : (r.drop 5).take 4 = [x5, x6, x7, x8] := by rw [er]; rfl
  have f0 : r.getD 0 0 = x0 := by rw [er]; rfl
  have vdE : ∀ x ∈ body, x < 256 := fun x hx => by
    refine hr x (List.mem_of_mem_drop (i := a4) ?_)
    rw [k3]
    simp [hx]
  refine ⟨⟨?_, ?_, ?_, t3, o3, m3, p3, k2, by rw [k4]; exact k5, vdE⟩, ?_⟩
  · show r.getD 0 0 ≤ 4
    omega
  · show jj ((r.drop 1).take 4) < 2 ^ 32
    rw [f1]
    exact xcF b1 b2 b3 b4
  · show jj ((r.drop 5).take 4) < 2 ^ 32
    rw [f2]
    exact xcF b5 b6 b7 b8
  · refine ycS (s := s) ?_ k6
    unfold vo.fields
    dsimp only
    rw [f0, f1, f2, xbD b1 b2 b3 b4, xbD b5 b6 b7 b8, k4]
    have e9 : r = x0 :: x1 :: x2 :: x3 :: x4 :: x5 :: x6 :: x7 :: x8 :: r.drop 9 := by rw [er]; rfl
    rw [t1, o1, m1, p1, k3] at e9
    refine e9.trans ?_
    simp only [List.append_assoc, List.cons_append, List.nil_append]
theorem yaS {r : List Nat} {a top n s : Nat} (h : rd r a top = some (n, s)) : s ≤ r.length ∧ n ≤ top ∧ a < s := by
  rcases qct r a top with ⟨p, q, e⟩ | ⟨_, e⟩
  · rw [e] at h
    cases h
    obtain ⟨h1, h2, h3, h4, h5⟩ := q
    exact ⟨by omega, h4, by omega⟩
  · rw [e] at h
    cases h
end LF
namespace FL
open PySem PySem.Spec PyProof.Rows L2 DL FN
open LF (vo)
section
variable {f g : FS} {ρ ρ1 : xb} {o : Out} {E fa fb : FE} {v : Val} {d : D} {c : Nat} {j : Int}
theorem yX {tg : FG} (q : E ρ = some (.ok v)) (h : v.st = some d) (e : tg d ρ = some ρ1) : jw tg E ρ = some (.nx ρ1) := by
  rw [ycE]
  unfold sE
  rw [q]
  dsimp only
  rw [h]
  dsimp only
  rw [e]
  rfl
theorem yav {tg : FG} (q : E ρ = some (.error (c, j))) : jw tg E ρ = some (.exc ρ c j) := by
  rw [ycE]
  unfold sE
  rw [q]
theorem jdx {m : Nat → Option Bool} {gg : FS} {rest : HF} (hm : m c = some true) (h : gg ρ = some (.ret d)) : jbY m gg rest c j ρ = some (.ret d) := by
  unfold jbY
  rw [hm]
  dsimp only
  rw [h]
theorem xbl {a : D} (ha : fa ρ = some (.ok (.s a))) (hb : fb ρ = some (.ok (.s .none))) : tV (e2 yL fa fb) ρ = some (.ok (isNone a)) := jah (xT ha hb rfl) rfl
theorem kdn {G : DF} {A : FA} {vs : List Val} {es : List D} {n : Nat} (q : A ρ = some (.ok vs)) (hs : vs.map Val.d = es) (hst : zD vs = none) (hn : vs.length = n) (e : G es = some (.ret d)) : kb G n A ρ = some (.ok (.m d)) := by
  unfold kb
  rw [q]
  dsimp only
  rw [if_pos hn, hs, e]
  dsimp only
  rw [hst]
theorem vm {g : FG} {body : FS} {ρ2 : xb} {ds : List D} {o : Option Out} (h1 : g d ρ = some ρ1) (h2 : body ρ1 = some (.nx ρ2)) (h3 : forL g body ds ρ2 = o) : forL g body (d :: ds) ρ = o := by
  unfold forL
  rw [h1]
  dsimp only
  rw [h2]
  exact h3
end
theorem zcX {ρ ρ1 : xb} {i : Nat} {E : FE} {v : Val} {R S : List Nat} (ho : ρ[i]? = some (.own (jd R))) (q : E ρ = some (.ok v)) (hv : v.items = some (jd S)) (hl : R.length + S.length ≤ 10000000) (e : ρ.set i (.own (jd (R ++ S))) = ρ1) : zaH i E ρ = some (.nx ρ1) :=
  kda (es := jd R) ho q hv (by rw [xI, xI]; omega) (by rw [← e, ybU])
theorem wbM (n : Nat) : kn [.int (n : Nat)] = some (.retF (jd (LF.four n))) := by
  have q := vb7 (n : Int)
  have e : (zce (n : Int)).map PyData.int = jd (LF.four n) := by
    simp [zce, LF.four, jd]
  rw [e] at q
  exact q
theorem zcY {a b c d : Nat} (hb : b < 256) (hc : c < 256) (hd : d < 256) : kF [.list (jd [a, b, c, d])] = some (.ret (.int (LF.jj [a, b, c, d] : Nat))) := by
  have q := zck a b c d (by omega) (by omega) (by omega) (by omega) (by omega) (by omega)
  have e : ((LF.jj [a, b, c, d] : Nat) : Int) = a + b * 256 + c * 65536 + d * 16777216 := by
    simp [LF.jj]
  rw [e]
  exact q
def lfD (l : vo) : D := .tuple [.int (l.kind : Nat), .int (l.zi : Nat), .int (l.number : Nat), .int (l.zd : Nat), .int (l.ordinal : Nat), .int (l.time : Nat), .int (l.span : Nat), .int (l.key : Nat), .list (jd l.body)]
noncomputable def yck : FS := kh (wB (tV (e2 vT (e2 vi (eV 0) (eV 2)) (eC (.int 0)))) (tV (e2 wz (e2 vi (eV 0) (eV 2)) (eV 3)))) (yi 1 (eV 2)) (ki)
theorem kaA {items : List D} {s1 : DL.Slot} {i f top : Int} (h : atI items i = some (.int f)) (h0 : 0 ≤ f) (h1 : f ≤ top) : yck [.dat (.tuple items), s1, .dat (.int i), .dat (.int top)] = some (.nx [.dat (.tuple items), s1, .dat (.int i), .dat (.int top)]) := by
  unfold yck
  exact xl (qx (jZ (vaS (jb rfl) (jb rfl) h) rfl h0) (kK (vaS (jb rfl) (jb rfl) h) (jb rfl) h1)) rfl
theorem wbV {l : vo} (h : l.Ok) : kZ [lfD l] = some (.ret .none) := by
  have h40 : (2 : Nat) ^ 32 = 4294967296 := by decide
  have h0 := h.kind
  have h1 := h.zi
  have h2 := h.number
  have h3 := h.zd
  have h4 := h.ordinal
  have h5 := h.time
  have h6 := h.span
  have h7 := h.key
  have h8 := h.size
  have key : ∀ s1 : DL.Slot, ∃ s2 s3 : DL.Slot, forL (gT 2 (qc 2 (qc 3 (wo)))) yck (waa [.int 4, .int 4294967295, .int 4294967295, .int 15, .int 16777215, .int 1099511627775, .int 16777215, .int 1]) [.dat (lfD l), s1, .un, .un] = some (.nx [.dat (lfD l), s1, s2, s3]) := by
    intro s1
    refine ⟨.dat (.int 7), .dat (.int 1), ?_⟩
    refine vm rfl (kaA (f := (l.kind : Nat)) rfl (by omega) (by omega)) ?_
    refine vm rfl (kaA (f := (l.zi : Nat)) rfl (by omega) (by omega)) ?_
    refine vm rfl (kaA (f := (l.number : Nat)) rfl (by omega) (by omega)) ?_
    refine vm rfl (kaA (f := (l.zd : Nat)) rfl (by omega) (by omega)) ?_
    refine vm rfl (kaA (f := (l.ordinal : Nat)) rfl (by omega) (by omega)) ?_
    refine vm rfl (kaA (f := (l.time : Nat)) rfl (by omega) (by omega)) ?_
    refine vm rfl (kaA (f := (l.span : Nat)) rfl (by omega) (by omega)) ?_
    refine vm rfl (kaA (f := (l.key : Nat)) rfl (by omega) (by omega)) ?_
    rfl
  obtain ⟨s2, s3, hk⟩ := key (.dat (.tuple [.int 4, .int 4294967295, .int 4294967295, .int 15, .int 16777215, .int 1099511627775, .int 16777215, .int 1]))
  unfold kZ jas
  refine vdD (ρ1 := [.dat (lfD l), .dat (.tuple [.int 4, .int 4294967295, .int 4294967295, .int 15, .int 16777215, .int 1099511627775, .int 16777215, .int 1]), s2, s3]) ?_
  refine ye (ρ1 := [.dat (lfD l), .dat (.tuple [.int 4, .int 4294967295, .int 4294967295, .int 15, .int 16777215, .int 1099511627775, .int 16777215, .int 1]), .un, .un]) (vq rfl rfl rfl) ?_
  refine ye (qT (it := zbT (qa (eV 1) (ka))) rfl hk) ?_
  exact xl (kK (xt (r := l.body) (vaS (d := .list (jd l.body)) (jb rfl) rfl rfl) rfl) rfl (by omega)) rfl
theorem ka5 {ρ ρ1 : xb} {i j : Nat} {R : List Nat} {n : Nat} (ho : ρ[i]? = some (.own (jd R))) (hj : ρ[j]? = some (.dat (.int (n : Int)))) (h : n < 2 ^ 40) (hl : R.length ≤ 100000) (e : ρ.set i (.own (jd (R ++ SN.steps n))) = ρ1) : zaH i (kb FN.xF 1 (qa (eV j) (ka))) ρ = some (.nx ρ1) := by
  obtain ⟨p, s⟩ := SN.jce n
  have s1 := s.len
  have s2 := s.xc6 h
  exact kda (es := jd R) ho (zZ (va (jb hj) yb) rfl rfl (zbD n h)) rfl (by rw [xI, xI]; omega) (by rw [← e, ybU])
theorem vv (n : Nat) (h : n < 2 ^ 40) : (SN.steps n).length ≤ 6 := by
  obtain ⟨p, s⟩ := SN.jce n
  have s1 := s.len
  have s2 := s.xc6 h
  omega
theorem jbD {l : vo} (h : l.Ok) : ∀ x ∈ l.fields, x < 256 := by
  have st : ∀ n, ∀ x ∈ SN.steps n, x < 256 := fun n => by
    obtain ⟨p, s⟩ := SN.jce n
    exact s.byte
  intro x hx
  unfold LF.vo.fields at hx
  simp only [List.mem_append, List.mem_singleton] at hx
  have h1 := h.kind
  have h2 := h.key
  rcases hx with ((((((((hx | hx) | hx) | hx) | hx) | hx) | hx) | hx) | hx) | hx
  · omega
  · exact LF.waV _ x hx
  · exact LF.waV _ x hx
  · exact st _ x hx
  · exact st _ x hx
  · exact st _ x hx
  · exact st _ x hx
  · omega
  · exact st _ x hx
  · exact h.byte x hx
theorem ybl {l : vo} (h : l.Ok) : l.fields.length ≤ 1100 ∧ l.fields.length = 10 + (SN.steps l.zd).length + (SN.steps l.ordinal).length + (SN.steps l.time).length + (SN.steps l.span).length + (SN.steps l.body.length).length + l.body.length := by
  have h40 : (2 : Nat) ^ 40 = 1099511627776 := by decide
  have h3 := h.zd
  have h4 := h.ordinal
  have h5 := h.time
  have h6 := h.span
  have h8 := h.size
  have a1 := vv l.zd (by omega)
  have a2 := vv l.ordinal (by omega)
  have a3 := vv l.time (by omega)
  have a4 := vv l.span (by omega)
  have a5 := vv l.body.length (by omega)
  have f4 : ∀ n, (LF.four n).length = 4 := fun _ => rfl
  unfold LF.vo.fields
  simp only [List.length_append, List.length_singleton, f4]
  omega
def stD (a : Nat) : Option (Nat × Nat) → D
  | some (n, s) => .tuple [.int (n : Nat), .int (s : Nat)]
  | none => .tuple [.none, .int (a : Nat)]
theorem vaC (r : List Nat) (a top : Nat) (ha : a ≤ r.length) (hl : r.length ≤ 100000) (ht : top < 2 ^ 40) : xj [.list (jd r), .int (a : Nat), .int (top : Nat)] = some (.ret (stD a (LF.rd r a top))) := by
  have h40 : (2 : Nat) ^ 40 = 1099511627776 := by decide
  obtain ⟨o, g1, g2⟩ := wck r a ha hl
  have bad : ∀ {c : Nat} {j : Int}, yB [.list (jd r), .int (a : Nat)] = some (.exc c j) → mxL [(1, true), (2, true), (3, true)] c = some true → LF.rd r a top = none → xj [.list (jd r), .int (a : Nat), .int (top : Nat)] = some (.ret (stD a (LF.rd r a top))) := by
    intro c j e hm hn
    rw [hn]
    unfold xj jo
    exact vD (vaa (kcV (yav (wR (va (jb rfl) (va (jb rfl) yb)) rfl rfl e)) (jdx hm (vu (yF (va rfl (va (jb rfl) yb)) rfl (by simp))))))
  cases g2 with
  | num p hp hr he hv hz =>
    have run : ∀ {o : Option Out} {g : FS}, g [.dat (.list (jd r)), .dat (.int (a : Nat)), .dat (.int (top : Nat)), .dat (.int (SN.val (kg r a) (p + 1) : Nat)), .dat (.int ((a + p + 1 : Nat) : Int))] = o →
        vb (vaB (jw (gT 2 (qc 3 (qc 4 (wo)))) (kb FN.yB 2 (qa (eV 0) (qa (eV 1) (ka))))) (jbY (mxL [(1, true), (2, true), (3, true)]) (vh (jn (qa (eC .none) (qa (eV 1) (ka))))) (kc1))) g [.dat (.list (jd r)), .dat (.int (a : Nat)), .dat (.int (top : Nat)), .un, .un] = o := fun {o g} h =>
      ye (jdv (yX (d := .tuple [.int (SN.val (kg r a) (p + 1) : Nat), .int ((a + p + 1 : Nat) : Int)]) (qj (va (jb rfl) (va (jb rfl) yb)) rfl rfl g1) rfl rfl)) h
    by_cases hb : SN.val (kg r a) (p + 1) ≤ top
    · rw [LF.wb1 (p := p) ⟨hp, hr, he, hb, hz⟩]
      unfold xj jo
      exact vD (run (ye (xl (kK (jb rfl) (jb rfl) (by omega)) rfl) (vu (yF (va (jb rfl) (va (jb rfl) yb)) rfl (by simp)))))
    · rw [LF.vas fun q ⟨h1, h2, h3, h4, h5⟩ => by
        have := SN.qaM h3 he
        subst this
        exact hb h4]
      unfold xj jo
      exact vD (run (vaa (xn (xK (jb rfl) (jb rfl) (by omega)) (vu (yF (va rfl (va (jb rfl) yb)) rfl (by simp))))))
  | loose p hp hr he hv hp0 hz =>
    exact bad g1 rfl (LF.vas fun q ⟨h1, h2, h3, h4, h5⟩ => by
      have := SN.qaM h3 he
      subst this
      exact h5 ⟨hp0, hz⟩)
  | great p hp hr he hb =>
    exact bad g1 rfl (LF.vas fun q ⟨h1, h2, h3, h4, h5⟩ => by
      have := SN.qaM h3 he
      subst this
      omega)
  | long hr hb =>
    exact bad g1 rfl (LF.vas fun q ⟨h1, h2, h3, h4, h5⟩ => by
      have := hb q h1
      have := h3.small
      omega)
  | short hr hb =>
    exact bad g1 rfl (LF.vas fun q ⟨h1, h2, h3, h4, h5⟩ => by
      have := hb q (by omega)
      have := h3.small
      omega)
theorem vbV (l : List Nat) (h : l.length = 4) (hb : ∀ x ∈ l, x < 256) : kF [.list (jd l)] = some (.ret (.int (LF.jj l : Nat))) := by
  match l, h, hb with
  | [a, b, c, d], _, hb => exact zcY (hb b (by simp)) (hb c (by simp)) (hb d (by simp))
theorem za7 (r : List Nat) (h : ¬ (r.length = 0 ∨ 4 < r.getD 0 0)) : kh (wB (tV (e2 qK (eG kl (qa (eV 0) (ka))) (eC (.int 0)))) (tV (e2 wz (e2 vi (eV 0) (eC (.int 0))) (eC (.int 4))))) (yi 5 (eC (.int 0))) (ki) [.dat (.list (jd r))] = some (.nx [.dat (.list (jd r))]) := by
  have h0 : ¬ r.length = 0 := fun e => h (.inl e)
  have h1 : ¬ 4 < r.getD 0 0 := fun e => h (.inr e)
  exact xl (qx (war (xt (jb rfl) rfl) rfl (by omega)) (kK (qP (i := 0) (jb rfl) rfl (by omega)) rfl (by omega))) rfl
noncomputable def qcj (r : List Nat) : kaV :=
  match LF.rd r 9 15 with
  | none => .exc 8 9
  | some (zd, a1) => match LF.rd r a1 16777215 with
    | none => .exc 9 (a1 : Nat)
    | some (ordinal, a2) => match LF.rd r a2 1099511627775 with
      | none => .exc 10 (a2 : Nat)
      | some (time, a3) => match LF.rd r a3 16777215 with
        | none => .exc 11 (a3 : Nat)
        | some (span, a4) => .ret (.tuple [.int (zd : Nat), .int (ordinal : Nat), .int (time : Nat), .int (span : Nat), .int (a4 : Nat)])
theorem kaz {ρ : xb} {i : Nat} (h : ρ[i]? = some (.dat .none)) : tV (e2 yL (eV i) (eC .none)) ρ = some (.ok true) := xbl (jb h) rfl
theorem xaW {ρ : xb} {i : Nat} {n : Int} (h : ρ[i]? = some (.dat (.int n))) : tV (e2 yL (eV i) (eC .none)) ρ = some (.ok false) := xbl (jb h) rfl
noncomputable def zcJ (r : List Nat) (a : Nat) : kaV :=
  match LF.rd r a 1024 with
  | none => .exc 13 (a : Nat)
  | some (size, a5) => if r.length < a5 + size then .exc 14 (a5 : Nat) else .ret (.tuple [.list (jd ((r.drop a5).take size)), .int ((a5 + size : Nat) : Int)])
def vdJ : Except (Nat × Nat) vo → kaV
  | .ok l => .ret (lfD l)
  | .error (c, j) => .exc c (j : Nat)
def wdJ (ρ : xb) : Except (Nat × Nat) vo → Out
  | .ok l => .ret (lfD l)
  | .error (c, j) => .exc ρ c (j : Nat)
theorem wbD (x m : Nat) : ∃ y : Nat, y ≤ m ∧ Builtin.bitAnd (x : Int) (m : Int) = (y : Int) := by
  refine ⟨x &&& m, Nat.and_le_right, ?_⟩
  rw [bitAnd_pp (Int.natCast_nonneg x) (Int.natCast_nonneg m)]
  rfl
theorem qaw (ds : List Int) (k : Int) (b : Nat) (hk : 0 ≤ k) (h7 : 7 ≤ b) (hb : b ≤ 64) : ∃ n : Nat, n < 2 ^ b ∧ qG [.list (ds.map .int), .int k, .int (b : Nat)] = some (.ret (.int (n : Nat))) := by
  obtain ⟨x0, hx0, l0⟩ := wZ ds k 65536 (by omega)
  obtain ⟨x1, hx1, l1⟩ := wZ ds (k + 1) 65536 (by omega)
  obtain ⟨x2, hx2, l2⟩ := wZ ds k 256 (by omega)
  have A0 := fun (s3 : DL.Slot) (m : Int) (hm : 0 < m) => yci (fa := eV 0) (fb := eV 1) (fc := eC (.int m)) (ρ := [.dat (.list (ds.map .int)), .dat (.int k), .dat (.int (b : Nat)), s3]) (ds := ds) (k := k) (m := m) rfl (jb rfl) rfl hk hm
  have A1 := fun (s3 : DL.Slot) (fc : FE) (m : Int) (hm : 0 < m) (hc : fc [.dat (.list (ds.map .int)), .dat (.int k), .dat (.int (b : Nat)), s3] = some (.ok (.s (.int m)))) => yci (fa := eV 0) (fb := e2 wc (eV 1) (eC (.int 1))) (fc := fc) (ρ := [.dat (.list (ds.map .int)), .dat (.int k), .dat (.int (b : Nat)), s3]) (ds := ds) (k := k + 1) (m := m) rfl (zbf (jb rfl) rfl) hc (by omega) hm
  have a0 := A0 .un 65536 (by decide)
  have a1 := A1 .un (eC (.int 65536)) 65536 (by decide) rfl
  have a2 := A0 .un 256 (by decide)
  rw [← hx0] at a0
  rw [← hx1] at a1
  rw [← hx2] at a2
  generalize hN : x0 + 65536 * x1 + 4294967296 * x2 = N
  have hp : 0 < 2 ^ b := Nat.pow_pos (by decide)
  obtain ⟨y, hy, ey⟩ := wbD N (2 ^ b - 1)
  have hsh : ∃ s : Nat, s ≤ 100 ∧ atI [PyData.int 0, .int ((b - 7 : Nat) : Int), .int (atD ds (k + 1) (b : Nat))] (atD ds k 3) = some (.int (s : Int)) := by
    obtain ⟨n, hn, hn2⟩ := wZ ds (k + 1) (b : Int) (by omega)
    have c1 := vci ds k 3 (by omega)
    have c2 := kcW ds k 3 (by omega)
    generalize atD ds k 3 = j at c1 c2
    rw [← hn]
    rcases (show j = 0 ∨ j = 1 ∨ j = 2 by omega) with h | h | h <;> subst h
    · exact ⟨0, by decide, rfl⟩
    · exact ⟨b - 7, by omega, rfl⟩
    · exact ⟨n, by omega, rfl⟩
  obtain ⟨s, hs, hse⟩ := hsh
  have hle : y / 2 ^ s ≤ y := Nat.div_le_self _ _
  refine ⟨y / 2 ^ s, by omega, ?_⟩
  unfold qG wK
  refine vD ?_
  refine ye (ρ1 := [.dat (.list (ds.map .int)), .dat (.int k), .dat (.int (b : Nat)), .dat (.int (N : Nat))]) (vq (ql (ql a0 (yaL (i := 65536) rfl a1 (.inl (by decide)))) (yaL (i := 4294967296) rfl a2 (.inr (by omega)))) rfl (by rw [hN]; rfl)) ?_
  have m1 : e2 gSub (e2 kag (eC (.int 1)) (eV 2)) (eC (.int 1)) [.dat (.list (ds.map .int)), .dat (.int k), .dat (.int (b : Nat)), .dat (.int (N : Nat))] = some (.ok (.s (.int ((2 ^ b - 1 : Nat) : Int)))) := by
    have q := ybC (j := 1) (fb := eC (.int 1)) (zbV (fa := eC (.int 1)) (fb := eV 2) (ρ := [.dat (.list (ds.map .int)), .dat (.int k), .dat (.int (b : Nat)), .dat (.int (N : Nat))]) (i := 1) (j := b) rfl (jb rfl) (by decide) (by omega)) rfl (by omega)
    rw [Nat.one_mul] at q
    exact q
  have m2 := wbC (fa := eV 3) (ρ := [.dat (.list (ds.map .int)), .dat (.int k), .dat (.int (b : Nat)), .dat (.int (N : Nat))]) (jb rfl) m1
  rw [ey] at m2
  have m3 : e2 vi (zw (qa (eC (.int 0)) (qa (e2 gSub (eV 2) (eC (.int 7))) (qa (kb FN.kf 3 (qa (eV 0) (qa (e2 wc (eV 1) (eC (.int 1))) (qa (eV 2) (ka))))) (ka))))) (kb FN.kf 3 (qa (eV 0) (qa (eV 1) (qa (eC (.int 3)) (ka))))) [.dat (.list (ds.map .int)), .dat (.int k), .dat (.int (b : Nat)), .dat (.int (N : Nat))] = some (.ok (.s (.int (s : Int)))) :=
    qce (zE (va rfl (va (ybC (j := 7) (jb rfl) rfl h7) (va (A1 _ (eV 2) (b : Int) (by omega) (jb rfl)) yb))) rfl (by simp)) (A0 _ 3 (by decide)) hse rfl
  exact vu (qbV m2 m3)
theorem kct (ds : List Int) (k : Int) (hk : 0 ≤ k) : ∃ l : vo, l.Ok ∧ xav [.list (ds.map .int), .int k] = some (.ret (lfD l)) := by
  have h32 : (2 : Nat) ^ 32 = 4294967296 := by decide
  have h24 : (2 : Nat) ^ 24 = 16777216 := by decide
  have h40 : (2 : Nat) ^ 40 = 1099511627776 := by decide
  obtain ⟨kind, hkind, lkind⟩ := wZ ds k 5 (by omega)
  obtain ⟨zi, lstamp, hstamp⟩ := qaw ds (k + 1) 32 (by omega) (by decide) (by decide)
  obtain ⟨number, lnumber, hnumber⟩ := qaw ds (k + 3) 32 (by omega) (by decide) (by decide)
  obtain ⟨zd, htrack, ltrack⟩ := wZ ds (k + 5) 16 (by omega)
  obtain ⟨ordinal, lordinal, hordinal⟩ := qaw ds (k + 6) 24 (by omega) (by decide) (by decide)
  obtain ⟨time, ltime, htime⟩ := qaw ds (k + 8) 40 (by omega) (by decide) (by decide)
  obtain ⟨span, lspan, hspan⟩ := qaw ds (k + 10) 24 (by omega) (by decide) (by decide)
  obtain ⟨sz, hsz, lsz⟩ := wZ ds (k + 12) 9 (by omega)
  obtain ⟨big, hbig, lbig⟩ := wZ ds (k + 13) 905 (by omega)
  obtain ⟨seed, hseed, lseed⟩ := wZ ds (k + 13) 65536 (by omega)
  obtain ⟨key, hkey, lkey⟩ := wZ ds (k + 14) 2 (by omega)
  have A := fun (s2 s3 s4 s5 s6 s7 s8 s9 s10 s11 : DL.Slot) (q many : Int) (hq : 0 ≤ q) (hmany : 0 < many) => yci (fa := eV 0) (fb := e2 wc (eV 1) (eC (.int q))) (fc := eC (.int many)) (ρ := [.dat (.list (ds.map .int)), .dat (.int k), s2, s3, s4, s5, s6, s7, s8, s9, s10, s11]) (ds := ds) (k := k + q) (m := many) rfl (zbf (jb rfl) rfl) rfl (by omega) hmany
  have Wd := fun (s2 s3 s4 s5 s6 s7 s8 s9 s10 s11 : DL.Slot) (q : Int) (b : Nat) (n : Nat) (h : qG [.list (ds.map .int), .int (k + q), .int (b : Nat)] = some (.ret (.int (n : Nat)))) => qj (n := 3) (A := qa (eV 0) (qa (e2 wc (eV 1) (eC (.int q))) (qa (eC (.int (b : Nat))) (ka)))) (ρ := [.dat (.list (ds.map .int)), .dat (.int k), s2, s3, s4, s5, s6, s7, s8, s9, s10, s11]) (va (jb rfl) (va (zbf (jb rfl) rfl) (va rfl yb))) rfl rfl h
  have size : ∃ S : Nat, S ≤ 1024 ∧ ∀ s2 s3 s4 s5 s6 s7 s8 : DL.Slot, kh (tV (e2 qK (kb FN.kf 3 (qa (eV 0) (qa (e2 wc (eV 1) (eC (.int 12))) (qa (eC (.int 24)) (ka))))) (eC (.int 23)))) (je 9 (e2 wc (eC (.int 120)) (kb FN.kf 3 (qa (eV 0) (qa (e2 wc (eV 1) (eC (.int 13))) (qa (eC (.int 905)) (ka))))))) (ki) [.dat (.list (ds.map .int)), .dat (.int k), s2, s3, s4, s5, s6, s7, s8, .dat (.int (sz : Nat)), .un, .un] = some (.nx [.dat (.list (ds.map .int)), .dat (.int k), s2, s3, s4, s5, s6, s7, s8, .dat (.int (S : Nat)), .un, .un]) := by
    by_cases h : atD ds (k + 12) 24 = 23
    · refine ⟨120 + big, by omega, fun s2 s3 s4 s5 s6 s7 s8 => xn (waH (A _ _ _ _ _ _ _ _ _ _ 12 24 (by decide) (by decide)) rfl h) ?_⟩
      have q := A s2 s3 s4 s5 s6 s7 s8 (.dat (.int (sz : Nat))) .un .un 13 905 (by decide) (by decide)
      rw [← hbig] at q
      exact vq (ql (i := 120) rfl q) rfl rfl
    · exact ⟨sz, by omega, fun s2 s3 s4 s5 s6 s7 s8 => xl (war (A _ _ _ _ _ _ _ _ _ _ 12 24 (by decide) (by decide)) rfl h) rfl⟩
  obtain ⟨S, hS, hSr⟩ := size
  have menu : ∀ n : Nat, ∃ p : Int × Nat, p.2 < 256 ∧ atI [PyData.int 255, .int 1, .int 7] ((n : Int) % 3) = some (.int p.1) ∧ Builtin.bitAnd ((seed + n * n : Nat) : Int) p.1 = (p.2 : Int) := by
    intro n
    rcases (show (n : Int) % 3 = 0 ∨ (n : Int) % 3 = 1 ∨ (n : Int) % 3 = 2 by omega) with h | h | h <;> rw [h]
    · obtain ⟨y, h1, h2⟩ := wbD (seed + n * n) 255
      exact ⟨(255, y), by show y < 256; omega, rfl, h2⟩
    · obtain ⟨y, h1, h2⟩ := wbD (seed + n * n) 1
      exact ⟨(1, y), by show y < 256; omega, rfl, h2⟩
    · obtain ⟨y, h1, h2⟩ := wbD (seed + n * n) 7
      exact ⟨(7, y), by show y < 256; omega, rfl, h2⟩
  obtain ⟨pick, hpick⟩ := Classical.axiomOfChoice menu
  obtain ⟨yy, hyy0⟩ : ∃ yy : Nat → Nat, yy = fun n => (pick n).2 := ⟨_, rfl⟩
  have hyy : ∀ n, yy n < 256 := fun n => by rw [hyy0]; exact (hpick n).1
  have hmm : ∀ n : Nat, atI [PyData.int 255, .int 1, .int 7] ((n : Int) % 3) = some (.int (pick n).1) := fun n => (hpick n).2.1
  have hand : ∀ n : Nat, Builtin.bitAnd ((seed + n * n : Nat) : Int) (pick n).1 = (yy n : Int) := fun n => by rw [hyy0]; exact (hpick n).2.2
  refine ⟨⟨kind, zi, number, zd, ordinal, time, span, key, (List.range S).map yy⟩, ⟨by show kind ≤ 4; omega, lstamp, lnumber, by show zd ≤ 15; omega, by show ordinal ≤ 16777215; omega, by show time ≤ 1099511627775; omega, by show span ≤ 16777215; omega, by show key ≤ 1; omega, by show ((List.range S).map yy).length ≤ 1024; simp; exact hS, ?_⟩, ?_⟩
  · intro x hx
    obtain ⟨n, _, rfl⟩ := List.mem_map.mp hx
    exact hyy n
  have hr2 := yci (fa := eV 0) (fb := eV 1) (fc := eC (.int 5)) (ρ := [.dat (.list (ds.map .int)), .dat (.int k), .un, .un, .un, .un, .un, .un, .un, .un, .un, .un]) (ds := ds) (k := k) (m := 5) rfl (jb rfl) rfl hk (by decide)
  rw [← hkind] at hr2
  have a5 := fun s2 s3 s4 => A s2 s3 s4 .un .un .un .un .un .un .un 5 16 (by decide) (by decide)
  rw [← htrack] at a5
  have a12 := fun s2 s3 s4 s5 s6 s7 s8 => A s2 s3 s4 s5 s6 s7 s8 .un .un .un 12 9 (by decide) (by decide)
  rw [← hsz] at a12
  unfold xav vaJ
  refine vD ?_
  refine ye (ρ1 := [.dat (.list (ds.map .int)), .dat (.int k), .dat (.int (kind : Nat)), .un, .un, .un, .un, .un, .un, .un, .un, .un]) (vq hr2 rfl rfl) ?_
  refine ye (ρ1 := [.dat (.list (ds.map .int)), .dat (.int k), .dat (.int (kind : Nat)), .dat (.int (zi : Nat)), .un, .un, .un, .un, .un, .un, .un, .un]) (vq (Wd _ _ _ _ _ _ _ _ _ _ 1 32 zi hstamp) rfl rfl) ?_
  refine ye (ρ1 := [.dat (.list (ds.map .int)), .dat (.int k), .dat (.int (kind : Nat)), .dat (.int (zi : Nat)), .dat (.int (number : Nat)), .un, .un, .un, .un, .un, .un, .un]) (vq (Wd _ _ _ _ _ _ _ _ _ _ 3 32 number hnumber) rfl rfl) ?_
  refine ye (ρ1 := [.dat (.list (ds.map .int)), .dat (.int k), .dat (.int (kind : Nat)), .dat (.int (zi : Nat)), .dat (.int (number : Nat)), .dat (.int (zd : Nat)), .un, .un, .un, .un, .un, .un]) (vq (a5 _ _ _) rfl rfl) ?_
  refine ye (ρ1 := [.dat (.list (ds.map .int)), .dat (.int k), .dat (.int (kind : Nat)), .dat (.int (zi : Nat)), .dat (.int (number : Nat)), .dat (.int (zd : Nat)), .dat (.int (ordinal : Nat)), .un, .un, .un, .un, .un]) (vq (Wd _ _ _ _ _ _ _ _ _ _ 6 24 ordinal hordinal) rfl rfl) ?_
  refine ye (ρ1 := [.dat (.list (ds.map .int)), .dat (.int k), .dat (.int (kind : Nat)), .dat (.int (zi : Nat)), .dat (.int (number : Nat)), .dat (.int (zd : Nat)), .dat (.int (ordinal : Nat)), .dat (.int (time : Nat)), .un, .un, .un, .un]) (vq (Wd _ _ _ _ _ _ _ _ _ _ 8 40 time htime) rfl rfl) ?_
  refine ye (ρ1 := [.dat (.list (ds.map .int)), .dat (.int k), .dat (.int (kind : Nat)), .dat (.int (zi : Nat)), .dat (.int (number : Nat)), .dat (.int (zd : Nat)), .dat (.int (ordinal : Nat)), .dat (.int (time : Nat)), .dat (.int (span : Nat)), .un, .un, .un]) (vq (Wd _ _ _ _ _ _ _ _ _ _ 10 24 span hspan) rfl rfl) ?_
  refine ye (ρ1 := [.dat (.list (ds.map .int)), .dat (.int k), .dat (.int (kind : Nat)), .dat (.int (zi : Nat)), .dat (.int (number : Nat)), .dat (.int (zd : Nat)), .dat (.int (ordinal : Nat)), .dat (.int (time : Nat)), .dat (.int (span : Nat)), .dat (.int (sz : Nat)), .un, .un]) (vq (a12 _ _ _ _ _ _ _) rfl rfl) ?_
  refine ye (hSr _ _ _ _ _ _ _) ?_
  have comp := vaA (vs := [11]) (st := zP 11) (a := qa (eV 9) (ka)) (tt := fun _ => some (.ok true)) (fe := e2 qw (eG jY (qa (e2 wc (kb FN.kf 3 (qa (eV 0) (qa (e2 wc (eV 1) (eC (.int 13))) (qa (eC (.int 65536)) (ka))))) (e2 jt (eV 11) (eV 11))) (ka))) (e2 vi (zw (qa (eC (.int 255)) (qa (eC (.int 1)) (qa (eC (.int 7)) (ka))))) (e2 qam (eG jY (qa (eV 11) (ka))) (eC (.int 3)))))
    (ρ := [.dat (.list (ds.map .int)), .dat (.int k), .dat (.int (kind : Nat)), .dat (.int (zi : Nat)), .dat (.int (number : Nat)), .dat (.int (zd : Nat)), .dat (.int (ordinal : Nat)), .dat (.int (time : Nat)), .dat (.int (span : Nat)), .dat (.int (S : Nat)), .un, .un]) (n := S) (F := fun n => .int (yy n : Nat)) rfl (yar (j := (S : Int)) (jb rfl) (by omega) (by omega)) (by omega) (fun n hn => by
      refine ⟨_, .s (.int (yy n : Nat)), rfl, rfl, ?_, rfl⟩
      have q := A (.dat (.int (kind : Nat))) (.dat (.int (zi : Nat))) (.dat (.int (number : Nat))) (.dat (.int (zd : Nat))) (.dat (.int (ordinal : Nat))) (.dat (.int (time : Nat))) (.dat (.int (span : Nat))) (.dat (.int (S : Nat))) .un (.dat (.int (n : Nat))) 13 65536 (by decide) (by decide)
      rw [← hseed] at q
      have q2 := wbC (xcI (ql q (yaL (fa := eV 11) (fb := eV 11) (jb rfl) (jb rfl) (.inl (by omega))))) (qce (zE (A := qa (eC (.int 255)) (qa (eC (.int 1)) (qa (eC (.int 7)) (ka)))) (va rfl (va rfl (va rfl yb))) rfl (by simp)) (xcV (xcI (fa := eV 11) (jb rfl)) (j := 3) (fb := eC (.int 3)) rfl (by decide)) (hmm n) rfl)
      rw [hand] at q2
      exact q2)
  refine ye (ρ1 := [.dat (.list (ds.map .int)), .dat (.int k), .dat (.int (kind : Nat)), .dat (.int (zi : Nat)), .dat (.int (number : Nat)), .dat (.int (zd : Nat)), .dat (.int (ordinal : Nat)), .dat (.int (time : Nat)), .dat (.int (span : Nat)), .dat (.int (S : Nat)), .dat (.list (jd ((List.range S).map yy))), .un]) (vq comp rfl (by
    unfold jd
    rw [List.map_map]
    rfl)) ?_
  have a14 := A (.dat (.int (kind : Nat))) (.dat (.int (zi : Nat))) (.dat (.int (number : Nat))) (.dat (.int (zd : Nat))) (.dat (.int (ordinal : Nat))) (.dat (.int (time : Nat))) (.dat (.int (span : Nat))) (.dat (.int (S : Nat))) (.dat (.list (jd ((List.range S).map yy)))) .un 14 2 (by decide) (by decide)
  rw [← hkey] at a14
  exact vu (yF (va (jb rfl) (va (jb rfl) (va (jb rfl) (va (jb rfl) (va (jb rfl) (va (jb rfl) (va (jb rfl) (va a14 (va (jb rfl) yb))))))))) rfl (by simp))
theorem kaW (r : List Nat) (hr : ∀ x ∈ r, x < 256) : zx [.list (jd r)] = some (.ret (.int (sumOf r : Nat))) := by
  rw [vaH]
  exact qck r hr
theorem vcJ (n : Nat) : (List.range 4).map (fun k => n / 2 ^ (8 * k) % 256) = LF.four n := by
  show List.map _ [0, 1, 2, 3] = _
  simp [LF.four]
theorem wcJ {ρ : xb} {v : Nat} {n : Nat} {fe fk : FE} (h0 : noOwn ρ [v] = true) (hf : ∀ k : Nat, ∃ ρ1, zP v (wq ρ [v]) (.int (k : Int)) = some ρ1 ∧ fe ρ1 = some (.ok (.s (.int (n : Int)))) ∧ fk ρ1 = some (.ok (.s (.int (k : Int))))) :
    yE [v] (zP v) (yj (qa (eC (.int 4)) (ka))) (fun _ => some (.ok true)) (e2 qw (e2 xC fe (e2 jt (eC (.int 8)) fk)) (eC (.int 255))) ρ = some (.ok (.f (jd (LF.four n)))) := by
  rw [← vcJ]
  have q := vaA (vs := [v]) (st := zP v) (a := qa (eC (.int 4)) (ka)) (tt := fun _ => some (.ok true)) (fe := e2 qw (e2 xC fe (e2 jt (eC (.int 8)) fk)) (eC (.int 255))) (ρ := ρ) (n := 4) (F := fun k => .int ((n / 2 ^ (8 * k) % 256 : Nat) : Int)) h0 (yar (j := 4) rfl (by decide) (by decide)) (by decide) (fun k _ => by
    obtain ⟨ρ1, h1, h2, h3⟩ := hf k
    exact ⟨ρ1, _, h1, rfl, xdv (qbV h2 (yaL (i := 8) rfl h3 (.inl (by decide)))) rfl, rfl⟩)
  rw [q]
  unfold jd
  rw [List.map_map]
  rfl
theorem zb1 {l : vo} (h : l.Ok) : yZ [lfD l] = some (.retF (jd l.qL)) := by
  have h40 : (2 : Nat) ^ 40 = 1099511627776 := by decide
  have h3 := h.zd
  have h4 := h.ordinal
  have h5 := h.time
  have h6 := h.span
  have h8 := h.size
  have a1 := vv l.zd (by omega)
  have a2 := vv l.ordinal (by omega)
  have a3 := vv l.time (by omega)
  have a4 := vv l.span (by omega)
  have a5 := vv l.body.length (by omega)
  have f4 : ∀ n, (LF.four n).length = 4 := fun _ => rfl
  obtain ⟨P, hP⟩ : ∃ P : DL.Slot → DL.Slot → DL.Slot → DL.Slot → xb, P = fun s10 s11 s12 s13 => [.dat (lfD l), .dat (.int (l.kind : Nat)), .dat (.int (l.zi : Nat)), .dat (.int (l.number : Nat)), .dat (.int (l.zd : Nat)), .dat (.int (l.ordinal : Nat)), .dat (.int (l.time : Nat)), .dat (.int (l.span : Nat)), .dat (.int (l.key : Nat)), .dat (.list (jd l.body)), s10, s11, s12, s13] := ⟨_, rfl⟩
  have word : ∀ (R : List Nat) (n : Nat) (s12 s13 : DL.Slot), R.length ≤ 2000 → (¬ s12.jaz) → je 10 (e2 wc (eV 10) (yE [12] (zP 12) (yj (qa (eC (.int 4)) (ka))) (fun _ => some (.ok true)) (e2 qw (e2 xC (eV 11) (e2 jt (eC (.int 8)) (eV 12))) (eC (.int 255))))) (P (.dat (.list (jd R))) (.dat (.int (n : Nat))) s12 s13) = some (.nx (P (.dat (.list (jd (R ++ LF.four n)))) (.dat (.int (n : Nat))) s12 s13)) := by
    intro R n s12 s13 hR hs
    subst hP
    have q := wcJ (ρ := [.dat (lfD l), .dat (.int (l.kind : Nat)), .dat (.int (l.zi : Nat)), .dat (.int (l.number : Nat)), .dat (.int (l.zd : Nat)), .dat (.int (l.ordinal : Nat)), .dat (.int (l.time : Nat)), .dat (.int (l.span : Nat)), .dat (.int (l.key : Nat)), .dat (.list (jd l.body)), .dat (.list (jd R)), .dat (.int (n : Nat)), s12, s13]) (v := 12) (n := n) (fe := eV 11) (fk := eV 12) (by
      cases s12 with
      | own z => exact absurd trivial hs
      | ownT _ _ _ => exact absurd trivial hs
      | vX _ _ => exact absurd trivial hs
      | _ => rfl) (fun k => ⟨_, rfl, jb rfl, jb rfl⟩)
    exact vq (qz (jb rfl) q rfl rfl rfl (by rw [f4]; omega)) rfl rfl
  have stp : ∀ (R : List Nat) (n : Nat) (s11 s12 : DL.Slot), R.length ≤ 2000 → n < 2 ^ 40 → je 10 (e2 wc (eV 10) (kb FN.xZ 1 (qa (eV 13) (ka)))) (P (.dat (.list (jd R))) s11 s12 (.dat (.int (n : Nat)))) = some (.nx (P (.dat (.list (jd (R ++ SN.steps n)))) s11 s12 (.dat (.int (n : Nat))))) := by
    intro R n s11 s12 hR hn
    subst hP
    have := vv n hn
    exact vq (qz (jb rfl) (zZ (va (jb rfl) yb) rfl rfl (ybD n hn)) rfl rfl rfl (by omega)) rfl rfl
  unfold yZ yas
  refine qZ ?_
  refine ye (ρ1 := P .un .un .un .un) (yX (jb rfl) rfl (by rw [hP]; rfl)) ?_
  refine ye (ρ1 := P (.dat (.list (jd [l.kind]))) .un .un .un) (by
    subst hP
    exact vq (zE (va (jb rfl) yb) rfl (by simp)) rfl rfl) ?_
  refine ye (ρ1 := P (.dat (.list (jd ([l.kind] ++ LF.four l.zi ++ LF.four l.number)))) (.dat (.int (l.number : Nat))) .un .un) (qT (xs := [.int (l.zi : Nat), .int (l.number : Nat)]) (by rw [hP]; rfl) ?_) ?_
  · refine vm (ρ1 := P (.dat (.list (jd [l.kind]))) (.dat (.int (l.zi : Nat))) .un .un) (by rw [hP]; rfl) (word _ _ _ _ (by simp) (fun e => nomatch e)) ?_
    refine vm (ρ1 := P (.dat (.list (jd ([l.kind] ++ LF.four l.zi)))) (.dat (.int (l.number : Nat))) .un .un) (by rw [hP]; rfl) (word _ _ _ _ (by simp [f4]) (fun e => nomatch e)) ?_
    rfl
  refine ye (ρ1 := P (.dat (.list (jd ([l.kind] ++ LF.four l.zi ++ LF.four l.number ++ SN.steps l.zd ++ SN.steps l.ordinal ++ SN.steps l.time ++ SN.steps l.span)))) (.dat (.int (l.number : Nat))) .un (.dat (.int (l.span : Nat)))) (qT (xs := [.int (l.zd : Nat), .int (l.ordinal : Nat), .int (l.time : Nat), .int (l.span : Nat)]) (by rw [hP]; rfl) ?_) ?_
  · refine vm (ρ1 := P (.dat (.list (jd ([l.kind] ++ LF.four l.zi ++ LF.four l.number)))) (.dat (.int (l.number : Nat))) .un (.dat (.int (l.zd : Nat)))) (by rw [hP]; rfl) (stp _ _ _ _ (by simp [f4]) (by omega)) ?_
    refine vm (ρ1 := P (.dat (.list (jd ([l.kind] ++ LF.four l.zi ++ LF.four l.number ++ SN.steps l.zd)))) (.dat (.int (l.number : Nat))) .un (.dat (.int (l.ordinal : Nat)))) (by rw [hP]; rfl) (stp _ _ _ _ (by simp [f4]; omega) (by omega)) ?_
    refine vm (ρ1 := P (.dat (.list (jd ([l.kind] ++ LF.four l.zi ++ LF.four l.number ++ SN.steps l.zd ++ SN.steps l.ordinal)))) (.dat (.int (l.number : Nat))) .un (.dat (.int (l.time : Nat)))) (by rw [hP]; rfl) (stp _ _ _ _ (by simp [f4]; omega) (by omega)) ?_
    refine vm (ρ1 := P (.dat (.list (jd ([l.kind] ++ LF.four l.zi ++ LF.four l.number ++ SN.steps l.zd ++ SN.steps l.ordinal ++ SN.steps l.time)))) (.dat (.int (l.number : Nat))) .un (.dat (.int (l.span : Nat)))) (by rw [hP]; rfl) (stp _ _ _ _ (by simp [f4]; omega) (by omega)) ?_
    rfl
  generalize hR : [l.kind] ++ LF.four l.zi ++ LF.four l.number ++ SN.steps l.zd ++ SN.steps l.ordinal ++ SN.steps l.time ++ SN.steps l.span = R
  have lR : R.length ≤ 33 := by rw [← hR]; simp [f4]; omega
  refine ye (ρ1 := P (.dat (.list (jd l.fields))) (.dat (.int (l.number : Nat))) .un (.dat (.int (l.span : Nat)))) ?_ ?_
  · subst hP
    refine vq (qz (qz (qz (jb rfl) (zE (ds := jd [l.key]) (va (jb rfl) yb) rfl (by simp)) rfl rfl rfl (by simp; omega)) (zZ (va (xt (jb rfl) rfl) yb) rfl rfl (ybD l.body.length (by omega))) rfl rfl rfl (by simp; omega)) (jb rfl) rfl rfl rfl (by simp; omega)) rfl ?_
    rw [← hR]
    rfl
  have hlen := (ybl h).1
  subst hP
  refine zam (qz (a := .s (.list (jd l.fields))) (jb rfl) (wcJ (v := 12) (n := sumOf l.fields) rfl (fun k => ⟨_, rfl, qj (va (jb rfl) yb) rfl rfl (kaW _ (jbD h)), jb rfl⟩)) rfl rfl rfl (by rw [f4]; omega))
end FL
namespace FN
open PySem PySem.Spec PyProof.Rows L2 DL
noncomputable section
end
end FN
namespace FL
open PySem PySem.Spec PyProof.Rows L2 DL FN
open LF (vo)
section
variable {f g : FS} {ρ ρ1 : xb} {o : Out} {n k : Nat} {ds : List D} {G : DF} {A : FA} {vs : List Val} {es as : List D} {d : D} {c : Nat} {j : Int}
theorem qdx {m : Nat → Option Bool} {kk : Nat} {gg : Nat → Addr → Addr → FS} {rest : HF} (hm : m c = some true) (h : ∀ a dd, (gg c a dd (ρ.set kk (.err a dd j))).bind (zcG kk) = some o) : hAs m kk gg rest c j ρ = some o := by
  unfold hAs
  rw [hm]
  exact xc1 0 h
end
def lfL (l : vo) : List D := [.int (l.kind : Nat), .int (l.zi : Nat), .int (l.number : Nat), .int (l.zd : Nat), .int (l.ordinal : Nat), .int (l.time : Nat), .int (l.span : Nat), .int (l.key : Nat), .list (jd l.body)]
end FL
namespace FL
open PySem PySem.Spec PyProof.Rows L2 DL FN
open LF (vo)
theorem wcY (is : List Int) (r : List Nat) : SeqAt.shaped (.tuple (is.map .int ++ [.list (jd r)])) = true := by
  have c : ∀ is : List Int, PyData.canLayAll0 (is.map PyData.int ++ [.list (jd r)]) = true := by
    intro is
    induction is with
    | nil =>
      show (PyData.canLayAll0 (jd r) && true) = true
      rw [qcW]
      rfl
    | cons i is ih => exact ih
  have d : ∀ is : List Int, PyData.depthAll (is.map PyData.int ++ [.list (jd r)]) = 1 := by
    intro is
    induction is with
    | nil =>
      show max (PyData.depthAll (jd r) + 1) 0 = 1
      rw [xc5]
      rfl
    | cons i is ih =>
      show max 0 (PyData.depthAll (is.map PyData.int ++ [.list (jd r)])) = 1
      rw [ih]
      rfl
  unfold SeqAt.shaped
  have h1 : PyData.canLay0 (.tuple (is.map PyData.int ++ [.list (jd r)])) = true := c is
  have h2 : PyData.depth (.tuple (is.map PyData.int ++ [.list (jd r)])) = 2 := by
    show PyData.depthAll (is.map PyData.int ++ [.list (jd r)]) + 1 = 2
    rw [d is]
  rw [h1, h2]
  rfl
theorem wdx (l : vo) : eqD (lfD l) (lfD l) = some true := vch (wcY [(l.kind : Int), l.zi, l.number, l.zd, l.ordinal, l.time, l.span, l.key] l.body)
theorem jcJ {l : vo} (h : l.Ok) : ∀ x ∈ l.qL, x < 256 := by
  intro x hx
  unfold LF.vo.qL at hx
  rcases List.mem_append.mp hx with hx | hx
  · exact jbD h x hx
  · exact LF.waV _ x hx
theorem qcu {l : vo} (h : l.Ok) : l.qL.length ≤ 1200 ∧ l.qL.length = l.fields.length + 4 := by
  have := (ybl h).1
  have e : l.qL.length = l.fields.length + 4 := by
    unfold LF.vo.qL
    rw [List.length_append]
    rfl
  omega
end FL
namespace K04
end K04
namespace FN
open PySem PySem.Spec PyProof.Rows L2 DL
noncomputable section
end
end FN
namespace CG
def fr : List Nat → List Nat → Nat
  | x :: a, y :: b => if x = y then fr a b + 1 else 0
  | _, _ => 0
def bk (a b : List Nat) : Nat := min (fr a.reverse b.reverse) (min a.length b.length - fr a b)
def ap (a : List Nat) (f k : Nat) (m : List Nat) : List Nat := a.take f ++ (m ++ a.drop (a.length - k))
end CG
namespace FL
open PySem PySem.Spec PyProof.Rows L2 DL FN
open CG
section
variable (a b : List Nat) (s2 s3 : DL.Slot)
end
end FL
namespace CG
section
variable {a m : List Nat} {f k : Nat}
end
end CG
namespace DL
open PySem PySem.Spec PyProof.Rows L2
def pl (bb : Bool) : Nat → D → Bool
  | _, .int _ => true
  | _, .none => true
  | _, .bool _ => bb
  | _, .str x => PyData.canLay0 (.str x)
  | n + 1, .list xs => xs.all (pl bb n)
  | n + 1, .tuple xs => xs.all (pl bb n)
  | _, _ => false
theorem qdw {bb : Bool} : ∀ (n : Nat) (d : D), pl bb n d = true → PyData.canLay0 d = true ∧ PyData.depth d ≤ n := by
  intro n
  induction n with
  | zero =>
    intro d h
    cases d with
    | str x => exact ⟨h, Nat.le_refl _⟩
    | list xs => exact absurd h (by simp [pl])
    | tuple xs => exact absurd h (by simp [pl])
    | dict xs => exact absurd h (by simp [pl])
    | _ => exact ⟨rfl, Nat.le_refl _⟩
  | succ n ih =>
    have all : ∀ xs : List D, xs.all (pl bb n) = true → PyData.canLayAll0 xs = true ∧ PyData.depthAll xs ≤ n := by
      intro xs
      induction xs with
      | nil => intro _; exact ⟨rfl, Nat.zero_le _⟩
      | cons x xs ihx =>
        intro h
        rw [List.all_cons, Bool.and_eq_true] at h
        obtain ⟨h1, h2⟩ := ih x h.1
        obtain ⟨h3, h4⟩ := ihx h.2
        constructor
        · show (PyData.canLay0 x && PyData.canLayAll0 xs) = true
          rw [h1, h3]
          rfl
        · show max (PyData.depth x) (PyData.depthAll xs) ≤ n
          omega
    intro d h
    cases d with
    | str x => exact ⟨h, Nat.zero_le _⟩
    | list xs =>
      obtain ⟨h1, h2⟩ := all xs h
      refine ⟨h1, ?_⟩
      show PyData.depthAll xs + 1 ≤ n + 1
      omega
    | tuple xs =>
      obtain ⟨h1, h2⟩ := all xs h
      refine ⟨h1, ?_⟩
      show PyData.depthAll xs + 1 ≤ n + 1
      omega
    | dict xs => exact absurd h (by simp [pl])
    | none => exact ⟨rfl, Nat.zero_le _⟩
    | bool b => exact ⟨rfl, Nat.zero_le _⟩
    | int i => exact ⟨rfl, Nat.zero_le _⟩
theorem ycW {bb : Bool} {d : D} (n : Nat) (h : pl bb n d = true) (hn : n ≤ 64 := by decide) : SeqAt.shaped d = true := by
  obtain ⟨h1, h2⟩ := qdw n d h
  unfold SeqAt.shaped
  rw [h1, decide_eq_true (show PyData.depth d ≤ 64 by omega)]
  rfl
theorem kc5 {d : D} (n : Nat) (h : pl true n d = true) (hn : n ≤ 64 := by decide) : eqD d d = some true := vch (ycW n h hn)
section
variable {f g : FS} {t u : FT} {E fa fb fc fd fe : FE} {ρ ρ1 : xb} {o : Option Out} {i : Nat} {v a b : Val} {A : FA} {vs : List Val}
theorem zdw {x y : Int} (q : E ρ = some (.ok (.s (.int x)))) (h : x = y) (e : ρ.set i (.dat (.int y)) = ρ1) : je i E ρ = some (.nx ρ1) := by
  subst h
  exact vq q rfl e
theorem qc6 {x y : Int} (q : E ρ = some (.ok (.s (.int x)))) (h : x = y) : E ρ = some (.ok (.s (.int y))) := by
  subst h
  exact q
theorem zB {d : D} (q : E ρ = some (.ok v)) (h : v.st = some d) (k : g (ρ.set i (.dat d)) = o) : vb (je i E) g ρ = o := ye (vq q h rfl) k
theorem vdn {x y : Int} (q : E ρ = some (.ok (.s (.int x)))) (h : x = y) (k : g (ρ.set i (.dat (.int y))) = o) : vb (je i E) g ρ = o := ye (zdw q h rfl) k
theorem jdw {f1 f2 : FS} (h : t ρ = some (.ok true)) (k : vb f1 g ρ = o) : vb (kh t f1 f2) g ρ = o := by
  unfold vb at k ⊢
  rw [xn h rfl]
  exact k
theorem wdw {f1 f2 : FS} (h : t ρ = some (.ok false)) (k : vb f2 g ρ = o) : vb (kh t f1 f2) g ρ = o := by
  unfold vb at k ⊢
  rw [xl h rfl]
  exact k
theorem vdw {x y : Int} (ha : fa ρ = some (.ok (.s (.int x)))) (hb : fb ρ = some (.ok (.s (.int y)))) : eG kdH (qa fa (qa fb (ka))) ρ = some (.ok (.s (.int (max x y)))) := by
  refine qbC (va ha (va hb yb)) ?_
  show some (Val.s (PyData.int (if x < y then y else x))) = _
  congr 3
  split <;> omega
theorem xcW {x y : Int} (ha : fa ρ = some (.ok (.s (.int x)))) (hb : fb ρ = some (.ok (.s (.int y)))) : eG xcf (qa fa (qa fb (ka))) ρ = some (.ok (.s (.int (min x y)))) := by
  refine qbC (va ha (va hb yb)) ?_
  show some (Val.s (PyData.int (if y < x then y else x))) = _
  congr 3
  split <;> omega
end
end DL
namespace FN
open PySem PySem.Spec PyProof.Rows L2 DL
noncomputable section
end
end FN
namespace FL
open PySem PySem.Spec PyProof.Rows L2 DL FN
open CG
local macro_rules | `(tactic| walk_at "ev") => `(tactic| first
  | exact jb rfl
  | exact r_b rfl
  | with_reducible assumption
  | exact (show eC _ _ = _ from rfl)
  | ((with_reducible apply yci) <;> first | walk_at "ev" | omega)
  | ((with_reducible apply zbf) <;> walk_at "ev")
  | ((with_reducible apply jbC) <;> walk_at "ev")
  | ((with_reducible apply ycV) <;> first | walk_at "ev" | exact jch (by omega) (by omega) | exact wch (by omega) (by omega))
  | ((with_reducible apply xcV) <;> first | walk_at "ev" | omega)
  | ((with_reducible apply qdv) <;> first | walk_at "ev" | omega)
  | ((with_reducible apply kcI) <;> walk_at "ev")
  | ((with_reducible apply xcI) <;> walk_at "ev")
  | ((with_reducible apply vdw) <;> walk_at "ev")
  | ((with_reducible apply xcW) <;> walk_at "ev")
  | ((with_reducible apply xt) <;> first | rfl | walk_at "ev")
  | ((with_reducible apply jci) <;> first | rfl | walk_at "ev")
  | ((with_reducible apply kcd) <;> first | rfl | walk_at "ev")
  | ((with_reducible apply qci) <;> first | walk_at "ev" | rfl)
  | ((with_reducible apply yb))
  | ((with_reducible apply va) <;> walk_at "ev")
  | ((with_reducible apply yF) <;> first | walk_at "ev" | rfl | (simp; done))
  | ((with_reducible apply zE) <;> first | walk_at "ev" | rfl | (simp; done))
  | ((with_reducible apply waH) <;> first | walk_at "ev" | omega)
  | ((with_reducible apply war) <;> first | walk_at "ev" | omega)
  | ((with_reducible apply zb0) <;> first | walk_at "ev" | omega)
  | ((with_reducible apply zbM) <;> first | walk_at "ev" | omega)
  | ((with_reducible apply xar) <;> first | walk_at "ev" | omega)
  | ((with_reducible apply jZ) <;> first | walk_at "ev" | omega)
  | ((with_reducible apply zdn) <;> first | walk_at "ev" | omega)
  | ((with_reducible apply jdn) <;> first | walk_at "ev" | omega)
  | ((with_reducible apply xK) <;> first | walk_at "ev" | omega)
  | ((with_reducible apply kK) <;> first | walk_at "ev" | omega)
  | ((with_reducible apply yaA) <;> first | walk_at "ev" | omega)
  | ((with_reducible apply kE) <;> first | walk_at "ev" | omega)
  | ((with_reducible apply qbf) <;> walk_at "ev")
  | ((with_reducible apply kbZ) <;> walk_at "ev")
  | ((with_reducible apply zaC) <;> walk_at "ev")
  | ((with_reducible apply qx) <;> walk_at "ev")
  | ((with_reducible apply ych) <;> walk_at "ev")
  | ((with_reducible apply wdu) <;> walk_at "ev")
  | ((with_reducible apply zbC) <;> walk_at "ev"))
local macro_rules | `(tactic| walk_at "set") => `(tactic| ((with_reducible apply zB); walk_at "ev"; rfl; dsimp only [List.set]))
local macro_rules | `(tactic| walk_at "ift") => `(tactic| ((first | with_reducible apply jdw | with_reducible apply xn); walk_at "ev"))
local macro_rules | `(tactic| walk_at "iff") => `(tactic| ((first | with_reducible apply wdw | with_reducible apply xl); walk_at "ev"))
section
variable (a b : List Nat)
end
section
variable (a m : List Nat) (f k : Nat)
end
end FL
namespace DL
open PySem PySem.Spec PyProof.Rows L2
section
variable {f g : FS} {t u : FT} {E fa fb fc fd fe : FE} {ρ ρ1 : xb} {o : Option Out} {i : Nat} {v a b : Val} {A : FA} {vs : List Val}
theorem ydw {xs : List D} (q : E ρ = some (.ok v)) (h : v = .s (.list xs) ∨ v = .s (.tuple xs) ∨ v = .f xs) : xY E ρ = some (.ok xs) := by
  unfold xY
  rw [q]
  rcases h with rfl | rfl | rfl <;> rfl
def pr (p : Int × Int) : D := .tuple [.int p.1, .int p.2]
end
end DL
namespace FL
open PySem PySem.Spec PyProof.Rows L2 DL FN
open LF (vo)
open CR (crc g HV)
theorem yb6 {b c : Nat → Nat} {s : Nat} : ∀ {n : Nat}, (∀ k, k < n → b k = c k) → crc b s n = crc c s n
  | 0, _ => rfl
  | n + 1, h => by
    show CR.f (crc b s n ^^^ b n) = CR.f (crc c s n ^^^ c n)
    rw [yb6 (n := n) fun k hk => h k (by omega), h n (by omega)]
noncomputable def jbV : FS := je 2 (e2 qah (e2 xC (eV 2) (eC (.int 4))) (e2 vi (eC wam) (e2 qw (eV 2) (eC (.int 15)))))
theorem ydn (s0 s1 s3 : DL.Slot) (s : Nat) : jbV [s0, s1, .dat (.int s), s3] = some (.nx [s0, s1, .dat (.int (g s : Nat)), s3]) := by
  have e1 : ((s : Int) / 16) = ((s / 16 : Nat) : Int) := by omega
  have e2 : Builtin.bitXor ((s : Int) / 16) ((HV.getD (s % 16) 0 : Nat) : Int) = (g s : Nat) := by
    rw [e1, bx]
    rfl
  simp [jbV, kbL, bitAnd_m4, zdE, wam, -List.getD_eq_getElem?_getD, e2]
noncomputable def xci : FS := vb (je 2 (e2 qah (eV 2) (eV 3))) (vb jbV jbV)
theorem xdn (s0 s1 : DL.Slot) (s b : Nat) : xci [s0, s1, .dat (.int s), .dat (.int b)] = some (.nx [s0, s1, .dat (.int (g (g (s ^^^ b)) : Nat)), .dat (.int b)]) := by
  simp [xci, bx, ydn]
theorem qcX (pre row : List Nat) (k : Nat) (h : k < 8 * pre.length) : zH (pre ++ row) k = zH pre k := by
  unfold zH
  rw [List.getD_eq_getElem?_getD, List.getD_eq_getElem?_getD, List.getElem?_append_left (by omega)]
theorem vb0 (pre row : List Nat) (hr : ∀ b ∈ row, b < 256) : kax [.int (sumOf pre : Nat), .list (jd row)] = some (.ret (.int (sumOf (pre ++ row) : Nat))) := by
  have e0 : Builtin.bitXor ((sumOf pre : Nat) : Int) 4294967295 = ((crc (zH (pre ++ row)) 4294967295 (8 * (pre.length + 0)) : Nat) : Int) := by
    have q := bx (sumOf pre) 4294967295
    have q2 : (sumOf pre) ^^^ 4294967295 = crc (zH (pre ++ row)) 4294967295 (8 * (pre.length + 0)) := by
      unfold sumOf
      rw [Nat.xor_assoc, Nat.xor_self, Nat.xor_zero, Nat.add_zero]
      exact yb6 fun k hk => (qcX pre row k hk).symm
    rw [q2] at q
    exact q
  obtain ⟨ρ', h1, s3, rfl⟩ := yT (g := gN 3) (ds := jd row) (ρ := [.dat (.int (sumOf pre : Nat)), .dat (.list (jd row)), .dat (.int (crc (zH (pre ++ row)) 4294967295 (8 * (pre.length + 0)) : Nat)), .un]) (body := xci)
    (fun i ρ => ∃ s3, ρ = [.dat (.int (sumOf pre : Nat)), .dat (.list (jd row)), .dat (.int (crc (zH (pre ++ row)) 4294967295 (8 * (pre.length + i)) : Nat)), s3])
    ⟨_, rfl⟩ (by
      rintro i d ρ hd ⟨s3, rfl⟩
      obtain ⟨hi, rfl⟩ := xdD hd
      have hb := hr _ (List.getElem_mem hi)
      refine ⟨_, _, rfl, xdn _ _ _ _, .dat (.int (row[i] : Nat)), ?_⟩
      rw [← Nat.add_assoc, CR.zbQ (zH (pre ++ row)) 4294967295 (pre.length + i) row[i] hb (fun j hj => by
        rw [kci _ _ _ hj]
        congr 2
        rw [List.getD_eq_getElem?_getD, List.getElem?_append_right (by omega)]
        simp [hi])])
  rw [xI] at h1
  have e2 : Builtin.bitXor ((crc (zH (pre ++ row)) 4294967295 (8 * (pre.length + row.length)) : Nat) : Int) 4294967295 = (sumOf (pre ++ row) : Nat) := by
    unfold sumOf
    rw [List.length_append]
    exact bx _ _
  unfold kax qay
  refine vD ?_
  refine vdn (xT (a := .s (.int (sumOf pre : Nat))) (b := .s (.int 4294967295)) (v := .s (.int (Builtin.bitXor ((sumOf pre : Nat) : Int) 4294967295))) (jb rfl) rfl rfl) e0 ?_
  refine ye (qT (ydw (jb rfl) (.inl rfl)) h1) ?_
  refine vu (qc6 (xT (a := .s (.int (crc (zH (pre ++ row)) 4294967295 (8 * (pre.length + row.length)) : Nat))) (b := .s (.int 4294967295)) (v := .s (.int (Builtin.bitXor ((crc (zH (pre ++ row)) 4294967295 (8 * (pre.length + row.length)) : Nat) : Int) 4294967295))) (jb rfl) rfl rfl) e2)
theorem qbD (r : List Nat) (hr : ∀ x ∈ r, x < 256) : yD [.list (jd r)] = some (.ret (.int (sumOf r : Nat))) := by
  have q := vb0 [] r hr
  have e : sumOf [] = 0 := by
    show 4294967295 ^^^ 4294967295 = 0
    exact Nat.xor_self _
  rw [e] at q
  unfold yD kbv
  exact vD (vu (qj (va rfl (va (jb rfl) yb)) rfl rfl q))
theorem yb0 {l : vo} (h : l.Ok) : wal [lfD l] = some (.retF (jd l.qL)) := by
  have h40 : (2 : Nat) ^ 40 = 1099511627776 := by decide
  have h3 := h.zd
  have h4 := h.ordinal
  have h5 := h.time
  have h6 := h.span
  have h8 := h.size
  have a1 := vv l.zd (by omega)
  have a2 := vv l.ordinal (by omega)
  have a3 := vv l.time (by omega)
  have a4 := vv l.span (by omega)
  have a5 := vv l.body.length (by omega)
  have f4 : ∀ n, (LF.four n).length = 4 := fun _ => rfl
  unfold wal xa5
  refine qZ ?_
  refine ye (kdv (qj (va (jb rfl) yb) rfl rfl (wbV h))) ?_
  refine ye (ρ1 := [.dat (lfD l), .dat (.int (l.kind : Nat)), .dat (.int (l.zi : Nat)), .dat (.int (l.number : Nat)), .dat (.int (l.zd : Nat)), .dat (.int (l.ordinal : Nat)), .dat (.int (l.time : Nat)), .dat (.int (l.span : Nat)), .dat (.int (l.key : Nat)), .dat (.list (jd l.body)), .un, .un]) (yX (jb rfl) rfl rfl) ?_
  refine ye (ρ1 := [.dat (lfD l), .dat (.int (l.kind : Nat)), .dat (.int (l.zi : Nat)), .dat (.int (l.number : Nat)), .dat (.int (l.zd : Nat)), .dat (.int (l.ordinal : Nat)), .dat (.int (l.time : Nat)), .dat (.int (l.span : Nat)), .dat (.int (l.key : Nat)), .dat (.list (jd l.body)), .own (jd ([l.kind] ++ LF.four l.zi ++ LF.four l.number)), .un])
    (vbU (qz (qz (a := .f (jd [l.kind])) (zE (va (jb rfl) yb) rfl (by simp)) (zZ (va (jb rfl) yb) rfl rfl (wbM l.zi)) rfl rfl rfl (by simp [f4])) (zZ (va (jb rfl) yb) rfl rfl (wbM l.number)) rfl rfl rfl (by simp [f4])) rfl) ?_
  have loop : forL (gN 11) (zaH 10 (kb FN.xF 1 (qa (eV 11) (ka)))) [.int (l.zd : Nat), .int (l.ordinal : Nat), .int (l.time : Nat), .int (l.span : Nat)] [.dat (lfD l), .dat (.int (l.kind : Nat)), .dat (.int (l.zi : Nat)), .dat (.int (l.number : Nat)), .dat (.int (l.zd : Nat)), .dat (.int (l.ordinal : Nat)), .dat (.int (l.time : Nat)), .dat (.int (l.span : Nat)), .dat (.int (l.key : Nat)), .dat (.list (jd l.body)), .own (jd ([l.kind] ++ LF.four l.zi ++ LF.four l.number)), .un]
      = some (.nx [.dat (lfD l), .dat (.int (l.kind : Nat)), .dat (.int (l.zi : Nat)), .dat (.int (l.number : Nat)), .dat (.int (l.zd : Nat)), .dat (.int (l.ordinal : Nat)), .dat (.int (l.time : Nat)), .dat (.int (l.span : Nat)), .dat (.int (l.key : Nat)), .dat (.list (jd l.body)), .own (jd ([l.kind] ++ LF.four l.zi ++ LF.four l.number ++ SN.steps l.zd ++ SN.steps l.ordinal ++ SN.steps l.time ++ SN.steps l.span)), .dat (.int (l.span : Nat))]) := by
    refine vm rfl (ka5 (j := 11) (n := l.zd) rfl rfl (by omega) (by simp [f4]) rfl) ?_
    refine vm rfl (ka5 (j := 11) (n := l.ordinal) rfl rfl (by omega) (by simp [f4]; omega) rfl) ?_
    refine vm rfl (ka5 (j := 11) (n := l.time) rfl rfl (by omega) (by simp [f4]; omega) rfl) ?_
    refine vm rfl (ka5 (j := 11) (n := l.span) rfl rfl (by omega) (by simp [f4]; omega) rfl) ?_
    rfl
  refine ye (qT (it := xY (jn (qa (eV 4) (qa (eV 5) (qa (eV 6) (qa (eV 7) (ka))))))) rfl loop) ?_
  generalize hR : [l.kind] ++ LF.four l.zi ++ LF.four l.number ++ SN.steps l.zd ++ SN.steps l.ordinal ++ SN.steps l.time ++ SN.steps l.span = R
  have lR : R.length ≤ 33 := by rw [← hR]; simp [f4]; omega
  refine ye (ρ1 := [.dat (lfD l), .dat (.int (l.kind : Nat)), .dat (.int (l.zi : Nat)), .dat (.int (l.number : Nat)), .dat (.int (l.zd : Nat)), .dat (.int (l.ordinal : Nat)), .dat (.int (l.time : Nat)), .dat (.int (l.span : Nat)), .dat (.int (l.key : Nat)), .dat (.list (jd l.body)), .own (jd (R ++ [l.key])), .dat (.int (l.span : Nat))]) (xbC rfl (jb rfl) (by omega) rfl) ?_
  refine ye (ρ1 := [.dat (lfD l), .dat (.int (l.kind : Nat)), .dat (.int (l.zi : Nat)), .dat (.int (l.number : Nat)), .dat (.int (l.zd : Nat)), .dat (.int (l.ordinal : Nat)), .dat (.int (l.time : Nat)), .dat (.int (l.span : Nat)), .dat (.int (l.key : Nat)), .dat (.list (jd l.body)), .own (jd (R ++ [l.key] ++ SN.steps l.body.length)), .dat (.int (l.span : Nat))])
    (zcX rfl (zZ (va (xt (jb rfl) rfl) yb) rfl rfl (zbD l.body.length (by omega))) rfl (by simp; omega) rfl) ?_
  refine ye (ρ1 := [.dat (lfD l), .dat (.int (l.kind : Nat)), .dat (.int (l.zi : Nat)), .dat (.int (l.number : Nat)), .dat (.int (l.zd : Nat)), .dat (.int (l.ordinal : Nat)), .dat (.int (l.time : Nat)), .dat (.int (l.span : Nat)), .dat (.int (l.key : Nat)), .dat (.list (jd l.body)), .own (jd l.fields), .dat (.int (l.span : Nat))])
    (zcX rfl (jb rfl) rfl (by simp; omega) (by rw [← hR]; rfl)) ?_
  have hlen := (ybl h).1
  refine zam (qz (a := .b (jd l.fields)) (r_b rfl) (zZ (vs := [.m (.int (sumOf l.fields : Nat))]) (va (kdn (vs := [.b (jd l.fields)]) (va (r_b rfl) yb) rfl rfl rfl (qbD _ (jbD h))) yb) rfl rfl (wbM _)) rfl rfl rfl (by rw [f4]; omega))
end FL
namespace FL
open PySem PySem.Spec PyProof.Rows L2 DL FN
open LF (vo)
theorem xaL {F : DF} {ds : List D} {d : D} (h : F ds = some (.ret d)) : qF F ds = some (.ret d) := by
  unfold qF
  rw [h]
theorem qdo {F : DF} {ds es : List D} (h : F ds = some (.retF es)) : qF F ds = some (.retF es) := by
  unfold qF
  rw [h]
theorem wbR (r : List Nat) (h : r.length = 0 ∨ 4 < r.getD 0 0) : zp [.list (jd r)] = some (.exc 5 0) := by
  unfold zp zT
  refine ky (ρ' := [.dat (.list (jd r))]) (vG (xn ?_ (xE rfl)))
  by_cases h0 : r.length = 0
  · exact zaC (waH (xt (jb rfl) rfl) rfl (by omega))
  · have h1 : 4 < r.getD 0 0 := h.resolve_left h0
    exact qx (war (xt (jb rfl) rfl) rfl (by omega)) (xK (qP (i := 0) (jb rfl) rfl (by omega)) rfl (by omega))
theorem vbR (r : List Nat) (h : ¬ (r.length = 0 ∨ 4 < r.getD 0 0)) (h5 : r.length < 5) : zp [.list (jd r)] = some (.exc 6 1) := by
  unfold zp zT
  exact ky (ρ' := [.dat (.list (jd r))]) (ye (za7 r h) (vG (xn (xar (xt (jb rfl) rfl) rfl (by omega)) (xE rfl))))
theorem ybR (r : List Nat) (h : ¬ (r.length = 0 ∨ 4 < r.getD 0 0)) (h5 : ¬ r.length < 5) (h9 : r.length < 9) : zp [.list (jd r)] = some (.exc 7 5) := by
  unfold zp zT
  exact ky (ρ' := [.dat (.list (jd r))]) (ye (za7 r h) (ye (xl (jZ (xt (jb rfl) rfl) rfl (by omega)) rfl) (vG (xn (xar (xt (jb rfl) rfl) rfl (by omega)) (xE rfl)))))
theorem xb0 (r : List Nat) (hr : ∀ x ∈ r, x < 256) (h : ¬ (r.length = 0 ∨ 4 < r.getD 0 0)) (h9 : ¬ r.length < 9) : zp [.list (jd r)] = some (.ret (.tuple [.int (r.getD 0 0 : Nat), .int (LF.jj ((r.drop 1).take 4) : Nat), .int (LF.jj ((r.drop 5).take 4) : Nat)])) := by
  have s1 := jbM (E := eV 0) (F := eC (.int 1)) (G := eC (.int 5)) (ρ := [.dat (.list (jd r))]) (r := r) (i := 1) (j := 5) (jb rfl) (.inl rfl) rfl rfl (by decide) (by omega)
  have s2 := jbM (E := eV 0) (F := eC (.int 5)) (G := eC (.int 9)) (ρ := [.dat (.list (jd r))]) (r := r) (i := 5) (j := 9) (jb rfl) (.inl rfl) rfl rfl (by decide) (by omega)
  have n1 := xaL (vbV ((r.drop 1).take 4) (by rw [List.length_take, List.length_drop]; omega) (fun x hx => hr x (List.mem_of_mem_drop (List.mem_of_mem_take hx))))
  have n2 := xaL (vbV ((r.drop 5).take 4) (by rw [List.length_take, List.length_drop]; omega) (fun x hx => hr x (List.mem_of_mem_drop (List.mem_of_mem_take hx))))
  unfold zp zT
  refine vD (ye (za7 r h) (ye (xl (jZ (xt (jb rfl) rfl) rfl (by omega)) rfl) (ye (xl (jZ (xt (jb rfl) rfl) rfl (by omega)) rfl) ?_)))
  exact vu (yF (va (qP (i := 0) (jb rfl) rfl (by omega)) (va (qj (va s1 yb) rfl rfl n1) (va (qj (va s2 yb) rfl rfl n2) yb))) rfl (by simp))
theorem kb0 (r : List Nat) (h9 : 9 ≤ r.length) (hl : r.length ≤ 100000) : jT [.list (jd r)] = some (qcj r) := by
  have q1 := xaL (vaC r 9 15 h9 hl (by decide))
  unfold qcj
  unfold jT qa6
  cases w1 : LF.rd r 9 15 with
  | none =>
    rw [w1] at q1
    dsimp only
    refine ky (ρ' := [.dat (.list (jd r)), .dat .none, .dat (.int 9), .un, .un, .un, .un, .un, .un]) ?_
    exact ye (yX (qj (va (jb rfl) (va rfl (va rfl yb))) rfl rfl q1) rfl rfl) (vG (xn (kaz rfl) (xE rfl)))
  | some p1 =>
    obtain ⟨zd, a1⟩ := p1
    rw [w1] at q1
    obtain ⟨l1, _, _⟩ := LF.yaS w1
    have q2 := xaL (vaC r a1 16777215 l1 hl (by decide))
    have go1 : ∀ {o : Option Out} {g : FS}, g [.dat (.list (jd r)), .dat (.int (zd : Nat)), .dat (.int (a1 : Nat)), .un, .un, .un, .un, .un, .un] = o → vb (jw (gT 2 (qc 1 (qc 2 (wo)))) (kb (qF FN.xj) 3 (qa (eV 0) (qa (eC (.int 9)) (qa (eC (.int 15)) (ka)))))) (vb (kh (tV (e2 yL (eV 1) (eC .none))) (yi 8 (eC (.int 9))) (ki)) g) [.dat (.list (jd r)), .un, .un, .un, .un, .un, .un, .un, .un] = o := fun {o g} h =>
      ye (yX (qj (va (jb rfl) (va rfl (va rfl yb))) rfl rfl q1) rfl rfl) (ye (xl (xaW rfl) rfl) h)
    dsimp only
    cases w2 : LF.rd r a1 16777215 with
    | none =>
      rw [w2] at q2
      dsimp only
      refine ky (ρ' := [.dat (.list (jd r)), .dat (.int (zd : Nat)), .dat (.int (a1 : Nat)), .dat .none, .dat (.int (a1 : Nat)), .un, .un, .un, .un]) (go1 ?_)
      exact ye (yX (qj (va (jb rfl) (va (jb rfl) (va rfl yb))) rfl rfl q2) rfl rfl) (vG (xn (kaz rfl) (xE (jb rfl))))
    | some p2 =>
      obtain ⟨ordinal, a2⟩ := p2
      rw [w2] at q2
      obtain ⟨l2, _, _⟩ := LF.yaS w2
      have q3 := xaL (vaC r a2 1099511627775 l2 hl (by decide))
      have go2 : ∀ {o : Option Out} {g : FS}, g [.dat (.list (jd r)), .dat (.int (zd : Nat)), .dat (.int (a1 : Nat)), .dat (.int (ordinal : Nat)), .dat (.int (a2 : Nat)), .un, .un, .un, .un] = o → vb (jw (gT 2 (qc 3 (qc 4 (wo)))) (kb (qF FN.xj) 3 (qa (eV 0) (qa (eV 2) (qa (eC (.int 16777215)) (ka)))))) (vb (kh (tV (e2 yL (eV 3) (eC .none))) (yi 9 (eV 2)) (ki)) g) [.dat (.list (jd r)), .dat (.int (zd : Nat)), .dat (.int (a1 : Nat)), .un, .un, .un, .un, .un, .un] = o := fun {o g} h =>
        ye (yX (qj (va (jb rfl) (va (jb rfl) (va rfl yb))) rfl rfl q2) rfl rfl) (ye (xl (xaW rfl) rfl) h)
      dsimp only
      cases w3 : LF.rd r a2 1099511627775 with
      | none =>
        rw [w3] at q3
        dsimp only
        refine ky (ρ' := [.dat (.list (jd r)), .dat (.int (zd : Nat)), .dat (.int (a1 : Nat)), .dat (.int (ordinal : Nat)), .dat (.int (a2 : Nat)), .dat .none, .dat (.int (a2 : Nat)), .un, .un]) (go1 (go2 ?_))
        exact ye (yX (qj (va (jb rfl) (va (jb rfl) (va rfl yb))) rfl rfl q3) rfl rfl) (vG (xn (kaz rfl) (xE (jb rfl))))
      | some p3 =>
        obtain ⟨time, a3⟩ := p3
        rw [w3] at q3
        obtain ⟨l3, _, _⟩ := LF.yaS w3
        have q4 := xaL (vaC r a3 16777215 l3 hl (by decide))
        have go3 : ∀ {o : Option Out} {g : FS}, g [.dat (.list (jd r)), .dat (.int (zd : Nat)), .dat (.int (a1 : Nat)), .dat (.int (ordinal : Nat)), .dat (.int (a2 : Nat)), .dat (.int (time : Nat)), .dat (.int (a3 : Nat)), .un, .un] = o → vb (jw (gT 2 (qc 5 (qc 6 (wo)))) (kb (qF FN.xj) 3 (qa (eV 0) (qa (eV 4) (qa (eC (.int 1099511627775)) (ka)))))) (vb (kh (tV (e2 yL (eV 5) (eC .none))) (yi 10 (eV 4)) (ki)) g) [.dat (.list (jd r)), .dat (.int (zd : Nat)), .dat (.int (a1 : Nat)), .dat (.int (ordinal : Nat)), .dat (.int (a2 : Nat)), .un, .un, .un, .un] = o := fun {o g} h =>
          ye (yX (qj (va (jb rfl) (va (jb rfl) (va rfl yb))) rfl rfl q3) rfl rfl) (ye (xl (xaW rfl) rfl) h)
        dsimp only
        cases w4 : LF.rd r a3 16777215 with
        | none =>
          rw [w4] at q4
          dsimp only
          refine ky (ρ' := [.dat (.list (jd r)), .dat (.int (zd : Nat)), .dat (.int (a1 : Nat)), .dat (.int (ordinal : Nat)), .dat (.int (a2 : Nat)), .dat (.int (time : Nat)), .dat (.int (a3 : Nat)), .dat .none, .dat (.int (a3 : Nat))]) (go1 (go2 (go3 ?_)))
          exact ye (yX (qj (va (jb rfl) (va (jb rfl) (va rfl yb))) rfl rfl q4) rfl rfl) (vG (xn (kaz rfl) (xE (jb rfl))))
        | some p4 =>
          obtain ⟨span, a4⟩ := p4
          rw [w4] at q4
          dsimp only
          refine vD (go1 (go2 (go3 ?_)))
          refine ye (yX (qj (va (jb rfl) (va (jb rfl) (va rfl yb))) rfl rfl q4) rfl rfl) (ye (xl (xaW rfl) rfl) ?_)
          exact vu (yF (va (jb rfl) (va (jb rfl) (va (jb rfl) (va (jb rfl) (va (jb rfl) yb))))) rfl (by simp))
theorem wb7 (r : List Nat) (a : Nat) (ha : a ≤ r.length) (hl : r.length ≤ 100000) : zL [.list (jd r), .int (a : Nat)] = some (zcJ r a) := by
  have q1 := xaL (vaC r a 1024 ha hl (by decide))
  unfold zcJ
  unfold zL wbf
  cases w1 : LF.rd r a 1024 with
  | none =>
    rw [w1] at q1
    dsimp only
    refine ky (ρ' := [.dat (.list (jd r)), .dat (.int (a : Nat)), .dat .none, .dat (.int (a : Nat))]) ?_
    exact ye (yX (qj (va (jb rfl) (va (jb rfl) (va rfl yb))) rfl rfl q1) rfl rfl) (vG (xn (kaz rfl) (xE (jb rfl))))
  | some p1 =>
    obtain ⟨size, a5⟩ := p1
    rw [w1] at q1
    obtain ⟨l1, _, _⟩ := LF.yaS w1
    have go : ∀ {o : Option Out} {g : FS}, g [.dat (.list (jd r)), .dat (.int (a : Nat)), .dat (.int (size : Nat)), .dat (.int (a5 : Nat))] = o → vb (jw (gT 2 (qc 2 (qc 3 (wo)))) (kb (qF FN.xj) 3 (qa (eV 0) (qa (eV 1) (qa (eC (.int 1024)) (ka)))))) (vb (kh (tV (e2 yL (eV 2) (eC .none))) (yi 13 (eV 1)) (ki)) g) [.dat (.list (jd r)), .dat (.int (a : Nat)), .un, .un] = o := fun {o g} h =>
      ye (yX (qj (va (jb rfl) (va (jb rfl) (va rfl yb))) rfl rfl q1) rfl rfl) (ye (xl (xaW rfl) rfl) h)
    dsimp only
    by_cases hb : r.length < a5 + size
    · rw [if_pos hb]
      exact ky (go (vG (xn (xK (ql (jb rfl) (jb rfl)) (xt (jb rfl) rfl) (by omega)) (xE (jb rfl)))))
    · rw [if_neg hb]
      have sl := jbM (E := eV 0) (F := eV 3) (G := e2 wc (eV 3) (eV 2)) (ρ := [.dat (.list (jd r)), .dat (.int (a : Nat)), .dat (.int (size : Nat)), .dat (.int (a5 : Nat))]) (r := r) (i := a5) (j := a5 + size) (jb rfl) (.inl rfl) (jb rfl) (ql (jb rfl) (jb rfl)) (by omega) (by omega)
      rw [Nat.add_sub_cancel_left] at sl
      exact vD (go (ye (xl (kK (ql (jb rfl) (jb rfl)) (xt (jb rfl) rfl) (by omega)) rfl) (vu (yF (vs := [.f (jd ((r.drop a5).take size)), .s (.int ((a5 + size : Nat) : Int))]) (va sl (va (ql (jb rfl) (jb rfl)) yb)) rfl (by simp)))))
noncomputable def zcj : FS := vb (kh (wB (tV (e2 zJ (eV 8) (eG kl (qa (eV 0) (ka))))) (tV (e2 wz (e2 vi (eV 0) (eV 8)) (eC (.int 1))))) (yi 12 (eV 8)) (ki)) (vb (je 9 (e2 vi (eV 0) (eV 8))) (vb (jw (gT 2 (qc 10 (qc 11 (wo)))) (kb FN.zL 2 (qa (eV 0) (qa (e2 wc (eV 8) (eC (.int 1))) (ka))))) (vb (kh (tV (e2 gNe (qB (eV 0) (zj (eV 11)) (wu)) (kb (qF FN.kn) 1 (qa (kb (qF FN.yD) 1 (qa (qB (eV 0) (wu) (zj (eV 11))) (ka))) (ka))))) (yi 15 (eV 11)) (ki)) (vh (jn (qa (eV 1) (qa (eV 2) (qa (eV 3) (qa (eV 4) (qa (eV 5) (qa (eV 6) (qa (eV 7) (qa (eV 9) (qa (eV 10) (ka))))))))))))))) 
theorem jcX (r : List Nat) (hr : ∀ x ∈ r, x < 256) (hl : r.length ≤ 100000) (zd ordinal time span a4 : Nat) : ∃ ρ', zcj [.dat (.list (jd r)), .dat (.int (r.getD 0 0 : Nat)), .dat (.int (LF.jj ((r.drop 1).take 4) : Nat)), .dat (.int (LF.jj ((r.drop 5).take 4) : Nat)), .dat (.int (zd : Nat)), .dat (.int (ordinal : Nat)), .dat (.int (time : Nat)), .dat (.int (span : Nat)), .dat (.int (a4 : Nat)), .un, .un, .un] = some (wdJ ρ' (LF.yaa r zd ordinal time span a4)) := by
  unfold LF.yaa zcj
  generalize LF.jj ((r.drop 1).take 4) = zi
  generalize LF.jj ((r.drop 5).take 4) = number
  generalize hk0 : r.getD 0 0 = kind
  by_cases h1 : r.length ≤ a4 ∨ 1 < r.getD a4 0
  · rw [if_pos h1]
    refine ⟨_, vG (xn ?_ (xE (jb rfl)))⟩
    by_cases h2 : r.length ≤ a4
    · exact zaC (yaA (jb rfl) (xt (jb rfl) rfl) (by omega))
    · have h3 := h1.resolve_left h2
      exact qx (kE (jb rfl) (xt (jb rfl) rfl) (by omega)) (xK (qP (jb rfl) (jb rfl) (by omega)) rfl (by omega))
  rw [if_neg h1]
  have h2 : a4 < r.length := by
    rcases Nat.lt_or_ge a4 r.length with h | h
    · exact h
    · exact absurd (.inl h) h1
  have h3 : ¬ 1 < r.getD a4 0 := fun e => h1 (.inr e)
  have qb := wb7 r (a4 + 1) (by omega) hl
  unfold zcJ at qb
  have pre : ∀ {o : Option Out} {g : FS}, g [.dat (.list (jd r)), .dat (.int (kind : Nat)), .dat (.int (zi : Nat)), .dat (.int (number : Nat)), .dat (.int (zd : Nat)), .dat (.int (ordinal : Nat)), .dat (.int (time : Nat)), .dat (.int (span : Nat)), .dat (.int (a4 : Nat)), .dat (.int (r.getD a4 0 : Nat)), .un, .un] = o →
      vb (kh (wB (tV (e2 zJ (eV 8) (eG kl (qa (eV 0) (ka))))) (tV (e2 wz (e2 vi (eV 0) (eV 8)) (eC (.int 1))))) (yi 12 (eV 8)) (ki)) (vb (je 9 (e2 vi (eV 0) (eV 8))) g) [.dat (.list (jd r)), .dat (.int (kind : Nat)), .dat (.int (zi : Nat)), .dat (.int (number : Nat)), .dat (.int (zd : Nat)), .dat (.int (ordinal : Nat)), .dat (.int (time : Nat)), .dat (.int (span : Nat)), .dat (.int (a4 : Nat)), .un, .un, .un] = o := fun {o g} h =>
    ye (xl (qx (kE (jb rfl) (xt (jb rfl) rfl) (by omega)) (kK (qP (jb rfl) (jb rfl) h2) rfl (by omega))) rfl) (ye (vq (qP (jb rfl) (jb rfl) h2) rfl rfl) h)
  cases w1 : LF.rd r (a4 + 1) 1024 with
  | none =>
    rw [w1] at qb
    exact ⟨_, pre (vG (yav (wR (va (jb rfl) (va (ql (j := 1) (jb rfl) rfl) yb)) rfl rfl qb)))⟩
  | some p1 =>
    obtain ⟨size, a5⟩ := p1
    rw [w1] at qb
    dsimp only at qb ⊢
    by_cases h4 : r.length < a5 + size
    · rw [if_pos h4] at qb
      rw [if_pos h4]
      exact ⟨_, pre (vG (yav (wR (va (jb rfl) (va (ql (j := 1) (jb rfl) rfl) yb)) rfl rfl qb)))⟩
    · rw [if_neg h4] at qb
      rw [if_neg h4]
      have cut : ∀ s9 : DL.Slot, e2 gNe (qB (eV 0) (zj (eV 11)) (wu)) (kb (qF FN.kn) 1 (qa (kb (qF FN.yD) 1 (qa (qB (eV 0) (wu) (zj (eV 11))) (ka))) (ka))) [.dat (.list (jd r)), .dat (.int (kind : Nat)), .dat (.int (zi : Nat)), .dat (.int (number : Nat)), .dat (.int (zd : Nat)), .dat (.int (ordinal : Nat)), .dat (.int (time : Nat)), .dat (.int (span : Nat)), .dat (.int (a4 : Nat)), s9, .dat (.list (jd ((r.drop a5).take size))), .dat (.int ((a5 + size : Nat) : Int))] = some (.ok (.s (.bool (!decide (r.drop (a5 + size) = LF.four (sumOf (r.take (a5 + size)))))))) := fun s9 =>
        qb0 (vaW (jb rfl) (.inl rfl) (jb rfl)) (zZ (va (qj (va (waW (jb rfl) (.inl rfl) (jb rfl)) yb) rfl rfl (xaL (qbD _ (fun x hx => hr x (List.mem_of_mem_take hx))))) yb) rfl rfl (qdo (wbM _))) (kch _ _)
      have un : ∀ {o : Option Out} {g : FS}, g [.dat (.list (jd r)), .dat (.int (kind : Nat)), .dat (.int (zi : Nat)), .dat (.int (number : Nat)), .dat (.int (zd : Nat)), .dat (.int (ordinal : Nat)), .dat (.int (time : Nat)), .dat (.int (span : Nat)), .dat (.int (a4 : Nat)), .dat (.int (r.getD a4 0 : Nat)), .dat (.list (jd ((r.drop a5).take size))), .dat (.int ((a5 + size : Nat) : Int))] = o →
          vb (jw (gT 2 (qc 10 (qc 11 (wo)))) (kb FN.zL 2 (qa (eV 0) (qa (e2 wc (eV 8) (eC (.int 1))) (ka))))) g [.dat (.list (jd r)), .dat (.int (kind : Nat)), .dat (.int (zi : Nat)), .dat (.int (number : Nat)), .dat (.int (zd : Nat)), .dat (.int (ordinal : Nat)), .dat (.int (time : Nat)), .dat (.int (span : Nat)), .dat (.int (a4 : Nat)), .dat (.int (r.getD a4 0 : Nat)), .un, .un] = o := fun {o g} h =>
        ye (yX (qj (va (jb rfl) (va (ql (j := 1) (jb rfl) rfl) yb)) rfl rfl qb) rfl rfl) h
      by_cases h5 : r.drop (a5 + size) = LF.four (sumOf (r.take (a5 + size)))
      · rw [if_neg (fun e => e h5)]
        rw [decide_eq_true h5] at cut
        exact ⟨[], pre (un (ye (xl (jah (cut _) rfl) rfl) (vu (yF (va (jb rfl) (va (jb rfl) (va (jb rfl) (va (jb rfl) (va (jb rfl) (va (jb rfl) (va (jb rfl) (va (jb rfl) (va (jb rfl) yb))))))))) rfl (by simp)))))⟩
      · rw [if_pos h5]
        rw [decide_eq_false h5] at cut
        exact ⟨_, pre (un (vG (xn (jah (cut _) rfl) (xE (jb rfl)))))⟩
theorem qb1 (r : List Nat) (hr : ∀ x ∈ r, x < 256) (hl : r.length ≤ 100000) : qas [.list (jd r)] = some (vdJ (LF.read r)) := by
  unfold LF.read
  unfold qas vbf
  by_cases h0 : r.length = 0 ∨ 4 < r.getD 0 0
  · rw [if_pos h0]
    exact ky (vG (yav (wR (va (jb rfl) yb) rfl rfl (wbR r h0))))
  rw [if_neg h0]
  by_cases h5 : r.length < 5
  · rw [if_pos h5]
    exact ky (vG (yav (wR (va (jb rfl) yb) rfl rfl (vbR r h0 h5))))
  rw [if_neg h5]
  by_cases h9 : r.length < 9
  · rw [if_pos h9]
    exact ky (vG (yav (wR (va (jb rfl) yb) rfl rfl (ybR r h0 h5 h9))))
  rw [if_neg h9]
  have qf := xb0 r hr h0 h9
  have qp := kb0 r (by omega) hl
  have s1 : jw (gT 3 (qc 1 (qc 2 (qc 3 (wo))))) (kb FN.zp 1 (qa (eV 0) (ka))) [.dat (.list (jd r)), .un, .un, .un, .un, .un, .un, .un, .un, .un, .un, .un] = some (.nx [.dat (.list (jd r)), .dat (.int (r.getD 0 0 : Nat)), .dat (.int (LF.jj ((r.drop 1).take 4) : Nat)), .dat (.int (LF.jj ((r.drop 5).take 4) : Nat)), .un, .un, .un, .un, .un, .un, .un, .un]) :=
    yX (qj (va (jb rfl) yb) rfl rfl qf) rfl rfl
  unfold qcj at qp
  cases w1 : LF.rd r 9 15 with
  | none =>
    rw [w1] at qp
    exact ky (ye s1 (vG (yav (wR (va (jb rfl) yb) rfl rfl qp))))
  | some p1 =>
    obtain ⟨zd, a1⟩ := p1
    rw [w1] at qp
    dsimp only at qp ⊢
    cases w2 : LF.rd r a1 16777215 with
    | none =>
      rw [w2] at qp
      exact ky (ye s1 (vG (yav (wR (va (jb rfl) yb) rfl rfl qp))))
    | some p2 =>
      obtain ⟨ordinal, a2⟩ := p2
      rw [w2] at qp
      dsimp only at qp ⊢
      cases w3 : LF.rd r a2 1099511627775 with
      | none =>
        rw [w3] at qp
        exact ky (ye s1 (vG (yav (wR (va (jb rfl) yb) rfl rfl qp))))
      | some p3 =>
        obtain ⟨time, a3⟩ := p3
        rw [w3] at qp
        dsimp only at qp ⊢
        cases w4 : LF.rd r a3 16777215 with
        | none =>
          rw [w4] at qp
          exact ky (ye s1 (vG (yav (wR (va (jb rfl) yb) rfl rfl qp))))
        | some p4 =>
          obtain ⟨span, a4⟩ := p4
          rw [w4] at qp
          dsimp only at qp ⊢
          obtain ⟨ρ', ht⟩ := jcX r hr hl zd ordinal time span a4
          have s2 : jw (gT 5 (qc 4 (qc 5 (qc 6 (qc 7 (qc 8 (wo))))))) (kb FN.jT 1 (qa (eV 0) (ka))) [.dat (.list (jd r)), .dat (.int (r.getD 0 0 : Nat)), .dat (.int (LF.jj ((r.drop 1).take 4) : Nat)), .dat (.int (LF.jj ((r.drop 5).take 4) : Nat)), .un, .un, .un, .un, .un, .un, .un, .un] = some (.nx [.dat (.list (jd r)), .dat (.int (r.getD 0 0 : Nat)), .dat (.int (LF.jj ((r.drop 1).take 4) : Nat)), .dat (.int (LF.jj ((r.drop 5).take 4) : Nat)), .dat (.int (zd : Nat)), .dat (.int (ordinal : Nat)), .dat (.int (time : Nat)), .dat (.int (span : Nat)), .dat (.int (a4 : Nat)), .un, .un, .un]) :=
            yX (qj (va (jb rfl) yb) rfl rfl qp) rfl rfl
          have whole := ye s1 (ye s2 ht)
          cases wt : LF.yaa r zd ordinal time span a4 with
          | ok l =>
            rw [wt] at whole
            exact vD whole
          | error e =>
            rw [wt] at whole
            exact ky whole
section
variable {ρ ρ1 : xb} {d e : D} {g : FG} {body : FS} {ds : List D} {o : Option Out}
theorem xbV (h1 : g d ρ = some ρ1) (h2 : body ρ1 = some (.ret e)) : forL g body (d :: ds) ρ = some (.ret e) := by
  unfold forL
  rw [h1]
  dsimp only
  rw [h2]
end
def lnD : Option (Nat × Nat) → D
  | some (n, s) => .tuple [.int (n : Nat), .int (s : Nat)]
  | none => .none
noncomputable def waf : FS := kh (tV (e2 vT (e2 wc (eV 1) (eV 4)) (eG kl (qa (eV 0) (ka))))) (vb (je 3 (e2 wc (eV 3) (e2 kag (e2 qw (e2 vi (eV 0) (e2 wc (eV 1) (eV 4))) (eC (.int 127))) (e2 jt (eC (.int 7)) (eV 4))))) (kh (tV (e2 vT (e2 vi (eV 0) (e2 wc (eV 1) (eV 4))) (eC (.int 128)))) (vb (kh (wB (tV (e2 zJ (eV 3) (eV 2))) (waS (tV (e2 wz (eV 4) (eC (.int 0)))) (tV (e2 qK (e2 vi (eV 0) (e2 wc (eV 1) (eV 4))) (eC (.int 0)))))) (vh (eC .none)) (ki)) (vh (jn (qa (eV 3) (qa (e2 wc (e2 wc (eV 1) (eV 4)) (eC (.int 1))) (ka)))))) (ki))) (ki)
def xaa (r : List Nat) (a b n : Nat) (s4 : DL.Slot) : xb := [.dat (.list (jd r)), .dat (.int (a : Nat)), .dat (.int (b : Nat)), .dat (.int (n : Nat)), s4]
theorem xbf (r : List Nat) (a b n i : Nat) (h : a + i < r.length) : e2 vi (eV 0) (e2 wc (eV 1) (eV 4)) (xaa r a b n (.dat (.int (i : Nat)))) = some (.ok (.s (.int (kg r a i : Nat)))) := qP (jb rfl) (ql (jb rfl) (jb rfl)) h
theorem vb1 (r : List Nat) (a b i : Nat) (h : a + i < r.length) (hi : i < 6) : je 3 (e2 wc (eV 3) (e2 kag (e2 qw (e2 vi (eV 0) (e2 wc (eV 1) (eV 4))) (eC (.int 127))) (e2 jt (eC (.int 7)) (eV 4)))) (xaa r a b (SN.val (kg r a) i) (.dat (.int (i : Nat)))) = some (.nx (xaa r a b (SN.val (kg r a) (i + 1)) (.dat (.int (i : Nat))))) := by
  refine vq (ql (jb rfl) (zbV (kbU (xbf r a b _ i h) rfl) (yaL (i := 7) rfl (jb rfl) (.inl (by decide))) (by omega) (by omega))) rfl ?_
  have e2 : SN.val (kg r a) (i + 1) = SN.val (kg r a) i + kg r a i % 128 * 2 ^ (7 * i) := by
    rw [SN.val, Nat.pow_mul]
  rw [e2]
  rfl
theorem ycJ (r : List Nat) (a b i n : Nat) (s4 : DL.Slot) (h : a + i < r.length) (hs : s4 = .dat (.int (i : Nat))) : tV (e2 vT (e2 wc (eV 1) (eV 4)) (eG kl (qa (eV 0) (ka)))) (xaa r a b n s4) = some (.ok true) := by
  subst hs
  exact xar (ql (jb rfl) (jb rfl)) (xt (jb rfl) rfl) (by omega)
theorem kdo (r : List Nat) (a b i : Nat) (h : a + i < r.length) (hi : i < 6) (hb : 128 ≤ kg r a i) : waf (xaa r a b (SN.val (kg r a) i) (.dat (.int (i : Nat)))) = some (.nx (xaa r a b (SN.val (kg r a) (i + 1)) (.dat (.int (i : Nat))))) := by
  unfold waf
  exact xn (ycJ r a b i _ _ h rfl) (ye (vb1 r a b i h hi) (xl (jZ (xbf r a b _ i h) rfl (by omega)) rfl))
theorem qdp (r : List Nat) (a b i n : Nat) (h : r.length ≤ a + i) : waf (xaa r a b n (.dat (.int (i : Nat)))) = some (.nx (xaa r a b n (.dat (.int (i : Nat))))) := by
  unfold waf
  exact xl (jZ (ql (jb rfl) (jb rfl)) (xt (jb rfl) rfl) (by omega)) rfl
theorem kbR (r : List Nat) (a b i : Nat) (d : D) (ρ : xb) (h : a + i < r.length) (hb : 128 ≤ kg r a i) (hd : (vk 0 6)[i]? = some d) (hI : ∃ s4, ρ = xaa r a b (SN.val (kg r a) i) s4) : ∃ ρ1 ρ2, gN 4 d ρ = some ρ1 ∧ waf ρ1 = some (.nx ρ2) ∧ ∃ s4, ρ2 = xaa r a b (SN.val (kg r a) (i + 1)) s4 := by
  obtain ⟨s4, rfl⟩ := hI
  obtain ⟨hi, rfl⟩ := kar hd
  exact ⟨_, _, rfl, kdo r a b i h hi hb, _, rfl⟩
theorem yaH (r : List Nat) (a top : Nat) (ha : a ≤ r.length) (hl : r.length ≤ 100000) : yA [.list (jd r), .int (a : Nat), .int ((top + 1 : Nat) : Int)] = some (.ret (lnD (LF.rd r a top))) := by
  have run : ∀ {o : Out}, (forL (gN 4) waf (vk 0 6) (xaa r a (top + 1) 0 .un) = some o) → ∀ {oo : Option Out}, (∀ ρ, o = .nx ρ → vh (eC .none) ρ = oo) → (∀ d, o = .ret d → some (.ret d) = oo) → ((∃ ρ, o = .nx ρ) ∨ ∃ d, o = .ret d) → zaA [.dat (.list (jd r)), .dat (.int (a : Nat)), .dat (.int ((top + 1 : Nat) : Int)), .un, .un] = oo := by
    intro o h oo h1 h2 h3
    unfold zaA
    refine ye (ρ1 := xaa r a (top + 1) 0 .un) (vq (v := .s (.int 0)) rfl rfl rfl) ?_
    rcases h3 with ⟨ρ, rfl⟩ | ⟨d, rfl⟩
    · exact ye (qT (yar (j := 6) rfl (by decide) (by decide)) h) (h1 _ rfl)
    · rw [← h2 _ rfl]
      exact vaa (qT (yar (j := 6) rfl (by decide) (by decide)) h)
  unfold yA
  refine vD ?_
  rcases SN.vck (kg r a) (r.length - a) with ⟨p, hp, hr, he⟩ | ⟨hr, hb⟩ | ⟨hr, hb⟩
  · have hs := he.small
    have stop : ∀ {d : D}, waf (xaa r a (top + 1) (SN.val (kg r a) p) (.dat (.int (p : Nat)))) = some (.ret d) → forL (gN 4) waf (vk 0 6) (xaa r a (top + 1) 0 .un) = some (.ret d) := by
      intro d h
      refine vbC (m := p) (fun i ρ => ∃ s4, ρ = xaa r a (top + 1) (SN.val (kg r a) i) s4) (by rw [vR]; exact hp) ⟨_, rfl⟩ (fun i d ρ hi hd hI => kbR r a _ i d ρ (by omega) (he.big i hi) hd hI) ?_ (.inl ⟨_, rfl⟩)
      rintro d' ρ hd ⟨s4, rfl⟩
      obtain ⟨_, rfl⟩ := kar hd
      exact ⟨_, rfl, h⟩
    by_cases hg : SN.val (kg r a) (p + 1) ≤ top ∧ ¬ (0 < p ∧ kg r a p = 0)
    · rw [LF.wb1 ⟨hp, by omega, he, hg.1, hg.2⟩]
      refine run (o := .ret (lnD (some (SN.val (kg r a) (p + 1), a + p + 1)))) (stop ?_) (fun _ h => nomatch h) (fun _ h => by cases h; rfl) (.inr ⟨_, rfl⟩)
      unfold waf
      refine xn (ycJ r a _ p _ _ (by omega) rfl) (ye (vb1 r a _ p (by omega) hp) (xn (xar (xbf r a _ _ p (by omega)) rfl (by omega)) (ye (xl (qx (kE (jb rfl) (jb rfl) (by omega)) ?_) rfl) (vu (yF (va (jb rfl) (va (ql (j := 1) (ql (jb rfl) (jb rfl)) rfl) yb)) rfl (by simp))))))
      by_cases hp0 : 0 < p
      · exact qbf (xK (jb rfl) rfl (by omega)) (war (xbf r a _ _ p (by omega)) rfl (fun e => hg.2 ⟨hp0, by omega⟩))
      · exact kbZ (kK (jb rfl) rfl (by omega))
    · rw [LF.vas fun q ⟨h1, h2, h3, h4, h5⟩ => by
        have := SN.qaM h3 he
        subst this
        exact hg ⟨h4, h5⟩]
      refine run (o := .ret .none) (stop ?_) (fun _ h => nomatch h) (fun _ h => by cases h; rfl) (.inr ⟨_, rfl⟩)
      unfold waf
      refine xn (ycJ r a _ p _ _ (by omega) rfl) (ye (vb1 r a _ p (by omega) hp) (xn (xar (xbf r a _ _ p (by omega)) rfl (by omega)) (vaa (xn ?_ (vu rfl)))))
      by_cases hv : top + 1 ≤ SN.val (kg r a) (p + 1)
      · exact zaC (yaA (jb rfl) (jb rfl) (by omega))
      · have hz : 0 < p ∧ kg r a p = 0 := Classical.byContradiction fun e => hg ⟨by omega, e⟩
        exact qx (kE (jb rfl) (jb rfl) (by omega)) (qbf (xK (jb rfl) rfl (by omega)) (waH (xbf r a _ _ p (by omega)) rfl (by omega)))
  · rw [LF.vas fun q ⟨h1, h2, h3, h4, h5⟩ => by
      have := hb q (by omega)
      have := h3.small
      omega]
    obtain ⟨ρ', h1, s4, rfl⟩ := yT (g := gN 4) (body := waf) (ds := vk 0 6) (ρ := xaa r a (top + 1) 0 .un) (fun i ρ => ∃ s4, ρ = xaa r a (top + 1) (SN.val (kg r a) (min i (r.length - a))) s4) ⟨.un, by rw [Nat.zero_min]; rfl⟩ (by
      intro i d ρ hd hI
      by_cases hi : i < r.length - a
      · rw [Nat.min_eq_left (by omega)] at hI
        rw [Nat.min_eq_left (by omega)]
        exact kbR r a _ i d ρ (by omega) (hb i hi) hd hI
      · obtain ⟨s4, rfl⟩ := hI
        obtain ⟨_, rfl⟩ := kar hd
        rw [Nat.min_eq_right (by omega), Nat.min_eq_right (by omega)]
        exact ⟨_, _, rfl, qdp r a _ i _ (by omega), _, rfl⟩)
    exact run h1 (fun _ h => by cases h; rfl) (fun _ h => nomatch h) (.inl ⟨_, rfl⟩)
  · rw [LF.vas fun q ⟨h1, h2, h3, h4, h5⟩ => by
      have := hb q h1
      have := h3.small
      omega]
    obtain ⟨ρ', h1, s4, rfl⟩ := yT (g := gN 4) (body := waf) (ds := vk 0 6) (ρ := xaa r a (top + 1) 0 .un) (fun i ρ => ∃ s4, ρ = xaa r a (top + 1) (SN.val (kg r a) i) s4) ⟨.un, rfl⟩ (fun i d ρ hd hI => kbR r a _ i d ρ (by have := (kar hd).1; omega) (hb i (kar hd).1) hd hI)
    exact run h1 (fun _ h => by cases h; rfl) (fun _ h => nomatch h) (.inl ⟨_, rfl⟩)
def wordOf : Nat → Str
  | 5 => "kind" | 6 => "stamp" | 7 => "number" | 8 => "track" | 9 => "ordinal" | 10 => "time" | 11 => "span" | 12 => "key" | 13 => "size" | 14 => "body" | _ => "check"
def ybV : Except (Nat × Nat) vo → D
  | .ok l => lfD l
  | .error (c, j) => .tuple [.str (wordOf c), .int (j : Nat)]
noncomputable def kbV : FS := vb (je 8 (kb FN.yA 3 (qa (eV 0) (qa (eV 4) (qa (eV 7) (ka)))))) (vb (kh (tV (e2 yL (eV 8) (eC .none))) (vh (jn (qa (eV 6) (qa (eV 4) (ka))))) (ki)) (vb (qM 1 (e2 vi (eV 8) (eC (.int 0)))) (je 4 (e2 vi (eV 8) (eC (.int 1))))))
theorem vbM {r : List Nat} {F : List Nat} {a top : Nat} {w : Str} {s2 s3 s5 s8 s9 : DL.Slot} (ha : a ≤ r.length) (hl : r.length ≤ 100000) (h : LF.rd r a top = none) : kbV [.dat (.list (jd r)), .own (jd F), s2, s3, .dat (.int (a : Nat)), s5, .dat (.str w), .dat (.int ((top + 1 : Nat) : Int)), s8, s9] = some (.ret (.tuple [.str w, .int (a : Nat)])) := by
  have q := yaH r a top ha hl
  rw [h] at q
  unfold kbV
  refine ye (ρ1 := [.dat (.list (jd r)), .own (jd F), s2, s3, .dat (.int (a : Nat)), s5, .dat (.str w), .dat (.int ((top + 1 : Nat) : Int)), .dat .none, s9]) (vq (qj (va (jb rfl) (va (jb rfl) (va (jb rfl) yb))) rfl rfl q) rfl rfl) ?_
  exact vaa (xn (kaz rfl) (vu (yF (va (jb rfl) (va (jb rfl) yb)) rfl (by simp))))
theorem ybM {r : List Nat} {F : List Nat} {a top n s : Nat} {w : Str} {s2 s3 s5 s8 s9 : DL.Slot} (ha : a ≤ r.length) (hl : r.length ≤ 100000) (h : LF.rd r a top = some (n, s)) (hF : F.length ≤ 100) : kbV [.dat (.list (jd r)), .own (jd F), s2, s3, .dat (.int (a : Nat)), s5, .dat (.str w), .dat (.int ((top + 1 : Nat) : Int)), s8, s9] = some (.nx [.dat (.list (jd r)), .own (jd (F ++ [n])), s2, s3, .dat (.int (s : Nat)), s5, .dat (.str w), .dat (.int ((top + 1 : Nat) : Int)), .dat (lnD (some (n, s))), s9]) := by
  have q := yaH r a top ha hl
  rw [h] at q
  unfold kbV
  refine ye (ρ1 := [.dat (.list (jd r)), .own (jd F), s2, s3, .dat (.int (a : Nat)), s5, .dat (.str w), .dat (.int ((top + 1 : Nat) : Int)), .dat (lnD (some (n, s))), s9]) (vq (qj (va (jb rfl) (va (jb rfl) (va (jb rfl) yb))) rfl rfl q) rfl rfl) ?_
  refine ye (xl (by exact xbl (a := lnD (some (n, s))) (jb rfl) rfl) rfl) ?_
  refine ye (ρ1 := [.dat (.list (jd r)), .own (jd (F ++ [n])), s2, s3, .dat (.int (a : Nat)), s5, .dat (.str w), .dat (.int ((top + 1 : Nat) : Int)), .dat (lnD (some (n, s))), s9]) (xbC rfl (vaS (jb rfl) rfl rfl) (by omega) rfl) ?_
  exact vq (vaS (jb rfl) rfl rfl) rfl rfl
theorem jc7 (a b c d : Nat) : a * 2 ^ (8 * 0) + (b * 2 ^ (8 * 1) + (c * 2 ^ (8 * 2) + (d * 2 ^ (8 * 3) + 0))) = LF.jj [a, b, c, d] := by
  simp [LF.jj]
  omega
theorem vdb {r : List Nat} {a : Nat} (h : a + 4 ≤ r.length) : (r.drop a).take 4 = [r.getD a 0, r.getD (a + 1) 0, r.getD (a + 2) 0, r.getD (a + 3) 0] := by
  refine List.ext_getElem (by simp; omega) fun i h1 h2 => ?_
  have hi : i < 4 := by simpa using h2
  have g : ∀ j, (hj : j < 4) → r.getD (a + j) 0 = r[a + j]'(by omega) := fun j hj => by
    rw [List.getD_eq_getElem?_getD, List.getElem?_eq_getElem (by omega)]
    rfl
  rw [List.getElem_take, List.getElem_drop]
  rcases (show i = 0 ∨ i = 1 ∨ i = 2 ∨ i = 3 by omega) with rfl | rfl | rfl | rfl
  · exact (g 0 (by decide)).symm
  · exact (g 1 (by decide)).symm
  · exact (g 2 (by decide)).symm
  · exact (g 3 (by decide)).symm
theorem kdw {ρ : xb} {v : Nat} {r : List Nat} {a : Nat} {fi fk : FE} (hr : ∀ x ∈ r, x < 256) (h : a + 4 ≤ r.length) (h0 : noOwn ρ [v] = true) (hf : ∀ k : Nat, k < 4 → ∃ ρ1, zP v (wq ρ [v]) (.int (k : Int)) = some ρ1 ∧ ρ1[0]? = some (.dat (.list (jd r))) ∧ fi ρ1 = some (.ok (.s (.int ((a + k : Nat) : Int)))) ∧ fk ρ1 = some (.ok (.s (.int (k : Int))))) :
    eG xbQ (qa (yE [v] (zP v) (yj (qa (eC (.int 4)) (ka))) (fun _ => some (.ok true)) (e2 kag (e2 vi (eV 0) fi) (e2 jt (eC (.int 8)) fk))) (ka)) ρ = some (.ok (.s (.int (LF.jj ((r.drop a).take 4) : Nat)))) := by
  have hb : ∀ i, i < r.length → r.getD i 0 < 256 := fun i hi => by
    rw [List.getD_eq_getElem?_getD, List.getElem?_eq_getElem hi]
    exact hr _ (List.getElem_mem hi)
  have q := vaA (vs := [v]) (st := zP v) (a := qa (eC (.int 4)) (ka)) (tt := fun _ => some (.ok true)) (fe := e2 kag (e2 vi (eV 0) fi) (e2 jt (eC (.int 8)) fk)) (ρ := ρ) (n := 4) (F := fun k => .int ((r.getD (a + k) 0 * 2 ^ (8 * k) : Nat) : Int)) h0 (yar (j := 4) rfl (by decide) (by decide)) (by decide) (fun k hk => by
    obtain ⟨ρ1, h1, h2, h3, h4⟩ := hf k hk
    have := hb (a + k) (by omega)
    exact ⟨ρ1, _, h1, rfl, zbV (qP (jb h2) h3 (by omega)) (yaL (i := 8) rfl h4 (.inl (by decide))) (by omega) (by omega), rfl⟩)
  refine qbC (va q yb) ?_
  have e : (List.range 4).map (fun k => PyData.int ((r.getD (a + k) 0 * 2 ^ (8 * k) : Nat) : Int)) = [(r.getD (a + 0) 0 * 2 ^ (8 * 0) : Nat), (r.getD (a + 1) 0 * 2 ^ (8 * 1) : Nat), (r.getD (a + 2) 0 * 2 ^ (8 * 2) : Nat), (r.getD (a + 3) 0 * 2 ^ (8 * 3) : Nat)].map fun n : Nat => PyData.int (n : Int) := rfl
  show (xaB ((List.range 4).map (fun k => PyData.int ((r.getD (a + k) 0 * 2 ^ (8 * k) : Nat) : Int)))).map (fun ns => Val.s (.int ns.sum)) = _
  rw [e]
  have e3 : xaB ([(r.getD (a + 0) 0 * 2 ^ (8 * 0) : Nat), (r.getD (a + 1) 0 * 2 ^ (8 * 1) : Nat), (r.getD (a + 2) 0 * 2 ^ (8 * 2) : Nat), (r.getD (a + 3) 0 * 2 ^ (8 * 3) : Nat)].map fun n : Nat => PyData.int (n : Int)) = some [((r.getD (a + 0) 0 * 2 ^ (8 * 0) : Nat) : Int), ((r.getD (a + 1) 0 * 2 ^ (8 * 1) : Nat) : Int), ((r.getD (a + 2) 0 * 2 ^ (8 * 2) : Nat) : Int), ((r.getD (a + 3) 0 * 2 ^ (8 * 3) : Nat) : Int)] := rfl
  rw [e3, vdb h, ← jc7]
  rfl
theorem wcX {r : List Nat} {s x : Nat} (hr : ∀ y ∈ r, y < 256) (hx : x < 2 ^ 32) (hs : s ≤ r.length) : r.drop s = LF.four x ↔ r.length = s + 4 ∧ LF.jj ((r.drop s).take 4) = x := by
  constructor
  · intro h
    have hl := congrArg List.length h
    rw [List.length_drop] at hl
    have h4 : (LF.four x).length = 4 := rfl
    refine ⟨by omega, ?_⟩
    rw [h]
    exact LF.jcY x hx
  · rintro ⟨hl, hn⟩
    have hd : (r.drop s).length = 4 := by rw [List.length_drop]; omega
    have e : r.drop s = (r.drop s).take 4 := (List.take_of_length_le (by omega)).symm
    rw [vdb (by omega)] at e
    rw [e] at hn ⊢
    rw [← hn]
    have hb : ∀ i, i < r.length → r.getD i 0 < 256 := fun i hi => by
      rw [List.getD_eq_getElem?_getD, List.getElem?_eq_getElem hi]
      exact hr _ (List.getElem_mem hi)
    show _ = LF.four (LF.jj ([r.getD s 0, r.getD (s + 1) 0, r.getD (s + 2) 0, r.getD (s + 3) 0].take 4))
    exact (LF.xbD (hb _ (by omega)) (hb _ (by omega)) (hb _ (by omega)) (hb _ (by omega))).symm
noncomputable def xdw : FS := vb (kh (wB (tV (e2 zJ (eV 4) (eG kl (qa (eV 0) (ka))))) (tV (e2 wz (e2 vi (eV 0) (eV 4)) (eC (.int 1))))) (vh (jn (qa (eC (.str "key")) (qa (eV 4) (ka))))) (ki)) (vb (je 8 (kb FN.yA 3 (qa (eV 0) (qa (e2 wc (eV 4) (eC (.int 1))) (qa (eC (.int 1025)) (ka)))))) (vb (kh (tV (e2 yL (eV 8) (eC .none))) (vh (jn (qa (eC (.str "size")) (qa (e2 wc (eV 4) (eC (.int 1))) (ka))))) (ki)) (vb (je 9 (e2 wc (e2 vi (eV 8) (eC (.int 1))) (e2 vi (eV 8) (eC (.int 0))))) (vb (kh (tV (e2 wz (eV 9) (eG kl (qa (eV 0) (ka))))) (vh (jn (qa (eC (.str "body")) (qa (e2 vi (eV 8) (eC (.int 1))) (ka))))) (ki)) (vb (kh (wB (tV (e2 gNe (eG kl (qa (eV 0) (ka))) (e2 wc (eV 9) (eC (.int 4))))) (tV (e2 gNe (eG xbQ (qa (yE [2] (zP 2) (yj (qa (eC (.int 4)) (ka))) (fun _ => some (.ok true)) (e2 kag (e2 vi (eV 0) (e2 wc (eV 9) (eV 2))) (e2 jt (eC (.int 8)) (eV 2)))) (ka))) (kb FN.zx 1 (qa (qB (eV 0) (wu) (zj (eV 9))) (ka)))))) (vh (jn (qa (eC (.str "check")) (qa (eV 9) (ka))))) (ki)) (vh (eG jbT (qa (e2 wc (eV 1) (zw (qa (e2 vi (eV 0) (eV 4)) (qa (qB (eV 0) (zj (e2 vi (eV 8) (eC (.int 1)))) (zj (eV 9))) (ka))))) (ka)))))))))
abbrev zM (r F : List Nat) (a : Nat) (s5 s6 s7 s8 s9 : DL.Slot) : xb := [.dat (.list (jd r)), .own (jd F), .un, .un, .dat (.int (a : Nat)), s5, s6, s7, s8, s9]
theorem yaC (r : List Nat) (s1 s2 s3 s4 s5 s6 s7 s8 s9 : DL.Slot) : eG kl (qa (eV 0) (ka)) [.dat (.list (jd r)), s1, s2, s3, s4, s5, s6, s7, s8, s9] = some (.ok (.s (.int (r.length : Nat)))) := by
  have q := kcd (E := eV 0) (ρ := [.dat (.list (jd r)), s1, s2, s3, s4, s5, s6, s7, s8, s9]) (v := .s (.list (jd r))) rfl rfl
  rw [xI] at q
  exact q
theorem jc6 (r : List Nat) (hr : ∀ x ∈ r, x < 256) (hl : r.length ≤ 100000) (zd ordinal time span a4 : Nat) (ha : a4 ≤ r.length) (h9 : 9 ≤ r.length) (s5 s6 s7 s8 : DL.Slot) : xdw (zM r [r.getD 0 0, LF.jj ((r.drop 1).take 4), LF.jj ((r.drop 5).take 4), zd, ordinal, time, span] a4 s5 s6 s7 s8 .un) = some (.ret (ybV (LF.yaa r zd ordinal time span a4))) := by
  unfold LF.yaa xdw
  by_cases h1 : r.length ≤ a4 ∨ 1 < r.getD a4 0
  · rw [if_pos h1]
    refine vaa (xn ?_ (vu (yF (ds := [.str "key", .int (a4 : Nat)]) (va rfl (va (jb rfl) yb)) rfl (by simp))))
    by_cases h2 : r.length ≤ a4
    · exact zaC (yaA (jb rfl) (yaC r _ _ _ _ _ _ _ _ _) (by omega))
    · exact qx (kE (jb rfl) (yaC r _ _ _ _ _ _ _ _ _) (by omega)) (xK (qP (jb rfl) (jb rfl) (by omega)) rfl (by omega))
  rw [if_neg h1]
  have h2 : a4 < r.length := by omega
  refine ye (xl (qx (kE (jb rfl) (yaC r _ _ _ _ _ _ _ _ _) (by omega)) (kK (qP (jb rfl) (jb rfl) h2) rfl (by omega))) rfl) ?_
  have q := yaH r (a4 + 1) 1024 (by omega) hl
  cases e : LF.rd r (a4 + 1) 1024 with
  | none =>
    rw [e] at q
    refine ye (vq (d := .none) (qj (va (jb rfl) (va (ql (jb rfl) rfl) (va rfl yb))) rfl rfl q) rfl rfl) ?_
    dsimp only [List.set]
    exact vaa (xn (kaz rfl) (vu (yF (ds := [.str "size", .int ((a4 + 1 : Nat) : Int)]) (va rfl (va (ql (j := 1) (jb rfl) rfl) yb)) rfl (by simp))))
  | some z =>
    obtain ⟨size, a5⟩ := z
    rw [e] at q
    obtain ⟨d1, d2, d3⟩ := LF.yaS e
    refine ye (vq (d := lnD (some (size, a5))) (qj (va (jb rfl) (va (ql (jb rfl) rfl) (va rfl yb))) rfl rfl q) rfl rfl) ?_
    dsimp only [List.set]
    refine ye (xl (by exact xbl (a := lnD (some (size, a5))) (jb rfl) rfl) rfl) ?_
    refine ye (vq (d := .int ((a5 + size : Nat) : Int)) (ql (vaS (jb rfl) rfl rfl) (vaS (jb rfl) rfl rfl)) rfl rfl) ?_
    dsimp only [List.set]
    by_cases h4 : r.length < a5 + size
    · rw [if_pos h4]
      exact vaa (xn (xK (jb rfl) (yaC r _ _ _ _ _ _ _ _ _) (by omega)) (vu (yF (ds := [.str "body", .int (a5 : Nat)]) (va rfl (va (vaS (jb rfl) rfl rfl) yb)) rfl (by simp))))
    rw [if_neg h4]
    refine ye (xl (kK (jb rfl) (yaC r _ _ _ _ _ _ _ _ _) (by omega)) rfl) ?_
    have hchk := wcX (r := r) (s := a5 + size) (x := sumOf (r.take (a5 + size))) hr (LF.wc6 _)
    have htk : ∀ x ∈ r.take (a5 + size), x < 256 := fun x hx => hr x (List.mem_of_mem_take hx)
    have bad : ∀ {o : Option Out}, some (.ret (.tuple [.str "check", .int ((a5 + size : Nat) : Int)])) = o → vh (jn (qa (eC (.str "check")) (qa (eV 9) (ka)))) (zM r [r.getD 0 0, LF.jj ((r.drop 1).take 4), LF.jj ((r.drop 5).take 4), zd, ordinal, time, span] a4 s5 s6 s7 (.dat (lnD (some (size, a5)))) (.dat (.int ((a5 + size : Nat) : Int)))) = o := fun {o} h => h ▸ vu (yF (ds := [.str "check", .int ((a5 + size : Nat) : Int)]) (va rfl (va (jb rfl) yb)) rfl (by simp))
    by_cases h3 : r.length = a5 + size + 4
    · have hs := kdw (ρ := zM r [r.getD 0 0, LF.jj ((r.drop 1).take 4), LF.jj ((r.drop 5).take 4), zd, ordinal, time, span] a4 s5 s6 s7 (.dat (lnD (some (size, a5)))) (.dat (.int ((a5 + size : Nat) : Int)))) (v := 2) (r := r) (a := a5 + size) (fi := e2 wc (eV 9) (eV 2)) (fk := eV 2) hr (by omega) rfl (fun k hk => ⟨_, rfl, rfl, ql (jb rfl) (jb rfl), jb rfl⟩)
      have hsl := waW (E := eV 0) (F := eV 9) (ρ := zM r [r.getD 0 0, LF.jj ((r.drop 1).take 4), LF.jj ((r.drop 5).take 4), zd, ordinal, time, span] a4 s5 s6 s7 (.dat (lnD (some (size, a5)))) (.dat (.int ((a5 + size : Nat) : Int)))) (r := r) (i := a5 + size) (jb rfl) (.inl rfl) (jb rfl)
      have hck := qj (n := 1) (G := FN.zx) (va hsl yb) rfl rfl (kaW _ htk)
      have n4 : tV (e2 gNe (eG kl (qa (eV 0) (ka))) (e2 wc (eV 9) (eC (.int 4)))) (zM r [r.getD 0 0, LF.jj ((r.drop 1).take 4), LF.jj ((r.drop 5).take 4), zd, ordinal, time, span] a4 s5 s6 s7 (.dat (lnD (some (size, a5)))) (.dat (.int ((a5 + size : Nat) : Int)))) = some (.ok false) := zbM (yaC r _ _ _ _ _ _ _ _ _) (ql (j := 4) (jb rfl) rfl) (by omega)
      by_cases h5 : r.drop (a5 + size) ≠ LF.four (sumOf (r.take (a5 + size)))
      · rw [if_pos h5]
        refine vaa (xn (qx n4 (zb0 hs hck ?_)) (bad rfl))
        intro z
        exact h5 ((hchk (by omega)).mpr ⟨h3, by omega⟩)
      · rw [if_neg h5]
        have h6 := ((hchk (by omega)).mp (Classical.not_not.mp h5)).2
        refine ye (xl (qx n4 (zbM hs hck (by omega))) rfl) ?_
        refine vu (qbC (va (xbU (a := .b (jd [r.getD 0 0, LF.jj ((r.drop 1).take 4), LF.jj ((r.drop 5).take 4), zd, ordinal, time, span])) (b := .f [.int (r.getD a4 0 : Nat), .list (jd ((r.drop a5).take size))]) (r_b rfl) ?_ rfl rfl rfl ?_) yb) rfl)
        · have hm := jbM (E := eV 0) (F := e2 vi (eV 8) (eC (.int 1))) (G := eV 9) (ρ := zM r [r.getD 0 0, LF.jj ((r.drop 1).take 4), LF.jj ((r.drop 5).take 4), zd, ordinal, time, span] a4 s5 s6 s7 (.dat (lnD (some (size, a5)))) (.dat (.int ((a5 + size : Nat) : Int)))) (r := r) (i := a5) (j := a5 + size) (jb rfl) (.inl rfl) (vaS (jb rfl) rfl rfl) (jb rfl) (by omega) (by omega)
          rw [Nat.add_sub_cancel_left] at hm
          exact zE (va (qP (jb rfl) (jb rfl) h2) (va hm yb)) rfl (by simp)
        · rw [xI]; simp
    · have h5 : r.drop (a5 + size) ≠ LF.four (sumOf (r.take (a5 + size))) := fun z => h3 ((hchk (by omega)).mp z).1
      rw [if_pos h5]
      exact vaa (xn (zaC (zb0 (yaC r _ _ _ _ _ _ _ _ _) (ql (j := 4) (jb rfl) rfl) (by omega))) (bad rfl))
theorem jcj (r : List Nat) (hr : ∀ x ∈ r, x < 256) (hl : r.length ≤ 100000) : zas [.list (jd r)] = some (.ret (ybV (LF.read r))) := by
  unfold zas ybf
  refine vD ?_
  show vb _ _ [.dat (.list (jd r)), .un, .un, .un, .un, .un, .un, .un, .un, .un] = _
  unfold LF.read
  have nil : ∀ x : Bool, decide (r = []) = x → tV (e2 qK (eV 0) (zw (ka))) [.dat (.list (jd r)), .un, .un, .un, .un, .un, .un, .un, .un, .un] = some (.ok x) := fun x hx => jah (xch (x := x) (b := .f (jd [])) (jb rfl) (zE yb rfl (by decide)) ((kch r []).trans (by rw [hx]))) rfl
  have k0 : ∀ {o : Option Out}, some (.ret (.tuple [.str "kind", .int 0])) = o → vh (jn (qa (eC (.str "kind")) (qa (eC (.int 0)) (ka)))) [.dat (.list (jd r)), .un, .un, .un, .un, .un, .un, .un, .un, .un] = o := fun {o} h => h ▸ vu (yF (ds := [.str "kind", .int 0]) (va rfl (va rfl yb)) rfl (by simp))
  by_cases h0 : r.length = 0 ∨ 4 < r.getD 0 0
  · rw [if_pos h0]
    by_cases h1 : r = []
    · exact vaa (xn (zaC (nil true (decide_eq_true h1))) (k0 rfl))
    · have h2 : 0 < r.length := List.length_pos_iff.mpr h1
      exact vaa (xn (qx (nil false (decide_eq_false h1)) (xK (qP (i := 0) (jb rfl) rfl h2) rfl (by omega))) (k0 rfl))
  rw [if_neg h0]
  have h1 : r ≠ [] := fun z => h0 (.inl (by rw [z]; rfl))
  have h2 : 0 < r.length := List.length_pos_iff.mpr h1
  refine ye (xl (qx (nil false (decide_eq_false h1)) (kK (qP (i := 0) (jb rfl) rfl h2) rfl (by omega))) rfl) ?_
  by_cases h5 : r.length < 5
  · rw [if_pos h5]
    exact vaa (xn (xar (yaC r _ _ _ _ _ _ _ _ _) rfl (by omega)) (vu (yF (ds := [.str "stamp", .int 1]) (va rfl (va rfl yb)) rfl (by simp))))
  rw [if_neg h5]
  refine ye (xl (jZ (yaC r _ _ _ _ _ _ _ _ _) rfl (by omega)) rfl) ?_
  by_cases h9 : r.length < 9
  · rw [if_pos h9]
    exact vaa (xn (xar (yaC r _ _ _ _ _ _ _ _ _) rfl (by omega)) (vu (yF (ds := [.str "number", .int 5]) (va rfl (va rfl yb)) rfl (by simp))))
  rw [if_neg h9]
  refine ye (xl (jZ (yaC r _ _ _ _ _ _ _ _ _) rfl (by omega)) rfl) ?_
  have hc := vaA (vs := [3]) (st := zP 3) (a := qa (eC (.int 2)) (ka)) (tt := fun _ => some (.ok true)) (fe := eG xbQ (qa (yE [2] (zP 2) (yj (qa (eC (.int 4)) (ka))) (fun _ => some (.ok true)) (e2 kag (e2 vi (eV 0) (e2 wc (e2 wc (eC (.int 1)) (e2 jt (eC (.int 4)) (eV 3))) (eV 2))) (e2 jt (eC (.int 8)) (eV 2)))) (ka))) (ρ := [.dat (.list (jd r)), .un, .un, .un, .un, .un, .un, .un, .un, .un]) (n := 2) (F := fun k => .int ((LF.jj ((r.drop (1 + 4 * k)).take 4) : Nat) : Int)) rfl (yar (j := 2) rfl (by decide) (by decide)) (by decide) (fun k hk => by
    refine ⟨_, _, rfl, rfl, kdw hr (a := 1 + 4 * k) (by omega) rfl (fun j hj => ⟨_, rfl, rfl, ?_, jb rfl⟩), rfl⟩
    exact ql (ql (i := 1) rfl (yaL (i := 4) rfl (jb rfl) (.inl (by decide)))) (jb rfl))
  have hcat := xbU (fa := zw (qa (e2 vi (eV 0) (eC (.int 0))) (ka))) (zE (ds := [.int (r.getD 0 0 : Nat)]) (va (qP (i := 0) (jb rfl) rfl h2) yb) rfl (by simp)) hc rfl rfl rfl (by simp)
  refine ye (vbU hcat (ρ1 := [.dat (.list (jd r)), .own (jd [r.getD 0 0, LF.jj ((r.drop 1).take 4), LF.jj ((r.drop 5).take 4)]), .un, .un, .un, .un, .un, .un, .un, .un]) rfl) ?_
  refine ye (ρ1 := zM r [r.getD 0 0, LF.jj ((r.drop 1).take 4), LF.jj ((r.drop 5).take 4)] 9 .un .un .un .un .un) (vq (v := .s (.int 9)) rfl rfl rfl) ?_
  generalize hW : DL.Slot.dat (.list [.tuple [.str "track", .int 16], .tuple [.str "ordinal", .int 16777216], .tuple [.str "time", .int 1099511627776], .tuple [.str "span", .int 16777216]]) = W
  have tp : ∀ (w : Str) (i : Int) {ρ : xb}, jn (qa (eC (.str w)) (qa (eC (.int i)) (ka))) ρ = some (.ok (.s (.tuple [.str w, .int i]))) := fun w i ρ => yF (ds := [.str w, .int i]) (va rfl (va rfl yb)) rfl (by simp)
  refine ye (ρ1 := zM r [r.getD 0 0, LF.jj ((r.drop 1).take 4), LF.jj ((r.drop 5).take 4)] 9 W .un .un .un .un) (by rw [← hW]; exact vq (v := .f [.tuple [.str "track", .int 16], .tuple [.str "ordinal", .int 16777216], .tuple [.str "time", .int 1099511627776], .tuple [.str "span", .int 16777216]]) (zE (va (tp _ _) (va (tp _ _) (va (tp _ _) (va (tp _ _) yb)))) rfl (by simp)) rfl rfl) ?_
  have it : xY (eV 5) (zM r [r.getD 0 0, LF.jj ((r.drop 1).take 4), LF.jj ((r.drop 5).take 4)] 9 W .un .un .un .un) = some (.ok [.tuple [.str "track", .int 16], .tuple [.str "ordinal", .int 16777216], .tuple [.str "time", .int 1099511627776], .tuple [.str "span", .int 16777216]]) := by
    rw [← hW]
    exact kdu (jb rfl)
  cases e1 : LF.rd r 9 15 with
  | none => exact vaa (qT it (xbV (ρ1 := zM r _ 9 W (.dat (.str "track")) (.dat (.int 16)) .un .un) rfl (vbM (top := 15) (by omega) hl e1)))
  | some z1 =>
    obtain ⟨zd, a1⟩ := z1
    obtain ⟨b1, b2, b3⟩ := LF.yaS e1
    have n1 := ybM (F := [r.getD 0 0, LF.jj ((r.drop 1).take 4), LF.jj ((r.drop 5).take 4)]) (w := "track") (s2 := .un) (s3 := .un) (s5 := W) (s8 := .un) (s9 := .un) (by omega) hl e1 (by simp)
    dsimp only
    cases e2 : LF.rd r a1 16777215 with
    | none => exact vaa (qT it (vm (ρ1 := zM r _ 9 W (.dat (.str "track")) (.dat (.int 16)) .un .un) rfl n1 (xbV (ρ1 := zM r _ a1 W (.dat (.str "ordinal")) (.dat (.int 16777216)) _ .un) rfl (vbM (top := 16777215) b1 hl e2))))
    | some z2 =>
      obtain ⟨ordinal, a2⟩ := z2
      obtain ⟨c1, c2, c3⟩ := LF.yaS e2
      have n2 := ybM (F := [r.getD 0 0, LF.jj ((r.drop 1).take 4), LF.jj ((r.drop 5).take 4)] ++ [zd]) (w := "ordinal") (s2 := .un) (s3 := .un) (s5 := W) (s8 := .dat (lnD (some (zd, a1)))) (s9 := .un) b1 hl e2 (by simp)
      dsimp only
      cases e3 : LF.rd r a2 1099511627775 with
      | none => exact vaa (qT it (vm (ρ1 := zM r _ 9 W (.dat (.str "track")) (.dat (.int 16)) .un .un) rfl n1 (vm (ρ1 := zM r _ a1 W (.dat (.str "ordinal")) (.dat (.int 16777216)) _ .un) rfl n2 (xbV (ρ1 := zM r _ a2 W (.dat (.str "time")) (.dat (.int 1099511627776)) _ .un) rfl (vbM (top := 1099511627775) c1 hl e3)))))
      | some z3 =>
        obtain ⟨time, a3⟩ := z3
        obtain ⟨t1, t2, t3⟩ := LF.yaS e3
        have n3 := ybM (F := [r.getD 0 0, LF.jj ((r.drop 1).take 4), LF.jj ((r.drop 5).take 4)] ++ [zd] ++ [ordinal]) (w := "time") (s2 := .un) (s3 := .un) (s5 := W) (s8 := .dat (lnD (some (ordinal, a2)))) (s9 := .un) c1 hl e3 (by simp)
        dsimp only
        cases e4 : LF.rd r a3 16777215 with
        | none => exact vaa (qT it (vm (ρ1 := zM r _ 9 W (.dat (.str "track")) (.dat (.int 16)) .un .un) rfl n1 (vm (ρ1 := zM r _ a1 W (.dat (.str "ordinal")) (.dat (.int 16777216)) _ .un) rfl n2 (vm (ρ1 := zM r _ a2 W (.dat (.str "time")) (.dat (.int 1099511627776)) _ .un) rfl n3 (xbV (ρ1 := zM r _ a3 W (.dat (.str "span")) (.dat (.int 16777216)) _ .un) rfl (vbM (top := 16777215) t1 hl e4))))))
        | some z4 =>
          obtain ⟨span, a4⟩ := z4
          obtain ⟨u1, u2, u3⟩ := LF.yaS e4
          have n4 := ybM (F := [r.getD 0 0, LF.jj ((r.drop 1).take 4), LF.jj ((r.drop 5).take 4)] ++ [zd] ++ [ordinal] ++ [time]) (w := "span") (s2 := .un) (s3 := .un) (s5 := W) (s8 := .dat (lnD (some (time, a3)))) (s9 := .un) t1 hl e4 (by simp)
          dsimp only
          refine ye (qT it (vm (ρ1 := zM r _ 9 W (.dat (.str "track")) (.dat (.int 16)) .un .un) rfl n1 (vm (ρ1 := zM r _ a1 W (.dat (.str "ordinal")) (.dat (.int 16777216)) _ .un) rfl n2 (vm (ρ1 := zM r _ a2 W (.dat (.str "time")) (.dat (.int 1099511627776)) _ .un) rfl n3 (vm (ρ1 := zM r _ a3 W (.dat (.str "span")) (.dat (.int 16777216)) _ .un) rfl n4 rfl))))) ?_
          exact jc6 r hr hl zd ordinal time span a4 u1 (by omega) _ _ _ _
theorem vcX (c : Nat) (h1 : 5 ≤ c) (h2 : c ≤ 15) (a dd : Addr) (i : Int) : vZ c a dd [.err a dd i, .un, .un, .un] = some (.retF [.str (wordOf c)]) := by
  rcases (show c = 5 ∨ c = 6 ∨ c = 7 ∨ c = 8 ∨ c = 9 ∨ c = 10 ∨ c = 11 ∨ c = 12 ∨ c = 13 ∨ c = 14 ∨ c = 15 by omega) with rfl | rfl | rfl | rfl | rfl | rfl | rfl | rfl | rfl | rfl | rfl
  all_goals
    unfold vZ
    refine zB (zE (va (waB rfl) (va (waB rfl) (va (waB rfl) (va (waB rfl) yb)))) rfl (by simp)) rfl ?_
    refine zB (xbU (jb rfl) (zE (va (waB rfl) (va (waB rfl) (va (waB rfl) (va (waB rfl) yb)))) rfl (by simp)) rfl rfl rfl (by simp)) rfl ?_
    refine zB (xbU (jb rfl) (zE (va (waB rfl) (va (waB rfl) (va (waB rfl) yb))) rfl (by simp)) rfl rfl rfl (by simp)) rfl ?_
    refine zB (v := .f [.str "kind", .str "stamp", .str "number", .str "track", .str "ordinal", .str "time", .str "span", .str "key", .str "size", .str "body", .str "check"]) rfl rfl ?_
    exact zam rfl
theorem vc6 (c : Nat) (h1 : 5 ≤ c) (h2 : c ≤ 15) (i : Int) : vam c i = some (.retF [.str (wordOf c)]) := by
  unfold vam mkE
  refine jdk fun a dd => ?_
  show (vZ c a dd [.err a dd i, .un, .un, .un]).bind zc8 = _
  rw [vcX c h1 h2 a dd i]
  rfl
theorem wcj {r : List Nat} {c j : Nat} (h : LF.read r = .error (c, j)) : 5 ≤ c ∧ c ≤ 15 := by
  unfold LF.read LF.yaa at h
  repeat' split at h
  all_goals first | (cases h; exact ⟨by decide, by decide⟩) | cases h
theorem vcj (r : List Nat) (hr : ∀ x ∈ r, x < 256) (hl : r.length ≤ 100000) : yal [.list (jd r)] = some (.ret (ybV (LF.read r))) := by
  have q := qb1 r hr hl
  unfold yal za6
  refine vD ?_
  show vaB _ _ [.dat (.list (jd r)), .un, .un] = _
  cases e : LF.read r with
  | ok l =>
    rw [e] at q
    exact wdv (vu (qj (va (jb rfl) yb) rfl rfl q))
  | error z =>
    obtain ⟨c, j⟩ := z
    rw [e] at q
    obtain ⟨h1, h2⟩ := wcj e
    have w := vc6 c h1 h2 (j : Nat)
    refine kcV (vdv (wR (va (jb rfl) yb) rfl rfl q)) ?_
    refine qdx (by rcases (show c = 5 ∨ c = 6 ∨ c = 7 ∨ c = 8 ∨ c = 9 ∨ c = 10 ∨ c = 11 ∨ c = 12 ∨ c = 13 ∨ c = 14 ∨ c = 15 by omega) with rfl | rfl | rfl | rfl | rfl | rfl | rfl | rfl | rfl | rfl | rfl <;> rfl) fun a dd => ?_
    have st : (vb (je 2 (zbe FN.vam 1 a dd c)) (vb (kh (tV (e2 gNe (eG kl (qa (eV 2) (ka))) (eC (.int 1)))) (vh (eC .none)) (ki)) (vh (jn (qa (e2 vi (eV 2) (eC (.int 0))) (qa (eAt 1 a dd) (ka))))))) [.dat (.list (jd r)), .err a dd (j : Nat), .un] = some (.ret (.tuple [.str (wordOf c), .int (j : Nat)])) := by
      refine zB (v := .f [.str (wordOf c)]) (jcT rfl w) rfl ?_
      dsimp only [List.set]
      refine ye (xl (zbM (kcd (es := [.str (wordOf c)]) (jb rfl) rfl) rfl rfl) rfl) ?_
      exact vu (yF (ds := [.str (wordOf c), .int (j : Nat)]) (va (zdv (es := [.str (wordOf c)]) (j := 0) (jb rfl) rfl rfl) (va (qdC rfl) yb)) rfl (by simp))
    exact (congrArg (fun z => z.bind (zcG 1)) st).trans rfl
theorem zdo {α : Type} (xs : List α) : zah xs none (some (-4)) = xs.take (xs.length - 4) := by
  unfold zah
  rw [HT.sIx_none, List.drop_zero, Nat.sub_zero]
  congr 1
  show (if (-4 : Int) < 0 then ((-4 : Int) + (xs.length : Int)).toNat else min (-4 : Int).toNat xs.length) = _
  rw [if_pos (by decide)]
  omega
def jdE (ds : List Int) (R : List Nat) : Prop := kq [.list (ds.map .int)] = some (.retF (jd R)) ∨ kq [.list (ds.map .int)] = some (.ret (.list (jd R)))
theorem ycj (ds : List Int) : ∃ R : List Nat, (∀ x ∈ R, x < 256) ∧ R.length ≤ 5000 ∧ jdE ds R := by
  obtain ⟨l, hl, el⟩ := kct ds 0 (by decide)
  have ew := zb1 hl
  have hw := jcJ hl
  have w1 := qcu hl
  have w19 : 4 < l.qL.length := by
    have := w1.2
    have f2 : (LF.four l.zi).length = 4 := rfl
    have f3 : (LF.four l.number).length = 4 := rfl
    have : 9 ≤ l.fields.length := by
      unfold LF.vo.fields
      simp only [List.length_append, List.length_cons, List.length_nil]
      omega
    omega
  have w20 := w1.1
  generalize l.qL = w at ew hw w1 w19 w20
  have at_ : ∀ (k m : Nat), 0 < m → ∃ n : Nat, n < m ∧ kf [.list (ds.map .int), .int (k : Nat), .int (m : Nat)] = some (.ret (.int (n : Nat))) := fun k m hm => by
    obtain ⟨n, e1, e3⟩ := wZ ds (k : Nat) (m : Nat) (by omega)
    exact ⟨n, by omega, by rw [e1]; exact vb6 ds _ _ (by omega) (by omega)⟩
  obtain ⟨word, wl, eword⟩ := at_ 20 8 (by decide)
  obtain ⟨place, pl, eplace⟩ := at_ 21 w.length (by omega)
  obtain ⟨byte, bl, ebyte⟩ := at_ 22 256 (by decide)
  obtain ⟨P, hP⟩ : ∃ P : DL.Slot → DL.Slot → DL.Slot → DL.Slot → xb, P = fun s1 s3 s5 s6 => [.dat (.list (ds.map .int)), s1, .dat (.int (word : Nat)), s3, .dat (.int (byte : Nat)), s5, s6] := ⟨_, rfl⟩
  have start : ∀ {K : FS} {o : Option Out}, K [.dat (.list (ds.map .int)), .dat (.list (jd w)), .dat (.int (word : Nat)), .dat (.int (place : Nat)), .dat (.int (byte : Nat)), .un, .un] = o → vb (je 1 (kb FN.yZ 1 (qa (kb FN.xav 2 (qa (eV 0) (qa (eC (.int 0)) (ka)))) (ka)))) (vb (je 2 (kb FN.kf 3 (qa (eV 0) (qa (eC (.int 20)) (qa (eC (.int 8)) (ka)))))) (vb (je 3 (kb FN.kf 3 (qa (eV 0) (qa (eC (.int 21)) (qa (eG kl (qa (eV 1) (ka))) (ka)))))) (vb (je 4 (kb FN.kf 3 (qa (eV 0) (qa (eC (.int 22)) (qa (eC (.int 256)) (ka)))))) K))) [.dat (.list (ds.map .int)), .un, .un, .un, .un, .un, .un] = o := fun {K o} h => by
    refine zB (v := .f (jd w)) (zZ (va (qj (va (jb rfl) (va rfl yb)) rfl rfl el) yb) rfl rfl ew) rfl ?_
    refine zB (v := .s (.int (word : Nat))) (qj (va (jb rfl) (va rfl (va rfl yb))) rfl rfl eword) rfl ?_
    refine zB (v := .s (.int (place : Nat))) (qj (es := [.list (ds.map .int), .int (21 : Nat), .int (w.length : Nat)]) (va (jb rfl) (va rfl (va (xt (jb rfl) rfl) yb))) rfl rfl eplace) rfl ?_
    exact zB (v := .s (.int (byte : Nat))) (qj (va (jb rfl) (va rfl (va rfl yb))) rfl rfl ebyte) rfl h
  have tk : ∀ i, ∀ x ∈ w.take i, x < 256 := fun i x hx => hw x (List.mem_of_mem_take hx)
  have dp : ∀ i, ∀ x ∈ w.drop i, x < 256 := fun i x hx => hw x (List.mem_of_mem_drop hx)
  have mapp : ∀ {a b : List Nat}, (∀ x ∈ a, x < 256) → (∀ x ∈ b, x < 256) → ∀ x ∈ a ++ b, x < 256 := fun {a b} h1 h2 x hx => (List.mem_append.mp hx).elim (h1 x) (h2 x)
  have one : ∀ {b : Nat}, b < 256 → ∀ x ∈ [b], x < 256 := fun {b} h x hx => by rw [List.mem_singleton.mp hx]; exact h
  have no : ∀ (v : Nat) {K S : FS} {o : Option Out} {ρ : xb}, word ≠ v → ρ[2]? = some (.dat (.int (word : Nat))) → K ρ = o → vb (kh (tV (e2 qK (eV 2) (eC (.int (v : Nat))))) S (ki)) K ρ = o := fun v {K S o ρ} h hρ hk => ye (xl (war (jb hρ) rfl (by omega)) rfl) hk
  have yes : ∀ (v : Nat) {K S : FS} {ρ : xb} {es : List D}, word = v → ρ[2]? = some (.dat (.int (word : Nat))) → S ρ = some (.retF es) → vb (kh (tV (e2 qK (eV 2) (eC (.int (v : Nat))))) S (ki)) K ρ = some (.retF es) := fun v {K S ρ es} h hρ hk => qdE (xn (waH (jb hρ) rfl (by omega)) hk)
  have fourOf : ∀ (r : List Nat), (∀ x ∈ r, x < 256) → ∀ (s2 s3 s4 s6 : DL.Slot), yE [5] (zP 5) (yj (qa (eC (.int 4)) (ka))) (fun _ => some (.ok true)) (e2 qw (e2 xC (kb FN.zx 1 (qa (eV 1) (ka))) (e2 jt (eC (.int 8)) (eV 5))) (eC (.int 255))) [.dat (.list (ds.map .int)), .dat (.list (jd r)), s2, s3, s4, .un, s6] = some (.ok (.f (jd (LF.four (sumOf r))))) := fun r hr s2 s3 s4 s6 => wcJ rfl fun k => ⟨[.dat (.list (ds.map .int)), .dat (.list (jd r)), s2, s3, s4, .dat (.int (k : Nat)), s6], rfl, qj (va (jb rfl) yb) rfl rfl (kaW r hr), jb rfl⟩
  have waV : ∀ n, ∀ x ∈ LF.four n, x < 256 := fun n x hx => by
    unfold LF.four at hx
    simp at hx
    omega
  by_cases c0 : word = 0
  · refine ⟨w.take place, tk _, by rw [List.length_take]; omega, .inl ?_⟩
    unfold kq jx
    exact qZ (start (yes 0 c0 rfl (zam (waW (jb rfl) (.inl rfl) (jb rfl)))))
  by_cases c1 : word = 1
  · refine ⟨w.take place ++ [byte] ++ w.drop (place + 1), mapp (mapp (tk _) (one bl)) (dp _), by simp only [List.length_append, List.length_take, List.length_drop, List.length_singleton]; omega, .inl ?_⟩
    unfold kq jx
    refine qZ (start (no 0 c0 rfl (yes 1 c1 rfl (zam (qz (qz (waW (jb rfl) (.inl rfl) (jb rfl)) (zE (ds := [.int (byte : Nat)]) (va (jb rfl) yb) rfl (by show 1 ≤ 16777216; decide)) rfl (by rfl) rfl ?_) (vaW (jb rfl) (.inl rfl) (ql (jb rfl) (j := 1) rfl)) rfl rfl rfl ?_)))))
    · simp only [List.length_take, List.length_singleton]; omega
    · simp only [List.length_append, List.length_take, List.length_drop, List.length_singleton]; omega
  by_cases c2 : word = 2
  · refine ⟨w.take place ++ w.drop (place + 1), mapp (tk _) (dp _), by simp only [List.length_append, List.length_take, List.length_drop]; omega, .inl ?_⟩
    unfold kq jx
    refine qZ (start (no 0 c0 rfl (no 1 c1 rfl (yes 2 c2 rfl (zam (qz (waW (jb rfl) (.inl rfl) (jb rfl)) (vaW (jb rfl) (.inl rfl) (ql (jb rfl) (j := 1) rfl)) rfl rfl rfl ?_))))))
    simp only [List.length_take, List.length_drop]; omega
  by_cases c3 : word = 3
  · refine ⟨w.take place ++ [byte] ++ w.drop place, mapp (mapp (tk _) (one bl)) (dp _), by simp only [List.length_append, List.length_take, List.length_drop, List.length_singleton]; omega, .inl ?_⟩
    unfold kq jx
    refine qZ (start (no 0 c0 rfl (no 1 c1 rfl (no 2 c2 rfl (yes 3 c3 rfl (zam (qz (qz (waW (jb rfl) (.inl rfl) (jb rfl)) (zE (ds := [.int (byte : Nat)]) (va (jb rfl) yb) rfl (by show 1 ≤ 16777216; decide)) rfl (by rfl) rfl ?_) (vaW (jb rfl) (.inl rfl) (jb rfl)) rfl rfl rfl ?_)))))))
    · simp only [List.length_take, List.length_singleton]; omega
    · simp only [List.length_append, List.length_take, List.length_drop, List.length_singleton]; omega
  by_cases c4 : word = 4
  · refine ⟨w ++ [byte], mapp hw (one bl), by rw [List.length_append]; show _ + 1 ≤ _; omega, .inl ?_⟩
    unfold kq jx
    refine qZ (start (no 0 c0 rfl (no 1 c1 rfl (no 2 c2 rfl (no 3 c3 rfl (yes 4 c4 rfl (zam (qz (jb rfl) (zE (ds := [.int (byte : Nat)]) (va (jb rfl) yb) rfl (by show 1 ≤ 16777216; decide)) rfl (by rfl) rfl ?_))))))))
    show _ + 1 ≤ _; omega
  by_cases c5 : word = 5
  · obtain ⟨v, vl, ev⟩ := at_ 23 4 (by decide)
    obtain ⟨u, ul, eu⟩ := at_ 24 2 (by decide)
    obtain ⟨y7, hy7, ey7⟩ := wbD byte 7
    obtain ⟨b5, hb5, eb5⟩ : ∃ b5 : Nat, b5 < 256 ∧ atI [PyData.int (byte : Nat), .int 255, .int 128, .int (y7 : Nat)] ((v : Nat) : Int) = some (.int (b5 : Nat)) := by
      rcases (show v = 0 ∨ v = 1 ∨ v = 2 ∨ v = 3 by omega) with rfl | rfl | rfl | rfl
      · exact ⟨byte, bl, rfl⟩
      · exact ⟨255, by decide, rfl⟩
      · exact ⟨128, by decide, rfl⟩
      · exact ⟨y7, by omega, rfl⟩
    generalize hw4 : w.take (w.length - 4) = w4
    have l4 : w4.length = w.length - 4 := by rw [← hw4, List.length_take]; omega
    have b4 : ∀ x ∈ w4, x < 256 := by rw [← hw4]; exact tk _
    obtain ⟨q, hq⟩ : ∃ q : Nat, min (place : Int) ((w4.length - 1 : Nat) : Int) = (q : Nat) := ⟨min place (w4.length - 1), by omega⟩
    generalize hR5 : w4.take q ++ [b5] ++ w4.drop (q + u) = R5
    have b5R : ∀ x ∈ R5, x < 256 := by
      rw [← hR5]
      exact mapp (mapp (fun x hx => b4 x (List.mem_of_mem_take hx)) (one hb5)) fun x hx => b4 x (List.mem_of_mem_drop hx)
    have l5R : R5.length ≤ w.length + 1 := by
      rw [← hR5]
      simp only [List.length_append, List.length_take, List.length_drop, List.length_singleton]
      omega
    refine ⟨R5 ++ LF.four (sumOf R5), mapp b5R (waV _), by rw [List.length_append]; show _ + 4 ≤ _; omega, .inl ?_⟩
    unfold kq jx
    refine qZ (start (no 0 c0 rfl (no 1 c1 rfl (no 2 c2 rfl (no 3 c3 rfl (no 4 c4 rfl (yes 5 c5 rfl ?_)))))))
    refine zB (v := .f (jd w4)) (by
      rw [← hw4]
      have z := jb0 (E := eV 1) (L := wu) (R := zj (e1 kbk (eC (.int 4)))) (ρ := [.dat (.list (ds.map .int)), .dat (.list (jd w)), .dat (.int (word : Nat)), .dat (.int (place : Nat)), .dat (.int (byte : Nat)), .un, .un]) (lo := none) (hi := some (-4)) (xs := jd w) (jb rfl) (.inl rfl) rfl (zbC rfl)
      rw [zdo, xI] at z
      refine z.trans ?_
      unfold jd
      rw [List.map_take]) rfl ?_
    dsimp only [List.set]
    refine zB (v := .s (.int (q : Nat))) (by
      rw [← hq]
      exact xcW (jb rfl) (ybC (xt (jb rfl) rfl) (j := 1) rfl (by omega))) rfl ?_
    dsimp only [List.set]
    refine zB (v := .f (jd R5)) (by
      rw [← hR5]
      refine qz (qz (waW (jb rfl) (.inl rfl) (jb rfl)) (zE (ds := [.int (b5 : Nat)]) (va (v := .s (.int (b5 : Nat))) (qce (es := [.int (byte : Nat), .int 255, .int 128, .int (y7 : Nat)]) (zE (va (jb rfl) (va rfl (va rfl (va (v := .s (.int (y7 : Nat))) (by rw [← ey7]; exact wbC (jb rfl) rfl) yb)))) rfl (by show 4 ≤ 16777216; decide)) (qj (va (jb rfl) (va rfl (va rfl yb))) rfl rfl ev) eb5 rfl) yb) rfl (by show 1 ≤ 16777216; decide)) rfl (by rfl) rfl ?_) (vaW (jb rfl) (.inl rfl) (ql (jb rfl) (qj (va (jb rfl) (va rfl (va rfl yb))) rfl rfl eu))) rfl rfl rfl ?_
      · simp only [List.length_take, List.length_singleton]; omega
      · simp only [List.length_append, List.length_take, List.length_drop, List.length_singleton]; omega) rfl ?_
    dsimp only [List.set]
    exact zam (qz (jb rfl) (fourOf R5 b5R _ _ _ _) rfl rfl rfl (by show _ + 4 ≤ _; omega))
  by_cases c6 : word = 6
  · obtain ⟨k6, k6l, ek6⟩ := at_ 25 6 (by decide)
    have h8 : ∀ j : Nat, ∃ n : Nat, n < 256 ∧ kf [.list (ds.map .int), .int ((26 + j : Nat) : Int), .int 256] = some (.ret (.int (n : Nat))) := fun j => at_ (26 + j) 256 (by decide)
    obtain ⟨f8, hf8⟩ := Classical.axiomOfChoice h8
    have h14 : ∀ j : Nat, ∃ n : Nat, n < 256 ∧ ∃ a c : Nat, kf [.list (ds.map .int), .int ((34 + j : Nat) : Int), .int 17] = some (.ret (.int (a : Nat))) ∧ kf [.list (ds.map .int), .int ((48 + j : Nat) : Int), .int 3] = some (.ret (.int (c : Nat))) ∧ atI [PyData.int (a : Nat), .int 128, .int 255] ((c : Nat) : Int) = some (.int (n : Nat)) := fun j => by
      obtain ⟨a, al, ea⟩ := at_ (34 + j) 17 (by decide)
      obtain ⟨c, cl, ec⟩ := at_ (48 + j) 3 (by decide)
      rcases (show c = 0 ∨ c = 1 ∨ c = 2 by omega) with rfl | rfl | rfl
      · exact ⟨a, by omega, a, 0, ea, ec, rfl⟩
      · exact ⟨128, by decide, a, 1, ea, ec, rfl⟩
      · exact ⟨255, by decide, a, 2, ea, ec, rfl⟩
    obtain ⟨f14, hf14⟩ := Classical.axiomOfChoice h14
    generalize hF6 : [k6] ++ (List.range 8).map f8 = F6
    have bF6 : ∀ x ∈ F6, x < 256 := by
      rw [← hF6]
      refine mapp (one (by omega)) fun x hx => ?_
      obtain ⟨j, _, rfl⟩ := List.mem_map.mp hx
      exact (hf8 j).1
    have lF6 : F6.length = 9 := by rw [← hF6]; simp
    generalize hR6 : F6 ++ (List.range 14).map f14 = R6
    have bR6 : ∀ x ∈ R6, x < 256 := by
      rw [← hR6]
      refine mapp bF6 fun x hx => ?_
      obtain ⟨j, _, rfl⟩ := List.mem_map.mp hx
      exact (hf14 j).1
    have lR6 : R6.length = 23 := by rw [← hR6, List.length_append, lF6]; simp
    refine ⟨R6 ++ LF.four (sumOf R6), mapp bR6 (waV _), by rw [List.length_append]; show _ + 4 ≤ _; omega, .inl ?_⟩
    unfold kq jx
    refine qZ (start (no 0 c0 rfl (no 1 c1 rfl (no 2 c2 rfl (no 3 c3 rfl (no 4 c4 rfl (no 5 c5 rfl (yes 6 c6 rfl ?_))))))))
    have jm : ∀ (f : Nat → Nat) (n : Nat), (List.range n).map (fun j => (PyData.int (f j : Nat) : D)) = jd ((List.range n).map f) := fun f n => by
      unfold jd
      rw [List.map_map]
      rfl
    have g8 := vaA (vs := [5]) (st := zP 5) (a := qa (eC (.int 8)) (ka)) (tt := fun _ => some (.ok true)) (fe := kb FN.kf 3 (qa (eV 0) (qa (e2 wc (eC (.int 26)) (eV 5)) (qa (eC (.int 256)) (ka))))) (ρ := [.dat (.list (ds.map .int)), .dat (.list (jd w)), .dat (.int (word : Nat)), .dat (.int (place : Nat)), .dat (.int (byte : Nat)), .un, .un]) (n := 8) (F := fun j => (PyData.int (f8 j : Nat) : D)) rfl (yar (j := 8) rfl (by decide) (by decide)) (by decide) (fun j hj => ⟨[.dat (.list (ds.map .int)), .dat (.list (jd w)), .dat (.int (word : Nat)), .dat (.int (place : Nat)), .dat (.int (byte : Nat)), .dat (.int (j : Nat)), .un], _, rfl, rfl, qj (va (jb rfl) (va (ql (i := 26) rfl (jb rfl)) (va rfl yb))) rfl rfl (hf8 j).2, rfl⟩)
    rw [jm] at g8
    refine zB (v := .f (jd F6)) (by
      rw [← hF6]
      exact qz (x := [k6]) (zE (ds := [.int (k6 : Nat)]) (va (qj (va (jb rfl) (va rfl (va rfl yb))) rfl rfl ek6) yb) rfl (by show 1 ≤ 16777216; decide)) g8 rfl rfl rfl (by simp)) rfl ?_
    dsimp only [List.set]
    have g14 := vaA (vs := [5]) (st := zP 5) (a := qa (eC (.int 14)) (ka)) (tt := fun _ => some (.ok true)) (fe := e2 vi (zw (qa (kb FN.kf 3 (qa (eV 0) (qa (e2 wc (eC (.int 34)) (eV 5)) (qa (eC (.int 17)) (ka))))) (qa (eC (.int 128)) (qa (eC (.int 255)) (ka))))) (kb FN.kf 3 (qa (eV 0) (qa (e2 wc (eC (.int 48)) (eV 5)) (qa (eC (.int 3)) (ka)))))) (ρ := [.dat (.list (ds.map .int)), .dat (.list (jd w)), .dat (.int (word : Nat)), .dat (.int (place : Nat)), .dat (.int (byte : Nat)), .un, .dat (.list (jd F6))]) (n := 14) (F := fun j => (PyData.int (f14 j : Nat) : D)) rfl (yar (j := 14) rfl (by decide) (by decide)) (by decide) (fun j hj => by
      obtain ⟨h1, a, c, ea, ec, e3⟩ := hf14 j
      exact ⟨[.dat (.list (ds.map .int)), .dat (.list (jd w)), .dat (.int (word : Nat)), .dat (.int (place : Nat)), .dat (.int (byte : Nat)), .dat (.int (j : Nat)), .dat (.list (jd F6))], _, rfl, rfl, qce (es := [.int (a : Nat), .int 128, .int 255]) (zE (va (qj (va (jb rfl) (va (ql (i := 34) rfl (jb rfl)) (va rfl yb))) rfl rfl ea) (va rfl (va rfl yb))) rfl (by show 3 ≤ 16777216; decide)) (qj (va (jb rfl) (va (ql (i := 48) rfl (jb rfl)) (va rfl yb))) rfl rfl ec) e3 rfl, rfl⟩)
    rw [jm] at g14
    refine zB (v := .f (jd R6)) (by
      rw [← hR6]
      exact qz (jb rfl) g14 rfl rfl rfl (by rw [lF6]; simp)) rfl ?_
    dsimp only [List.set]
    exact zam (qz (jb rfl) (fourOf R6 bR6 _ _ _ _) rfl rfl rfl (by rw [lR6]; show 23 + 4 ≤ _; decide))
  · refine ⟨w, hw, by omega, .inr ?_⟩
    unfold kq jx
    exact vD (start (no 0 c0 rfl (no 1 c1 rfl (no 2 c2 rfl (no 3 c3 rfl (no 4 c4 rfl (no 5 c5 rfl (no 6 c6 rfl (vu (jb rfl))))))))))
end FL
namespace FL
open PySem PySem.Spec PyProof.Rows L2 DL FN
open LF (vo)
theorem vcY (c : Nat) (h1 : 5 ≤ c) (h2 : c ≤ 15) (j : Int) : eqD (.tuple [.str (wordOf c), .int j]) (.tuple [.str (wordOf c), .int j]) = some true := kc5 2 (by
  have a : pl true 1 (.str (wordOf c)) = true := by
    rcases (show c = 5 ∨ c = 6 ∨ c = 7 ∨ c = 8 ∨ c = 9 ∨ c = 10 ∨ c = 11 ∨ c = 12 ∨ c = 13 ∨ c = 14 ∨ c = 15 by omega) with rfl | rfl | rfl | rfl | rfl | rfl | rfl | rfl | rfl | rfl | rfl <;> decide +kernel
  show ([.str (wordOf c), .int j] : List D).all (pl true 1) = true
  rw [List.all_cons, a]
  rfl)
theorem vc7 (ns : List Int) (h : ns.length ≤ 63) : FN.xam [DL.scr ns] = some (.ret (.bool true)) := by
  obtain ⟨ds, hd, hlen, he⟩ := wci ns h
  obtain ⟨R, hR, hl, hin⟩ := ycj ds
  have told := vcj R hR (by omega)
  have read := jcj R hR (by omega)
  unfold xam kbD
  refine vD ?_
  show vb _ _ [.dat (DL.scr ns), .un, .un, .un, .un, .un] = _
  refine ye (ρ1 := [.dat (DL.scr ns), .dat (.list (ds.map .int)), .un, .un, .un, .un]) (vq (vc5 (va (jb rfl) yb) rfl rfl he (jbO ds)) rfl rfl) ?_
  have in_ : ∀ {K : FS} {o : Option Out}, K [.dat (DL.scr ns), .dat (.list (ds.map .int)), .dat (.list (jd R)), .un, .un, .un] = o → vb (je 2 (kb FN.kq 1 (qa (eV 1) (ka)))) K [.dat (DL.scr ns), .dat (.list (ds.map .int)), .un, .un, .un, .un] = o := fun {K o} hk => by
    rcases hin with e | e
    · exact zB (v := .f (jd R)) (zZ (va (jb rfl) yb) rfl rfl e) rfl hk
    · exact zB (v := .s (.list (jd R))) (qj (va (jb rfl) yb) rfl rfl e) rfl hk
  refine in_ ?_
  refine zB (v := .f (jd R)) (qci (jb rfl) rfl) rfl ?_
  refine zB (v := .s (ybV (LF.read R))) (qj (va (jb rfl) yb) rfl rfl told) rfl ?_
  refine zB (v := .s (ybV (LF.read R))) (qj (va (jb rfl) yb) rfl rfl read) rfl ?_
  dsimp only [List.set]
  cases e : LF.read R with
  | ok l =>
    obtain ⟨ok, er⟩ := LF.zdp hR e
    refine ye (xl (qx (ych (jah (vda (jb rfl)) rfl)) (qx (jah (qb0 (x := true) (jb rfl) (jb rfl) (wdx l)) rfl) (jah (qb0 (x := true) (jb rfl) (jb rfl) (qa7 _)) rfl))) rfl) ?_
    have w := yb0 ok
    rw [er] at w
    exact vu (xdm (xch (x := false) (b := .s (.int 2)) (jci (es := lfL l) (jb rfl) rfl) rfl rfl) (xch (x := true) (zZ (va (jb rfl) yb) rfl rfl w) (jb rfl) (qa7 _)))
  | error z =>
    obtain ⟨c, j⟩ := z
    obtain ⟨h1, h2⟩ := wcj e
    refine ye (xl (qx (ych (jah (vda (jb rfl)) rfl)) (qx (jah (qb0 (x := true) (jb rfl) (jb rfl) (vcY c h1 h2 _)) rfl) (jah (qb0 (x := true) (jb rfl) (jb rfl) (qa7 _)) rfl))) rfl) ?_
    exact vu (ydm (xch (x := true) (b := .s (.int 2)) (jci (es := [.str (wordOf c), .int (j : Nat)]) (jb rfl) rfl) rfl rfl))
end FL
namespace K05
theorem wc7 (ns : List Int) (h : ns.length ≤ 63) : FN.xam [DL.scr ns] = some (.ret (.bool true)) := FL.vc7 ns h
end K05
open PySem PySem.W PyProof.Rows
set_option maxRecDepth 100000 in
set_option maxHeartbeats 0 in
theorem PySem.Challenge.cw_spoolbox_k05_writings_read_only_so_holds : PySem.Challenge.rw_spoolbox_k05_writings_read_only_so.Holds := by
  w_on; o_law; k_head; (case hw => w_witness2)
  k_fill
  refine L2.walk_of (l := PySem.Challenge.rw_spoolbox_k05_writings_read_only_so) (n := 63) (k := 9) (x := "script") (CX := fun w => L2.CX PySem.Challenge.rw_spoolbox_k05_writings_read_only_so.prog w) (sp := fun w => DL.wcI _) rfl (by decide) rfl ⟨rfl, by decide, by decide⟩ (fun w h Y => PySem.W.kIn_of Y) ?F (fun _ _ a ns hl _ hS => ⟨a, ns, rfl, hS, hl, fun _ => rfl⟩) (fun _ _ _ _ _ h => DL.zdm h)
  case F =>
    intro w mg fa h KX G hmg
    refine' K05.all_mk KX G hmg K05.wc7 ?a0 ?l0 ?c0 ?k0 ?a1 ?l1 ?c1 ?k1 ?a2 ?l2 ?c2 ?k2 ?a3 ?l3 ?c3 ?k3 ?a4 ?l4 ?c4 ?k4 ?a5 ?l5 ?c5 ?k5 ?a6 ?l6 ?c6 ?k6 ?a7 ?l7 ?c7 ?k7 ?a8 ?l8 ?c8 ?k8 ?a9 ?l9 ?c9 ?k9 ?a10 ?l10 ?c10 ?k10 ?a11 ?l11 ?c11 ?k11 ?a12 ?l12 ?c12 ?k12 ?a13 ?l13 ?c13 ?k13 ?a14 ?l14 ?c14 ?k14 ?a15 ?l15 ?c15 ?k15 ?a16 ?l16 ?c16 ?k16 ?a17 ?l17 ?c17 ?k17 ?a18 ?l18 ?c18 ?k18 ?a19 ?l19 ?c19 ?k19 ?a20 ?l20 ?c20 ?k20 ?a21 ?l21 ?c21 ?k21 ?a22 ?l22 ?c22 ?k22 ?a23 ?l23 ?c23 ?k23 ?a24 ?l24 ?c24 ?k24 ?a25 ?l25 ?c25 ?k25 ?a26 ?l26 ?c26 ?k26 ?qt ?xbM ?zt ?zbW ?zay ?qm ?kbM ?vaV ?zaw ?zbE ?xcJ ?qb2 ?jaX ?waX ?wa7 ?waN ?qbm ?zbm ?jbm ?qbS ?zbS ?jbE ?wbm ?lI ?cI ?kI ?tI ?xaS ?vbm ?ybm ?xbm ?xas ?kbm ?qbn ?kaS ?zbn ?zaD ?jaD ?waD ?xaJ ?va7 ?ya7 ?xa7 ?wag ?ka7 ?qa8 ?kaJ ?za8 ?jaw ?waw ?vaw ?vaD ?vaX ?yaX ?xaX ?q0 ?kaX ?qaY ?yaD ?zaY ?kam ?qan ?zan ?xaD ?jaY ?waY ?vaY ?z0 ?yaY ?xaY ?kaD ?kaY ?jan ?wan ?van ?jay ?vaN ?yaN ?xaN ?yR ?kaN ?qaO ?vay ?zaO ?vaf ?yaf ?xaf ?kas ?xaH ?kaH ?qaI ?wL ?zaI ?jaI ?qat ?waI ?j0 ?y0 ?j1 ?qaK ?ja8 ?wa8 ?va8 ?vag ?ya8 ?xa8 ?zaK ?ka8 ?yaw ?xaw ?kaw ?yay ?jaO ?waO ?vaO ?xR ?yaO ?xaO ?xay ?kaO ?kaf ?qag ?zag ?qaT ?jbn ?wbn ?vbn ?zat ?ybn ?xbn ?zaT ?kbn ?qaE ?zaE ?jaE ?jaT ?qbo ?zbo ?jbo ?jat ?wbo ?vbo ?waT ?ybo ?waE ?vaE ?yaE ?vaT ?xbo ?kbo ?qbp ?wat ?zbp ?jbp ?yaT ?wbp ?xaE ?kaE ?qaF ?zaF ?qaZ ?zaZ ?jaZ ?y1 ?waZ ?vaZ ?jaF ?yaZ ?yan ?xan ?kan ?ja6 ?wbE ?vbE ?ybE ?qaB ?xbE ?kbE ?wa6 ?qbF ?zaM ?jaM ?waM ?jaK ?qa9 ?za9 ?ja9 ?yag ?wa9 ?va9 ?waK ?ya9 ?qax ?zax ?jax ?jaA ?yn ?yt ?xaZ ?kaZ ?vaI ?yaI ?qaP ?zaP ?xa9 ?ka9 ?qa0 ?za0 ?vbp ?ybp ?zbF ?jbF ?xbp ?kbp ?qbq ?zbq ?jaP ?waP ?qba ?zba ?ja0 ?wa0 ?jba ?wba ?jbq ?wbq ?qU ?jP ?wM ?vM ?jJ ?jH ?vP ?yM ?wJ ?vJ ?wH ?xM ?yP ?kM ?qN ?xG ?yJ ?vH ?xJ ?zN ?yH ?zF ?qH ?kaa ?j3 ?wah ?qao ?vah ?yah ?zU ?qab ?v3 ?zab ?xah ?y3 ?xP ?jU ?j4 ?wU ?jab ?kah ?wab ?vab ?kP ?y4 ?vU ?q5 ?yab ?yU ?jN ?qQ ?xab ?z5 ?qai ?zao ?zai ?jai ?xU ?kab ?j5 ?qac ?wai ?v5 ?zQ ?kU ?vai ?zac ?jao ?jau ?wao ?vao ?y5 ?yai ?jac ?xai ?yao ?wac ?qV ?z6 ?xao ?kai ?wau ?waA ?vau ?yau ?vac ?kao ?qaj ?qap ?xau ?zaj ?j6 ?yac ?jaj ?xac ?zap ?kau ?jap ?wap ?w6 ?waj ?kac ?vaj ?vap ?qad ?zV ?y6 ?yaj ?zad ?yap ?qav ?xap ?kap ?q7 ?xaj ?jad ?kaj ?qaq ?wad ?jV ?z7 ?wV ?jQ ?j7 ?vad ?w7 ?v7 ?wN ?vV ?wQ ?yV ?z8 ?vQ ?kJ ?vN ?yad ?j8 ?qak ?zaq ?zak ?jak ?xV ?xad ?w8 ?kad ?wak ?v8 ?yQ ?qW ?y8 ?zW ?qae ?vak ?zae ?jae ?xQ ?z9 ?jW ?j9 ?wae ?wW ?yN ?kQ ?yak ?vae ?jaq ?zav ?waq ?vaq ?w9 ?xak ?yae ?kak ?yaq ?xae ?vW ?v9
    (case xaS | xaJ | vaD | xaD | jay | kas | qaK | yay | qaT | jaT | vaT | zaF | ja6 | jaK | jaA | zbn | za8 | zaY | kaY | zaO | waI | ka8 | kaO | kbn | ybo | wbp | yaZ | qbF | ya9 | vbm | va7 | vaX | jaY | vaN | xaH | ja8 | jaO | jbn | qbo | xbo | qaZ | wbE | qa9 => k_is)
    (case ybm | ya7 | yaX | waY | yaN | kaH | wa8 | waO | wbn | zbo | kbo | zaZ | vbE | za9 => decide +kernel)
    (case a0 | l0 | c0 | k0 | a1 | l1 | c1 | k1 | a2 | l2 | c2 | k2 | a3 | l3 | c3 | k3 | a4 | l4 | c4 | k4 | a5 | l5 | c5 | k5 | a6 | l6 | c6 | k6 | a7 | l7 | c7 | k7 | a8 | l8 | c8 | k8 | a9 | l9 | c9 | k9 | a10 | l10 | c10 | k10 | a11 | l11 | c11 | k11 | a12 | l12 | c12 | k12 | a13 | l13 | c13 | k13 | a14 | l14 | c14 | k14 | a15 | l15 | c15 | k15 | a16 | l16 | c16 | k16 | a17 | l17 | c17 | k17 | a18 | l18 | c18 | k18 | a19 | l19 | c19 | k19 | a20 | l20 | c20 | k20 | a21 | l21 | c21 | k21 | a22 | l22 | c22 | k22 | a23 | l23 | c23 | k23 | a24 | l24 | c24 | k24 | a25 | l25 | c25 | k25 | a26 | l26 | c26 | k26 | qt | xbM | zt | zbW | zay | qm | kbM | vaV | zaw | zbE | xcJ | qb2 | jaX | waX | wa7 | waN | qbm | zbm | jbm | qbS | zbS | jbE | wbm | lI | cI | kI | tI | xbm | xas | kbm | qbn | kaS | zaD | jaD | waD | xa7 | wag | ka7 | qa8 | kaJ | jaw | waw | vaw | xaX | q0 | kaX | qaY | yaD | kam | qan | zan | vaY | z0 | yaY | xaY | kaD | jan | wan | van | xaN | yR | kaN | qaO | vay | vaf | yaf | xaf | qaI | wL | zaI | jaI | qat | j0 | y0 | j1 | va8 | vag | ya8 | xa8 | zaK | yaw | xaw | kaw | vaO | xR | yaO | xaO | xay | kaf | qag | zag | vbn | zat | ybn | xbn | zaT | qaE | zaE | jaE | jbo | jat | wbo | vbo | waT | waE | vaE | yaE | qbp | wat | zbp | jbp | yaT | xaE | kaE | qaF | jaZ | y1 | waZ | vaZ | jaF | yan | xan | kan | ybE | qaB | xbE | kbE | wa6 | zaM | jaM | waM | ja9 | yag | wa9 | va9 | waK | qax | zax | jax | yn | yt | xaZ | kaZ | vaI | yaI | qaP | zaP | xa9 | ka9 | qa0 | za0 | vbp | ybp | zbF | jbF | xbp | kbp | qbq | zbq | jaP | waP | qba | zba | ja0 | wa0 | jba | wba | jbq | wbq => k_is)
    (case qU | jP | wM | vM | jJ | jH | vP | yM | wJ | vJ | wH | xM | yP | kM | qN | xG | yJ | vH | xJ | zN | yH | zF | qH => kts_exm)
    (case kaa | j3 | wah | qao | vah | yah | zU | qab | v3 | zab | xah | y3 | xP | jU | j4 | wU | jab | kah | wab | vab | kP | y4 | vU | q5 | yab | yU | jN | qQ | xab | z5 | qai | zao | zai | jai | xU | kab | j5 | qac | wai | v5 | zQ | kU | vai | zac | jao | jau | wao | vao | y5 | yai | jac | xai | yao | wac | qV | z6 | xao | kai | wau | waA | vau | yau | vac | kao | qaj | qap | xau | zaj | j6 | yac | jaj | xac | zap | kau | jap | wap | w6 | waj | kac | vaj | vap | qad | zV | y6 | yaj | zad | yap | qav | xap | kap | q7 | xaj | jad | kaj | qaq | wad | jV | z7 | wV | jQ | j7 | vad | w7 | v7 | wN | vV | wQ | yV | z8 | vQ | kJ | vN | yad | j8 | qak | zaq | zak | jak | xV | xad | w8 | kad | wak | v8 | yQ | qW | y8 | zW | qae | vak | zae | jae | xQ | z9 | jW | j9 | wae | wW | yN | kQ | yak | vae | jaq | zav | waq | vaq | w9 | xak | yae | kak | yaq | xae | vW | v9 => kit_is)
