import PyProof.Rows.All
import Wide.All
import OpenK.AllK
import Wide.FinOn
import PyProof.EqAt
import PyProof.EqKinds
import PyProof.TupleCall
import HandS.ForMost
import HandS.ForExc
import HandS.ExcInit
import HandS.TryMany
import HandS.Flow
import HandS.Lambda
import HandS.TupSets
import HandS.Star
import HandS.Conv
import HandS.IsInst
import HandS.ExcField
import HandS.ExcIs
import KE.KExcIs
import KE.KTryMore
import KE.GoesEnum
import KE.GoesMore
import HandS.Iter
import HandS.Text
import HandS.Style
import HandS.Deep
import KE.SortData
import KE.DataCmp
import PyProof.ReprRoads
import PyProof.ReprLen
import PyProof.StrBlock2
import PyProof.Rows.StrMul
import KE.GoesEnumKw
import PyProof.Rows.CallKw2
import KE.DatumOrd
import HandS.SortKw
import KE.SortKeyHeap
import HandS.EndTab
import HandS.SuiteRaise
import HandS.ExcInitHot
import PyProof.SetRoads
import HandS.CallSlots
import HandS.Defaults
import HandS.ForDict
import PyProof.AssignAttr
import HandS.SetFor
import HandS.Strs
import HandS.WideBits
import PySem.Challenge.RW_spoolbox_k45_rolls_and_gaps
set_option Elab.async false
set_option linter.all false
set_option maxRecDepth 100000
set_option maxHeartbeats 4000000
namespace DL
open PySem PySem.Spec PyProof.Rows L2

abbrev D := PyData
abbrev St := L2.St

@[simp] def ntb : HO → Bool
  | .tbl _ => false
  | _ => true
def SameD (H H' : Hp) : Prop := ∀ b o, H b = some o → ntb o = true → H' b = some o
def LQ : List (Nat × Str) := [(1000, "in_order" ++ ".<locals>." ++ "<lambda>"), (1001, "witness" ++ ".<locals>." ++ "<lambda>"), (1002, "file_of" ++ ".<locals>." ++ "<lambda>"), (1003, "rebuilt" ++ ".<locals>." ++ "<lambda>")]
def TBl (Cl : Nat → Addr) (H : Hp) : Prop := ∀ p ∈ LQ, Cl p.1 ≠ 0 → LamX.TabS H (Cl p.1) p.2
def NoT (Cl : Nat → Addr) : Prop := Cl 1000 = 0 ∧ Cl 1001 = 0 ∧ Cl 1002 = 0 ∧ Cl 1003 = 0
theorem TBl.none {Cl : Nat → Addr} (h : NoT Cl) (H : Hp) : TBl Cl H := fun p hp n => by
  obtain ⟨h0, h1, h2, h3⟩ := h
  simp only [LQ, List.mem_cons, List.not_mem_nil, or_false] at hp
  rcases hp with rfl | rfl | rfl | rfl
  · exact absurd h0 n
  · exact absurd h1 n
  · exact absurd h2 n
  · exact absurd h3 n
structure Same (Cl : Nat → Addr) (H H' : Hp) : Prop where
  d : SameD H H'
  tb : TBl Cl H → TBl Cl H'
  live : ∀ b, H b ≠ none → H' b ≠ none
section
variable {Cl : Nat → Addr}
theorem SameD.refl (H : Hp) : SameD H H := fun _ _ h _ => h
theorem SameD.trans {H H1 H2 : Hp} (a : SameD H H1) (b : SameD H1 H2) : SameD H H2 := fun c o h n => b c o (a c o h n) n
theorem Same.refl (H : Hp) : Same Cl H H := ⟨.refl H, fun h => h, fun _ h => h⟩
theorem Same.trans {H H1 H2 : Hp} (a : Same Cl H H1) (b : Same Cl H1 H2) : Same Cl H H2 := ⟨a.d.trans b.d, fun h => b.tb (a.tb h), fun c h => b.live c (a.live c h)⟩
theorem Same.of {H H' : Hp} (e : ∀ b o, H b = some o → H' b = some o) : Same Cl H H' := ⟨fun b o h _ => e b o h, fun t p hp n => (t p hp n).ext e, fun b h z => by
  cases q : H b with
  | none => exact h q
  | some o => rw [e b o q] at z; cases z⟩
theorem Same.at {H H' : Hp} (s : Same Cl H H') {b : Addr} {o : HO} (h : H b = some o) (n : ntb o = true := by rfl) : H' b = some o := s.d b o h n
theorem Same.free {H H' : Hp} (s : Same Cl H H') {l : Addr} (h : H' l = Option.none) : H l = Option.none := by
  cases q : H l with
  | none => rfl
  | some o => exact absurd h (s.live l (by rw [q]; intro z; cases z))
theorem SameD.seq {K : PySem.W.Frag} {H H' : Hp} {a : Addr} {xs : List V} (e : SameD H H') (h : SqL K H a xs) : SqL K H' a xs := by
  rcases h with (h | ⟨o, h⟩) | h
  · exact .inl (.inl (e _ _ h rfl))
  · exact .inl (.inr ⟨o, e _ _ h rfl⟩)
  · exact .inr h
theorem Same.seq {K : PySem.W.Frag} {H H' : Hp} {a : Addr} {xs : List V} (e : Same Cl H H') (h : SqL K H a xs) : SqL K H' a xs := e.d.seq h
end
open Classical in
noncomputable def hide (H : Hp) (Z : Addr → Prop) : Hp := fun b => if Z b then none else H b
theorem hide_of {H : Hp} {Z : Addr → Prop} {b : Addr} {o : HO} (h : hide H Z b = some o) : ¬ Z b ∧ H b = some o := by
  unfold hide at h
  split at h
  · cases h
  · rename_i n
    exact ⟨n, h⟩
theorem hide_at {H : Hp} {Z : Addr → Prop} {b : Addr} {o : HO} (n : ¬ Z b) (h : H b = some o) : hide H Z b = some o := by
  unfold hide
  rw [if_neg n]
  exact h
theorem hide_monoD {H H' : Hp} {Z Z' : Addr → Prop} (s : SameD H H') (z : ∀ b, Z' b → Z b ∨ H b = none) : SameD (hide H Z) (hide H' Z') := fun b o h nt => by
  obtain ⟨n, e⟩ := hide_of h
  refine hide_at (fun q => ?_) (s b o e nt)
  rcases z b q with z1 | z1
  · exact n z1
  · rw [e] at z1; cases z1
theorem hide_mono {Cl : Nat → Addr} {H H' : Hp} {Z Z' : Addr → Prop} (s : Same Cl H H') (z : ∀ b, Z' b → Z b ∨ H b = none) : SameD (hide H Z) (hide H' Z') := hide_monoD s.d z
theorem hide_sub {H : Hp} {Z : Addr → Prop} : SameD (hide H Z) H := fun b o h _ => (hide_of h).2

theorem Rd.same {H H' : Hp} {a : Addr} {u : HO} (s : SameD H H') (h : Rd H a u) (n : ntb u = true := by rfl) : Rd H' a u := by
  rcases h with h | ⟨o, h⟩
  · exact .inl (s _ _ h n)
  · exact .inr ⟨o, s _ _ h rfl⟩
theorem SqT.same {K : PySem.W.Frag} {H H' : Hp} {a : Addr} {xs : List V} (s : SameD H H') (h : SqT K H a xs) : SqT K H' a xs := by
  rcases h with (h | ⟨o, h⟩) | h
  · exact .inl (.inl (s _ _ h rfl))
  · exact .inl (.inr ⟨o, s _ _ h rfl⟩)
  · exact .inr h
abbrev scr (ns : List Int) : D := .dict (ns.map fun n => (.int n, .none))
abbrev excD (C : Addr) (i : Int) : D := .dict [(.str "at", .int i), (.int (C : Nat), .none)]
def excL : List (D × D) → Bool
  | (.str _, _) :: _ => true
  | _ => false
@[simp] def excV : D → Bool
  | .dict ks => excL ks
  | _ => false
@[simp] theorem excL_scr (ns : List Int) : excL (ns.map fun n => ((.int n, .none) : D × D)) = false := by cases ns <;> rfl
mutual
inductive Dp (K : PySem.W.Frag) (H : Hp) : V → D → Prop
  | non : Dp K H .non .none
  | bl (b : Bool) : Dp K H (.bl b) (.bool b)
  | int (i : Int) : Dp K H (.int i) (.int i)
  | str (x : Str) : Dp K H (.str x) (.str x)
  | lst {a : Addr} {xs : List V} {ds : List D} : Rd H a (.lst xs) → DpAll K H xs ds → Dp K H (.ref a) (.list ds)
  | tup {a : Addr} {xs : List V} {ds : List D} : SqT K H a xs → DpAll K H xs ds → Dp K H (.ref a) (.tuple ds)
  | scr {a : Addr} {ns : List Int} : SqL K H a (ns.map V.int) → Dp K H (.ref a) (.dict (ns.map fun n => (.int n, .none)))
  | exc {a dd C : Addr} {i : Int} : H a = some (exo a C (some dd)) → H dd = some (exd dd [("at", .int i)]) → Dp K H (.ref a) (.dict [(.str "at", .int i), (.int (C : Nat), .none)])
inductive DpAll (K : PySem.W.Frag) (H : Hp) : List V → List D → Prop
  | nil : DpAll K H [] []
  | cons {v : V} {vs : List V} {d : D} {ds : List D} : Dp K H v d → DpAll K H vs ds → DpAll K H (v :: vs) (d :: ds)
end
mutual
theorem Dp.up {K : PySem.W.Frag} {H : Hp} : ∀ {v : V} {d : D}, d.canLay0 = true → Dp K H v d → L2.Dp K H v d
  | _, _, _, .non => .non
  | _, _, _, .bl b => .bl b
  | _, _, _, .int i => .int i
  | _, _, _, .str x => .str x
  | _, _, c, .lst h t => .lst (.inl h) (DpAll.up c t)
  | _, _, c, .tup h t => .tup h (DpAll.up c t)
  | _, _, c, .scr h => nomatch c
  | _, _, c, .exc _ _ => nomatch c
theorem DpAll.up {K : PySem.W.Frag} {H : Hp} : ∀ {vs : List V} {ds : List D}, PyData.canLayAll0 ds = true → DpAll K H vs ds → L2.DpAll K H vs ds
  | _, _, _, .nil => .nil
  | _, _, c, .cons h t => by
    have c' := Bool.and_eq_true_iff.mp c
    exact .cons (Dp.up c'.1 h) (DpAll.up c'.2 t)
end
mutual
theorem Dp.same {K : PySem.W.Frag} {H H' : Hp} (s : SameD H H') : ∀ {v : V} {d : D}, Dp K H v d → Dp K H' v d
  | _, _, .non => .non
  | _, _, .bl b => .bl b
  | _, _, .int i => .int i
  | _, _, .str x => .str x
  | _, _, .lst h t => .lst (Rd.same s h) (DpAll.same s t)
  | _, _, .tup h t => .tup (SqT.same s h) (DpAll.same s t)
  | _, _, .scr h => .scr (s.seq h)
  | _, _, .exc h1 h2 => .exc (s _ _ h1 rfl) (s _ _ h2 rfl)
theorem DpAll.same {K : PySem.W.Frag} {H H' : Hp} (s : SameD H H') : ∀ {vs : List V} {ds : List D}, DpAll K H vs ds → DpAll K H' vs ds
  | _, _, .nil => .nil
  | _, _, .cons h t => .cons (Dp.same s h) (DpAll.same s t)
end
section
variable {K : PySem.W.Frag} {H : Hp}
theorem DpAll.length : ∀ {vs : List V} {ds : List D}, DpAll K H vs ds → vs.length = ds.length
  | _, _, .nil => rfl
  | _, _, .cons _ t => by rw [List.length_cons, List.length_cons, DpAll.length t]
theorem DpAll.get : ∀ {vs : List V} {ds : List D} {i : Nat} {d : D}, DpAll K H vs ds → ds[i]? = some d → ∃ v, vs[i]? = some v ∧ Dp K H v d
  | _, _, _, _, .nil, e => by simp at e
  | _, _, 0, _, .cons h _, e => by simp at e; subst e; exact ⟨_, rfl, h⟩
  | _, _, i + 1, d, .cons _ t, e => by
    obtain ⟨u, h1, h2⟩ := DpAll.get (i := i) (d := d) t (by simpa using e)
    exact ⟨u, by simpa using h1, h2⟩
theorem DpAll.get' : ∀ {vs : List V} {ds : List D} {i : Nat} {v : V}, DpAll K H vs ds → vs[i]? = some v → ∃ d, ds[i]? = some d ∧ Dp K H v d
  | _, _, _, _, .nil, e => by simp at e
  | _, _, 0, _, .cons h _, e => by simp at e; subst e; exact ⟨_, rfl, h⟩
  | _, _, i + 1, v, .cons _ t, e => by
    obtain ⟨u, h1, h2⟩ := DpAll.get' (i := i) (v := v) t (by simpa using e)
    exact ⟨u, by simpa using h1, h2⟩
theorem DpAll.append : ∀ {xs ys : List V} {ds es : List D}, DpAll K H xs ds → DpAll K H ys es → DpAll K H (xs ++ ys) (ds ++ es)
  | _, _, _, _, .nil, s => s
  | _, _, _, _, .cons r t, s => .cons r (DpAll.append t s)
theorem DpAll.take : ∀ {xs : List V} {ds : List D} (n : Nat), DpAll K H xs ds → DpAll K H (xs.take n) (ds.take n)
  | _, _, 0, _ => .nil
  | _, _, _ + 1, .nil => .nil
  | _, _, n + 1, .cons r t => .cons r (DpAll.take n t)
theorem DpAll.drop : ∀ {xs : List V} {ds : List D} (n : Nat), DpAll K H xs ds → DpAll K H (xs.drop n) (ds.drop n)
  | _, _, 0, r => r
  | _, _, _ + 1, .nil => .nil
  | _, _, n + 1, .cons _ t => DpAll.drop n t
theorem DpAll.set {x : V} {d : D} (r : Dp K H x d) : ∀ {xs : List V} {ds : List D} (i : Nat), DpAll K H xs ds → DpAll K H (xs.set i x) (ds.set i d)
  | _, _, _, .nil => .nil
  | _, _, 0, .cons _ t => .cons r t
  | _, _, i + 1, .cons q t => .cons q (DpAll.set r i t)
theorem DpAll.dropLast {xs : List V} {ds : List D} (h : DpAll K H xs ds) : DpAll K H xs.dropLast ds.dropLast := by
  rw [List.dropLast_eq_take, List.dropLast_eq_take, DpAll.length h]
  exact DpAll.take _ h
theorem Dp.int_inv {v : V} {i : Int} (h : Dp K H v (.int i)) : v = .int i := by cases h; rfl
theorem Dp.str_inv {v : V} {x : Str} (h : Dp K H v (.str x)) : v = .str x := by cases h; rfl
theorem Dp.bl_inv {v : V} {b : Bool} (h : Dp K H v (.bool b)) : v = .bl b := by cases h; rfl
theorem Dp.non_inv {v : V} (h : Dp K H v .none) : v = .non := by cases h; rfl
theorem Dp.lst_inv {v : V} {ds : List D} (h : Dp K H v (.list ds)) : ∃ a xs, v = .ref a ∧ Rd H a (.lst xs) ∧ DpAll K H xs ds := by
  cases h with
  | lst h t => exact ⟨_, _, rfl, h, t⟩
theorem Dp.tup_inv {v : V} {ds : List D} (h : Dp K H v (.tuple ds)) : ∃ a xs, v = .ref a ∧ SqT K H a xs ∧ DpAll K H xs ds := by
  cases h with
  | tup h t => exact ⟨_, _, rfl, h, t⟩
theorem DpAll.ints : ∀ {vs : List V} {ns : List Int}, DpAll K H vs (ns.map PyData.int) → vs = ns.map V.int
  | _, [], h => by cases h; rfl
  | _, n :: ns, h => by
    cases h with
    | cons a b =>
      rw [Dp.int_inv a, DpAll.ints b]
      rfl
theorem DpAll.of_ints : ∀ (ns : List Int), DpAll K H (ns.map V.int) (ns.map PyData.int)
  | [] => .nil
  | n :: ns => .cons (.int n) (DpAll.of_ints ns)
end
@[simp] def scalarD : D → Bool
  | .none => true | .bool _ => true | .int _ => true | .str _ => true
  | _ => false
theorem Dp.scalar {K : PySem.W.Frag} {H H' : Hp} {v : V} {d : D} (s : scalarD d = true) (h : Dp K H v d) : Dp K H' v d := by
  cases h with
  | non => exact .non
  | bl b => exact .bl b
  | int i => exact .int i
  | str x => exact .str x
  | lst _ _ => cases s
  | tup _ _ => cases s
  | scr _ => cases s
  | exc _ _ => cases s
theorem DpAll.scalar {K : PySem.W.Frag} {H H' : Hp} : ∀ {vs : List V} {ds : List D}, ds.all scalarD = true → DpAll K H vs ds → DpAll K H' vs ds
  | _, _, _, .nil => .nil
  | _, _, s, .cons h t => by
    rw [List.all_cons, Bool.and_eq_true] at s
    exact .cons (Dp.scalar s.1 h) (DpAll.scalar s.2 t)

inductive Cell where
  | set (ks : List (List Int)) | lst (ds : List D)
def flB (Cl : Nat → Addr) : Bool := Cl 2000 == 0
def SetDO (b : Bool) (a : Addr) (L : List (Addr × List Int)) : HO := .ext fun h => (∃ o es ep t, h.get? a = some o ∧ o.data = .set es ep t) ∧ ∀ (P : Program) (w : World), w.params.followText "set-order" = b → SetT0 P w h a L
def CellOk (K : PySem.W.Frag) (Cl : Nat → Addr) (Hs : Hp) (a : Addr) (u : HO) : Cell → Prop
  | .set ks => ∃ L, u = SetDO (flB Cl) a L ∧ (∀ p ∈ L, SqT K Hs p.1 (p.2.map V.int)) ∧ (∀ k, k ∈ L.map (·.2) ↔ k ∈ ks) ∧ L.length ≤ ks.length
  | .lst ds => ∃ xs, u = .lst xs ∧ DpAll K Hs xs ds
theorem CellOk.same {K : PySem.W.Frag} {Cl : Nat → Addr} {Hs Hs' : Hp} {a : Addr} {u : HO} {c : Cell} (s : SameD Hs Hs') (h : CellOk K Cl Hs a u c) : CellOk K Cl Hs' a u c := by
  cases c with
  | set ks =>
    obtain ⟨L, h1, h2, h3⟩ := h
    exact ⟨L, h1, fun p hp => SqT.same s (h2 p hp), h3⟩
  | lst ds =>
    obtain ⟨xs, h1, h2⟩ := h
    exact ⟨xs, h1, DpAll.same s h2⟩
theorem setDO_code (b : Bool) (a : Addr) (L : List (Addr × List Int)) (q : Str) : SetDO b a L ≠ LamX.CodeO a q := fun z => by
  unfold SetDO LamX.CodeO at z
  have e := HO.ext.inj z
  have hg : (⟨Array.replicate (a + 1) { cls := .none, dict := none, data := .fields #[.none, .str q 0] }, {}⟩ : Heap).get? a = some { cls := .none, dict := none, data := .fields #[.none, .str q 0] } := by
    unfold Heap.get?
    dsimp only
    rw [Array.getElem?_replicate, if_pos (Nat.lt_succ_self a)]
  have k := cast (congrFun e _).symm ⟨_, _, _, hg, rfl, rfl⟩
  obtain ⟨⟨o, es, ep, t, h1, h2⟩, _⟩ := k
  rw [hg] at h1
  cases h1
  cases h2
theorem CellOk.nt {K : PySem.W.Frag} {Cl : Nat → Addr} {Hs : Hp} {a : Addr} {u : HO} {c : Cell} (h : CellOk K Cl Hs a u c) : (∀ ps, u ≠ .tbl ps) ∧ ∀ q, u ≠ LamX.CodeO a q := by
  cases c with
  | set ks =>
    obtain ⟨L, rfl, h2, h3⟩ := h
    exact ⟨fun ps z => (by unfold SetDO at z; cases z), fun q => setDO_code (flB Cl) a L q⟩
  | lst ds =>
    obtain ⟨xs, rfl, h2⟩ := h
    exact ⟨fun ps z => (by cases z), fun q z => (by unfold LamX.CodeO at z; cases z)⟩
theorem CellOk.ntb {K : PySem.W.Frag} {Cl : Nat → Addr} {Hs : Hp} {a : Addr} {u : HO} {c : Cell} (h : CellOk K Cl Hs a u c) : ntb u = true := by
  have n := h.nt.1
  cases u <;> first | rfl | exact absurd rfl (n _)
theorem Same.cel {Cl : Nat → Addr} {K : PySem.W.Frag} {H H' Hs : Hp} {a : Addr} {u : HO} {c : Cell} (s : Same Cl H H') (h : CellOk K Cl Hs a u c) (e : H a = some u) : H' a = some u := s.d a u e h.ntb
def fldN : Nat → List Str
  | 3000 => ["size", "piece", "total", "number", "kind", "stamp", "ticks", "skip", "rows", "tags", "spots", "named"]
  | 3001 => ["walk", "found", "contents", "stuck"]
  | _ => []
inductive OF where
  | dat (d : D) | dic (ps : List (Int × D))
inductive DicOk (K : PySem.W.Frag) (Hs : Hp) : List (Key × V) → List (Int × D) → Prop
  | nil : DicOk K Hs [] []
  | cons {k : Int} {v : V} {d : D} {kvs : List (Key × V)} {ps : List (Int × D)} : Dp K Hs v d → DicOk K Hs kvs ps → DicOk K Hs ((.inl k, v) :: kvs) ((k, d) :: ps)
theorem DicOk.same {K : PySem.W.Frag} {Hs Hs' : Hp} (s : SameD Hs Hs') : ∀ {kvs : List (Key × V)} {ps : List (Int × D)}, DicOk K Hs kvs ps → DicOk K Hs' kvs ps
  | _, _, .nil => .nil
  | _, _, .cons h t => .cons (Dp.same s h) (DicOk.same s t)
def FldOk (K : PySem.W.Frag) (Hs : Hp) (v : V) : OF → Prop
  | .dat d => Dp K Hs v d
  | .dic ps => ∃ n kvs, v = .ref n ∧ Hs n = some (.dK kvs) ∧ DicOk K Hs kvs ps
structure ObAt (K : PySem.W.Frag) (Cl : Nat → Addr) (Hs : Hp) (a : Addr) (k : Nat) (fs : List OF) : Prop where
  go : ∃ (dx : Addr) (vs : List V), Hs a = some (.ins (Cl k) dx ((fldN k).zip vs)) ∧ vs.length = (fldN k).length ∧ fs.length = (fldN k).length ∧ ∀ (j : Nat) x, fs[j]? = some x → ∃ v, vs[j]? = some v ∧ FldOk K Hs v x
def ObOk (K : PySem.W.Frag) (Cl : Nat → Addr) (Hs : Hp) (o : Option (Option V)) (k : Nat) (fs : List OF) : Prop := ∃ a, o = some (some (.ref a)) ∧ ObAt K Cl Hs a k fs
theorem ObAt.same {K : PySem.W.Frag} {Cl : Nat → Addr} {Hs Hs' : Hp} {a : Addr} {k : Nat} {fs : List OF} (m : SameD Hs Hs') (q : ObAt K Cl Hs a k fs) : ObAt K Cl Hs' a k fs := by
  obtain ⟨dx, vs, e1, e2, e3, e4⟩ := q
  refine ⟨dx, vs, m _ _ e1 rfl, e2, e3, fun j x hx => ?_⟩
  obtain ⟨v, hv, hf⟩ := e4 j x hx
  refine ⟨v, hv, ?_⟩
  cases x with
  | dat d => exact Dp.same m hf
  | dic ps =>
    obtain ⟨n, kvs, f1, f2, f3⟩ := hf
    exact ⟨n, kvs, f1, m _ _ f2 rfl, f3.same m⟩
theorem ObOk.same {K : PySem.W.Frag} {Cl : Nat → Addr} {Hs Hs' : Hp} {o : Option (Option V)} {k : Nat} {fs : List OF} (m : SameD Hs Hs') (q : ObOk K Cl Hs o k fs) : ObOk K Cl Hs' o k fs := by
  obtain ⟨a, e, q⟩ := q
  exact ⟨a, e, q.same m⟩
inductive Slot where
  | un | dat (d : D) | own (ds : List D) | err (a dd : Addr) (i : Int) | ownT (a : Addr) (k : Nat) (ds : List D) | cel (a : Addr) (c : Cell) | pin (a : Addr) | ob (k : Nat) (fs : List OF)
abbrev Rho := List Slot
def OwnAt (σ : St) (ρ : Rho) (i : Nat) (a : Addr) : Prop := (σ[i]? = some (some (.ref a)) ∧ ∃ ds, ρ[i]? = some (.own ds)) ∨ (∃ k ds, ρ[i]? = some (.ownT a k ds)) ∨ ∃ c, ρ[i]? = some (.cel a c)
def Slot.owns : Slot → Prop
  | .own _ => True
  | .ownT _ _ _ => True
  | .cel _ _ => True
  | _ => False
structure TupOwn (K : PySem.W.Frag) (H Hs : Hp) (T a : Addr) (k : Nat) (ds : List D) : Prop where
  go : ∃ (xs ys : List V) (es : List D), SqT K Hs T xs ∧ DpAll K Hs (xs.set k .non) (ds.set k .none) ∧ xs[k]? = some (.ref a) ∧ ds[k]? = some (.list es) ∧ H a = some (.lst ys) ∧ DpAll K Hs ys es
def Owned (σ : St) (ρ : Rho) (a : Addr) : Prop := ∃ i, OwnAt σ ρ i a
def Zo (Z : Addr → Prop) (σ : St) (ρ : Rho) : Addr → Prop := fun b => Z b ∨ Owned σ ρ b
def SlotOk (K : PySem.W.Frag) (Cl : Nat → Addr) (H Hs : Hp) (o : Option (Option V)) : Slot → Prop
  | .un => True
  | .dat d => ∃ v, o = some (some v) ∧ Dp K Hs v d
  | .own ds => ∃ a xs, o = some (some (.ref a)) ∧ H a = some (.lst xs) ∧ DpAll K Hs xs ds
  | .err a dd i => o = some (some (.ref a)) ∧ H dd = some (.xd [(("at" : Str), .int i)])
  | .ownT a k ds => ∃ T, o = some (some (.ref T)) ∧ TupOwn K H Hs T a k ds
  | .cel a c => o = some (some (.ref a)) ∧ ∃ u, H a = some u ∧ CellOk K Cl Hs a u c
  | .pin a => o = some (some (.ref a))
  | .ob k fs => ObOk K Cl Hs o k fs
structure DI (K : PySem.W.Frag) (Cl : Nat → Addr) (Z : Addr → Prop) (H : Hp) (σ : St) (ρ : Rho) : Prop where
  len : ρ.length = σ.length
  one : ∀ i j a, OwnAt σ ρ i a → OwnAt σ ρ j a → i = j
  out : ∀ a, Owned σ ρ a → ¬ Z a
  live : ∀ a, Z a → H a ≠ none
  slots : ∀ (i : Nat) s, ρ[i]? = some s → SlotOk K Cl H (hide H (Zo Z σ ρ)) (σ[i]?) s
  tb : TBl Cl H
section
variable {K : PySem.W.Frag} {Cl : Nat → Addr} {Z : Addr → Prop} {H H' : Hp} {σ : St} {ρ : Rho}
theorem DI.liveO (I : DI K Cl Z H σ ρ) {a : Addr} (h : Owned σ ρ a) : H a ≠ none := by
  obtain ⟨i, ⟨h1, ds, h2⟩ | ⟨k, ds, h2⟩ | ⟨c, h2⟩⟩ := h
  · obtain ⟨b, xs, e, hb, _⟩ := I.slots i _ h2
    rw [h1] at e
    cases e
    rw [hb]
    intro z; cases z
  · obtain ⟨T, e, ⟨xs, ys, es, _, _, _, _, hb, _⟩⟩ := I.slots i _ h2
    rw [hb]
    intro z; cases z
  · obtain ⟨_, u, hb, _⟩ := I.slots i _ h2
    rw [hb]
    intro z; cases z
theorem DI.liveZ (I : DI K Cl Z H σ ρ) {a : Addr} (h : Zo Z σ ρ a) : H a ≠ none := by
  rcases h with h | h
  · exact I.live a h
  · exact I.liveO h
theorem TupOwn.same {Hs Hs' : Hp} {T a : Addr} {k : Nat} {ds : List DL.D} (m : SameD Hs Hs') (h : ∀ ys, H a = some (.lst ys) → H' a = some (.lst ys)) (t : TupOwn K H Hs T a k ds) : TupOwn K H' Hs' T a k ds := by
  obtain ⟨xs, ys, es, h1, h2, h3, h4, h5, h6⟩ := t
  exact ⟨xs, ys, es, SqT.same m h1, DpAll.same m h2, h3, h4, h _ h5, DpAll.same m h6⟩
theorem DI.same (I : DI K Cl Z H σ ρ) (s : Same Cl H H') : DI K Cl Z H' σ ρ := by
  refine ⟨I.len, I.one, I.out, fun a h => s.live a (I.live a h), fun i sl e => ?_, s.tb I.tb⟩
  · have q := I.slots i sl e
    have m : SameD (hide H (Zo Z σ ρ)) (hide H' (Zo Z σ ρ)) := hide_mono s fun b h => .inl h
    cases sl with
    | un => trivial
    | dat d =>
      obtain ⟨v, e1, h⟩ := q
      exact ⟨v, e1, Dp.same m h⟩
    | own ds =>
      obtain ⟨a, xs, e1, e2, h⟩ := q
      exact ⟨a, xs, e1, s.at e2, DpAll.same m h⟩
    | err a dd j => exact ⟨q.1, s.at q.2⟩
    | ownT a k ds =>
      obtain ⟨T, e1, h⟩ := q
      exact ⟨T, e1, h.same m fun _ z => s.at z⟩
    | pin a => exact q
    | ob k fs => exact ObOk.same m q
    | cel a c =>
      obtain ⟨e1, u, e2, h⟩ := q
      exact ⟨e1, u, s.cel h e2, h.same m⟩
end

inductive Val where
  | s (d : D) | m (d : D) | b (ds : List D) | f (ds : List D)
@[simp] def Val.d : Val → D
  | .s d => d
  | .m d => d
  | .b ds => .list ds
  | .f ds => .list ds
abbrev Er := Nat × Int
abbrev FE := Rho → Option (Except Er Val)
def ZP (Z : Addr → Prop) (p : Addr) : Addr → Prop := fun b => Z b ∨ b = p
def VOk (K : PySem.W.Frag) (Z : Addr → Prop) (σ : St) (ρ : Rho) (H H1 : Hp) (x : V) : Val → Prop
  | .s d => Dp K (hide H1 (Zo Z σ ρ)) x d
  | .m d => Dp K (hide H1 Z) x d
  | .b ds => ∃ p xs, x = .ref p ∧ Owned σ ρ p ∧ H1 p = some (.lst xs) ∧ DpAll K (hide H1 (Zo Z σ ρ)) xs ds
  | .f ds => ∃ p xs, x = .ref p ∧ H p = none ∧ H1 p = some (.lst xs) ∧ DpAll K (hide H1 (ZP (Zo Z σ ρ) p)) xs ds
def ErOk (Cl : Nat → Addr) (W : WX) (σ : St) (H : Hp) (e : Er) : Prop :=
  ∀ dd H', Same Cl H H' → H' dd = some (.xd [(("at" : Str), .int e.2)]) → W (.ref (Cl e.1)) (some dd) σ H'
def ROk (K : PySem.W.Frag) (Cl : Nat → Addr) (W : WX) (Z : Addr → Prop) (σ : St) (ρ : Rho) (H : Hp) (Q : VK) : Except Er Val → Prop
  | .ok v => ∀ x H', Same Cl H H' → VOk K Z σ ρ H H' x v → Q x H'
  | .error e => ErOk Cl W σ H e
def teOf (K : PySem.W.Frag) (Cl : Nat → Addr) (W : WX) (f : FE) : TE := fun σ H Q => ∃ Z ρ r, DI K Cl Z H σ ρ ∧ f ρ = some r ∧ ROk K Cl W Z σ ρ H Q r
def DE (X : Cx) (Cl : Nat → Addr) (W : WX) (e : Expr) (f : FE) : Prop := PE X e (teOf X.K Cl W f)
theorem PE.imp {X : Cx} {e : Expr} {t t' : TE} (h : PE X e t) (i : ∀ σ H Q, t' σ H Q → t σ H Q) : PE X e t' := ⟨fun pins s σ H Q I q => h.run pins s σ H Q I (i σ H Q q)⟩
theorem PT.imp {X : Cx} {e : Expr} {t t' : TT} (h : PT X e t) (i : ∀ σ H Q, t' σ H Q → t σ H Q) : PT X e t' := ⟨fun pins s σ H Q I q => h.run pins s σ H Q I (i σ H Q q)⟩
theorem PW.imp {X : Cx} {e : Expr} {t t' : TT} (h : PW X e t) (i : ∀ σ H Q, t' σ H Q → t σ H Q) : PW X e t' := ⟨fun wh pins s σ H Q I q => h.run wh pins s σ H Q I (i σ H Q q)⟩
theorem PA.imp {X : Cx} {e : List Expr} {t t' : TA} (h : PA X e t) (i : ∀ σ H Q, t' σ H Q → t σ H Q) : PA X e t' := ⟨fun pos pins s σ H Q I q => h.run pos pins s σ H Q I (i σ H Q q)⟩
theorem PS.imp {X : Cx} {e : Stmt} {t t' : TS} (h : PS X e t) (i : ∀ D σ H, t' D σ H → t D σ H) : PS X e t' := ⟨fun pins s σ H D I q => h.run pins s σ H D I (i D σ H q)⟩
theorem PSs.imp {X : Cx} {e : List Stmt} {t t' : TS} (h : PSs X e t) (i : ∀ D σ H, t' D σ H → t D σ H) : PSs X e t' := ⟨fun pins s σ H D I q => h.run pins s σ H D I (i D σ H q)⟩

section
variable {K : PySem.W.Frag} {Cl : Nat → Addr} {W : WX} {Z : Addr → Prop} {H H' H1 H2 : Hp} {σ : St} {ρ : Rho} {Q : VK}
theorem VOk.same {x : V} {v : Val} (s : Same Cl H1 H2) (h : VOk K Z σ ρ H H1 x v) : VOk K Z σ ρ H H2 x v := by
  cases v with
  | s d => exact Dp.same (hide_mono s fun _ h => .inl h) h
  | m d => exact Dp.same (hide_mono s fun _ h => .inl h) h
  | b ds =>
    obtain ⟨p, xs, e, n, h1, h2⟩ := h
    exact ⟨p, xs, e, n, s.at h1, DpAll.same (hide_mono s fun _ h => .inl h) h2⟩
  | f ds =>
    obtain ⟨p, xs, e, n, h1, h2⟩ := h
    exact ⟨p, xs, e, n, s.at h1, DpAll.same (hide_mono s fun _ h => .inl h) h2⟩
theorem VOk.back {x : V} {v : Val} (s : Same Cl H H1) (h : VOk K Z σ ρ H1 H2 x v) : VOk K Z σ ρ H H2 x v := by
  cases v with
  | s d => exact h
  | m d => exact h
  | b ds => exact h
  | f ds =>
    obtain ⟨p, xs, e, n, h1, h2⟩ := h
    exact ⟨p, xs, e, s.free n, h1, h2⟩
theorem VOk.dp {x : V} {v : Val} (I : DI K Cl Z H σ ρ) (h : VOk K Z σ ρ H H1 x v) : Dp K (hide H1 Z) x v.d := by
  cases v with
  | s d => exact Dp.same (hide_monoD (SameD.refl _) fun _ h => .inl (.inl h)) h
  | m d => exact h
  | b ds =>
    obtain ⟨p, xs, rfl, n, h1, h2⟩ := h
    exact .lst (Rd.of (hide_at (I.out p n) h1)) (DpAll.same (hide_monoD (SameD.refl _) fun _ h => .inl (.inl h)) h2)
  | f ds =>
    obtain ⟨p, xs, rfl, n, h1, h2⟩ := h
    have np : ¬ Z p := fun z => I.live p z n
    exact .lst (Rd.of (hide_at np h1)) (DpAll.same (hide_monoD (SameD.refl _) fun _ h => .inl (.inl (.inl h))) h2)
@[simp] def Val.st : Val → Option D
  | .s d => some d
  | .m d => if scalarD d = true then some d else none
  | .b _ => none
  | .f ds => some (.list ds)
theorem VOk.stab {x : V} {v : Val} {d : D} (I : DI K Cl Z H σ ρ) (e : v.st = some d) (h : VOk K Z σ ρ H H1 x v) : Dp K (hide H1 (Zo Z σ ρ)) x d := by
  cases v with
  | s d' => cases e; exact h
  | m d' =>
    simp only [Val.st] at e
    split at e
    · rename_i sc
      cases e
      exact Dp.scalar sc h
    · cases e
  | b ds => cases e
  | f ds =>
    cases e
    obtain ⟨p, xs, rfl, n, h1, h2⟩ := h
    have np : ¬ Zo Z σ ρ p := fun z => I.liveZ z n
    exact .lst (Rd.of (hide_at np h1)) (DpAll.same (hide_monoD (SameD.refl _) fun _ h => .inl (.inl h)) h2)
theorem ErOk.same {e : Er} (s : Same Cl H H1) (h : ErOk Cl W σ H e) : ErOk Cl W σ H1 e := fun dd H' s' => h dd H' (s.trans s')
theorem ROk.from {r : Except Er Val} (s : Same Cl H H1) (h : ROk K Cl W Z σ ρ H Q r) : ROk K Cl W Z σ ρ H1 Q r := by
  cases r with
  | error e => exact ErOk.same s h
  | ok v => exact fun x H' s' hv => h x H' (s.trans s') (hv.back s)
end

@[simp] def bE (f : FE) (k : Val → FE) (ρ : Rho) : Option (Except Er Val) := match f ρ with
  | none => none
  | some (.error e) => some (.error e)
  | some (.ok v) => k v ρ
@[simp] def ok (d : D) : Option (Except Er Val) := some (.ok (.s d))
theorem te_bind {K : PySem.W.Frag} {Cl : Nat → Addr} {W : WX} {Z : Addr → Prop} {H : Hp} {σ : St} {ρ : Rho} {Q Q1 : VK} {f : FE} {k : Val → FE} {r : Except Er Val} (I : DI K Cl Z H σ ρ) (h : bE f k ρ = some r) (q : ROk K Cl W Z σ ρ H Q r)
    (go : ∀ v x H1, f ρ = some (.ok v) → k v ρ = some r → Same Cl H H1 → VOk K Z σ ρ H H1 x v → DI K Cl Z H1 σ ρ → ROk K Cl W Z σ ρ H1 Q r → Q1 x H1) : teOf K Cl W f σ H Q1 := by
  unfold bE at h
  cases e : f ρ with
  | none => rw [e] at h; cases h
  | some r1 =>
    rw [e] at h
    cases r1 with
    | error er =>
      cases h
      exact ⟨Z, ρ, .error er, I, e, q⟩
    | ok v => exact ⟨Z, ρ, .ok v, I, e, fun x H1 s hv => go v x H1 e h s hv (I.same s) (q.from s)⟩
theorem ROk.scalar {K : PySem.W.Frag} {Cl : Nat → Addr} {W : WX} {Z : Addr → Prop} {H : Hp} {σ : St} {ρ : Rho} {Q : VK} {d : D} {v : V} (q : ROk K Cl W Z σ ρ H Q (.ok (.s d))) (h : ∀ H', Dp K H' v d) : Q v H := q v H (Same.refl _) (h _)
end DL
set_option Elab.async false
set_option linter.all false
set_option maxRecDepth 100000
set_option maxHeartbeats 4000000
namespace DL
open PySem PySem.Spec PyProof.Rows L2

section
variable {X : Cx} {Cl : Nat → Addr} {W : WX} {a b c e : Expr} {es : List Expr} {fa fb fc f : FE} {pos : Pos}

@[simp] def eC (d : D) (ρ : Rho) : Option (Except Er Val) := ok d
theorem de_const {v : V} {d : D} (h : PE X e (tC v)) (hv : ∀ H, Dp X.K H v d) : DE X Cl W e (eC d) :=
  PE.imp h fun σ H Q ⟨Z, ρ, r, I, e, q⟩ => by cases e; exact q.scalar hv
theorem de_int {i : Int} {j pos} : DE X Cl W (.Constant (.int i) j pos) (eC (.int i)) := de_const pe_int fun _ => .int i
theorem de_bl {i : Bool} {j pos} : DE X Cl W (.Constant (.bool i) j pos) (eC (.bool i)) := de_const pe_bl fun _ => .bl i
theorem de_non {j pos} : DE X Cl W (.Constant .none j pos) (eC .none) := de_const pe_non fun _ => .non
theorem de_globI {x : Str} {i : Int} {t : Tok} (hm : X.mg x = some (.int i t)) (hg : Gl X x := by rfl) (hd : (x == ("__debug__" : Str)) = false := by decide) : DE X Cl W (.Name x pos) (eC (.int i)) := de_const (pe_glob (v := .int i) hg hm ⟨t, rfl⟩ hd) fun _ => .int i
@[simp] def eV (i : Nat) (ρ : Rho) : Option (Except Er Val) := match ρ[i]? with
  | some (.dat d) => ok d
  | some (.own ds) => some (.ok (.b ds))
  | some (.ownT _ _ ds) => some (.ok (.m (.tuple ds)))
  | _ => none
theorem TupOwn.read {K : PySem.W.Frag} {Z : Addr → Prop} {H : Hp} {σ : St} {ρ : Rho} {T a : Addr} {k : Nat} {ds : List D} (I : DI K Cl Z H σ ρ) (o : Owned σ ρ a) (t : TupOwn K H (hide H (Zo Z σ ρ)) T a k ds) : Dp K (hide H Z) (.ref T) (.tuple ds) := by
  obtain ⟨xs, ys, es, h1, h2, h3, h4, h5, h6⟩ := t
  have m : SameD (hide H (Zo Z σ ρ)) (hide H Z) := hide_monoD (SameD.refl _) fun _ h => .inl (.inl h)
  refine .tup (SqT.same m h1) ?_
  have hl : Dp K (hide H Z) (.ref a) (.list es) := .lst (Rd.of (hide_at (I.out a o) h5)) (DpAll.same m h6)
  have q := DpAll.set hl k (DpAll.same m h2)
  rw [List.set_set, List.set_set] at q
  obtain ⟨hk, e3⟩ := List.getElem?_eq_some_iff.mp h3
  obtain ⟨hk2, e4⟩ := List.getElem?_eq_some_iff.mp h4
  have r3 : xs.set k (.ref a) = xs := by rw [← e3]; exact List.set_getElem_self hk
  have r4 : ds.set k (.list es) = ds := by rw [← e4]; exact List.set_getElem_self hk2
  rw [r3, r4] at q
  exact q
theorem de_var {i : Nat} {x : Str} (h : PE X (.Name x pos) (tVar i)) : DE X Cl W (.Name x pos) (eV i) := PE.imp h fun σ H Q ⟨Z, ρ, r, I, e, q⟩ => by
  unfold eV at e
  split at e
  · rename_i d hd
    cases e
    obtain ⟨v, hv, hp⟩ := I.slots i _ hd
    exact ⟨v, hv, q v H (Same.refl _) hp⟩
  · rename_i ds hd
    cases e
    obtain ⟨p, xs, hv, hp, hds⟩ := I.slots i _ hd
    exact ⟨_, hv, q _ H (Same.refl _) ⟨p, xs, rfl, ⟨i, .inl ⟨hv, ds, hd⟩⟩, hp, hds⟩⟩
  · rename_i a k ds hd
    cases e
    obtain ⟨T, hv, t⟩ := I.slots i _ hd
    exact ⟨_, hv, q _ H (Same.refl _) (t.read I ⟨i, .inr (.inl ⟨k, ds, hd⟩)⟩)⟩
  · cases e

def R2D (K : PySem.W.Frag) (r : R2) (g : Val → Val → Option Val) : Prop := ∀ (Cl : Nat → Addr) (Z : Addr → Prop) (σ : St) (ρ : Rho) (H0 H : Hp) (x y : V) (a b v : Val) (Q : VK), DI K Cl Z H0 σ ρ → Same Cl H0 H → VOk K Z σ ρ H0 H x a → VOk K Z σ ρ H0 H y b → g a b = some v →
  (∀ z H', Same Cl H H' → VOk K Z σ ρ H0 H' z v → Q z H') → r x y H Q
def e2 (g : Val → Val → Option Val) (fa fb : FE) : FE := bE fa fun a => bE fb fun b _ => (g a b).map .ok
theorem de_tOp {r : R2} {g : Val → Val → Option Val} (h : PE X e (tOp r (teOf X.K Cl W fa) (teOf X.K Cl W fb))) (hr : R2D X.K r g) : DE X Cl W e (e2 g fa fb) := PE.imp h fun σ H Q ⟨Z, ρ, r1, I, e, q⟩ => by
  refine te_bind I e q fun v x H1 _ h1 s1 hv I1 q1 => te_bind I1 h1 q1 fun u y H2 _ h2 s2 hu I2 q2 => ?_
  cases hg : g v u with
  | none => rw [hg] at h2; cases h2
  | some w =>
    rw [hg] at h2
    cases h2
    exact hr Cl Z σ ρ H H2 x y v u w Q I (s1.trans s2) (hv.same s2) (hu.back s1) hg fun z H' s' hz => q z H' (s1.trans (s2.trans s')) hz
theorem de_op {op : Operator} {r : R2} {g : Val → Val → Option Val} (ho : OpR X (binaryOp op) r) (hr : R2D X.K r g) (ha : DE X Cl W a fa) (hb : DE X Cl W b fb) : DE X Cl W (.BinOp a op b pos) (e2 g fa fb) := de_tOp (pe_op ho ha hb) hr
theorem de_cmp {op : CmpOp} {r : R2} {g : Val → Val → Option Val} (ho : OpR X (compareOp op) r) (hr : R2D X.K r g) (ha : DE X Cl W a fa) (hb : DE X Cl W b fb) (hm : behindInMarks op b = false) : DE X Cl W (.Compare a [op] [b] pos) (e2 g fa fb) := de_tOp (pe_cmpR ho ha hb hm) hr
theorem R2D.or {K : PySem.W.Frag} {r r' : R2} {g g' : Val → Val → Option Val} (h : R2D K r g) (h' : R2D K r' g') : R2D K (fun x y H Q => r x y H Q ∨ r' x y H Q) (fun a b => (g a b).or (g' a b)) := fun Cl Z σ ρ H0 H x y a b v Q I s ha hb e q => by
  have e : (g a b).or (g' a b) = some v := e
  cases hg : g a b with
  | some w =>
    rw [hg] at e
    cases e
    exact .inl (h Cl Z σ ρ H0 H x y a b _ Q I s ha hb hg q)
  | none =>
    rw [hg] at e
    exact .inr (h' Cl Z σ ρ H0 H x y a b _ Q I s ha hb e q)

@[simp] def gI (F : Int → Int → D) (a b : Val) : Option Val := match a.d, b.d with
  | .int i, .int j => some (.s (F i j))
  | _, _ => none
@[simp] def gIc (C : Int → Int → Bool) (F : Int → Int → D) (a b : Val) : Option Val := match a.d, b.d with
  | .int i, .int j => if C i j = true then some (.s (F i j)) else none
  | _, _ => none
variable {K : PySem.W.Frag} {Cl : Nat → Addr}
theorem VOk.int_inv {Z : Addr → Prop} {σ : St} {ρ : Rho} {H0 H : Hp} {x : V} {a : Val} {i : Int} (I : DI K Cl Z H0 σ ρ) (h : VOk K Z σ ρ H0 H x a) (e : a.d = .int i) : x = .int i := by
  have q := h.dp I
  rw [e] at q
  exact q.int_inv
theorem VOk.str_inv {Z : Addr → Prop} {σ : St} {ρ : Rho} {H0 H : Hp} {x : V} {a : Val} {i : Str} (I : DI K Cl Z H0 σ ρ) (h : VOk K Z σ ρ H0 H x a) (e : a.d = .str i) : x = .str i := by
  have q := h.dp I
  rw [e] at q
  exact q.str_inv
theorem VOk.bl_inv {Z : Addr → Prop} {σ : St} {ρ : Rho} {H0 H : Hp} {x : V} {a : Val} {i : Bool} (I : DI K Cl Z H0 σ ρ) (h : VOk K Z σ ρ H0 H x a) (e : a.d = .bool i) : x = .bl i := by
  have q := h.dp I
  rw [e] at q
  exact q.bl_inv
theorem r2_I {g : Int → Int → V} {F : Int → Int → D} (h : ∀ i j H, Dp K H (g i j) (F i j)) : R2D K (rI0 g) (gI F) := fun Cl Z σ ρ H0 H x y a b v Q I s ha hb e q => by
  unfold gI at e
  split at e
  · rename_i i j e1 e2
    cases e
    exact ⟨i, j, ha.int_inv I e1, hb.int_inv I e2, q _ H (Same.refl _) (h i j _)⟩
  · cases e
theorem r2_Ic {C : Int → Int → Prop} {c : Int → Int → Bool} {g : Int → Int → V} {F : Int → Int → D} (hc : ∀ i j, c i j = true → C i j) (h : ∀ i j H, Dp K H (g i j) (F i j)) : R2D K (rI C g) (gIc c F) := fun Cl Z σ ρ H0 H x y a b v Q I s ha hb e q => by
  unfold gIc at e
  split at e
  · rename_i i j e1 e2
    split at e
    · rename_i hcc
      cases e
      exact ⟨i, j, ha.int_inv I e1, hb.int_inv I e2, hc i j hcc, q _ H (Same.refl _) (h i j _)⟩
    · cases e
  · cases e
def cDiv (i j : Int) : Bool := decide (0 < j) && decide (j < 1073741824)
def cMod (i j : Int) : Bool := decide (0 < j)
def cMul (i j : Int) : Bool := (decide (-(2 ^ 64) < i) && decide (i < 2 ^ 64)) || (decide (-(2 ^ 64) < j) && decide (j < 2 ^ 64))
def cPow (i j : Int) : Bool := decide (0 ≤ j) && (decide (j ≤ 1000000) && decide (i.natAbs < 2 ^ 64))
def cShr (i j : Int) : Bool := decide (0 ≤ j)
@[simp] def gMul (a b : Val) : Option Val := (gIc cMul fun i j => .int (i * j)) a b
@[simp] def gDiv (a b : Val) : Option Val := (gIc cDiv fun i j => .int (i / j)) a b
@[simp] def gMod (a b : Val) : Option Val := (gIc cMod fun i j => .int (i % j)) a b
@[simp] def gPow (a b : Val) : Option Val := (gIc cPow fun i j => .int (i ^ j.toNat)) a b
@[simp] def gShl (a b : Val) : Option Val := (gIc cPow fun i j => .int (i * 2 ^ j.toNat)) a b
@[simp] def gShr (a b : Val) : Option Val := (gIc cShr fun i j => .int (i / 2 ^ j.toNat)) a b
@[simp] def gSub (a b : Val) : Option Val := (gI fun i j => .int (i - j)) a b
@[simp] def gAddI (a b : Val) : Option Val := (gI fun i j => .int (i + j)) a b
@[simp] def gAnd (a b : Val) : Option Val := (gI fun i j => .int (Builtin.bitAnd i j)) a b
@[simp] def gOr (a b : Val) : Option Val := (gI fun i j => .int (Builtin.bitOr i j)) a b
@[simp] def gXor (a b : Val) : Option Val := (gI fun i j => .int (Builtin.bitXor i j)) a b
@[simp] def gLt (a b : Val) : Option Val := (gI fun i j => .bool (decide (i < j))) a b
@[simp] def gLe (a b : Val) : Option Val := (gI fun i j => .bool (decide (i ≤ j))) a b
@[simp] def gGt (a b : Val) : Option Val := (gI fun i j => .bool (decide (j < i))) a b
@[simp] def gGe (a b : Val) : Option Val := (gI fun i j => .bool (decide (j ≤ i))) a b
theorem cPow_ok (i j : Int) (h : cPow i j = true) : CPow i j := by
  simp only [cPow, Bool.and_eq_true, decide_eq_true_eq] at h
  exact ⟨h.1, h.2.1, h.2.2⟩
theorem cMul_ok (i j : Int) (h : cMul i j = true) : CMul i j := by
  simp only [cMul, Bool.and_eq_true, Bool.or_eq_true, decide_eq_true_eq] at h
  exact h
theorem cDiv_ok (i j : Int) (h : cDiv i j = true) : CDiv i j := by
  simp only [cDiv, Bool.and_eq_true, decide_eq_true_eq] at h
  exact h
theorem de_mul (ha : DE X Cl W a fa) (hb : DE X Cl W b fb) : DE X Cl W (.BinOp a .Mult b pos) (e2 gMul fa fb) := de_op op_mul (r2_Ic cMul_ok fun i j _ => .int _) ha hb
theorem de_div (ha : DE X Cl W a fa) (hb : DE X Cl W b fb) : DE X Cl W (.BinOp a .FloorDiv b pos) (e2 gDiv fa fb) := de_op op_fdiv (r2_Ic cDiv_ok fun i j _ => .int _) ha hb
theorem de_mod (ha : DE X Cl W a fa) (hb : DE X Cl W b fb) : DE X Cl W (.BinOp a .Mod b pos) (e2 gMod fa fb) := de_op op_mod (r2_Ic (fun _ _ h => of_decide_eq_true h) fun i j _ => .int _) ha hb
theorem de_pow (ha : DE X Cl W a fa) (hb : DE X Cl W b fb) : DE X Cl W (.BinOp a .Pow b pos) (e2 gPow fa fb) := de_op op_pow (r2_Ic cPow_ok fun i j _ => .int _) ha hb
@[simp] def gNeg (a : Val) : Option Val := match a.d with
  | .int i => some (.s (.int (-i)))
  | _ => none
def e1 (g : Val → Option Val) (fa : FE) : FE := bE fa fun a _ => (g a).map .ok
theorem de_neg (ha : DE X Cl W a fa) : DE X Cl W (.UnaryOp .USub a pos) (e1 gNeg fa) := PE.imp (pe_un un_neg ha) fun σ H Q ⟨Z, ρ, r1, I, e, q⟩ => by
  refine te_bind I e q fun v x H1 _ h1 s1 hv I1 q1 => ?_
  unfold gNeg at h1
  split at h1
  · rename_i i e1
    cases h1
    exact ⟨i, hv.int_inv I e1, q _ H1 s1 (.int _)⟩
  · cases h1

@[simp] def Val.items : Val → Option (List D)
  | .s (.list ds) => some ds
  | .m (.list ds) => if ds.all scalarD = true then some ds else none
  | .b ds => some ds
  | .f ds => some ds
  | _ => none
theorem VOk.items {Z : Addr → Prop} {σ : St} {ρ : Rho} {H0 H : Hp} {x : V} {a : Val} {ds : List D} (I : DI K Cl Z H0 σ ρ) (e : a.items = some ds) (h : VOk K Z σ ρ H0 H x a) : ∃ p xs, x = .ref p ∧ Rd H p (.lst xs) ∧ DpAll K (hide H (Zo Z σ ρ)) xs ds := by
  cases a with
  | s d =>
    cases d with
    | list ys =>
      cases e
      obtain ⟨p, xs, rfl, h1, h2⟩ := Dp.lst_inv (show Dp K (hide H (Zo Z σ ρ)) x (.list ds) from h)
      exact ⟨p, xs, rfl, Rd.same hide_sub h1, h2⟩
    | _ => cases e
  | m d =>
    cases d with
    | list ys =>
      simp only [Val.items] at e
      split at e
      · rename_i sc
        cases e
        obtain ⟨p, xs, rfl, h1, h2⟩ := Dp.lst_inv (show Dp K (hide H Z) x (.list ds) from h)
        exact ⟨p, xs, rfl, Rd.same hide_sub h1, DpAll.scalar sc h2⟩
      · cases e
    | _ => cases e
  | b ys =>
    cases e
    obtain ⟨p, xs, rfl, n, h1, h2⟩ := h
    exact ⟨p, xs, rfl, Rd.of h1, h2⟩
  | f ys =>
    cases e
    obtain ⟨p, xs, rfl, n, h1, h2⟩ := h
    exact ⟨p, xs, rfl, Rd.of h1, DpAll.same (hide_monoD (SameD.refl _) fun _ h => .inl (.inl h)) h2⟩
theorem Rd.lstM {pins : List (Addr × Obj)} {σ : St} {H : Hp} {s : Shared} {l : Addr} {xs : List V} (I : Inv X pins σ H s) (hH : Rd H l (.lst xs)) : xs.length ≤ sizeLine ∧ ∃ (its : List Value) (n : Nat), Vals xs its ∧ xs.length = its.length ∧ s.heap.get? l = some { cls := .type "list", data := .seq its.toArray n } := by
  obtain ⟨z, its, n, r, e⟩ := (show ObjOk X.prog X.w H s.heap l (.lst xs) from hH.ok I.hok)
  exact ⟨z, its, n, r, r.length, e⟩
def rCatR : R2 := fun x y H Q => ∃ l b xs zs, x = .ref l ∧ y = .ref b ∧ Rd H l (.lst xs) ∧ Rd H b (.lst zs) ∧ xs.length + zs.length ≤ sizeLine ∧ ∀ p, H p = none → Q (.ref p) (upd H p (.lst (xs ++ zs)))
theorem op_catR : OpR X (binaryOp .Add) rCatR := by
  intro pins s σ H x y v u Q I rx ry h
  obtain ⟨l, b, xs, zs, rfl, rfl, hH, hB, hz, q⟩ := h
  cases rx
  cases ry
  obtain ⟨z, its, n, r, hl, e⟩ := Rd.lstM I hH
  obtain ⟨z2, its2, n2, r2, hl2, e2⟩ := Rd.lstM I hB
  refine PySem.P.add_list e e2 ?_ (by rw [List.size_toArray, List.size_toArray]; omega)
  have ea : its.toArray ++ its2.toArray = (its ++ its2).toArray := by simp
  rw [ea]
  exact ⟨.ref _, _, I.lnew (t' := s.toks) (r.append r2) (by rw [List.length_append]; omega), rfl, q _ I.fresh⟩
theorem sameD_upd {H : Hp} {p : Addr} {o : HO} (h : H p = none) : SameD H (upd H p o) := fun b x e _ => by
  rw [upd_ne (ne_of_none e h)]
  exact e
theorem same_upd {Cl : Nat → Addr} {H : Hp} {p : Addr} {o : HO} (h : H p = none) : Same Cl H (upd H p o) := .of fun b x e => by
  rw [upd_ne (ne_of_none e h)]
  exact e
theorem VOk.new {Z : Addr → Prop} {σ : St} {ρ : Rho} {H0 H : Hp} {p : Addr} {xs : List V} {ds : List D} (s : Same Cl H0 H) (n : H p = none) (h : DpAll K (hide H (Zo Z σ ρ)) xs ds) : VOk K Z σ ρ H0 (upd H p (.lst xs)) (.ref p) (.f ds) :=
  ⟨p, xs, rfl, s.free n, upd_same, DpAll.same (hide_monoD (sameD_upd n) fun b hb => by
    rcases hb with hb | rfl
    · exact .inl hb
    · exact .inr n) h⟩
def lineOk (n : Nat) : Bool := decide (n ≤ 16777216)
theorem lineOk_ok {n : Nat} (h : lineOk n = true) : n ≤ sizeLine := by
  rw [sizeLine_eq]
  exact of_decide_eq_true h
@[simp] def gCat (a b : Val) : Option Val := match a.items, b.items with
  | some xs, some ys => if lineOk (xs.length + ys.length) = true then some (.f (xs ++ ys)) else none
  | _, _ => none
theorem r2_cat : R2D K rCatR gCat := fun Cl Z σ ρ H0 H x y a b v Q I s ha hb e q => by
  unfold gCat at e
  split at e
  · rename_i ds es e1 e2
    split at e
    · rename_i hl
      cases e
      obtain ⟨l, xs, rfl, h1, h2⟩ := ha.items I e1
      obtain ⟨m, ys, rfl, h3, h4⟩ := hb.items I e2
      refine ⟨l, m, xs, ys, rfl, rfl, h1, h3, by rw [h2.length, h4.length]; exact lineOk_ok hl, fun p np => ?_⟩
      exact q _ _ (same_upd np) (VOk.new s np (h2.append h4))
    · cases e
  · cases e
@[simp] def gCatS (a b : Val) : Option Val := match a.d, b.d with
  | .str x, .str y => if lineOk (x.length + y.length) = true then some (.s (.str (x ++ y))) else none
  | _, _ => none
@[simp] def gAdd (a b : Val) : Option Val := (gAddI a b).or (gCat a b)
theorem de_add (ha : DE X Cl W a fa) (hb : DE X Cl W b fb) : DE X Cl W (.BinOp a .Add b pos) (e2 gAdd fa fb) := de_op (op_add.or op_catR) ((r2_I fun i j _ => .int _).or r2_cat) ha hb

def eqD (a b : D) : Option Bool := if (SeqAt.shaped a && SeqAt.shaped b) = true then some (PyData.eqv a b) else none
@[simp] def gEq (a b : Val) : Option Val := (eqD a.d b.d).map fun k => .s (.bool k)
@[simp] def gNe (a b : Val) : Option Val := (eqD a.d b.d).map fun k => .s (.bool (!k))
theorem r2_eq : R2D K (rEqD K) gEq := fun Cl Z σ ρ H0 H x y a b v Q I s ha hb e q => by
  unfold gEq eqD at e
  split at e
  · rename_i sh
    cases e
    obtain ⟨s1, s2⟩ := Bool.and_eq_true_iff.mp sh
    exact ⟨a.d, b.d, (Dp.same hide_sub (ha.dp I)).up (SeqAt.canLay_of_shaped s1), (Dp.same hide_sub (hb.dp I)).up (SeqAt.canLay_of_shaped s2), s1, s2, q _ H (Same.refl _) (.bl _)⟩
  · cases e
theorem r2_ne : R2D K (rNeD K) gNe := fun Cl Z σ ρ H0 H x y a b v Q I s ha hb e q => by
  unfold gNe eqD at e
  split at e
  · rename_i sh
    cases e
    obtain ⟨s1, s2⟩ := Bool.and_eq_true_iff.mp sh
    exact ⟨a.d, b.d, (Dp.same hide_sub (ha.dp I)).up (SeqAt.canLay_of_shaped s1), (Dp.same hide_sub (hb.dp I)).up (SeqAt.canLay_of_shaped s2), s1, s2, q _ H (Same.refl _) (.bl _)⟩
  · cases e
@[simp] def isNone : D → Bool
  | .none => true
  | _ => false
theorem Dp.isNone {H : Hp} {x : V} {d : D} (h : Dp K H x d) : decide (x = .non) = isNone d := by
  cases h <;> rfl
@[simp] def gIsN (a b : Val) : Option Val := if isNone b.d = true then some (.s (.bool (isNone a.d))) else none
@[simp] def gNotN (a b : Val) : Option Val := if isNone b.d = true then some (.s (.bool (!isNone a.d))) else none
theorem isNone_eq {d : D} (h : isNone d = true) : d = .none := by cases d <;> first | rfl | cases h
theorem r2_isN : R2D K (fun x y H Q => y = .non ∧ Q (.bl (decide (x = .non))) H) gIsN := fun Cl Z σ ρ H0 H x y a b v Q I s ha hb e q => by
  unfold gIsN at e
  split at e
  · rename_i h
    cases e
    have q1 := hb.dp I
    rw [isNone_eq h] at q1
    refine ⟨q1.non_inv, ?_⟩
    rw [(ha.dp I).isNone]
    exact q _ H (Same.refl _) (.bl _)
  · cases e
theorem r2_notN : R2D K (fun x y H Q => y = .non ∧ Q (.bl (!decide (x = .non))) H) gNotN := fun Cl Z σ ρ H0 H x y a b v Q I s ha hb e q => by
  unfold gNotN at e
  split at e
  · rename_i h
    cases e
    have q1 := hb.dp I
    rw [isNone_eq h] at q1
    refine ⟨q1.non_inv, ?_⟩
    rw [(ha.dp I).isNone]
    exact q _ H (Same.refl _) (.bl _)
  · cases e
theorem Dp.flat {H : Hp} {x : V} {d : D} (h : Dp K H x d) (s : scalarD d = true) : flatV x = true := by
  cases h <;> first | rfl | cases s
def toV : D → V
  | .bool b => .bl b
  | .int i => .int i
  | .str x => .str x
  | _ => .non
theorem Dp.toV {H : Hp} {x : V} {d : D} (h : Dp K H x d) (s : scalarD d = true) : x = toV d := by
  cases h <;> first | rfl | cases s
theorem DpAll.toV {H : Hp} : ∀ {xs : List V} {ds : List D}, DpAll K H xs ds → ds.all scalarD = true → xs = ds.map toV ∧ xs.all flatV = true
  | _, _, .nil, _ => ⟨rfl, rfl⟩
  | _, _, .cons h t, s => by
    rw [List.all_cons, Bool.and_eq_true] at s
    obtain ⟨e1, e2⟩ := DpAll.toV t s.2
    have e3 := Dp.toV h s.1
    have e4 := Dp.flat h s.1
    subst e3
    refine ⟨by rw [List.map_cons, ← e1], ?_⟩
    rw [List.all_cons, e4, e2]
    rfl
def inD (x : D) (ds : List D) : Bool := inV (toV x) (ds.map toV)
@[simp] def seqItems : D → Option (List D)
  | .list ds => some ds
  | .tuple ds => some ds
  | _ => none
@[simp] def gInX (neg : Bool) (a b : Val) : Option Val := match seqItems b.d with
  | some ds => if (scalarD a.d && ds.all scalarD) = true then some (.s (.bool (if neg then !inD a.d ds else inD a.d ds))) else none
  | none => none
theorem Dp.seq_inv {H : Hp} {x : V} {d : D} {ds : List D} (h : Dp K H x d) (e : seqItems d = some ds) : ∃ p xs, x = .ref p ∧ (SqL K H p xs ∨ SqT K H p xs) ∧ DpAll K H xs ds := by
  cases h with
  | lst h t => cases e; exact ⟨_, _, rfl, .inl (.inl h), t⟩
  | tup h t => cases e; exact ⟨_, _, rfl, .inr h, t⟩
  | _ => cases e
theorem r2_in {neg : Bool} : R2D K (rIn K neg) (gInX neg) := fun Cl Z σ ρ H0 H x y a b v Q I s ha hb e q => by
  unfold gInX at e
  split at e
  · rename_i ds hd
    split at e
    · rename_i sc
      cases e
      obtain ⟨s1, s2⟩ := Bool.and_eq_true_iff.mp sc
      obtain ⟨p, xs, rfl, h1, h2⟩ := (Dp.same hide_sub (hb.dp I)).seq_inv hd
      have h3 := (Dp.same hide_sub (ha.dp I))
      obtain ⟨e1, e2⟩ := h2.toV s2
      refine ⟨p, xs, rfl, h1, h3.flat s1, e2, ?_⟩
      have ex := h3.toV s1
      have ei : inV x xs = inD a.d ds := by rw [ex, e1]; rfl
      rw [ei]
      exact q _ H (Same.refl _) (.bl _)
    · cases e
  · cases e
@[simp] def gIn (a b : Val) : Option Val := gInX false a b
@[simp] def gNotIn (a b : Val) : Option Val := gInX true a b
@[simp] def gS (F : Str → Str → D) (a b : Val) : Option Val := match a.d, b.d with
  | .str i, .str j => some (.s (F i j))
  | _, _ => none
theorem r2_S {g : Str → Str → V} {F : Str → Str → D} (h : ∀ i j H, Dp K H (g i j) (F i j)) : R2D K (fun x y H Q => ∃ i j, x = .str i ∧ y = .str j ∧ Q (g i j) H) (gS F) := fun Cl Z σ ρ H0 H x y a b v Q I s ha hb e q => by
  unfold gS at e
  split at e
  · rename_i i j e1 e2
    cases e
    exact ⟨i, j, ha.str_inv I e1, hb.str_inv I e2, q _ H (Same.refl _) (h i j _)⟩
  · cases e
end
end DL
set_option Elab.async false
set_option linter.all false
set_option maxRecDepth 100000
set_option maxHeartbeats 4000000
namespace DL
open PySem PySem.Spec PyProof.Rows L2

abbrev FA := Rho → Option (Except Er (List Val))
def VAll (K : PySem.W.Frag) (Z : Addr → Prop) (σ : St) (ρ : Rho) (H H1 : Hp) (xs : List V) (vs : List Val) : Prop := Paired (VOk K Z σ ρ H H1) xs vs
def RAk (K : PySem.W.Frag) (Cl : Nat → Addr) (W : WX) (Z : Addr → Prop) (σ : St) (ρ : Rho) (H : Hp) (Q : List V → Hp → Prop) : Except Er (List Val) → Prop
  | .ok vs => ∀ xs H', Same Cl H H' → VAll K Z σ ρ H H' xs vs → Q xs H'
  | .error e => ErOk Cl W σ H e
def taOf (K : PySem.W.Frag) (Cl : Nat → Addr) (W : WX) (f : FA) : TA := fun σ H Q => ∃ Z ρ r, DI K Cl Z H σ ρ ∧ f ρ = some r ∧ RAk K Cl W Z σ ρ H Q r
def DA (X : Cx) (Cl : Nat → Addr) (W : WX) (es : List Expr) (f : FA) : Prop := PA X es (taOf X.K Cl W f)
theorem te_step {K : PySem.W.Frag} {Cl : Nat → Addr} {W : WX} {Z : Addr → Prop} {H : Hp} {σ : St} {ρ : Rho} {Q1 : VK} {f : FE} {r : Except Er Val} (I : DI K Cl Z H σ ρ) (h : f ρ = some r) (he : ∀ e, r = .error e → ErOk Cl W σ H e)
    (go : ∀ v x H1, r = .ok v → Same Cl H H1 → VOk K Z σ ρ H H1 x v → DI K Cl Z H1 σ ρ → Q1 x H1) : teOf K Cl W f σ H Q1 := by
  refine ⟨Z, ρ, r, I, h, ?_⟩
  cases r with
  | error e => exact he e rfl
  | ok v => exact fun x H1 s hv => go v x H1 rfl s hv (I.same s)
theorem ta_step {K : PySem.W.Frag} {Cl : Nat → Addr} {W : WX} {Z : Addr → Prop} {H : Hp} {σ : St} {ρ : Rho} {Q1 : List V → Hp → Prop} {f : FA} {r : Except Er (List Val)} (I : DI K Cl Z H σ ρ) (h : f ρ = some r) (he : ∀ e, r = .error e → ErOk Cl W σ H e)
    (go : ∀ vs xs H1, r = .ok vs → Same Cl H H1 → VAll K Z σ ρ H H1 xs vs → DI K Cl Z H1 σ ρ → Q1 xs H1) : taOf K Cl W f σ H Q1 := by
  refine ⟨Z, ρ, r, I, h, ?_⟩
  cases r with
  | error e => exact he e rfl
  | ok vs => exact fun x H1 s hv => go vs x H1 rfl s hv (I.same s)
section
variable {K : PySem.W.Frag} {Cl : Nat → Addr}  {Z : Addr → Prop} {σ : St} {ρ : Rho} {H0 H H1 H2 : Hp}
theorem VAll.same : ∀ {xs : List V} {vs : List Val}, Same Cl H1 H2 → VAll K Z σ ρ H0 H1 xs vs → VAll K Z σ ρ H0 H2 xs vs
  | _, _, _, .nil => .nil
  | _, _, s, .cons h t => .cons (h.same s) (VAll.same s t)
theorem VAll.back : ∀ {xs : List V} {vs : List Val}, Same Cl H0 H → VAll K Z σ ρ H H1 xs vs → VAll K Z σ ρ H0 H1 xs vs
  | _, _, _, .nil => .nil
  | _, _, s, .cons h t => .cons (h.back s) (VAll.back s t)
theorem VAll.dp (I : DI K Cl Z H0 σ ρ) : ∀ {xs : List V} {vs : List Val}, VAll K Z σ ρ H0 H1 xs vs → DpAll K (hide H1 Z) xs (vs.map Val.d)
  | _, _, .nil => .nil
  | _, _, .cons h t => .cons (h.dp I) (VAll.dp I t)
@[simp] def stAll : List Val → Option (List D)
  | [] => some []
  | v :: vs => match v.st, stAll vs with
    | some d, some ds => some (d :: ds)
    | _, _ => none
theorem VAll.stab (I : DI K Cl Z H0 σ ρ) : ∀ {xs : List V} {vs : List Val} {ds : List D}, stAll vs = some ds → VAll K Z σ ρ H0 H1 xs vs → DpAll K (hide H1 (Zo Z σ ρ)) xs ds
  | _, _, _, e, .nil => by cases e; exact .nil
  | _, _, ds, e, .cons h t => by
    simp only [stAll] at e
    split at e
    · rename_i d es e1 e2
      cases e
      exact .cons (h.stab I e1) (VAll.stab I e2 t)
    · cases e
theorem stAll_len : ∀ {vs : List Val} {ds : List D}, stAll vs = some ds → ds.length = vs.length
  | [], _, e => by cases e; rfl
  | v :: vs, ds, e => by
    simp only [stAll] at e
    split at e
    · rename_i d es e1 e2
      cases e
      rw [List.length_cons, List.length_cons, stAll_len e2]
    · cases e
end
@[simp] def aNil (ρ : Rho) : Option (Except Er (List Val)) := some (.ok [])
@[simp] def aCons (f : FE) (g : FA) (ρ : Rho) : Option (Except Er (List Val)) := match f ρ with
  | none => none
  | some (.error e) => some (.error e)
  | some (.ok v) => match g ρ with
    | none => none
    | some (.error e) => some (.error e)
    | some (.ok vs) => some (.ok (v :: vs))
section
variable {X : Cx} {Cl : Nat → Addr} {W : WX} {a b c e : Expr} {es : List Expr} {fa fb fc f : FE} {g : FA} {p pos : Pos}
theorem da_nil : DA X Cl W [] aNil := PA.imp pa_nil fun σ H Q ⟨Z, ρ, r, I, e, q⟩ => by
  cases e
  exact q [] H (Same.refl _) .nil
theorem da_cons (ha : DE X Cl W e f) (hr : DA X Cl W es g) (hs : starEach (e :: es) X.env = (false, eval e X.env) :: starEach es X.env := by rfl) : DA X Cl W (e :: es) (aCons f g) := PA.imp (pa_cons ha hr hs) fun σ H Q ⟨Z, ρ, r, I, e, q⟩ => by
  unfold aCons at e
  cases e1 : f ρ with
  | none => rw [e1] at e; cases e
  | some r1 =>
    refine te_step I e1 (fun er z => ?_) fun v x H1 ev s1 hv I1 => ?_
    · rw [e1, z] at e
      cases e
      exact q
    · subst ev
      rw [e1] at e
      cases e2 : g ρ with
      | none => rw [e2] at e; cases e
      | some r2 =>
        refine ta_step I1 e2 (fun er z => ?_) fun vs xs H2 ev s2 hvs I2 => ?_
        · rw [e2, z] at e
          cases e
          exact ErOk.same s1 q
        · subst ev
          rw [e2] at e
          cases e
          exact q (x :: xs) H2 (s1.trans s2) (.cons (hv.same s2) (hvs.back s1))
@[simp] def Val.parts : Val → Option (List Val)
  | .s (.list ds) => some (ds.map .s)
  | .s (.tuple ds) => some (ds.map .s)
  | .m (.list ds) => some (ds.map .m)
  | .m (.tuple ds) => some (ds.map .m)
  | .b ds => some (ds.map .s)
  | .f ds => some (ds.map .s)
  | _ => none
theorem vall_s {K : PySem.W.Frag} {Z : Addr → Prop} {σ : St} {ρ : Rho} {H0 H1 : Hp} : ∀ {xs : List V} {ds : List D}, DpAll K (hide H1 (Zo Z σ ρ)) xs ds → VAll K Z σ ρ H0 H1 xs (ds.map .s)
  | _, _, .nil => .nil
  | _, _, .cons h t => .cons h (vall_s t)
theorem vall_m {K : PySem.W.Frag} {Z : Addr → Prop} {σ : St} {ρ : Rho} {H0 H1 : Hp} : ∀ {xs : List V} {ds : List D}, DpAll K (hide H1 Z) xs ds → VAll K Z σ ρ H0 H1 xs (ds.map .m)
  | _, _, .nil => .nil
  | _, _, .cons h t => .cons h (vall_m t)
theorem VOk.parts {K : PySem.W.Frag} {Z : Addr → Prop} {σ : St} {ρ : Rho} {H0 H : Hp} {x : V} {v : Val} {vs : List Val} (I : DI K Cl Z H0 σ ρ) (h : VOk K Z σ ρ H0 H x v) (e : v.parts = some vs) :
    ∃ p xs, x = .ref p ∧ (SqT K H p xs ∨ SqL K H p xs) ∧ VAll K Z σ ρ H0 H xs vs := by
  cases v with
  | s d =>
    cases d with
    | list ds =>
      cases e
      obtain ⟨p, xs, rfl, h1, h2⟩ := Dp.lst_inv (show Dp K (hide H (Zo Z σ ρ)) x (.list ds) from h)
      exact ⟨p, xs, rfl, .inr (.inl (Rd.same hide_sub h1)), vall_s h2⟩
    | tuple ds =>
      cases e
      obtain ⟨p, xs, rfl, h1, h2⟩ := Dp.tup_inv (show Dp K (hide H (Zo Z σ ρ)) x (.tuple ds) from h)
      exact ⟨p, xs, rfl, .inl (SqT.same hide_sub h1), vall_s h2⟩
    | _ => cases e
  | m d =>
    cases d with
    | list ds =>
      cases e
      obtain ⟨p, xs, rfl, h1, h2⟩ := Dp.lst_inv (show Dp K (hide H Z) x (.list ds) from h)
      exact ⟨p, xs, rfl, .inr (.inl (Rd.same hide_sub h1)), vall_m h2⟩
    | tuple ds =>
      cases e
      obtain ⟨p, xs, rfl, h1, h2⟩ := Dp.tup_inv (show Dp K (hide H Z) x (.tuple ds) from h)
      exact ⟨p, xs, rfl, .inl (SqT.same hide_sub h1), vall_m h2⟩
    | _ => cases e
  | b ds =>
    cases e
    obtain ⟨p, xs, rfl, n, h1, h2⟩ := h
    exact ⟨p, xs, rfl, .inr (SqL.of h1), vall_s h2⟩
  | f ds =>
    cases e
    obtain ⟨p, xs, rfl, n, h1, h2⟩ := h
    exact ⟨p, xs, rfl, .inr (SqL.of h1), vall_s (DpAll.same (hide_monoD (SameD.refl _) fun _ h => .inl (.inl h)) h2)⟩
theorem VAll.append {K : PySem.W.Frag} {Z : Addr → Prop} {σ : St} {ρ : Rho} {H0 H1 : Hp} : ∀ {xs ys : List V} {vs ws : List Val}, VAll K Z σ ρ H0 H1 xs vs → VAll K Z σ ρ H0 H1 ys ws → VAll K Z σ ρ H0 H1 (xs ++ ys) (vs ++ ws)
  | _, _, _, _, .nil, s => s
  | _, _, _, _, .cons r t, s => .cons r (VAll.append t s)
@[simp] def aStar (f : FE) (g : FA) (ρ : Rho) : Option (Except Er (List Val)) := match f ρ with
  | none => none
  | some (.error e) => some (.error e)
  | some (.ok v) => match v.parts with
    | none => none
    | some us => match g ρ with
      | none => none
      | some (.error e) => some (.error e)
      | some (.ok vs) => some (.ok (us ++ vs))
def CRD (K : PySem.W.Frag) (r : List V → Hp → VK → Prop) (g : List Val → Option Val) : Prop := ∀ (Cl : Nat → Addr) (Z : Addr → Prop) (σ : St) (ρ : Rho) (H0 H : Hp) (xs : List V) (vs : List Val) (v : Val) (Q : VK), DI K Cl Z H0 σ ρ → Same Cl H0 H → VAll K Z σ ρ H0 H xs vs → g vs = some v →
  (∀ z H', Same Cl H H' → VOk K Z σ ρ H0 H' z v → Q z H') → r xs H Q
@[simp] def eG (h : List Val → Option Val) (g : FA) (ρ : Rho) : Option (Except Er Val) := match g ρ with
  | none => none
  | some (.error e) => some (.error e)
  | some (.ok vs) => (h vs).map .ok
theorem de_tCB {r : List V → Hp → VK → Prop} {h : List Val → Option Val} (hp : PE X e (tCB r (taOf X.K Cl W g))) (hr : CRD X.K r h) : DE X Cl W e (eG h g) := PE.imp hp fun σ H Q ⟨Z, ρ, r1, I, e, q⟩ => by
  unfold eG at e
  cases e1 : g ρ with
  | none => rw [e1] at e; cases e
  | some r2 =>
    refine ta_step I e1 (fun er z => ?_) fun vs xs H1 ev s1 hvs I1 => ?_
    · rw [e1, z] at e
      cases e
      exact q
    · subst ev
      rw [e1] at e
      dsimp only at e
      cases e2 : h vs with
      | none => rw [e2] at e; cases e
      | some v =>
        rw [e2] at e
        cases e
        exact hr Cl Z σ ρ H H1 xs vs v Q I s1 hvs e2 fun z H' s' hz => q z H' (s1.trans s') hz
theorem de_callB {id : String} {x : Str} {r : List V → Hp → VK → Prop} {h : List Val → Option Val} (hc : CallR X (.builtin id) r) (hr : CRD X.K r h) (hm : X.mg x = none) (hv : bootBuiltins x = some (.builtin id)) (ha : DA X Cl W (e :: es) g) (hg : Gl X x := by rfl) (hn : x ≠ "__name__" := by decide) (hdb : (x == ("__debug__" : Str)) = false := by decide)
    (he : starEach (e :: es) X.env = (false, eval e X.env) :: starEach es X.env := by rfl) (hpl : (backTo pos (starEach es X.env)).any (·.1) = false := by rfl) : DE X Cl W (.Call (.Name x p) (e :: es) [] pos) (eG h g) :=
  de_tCB (pe_callB hc hg hm hv ha hn hdb he hpl) hr
theorem de_callTy {id : String} {x : Str} {r : List V → Hp → VK → Prop} {h : List Val → Option Val} (hc : CallR X (.type id) r) (hr : CRD X.K r h) (hm : X.mg x = none) (hv : bootBuiltins x = some (.type id)) (ha : DA X Cl W (e :: es) g) (hg : Gl X x := by rfl) (hn : x ≠ "__name__" := by decide) (hdb : (x == ("__debug__" : Str)) = false := by decide)
    (he : starEach (e :: es) X.env = (false, eval e X.env) :: starEach es X.env := by rfl) (hpl : (backTo pos (starEach es X.env)).any (·.1) = false := by rfl) : DE X Cl W (.Call (.Name x p) (e :: es) [] pos) (eG h g) :=
  de_tCB (pe_callTy hc hg hm hv ha hn hdb he hpl) hr
theorem VAll.one {K : PySem.W.Frag} {Z : Addr → Prop} {σ : St} {ρ : Rho} {H0 H1 : Hp} {xs : List V} {v : Val} (h : VAll K Z σ ρ H0 H1 xs [v]) : ∃ x, xs = [x] ∧ VOk K Z σ ρ H0 H1 x v := by
  cases h with
  | cons h t => cases t; exact ⟨_, rfl, h⟩
theorem VAll.two {K : PySem.W.Frag} {Z : Addr → Prop} {σ : St} {ρ : Rho} {H0 H1 : Hp} {xs : List V} {v u : Val} (h : VAll K Z σ ρ H0 H1 xs [v, u]) : ∃ x y, xs = [x, y] ∧ VOk K Z σ ρ H0 H1 x v ∧ VOk K Z σ ρ H0 H1 y u := by
  cases h with
  | cons h t =>
    cases t with
    | cons h2 t2 => cases t2; exact ⟨_, _, rfl, h, h2⟩
variable {K : PySem.W.Frag} {Cl : Nat → Addr}
@[simp] def lenD : D → Option Nat
  | .str x => if lineOk x.length = true then some x.length else none
  | .list ds => some ds.length
  | .tuple ds => some ds.length
  | .dict ks => if excL ks = true then none else some ks.length
  | _ => none
@[simp] def bLen : List Val → Option Val
  | [v] => (lenD v.d).map fun n => .s (.int n)
  | _ => none
theorem Dp.lenV {H : Hp} {x : V} {d : D} {n : Nat} (h : Dp K H x d) (e : lenD d = some n) : LenV K x H n := by
  cases h with
  | str x =>
    simp only [lenD] at e
    split at e
    · rename_i hl
      cases e
      exact ⟨lineOk_ok hl, rfl⟩
    · cases e
  | lst h t => cases e; exact .inl ⟨_, .inl h, t.length.symm⟩
  | tup h t => cases e; exact .inr ⟨_, h, t.length.symm⟩
  | @scr a ns h =>
    simp only [lenD] at e
    rw [excL_scr, if_neg Bool.false_ne_true] at e
    cases e
    exact .inl ⟨_, h, by rw [List.length_map, List.length_map]⟩
  | exc _ _ => cases e
  | _ => cases e
theorem cr_len : CRD K (fun xs H Q => ∃ x n, xs = [x] ∧ LenV K x H n ∧ Q (.int n) H) bLen := fun Cl Z σ ρ H0 H xs vs v Q I s hv e q => by
  unfold bLen at e
  split at e
  · rename_i u
    obtain ⟨x, rfl, h⟩ := hv.one
    cases e1 : lenD u.d with
    | none => rw [e1] at e; cases e
    | some n =>
      rw [e1] at e
      cases e
      exact ⟨x, n, rfl, (Dp.same hide_sub (h.dp I)).lenV e1, q _ H (Same.refl _) (.int _)⟩
  · cases e
@[simp] def bInt : List Val → Option Val
  | [v] => match v.d with
    | .int i => some (.s (.int i))
    | .bool b => some (.s (.int (if b then 1 else 0)))
    | _ => none
  | _ => none
theorem cr_int : CRD K (fun xs H Q => (∃ i, xs = [.int i] ∧ Q (.int i) H) ∨ ∃ k, xs = [.bl k] ∧ Q (.int (if k then 1 else 0)) H) bInt := fun Cl Z σ ρ H0 H xs vs v Q I s hv e q => by
  unfold bInt at e
  split at e
  · rename_i u
    obtain ⟨x, rfl, h⟩ := hv.one
    split at e
    · rename_i i e1
      cases e
      exact .inl ⟨i, by rw [h.int_inv I e1], q _ H (Same.refl _) (.int _)⟩
    · rename_i i e1
      cases e
      exact .inr ⟨i, by rw [h.bl_inv I e1], q _ H (Same.refl _) (.int _)⟩
    · cases e
  · cases e
@[simp] def bAbs : List Val → Option Val
  | [v] => match v.d with
    | .int i => some (.s (.int (if i < 0 then -i else i)))
    | _ => none
  | _ => none
theorem cr_abs : CRD K (fun xs H Q => ∃ i, xs = [.int i] ∧ Q (.int (if i < 0 then -i else i)) H) bAbs := fun Cl Z σ ρ H0 H xs vs v Q I s hv e q => by
  unfold bAbs at e
  split at e
  · rename_i u
    obtain ⟨x, rfl, h⟩ := hv.one
    split at e
    · rename_i i e1
      cases e
      exact ⟨i, by rw [h.int_inv I e1], q _ H (Same.refl _) (.int _)⟩
    · cases e
  · cases e
@[simp] def bMin : List Val → Option Val
  | [v, u] => match v.d, u.d with
    | .int i, .int j => some (.s (.int (if j < i then j else i)))
    | _, _ => none
  | _ => none
theorem cr_min2 : CRD K (fun xs H Q => ∃ i j, xs = [.int i, .int j] ∧ Q (.int (if j < i then j else i)) H) bMin := fun Cl Z σ ρ H0 H xs vs v Q I s hv e q => by
  unfold bMin at e
  split at e
  · rename_i u w
    obtain ⟨x, y, rfl, h, h2⟩ := hv.two
    split at e
    · rename_i i j e1 e2
      cases e
      exact ⟨i, j, by rw [h.int_inv I e1, h2.int_inv I e2], q _ H (Same.refl _) (.int _)⟩
    · cases e
  · cases e
@[simp] def bMax : List Val → Option Val
  | [v, u] => match v.d, u.d with
    | .int i, .int j => some (.s (.int (if j > i then j else i)))
    | _, _ => none
  | _ => none
@[simp] def Val.seq : Val → Option (List D)
  | .s (.tuple ds) => some ds
  | .m (.tuple ds) => if ds.all scalarD = true then some ds else none
  | v => v.items
theorem VOk.seq {Z : Addr → Prop} {σ : St} {ρ : Rho} {H0 H : Hp} {x : V} {a : Val} {ds : List D} (I : DI K Cl Z H0 σ ρ) (e : a.seq = some ds) (h : VOk K Z σ ρ H0 H x a) : ∃ p xs, x = .ref p ∧ (SqL K H p xs ∨ SqT K H p xs) ∧ DpAll K (hide H (Zo Z σ ρ)) xs ds := by
  have go : a.items = some ds → ∃ p xs, x = .ref p ∧ (SqL K H p xs ∨ SqT K H p xs) ∧ DpAll K (hide H (Zo Z σ ρ)) xs ds := fun e => by
    obtain ⟨p, xs, e1, e2, e3⟩ := h.items I e
    exact ⟨p, xs, e1, .inl (.inl e2), e3⟩
  unfold Val.seq at e
  split at e
  · rename_i ys
    cases e
    obtain ⟨p, xs, rfl, h1, h2⟩ := Dp.tup_inv (show Dp K (hide H (Zo Z σ ρ)) x (.tuple ds) from h)
    exact ⟨p, xs, rfl, .inr (SqT.same hide_sub h1), h2⟩
  · rename_i ys
    split at e
    · rename_i sc
      cases e
      obtain ⟨p, xs, rfl, h1, h2⟩ := Dp.tup_inv (show Dp K (hide H Z) x (.tuple ds) from h)
      exact ⟨p, xs, rfl, .inr (SqT.same hide_sub h1), DpAll.scalar sc h2⟩
    · cases e
  · exact go e
@[simp] def bList : List Val → Option Val
  | [v] => v.seq.map .f
  | _ => none
theorem cr_list : CRD K (fun xs H Q => ∃ p ys, xs = [.ref p] ∧ (SqL K H p ys ∨ SqT K H p ys) ∧ ∀ l, H l = none → Q (.ref l) (upd H l (.lst ys))) bList := fun Cl Z σ ρ H0 H xs vs v Q I s hv e q => by
  unfold bList at e
  split at e
  · rename_i u
    obtain ⟨x, rfl, h⟩ := hv.one
    cases e1 : u.seq with
    | none => rw [e1] at e; cases e
    | some ds =>
      rw [e1] at e
      cases e
      obtain ⟨p, ys, rfl, h1, h2⟩ := h.seq I e1
      exact ⟨p, ys, rfl, h1, fun l nl => q _ _ (same_upd nl) (VOk.new s nl h2)⟩
  · cases e
def intsD : List D → Option (List Int)
  | [] => some []
  | .int i :: r => (intsD r).map (i :: ·)
  | _ => none
theorem intsD_map : ∀ (ns : List Int), intsD (ns.map PyData.int) = some ns
  | [] => rfl
  | n :: ns => by
    show (intsD (ns.map PyData.int)).map (n :: ·) = some (n :: ns)
    rw [intsD_map ns]
    rfl
theorem intsD_eq : ∀ {ds : List D} {ns : List Int}, intsD ds = some ns → ds = ns.map PyData.int
  | [], _, e => by cases e; rfl
  | .int i :: r, ns, e => by
    have e' : (intsD r).map (i :: ·) = some ns := e
    cases h : intsD r with
    | none => rw [h] at e'; cases e'
    | some ms =>
      rw [h] at e'
      cases e'
      rw [intsD_eq h]
      rfl
@[simp] def bSum : List Val → Option Val
  | [v] => match v.d with
    | .list ds => (intsD ds).map fun ns => .s (.int ns.sum)
    | _ => none
  | _ => none
@[simp] def tyN : D → String
  | .none => "NoneType" | .bool _ => "bool" | .int _ => "int" | .str _ => "str" | .list _ => "list" | .tuple _ => "tuple" | .dict _ => "list"
@[simp] def isTy (T : String) (d : D) : Bool := T == tyN d || (T == "int" && tyN d == "bool")
@[simp] def gIsi (T : String) (v : Val) : Option Val := if excV v.d = true then none else some (.s (.bool (isTy T v.d)))
theorem kit_all {T : String} {d : D} (h : T = "bool" ∨ T = "int" ∨ T = "str" ∨ T = "list" ∨ T = "tuple") : PySem.W.kitOne K (.type (tyN d)) (.type T) = some (isTy T d) := by
  refine kit_ty ?_
  rcases h with rfl | rfl | rfl | rfl | rfl <;> cases d <;> first | decide +kernel | rfl
theorem Dp.tyx {H : Hp} {x : V} {d : D} (n : ¬ excV d = true) (h : Dp K H x d) : TyX K H x (.type (tyN d)) := by
  cases h with
  | non => exact .base .non
  | bl b => exact .base (.bl b)
  | int i => exact .base (.int i)
  | str x => exact .base (.str x)
  | lst h t =>
    rcases h with h | ⟨o, h⟩
    · exact .base (.lst h)
    · exact .base (.frz h)
  | tup h t =>
    rcases h with (h | ⟨o, h⟩) | ⟨o, its, n, h, c, _⟩
    · exact .base (.tup h)
    · exact .fTuple h
    · exact .kTuple h c
  | scr h =>
    rcases h with (h | ⟨o, h⟩) | ⟨o, its, n, h, c, _⟩
    · exact .base (.lst h)
    · exact .base (.frz h)
    · exact .kList h c
  | exc _ _ => exact absurd rfl n
theorem de_isi {T : String} {y : Str} {q : Pos} {x : Str} (hx : x = "isinstance") (hm : X.mg x = none) (hy : X.mg y = none) (hT : bootBuiltins y = some (.type T)) (hk : T = "bool" ∨ T = "int" ∨ T = "str" ∨ T = "list" ∨ T = "tuple") (ha : DE X Cl W e f) (hg : Gl X x := by rfl) (hgy : Gl X y := by rfl) (hn : y ≠ "__name__" := by decide) (hdb : (y == ("__debug__" : Str)) = false := by decide)
    (hs : starEach [e, .Name y q] X.env = (false, eval e X.env) :: starEach [.Name y q] X.env := by rfl) (hs2 : starEach [.Name y q] X.env = (false, eval (.Name y q) X.env) :: starEach [] X.env := by rfl) (hpl : (backTo pos (starEach [.Name y q] X.env)).any (·.1) = false := by rfl) :
    DE X Cl W (.Call (.Name x p) [e, .Name y q] [] pos) (e1 (gIsi T) f) := by
  subst hx
  refine PE.imp (pe_callB call_isi hg hm PyProof.Rows.boot_isinstance (pa_cons ha (pa_cons (pe_bltn (v := .ty T) hgy hy hT rfl hn hdb) pa_nil hs2) hs) (by decide) (by decide) hs hpl) fun σ H Q ⟨Z, ρ, r1, I, e, q⟩ => ?_
  refine te_bind I e q fun v x H1 _ h1 s1 hv I1 q1 => ?_
  unfold gIsi at h1
  split at h1
  · cases h1
  rename_i n
  cases h1
  exact ⟨x, .ty T, _, _, _, rfl, .ty T, (Dp.same hide_sub (hv.dp I)).tyx n, kit_all hk, q _ H1 s1 (.bl _)⟩

@[simp] def eLst (g : FA) (ρ : Rho) : Option (Except Er Val) := match g ρ with
  | none => none
  | some (.error e) => some (.error e)
  | some (.ok vs) => if lineOk vs.length = true then match stAll vs with
    | some ds => some (.ok (.f ds))
    | none => some (.ok (.m (.list (vs.map Val.d)))) else none
@[simp] def eTup (g : FA) (ρ : Rho) : Option (Except Er Val) := match g ρ with
  | none => none
  | some (.error e) => some (.error e)
  | some (.ok vs) => if lineOk vs.length = true then match stAll vs with
    | some ds => some (.ok (.s (.tuple ds)))
    | none => some (.ok (.m (.tuple (vs.map Val.d)))) else none
theorem Paired.len {α β : Type} {F : α → β → Prop} {l₁ : List α} {l₂ : List β} (h : Paired F l₁ l₂) : l₁.length = l₂.length := Paired.length h
theorem de_lst (h : DA X Cl W es g) : DE X Cl W (.List es pos) (eLst g) := PE.imp (pe_lst h) fun σ H Q ⟨Z, ρ, r1, I, e, q⟩ => by
  unfold eLst at e
  cases e1 : g ρ with
  | none => rw [e1] at e; cases e
  | some r2 =>
    refine ta_step I e1 (fun er z => ?_) fun vs xs H1 ev s1 hvs I1 => ?_
    · rw [e1, z] at e
      cases e
      exact q
    · subst ev
      rw [e1] at e
      dsimp only at e
      split at e
      · rename_i hl
        refine ⟨by rw [Paired.len hvs]; exact lineOk_ok hl, fun p np => ?_⟩
        cases e2 : stAll vs with
        | some ds =>
          rw [e2] at e
          cases e
          exact q _ _ (s1.trans (same_upd np)) (VOk.new s1 np (hvs.stab I e2))
        | none =>
          rw [e2] at e
          cases e
          have nz : ¬ Z p := fun z => I1.live p z np
          refine q _ _ (s1.trans (same_upd np)) ?_
          exact .lst (Rd.of (hide_at nz upd_same)) (DpAll.same (hide_monoD (sameD_upd np) fun _ h => .inl h) (hvs.dp I))
      · cases e
theorem de_tup {x1} (h : DA X Cl W es g) : DE X Cl W (.Tuple es x1 pos) (eTup g) := PE.imp (pe_tup h) fun σ H Q ⟨Z, ρ, r1, I, e, q⟩ => by
  unfold eTup at e
  cases e1 : g ρ with
  | none => rw [e1] at e; cases e
  | some r2 =>
    refine ta_step I e1 (fun er z => ?_) fun vs xs H1 ev s1 hvs I1 => ?_
    · rw [e1, z] at e
      cases e
      exact q
    · subst ev
      rw [e1] at e
      dsimp only at e
      split at e
      · rename_i hl
        refine ⟨by rw [Paired.len hvs]; exact lineOk_ok hl, fun p np => ?_⟩
        cases e2 : stAll vs with
        | some ds =>
          rw [e2] at e
          cases e
          have nz : ¬ Zo Z σ ρ p := fun z => I1.liveZ z np
          refine q _ _ (s1.trans (same_upd np)) ?_
          exact .tup (SqT.of (hide_at nz upd_same)) (DpAll.same (hide_monoD (sameD_upd np) fun _ h => .inl h) (hvs.stab I e2))
        | none =>
          rw [e2] at e
          cases e
          have nz : ¬ Z p := fun z => I1.live p z np
          refine q _ _ (s1.trans (same_upd np)) ?_
          exact .tup (SqT.of (hide_at nz upd_same)) (DpAll.same (hide_monoD (sameD_upd np) fun _ h => .inl h) (hvs.dp I))
      · cases e

theorem Dp.scr_inv {H : Hp} {x : V} {ks : List (D × D)} (n : ¬ excL ks = true) (h : Dp K H x (.dict ks)) : ∃ (a : Addr) (ns : List Int), x = .ref a ∧ ks = (ns.map fun n => (.int n, .none)) ∧ SqL K H a (ns.map V.int) := by
  cases h with
  | scr h => exact ⟨_, _, rfl, rfl, h⟩
  | exc _ _ => exact absurd rfl n
theorem SqL.same' {H H' : Hp} {a : Addr} {xs : List V} (s : SameD H H') (h : SqL K H a xs) : SqL K H' a xs := s.seq h
def strAt (x : Str) (i : Int) : Option D := (atI x.cps.toList i).map fun c => .str ⟨#[c]⟩
@[simp] def gIx (a b : Val) : Option Val := match b.d with
  | .int i => match a with
    | .s (.list ds) => (atI ds i).map .s
    | .s (.tuple ds) => (atI ds i).map .s
    | .s (.str x) => if lineOk x.length = true then (strAt x i).map .s else none
    | .s (.dict ks) => if excL ks = true then none else (atI ks i).map fun p => .s p.1
    | .m (.list ds) => (atI ds i).map .m
    | .m (.tuple ds) => (atI ds i).map .m
    | .b ds => (atI ds i).map .s
    | .f ds => (atI ds i).map .s
    | _ => none
  | _ => none
theorem atI_pair {H : Hp} {xs : List V} {ds : List D} {i : Int} {d : D} (h : DpAll K H xs ds) (e : atI ds i = some d) : ∃ v, atI xs i = some v ∧ Dp K H v d := by
  unfold atI at e ⊢
  rw [h.length]
  cases e1 : ixN ds.length i with
  | none => rw [e1] at e; cases e
  | some j =>
    rw [e1] at e
    obtain ⟨v, h1, h2⟩ := h.get (show ds[j]? = some d from e)
    exact ⟨v, h1, h2⟩
theorem r2_ix : R2D K (rIx K) gIx := fun Cl Z σ ρ H0 H x y a b v Q I s ha hb e q => by
  unfold gIx at e
  split at e
  · rename_i i e1
    have ey := hb.int_inv I e1
    subst ey
    have L : ∀ {Hh : Hp} {ds : List D} {d : D}, SameD Hh H → Dp K Hh x (.list ds) → atI ds i = some d → (∀ z, Dp K Hh z d → Q z H) → rIx K x (.int i) H Q := fun {Hh ds d} sh h e q => by
      obtain ⟨p, xs, rfl, h1, h2⟩ := h.lst_inv
      obtain ⟨z, e2, hz⟩ := atI_pair h2 e
      exact .inl ⟨p, xs, i, z, rfl, rfl, .inl (Rd.same sh h1), e2, q z hz⟩
    have T : ∀ {Hh : Hp} {ds : List D} {d : D}, SameD Hh H → Dp K Hh x (.tuple ds) → atI ds i = some d → (∀ z, Dp K Hh z d → Q z H) → rIx K x (.int i) H Q := fun {Hh ds d} sh h e q => by
      obtain ⟨p, xs, rfl, h1, h2⟩ := h.tup_inv
      obtain ⟨z, e2, hz⟩ := atI_pair h2 e
      exact .inr (.inl ⟨p, xs, i, z, rfl, rfl, SqT.same sh h1, e2, q z hz⟩)
    split at e
    · rename_i ds
      cases e2 : atI ds i with
      | none => rw [e2] at e; cases e
      | some d => rw [e2] at e; cases e; exact L hide_sub (show Dp K (hide H (Zo Z σ ρ)) x (.list ds) from ha) e2 fun z hz => q z H (Same.refl _) hz
    · rename_i ds
      cases e2 : atI ds i with
      | none => rw [e2] at e; cases e
      | some d => rw [e2] at e; cases e; exact T hide_sub (show Dp K (hide H (Zo Z σ ρ)) x (.tuple ds) from ha) e2 fun z hz => q z H (Same.refl _) hz
    · rename_i t
      split at e
      · rename_i hl
        unfold strAt at e
        cases e2 : atI t.cps.toList i with
        | none => rw [e2] at e; cases e
        | some c =>
          rw [e2] at e
          cases e
          exact .inr (.inr ⟨t, i, c, (show Dp K (hide H (Zo Z σ ρ)) x (.str t) from ha).str_inv, rfl, lineOk_ok hl, e2, q _ H (Same.refl _) (.str _)⟩)
      · cases e
    · rename_i ks
      split at e
      · cases e
      rename_i nx
      cases e2 : atI ks i with
      | none => rw [e2] at e; cases e
      | some p =>
        rw [e2] at e
        cases e
        obtain ⟨a, ns, rfl, rfl, h1⟩ := (show Dp K (hide H (Zo Z σ ρ)) x (.dict ks) from ha).scr_inv nx
        have e3 : atI (ns.map V.int) i = some (toV p.1) ∧ ∃ n, p.1 = .int n := by
          unfold atI at e2 ⊢
          rw [List.length_map] at e2 ⊢
          cases e4 : ixN ns.length i with
          | none => rw [e4] at e2; cases e2
          | some j =>
            rw [e4] at e2
            have e5 : (ns.map fun n => ((PyData.int n, PyData.none) : D × D))[j]? = some p := e2
            show (ns.map V.int)[j]? = _ ∧ _
            rw [List.getElem?_map] at e5 ⊢
            cases e6 : ns[j]? with
            | none => rw [e6] at e5; cases e5
            | some n =>
              rw [e6] at e5
              cases e5
              exact ⟨rfl, n, rfl⟩
        obtain ⟨e4, n, en⟩ := e3
        refine .inl ⟨a, _, i, _, rfl, rfl, SqL.same' hide_sub h1, e4, q _ H (Same.refl _) ?_⟩
        show Dp K _ (toV p.1) p.1
        rw [en]
        exact .int n
    · rename_i ds
      cases e2 : atI ds i with
      | none => rw [e2] at e; cases e
      | some d => rw [e2] at e; cases e; exact L hide_sub (show Dp K (hide H Z) x (.list ds) from ha) e2 fun z hz => q z H (Same.refl _) hz
    · rename_i ds
      cases e2 : atI ds i with
      | none => rw [e2] at e; cases e
      | some d => rw [e2] at e; cases e; exact T hide_sub (show Dp K (hide H Z) x (.tuple ds) from ha) e2 fun z hz => q z H (Same.refl _) hz
    · rename_i ds
      cases e2 : atI ds i with
      | none => rw [e2] at e; cases e
      | some d =>
        rw [e2] at e
        cases e
        obtain ⟨p, xs, rfl, n, h1, h2⟩ := ha
        obtain ⟨z, e3, hz⟩ := atI_pair h2 e2
        exact .inl ⟨p, xs, i, z, rfl, rfl, SqL.of h1, e3, q z H (Same.refl _) hz⟩
    · rename_i ds
      cases e2 : atI ds i with
      | none => rw [e2] at e; cases e
      | some d =>
        rw [e2] at e
        cases e
        obtain ⟨p, xs, rfl, n, h1, h2⟩ := ha
        obtain ⟨z, e3, hz⟩ := atI_pair h2 e2
        exact .inl ⟨p, xs, i, z, rfl, rfl, SqL.of h1, e3, q z H (Same.refl _) (Dp.same (hide_monoD (SameD.refl _) fun _ h => .inl (.inl h)) hz)⟩
    · cases e
  · cases e
theorem de_ix (ha : DE X Cl W a fa) (hb : DE X Cl W b fb) (hs : PlainIx b := by exact fun _ _ => rfl) : DE X Cl W (.Subscript a b pos) (e2 gIx fa fb) := de_tOp (pe_ix ix_seq ha hb hs) r2_ix
abbrev FO := Rho → Option (Except Er (Option Int))
def toOf (K : PySem.W.Frag) (Cl : Nat → Addr) (W : WX) (f : FO) : TO := fun σ H Q => ∃ Z ρ r, DI K Cl Z H σ ρ ∧ f ρ = some r ∧ match r with
  | .ok o => ∀ H', Same Cl H H' → Q o H'
  | .error e => ErOk Cl W σ H e
@[simp] def oNone (ρ : Rho) : Option (Except Er (Option Int)) := some (.ok none)
@[simp] def oSome (f : FE) (ρ : Rho) : Option (Except Er (Option Int)) := match f ρ with
  | none => none
  | some (.error e) => some (.error e)
  | some (.ok v) => match v.d with
    | .int i => some (.ok (some i))
    | _ => none
def DO (X : Cx) (Cl : Nat → Addr) (W : WX) (e : Option Expr) (f : FO) : Prop := PO X e (toOf X.K Cl W f)
theorem PO.imp {e : Option Expr} {t t' : TO} (h : PO X e t) (i : ∀ σ H Q, t' σ H Q → t σ H Q) : PO X e t' := ⟨fun pins s σ H Q I q => h.run pins s σ H Q I (i σ H Q q)⟩
theorem do_none : DO X Cl W none oNone := PO.imp po_none fun σ H Q ⟨Z, ρ, r, I, e, q⟩ => by cases e; exact q H (Same.refl _)
theorem do_some (h : DE X Cl W e f) : DO X Cl W (some e) (oSome f) := PO.imp (po_some h) fun σ H Q ⟨Z, ρ, r, I, e, q⟩ => by
  unfold oSome at e
  cases e1 : f ρ with
  | none => rw [e1] at e; cases e
  | some r1 =>
    refine te_step I e1 (fun er z => ?_) fun v x H1 ev s1 hv I1 => ?_
    · rw [e1, z] at e
      cases e
      exact q
    · subst ev
      rw [e1] at e
      dsimp only at e
      split at e
      · rename_i i e2
        cases e
        exact ⟨i, hv.int_inv I e2, q H1 s1⟩
      · cases e
def cutL {α : Type} (xs : List α) (lo hi : Option Int) : List α := (xs.drop (HT.sIx xs.length 0 lo)).take (HT.sIx xs.length xs.length hi - HT.sIx xs.length 0 lo)
theorem cutL_dp {H : Hp} {xs : List V} {ds : List D} {lo hi : Option Int} (h : DpAll K H xs ds) : DpAll K H (cutV xs lo hi) (cutL ds lo hi) := by
  unfold cutV cutL
  rw [h.length]
  exact (h.drop _).take _
def whole (n : Nat) (lo hi : Option Int) : Bool := decide (HT.sIx n 0 lo = 0 ∧ HT.sIx n n hi = n)
@[simp] def gSl (v : Val) (lo hi : Option Int) : Option Val := match v with
  | .s (.tuple ds) => if whole ds.length lo hi = true then none else some (.s (.tuple (cutL ds lo hi)))
  | .m (.tuple ds) => if whole ds.length lo hi = true then none else some (.m (.tuple (cutL ds lo hi)))
  | v => match v.items with
    | some ds => some (.f (cutL ds lo hi))
    | none => none
@[simp] def eSl (f : FE) (l h : FO) (ρ : Rho) : Option (Except Er Val) := match f ρ with
  | none => none
  | some (.error e) => some (.error e)
  | some (.ok v) => match l ρ with
    | none => none
    | some (.error e) => some (.error e)
    | some (.ok lo) => match h ρ with
      | none => none
      | some (.error e) => some (.error e)
      | some (.ok hi) => (gSl v lo hi).map .ok
theorem de_sl {lo hi : Option Expr} {l h : FO} {p2 : Pos} (he : DE X Cl W e f) (hl : DO X Cl W lo l) (hh : DO X Cl W hi h) : DE X Cl W (.Subscript e (.Slice lo hi none p2) pos) (eSl f l h) := PE.imp (pe_slice (sl_list.or sl_tup) he hl hh) fun σ H Q ⟨Z, ρ, r, I, e, q⟩ => by
  unfold eSl at e
  cases e1 : f ρ with
  | none => rw [e1] at e; cases e
  | some r1 =>
    refine te_step I e1 (fun er z => ?_) fun v x H1 ev s1 hv I1 => ?_
    · rw [e1, z] at e
      cases e
      exact q
    · subst ev
      rw [e1] at e
      dsimp only at e
      cases e2 : l ρ with
      | none => rw [e2] at e; cases e
      | some r2 =>
        refine ⟨Z, ρ, r2, I1, e2, ?_⟩
        cases r2 with
        | error er =>
          rw [e2] at e
          cases e
          exact ErOk.same s1 q
        | ok o1 =>
          rw [e2] at e
          dsimp only at e
          intro H2 s2
          have I2 := I1.same s2
          cases e3 : h ρ with
          | none => rw [e3] at e; cases e
          | some r3 =>
            refine ⟨Z, ρ, r3, I2, e3, ?_⟩
            cases r3 with
            | error er =>
              rw [e3] at e
              cases e
              exact ErOk.same (s1.trans s2) q
            | ok o2 =>
              rw [e3] at e
              dsimp only at e
              intro H3 s3
              have hv3 := hv.same (s2.trans s3)
              have I3 := I2.same s3
              have s13 := s1.trans (s2.trans s3)
              cases e4 : gSl v o1 o2 with
              | none => rw [e4] at e; cases e
              | some w =>
                rw [e4] at e
                cases e
                unfold gSl at e4
                split at e4
                · rename_i ds
                  split at e4
                  · cases e4
                  · rename_i hw
                    cases e4
                    obtain ⟨p, xs, rfl, h1, h2⟩ := Dp.tup_inv (show Dp X.K (hide H3 (Zo Z σ ρ)) x (.tuple ds) from hv3)
                    refine .inr ⟨p, xs, rfl, SqT.same hide_sub h1, fun z => hw (decide_eq_true (by rw [h2.length] at z; exact z)), fun a na => ?_⟩
                    have nz : ¬ Zo Z σ ρ a := fun z => I3.liveZ z na
                    refine q _ _ (s13.trans (same_upd na)) ?_
                    exact .tup (SqT.of (hide_at nz upd_same)) (DpAll.same (hide_monoD (sameD_upd na) fun _ h => .inl h) (cutL_dp h2))
                · rename_i ds
                  split at e4
                  · cases e4
                  · rename_i hw
                    cases e4
                    obtain ⟨p, xs, rfl, h1, h2⟩ := Dp.tup_inv (show Dp X.K (hide H3 Z) x (.tuple ds) from hv3)
                    refine .inr ⟨p, xs, rfl, SqT.same hide_sub h1, fun z => hw (decide_eq_true (by rw [h2.length] at z; exact z)), fun a na => ?_⟩
                    have nz : ¬ Z a := fun z => I3.live a z na
                    refine q _ _ (s13.trans (same_upd na)) ?_
                    exact .tup (SqT.of (hide_at nz upd_same)) (DpAll.same (hide_monoD (sameD_upd na) fun _ h => .inl h) (cutL_dp h2))
                · split at e4
                  · rename_i ds e5
                    cases e4
                    obtain ⟨p, xs, rfl, h1, h2⟩ := hv3.items I e5
                    refine .inl ⟨p, xs, rfl, .inl h1, fun a na => ?_⟩
                    exact q _ _ (s13.trans (same_upd na)) (VOk.new s13 na (cutL_dp h2))
                  · cases e4

abbrev FT := Rho → Option (Except Er Bool)
def RTk (Cl : Nat → Addr) (W : WX) (σ : St) (H : Hp) (Q : Bool → Hp → Prop) : Except Er Bool → Prop
  | .ok b => ∀ H', Same Cl H H' → Q b H'
  | .error e => ErOk Cl W σ H e
def ttOf (K : PySem.W.Frag) (Cl : Nat → Addr) (W : WX) (f : FT) : TT := fun σ H Q => ∃ Z ρ r, DI K Cl Z H σ ρ ∧ f ρ = some r ∧ RTk Cl W σ H Q r
def DT (X : Cx) (Cl : Nat → Addr) (W : WX) (e : Expr) (f : FT) : Prop := PT X e (ttOf X.K Cl W f)
def DW (X : Cx) (Cl : Nat → Addr) (W : WX) (e : Expr) (f : FT) : Prop := PW X e (ttOf X.K Cl W f)
@[simp] def tV (f : FE) (ρ : Rho) : Option (Except Er Bool) := match f ρ with
  | none => none
  | some (.error e) => some (.error e)
  | some (.ok v) => match v.d with
    | .bool b => some (.ok b)
    | _ => none
theorem te_tV {Z : Addr → Prop} {H : Hp} {σ : St} {ρ : Rho} {Q : Bool → Hp → Prop} {r : Except Er Bool} (I : DI K Cl Z H σ ρ) (e : tV f ρ = some r) (q : RTk Cl W σ H Q r) :
    teOf K Cl W f σ H fun x H1 => ∃ k, x = .bl k ∧ Q k H1 := by
  unfold tV at e
  cases e1 : f ρ with
  | none => rw [e1] at e; cases e
  | some r1 =>
    refine te_step I e1 (fun er z => ?_) fun v x H1 ev s1 hv I1 => ?_
    · rw [e1, z] at e
      cases e
      exact q
    · subst ev
      rw [e1] at e
      dsimp only at e
      split at e
      · rename_i i e2
        cases e
        exact ⟨i, hv.bl_inv I e2, q H1 s1⟩
      · cases e
theorem dt_val (h : DE X Cl W e f) (he : ∀ whole, isTrue e X.env whole = (do let v ← whole; standAt e.pos; holding [v] (truthy v)) := by intro _; rfl) : DT X Cl W e (tV f) := PT.imp (pt_val h he) fun σ H Q ⟨Z, ρ, r, I, e, q⟩ => te_tV I e q
theorem dt_cmp {op : CmpOp} {r : R2} {g : Val → Val → Option Val} (ho : OpR X (compareOp op) r) (hr : R2D X.K r g) (ha : DE X Cl W a fa) (hb : DE X Cl W b fb) (hm : behindInMarks op b = false) : DT X Cl W (.Compare a [op] [b] pos) (tV (e2 g fa fb)) := PT.imp (pt_cmpR ho ha hb hm) fun σ H Q ⟨Z, ρ, r1, I, e, q⟩ => by
  have h := te_tV (W := W) (Cl := Cl) I e q
  obtain ⟨Z', ρ', r', I', e', q'⟩ := h
  refine te_bind I' e' q' fun v x H1 _ h1 s1 hv I1 q1 => te_bind I1 h1 q1 fun u y H2 _ h2 s2 hu I2 q2 => ?_
  cases hg : g v u with
  | none => rw [hg] at h2; cases h2
  | some w =>
    rw [hg] at h2
    cases h2
    exact hr Cl Z' σ ρ' H H2 x y v u w _ I' (s1.trans s2) (hv.same s2) (hu.back s1) hg fun z H' s' hz => q' z H' (s1.trans (s2.trans s')) hz
@[simp] def tAndD (f g : FT) (ρ : Rho) : Option (Except Er Bool) := match f ρ with
  | some (.ok true) => g ρ
  | r => r
@[simp] def tOrD (f g : FT) (ρ : Rho) : Option (Except Er Bool) := match f ρ with
  | some (.ok false) => g ρ
  | r => r
@[simp] def tNotD (f : FT) (ρ : Rho) : Option (Except Er Bool) := match f ρ with
  | some (.ok b) => some (.ok (!b))
  | r => r
theorem tt_step {Z : Addr → Prop} {H : Hp} {σ : St} {ρ : Rho} {Q1 : Bool → Hp → Prop} {f : FT} {r : Except Er Bool} (I : DI K Cl Z H σ ρ) (h : f ρ = some r) (he : ∀ e, r = .error e → ErOk Cl W σ H e)
    (go : ∀ b H1, r = .ok b → Same Cl H H1 → DI K Cl Z H1 σ ρ → Q1 b H1) : ttOf K Cl W f σ H Q1 := by
  refine ⟨Z, ρ, r, I, h, ?_⟩
  cases r with
  | error e => exact he e rfl
  | ok b => exact fun H1 s => go b H1 rfl s (I.same s)
variable {ta tb : FT} {rest : List Expr}
theorem dw_and1 (ha : DT X Cl W a ta) : DW X Cl W (.BoolOp .And [a] pos) ta := pw_and1 ha
theorem dw_or1 (ha : DT X Cl W a ta) : DW X Cl W (.BoolOp .Or [a] pos) ta := pw_or1 ha
theorem dw_and (ha : DT X Cl W a ta) (hb : DW X Cl W (.BoolOp .And (b :: rest) pos) tb) : DW X Cl W (.BoolOp .And (a :: b :: rest) pos) (tAndD ta tb) := PW.imp (pw_and ha hb) fun σ H Q ⟨Z, ρ, r, I, e, q⟩ => by
  unfold tAndD at e
  cases e1 : ta ρ with
  | none => rw [e1] at e; cases e
  | some r1 =>
    refine tt_step I e1 (fun er z => ?_) fun b H1 ev s1 I1 => ?_
    · rw [e1, z] at e
      cases e
      exact q
    · subst ev
      rw [e1] at e
      cases b with
      | true =>
        rw [if_pos rfl]
        refine ⟨Z, ρ, r, I1, e, ?_⟩
        cases r with
        | error er => exact ErOk.same s1 q
        | ok b => exact fun H2 s2 => q H2 (s1.trans s2)
      | false =>
        cases e
        exact q H1 s1
theorem dw_or (ha : DT X Cl W a ta) (hb : DW X Cl W (.BoolOp .Or (b :: rest) pos) tb) : DW X Cl W (.BoolOp .Or (a :: b :: rest) pos) (tOrD ta tb) := PW.imp (pw_or ha hb) fun σ H Q ⟨Z, ρ, r, I, e, q⟩ => by
  unfold tOrD at e
  cases e1 : ta ρ with
  | none => rw [e1] at e; cases e
  | some r1 =>
    refine tt_step I e1 (fun er z => ?_) fun b H1 ev s1 I1 => ?_
    · rw [e1, z] at e
      cases e
      exact q
    · subst ev
      rw [e1] at e
      cases b with
      | false =>
        rw [if_neg Bool.false_ne_true]
        refine ⟨Z, ρ, r, I1, e, ?_⟩
        cases r with
        | error er => exact ErOk.same s1 q
        | ok b => exact fun H2 s2 => q H2 (s1.trans s2)
      | true =>
        cases e
        exact q H1 s1
theorem dt_w (h : DW X Cl W e ta) : DT X Cl W e ta := PW.pt h
theorem dt_not (ha : DT X Cl W a ta) : DT X Cl W (.UnaryOp .Not a pos) (tNotD ta) := PT.imp (pt_not ha) fun σ H Q ⟨Z, ρ, r, I, e, q⟩ => by
  unfold tNotD at e
  cases e1 : ta ρ with
  | none => rw [e1] at e; cases e
  | some r1 =>
    refine tt_step I e1 (fun er z => ?_) fun b H1 ev s1 I1 => ?_
    · rw [e1, z] at e
      cases e
      exact q
    · subst ev
      rw [e1] at e
      cases e
      exact q H1 s1
@[simp] def eIf (t : FT) (f g : FE) (ρ : Rho) : Option (Except Er Val) := match t ρ with
  | none => none
  | some (.error e) => some (.error e)
  | some (.ok true) => f ρ
  | some (.ok false) => g ρ
@[simp] def eT (t : FT) (ρ : Rho) : Option (Except Er Val) := match t ρ with
  | none => none
  | some (.error e) => some (.error e)
  | some (.ok b) => ok (.bool b)
def eAndV (f g : FE) : FE := bE f fun v ρ => match v.d with
  | .bool true => g ρ
  | .bool false => ok (.bool false)
  | _ => none
def eOrV (f g : FE) : FE := bE f fun v ρ => match v.d with
  | .bool false => g ρ
  | .bool true => ok (.bool true)
  | _ => none
@[simp] def gNotV (v : Val) : Option Val := match v.d with
  | .bool b => some (.s (.bool (!b)))
  | _ => none
theorem de_one {op} (h : DE X Cl W a fa) : DE X Cl W (.BoolOp op [a] pos) fa := pe_one h
theorem de_andV (ha : DE X Cl W a fa) (hb : DE X Cl W (.BoolOp .And (b :: rest) pos) fb) : DE X Cl W (.BoolOp .And (a :: b :: rest) pos) (eAndV fa fb) := PE.imp (pe_and ha hb) fun σ H Q ⟨Z, ρ, r, I, e, q⟩ => by
  refine te_bind I e q fun v x H1 _ h1 s1 hv I1 q1 => ?_
  split at h1
  · rename_i e1
    exact ⟨true, hv.bl_inv I e1, ⟨Z, ρ, r, I1, h1, q1⟩⟩
  · rename_i e1
    cases h1
    exact ⟨false, hv.bl_inv I e1, q1 _ H1 (Same.refl _) (.bl _)⟩
  · cases h1
end
end DL
set_option Elab.async false
set_option linter.all false
set_option maxRecDepth 100000
set_option maxHeartbeats 4000000
namespace DL
open PySem PySem.Spec PyProof.Rows L2

inductive Out where
  | nx (ρ : Rho) | ret (d : D) | retF (ds : List D) | retX (ds : List D) (k : Nat) | brk (ρ : Rho) | ct (ρ : Rho) | exc (ρ : Rho) (c : Nat) (i : Int)
abbrev FS := Rho → Option Out
structure SI (K : PySem.W.Frag) (Cl : Nat → Addr) (H0 : Hp) (Z : Addr → Prop) (H : Hp) (σ : St) (ρ : Rho) : Prop where
  di : DI K Cl Z H σ ρ
  same : Same Cl H0 H
  new : ∀ a, Owned σ ρ a → H0 a = none
def OOk (K : PySem.W.Frag) (Cl : Nat → Addr) (W : WX) (H0 : Hp) (Z : Addr → Prop) (D : Ends) : Out → Prop
  | .nx ρ => ∀ σ H, SI K Cl H0 Z H σ ρ → D.nx σ H
  | .brk ρ => ∀ σ H, SI K Cl H0 Z H σ ρ → D.bk σ H
  | .ct ρ => ∀ σ H, SI K Cl H0 Z H σ ρ → D.ct σ H
  | .ret d => ∀ v H, Same Cl H0 H → Dp K (hide H Z) v d → D.rt v H
  | .retF ds => ∀ p xs H, Same Cl H0 H → H0 p = none → H p = some (.lst xs) → DpAll K (hide H (ZP Z p)) xs ds → D.rt (.ref p) H
  | .retX ds k => ∀ T p xs ys H, Same Cl H0 H → SqT K (hide H Z) T xs → DpAll K (hide H Z) xs ds → xs[k]? = some (.ref p) → H0 p = none → H p = some (.lst ys) → D.rt (.ref T) H
  | .exc ρ c i => ∀ dd σ H, SI K Cl H0 Z H σ ρ → H dd = some (.xd [(("at" : Str), .int i)]) → W (.ref (Cl c)) (some dd) σ H
def tsOf (K : PySem.W.Frag) (Cl : Nat → Addr) (W : WX) (f : FS) : TS := fun D σ H => ∃ H0 Z ρ o, SI K Cl H0 Z H σ ρ ∧ f ρ = some o ∧ OOk K Cl W H0 Z D o
def DS (X : Cx) (Cl : Nat → Addr) (W : WX) (st : Stmt) (f : FS) : Prop := PS X st (tsOf X.K Cl W f)
def DSs (X : Cx) (Cl : Nat → Addr) (W : WX) (st : List Stmt) (f : FS) : Prop := PSs X st (tsOf X.K Cl W f)
section
variable {K : PySem.W.Frag} {Cl : Nat → Addr} {W : WX} {H0 H1 : Hp} {Z : Addr → Prop} {H H' : Hp} {σ : St} {ρ : Rho} {D : Ends}
theorem SI.same' (I : SI K Cl H0 Z H σ ρ) (s : Same Cl H H') : SI K Cl H0 Z H' σ ρ := ⟨I.di.same s, I.same.trans s, I.new⟩
theorem SI.rebase (I : SI K Cl H1 Z H σ ρ) (s : Same Cl H0 H1) : SI K Cl H0 Z H σ ρ := ⟨I.di, s.trans I.same, fun a h => s.free (I.new a h)⟩
theorem OOk.rebase {o : Out} (s : Same Cl H0 H1) (h : OOk K Cl W H0 Z D o) : OOk K Cl W H1 Z D o := by
  cases o with
  | nx ρ => exact fun σ H I => h σ H (I.rebase s)
  | brk ρ => exact fun σ H I => h σ H (I.rebase s)
  | ct ρ => exact fun σ H I => h σ H (I.rebase s)
  | ret d => exact fun v H q e => h v H (s.trans q) e
  | retF ds => exact fun p xs H q n e1 e2 => h p xs H (s.trans q) (s.free n) e1 e2
  | retX ds k => exact fun T p xs ys H q e1 e2 e3 n e4 => h T p xs ys H (s.trans q) e1 e2 e3 (s.free n) e4
  | exc ρ c i => exact fun dd σ H I e => h dd σ H (I.rebase s) e
theorem OOk.err {e : Er} (I : SI K Cl H0 Z H σ ρ) (h : OOk K Cl W H0 Z D (.exc ρ e.1 e.2)) : ErOk Cl W σ H e := fun dd H' s hd => h dd σ H' (I.same' s) hd

theorem TBl.over {H4 : Hp} {L : Addr} {acc zs : List V} (t : TBl Cl H4) (hL : H4 L = some (.lst acc)) : TBl Cl (upd H4 L (.lst zs)) := fun p hp n => by
  have nP : ∀ {b : Addr} {o : HO}, H4 b = some o → (∀ ys, o ≠ .lst ys) → b ≠ L := fun {b o} e n z => by
    rw [z, hL] at e
    exact n _ (Option.some.inj e).symm
  obtain ⟨ps, h1, h2, h3⟩ := t p hp n
  refine ⟨ps, by rw [upd_ne (nP h1 fun _ z => by cases z)]; exact h1, h2, fun pos cv hc => ?_⟩
  obtain ⟨c, e1, e2⟩ := h3 pos cv hc
  exact ⟨c, e1, by rw [upd_ne (nP e2 fun _ z => by unfold LamX.CodeO at z; cases z)]; exact e2⟩
theorem Same.over {H1 H4 : Hp} {L : Addr} {acc zs : List V} (s : Same Cl H1 H4) (nL : H1 L = none) (hL : H4 L = some (.lst acc)) : Same Cl H1 (upd H4 L (.lst zs)) := by
  have ne : ∀ {b : Addr}, H1 b ≠ none → b ≠ L := fun {b} e z => e (by rw [z]; exact nL)
  exact ⟨fun b o e n => by rw [upd_ne (ne (by rw [e]; intro z; cases z))]; exact s.d b o e n, fun t => (s.tb t).over hL, fun b e => by rw [upd_ne (ne e)]; exact s.live b e⟩
theorem OwnAt.slot {i : Nat} {a : Addr} (h : OwnAt σ ρ i a) : ∃ s : Slot, ρ[i]? = some s ∧ s.owns := by
  rcases h with ⟨_, ds, h2⟩ | ⟨k, ds, h2⟩ | ⟨c, h2⟩
  · exact ⟨_, h2, trivial⟩
  · exact ⟨_, h2, trivial⟩
  · exact ⟨_, h2, trivial⟩
theorem own_sub {i : Nat} {x : Option V} {s : Slot} (hs : ¬ s.owns) {j : Nat} {a : Addr} (h : OwnAt (σ.set i x) (ρ.set i s) j a) : OwnAt σ ρ j a := by
  by_cases hj : i = j
  · subst hj
    have no : ∀ t : Slot, t.owns → (ρ.set i s)[i]? ≠ some t := fun t ht h2 => by
      rw [List.getElem?_set, if_pos rfl] at h2
      split at h2
      · rw [Option.some.inj h2] at hs
        exact hs ht
      · cases h2
    rcases h with ⟨_, ds, h2⟩ | ⟨k, ds, h2⟩ | ⟨c, h2⟩
    · exact absurd h2 (no (.own ds) trivial)
    · exact absurd h2 (no (.ownT a k ds) trivial)
    · exact absurd h2 (no (.cel a c) trivial)
  · unfold OwnAt at h ⊢
    rw [List.getElem?_set_ne hj, List.getElem?_set_ne hj] at h
    exact h
theorem DI.setS (I : DI K Cl Z H σ ρ) {i : Nat} {x : Option V} {s : Slot} (hs : ¬ s.owns) (h : ∀ Hs, SameD (hide H (Zo Z σ ρ)) Hs → SlotOk K Cl H Hs (some x) s) : DI K Cl Z H (σ.set i x) (ρ.set i s) := by
  have sub : ∀ a, Owned (σ.set i x) (ρ.set i s) a → Owned σ ρ a := fun a ⟨j, q⟩ => ⟨j, own_sub hs q⟩
  have hm : SameD (hide H (Zo Z σ ρ)) (hide H (Zo Z (σ.set i x) (ρ.set i s))) := hide_monoD (SameD.refl _) fun b hb => .inl (hb.elim .inl fun z => .inr (sub b z))
  refine ⟨by rw [List.length_set, List.length_set]; exact I.len, fun j k a h1 h2 => I.one j k a (own_sub hs h1) (own_sub hs h2), fun a q => I.out a (sub a q), I.live, fun j t e => ?_, I.tb⟩
  by_cases hj : i = j
  · subst hj
    rw [List.getElem?_set, if_pos rfl] at e
    split at e
    · rename_i hl
      cases e
      rw [List.getElem?_set, if_pos rfl, if_pos (by rw [← I.len]; exact hl)]
      exact h _ hm
    · cases e
  · rw [List.getElem?_set_ne hj] at e ⊢
    have q := I.slots j t e
    cases t with
    | un => trivial
    | dat d =>
      obtain ⟨v, e1, h1⟩ := q
      exact ⟨v, e1, Dp.same hm h1⟩
    | own ds =>
      obtain ⟨a, xs, e1, e2, h1⟩ := q
      exact ⟨a, xs, e1, e2, DpAll.same hm h1⟩
    | err a dd j => exact q
    | ownT a k ds =>
      obtain ⟨T, e1, h1⟩ := q
      exact ⟨T, e1, h1.same hm fun _ z => z⟩
    | pin a => exact q
    | ob k fs => exact ObOk.same hm q
    | cel a c =>
      obtain ⟨e1, u, e2, h1⟩ := q
      exact ⟨e1, u, e2, h1.same hm⟩
theorem DI.setDat (I : DI K Cl Z H σ ρ) {i : Nat} {v : V} {d : DL.D} (h : Dp K (hide H (Zo Z σ ρ)) v d) : DI K Cl Z H (σ.set i (some v)) (ρ.set i (.dat d)) :=
  I.setS (fun z => nomatch z) fun Hs s => ⟨v, rfl, Dp.same s h⟩
theorem DI.setUn (I : DI K Cl Z H σ ρ) {i : Nat} {x : Option V} : DI K Cl Z H (σ.set i x) (ρ.set i .un) := I.setS (fun z => nomatch z) fun _ _ => trivial
theorem SI.setDat (I : SI K Cl H0 Z H σ ρ) {i : Nat} {v : V} {d : DL.D} (h : Dp K (hide H (Zo Z σ ρ)) v d) : SI K Cl H0 Z H (σ.set i (some v)) (ρ.set i (.dat d)) :=
  ⟨I.di.setDat h, I.same, fun a ⟨j, q⟩ => I.new a ⟨j, own_sub (s := .dat d) (fun z => nomatch z) q⟩⟩
theorem SI.setUn (I : SI K Cl H0 Z H σ ρ) {i : Nat} {x : Option V} : SI K Cl H0 Z H (σ.set i x) (ρ.set i .un) :=
  ⟨I.di.setUn, I.same, fun a ⟨j, q⟩ => I.new a ⟨j, own_sub (s := .un) (fun z => nomatch z) q⟩⟩
theorem own_set {i : Nat} {p : Addr} {es : List DL.D} {j : Nat} {a : Addr} (h : OwnAt (σ.set i (some (.ref p))) (ρ.set i (.own es)) j a) : (i = j ∧ a = p) ∨ (i ≠ j ∧ OwnAt σ ρ j a) := by
  by_cases hj : i = j
  · subst hj
    rcases h with ⟨h1, ds, h2⟩ | ⟨k, ds, h2⟩ | ⟨c, h2⟩
    · rw [List.getElem?_set, if_pos rfl] at h1
      split at h1
      · cases h1
        exact .inl ⟨rfl, rfl⟩
      · cases h1
    · rw [List.getElem?_set, if_pos rfl] at h2
      split at h2
      · cases h2
      · cases h2
    · rw [List.getElem?_set, if_pos rfl] at h2
      split at h2
      · cases h2
      · cases h2
  · unfold OwnAt at h
    rw [List.getElem?_set_ne hj, List.getElem?_set_ne hj] at h
    exact .inr ⟨hj, h⟩
theorem DI.setOwn (I : DI K Cl Z H1 σ ρ) (s1 : Same Cl H1 H) {i : Nat} {p : Addr} {xs : List V} {ds : List DL.D} (np : H1 p = none) (hp : H p = some (.lst xs)) (h : DpAll K (hide H (ZP (Zo Z σ ρ) p)) xs ds) : DI K Cl Z H (σ.set i (some (.ref p))) (ρ.set i (.own ds)) := by
  have nz : ¬ Zo Z σ ρ p := fun z => I.liveZ z np
  have no : ∀ j, ¬ OwnAt σ ρ j p := fun j q => nz (.inr ⟨j, q⟩)
  have sub : ∀ b, Zo Z (σ.set i (some (.ref p))) (ρ.set i (.own ds)) b → ZP (Zo Z σ ρ) p b := fun b hb => by
    rcases hb with hb | ⟨j, q⟩
    · exact .inl (.inl hb)
    · rcases own_set q with ⟨_, e⟩ | ⟨_, q⟩
      · exact .inr e
      · exact .inl (.inr ⟨j, q⟩)
  have hm : SameD (hide H (ZP (Zo Z σ ρ) p)) (hide H (Zo Z (σ.set i (some (.ref p))) (ρ.set i (.own ds)))) := hide_monoD (SameD.refl _) fun b hb => .inl (sub b hb)
  have hm1 : SameD (hide H1 (Zo Z σ ρ)) (hide H (Zo Z (σ.set i (some (.ref p))) (ρ.set i (.own ds)))) := hide_mono s1 fun b hb => by
    rcases sub b hb with z | rfl
    · exact .inl z
    · exact .inr np
  have I' := I.same s1
  refine ⟨by rw [List.length_set, List.length_set]; exact I.len, fun j k a h1 h2 => ?_, fun a ⟨j, q⟩ => ?_, I'.live, fun j t e => ?_, I'.tb⟩
  · rcases own_set h1 with ⟨e1, e2⟩ | ⟨n1, q1⟩
    · rcases own_set h2 with ⟨e3, e4⟩ | ⟨n2, q2⟩
      · rw [← e1, ← e3]
      · rw [e2] at q2
        exact absurd q2 (no k)
    · rcases own_set h2 with ⟨e3, e4⟩ | ⟨n2, q2⟩
      · rw [e4] at q1
        exact absurd q1 (no j)
      · exact I.one j k a q1 q2
  · rcases own_set q with ⟨_, e⟩ | ⟨_, q⟩
    · rw [e]
      exact fun z => nz (.inl z)
    · exact I.out a ⟨j, q⟩
  · by_cases hj : i = j
    · subst hj
      rw [List.getElem?_set, if_pos rfl] at e
      split at e
      · rename_i hl
        cases e
        rw [List.getElem?_set, if_pos rfl, if_pos (by rw [← I.len]; exact hl)]
        exact ⟨p, xs, rfl, hp, DpAll.same hm h⟩
      · cases e
    · rw [List.getElem?_set_ne hj] at e ⊢
      have q := I.slots j t e
      cases t with
      | un => trivial
      | dat d =>
        obtain ⟨v, e1, h1⟩ := q
        exact ⟨v, e1, Dp.same hm1 h1⟩
      | own es =>
        obtain ⟨a, ys, e1, e2, h1⟩ := q
        exact ⟨a, ys, e1, s1.at e2, DpAll.same hm1 h1⟩
      | err a dd j => exact ⟨q.1, s1.at q.2⟩
      | ownT a k ds =>
        obtain ⟨T, e1, h1⟩ := q
        exact ⟨T, e1, h1.same hm1 fun _ z => s1.at z⟩
      | pin a => exact q
      | ob k fs => exact ObOk.same hm1 q
      | cel a c =>
        obtain ⟨e1, u, e2, h1⟩ := q
        exact ⟨e1, u, s1.cel h1 e2, h1.same hm1⟩
theorem SI.setOwn (I : SI K Cl H0 Z H1 σ ρ) (s1 : Same Cl H1 H) {i : Nat} {p : Addr} {xs : List V} {ds : List DL.D} (np : H1 p = none) (hp : H p = some (.lst xs)) (h : DpAll K (hide H (ZP (Zo Z σ ρ) p)) xs ds) : SI K Cl H0 Z H (σ.set i (some (.ref p))) (ρ.set i (.own ds)) := by
  refine ⟨I.di.setOwn s1 np hp h, I.same.trans s1, fun a ⟨j, q⟩ => ?_⟩
  rcases own_set q with ⟨_, e⟩ | ⟨_, q⟩
  · rw [e]
    exact I.same.free np
  · exact I.new a ⟨j, q⟩
theorem SI.write (I : SI K Cl H0 Z H σ ρ) {i : Nat} {p : Addr} {xs : List V} {ds es : List DL.D} (hi : σ[i]? = some (some (.ref p))) (hr : ρ[i]? = some (.own es)) (h : DpAll K (hide H (Zo Z σ ρ)) xs ds) : SI K Cl H0 Z (upd H p (.lst xs)) σ (ρ.set i (.own ds)) := by
  have hil : i < ρ.length := (List.getElem?_eq_some_iff.mp hr).1
  have own_iff : ∀ j a, OwnAt σ (ρ.set i (.own ds)) j a ↔ OwnAt σ ρ j a := fun j a => by
    by_cases hj : i = j
    · subst hj
      constructor
      · rintro (⟨h1, _⟩ | ⟨k, d, h2⟩ | ⟨c, h2⟩)
        · exact .inl ⟨h1, es, hr⟩
        · rw [List.getElem?_set, if_pos rfl, if_pos hil] at h2
          cases h2
        · rw [List.getElem?_set, if_pos rfl, if_pos hil] at h2
          cases h2
      · rintro (⟨h1, _⟩ | ⟨k, d, h2⟩ | ⟨c, h2⟩)
        · exact .inl ⟨h1, ds, by rw [List.getElem?_set, if_pos rfl, if_pos hil]⟩
        · rw [hr] at h2
          cases h2
        · rw [hr] at h2
          cases h2
    · unfold OwnAt
      rw [List.getElem?_set_ne hj]
  have zo_iff : ∀ b, Zo Z σ (ρ.set i (.own ds)) b ↔ Zo Z σ ρ b := fun b => by
    constructor
    · rintro (z | ⟨j, q⟩)
      · exact .inl z
      · exact .inr ⟨j, (own_iff j b).mp q⟩
    · rintro (z | ⟨j, q⟩)
      · exact .inl z
      · exact .inr ⟨j, (own_iff j b).mpr q⟩
  have hpo : Owned σ ρ p := ⟨i, .inl ⟨hi, es, hr⟩⟩
  have hm : SameD (hide H (Zo Z σ ρ)) (hide (upd H p (.lst xs)) (Zo Z σ (ρ.set i (.own ds)))) := fun b o e _ => by
    obtain ⟨n, e1⟩ := hide_of e
    have nb : b ≠ p := fun z => n (.inr (z ▸ hpo))
    exact hide_at (fun z => n ((zo_iff b).mp z)) (by rw [upd_ne nb]; exact e1)
  have live : ∀ a, H a ≠ none → upd H p (.lst xs) a ≠ none := fun a h z => by
    by_cases e : a = p
    · rw [e, upd_same] at z; cases z
    · rw [upd_ne e] at z; exact h z
  refine ⟨⟨by rw [List.length_set]; exact I.di.len, fun j k a h1 h2 => I.di.one j k a ((own_iff j a).mp h1) ((own_iff k a).mp h2), fun a ⟨j, q⟩ => I.di.out a ⟨j, (own_iff j a).mp q⟩, fun a z => live a (I.di.live a z), fun j t e => ?_, ?_⟩, ?_, fun a ⟨j, q⟩ => I.new a ⟨j, (own_iff j a).mp q⟩⟩
  · by_cases hj : i = j
    · subst hj
      rw [List.getElem?_set, if_pos rfl, if_pos hil] at e
      cases e
      exact ⟨p, xs, hi, upd_same, DpAll.same hm h⟩
    · rw [List.getElem?_set_ne hj] at e
      have q := I.di.slots j t e
      cases t with
      | un => trivial
      | dat d =>
        obtain ⟨v, e1, h1⟩ := q
        exact ⟨v, e1, Dp.same hm h1⟩
      | own gs =>
        obtain ⟨a, ys, e1, e2, h1⟩ := q
        have na : a ≠ p := fun z => hj (I.di.one i j p (.inl ⟨hi, es, hr⟩) (.inl ⟨by rw [← z]; exact e1, gs, e⟩))
        exact ⟨a, ys, e1, by rw [upd_ne na]; exact e2, DpAll.same hm h1⟩
      | err a dd j =>
        obtain ⟨p', xs', ep, hp', _⟩ := I.di.slots i _ hr
        rw [hi] at ep
        cases ep
        have nd : dd ≠ p := fun z => by
          have q2 := q.2
          rw [z, hp'] at q2
          cases q2
        exact ⟨q.1, by rw [upd_ne nd]; exact q.2⟩
      | ownT a k gs =>
        obtain ⟨T, e1, h1⟩ := q
        have na : a ≠ p := fun z => hj (I.di.one i j p (.inl ⟨hi, es, hr⟩) (.inr (.inl ⟨k, gs, by rw [← z]; exact e⟩)))
        exact ⟨T, e1, h1.same hm fun _ z => by rw [upd_ne na]; exact z⟩
      | pin a => exact q
      | ob k fs => 
        exact ObOk.same hm q
      | cel a c =>
        obtain ⟨e1, u, e2, h1⟩ := q
        have na : a ≠ p := fun z => hj (I.di.one i j p (.inl ⟨hi, es, hr⟩) (.inr (.inr ⟨c, by rw [← z]; exact e⟩)))
        exact ⟨e1, u, by rw [upd_ne na]; exact e2, h1.same hm⟩
  · obtain ⟨p', xs', ep, hp', _⟩ := I.di.slots i _ hr
    rw [hi] at ep
    cases ep
    exact I.di.tb.over hp'
  · obtain ⟨p', xs', ep, hp', _⟩ := I.di.slots i _ hr
    rw [hi] at ep
    cases ep
    exact I.same.over (I.new p hpo) hp'
end
end DL
set_option Elab.async false
set_option linter.all false
set_option maxRecDepth 100000
set_option maxHeartbeats 4000000
namespace DL
open PySem PySem.Spec PyProof.Rows L2
section
variable {X : Cx} {Cl : Nat → Addr} {W : WX} {e e' : Expr} {f f' : FE} {st : Stmt} {sts sts' : List Stmt} {pos : Pos} {K : PySem.W.Frag}

@[simp] def sE (f : FE) (k : Val → FS) (ρ : Rho) : Option Out := match f ρ with
  | none => none
  | some (.error e) => some (.exc ρ e.1 e.2)
  | some (.ok v) => k v ρ
theorem ts_step {H0 : Hp} {Z : Addr → Prop} {H : Hp} {σ : St} {ρ : Rho} {D : Ends} {k : Val → FS} {o : Out} {Q1 : VK} (I : SI K Cl H0 Z H σ ρ) (h : sE f k ρ = some o) (q : OOk K Cl W H0 Z D o)
    (go : ∀ v x H1, f ρ = some (.ok v) → k v ρ = some o → Same Cl H H1 → VOk K Z σ ρ H H1 x v → SI K Cl H0 Z H1 σ ρ → Q1 x H1) : teOf K Cl W f σ H Q1 := by
  unfold sE at h
  cases e : f ρ with
  | none => rw [e] at h; cases h
  | some r1 =>
    rw [e] at h
    refine te_step I.di e (fun er z => ?_) fun v x H1 ev s1 hv I1 => ?_
    · subst z
      cases h
      exact OOk.err I q
    · subst ev
      exact go v x H1 e h s1 hv (I.same' s1)

@[simp] def fNx (ρ : Rho) : Option Out := some (.nx ρ)
@[simp] def fSeq (f g : FS) (ρ : Rho) : Option Out := match f ρ with
  | some (.nx ρ') => g ρ'
  | r => r
theorem ds_nil : DSs X Cl W [] fNx := PSs.imp pss_nil fun D σ H ⟨H0, Z, ρ, o, I, e, q⟩ => by cases e; exact q σ H I
theorem ds_one {f : FS} (h : DS X Cl W st f) : DSs X Cl W [st] f := pss_one h
theorem ds_cons {f g : FS} (h1 : DS X Cl W st f) (h2 : DSs X Cl W sts g) : DSs X Cl W (st :: sts) (fSeq f g) := PSs.imp (pss_cons h1 h2) fun D σ H ⟨H0, Z, ρ, o, I, e, q⟩ => by
  unfold fSeq at e
  cases e1 : f ρ with
  | none => rw [e1] at e; cases e
  | some o1 =>
    rw [e1] at e
    refine ⟨H0, Z, ρ, o1, I, e1, ?_⟩
    cases o1 with
    | nx ρ' => exact fun σ' H' I' => ⟨H0, Z, ρ', o, I', e, q⟩
    | brk ρ' => cases e; exact q
    | ct ρ' => cases e; exact q
    | ret d => cases e; exact q
    | retF ds => cases e; exact q
    | retX ds k => cases e; exact q
    | exc ρ' c i => cases e; exact q
@[simp] def fBrk (ρ : Rho) : Option Out := some (.brk ρ)
@[simp] def fCt (ρ : Rho) : Option Out := some (.ct ρ)
@[simp] def fShare (i : Nat) (g : FS) (ρ : Rho) : Option Out := match ρ[i]? with
  | some (.own ds) => g (ρ.set i (.dat (.list ds)))
  | _ => g ρ
theorem SI.share {H0 : Hp} {Z : Addr → Prop} {H : Hp} {σ : St} {ρ : Rho} {i : Nat} {ds : List D} (I : SI K Cl H0 Z H σ ρ) (h : ρ[i]? = some (.own ds)) : SI K Cl H0 Z H σ (ρ.set i (.dat (.list ds))) := by
  obtain ⟨p, xs, e1, e2, h1⟩ := I.di.slots i _ h
  have sub : ∀ {j a}, OwnAt σ (ρ.set i (.dat (.list ds))) j a → i ≠ j ∧ OwnAt σ ρ j a := fun {j a} ho => by
    by_cases hj : i = j
    · subst hj
      obtain ⟨s, h2, h3⟩ := ho.slot
      rw [List.getElem?_set, if_pos rfl] at h2
      split at h2
      · cases h2
        cases h3
      · cases h2
    · unfold OwnAt at ho
      rw [List.getElem?_set_ne hj] at ho
      exact ⟨hj, ho⟩
  have hm : SameD (hide H (Zo Z σ ρ)) (hide H (Zo Z σ (ρ.set i (.dat (.list ds))))) := hide_monoD (SameD.refl _) fun b hb => .inl (hb.elim .inl fun ⟨j, z⟩ => .inr ⟨j, (sub z).2⟩)
  have np : ¬ Zo Z σ (ρ.set i (.dat (.list ds))) p := fun z => z.elim (I.di.out p ⟨i, .inl ⟨e1, ds, h⟩⟩) fun ⟨j, z⟩ => (sub z).1 (I.di.one i j p (.inl ⟨e1, ds, h⟩) (sub z).2)
  refine ⟨⟨by rw [List.length_set]; exact I.di.len, fun j k a h1 h2 => I.di.one j k a (sub h1).2 (sub h2).2, fun a ⟨j, z⟩ => I.di.out a ⟨j, (sub z).2⟩, I.di.live, fun j t e => ?_, I.di.tb⟩, I.same, fun a ⟨j, z⟩ => I.new a ⟨j, (sub z).2⟩⟩
  by_cases hj : i = j
  · subst hj
    rw [List.getElem?_set, if_pos rfl] at e
    split at e
    · cases e
      exact ⟨_, e1, .lst (Rd.of (hide_at np e2)) (DpAll.same hm h1)⟩
    · cases e
  · rw [List.getElem?_set_ne hj] at e
    have q := I.di.slots j t e
    cases t with
    | un => trivial
    | dat d =>
      obtain ⟨v, e1, h1⟩ := q
      exact ⟨v, e1, Dp.same hm h1⟩
    | own gs =>
      obtain ⟨a, ys, e1, e2, h1⟩ := q
      exact ⟨a, ys, e1, e2, DpAll.same hm h1⟩
    | err a dd j => exact q
    | ownT a k gs =>
      obtain ⟨T, e1, h1⟩ := q
      exact ⟨T, e1, h1.same hm fun _ z => z⟩
    | pin a => exact q
    | ob k fs => exact ObOk.same hm q
    | cel a c =>
      obtain ⟨e1, u, e2, h1⟩ := q
      exact ⟨e1, u, e2, h1.same hm⟩
theorem dss_share {i : Nat} {g : FS} (h : DSs X Cl W sts g) : DSs X Cl W sts (fShare i g) := PSs.imp h fun D σ H ⟨H0, Z, ρ, o, I, e, q⟩ => by
  unfold fShare at e
  split at e
  · rename_i ds hd
    exact ⟨H0, Z, _, o, I.share hd, e, q⟩
  · exact ⟨H0, Z, ρ, o, I, e, q⟩

def fSet (i : Nat) (f : FE) : FS := sE f fun v ρ => v.st.map fun d => .nx (ρ.set i (.dat d))
def fSetO (i : Nat) (f : FE) : FS := sE f fun v ρ => match v with
  | .f ds => some (.nx (ρ.set i (.own ds)))
  | _ => none
theorem set_read {i : Nat} {D : Ends} {σ : St} {H : Hp} (h : tsOf K Cl W (fSet i f) D σ H) : tAsg (teOf K Cl W f) (gName i) D σ H := by
  obtain ⟨H0, Z, ρ, o, I, e, q⟩ := h
  refine ts_step I e q fun v x H1 _ h1 s1 hv I1 => ?_
  cases e1 : v.st with
  | none => rw [e1] at h1; cases h1
  | some d =>
    rw [e1] at h1
    cases h1
    exact q _ _ (I1.setDat (hv.stab I.di e1))
theorem setO_read {i : Nat} {D : Ends} {σ : St} {H : Hp} (h : tsOf K Cl W (fSetO i f) D σ H) : tAsg (teOf K Cl W f) (gName i) D σ H := by
  obtain ⟨H0, Z, ρ, o, I, e, q⟩ := h
  refine ts_step I e q fun v x H1 _ h1 s1 hv I1 => ?_
  split at h1
  · cases h1
    obtain ⟨p, xs, rfl, n, e2, h2⟩ := hv
    exact q _ _ (I.setOwn s1 n e2 h2)
  · cases h1
theorem ds_set {i : Nat} {x : Str} {pos' : Pos} (hN : X.N.Nodup) (he : DE X Cl W e f) (hi : X.N[i]? = some x := by rfl) (hx : Loc X.env.scope x := by first | exact .inl rfl | exact .inr rfl) (hs : swapsWith e (some (.Name x pos')) pos.line X.env = pure false := by rfl) (hf : X.fn x = true ∨ X.env.scope.names.lookup x = some .local := by first | exact .inl rfl | exact .inr rfl) :
    DS X Cl W (.Assign [.Name x pos'] e pos) (fSet i f) := PS.imp (ps_set hN hi hx he hs hf) fun D σ H h => set_read h
theorem ds_setO {i : Nat} {x : Str} {pos' : Pos} (hN : X.N.Nodup) (he : DE X Cl W e f) (hi : X.N[i]? = some x := by rfl) (hx : Loc X.env.scope x := by first | exact .inl rfl | exact .inr rfl) (hs : swapsWith e (some (.Name x pos')) pos.line X.env = pure false := by rfl) (hf : X.fn x = true ∨ X.env.scope.names.lookup x = some .local := by first | exact .inl rfl | exact .inr rfl) :
    DS X Cl W (.Assign [.Name x pos'] e pos) (fSetO i f) := PS.imp (ps_set hN hi hx he hs hf) fun D σ H h => setO_read h
def fDrop (f : FE) : FS := sE f fun _ ρ => some (.nx ρ)
def fRet (f : FE) : FS := sE f fun v _ => match v with
  | .s d => some (.ret d)
  | .m d => some (.ret d)
  | .b ds => some (.retF ds)
  | .f ds => some (.retF ds)
theorem ds_ret (he : DE X Cl W e f) : DS X Cl W (.Return (some e) pos) (fRet f) := PS.imp (ps_ret he) fun D σ H ⟨H0, Z, ρ, o, I, e, q⟩ => by
  refine ts_step I e q fun v x H1 _ h1 s1 hv I1 => ?_
  cases v with
  | s d => cases h1; exact q x H1 I1.same (Dp.same (hide_monoD (SameD.refl _) fun _ h => .inl (.inl h)) hv)
  | m d => cases h1; exact q x H1 I1.same hv
  | b ds =>
    cases h1
    obtain ⟨p, xs, rfl, n, h2, h3⟩ := hv
    refine q p xs H1 I1.same (I.new p n) h2 (DpAll.same (hide_monoD (SameD.refl _) fun b hb => .inl ?_) h3)
    rcases hb with hb | rfl
    · exact .inl hb
    · exact .inr n
  | f ds =>
    cases h1
    obtain ⟨p, xs, rfl, n, h2, h3⟩ := hv
    refine q p xs H1 I1.same (I.same.free n) h2 (DpAll.same (hide_monoD (SameD.refl _) fun b hb => .inl ?_) h3)
    rcases hb with hb | rfl
    · exact .inl (.inl hb)
    · exact .inr rfl
@[simp] def fRetN (ρ : Rho) : Option Out := some (.ret .none)
@[simp] def fIf (t : FT) (f g : FS) (ρ : Rho) : Option Out := match t ρ with
  | none => none
  | some (.error e) => some (.exc ρ e.1 e.2)
  | some (.ok true) => f ρ
  | some (.ok false) => g ρ
theorem ds_if {c : Expr} {a b : List Stmt} {t : FT} {f g : FS} (hc : DT X Cl W c t) (ha : DSs X Cl W a f) (hb : DSs X Cl W b g) : DS X Cl W (.If c a b pos) (fIf t f g) := PS.imp (ps_if hc ha hb) fun D σ H ⟨H0, Z, ρ, o, I, e, q⟩ => by
  unfold fIf at e
  cases e1 : t ρ with
  | none => rw [e1] at e; cases e
  | some r1 =>
    refine tt_step I.di e1 (fun er z => ?_) fun b H1 ev s1 I1 => ?_
    · subst z
      rw [e1] at e
      cases e
      exact OOk.err I q
    · subst ev
      rw [e1] at e
      cases b with
      | true =>
        rw [if_pos rfl]
        exact ⟨H0, Z, ρ, o, I.same' s1, e, q⟩
      | false =>
        rw [if_neg Bool.false_ne_true]
        exact ⟨H0, Z, ρ, o, I.same' s1, e, q⟩
@[simp] def fAug (i : Nat) (g : Int → Int → Int) (f : FE) (ρ : Rho) : Option Out := match ρ[i]? with
  | some (.dat (.int a)) => sE f (fun v ρ => match v.d with
    | .int b => some (.nx (ρ.set i (.dat (.int (g a b)))))
    | _ => none) ρ
  | _ => none
theorem ownSlot {H0 : Hp} {Z : Addr → Prop} {H : Hp} {σ : St} {ρ : Rho} {i : Nat} {ds : List D} (I : SI K Cl H0 Z H σ ρ) (h : ρ[i]? = some (.own ds)) : ∃ p xs, σ[i]? = some (some (.ref p)) ∧ H p = some (.lst xs) ∧ DpAll K (hide H (Zo Z σ ρ)) xs ds := I.di.slots i _ h
@[simp] def fOwn (i : Nat) (k : List D → FS) (ρ : Rho) : Option Out := match ρ[i]? with
  | some (.own ds) => k ds ρ
  | _ => none
def fApp (i : Nat) (f : FE) : FS := fOwn i fun ds => sE f fun v ρ => match v.st with
  | some d => if lineOk (ds.length + 1) = true then some (.nx (ρ.set i (.own (ds ++ [d])))) else none
  | none => none
theorem ds_app {i : Nat} {c : Expr} (hp : PE X c (tBM X.K "list" rAppend (tVar i) (tCons (teOf X.K Cl W f) tNil))) (hs : swapsWith c none pos.line X.env = pure false := by rfl) : DS X Cl W (.Expr c pos) (fApp i f) := PS.imp (ps_expr hp hs) fun D σ H ⟨H0, Z, ρ, o, I, e, q⟩ => by
  unfold fApp fOwn at e
  split at e
  · rename_i ds hd
    obtain ⟨p, xs, e1, e2, h1⟩ := ownSlot I hd
    refine ⟨_, e1, .inl ⟨rfl, xs, .inl (.inl e2)⟩, ts_step I e q fun v x H1 _ h2 s1 hv I1 => ?_⟩
    split at h2
    · rename_i d hst
      split at h2
      · rename_i hl
        cases h2
        have h3 := DpAll.same (hide_mono s1 fun _ h => .inl h) h1
        refine ⟨p, xs, x, rfl, rfl, s1.at e2, by have := lineOk_ok hl; rw [h1.length]; omega, ?_⟩
        exact q _ _ (I1.write e1 hd (h3.append (.cons (hv.stab I.di hst) .nil)))
      · cases h2
    · cases h2
  · cases e
def fExt (i : Nat) (f : FE) : FS := fOwn i fun ds => sE f fun v ρ => match v.items with
  | some es => if lineOk (ds.length + es.length) = true then some (.nx (ρ.set i (.own (ds ++ es)))) else none
  | none => none
def fPop (i : Nat) : FS := fOwn i fun ds ρ => if ds.isEmpty = true then none else some (.nx (ρ.set i (.own ds.dropLast)))
def fPut (i : Nat) (fk fe : FE) : FS := sE fe fun v => fOwn i fun ds => sE fk fun k ρ => match k.d, v.st with
  | .int j, some d => (ixN ds.length j).map fun n => .nx (ρ.set i (.own (ds.set n d)))
  | _, _ => none
theorem zo_dat {Z : Addr → Prop} {H : Hp} {σ : St} {ρ : Rho} {i : Nat} {x : Option V} {d : D} : SameD (hide H (Zo Z σ ρ)) (hide H (Zo Z (σ.set i x) (ρ.set i (.dat d)))) :=
  hide_monoD (SameD.refl _) fun b hb => .inl (hb.elim .inl fun ⟨j, z⟩ => .inr ⟨j, own_sub (s := .dat d) (fun z => nomatch z) z⟩)
abbrev FG := D → Rho → Option Rho
def tgOf (K : PySem.W.Frag) (Cl : Nat → Addr) (g : FG) : TG := fun v σ H Q => ∃ H0 Z ρ d ρ', SI K Cl H0 Z H σ ρ ∧ Dp K (hide H (Zo Z σ ρ)) v d ∧ g d ρ = some ρ' ∧ ∀ σ', SI K Cl H0 Z H σ' ρ' → Q σ' H
def DG (X : Cx) (Cl : Nat → Addr) (tg : Expr) (g : FG) : Prop := PG X tg (tgOf X.K Cl g)
theorem PG.imp {tg : Expr} {t t' : TG} (h : PG X tg t) (i : ∀ v σ H Q, t' v σ H Q → t v σ H Q) : PG X tg t' := ⟨fun pins s σ H v u Q I r q => h.run pins s σ H v u Q I r (i v σ H Q q)⟩
def gN (i : Nat) : FG := fun d ρ => some (ρ.set i (.dat d))
theorem dg_name {i : Nat} {x : Str} (hN : X.N.Nodup) (hi : X.N[i]? = some x := by rfl) (hx : Loc X.env.scope x := by first | exact .inl rfl | exact .inr rfl) (hf : X.fn x = true ∨ X.env.scope.names.lookup x = some .local := by first | exact .inl rfl | exact .inr rfl) : DG X Cl (.Name x pos) (gN i) :=
  PG.imp (pg_name hN hi hx hf) fun v σ H Q ⟨H0, Z, ρ, d, ρ', I, h, e, q⟩ => by
    cases e
    exact q _ (I.setDat h)
abbrev FGs := List D → Rho → Option Rho
def tgsOf (K : PySem.W.Frag) (Cl : Nat → Addr) (g : FGs) : TGs := fun vs σ H Q => ∃ H0 Z ρ ds ρ', SI K Cl H0 Z H σ ρ ∧ DpAll K (hide H (Zo Z σ ρ)) vs ds ∧ g ds ρ = some ρ' ∧ ∀ σ', SI K Cl H0 Z H σ' ρ' → Q σ' H
def DGs (X : Cx) (Cl : Nat → Addr) (tgs : List Expr) (g : FGs) : Prop := PGs X tgs (tgsOf X.K Cl g)
theorem PGs.imp {tg : List Expr} {t t' : TGs} (h : PGs X tg t) (i : ∀ v σ H Q, t' v σ H Q → t v σ H Q) : PGs X tg t' := ⟨fun pins s σ H v u Q I r q => h.run pins s σ H v u Q I r (i v σ H Q q)⟩
def gsNil : FGs := fun ds ρ => match ds with
  | [] => some ρ
  | _ => none
def gsCons (i : Nat) (g : FGs) : FGs := fun ds ρ => match ds with
  | d :: r => g r (ρ.set i (.dat d))
  | [] => none
theorem dgs_nil : DGs X Cl [] gsNil := PGs.imp pgs_nil fun vs σ H Q ⟨H0, Z, ρ, ds, ρ', I, h, e, q⟩ => by
  cases ds with
  | nil => cases e; cases h; exact ⟨rfl, q σ I⟩
  | cons _ _ => cases e
theorem dgs_cons {i : Nat} {x : Str} {g : FGs} {es : List Expr} (hN : X.N.Nodup) (hr : DGs X Cl es g) (hi : X.N[i]? = some x := by rfl) (hx : Loc X.env.scope x := by first | exact .inl rfl | exact .inr rfl) (hf : X.fn x = true ∨ X.env.scope.names.lookup x = some .local := by first | exact .inl rfl | exact .inr rfl)
    (hs : (assignEach (.Name x pos :: es) X.env).map (·.2) = assign (.Name x pos) X.env :: (assignEach es X.env).map (·.2) := by rfl) : DGs X Cl (.Name x pos :: es) (gsCons i g) :=
  PGs.imp (pgs_cons (pg_name hN hi hx hf) hr hs) fun vs σ H Q ⟨H0, Z, ρ, ds, ρ', I, h, e, q⟩ => by
    cases ds with
    | nil => cases e
    | cons d r =>
      cases h with
      | @cons v vr _ _ a b =>
        exact ⟨v, vr, rfl, ⟨H0, Z, ρ.set i (.dat d), r, ρ', I.setDat a, DpAll.same zo_dat b, e, q⟩⟩
def gT (n : Nat) (g : FGs) : FG := fun d ρ => match d with
  | .tuple ds => if ds.length = n then g ds ρ else none
  | _ => none
theorem dg_tup {es : List Expr} {k : Nat} {g : FGs} {n : Nat} (hc : X.calm = true) (h : DGs X Cl es g) (hn : (assignEach es X.env).length = n := by rfl) (hst : (assignEach es X.env).findIdx? (·.1) = none := by rfl) : DG X Cl (.Tuple es k pos) (gT n g) :=
  PG.imp (pg_tup hc h hn hst) fun v σ H Q ⟨H0, Z, ρ, d, ρ', I, hd, e, q⟩ => by
    unfold gT at e
    split at e
    · rename_i ds
      split at e
      · rename_i hl
        obtain ⟨a, xs, rfl, h1, h2⟩ := hd.tup_inv
        exact ⟨a, xs, rfl, SqT.same hide_sub h1, by rw [h2.length]; exact hl, ⟨H0, Z, ρ, ds, ρ', I, h2, e, q⟩⟩
      · cases e
    · cases e
end
end DL
set_option Elab.async false
set_option linter.all false
set_option maxRecDepth 100000
set_option maxHeartbeats 4000000
namespace DL
open PySem PySem.Spec PyProof.Rows L2

abbrev FI := Rho → Option (Except Er (List D))
def ItOk (K : PySem.W.Frag) (Hs : Hp) (J : It) (ds : List D) : Prop := ∀ (Z' : Addr → Prop) (H' : Hp), SameD Hs (hide H' Z') → (∀ b, Z' b → H' b ≠ none) →
  (∀ i, i < ds.length → J.go i H') ∧ (∀ i, ds.length ≤ i → J.stop i H') ∧ ∀ i x H'' d, J.yld i H' x H'' → ds[i]? = some d → (∀ Cl, Same Cl H' H'') ∧ Dp K (hide H'' Z') x d
def RIk (K : PySem.W.Frag) (Cl : Nat → Addr) (W : WX) (Z : Addr → Prop) (σ : St) (ρ : Rho) (H : Hp) (R : It → Hp → Prop) : Except Er (List D) → Prop
  | .ok ds => ∀ J H1, Same Cl H H1 → ItOk K (hide H1 (Zo Z σ ρ)) J ds → R J H1
  | .error e => ErOk Cl W σ H e
def tiOf (K : PySem.W.Frag) (Cl : Nat → Addr) (W : WX) (f : FI) : TI := fun σ H R => ∃ Z ρ r, DI K Cl Z H σ ρ ∧ f ρ = some r ∧ RIk K Cl W Z σ ρ H R r
def DIt (X : Cx) (Cl : Nat → Addr) (W : WX) (tg e : Expr) (f : FI) : Prop := PI X tg e (tiOf X.K Cl W f)
theorem PI.imp {X : Cx} {tg e : Expr} {t t' : TI} (h : PI X tg e t) (i : ∀ σ H Q, t' σ H Q → t σ H Q) : PI X tg e t' := ⟨fun pins s σ H Q I q => h.run pins s σ H Q I (i σ H Q q)⟩
theorem PI.or {X : Cx} {tg e : Expr} {t t' : TI} (h : PI X tg e t) (h' : PI X tg e t') : PI X tg e (fun σ H R => t σ H R ∨ t' σ H R) := ⟨fun pins s σ H Q I q => q.elim (h.run pins s σ H Q I) (h'.run pins s σ H Q I)⟩
section
variable {X : Cx} {Cl : Nat → Addr} {W : WX} {e tg : Expr} {es : List Expr} {f : FE} {g : FA} {p pos : Pos} {K : PySem.W.Frag}
def signs (x : Str) : List D := x.cps.toList.map fun c => .str ⟨#[c]⟩
@[simp] def iSeq (f : FE) (ρ : Rho) : Option (Except Er (List D)) := match f ρ with
  | none => none
  | some (.error e) => some (.error e)
  | some (.ok v) => match v with
    | .s (.list ds) => some (.ok ds)
    | .s (.tuple ds) => some (.ok ds)
    | .s (.str x) => some (.ok (signs x))
    | .f ds => some (.ok ds)
    | _ => none
theorem it_list {Hs : Hp} {a : Addr} {xs : List V} {ds : List D} (h1 : Rd Hs a (.lst xs)) (h2 : DpAll K Hs xs ds) : ItOk K Hs (Itl K a) ds := fun Z' H' s _ => by
  have q : SqL K H' a xs := .inl (Rd.same (s.trans hide_sub) h1)
  refine ⟨fun i hi => ⟨xs, xs[i]'(by rw [h2.length]; exact hi), q, List.getElem?_eq_getElem _⟩, fun i hi => ⟨xs, q, by rw [h2.length]; exact hi⟩, fun i x H'' d y hd => ?_⟩
  obtain ⟨rfl, y⟩ := y
  obtain ⟨v, e1, e2⟩ := h2.get hd
  have e3 := y xs q
  rw [e1] at e3
  cases e3
  exact ⟨fun _ => Same.refl _, Dp.same s e2⟩
theorem it_tup {Hs : Hp} {a : Addr} {xs : List V} {ds : List D} (h1 : SqT K Hs a xs) (h2 : DpAll K Hs xs ds) : ItOk K Hs (Itt K a) ds := fun Z' H' s _ => by
  have q : SqT K H' a xs := SqT.same (s.trans hide_sub) h1
  refine ⟨fun i hi => ⟨xs, xs[i]'(by rw [h2.length]; exact hi), q, List.getElem?_eq_getElem _⟩, fun i hi => ⟨xs, q, by rw [h2.length]; exact hi⟩, fun i x H'' d y hd => ?_⟩
  obtain ⟨rfl, y⟩ := y
  obtain ⟨v, e1, e2⟩ := h2.get hd
  have e3 := y xs q
  rw [e1] at e3
  cases e3
  exact ⟨fun _ => Same.refl _, Dp.same s e2⟩
theorem it_str {Hs : Hp} {x : Str} : ItOk K Hs (Its x) (signs x) := fun Z' H' s _ => by
  have hl : (signs x).length = x.cps.size := by simp [signs]
  refine ⟨fun i hi => ?_, fun i hi => ?_, fun i v H'' d y hd => ?_⟩
  · rw [hl] at hi
    exact hi
  · rw [hl] at hi
    exact hi
  · obtain ⟨rfl, c, hc, rfl⟩ := y
    refine ⟨fun _ => Same.refl _, ?_⟩
    have e2 : (signs x)[i]? = some (.str ⟨#[c]⟩) := by
      unfold signs
      rw [List.getElem?_map, Array.getElem?_toList, hc]
      rfl
    rw [hd] at e2
    cases e2
    exact .str _
theorem it_range {Hs : Hp} {lo : Int} {n : Nat} : ItOk K Hs (Itr lo n) ((List.range n).map fun (i : Nat) => .int (lo + (i : Int))) := fun Z' H' s _ => by
  refine ⟨fun i hi => (by simpa using hi : i < n), fun i hi => (by simpa using hi : n ≤ i), fun i v H'' d y hd => ?_⟩
  obtain ⟨rfl, rfl⟩ := y
  refine ⟨fun _ => Same.refl _, ?_⟩
  rw [List.getElem?_map] at hd
  cases e : (List.range n)[i]? with
  | none => rw [e] at hd; cases hd
  | some j =>
    rw [e] at hd
    obtain ⟨hi, e1⟩ := List.getElem?_eq_some_iff.mp e
    rw [List.getElem_range] at e1
    subst e1
    cases hd
    exact .int _
def enumD (ds : List D) : List D := ds.zipIdx.map fun p => .tuple [.int (p.2 : Int), p.1]
theorem di_seq (he : DE X Cl W e f) : DIt X Cl W tg e (iSeq f) := PI.imp (DL.PI.or (pi_list he) (DL.PI.or (pi_tup he) (pi_str he))) fun σ H R ⟨Z, ρ, r, I, e, q⟩ => by
  unfold iSeq at e
  cases e1 : f ρ with
  | none => rw [e1] at e; cases e
  | some r1 =>
    rw [e1] at e
    cases r1 with
    | error er =>
      cases e
      exact .inl ⟨Z, ρ, _, I, e1, q⟩
    | ok v =>
      dsimp only at e
      split at e
      · rename_i ds
        cases e
        refine .inl ⟨Z, ρ, _, I, e1, fun x H1 s hv => ?_⟩
        obtain ⟨a, xs, rfl, h1, h2⟩ := Dp.lst_inv (show Dp X.K (hide H1 (Zo Z σ ρ)) x (.list ds) from hv)
        exact ⟨a, rfl, ⟨xs, .inl (Rd.same hide_sub h1)⟩, q _ H1 s (it_list h1 h2)⟩
      · rename_i ds
        cases e
        refine .inr (.inl ⟨Z, ρ, _, I, e1, fun x H1 s hv => ?_⟩)
        obtain ⟨a, xs, rfl, h1, h2⟩ := Dp.tup_inv (show Dp X.K (hide H1 (Zo Z σ ρ)) x (.tuple ds) from hv)
        exact ⟨a, rfl, ⟨xs, SqT.same hide_sub h1⟩, q _ H1 s (it_tup h1 h2)⟩
      · rename_i y
        cases e
        refine .inr (.inr ⟨Z, ρ, _, I, e1, fun x H1 s hv => ?_⟩)
        exact ⟨y, (show Dp X.K (hide H1 (Zo Z σ ρ)) x (.str y) from hv).str_inv, q _ H1 s it_str⟩
      · rename_i ds
        cases e
        refine .inl ⟨Z, ρ, _, I, e1, fun x H1 s hv => ?_⟩
        obtain ⟨a, xs, rfl, n, h1, h2⟩ := hv
        have np : ¬ Zo Z σ ρ a := fun z => I.liveZ z n
        exact ⟨a, rfl, ⟨xs, SqL.of h1⟩, q _ H1 s (it_list (Rd.of (hide_at np h1)) (DpAll.same (hide_monoD (SameD.refl _) fun _ h => .inl (.inl h)) h2))⟩
      · cases e
def rangeD (lo : Int) (n : Nat) : List D := (List.range n).map fun (i : Nat) => .int (lo + (i : Int))
def cRng (j : Int) : Bool := decide (-(2 ^ 62) ≤ j) && decide (j < 2 ^ 62)
theorem cRng_ok {j : Int} (h : cRng j = true) : -(2 ^ 62) ≤ j ∧ j < 2 ^ 62 := by
  simp only [cRng, Bool.and_eq_true, decide_eq_true_eq] at h
  exact h
@[simp] def iRange1 (g : FA) (ρ : Rho) : Option (Except Er (List D)) := match g ρ with
  | none => none
  | some (.error e) => some (.error e)
  | some (.ok vs) => match vs with
    | [v] => match v.d with
      | .int j => if cRng j = true then some (.ok (rangeD 0 j.toNat)) else none
      | _ => none
    | _ => none
@[simp] def iRange2 (g : FA) (ρ : Rho) : Option (Except Er (List D)) := match g ρ with
  | none => none
  | some (.error e) => some (.error e)
  | some (.ok vs) => match vs with
    | [v, u] => match v.d, u.d with
      | .int i, .int j => if (cRng i && cRng j) = true then some (.ok (rangeD i (j - i).toNat)) else none
      | _, _ => none
    | _ => none
theorem di_range1 {a : Expr} (hm : X.mg "range" = none) (ha : DA X Cl W [a] g) (hg : Gl X "range" := by rfl) (hs : starEach [a] X.env = [(false, eval a X.env)] := by rfl) : DIt X Cl W tg (.Call (.Name "range" p) [a] [] pos) (iRange1 g) :=
  PI.imp (pi_range1 hg hm ha hs) fun σ H R ⟨Z, ρ, r, I, e, q⟩ => by
    unfold iRange1 at e
    cases e1 : g ρ with
    | none => rw [e1] at e; cases e
    | some r1 =>
      rw [e1] at e
      refine ta_step I e1 (fun er z => ?_) fun vs xs H1 ev s1 hvs I1 => ?_
      · subst z
        cases e
        exact q
      · subst ev
        dsimp only at e
        split at e
        · rename_i v
          obtain ⟨x, rfl, h⟩ := hvs.one
          split at e
          · rename_i j ej
            split at e
            · rename_i hc
              cases e
              obtain ⟨h1, h2⟩ := cRng_ok hc
              exact ⟨j, by rw [h.int_inv I ej], h1, h2, q _ H1 s1 it_range⟩
            · cases e
          · cases e
        · cases e
@[simp] def iEnumD (g : FA) (ρ : Rho) : Option (Except Er (List D)) := match g ρ with
  | none => none
  | some (.error e) => some (.error e)
  | some (.ok vs) => match vs with
    | [.s (.list ds)] => some (.ok (enumD ds))
    | [.f ds] => some (.ok (enumD ds))
    | _ => none
def forL (g : FG) (body : FS) : List D → FS
  | [], ρ => some (.nx ρ)
  | d :: ds, ρ => match g d ρ with
    | none => none
    | some ρ1 => match body ρ1 with
      | some (.nx ρ2) => forL g body ds ρ2
      | some (.ct ρ2) => forL g body ds ρ2
      | some (.brk ρ2) => some (.nx ρ2)
      | r => r
@[simp] def fFor (it : FI) (g : FG) (body : FS) (ρ : Rho) : Option Out := match it ρ with
  | none => none
  | some (.error e) => some (.exc ρ e.1 e.2)
  | some (.ok ds) => forL g body ds ρ
open Classical in
noncomputable def unown (H : Hp) (σ : St) (ρ : Rho) : Hp := fun b => if Owned σ ρ b then none else H b
theorem unown_of {H : Hp} {σ : St} {ρ : Rho} {b : Addr} {o : HO} (h : unown H σ ρ b = some o) : ¬ Owned σ ρ b ∧ H b = some o := by
  unfold unown at h
  split at h
  · cases h
  · rename_i n
    exact ⟨n, h⟩
theorem unown_at {H : Hp} {σ : St} {ρ : Rho} {b : Addr} {o : HO} (n : ¬ Owned σ ρ b) (h : H b = some o) : unown H σ ρ b = some o := by
  unfold unown
  rw [if_neg n]
  exact h
theorem SI.based {H0 : Hp} {Z : Addr → Prop} {H : Hp} {σ : St} {ρ : Rho} (I : SI K Cl H0 Z H σ ρ) : Same Cl H0 (unown H σ ρ) ∧ SI K Cl (unown H σ ρ) Z H σ ρ := by
  have nu : ∀ {b : Addr} {o : HO}, H b = some o → (∀ ys, o ≠ .lst ys) → ((∃ ps, o = .tbl ps) ∨ ∃ q, o = LamX.CodeO b q) → ¬ Owned σ ρ b := fun {b o} e n n2 z => by
    have q : (∃ ys, H b = some (.lst ys)) ∨ ∃ u, H b = some u ∧ (∀ ps, u ≠ .tbl ps) ∧ ∀ q, u ≠ LamX.CodeO b q := by
      obtain ⟨i, ⟨h1, ds, h2⟩ | ⟨k, ds, h2⟩ | ⟨c, h2⟩⟩ := z
      · obtain ⟨p, xs, ep, hp, _⟩ := I.di.slots i _ h2
        rw [h1] at ep
        cases ep
        exact .inl ⟨xs, hp⟩
      · obtain ⟨T, _, ⟨xs, ys, es, _, _, _, _, hb, _⟩⟩ := I.di.slots i _ h2
        exact .inl ⟨ys, hb⟩
      · obtain ⟨_, u, hb, h⟩ := I.di.slots i _ h2
        exact .inr ⟨u, hb, h.nt⟩
    rcases q with ⟨ys, q⟩ | ⟨u, q, q1, q2⟩
    · rw [q] at e
      exact n ys (Option.some.inj e).symm
    · rw [q] at e
      cases e
      rcases n2 with ⟨ps, n2⟩ | ⟨r, n2⟩
      · exact q1 ps n2
      · exact q2 r n2
  have s1 : Same Cl H0 (unown H σ ρ) := by
    refine ⟨fun b o e n => unown_at (fun z => by rw [I.new b z] at e; cases e) (I.same.d b o e n), fun t q hq n => ?_, fun b e z => ?_⟩
    · obtain ⟨ps, h1, h2, h3⟩ := I.same.tb t q hq n
      refine ⟨ps, unown_at (nu h1 (fun _ z => by cases z) (.inl ⟨ps, rfl⟩)) h1, h2, fun pos cv hc => ?_⟩
      obtain ⟨c, e1, e2⟩ := h3 pos cv hc
      exact ⟨c, e1, unown_at (nu e2 (fun _ z => by unfold LamX.CodeO at z; cases z) (.inr ⟨_, rfl⟩)) e2⟩
    · have n : ¬ Owned σ ρ b := fun z => e (I.new b z)
      unfold DL.unown at z
      rw [if_neg n] at z
      exact I.same.live b e z
  have s2 : Same Cl (unown H σ ρ) H := .of fun b o e => (unown_of e).2
  refine ⟨s1, I.di, s2, fun a h => ?_⟩
  unfold DL.unown
  rw [if_pos h]
theorem SI.kept {Z : Addr → Prop} {H H' : Hp} {σ σ' : St} {ρ ρ' : Rho} (I : SI K Cl (unown H σ ρ) Z H' σ' ρ') : SameD (hide H (Zo Z σ ρ)) (hide H' (Zo Z σ' ρ')) := fun b o e nt => by
  obtain ⟨n, e1⟩ := hide_of e
  have e2 := unown_at (fun z => n (.inr z)) e1
  refine hide_at (fun z => z.elim (fun z => n (.inl z)) fun z => ?_) (I.same.d b o e2 nt)
  rw [I.new b z] at e2
  cases e2
theorem ds_for {it : FI} {g : FG} {body : List Stmt} {fb : FS} (hp : PassesOwn (model X.prog X.w) X.A X.env X.xe) (hc : X.calm = true) (hi : DIt X Cl W tg e it) (hg : DG X Cl tg g) (hb : DSs X Cl W body fb)
    (hs : ∀ x, foldedSetIterable e X.env x = pure x := by intro _; rfl) : DS X Cl W (.For tg e body [] pos) (fFor it g fb) := PS.imp (ps_for hp hc hi hg hb hs) fun D σ H ⟨H0, Z, ρ, o, I, e, q⟩ => by
  unfold fFor at e
  cases e1 : it ρ with
  | none => rw [e1] at e; cases e
  | some r1 =>
    rw [e1] at e
    refine ⟨Z, ρ, r1, I.di, e1, ?_⟩
    cases r1 with
    | error er =>
      cases e
      exact OOk.err I q
    | ok ds =>
      dsimp only at e
      intro J H1 s1 hJ
      have I1 := I.same' s1
      obtain ⟨b0, I2⟩ := I1.based
      have q2 := q.rebase b0
      refine ⟨fun i m σ' H' => ∃ ρ', SI X.K Cl (unown H1 σ ρ) Z H' σ' ρ' ∧ forL g fb (ds.drop i) ρ' = some o ∧ m = ds.length - i ∧ i ≤ ds.length, ⟨_, ρ, I2, e, rfl, Nat.zero_le _⟩, fun i m σ' H' => ?_⟩
      rintro ⟨ρ', I', e', rfl, hi⟩
      obtain ⟨go, stop, yld⟩ := hJ (Zo Z σ' ρ') H' I'.kept (fun b z => I'.di.liveZ z)
      by_cases hlt : i < ds.length
      · refine .inr ⟨go i hlt, fun σ3 H3 => ∃ ρ3, SI X.K Cl (unown H1 σ ρ) Z H3 σ3 ρ3 ∧ forL g fb (ds.drop (i + 1)) ρ3 = some o, fun σ3 H3 ⟨ρ3, I3, e3⟩ => ⟨ds.length - (i + 1), by omega, ρ3, I3, e3, rfl, hlt⟩, fun x H'' y => ?_⟩
        have hd : ds[i]? = some ds[i] := List.getElem?_eq_getElem hlt
        obtain ⟨s2, hx⟩ := yld i x H'' _ y hd
        rw [List.drop_eq_getElem_cons hlt] at e'
        unfold forL at e'
        cases eg : g ds[i] ρ' with
        | none => rw [eg] at e'; cases e'
        | some ρ1 =>
          rw [eg] at e'
          dsimp only at e'
          refine ⟨_, Z, ρ', ds[i], ρ1, I'.same' (s2 _), hx, eg, fun σ1 I1' => ?_⟩
          cases eb : fb ρ1 with
          | none => rw [eb] at e'; cases e'
          | some ob =>
            rw [eb] at e'
            refine ⟨_, Z, ρ1, ob, I1', eb, ?_⟩
            cases ob with
            | nx ρ2 => exact fun σ3 H3 I3 => ⟨ρ2, I3, e'⟩
            | ct ρ2 => exact fun σ3 H3 I3 => ⟨ρ2, I3, e'⟩
            | brk ρ2 => cases e'; exact fun σ3 H3 I3 => q2 σ3 H3 I3
            | ret d => cases e'; exact q2
            | retF ds => cases e'; exact q2
            | retX ds k => cases e'; exact q2
            | exc ρ2 c i => cases e'; exact q2
      · have hie : i = ds.length := by omega
        subst hie
        rw [List.drop_length] at e'
        cases e'
        exact .inl ⟨stop _ (Nat.le_refl _), q2 σ' H' I'⟩

inductive DOut where
  | ret (d : D) | retF (ds : List D) | retX (ds : List D) (k : Nat) | exc (c : Nat) (i : Int)
abbrev DF := List D → Option DOut
def DOk (K : PySem.W.Frag) (Cl : Nat → Addr) (Z : Addr → Prop) (H : Hp) (Q : VK) (E : XK) : DOut → Prop
  | .ret d => ∀ v H', Same Cl H H' → Dp K (hide H' Z) v d → Q v H'
  | .retF ds => ∀ p xs H', Same Cl H H' → H p = none → H' p = some (.lst xs) → DpAll K (hide H' (ZP Z p)) xs ds → Q (.ref p) H'
  | .retX ds k => ∀ T p xs ys H', Same Cl H H' → SqT K (hide H' Z) T xs → DpAll K (hide H' Z) xs ds → xs[k]? = some (.ref p) → H p = none → H' p = some (.lst ys) → Q (.ref T) H'
  | .exc c i => ∀ dd H', Same Cl H H' → H' dd = some (.xd [(("at" : Str), .int i)]) → E (.ref (Cl c)) (some dd) H'
structure LivT (Cl : Nat → Addr) (Z : Addr → Prop) (H : Hp) : Prop where
  lv : ∀ b, Z b → H b ≠ none
  tb : TBl Cl H
def spD (K : PySem.W.Frag) (Cl : Nat → Addr) (n : Nat) (F : DF) : Sp := fun vs H Q E => ∃ Z ds o, LivT Cl Z H ∧ DpAll K (hide H Z) vs ds ∧ ds.length = n ∧ F ds = some o ∧ DOk K Cl Z H Q E o
def mkD (n k : Nat) (f : FS) : DF := fun ds => match f (ds.map .dat ++ List.replicate (k - n) .un) with
  | some (.nx _) => some (.ret .none)
  | some (.ret d) => some (.ret d)
  | some (.retF ds) => some (.retF ds)
  | some (.retX ds k) => some (.retX ds k)
  | some (.exc _ c i) => some (.exc c i)
  | _ => none
theorem no_dat {σ : St} {ds : List D} {m i : Nat} {a : Addr} (ho : OwnAt σ (ds.map .dat ++ List.replicate m .un) i a) : False := by
  obtain ⟨s, h2, h3⟩ := ho.slot
  rw [List.getElem?_append] at h2
  split at h2
  · rw [List.getElem?_map] at h2
    cases e : ds[i]? with
    | none => rw [e] at h2; cases h2
    | some d => rw [e] at h2; cases h2; cases h3
  · rw [List.getElem?_replicate] at h2
    split at h2
    · cases h2; cases h3
    · cases h2
theorem DI.start {Z : Addr → Prop} {H : Hp} {vs : List V} {ds : List D} {m : Nat} (live : LivT Cl Z H) (h : DpAll K (hide H Z) vs ds) : DI K Cl Z H (vs.map some ++ List.replicate m none) (ds.map .dat ++ List.replicate m .un) := by
  have no : ∀ i a, ¬ OwnAt (vs.map some ++ List.replicate m none) (ds.map .dat ++ List.replicate m .un) i a := fun i a ho => no_dat ho
  have hl := h.length
  refine ⟨by simp [hl], fun i j a h1 => absurd h1 (no i a), fun a ⟨i, z⟩ => absurd z (no i a), live.lv, fun i s e => ?_, live.tb⟩
  have hm : SameD (hide H Z) (hide H (Zo Z (vs.map some ++ List.replicate m none) (ds.map .dat ++ List.replicate m .un))) := hide_monoD (SameD.refl _) fun b hb => .inl (hb.elim id fun ⟨j, z⟩ => absurd z (no j b))
  rw [List.getElem?_append] at e
  split at e
  · rename_i hi
    rw [List.length_map] at hi
    rw [List.getElem?_map] at e
    cases e1 : ds[i]? with
    | none => rw [e1] at e; cases e
    | some d =>
      rw [e1] at e
      cases e
      obtain ⟨v, e2, e3⟩ := h.get e1
      refine ⟨v, ?_, Dp.same hm e3⟩
      rw [List.getElem?_append_left (by rw [List.length_map, hl]; exact hi), List.getElem?_map, e2]
      rfl
  · rw [List.getElem?_replicate] at e
    split at e
    · cases e; trivial
    · cases e
theorem def_ok {P : Program} {w : World} {mg : Str → Option Value} {base : Heap} {x qual : Str} {st : Stmt} {fa : Addr} {fd : FuncData} {N ps : List Str} {k n m : Nat} {fb : FS} (F : Fun K x qual st fa fd) (S : FnScope N ps (defScope st)) (hn : ps.length = n) (hm : N.length = m)
    (h : ∀ (cdv : Value) (A : Around) (outer : List Env) (s : Shared) (H : Hp) (E : XK), Room k (A.deeper (envOfC qual (defScope st) s.heap.objs.size fa cdv)) →
      DSs (cxOf (L2.CX P w) P w K mg base N qual (defScope st) fa cdv A outer s H E) Cl (fun cls d _ H' => E cls d H') (defBody st) fb) : FnOk P w K mg base (L2.CX P w) (k + 1) fa fd ps (spD K Cl n (mkD n m fb)) := by
  refine F.okX S (fun vs H Q E ⟨Z, ds, o, _, h1, h2, _⟩ => by rw [h1.length, h2, hn]) (fun cdv A outer s H vs Q E hr hsp => ⟨_, h cdv A outer s H E hr, ?_⟩)
  obtain ⟨Z, ds, o, live, h1, h2, e, q⟩ := hsp
  unfold mkD at e
  have hst : L2.start N vs = vs.map some ++ List.replicate (m - n) none := by
    unfold L2.start
    rw [hm, h1.length, h2]
  rw [hst]
  cases eb : fb (ds.map .dat ++ List.replicate (m - n) .un) with
  | none => rw [eb] at e; cases e
  | some ob =>
    rw [eb] at e
    have I := DI.start (m := m - n) live h1
    have noO : ∀ a, Owned (vs.map some ++ List.replicate (m - n) none) (ds.map .dat ++ List.replicate (m - n) .un) a → H a = none := fun a ⟨i, ho⟩ => (no_dat ho).elim
    refine ⟨H, Z, _, ob, ⟨I, Same.refl _, noO⟩, eb, ?_⟩
    cases ob with
    | nx ρ => cases e; exact fun σ' H' I' => q .non H' I'.same .non
    | ret d => cases e; exact q
    | retF es => cases e; exact q
    | retX ds k => cases e; exact q
    | exc ρ c i => cases e; exact fun dd σ' H' I' hd => q dd H' I'.same hd
    | brk ρ => cases e
    | ct ρ => cases e
@[simp] def eCall (F : DF) (n : Nat) (g : FA) (ρ : Rho) : Option (Except Er Val) := match g ρ with
  | none => none
  | some (.error e) => some (.error e)
  | some (.ok vs) => if vs.length = n then match F (vs.map Val.d) with
    | none => none
    | some (.exc c i) => some (.error (c, i))
    | some (.ret d) => match stAll vs with
      | some _ => some (.ok (.s d))
      | none => some (.ok (.m d))
    | some (.retX ds _) => match stAll vs with
      | some _ => some (.ok (.s (.tuple ds)))
      | none => some (.ok (.m (.tuple ds)))
    | some (.retF ds) => match stAll vs with
      | some _ => some (.ok (.f ds))
      | none => if ds.all scalarD = true then some (.ok (.f ds)) else some (.ok (.m (.list ds))) else none
theorem stAll_d : ∀ {vs : List Val} {ds : List D}, stAll vs = some ds → vs.map Val.d = ds
  | [], _, e => by cases e; rfl
  | v :: vs, ds, e => by
    simp only [stAll] at e
    split at e
    · rename_i d es e1 e2
      cases e
      rw [List.map_cons, stAll_d e2]
      congr 1
      cases v with
      | s d' => cases e1; rfl
      | m d' =>
        simp only [Val.st] at e1
        split at e1
        · cases e1; rfl
        · cases e1
      | b ds => cases e1
      | f ds => cases e1; rfl
    · cases e
theorem de_call {n k : Nat} {F : DF} {fa : Addr} {fd : FuncData} {ps : List Str} {x : Str} (G : FnOk X.prog X.w X.K X.mg X.base (L2.CX X.prog X.w) k fa fd ps (spD X.K Cl n F)) (tk : Takes X W) (hr : Room k X.A) (hm : X.mg x = some (.ref fa)) (hk : PySem.W.keepIn X.K (.ref fa) = true) (hb : Binds X.K fd ps [])
    (ha : DA X Cl W (e :: es) g) (hg : Gl X x := by rfl) (hdb : (x == ("__debug__" : Str)) = false := by decide) (he : starEach (e :: es) X.env = (false, eval e X.env) :: starEach es X.env := by rfl) (hpl : (backTo pos (starEach es X.env)).any (·.1) = false := by rfl) :
    DE X Cl W (.Call (.Name x p) (e :: es) [] pos) (eCall F n g) := PE.imp (pe_callS (E := WE W) G hr hg hm hk hb (fun σ => passAt tk σ) ha hdb he hpl) fun σ H Q ⟨Z, ρ, r, I, e, q⟩ => by
  unfold eCall at e
  cases e1 : g ρ with
  | none => rw [e1] at e; cases e
  | some r1 =>
    rw [e1] at e
    refine ta_step I e1 (fun er z => ?_) fun vs xs H1 ev s1 hvs I1 => ?_
    · subst z
      cases e
      exact q
    · subst ev
      dsimp only at e
      split at e
      · rename_i hn
        cases eF : F (vs.map Val.d) with
        | none => rw [eF] at e; cases e
        | some o =>
          rw [eF] at e
          cases es : stAll vs with
          | some ds =>
            have ed := stAll_d es
            refine ⟨Zo Z σ ρ, ds, o, ⟨fun b z => I1.liveZ z, I1.tb⟩, hvs.stab I es, by rw [stAll_len es]; exact hn, by rw [← ed]; exact eF, ?_⟩
            cases o with
            | exc c i => cases e; exact fun dd H' s hd => q dd H' (s1.trans s) hd
            | ret d =>
              rw [es] at e
              cases e
              exact fun v H' s hd => q v H' (s1.trans s) hd
            | retX gs k =>
              rw [es] at e
              cases e
              exact fun T p xs ys H' s h1 h2 _ _ _ => q _ H' (s1.trans s) (.tup h1 h2)
            | retF gs =>
              rw [es] at e
              cases e
              exact fun p xs H' s n h2 h3 => q _ H' (s1.trans s) ⟨p, xs, rfl, s1.free n, h2, h3⟩
          | none =>
            refine ⟨Z, vs.map Val.d, o, ⟨fun b z => I1.live b z, I1.tb⟩, hvs.dp I, by rw [List.length_map]; exact hn, eF, ?_⟩
            cases o with
            | exc c i => cases e; exact fun dd H' s hd => q dd H' (s1.trans s) hd
            | ret d =>
              rw [es] at e
              cases e
              exact fun v H' s hd => q v H' (s1.trans s) hd
            | retX gs k =>
              rw [es] at e
              cases e
              exact fun T p xs ys H' s h1 h2 _ _ _ => q _ H' (s1.trans s) (.tup h1 h2)
            | retF gs =>
              rw [es] at e
              dsimp only at e
              split at e
              · rename_i sc
                cases e
                exact fun p xs H' s n h2 h3 => q _ H' (s1.trans s) ⟨p, xs, rfl, s1.free n, h2, DpAll.scalar sc h3⟩
              · cases e
                intro p xs H' s n h2 h3
                have np : ¬ Z p := fun z => I1.live p z n
                exact q _ H' (s1.trans s) (.lst (Rd.of (hide_at np h2)) (DpAll.same (hide_monoD (SameD.refl _) fun _ h => .inl (.inl h)) h3))
      · cases e
end
end DL
set_option Elab.async false
set_option linter.all false
set_option maxRecDepth 100000
set_option maxHeartbeats 4000000
namespace DL
open PySem PySem.Spec PyProof.Rows L2
section
variable {X : Cx} {Cl : Nat → Addr} {W : WX} {K : PySem.W.Frag}
abbrev W0 : WX := fun _ _ _ _ => False
@[simp] def noOwn (ρ : Rho) (vs : List Nat) : Bool := vs.all fun v => match ρ[v]? with
  | some (.own _) => false
  | some (.ownT _ _ _) => false
  | some (.cel _ _) => false
  | _ => true
@[simp] def wipeR (ρ : Rho) : List Nat → Rho
  | [] => ρ
  | v :: vs => (wipeR ρ vs).set v .un
def lcL (tt : FT) (fe : FE) (st : D → Option Rho) : List D → Option (List D)
  | [] => some []
  | d :: r => match st d with
    | none => none
    | some ρ => match tt ρ with
      | some (.ok true) => match fe ρ with
        | some (.ok v) => match v.st with
          | some y => (lcL tt fe st r).map (y :: ·)
          | none => none
        | _ => none
      | some (.ok false) => lcL tt fe st r
      | _ => none
@[simp] def eLcG (vs : List Nat) (st : Rho → D → Option Rho) (it : FI) (tt : FT) (fe : FE) (ρ : Rho) : Option (Except Er Val) := if noOwn ρ vs = true then match it ρ with
  | none => none
  | some (.error e) => some (.error e)
  | some (.ok ds) => match lcL tt fe (st (wipeR ρ vs)) ds with
    | some es => if lineOk es.length = true then some (.ok (.f es)) else none
    | none => none else none
theorem own_wipe {σ : St} {ρ : Rho} {i : Nat} {a : Addr} : ∀ {vs : List Nat}, OwnAt (wipe σ vs) (wipeR ρ vs) i a → i ∉ vs ∧ OwnAt σ ρ i a
  | [], h => ⟨by simp, h⟩
  | v :: vs, h => by
    unfold wipe wipeR at h
    have q := own_wipe (own_sub (s := .un) (fun z => nomatch z) h)
    refine ⟨fun m => ?_, q.2⟩
    rcases List.mem_cons.mp m with e | m
    · subst e
      obtain ⟨s, h2, h3⟩ := h.slot
      rw [List.getElem?_set, if_pos rfl] at h2
      split at h2
      · cases h2; cases h3
      · cases h2
    · exact q.1 m
theorem wipeR_out {ρ : Rho} {i : Nat} : ∀ {vs : List Nat}, i ∉ vs → (wipeR ρ vs)[i]? = ρ[i]?
  | [], _ => rfl
  | v :: vs, h => by
    have h1 : v ≠ i := fun e => h (by rw [e]; exact List.mem_cons_self)
    unfold wipeR
    rw [List.getElem?_set_ne h1]
    exact wipeR_out fun m => h (List.mem_cons_of_mem _ m)
theorem wipeS_out {σ : St} {i : Nat} : ∀ {vs : List Nat}, i ∉ vs → (wipe σ vs)[i]? = σ[i]?
  | [], _ => rfl
  | v :: vs, h => by
    have h1 : v ≠ i := fun e => h (by rw [e]; exact List.mem_cons_self)
    unfold wipe
    rw [List.getElem?_set_ne h1]
    exact wipeS_out fun m => h (List.mem_cons_of_mem _ m)
theorem wipeR_length (ρ : Rho) : ∀ vs : List Nat, (wipeR ρ vs).length = ρ.length
  | [] => rfl
  | v :: vs => by unfold wipeR; rw [List.length_set, wipeR_length ρ vs]
theorem own_unwipe {σ : St} {ρ : Rho} {i : Nat} {a : Addr} {vs : List Nat} (h : noOwn ρ vs = true) (o : OwnAt σ ρ i a) : OwnAt (wipe σ vs) (wipeR ρ vs) i a := by
  have hn : i ∉ vs := fun m => by
    have q := List.all_eq_true.mp h i m
    rcases o with ⟨_, es, h2⟩ | ⟨_, es, h2⟩ | ⟨_, h2⟩
    · rw [h2] at q
      cases q
    · rw [h2] at q
      cases q
    · rw [h2] at q
      cases q
  unfold OwnAt at o ⊢
  rw [wipeS_out hn, wipeR_out hn]
  exact o
theorem DI.blk {Z : Addr → Prop} {H1 H : Hp} {σ : St} {ρ : Rho} {vs : List Nat} {L : Addr} {acc : List V} (I : DI K Cl Z H1 σ ρ) (hn : noOwn ρ vs = true) (s : Same Cl H1 H) (nL : H1 L = none) (hL : H L = some (.lst acc)) : DI K Cl (ZP Z L) H (wipe σ vs) (wipeR ρ vs) := by
  have I' := I.same s
  have hm : SameD (hide H1 (Zo Z σ ρ)) (hide H (Zo (ZP Z L) (wipe σ vs) (wipeR ρ vs))) := hide_mono s fun b hb => by
    rcases hb with (hb | rfl) | ⟨j, q⟩
    · exact .inl (.inl hb)
    · exact .inr nL
    · exact .inl (.inr ⟨j, (own_wipe q).2⟩)
  refine ⟨by rw [wipeR_length, wipe_length]; exact I.len, fun i j a h1 h2 => I.one i j a (own_wipe h1).2 (own_wipe h2).2, fun a ⟨j, q⟩ z => ?_, fun a z => ?_, fun i t e => ?_, I'.tb⟩
  · have q2 := (own_wipe q).2
    rcases z with z | rfl
    · exact I.out a ⟨j, q2⟩ z
    · exact I.liveO ⟨j, q2⟩ nL
  · rcases z with z | rfl
    · exact I'.live a z
    · rw [hL]
      intro z; cases z
  · by_cases hi : i ∈ vs
    · have q : ∀ {vs : List Nat}, i ∈ vs → (wipeR ρ vs)[i]? = some t → t = .un := by
        intro vs
        induction vs with
        | nil => intro m; cases m
        | cons v vs ih =>
          intro m e
          unfold wipeR at e
          by_cases hv : v = i
          · subst hv
            rw [List.getElem?_set, if_pos rfl] at e
            split at e
            · exact (Option.some.inj e).symm
            · cases e
          · rw [List.getElem?_set_ne hv] at e
            rcases List.mem_cons.mp m with z | m
            · exact absurd z.symm hv
            · exact ih m e
      rw [q hi e]
      trivial
    · rw [wipeR_out hi] at e
      rw [wipeS_out hi]
      have q := I.slots i t e
      cases t with
      | un => trivial
      | dat d =>
        obtain ⟨v, e1, h1⟩ := q
        exact ⟨v, e1, Dp.same hm h1⟩
      | own ds =>
        obtain ⟨a, xs, e1, e2, h1⟩ := q
        exact ⟨a, xs, e1, s.at e2, DpAll.same hm h1⟩
      | err a dd j => exact ⟨q.1, s.at q.2⟩
      | ownT a k gs =>
        obtain ⟨T, e1, h1⟩ := q
        exact ⟨T, e1, h1.same hm fun _ z => s.at z⟩
      | pin a => exact q
      | ob k fs => exact ObOk.same hm q
      | cel a c =>
        obtain ⟨e1, u, e2, h1⟩ := q
        exact ⟨e1, u, s.cel h1 e2, h1.same hm⟩
structure LcT (K : PySem.W.Frag) (vs : List Nat) (g : TG) (st : Rho → D → Option Rho) : Prop where
  go : ∀ (Cl : Nat → Addr) (Z : Addr → Prop) (σ : St) (ρ ρ' : Rho) (H : Hp) (v : V) (d : D) (Q : St → Hp → Prop), DI K Cl Z H (wipe σ vs) (wipeR ρ vs) → Dp K (hide H (Zo Z (wipe σ vs) (wipeR ρ vs))) v d → st (wipeR ρ vs) d = some ρ' →
    (∀ σ', wipe σ' vs = wipe σ vs → DI K Cl Z H σ' ρ' → SameD (hide H (Zo Z (wipe σ vs) (wipeR ρ vs))) (hide H (Zo Z σ' ρ')) → (∀ b, Zo Z (wipe σ vs) (wipeR ρ vs) b → Zo Z σ' ρ' b) → Q σ' H) → g v (wipe σ vs) H Q
theorem lc_read {vs : List Nat} {g : TG} {st : Rho → D → Option Rho} {it : FI} {tt : FT} {fe : FE} {σ : St} {H : Hp} {Q : VK} (T : LcT K vs g st) (h : teOf K Cl W (eLcG vs st it tt fe) σ H Q) : tLc (tiOf K Cl W it) g (ttOf K Cl W0 tt) (teOf K Cl W0 fe) vs σ H Q := by
  obtain ⟨Z, ρ, r, I, e, q⟩ := h
  unfold eLcG at e
  split at e
  · rename_i hno
    cases e1 : it ρ with
    | none => rw [e1] at e; cases e
    | some r1 =>
      rw [e1] at e
      refine ⟨Z, ρ, r1, I, e1, ?_⟩
      cases r1 with
      | error er => cases e; exact q
      | ok ds =>
        dsimp only at e
        intro J H1 s1 hJ L nL
        have I1 := I.same s1
        cases e2 : lcL tt fe (st (wipeR ρ vs)) ds with
        | none => rw [e2] at e; cases e
        | some es =>
          rw [e2] at e
          dsimp only at e
          split at e
          · rename_i hline
            cases e
            have hln := lineOk_ok hline
            refine ⟨fun i m H' => ∃ acc as rest, H' L = some (.lst acc) ∧ Same Cl H1 H' ∧ DpAll K (hide H' (ZP (Zo Z σ ρ) L)) acc as ∧ lcL tt fe (st (wipeR ρ vs)) (ds.drop i) = some rest ∧ as ++ rest = es ∧ m = ds.length - i ∧ i ≤ ds.length,
              ⟨_, [], [], es, upd_same, same_upd nL, .nil, e2, rfl, rfl, Nat.zero_le _⟩, fun i m H' => ?_⟩
            rintro ⟨acc, as, rest, hL, s2, hacc, er, ea, rfl, hi⟩
            have hk : SameD (hide H1 (Zo Z σ ρ)) (hide H' (ZP (Zo Z σ ρ) L)) := hide_mono s2 fun b hb => by
              rcases hb with hb | rfl
              · exact .inl hb
              · exact .inr nL
            have hlive : ∀ b, ZP (Zo Z σ ρ) L b → H' b ≠ none := fun b hb => by
              rcases hb with hb | rfl
              · exact (I1.same s2).liveZ hb
              · rw [hL]; intro z; cases z
            obtain ⟨go, stop, yld⟩ := hJ (ZP (Zo Z σ ρ) L) H' hk hlive
            by_cases hlt : i < ds.length
            · refine .inr ⟨go i hlt, fun H3 => ∃ acc as rest, H3 L = some (.lst acc) ∧ Same Cl H1 H3 ∧ DpAll K (hide H3 (ZP (Zo Z σ ρ) L)) acc as ∧ lcL tt fe (st (wipeR ρ vs)) (ds.drop (i + 1)) = some rest ∧ as ++ rest = es,
                fun H3 ⟨acc, as, rest, b1, b2, b3, b4, b5⟩ => ⟨ds.length - (i + 1), by omega, acc, as, rest, b1, b2, b3, b4, b5, rfl, hlt⟩, fun x H'' y => ?_⟩
              have hd : ds[i]? = some ds[i] := List.getElem?_eq_getElem hlt
              obtain ⟨s3', hx⟩ := yld i x H'' _ y hd
              have s3 := s3' Cl
              rw [List.drop_eq_getElem_cons hlt] at er
              unfold lcL at er
              cases est : st (wipeR ρ vs) ds[i] with
              | none => rw [est] at er; cases er
              | some ρ' =>
                rw [est] at er
                dsimp only at er
                have B := I1.blk (vs := vs) hno (s2.trans s3) nL (s3.at hL)
                have zeq : ∀ b, Zo (ZP Z L) (wipe σ vs) (wipeR ρ vs) b → ZP (Zo Z σ ρ) L b := fun b hb => by
                  rcases hb with (hb | hb) | ⟨j, z⟩
                  · exact .inl (.inl hb)
                  · exact .inr hb
                  · exact .inl (.inr ⟨j, (own_wipe z).2⟩)
                have zeq2 : ∀ b, ZP (Zo Z σ ρ) L b → Zo (ZP Z L) (wipe σ vs) (wipeR ρ vs) b := fun b hb => by
                  rcases hb with (hb | ⟨j, z⟩) | hb
                  · exact .inl (.inl hb)
                  · exact .inr ⟨j, own_unwipe hno z⟩
                  · exact .inl (.inr hb)
                refine T.go Cl (ZP Z L) σ ρ ρ' H'' x ds[i] _ B (Dp.same (hide_monoD (SameD.refl _) fun b hb => .inl (zeq b hb)) hx) est fun σ' hw B' hs' hz' => ⟨hw, ?_⟩
                have up4 : ∀ H4, Same Cl H'' H4 → Same Cl H1 H4 := fun H4 s4 => s2.trans (s3.trans s4)
                have acc4 : ∀ H4, Same Cl H'' H4 → DpAll K (hide H4 (ZP (Zo Z σ ρ) L)) acc as := fun H4 s4 => DpAll.same (hide_mono (s3.trans s4) fun _ h => .inl h) hacc
                cases ett : tt ρ' with
                | none => rw [ett] at er; cases er
                | some rt =>
                  rw [ett] at er
                  cases rt with
                  | error _ => cases er
                  | ok b =>
                    refine tt_step B' ett (fun er z => by cases z) fun b1 H3 eb s4 B3 => ?_
                    cases eb
                    cases b with
                    | false =>
                      dsimp only at er
                      rw [if_neg Bool.false_ne_true]
                      exact ⟨acc, as, rest, s4.at (s3.at hL), up4 _ s4, acc4 _ s4, er, ea⟩
                    | true =>
                      dsimp only at er
                      rw [if_pos rfl]
                      cases efe : fe ρ' with
                      | none => rw [efe] at er; cases er
                      | some rf =>
                        rw [efe] at er
                        cases rf with
                        | error _ => cases er
                        | ok v =>
                          dsimp only at er
                          refine te_step B3 efe (fun er z => by cases z) fun v1 y H4 ev s5 hv B4 => ?_
                          cases ev
                          cases est : v.st with
                          | none => rw [est] at er; cases er
                          | some yd =>
                            rw [est] at er
                            dsimp only at er
                            cases el : lcL tt fe (st (wipeR ρ vs)) (ds.drop (i + 1)) with
                            | none => rw [el] at er; cases er
                            | some rest' =>
                              rw [el] at er
                              cases er
                              have s45 := s4.trans s5
                              have hL4 := s45.at (s3.at hL)
                              have hy := hv.stab B3 est
                              have hacc4 := acc4 _ s45
                              refine ⟨acc, hL4, ?_, ?_⟩
                              · have h1 := hacc4.length
                                have h2 := congrArg List.length ea
                                rw [List.length_append, List.length_cons] at h2
                                omega
                              · have hin : ∀ {H5 : Hp} , (∀ b, b ≠ L → H5 b = H4 b) → SameD (hide H4 (ZP (Zo Z σ ρ) L)) (hide H5 (ZP (Zo Z σ ρ) L)) := fun {H5} k b o e _ => by
                                  obtain ⟨n, e1⟩ := hide_of e
                                  exact hide_at n (by rw [k b fun z => n (.inr z)]; exact e1)
                                have k5 : ∀ b, b ≠ L → upd H4 L (.lst (acc ++ [y])) b = H4 b := fun b hb => upd_ne hb
                                have hy2 : Dp K (hide H4 (ZP (Zo Z σ ρ) L)) y yd := Dp.same (hide_monoD (SameD.refl _) fun b hb => .inl (hz' b (zeq2 b hb))) hy
                                refine ⟨acc ++ [y], as ++ [yd], rest', upd_same, (up4 _ s45).over nL hL4, DpAll.append (DpAll.same (hin k5) hacc4) (.cons (Dp.same (hin k5) hy2) .nil), rfl, by rw [← ea, List.append_assoc]; rfl⟩
            · have hie : i = ds.length := by omega
              subst hie
              rw [List.drop_length] at er
              cases er
              rw [List.append_nil] at ea
              subst ea
              exact .inl ⟨stop _ (Nat.le_refl _), q _ H' (s1.trans s2) ⟨L, acc, rfl, s1.free nL, hL, hacc⟩⟩
          · cases e
  · cases e
def st1 (i : Nat) : Rho → D → Option Rho := fun ρ d => some (ρ.set i (.dat d))
theorem zo_dat' {Z : Addr → Prop} {σ : St} {ρ : Rho} {i : Nat} {x : Option V} {d : D} (hn : ∀ s, ρ[i]? = some s → ¬ s.owns) (b : Addr) (h : Zo Z σ ρ b) : Zo Z (σ.set i x) (ρ.set i (.dat d)) b := by
  rcases h with h | ⟨j, h1⟩
  · exact .inl h
  · have hj : i ≠ j := fun e => by
      obtain ⟨s, e1, e2⟩ := h1.slot
      exact hn s (e ▸ e1) e2
    refine .inr ⟨j, ?_⟩
    unfold OwnAt at h1 ⊢
    rw [List.getElem?_set_ne hj, List.getElem?_set_ne hj]
    exact h1
theorem wipeR_no {ρ : Rho} {i : Nat} : ∀ {vs : List Nat}, i ∈ vs → ∀ s, (wipeR ρ vs)[i]? = some s → ¬ s.owns
  | v :: vs, m, s, e => by
    unfold wipeR at e
    by_cases hv : v = i
    · subst hv
      rw [List.getElem?_set, if_pos rfl] at e
      split at e
      · cases e
        exact fun z => nomatch z
      · cases e
    · rw [List.getElem?_set_ne hv] at e
      rcases List.mem_cons.mp m with z | m
      · exact absurd z.symm hv
      · exact wipeR_no m s e
theorem lct1 {i : Nat} : LcT K [i] (gName i) (st1 i) := ⟨fun Cl Z σ ρ ρ' H v d Q B hd e q => by
  cases e
  refine q _ ?_ (B.setDat hd) zo_dat (zo_dat' (wipeR_no (by simp)))
  show (((σ.set i none).set i (some v)).set i none) = σ.set i none
  rw [List.set_set, List.set_set]⟩
theorem tYes_read {σ : St} {H : Hp} {Q : Bool → Hp → Prop} (h : ttOf K Cl W (fun _ => some (.ok true)) σ H Q) : tYes σ H Q := by
  obtain ⟨Z, ρ, r, I, e, q⟩ := h
  cases e
  exact q H (Same.refl _)
theorem PTs.imp {X : Cx} {ifs : List Expr} {t t' : TT} (h : PTs X ifs t) (i : ∀ σ H Q, t' σ H Q → t σ H Q) : PTs X ifs t' := ⟨fun pins s σ H Q I q => h.run pins s σ H Q I (i σ H Q q)⟩
def DTs (X : Cx) (Cl : Nat → Addr) (W : WX) (ifs : List Expr) (f : FT) : Prop := PTs X ifs (ttOf X.K Cl W f)
theorem dts_nil : DTs X Cl W [] (fun _ => some (.ok true)) := PTs.imp pts_nil fun σ H Q h => tYes_read h
theorem dts_one {c : Expr} {f : FT} (h : DT X Cl W c f) : DTs X Cl W [c] f := pts_one h
variable {elt tg iter : Expr} {ifs : List Expr} {scope : Scope} {own : List (Str × Nat)} {pos : Pos} {it : FI} {g : TG} {tt : FT} {fe : FE} {vs : List Nat} {st : Rho → D → Option Rho}
theorem de_lc (hc : X.calm = true) (hN : X.N.Nodup) (T : LcT X.K vs g st) (hi : DIt X Cl W tg iter it) (ok : BlkOk X.N X.env.scope scope own)
    (hg : ∀ (s : Shared) (H : Hp) (C : Addr) (cl : List (Str × Addr)) (fp : List Addr), PG (X.blk s H scope (compEnvC scope cl C X.env) fp) tg g) (ht : ∀ (s : Shared) (H : Hp) (C : Addr) (cl : List (Str × Addr)) (fp : List Addr), DTs (X.blk s H scope (compEnvC scope cl C X.env) fp) Cl W0 ifs tt)
    (he : ∀ (s : Shared) (H : Hp) (C : Addr) (cl : List (Str × Addr)) (fp : List Addr), DE (X.blk s H scope (compEnvC scope cl C X.env) fp) Cl W0 elt fe) (hv : own.map (·.2) = vs := by rfl) (hs : ∀ x, foldedSetIterable iter X.env x = pure x := by intro _; rfl) :
    DE X Cl W (.ListComp elt [⟨tg, iter, ifs, 0⟩] scope pos) (eLcG vs st it tt fe) := PE.imp (pe_lc (tt := ttOf X.K Cl W0 tt) (te := teOf X.K Cl W0 fe) hc hN hi ok hg ht he hs) fun σ H Q h => by
  rw [hv]
  exact lc_read T h
theorem ds_setLc {i : Nat} {y : Str} {py spos : Pos} (hc : X.calm = true) (hN : X.N.Nodup) (T : LcT X.K vs g st) (hi : DIt X Cl W tg iter it) (ok : BlkOk X.N X.env.scope scope own)
    (hg : ∀ (s : Shared) (H : Hp) (C : Addr) (cl : List (Str × Addr)) (fp : List Addr), PG (X.blk s H scope (compEnvC scope cl C X.env) fp) tg g) (ht : ∀ (s : Shared) (H : Hp) (C : Addr) (cl : List (Str × Addr)) (fp : List Addr), DTs (X.blk s H scope (compEnvC scope cl C X.env) fp) Cl W0 ifs tt)
    (he : ∀ (s : Shared) (H : Hp) (C : Addr) (cl : List (Str × Addr)) (fp : List Addr), DE (X.blk s H scope (compEnvC scope cl C X.env) fp) Cl W0 elt fe) (hsw : swapsWith (.ListComp elt [⟨tg, iter, ifs, 0⟩] scope pos) (some (.Name y py)) spos.line X.env = pure true) (hy : X.N[i]? = some y := by rfl) (hyl : X.env.scope.names.lookup y = some .local := by rfl) (hv : own.map (·.2) = vs := by rfl) (hs : ∀ x, foldedSetIterable iter X.env x = pure x := by intro _; rfl) :
    DS X Cl W (.Assign [.Name y py] (.ListComp elt [⟨tg, iter, ifs, 0⟩] scope pos) spos) (fSet i (eLcG vs st it tt fe)) := PS.imp (ps_setLc (tt := ttOf X.K Cl W0 tt) (te := teOf X.K Cl W0 fe) hc hN hy hyl hsw hi ok hg ht he hs) fun D σ H h => by
  have h1 := set_read h
  rw [hv]
  exact lc_read T h1
end
end DL
set_option Elab.async false
set_option linter.all false
set_option maxRecDepth 100000
set_option maxHeartbeats 4000000
namespace DL
open PySem PySem.Spec PyProof.Rows L2
section
variable {X : Cx} {Cl : Nat → Addr} {W : WX} {K : PySem.W.Frag} {e : Expr} {f : FE} {pos : Pos}
@[simp] def gLtX (a b : Val) : Option Val := (gI (fun i j => .bool (decide (i < j))) a b).or (gS (fun i j => .bool (decide (i.cps.toList < j.cps.toList))) a b)
@[simp] def gLeX (a b : Val) : Option Val := (gI (fun i j => .bool (decide (i ≤ j))) a b).or (gS (fun i j => .bool (!decide (j.cps.toList < i.cps.toList))) a b)
@[simp] def gGtX (a b : Val) : Option Val := (gI (fun i j => .bool (decide (j < i))) a b).or (gS (fun i j => .bool (decide (j.cps.toList < i.cps.toList))) a b)
@[simp] def gGeX (a b : Val) : Option Val := (gI (fun i j => .bool (decide (j ≤ i))) a b).or (gS (fun i j => .bool (!decide (i.cps.toList < j.cps.toList))) a b)
def rX (g : Int → Int → V) (h : Str → Str → V) : R2 := fun x y H Q => rI0 g x y H Q ∨ (∃ i j, x = .str i ∧ y = .str j ∧ Q (h i j) H)
theorem op_ltX : OpR X (compareOp .Lt) (rX (fun i j => .bl (decide (i < j))) fun i j => .bl (decide (i.cps.toList < j.cps.toList))) := op_lt.or op_lt_str
theorem op_gtX : OpR X (compareOp .Gt) (rX (fun i j => .bl (decide (j < i))) fun i j => .bl (decide (j.cps.toList < i.cps.toList))) := op_gt.or op_gt_str
theorem op_geX : OpR X (compareOp .GtE) (rX (fun i j => .bl (decide (j ≤ i))) fun i j => .bl (!decide (i.cps.toList < j.cps.toList))) := op_ge.or op_ge_str
theorem r2_ltX : R2D K (rX (fun i j => .bl (decide (i < j))) fun i j => .bl (decide (i.cps.toList < j.cps.toList))) gLtX := (r2_I fun i j _ => .bl _).or (r2_S (g := fun i j => .bl (decide (i.cps.toList < j.cps.toList))) fun i j _ => .bl _)
theorem r2_gtX : R2D K (rX (fun i j => .bl (decide (j < i))) fun i j => .bl (decide (j.cps.toList < i.cps.toList))) gGtX := (r2_I fun i j _ => .bl _).or (r2_S (g := fun i j => .bl (decide (j.cps.toList < i.cps.toList))) fun i j _ => .bl _)
theorem r2_geX : R2D K (rX (fun i j => .bl (decide (j ≤ i))) fun i j => .bl (!decide (i.cps.toList < j.cps.toList))) gGeX := (r2_I fun i j _ => .bl _).or (r2_S (g := fun i j => .bl (!decide (i.cps.toList < j.cps.toList))) fun i j _ => .bl _)

def fUnp (g : FG) (f : FE) : FS := sE f fun v ρ => match v.st with
  | some d => (g d ρ).map .nx
  | none => none
def idxD (x : D) (ds : List D) : Option Nat := ds.findIdx? fun d => eqV (toV d) (toV x)
@[simp] def gIndex (a b : Val) : Option Val := match a.d with
  | .list ds => if (scalarD b.d && ds.all scalarD) = true then (idxD b.d ds).map fun j => .s (.int (j : Int)) else none
  | _ => none
def eLM (g : Val → Val → Option Val) (fa fb : FE) : FE := bE fa fun a ρ => match a.d with
  | .list _ => bE fb (fun b _ => (g a b).map .ok) ρ
  | _ => none
section
variable {g : Val → Val → Option Val} {h : Val → Option Val} {fa fb fe : FE} {i : Nat} {ρ : Rho} {d : D} {gs : FGs} {tg : FG}
@[simp] theorem e2_ap : e2 g fa fb ρ = bE fa (fun a => bE fb fun b _ => (g a b).map .ok) ρ := rfl
@[simp] theorem e1_ap : e1 h fa ρ = bE fa (fun a _ => (h a).map .ok) ρ := rfl
@[simp] theorem eLM_ap : eLM g fa fb ρ = bE fa (fun a ρ => match a.d with
  | .list _ => bE fb (fun b _ => (g a b).map .ok) ρ
  | _ => none) ρ := rfl
@[simp] theorem eAndV_ap : eAndV fa fb ρ = bE fa (fun v ρ => match v.d with
  | .bool true => fb ρ
  | .bool false => ok (.bool false)
  | _ => none) ρ := rfl
@[simp] theorem eOrV_ap : eOrV fa fb ρ = bE fa (fun v ρ => match v.d with
  | .bool false => fb ρ
  | .bool true => ok (.bool true)
  | _ => none) ρ := rfl
@[simp] theorem fSet_ap : fSet i fa ρ = sE fa (fun v ρ => v.st.map fun d => .nx (ρ.set i (.dat d))) ρ := rfl
@[simp] theorem fSetO_ap : fSetO i fa ρ = sE fa (fun v ρ => match v with
  | .f ds => some (.nx (ρ.set i (.own ds)))
  | _ => none) ρ := rfl
@[simp] theorem fDrop_ap : fDrop fa ρ = sE fa (fun _ ρ => some (.nx ρ)) ρ := rfl
@[simp] theorem fRet_ap : fRet fa ρ = sE fa (fun v _ => match v with
  | .s d => some (.ret d)
  | .m d => some (.ret d)
  | .b ds => some (.retF ds)
  | .f ds => some (.retF ds)) ρ := rfl
@[simp] theorem fApp_ap : fApp i fa ρ = fOwn i (fun ds => sE fa fun v ρ => match v.st with
  | some d => if lineOk (ds.length + 1) = true then some (.nx (ρ.set i (.own (ds ++ [d])))) else none
  | none => none) ρ := rfl
@[simp] theorem fExt_ap : fExt i fa ρ = fOwn i (fun ds => sE fa fun v ρ => match v.items with
  | some es => if lineOk (ds.length + es.length) = true then some (.nx (ρ.set i (.own (ds ++ es)))) else none
  | none => none) ρ := rfl
@[simp] theorem fPop_ap : fPop i ρ = fOwn i (fun ds ρ => if ds.isEmpty = true then none else some (.nx (ρ.set i (.own ds.dropLast)))) ρ := rfl
@[simp] theorem fPut_ap : fPut i fa fe ρ = sE fe (fun v => fOwn i fun ds => sE fa fun k ρ => match k.d, v.st with
  | .int j, some d => (ixN ds.length j).map fun n => .nx (ρ.set i (.own (ds.set n d)))
  | _, _ => none) ρ := rfl
@[simp] theorem gN_ap : gN i d ρ = some (ρ.set i (.dat d)) := rfl
@[simp] theorem gsNil_ap : gsNil [] ρ = some ρ := rfl
@[simp] theorem gsCons_ap {r : List D} : gsCons i gs (d :: r) ρ = gs r (ρ.set i (.dat d)) := rfl
@[simp] theorem gT_ap {n : Nat} {ds : List D} : gT n gs (.tuple ds) ρ = if ds.length = n then gs ds ρ else none := rfl
@[simp] theorem mkD_ap {n k : Nat} {f : FS} {ds : List D} : mkD n k f ds = match f (ds.map .dat ++ List.replicate (k - n) .un) with
  | some (.nx _) => some (.ret .none)
  | some (.ret d) => some (.ret d)
  | some (.retF ds) => some (.retF ds)
  | some (.retX ds k) => some (.retX ds k)
  | some (.exc _ c i) => some (.exc c i)
  | _ => none := rfl
@[simp] theorem st1_ap : st1 i ρ d = some (ρ.set i (.dat d)) := rfl
@[simp] theorem fUnp_ap : fUnp tg fa ρ = sE fa (fun v ρ => match v.st with
  | some d => (tg d ρ).map .nx
  | none => none) ρ := rfl
end
def spLaw (K : PySem.W.Frag) : Sp := fun vs H Q _ => ∃ (a : Addr) (ns : List Int), vs = [.ref a] ∧ SqL K H a (ns.map V.int) ∧ ns.length ≤ 63 ∧ ∀ H', Q (.bl true) H'
theorem law_sp {Cl : Nat → Addr} {P : Program} {w : World} {mg : Str → Option Value} {base : Heap} {CX : CXT} {k : Nat} {fa : Addr} {fd : FuncData} {ps : List Str} {F : DF} (h : ∀ ns : List Int, ns.length ≤ 63 → F [scr ns] = some (.ret (.bool true))) (G : FnOk P w K mg base CX k fa fd ps (spD K Cl 1 F)) (hz : NoT Cl := by exact ⟨rfl, rfl, rfl, rfl⟩) : FnOk P w K mg base CX k fa fd ps (spLaw K) :=
  G.imp fun vs H Q E ⟨a, ns, e, hs, hl, q⟩ => by
    subst e
    refine ⟨fun _ => False, [scr ns], _, ⟨fun _ z => z.elim, .none hz _⟩, .cons (.scr (SqL.same' (fun b o e _ => hide_at id e) hs)) .nil, rfl, h ns hl, fun v H' s hv => ?_⟩
    rw [hv.bl_inv]
    exact q H'
theorem cx_none {P : Program} {w : World} {outer : List Env} {H : Hp} {s s' : Shared} {e : Value} (h : L2.CX P w outer H s (fun _ _ _ => False) e s') : False := by
  obtain ⟨_, _, _, _, _, _, _, _, _, _, _, _, z⟩ := h
  exact z
end
end DL
set_option Elab.async false
set_option linter.all false
set_option maxRecDepth 100000
set_option maxHeartbeats 4000000
namespace DL
open PySem PySem.Spec PyProof.Rows L2

structure ExT (K : PySem.W.Frag) (mg : Str → Option Value) (x : Str) (C fI : Addr) : Prop where
  g : mg x = some (.ref C)
  oex : OexC K C
  no : PySem.W.findIn K (.ref C) "at" = some none
  iC : PySem.W.findIn K (.ref C) "__init__" = some (some (.ref fI))
  xf : XfC K C
structure InT (K : PySem.W.Frag) (q : Str) (st : Stmt) (fI : Addr) (fd : FuncData) : Prop where
  F : Fun K "__init__" q st fI fd
  tI : PySem.W.typeIn K (.ref fI) = some (.type "function")
  b : Binds K fd ["self", "at"] []
section
variable {X : Cx} {Cl : Nat → Addr} {W : WX} {K : PySem.W.Frag} {e : Expr} {f : FE} {pos : Pos}
def fRaise (c : Nat) (f : FE) : FS := sE f fun v ρ => match v.d with
  | .int i => some (.exc ρ c i)
  | _ => none
@[simp] theorem fRaise_ap {c : Nat} {ρ : Rho} : fRaise c f ρ = sE f (fun v ρ => match v.d with
  | .int i => some (.exc ρ c i)
  | _ => none) ρ := rfl
structure Caught (X : Cx) (pins : List (Addr × Obj)) (a : Addr) (B : Heap) (sI : Shared) (σ : St) (H : Hp) (cls : Value) (d : Option Addr) (s : Shared) : Prop where
  inv : Inv X pins σ H sI
  ground : ∀ b o, sI.heap.get? b = some o → b ∉ frs X.stack → B.get? b = some o
  slots : sI.heap.UpToSlots s.heap
  fly : HandSPX.FlyingZ B (X.env :: X.outer) a (Zc cls d) s.heap
  free : H a = none
  os : s.os = sI.os
  bare : AllBare s.gens
theorem Caught.now {pins : List (Addr × Obj)} {a : Addr} {B : Heap} {sI : Shared} {σ : St} {H : Hp} {cls : Value} {d : Option Addr} {s : Shared} (c : Caught X pins a B sI σ H cls d s) : Inv X pins σ H s := c.inv.landed c.ground c.fly.1 c.slots c.os c.bare
theorem Caught.out {pins : List (Addr × Obj)} {a : Addr} {B : Heap} {sI : Shared} {σ : St} {H : Hp} {cls : Value} {d : Option Addr} {s : Shared} (c : Caught X pins a B sI σ H cls d s) (hf : X.env.frame = some X.env.locals) : a ≠ X.env.locals ∧ a ∉ X.fs := by
  obtain ⟨ob, fv, hob, _, hdat⟩ := c.fly.there
  have apart : a ∉ frs (X.env :: X.outer) := fun m => by
    obtain ⟨_, o2, e2, nf⟩ := c.fly.2.2.1.mem m
    rw [hob] at e2
    cases e2
    exact nf _ hdat
  refine ⟨fun z => apart (List.mem_filterMap.mpr ⟨X.env, List.mem_cons_self, by rw [hf, z]⟩), fun m => ?_⟩
  obtain ⟨en, men, q⟩ := List.mem_filterMap.mp m
  exact apart (List.mem_filterMap.mpr ⟨en, List.mem_cons_of_mem _ men, q⟩)
end
end DL
set_option Elab.async false
set_option linter.all false
set_option maxRecDepth 100000
set_option maxHeartbeats 4000000
namespace DL
open PySem PySem.Spec PyProof.Rows L2
section
variable {X : Cx} {Cl : Nat → Addr} {W : WX} {K : PySem.W.Frag} {pos : Pos}
structure ErF (K : PySem.W.Frag) (C : Addr) : Prop where
  xf : XfC K C
  no : PySem.W.findIn K (.ref C) "at" = some none
  xc : ExcC K C
end
end DL
set_option Elab.async false
set_option linter.all false
set_option maxRecDepth 100000
set_option maxHeartbeats 4000000
namespace DL
open PySem PySem.Spec PyProof.Rows L2
inductive AllL (P : Nat → Bool → Prop) : List (Nat × Bool) → Prop
  | nil : AllL P []
  | cons {k : Nat} {b : Bool} {r : List (Nat × Bool)} : P k b → AllL P r → AllL P ((k, b) :: r)
end DL
set_option Elab.async false
set_option linter.all false
namespace FN
open PySem PySem.Spec PyProof.Rows L2 DL
noncomputable section
def b__law_draws : FS := fSeq (fSetO 1 (eLst (aNil))) (fSeq (fFor (iRange1 (aCons (eG bMin (aCons (eC (.int 63)) (aCons (eG bLen (aCons (eV 0) (aNil))) (aNil)))) (aNil))) (gN 2) (fSeq (fSet 3 (eG bAbs (aCons (e2 gIx (eV 0) (eV 2)) (aNil)))) (fIf (tV (e2 gGeX (eV 3) (e2 gPow (eC (.int 10)) (eC (.int 18))))) (fFor (iRange1 (aCons (eC (.int 60)) (aNil))) (gN 4) (fIf (tV (e2 gGtX (eV 3) (eC (.int 0)))) (fSeq (fApp 1 (e2 gMod (eG bInt (aCons (eV 3) (aNil))) (eC (.int 65536)))) (fSet 3 (e2 gDiv (eV 3) (eC (.int 65536))))) (fNx))) (fSeq (fSet 5 (e2 gMod (eG bInt (aCons (e2 gAdd (e2 gMul (eV 3) (eC (.int 48271))) (e2 gMul (e2 gAdd (eV 2) (eC (.int 1))) (eC (.int 69621)))) (aNil))) (eC (.int 2147483647)))) (fSeq (fSet 5 (e2 gMod (eG bInt (aCons (e2 gAdd (e2 gAdd (e2 gMul (eV 5) (eC (.int 16807))) (e2 gMul (eC (.int 11)) (eV 2))) (eC (.int 5))) (aNil))) (eC (.int 2147483629)))) (fSeq (fApp 1 (e2 gMod (eG bInt (aCons (eV 5) (aNil))) (eC (.int 65536)))) (fApp 1 (e2 gMod (eG bInt (aCons (e2 gDiv (eV 5) (eC (.int 65536))) (aNil))) (eC (.int 32768)))))))))) (fRet (eV 1)))
def d__law_draws : DF := mkD 1 6 b__law_draws
def b__law_at : FS := fSeq (fIf (tV (e2 gLtX (eV 1) (eG bLen (aCons (eV 0) (aNil))))) (fRet (e2 gMod (eG bInt (aCons (e2 gIx (eV 0) (eV 1)) (aNil))) (eV 2))) (fNx)) (fRet (eC (.int 0)))
def d__law_at : DF := mkD 3 3 b__law_at
end
end FN
set_option Elab.async false
set_option linter.all false
set_option maxRecDepth 100000
set_option maxHeartbeats 4000000
namespace DL
open PySem PySem.Spec PyProof.Rows L2
section
variable {X : Cx} {W : WX} {Cl : Nat → Addr}
end
end DL
set_option Elab.async false
set_option linter.all false
set_option maxRecDepth 100000
set_option maxHeartbeats 4000000
namespace DL
open PySem PySem.Spec PyProof.Rows L2
section
variable {X : Cx} {Cl : Nat → Addr} {W : WX} {e : Expr} {p pos : Pos} {g : FA}
@[simp] def iEnumX (g : FA) (ρ : Rho) : Option (Except Er (List D)) := match g ρ with
  | none => none
  | some (.error e) => some (.error e)
  | some (.ok vs) => match vs with
    | [.s (.list ds)] => some (.ok (enumD ds))
    | [.f ds] => some (.ok (enumD ds))
    | [.s (.tuple ds)] => some (.ok (enumD ds))
    | _ => none
end
end DL
set_option Elab.async false
set_option linter.all false
set_option maxRecDepth 100000
set_option maxHeartbeats 4000000
namespace DL
open PySem PySem.Spec PyProof.Rows L2
section
variable {X : Cx} {Cl : Nat → Addr} {W : WX} {K : PySem.W.Frag} {pos : Pos}
end
end DL
set_option Elab.async false
set_option linter.all false
set_option maxRecDepth 100000
set_option maxHeartbeats 4000000
namespace DL
open PySem PySem.Spec PyProof.Rows L2
variable {K : PySem.W.Frag} {Cl : Nat → Addr}
@[simp] def bTuple : List Val → Option Val
  | [v] => v.items.map fun ds => .s (.tuple ds)
  | _ => none
end DL
set_option Elab.async false
set_option linter.all false
set_option maxRecDepth 100000
set_option maxHeartbeats 4000000
namespace DL
open PySem PySem.Spec PyProof.Rows L2
section
variable {X : Cx} {Cl : Nat → Addr} {W : WX} {K : PySem.W.Frag} {pos : Pos} {e : Expr} {es : List Expr} {g : FA}
end
end DL
set_option Elab.async false
set_option linter.all false
set_option maxRecDepth 100000
set_option maxHeartbeats 4000000
namespace DL
open PySem PySem.Spec PyProof.Rows L2
section
variable {X : Cx} {Cl : Nat → Addr} {W : WX} {K : PySem.W.Frag} {pos : Pos} {a b : Expr} {fa fb : FE}
@[simp] def gCatT (a b : Val) : Option Val := match a, b with
  | .s (.tuple xs), .s (.tuple ys) => if (!xs.isEmpty && !ys.isEmpty && lineOk (xs.length + ys.length)) = true then some (.s (.tuple (xs ++ ys))) else none
  | _, _ => none
theorem r2_catT : R2D K (rCatT K) gCatT := fun Cl Z σ ρ H0 H x y a b v Q I s ha hb e q => by
  unfold gCatT at e
  split at e
  · rename_i xs ys
    split at e
    · rename_i hl
      cases e
      simp only [Bool.and_eq_true, Bool.not_eq_true'] at hl
      obtain ⟨p, us, rfl, h1, h2⟩ := Dp.tup_inv (show Dp K (hide H (Zo Z σ ρ)) x (.tuple xs) from ha)
      obtain ⟨r, ws, rfl, h3, h4⟩ := Dp.tup_inv (show Dp K (hide H (Zo Z σ ρ)) y (.tuple ys) from hb)
      have n1 : us ≠ [] := fun z => by
        have := h2.length
        rw [z] at this
        have e0 : xs = [] := List.length_eq_zero_iff.mp this.symm
        rw [e0] at hl
        exact absurd hl.1.1 (by simp)
      have n2 : ws ≠ [] := fun z => by
        have := h4.length
        rw [z] at this
        have e0 : ys = [] := List.length_eq_zero_iff.mp this.symm
        rw [e0] at hl
        exact absurd hl.1.2 (by simp)
      refine ⟨p, r, us, ws, rfl, rfl, SqT.same hide_sub h1, SqT.same hide_sub h3, n1, by rw [h2.length, h4.length]; exact lineOk_ok hl.2, fun z => absurd z n2, fun _ l nl => q _ _ (same_upd nl) ?_⟩
      have n0 : H0 l = none := s.free nl
      have nz : ¬ Zo Z σ ρ l := fun z => I.liveZ z n0
      exact .tup (SqT.of (hide_at nz upd_same)) (DpAll.same (hide_monoD (sameD_upd nl) fun _ z => .inl z) (h2.append h4))
    · cases e
  · cases e
@[simp] def gAddT (a b : Val) : Option Val := (gAdd a b).or (gCatT a b)
theorem de_addT (ha : DE X Cl W a fa) (hb : DE X Cl W b fb) : DE X Cl W (.BinOp a .Add b pos) (e2 gAddT fa fb) := de_op ((op_add.or op_catR).or op_catT) (((r2_I fun i j _ => .int _).or r2_cat).or r2_catT) ha hb
end
end DL
set_option Elab.async false
set_option linter.all false
set_option maxRecDepth 100000
set_option maxHeartbeats 4000000
namespace DL
open PySem PySem.Spec PyProof.Rows L2
section
variable {X : Cx} {Cl : Nat → Addr} {W : WX} {K : PySem.W.Frag} {pos : Pos} {a b c : Expr} {fa fb fc : FE}
def setAll : List Nat → List D → Rho → Rho
  | i :: is, d :: ds, ρ => setAll is ds (ρ.set i (.dat d))
  | _, _, ρ => ρ
def stT (is : List Nat) : Rho → D → Option Rho := fun ρ d => match d with
  | .tuple ds => if ds.length = is.length then some (setAll is ds ρ) else none
  | _ => none
def gNames : List Nat → TGs
  | [] => gNil
  | i :: is => gCons (gName i) (gNames is)
theorem wipe_set {i : Nat} {x : Option V} : ∀ {σ : L2.St} {vs : List Nat}, i ∈ vs → wipe (σ.set i x) vs = wipe σ vs
  | σ, v :: vs, m => by
    have out : ∀ {ws : List Nat}, i ∉ ws → wipe (σ.set i x) ws = (wipe σ ws).set i x := fun {ws} h => by
      induction ws with
      | nil => rfl
      | cons w ws ih =>
        unfold wipe
        rw [ih fun z => h (List.mem_cons_of_mem _ z), List.set_comm _ _ fun z => h (by rw [z]; exact List.mem_cons_self)]
    unfold wipe
    by_cases hm : i ∈ vs
    · rw [wipe_set hm]
    · have e : i = v := (List.mem_cons.mp m).resolve_right hm
      subst e
      rw [out hm, List.set_set]
theorem wipe_wipe (σ : L2.St) (vs : List Nat) : wipe (wipe σ vs) vs = wipe σ vs := by
  have go : ∀ ws : List Nat, (∀ w ∈ ws, w ∈ vs) → wipe (wipe σ ws) vs = wipe σ vs := fun ws => by
    induction ws with
    | nil => exact fun _ => rfl
    | cons w ws ih =>
      intro h
      show wipe ((wipe σ ws).set w none) vs = _
      rw [wipe_set (h w List.mem_cons_self)]
      exact ih fun z hz => h z (List.mem_cons_of_mem _ hz)
  exact go vs fun _ h => h
theorem names_go {vs : List Nat} {Z : Addr → Prop} {σ0 : L2.St} {H : Hp} {Q : L2.St → Hp → Prop} {S : (Addr → Prop) → Prop} : ∀ (is : List Nat) (ds : List D) (xs : List V) (σ : L2.St) (ρ : Rho), (∀ i ∈ is, i ∈ vs) → (∀ i ∈ vs, ∀ s, ρ[i]? = some s → ¬ s.owns) → ds.length = is.length →
    DI K Cl Z H σ ρ → DpAll K (hide H (Zo Z σ ρ)) xs ds → wipe σ vs = wipe σ0 vs →
    (∀ σ', wipe σ' vs = wipe σ0 vs → DI K Cl Z H σ' (setAll is ds ρ) → SameD (hide H (Zo Z σ ρ)) (hide H (Zo Z σ' (setAll is ds ρ))) → (∀ b, Zo Z σ ρ b → Zo Z σ' (setAll is ds ρ) b) → Q σ' H) → gNames is xs σ H Q
  | [], [], xs, σ, ρ, _, _, _, I, h, w, q => by
    cases h
    exact ⟨rfl, q σ w I (SameD.refl _) fun _ z => z⟩
  | i :: is, d :: ds, xs, σ, ρ, hi, hn, hl, I, h, w, q => by
    cases h with
    | @cons v vr _ _ a b =>
      refine ⟨v, vr, rfl, ?_⟩
      have ni := hn i (hi i List.mem_cons_self)
      refine names_go (S := S) is ds vr (σ.set i (some v)) (ρ.set i (.dat d)) (fun j hj => hi j (List.mem_cons_of_mem _ hj)) (fun j hj es e => ?_) (by simpa using hl) (I.setDat a) (DpAll.same zo_dat b) ((wipe_set (hi i List.mem_cons_self)).trans w) fun σ' w' I' s' z' => ?_
      · by_cases hij : i = j
        · subst hij
          rw [List.getElem?_set, if_pos rfl] at e
          split at e
          · cases e
            exact fun z => nomatch z
          · cases e
        · rw [List.getElem?_set_ne hij] at e
          exact hn j hj es e
      · exact q σ' w' I' (zo_dat.trans s') fun b hb => z' b (zo_dat' ni b hb)
theorem lctT {vs is : List Nat} (hi : ∀ i ∈ is, i ∈ vs) : LcT K vs (gTup K is.length (gNames is)) (stT is) := ⟨fun Cl Z σ ρ ρ' H v d Q B hd e q => by
  unfold stT at e
  split at e
  · rename_i ds
    split at e
    · rename_i hl
      cases e
      obtain ⟨a, xs, rfl, h1, h2⟩ := hd.tup_inv
      refine ⟨a, xs, rfl, SqT.same hide_sub h1, by rw [h2.length]; exact hl, ?_⟩
      exact names_go (S := fun _ => True) (σ0 := σ) is ds xs (wipe σ vs) (wipeR ρ vs) hi (fun i m => wipeR_no m) hl B h2 (wipe_wipe σ vs) q
    · cases e
  · cases e⟩
end
end DL
set_option Elab.async false
set_option linter.all false
set_option maxRecDepth 100000
set_option maxHeartbeats 4000000
namespace DL
open PySem PySem.Spec PyProof.Rows L2
section
variable {X : Cx} {Cl : Nat → Addr} {W : WX} {K : PySem.W.Frag} {pos apos : Pos} {o e : Expr} {fo fe : FE}
@[simp] def bOrd : List Val → Option Val
  | [v] => match v.d with
    | .str x => if x.length = 1 then some (.s (.int (x.cps.getD 0 0 : Nat))) else none
    | _ => none
  | _ => none
end
end DL
set_option Elab.async false
set_option linter.all false
set_option maxRecDepth 100000
set_option maxHeartbeats 4000000
namespace DL
open PySem PySem.Spec PyProof.Rows L2
section
variable {K : PySem.W.Frag} {Cl : Nat → Addr}
@[simp] def gIsB (a b : Val) : Option Val := match a.d, b.d with
  | .bool x, .bool y => some (.s (.bool (decide (x = y))))
  | _, _ => none
@[simp] def gNotB (a b : Val) : Option Val := match a.d, b.d with
  | .bool x, .bool y => some (.s (.bool (!decide (x = y))))
  | _, _ => none
end
end DL
set_option Elab.async false
set_option linter.all false
set_option maxRecDepth 100000
set_option maxHeartbeats 4000000
namespace DL
open PySem PySem.Spec PyProof.Rows L2
section
variable {X : Cx} {Cl : Nat → Addr} {W : WX} {e tg : Expr} {es : List Expr} {f : FE} {g : FA} {p pos : Pos} {K : PySem.W.Frag}
def downD (lo : Int) (n : Nat) : List D := (List.range n).map fun (i : Nat) => .int (lo - (i : Int))
@[simp] def iRange3 (g : FA) (ρ : Rho) : Option (Except Er (List D)) := match g ρ with
  | none => none
  | some (.error e) => some (.error e)
  | some (.ok vs) => match vs with
    | [v, u, w] => match v.d, u.d, w.d with
      | .int i, .int j, .int k => if (cRng i && (cRng j && k == -1)) = true then some (.ok (downD i (i - j).toNat)) else none
      | _, _, _ => none
    | _ => none
def zipD (ds es : List D) : List D := (ds.zip es).map fun p => .tuple [p.1, p.2]
@[simp] def lstOf : Val → Option (List D)
  | .s (.list ds) => some ds
  | .f ds => some ds
  | _ => none
theorem VOk.lst {Z : Addr → Prop} {σ : St} {ρ : Rho} {H H1 : Hp} {x : V} {v : Val} {ds : List D} (I : DI K Cl Z H σ ρ) (h : VOk K Z σ ρ H H1 x v) (e : lstOf v = some ds) : ∃ a xs, x = .ref a ∧ Rd (hide H1 (Zo Z σ ρ)) a (.lst xs) ∧ DpAll K (hide H1 (Zo Z σ ρ)) xs ds := by
  unfold lstOf at e
  split at e
  · cases e
    obtain ⟨a, xs, rfl, h1, h2⟩ := Dp.lst_inv (show Dp K (hide H1 (Zo Z σ ρ)) x (.list ds) from h)
    exact ⟨a, xs, rfl, h1, h2⟩
  · cases e
    obtain ⟨a, xs, rfl, n, h1, h2⟩ := h
    have np : ¬ Zo Z σ ρ a := fun z => I.liveZ z n
    have sm : SameD (hide H1 (ZP (Zo Z σ ρ) a)) (hide H1 (Zo Z σ ρ)) := hide_monoD (SameD.refl _) fun _ h => .inl (.inl h)
    exact ⟨a, xs, rfl, Rd.of (hide_at np h1), DpAll.same sm h2⟩
  · cases e
@[simp] def iZipD (g : FA) (ρ : Rho) : Option (Except Er (List D)) := match g ρ with
  | none => none
  | some (.error e) => some (.error e)
  | some (.ok vs) => match vs with
    | [v, u] => match lstOf v, lstOf u with
      | some ds, some es => some (.ok (zipD ds es))
      | _, _ => none
    | _ => none
@[simp] def gInD (a b : Val) : Option Val := match b.d with
  | .list ds => if (SeqAt.shaped a.d && SeqAt.shaped (.list ds)) = true then some (.s (.bool (ds.any fun z => PyData.eqv z a.d))) else none
  | _ => none
@[simp] def gNotInD (a b : Val) : Option Val := match b.d with
  | .list ds => if (SeqAt.shaped a.d && SeqAt.shaped (.list ds)) = true then some (.s (.bool (!ds.any fun z => PyData.eqv z a.d))) else none
  | _ => none
end
end DL
set_option Elab.async false
set_option linter.all false
set_option maxRecDepth 100000
set_option maxHeartbeats 4000000
namespace DL
open PySem PySem.Spec PyProof.Rows L2
section
variable {X : Cx} {Cl : Nat → Addr} {W : WX} {K : PySem.W.Frag}
structure SortOk (ds : List D) : Prop where
  al : PySem.W.AllAlike ds
  so : PySem.W.Sortable ds
  dp : ∀ d ∈ ds, PyData.depth d ≤ 50
  ln : ds.length ≤ 16777216
  ly : PyData.canLayAll0 ds = true
theorem DpAll.zip : ∀ {H : Hp} {xs : List V} {ds : List D}, DpAll K H xs ds → ∀ x d, (x, d) ∈ xs.zip ds → Dp K H x d
  | _, _, _, .nil, x, d, h => nomatch h
  | _, _, _, .cons h t, x, d, hm => by
    rcases List.mem_cons.mp hm with e | hm
    · cases e
      exact h
    · exact t.zip x d hm
end
end DL
set_option Elab.async false
set_option linter.all false
set_option maxRecDepth 100000
set_option maxHeartbeats 4000000
namespace DL
open PySem PySem.Spec PyProof.Rows L2
section
variable {P : Program} {w : World} {K : PySem.W.Frag} {Cl : Nat → Addr} {mg : Str → Option Value} {base : Heap}
def FnG (P : Program) (w : World) (K : PySem.W.Frag) (mg : Str → Option Value) (base : Heap) (CX : CXT) (k : Nat) (f : Addr) (fd : FuncData) (ps : List Str) (sp : Sp) : Prop :=
  ∀ (A : Around) (o : List Env) (s : Shared) (H : Hp) (ar : Args) (us : List Value) (vs : List V) (Q : VK) (E : XK), Room k A → A.guards = some [] → Env0 P w K mg base A o s H →
    BindsTo s fd ar (ps.zip us) → Vals vs us → sp vs H Q E → codeAny (model P w) A (.call (.ref f) ar) (CR CX o P w H s Q E) s
end
end DL
set_option Elab.async false
set_option linter.all false
set_option maxRecDepth 100000
set_option maxHeartbeats 4000000
namespace DL
open PySem PySem.Spec PyProof.Rows L2
structure ReprOk (d : D) : Prop where
  ly : PyData.canLay0 d = true
  sh : PyData.showable d = true
  ln : (PyData.shown d).length ≤ 16777216
  dp : PyData.depth d ≤ 50
section
variable {X : Cx} {K : PySem.W.Frag} {Cl : Nat → Addr}
@[simp] def seqK : D → Bool
  | .list _ => true
  | .tuple _ => true
  | _ => false
end
section
variable {P : Program} {w : World} {K : PySem.W.Frag} {Cl : Nat → Addr} {mg : Str → Option Value} {base : Heap} 
theorem FnG.imp {CX : CXT} {k : Nat} {f : Addr} {fd : FuncData} {ps : List Str} {sp sp' : Sp} (F : FnG P w K mg base CX k f fd ps sp) (h : ∀ vs H Q E, sp' vs H Q E → sp vs H Q E) : FnG P w K mg base CX k f fd ps sp' :=
  fun A o s H ar us vs Q E r g e b v p => F A o s H ar us vs Q E r g e b v (h _ _ _ _ p)
end
end DL
set_option Elab.async false
set_option linter.all false
set_option maxRecDepth 100000
set_option maxHeartbeats 4000000
namespace DL
open PySem PySem.Spec PyProof.Rows L2
section
variable {X : Cx} {Cl : Nat → Addr} {W : WX} {K : PySem.W.Frag} {a b e : Expr} {fa fb f : FE} {pos : Pos}
@[simp] def fAugS (i : Nat) (f : FE) (ρ : Rho) : Option Out := match ρ[i]? with
  | some (.dat (.str a)) => sE f (fun v ρ => match v.d with
    | .str b => if lineOk (a.length + b.length) = true then some (.nx (ρ.set i (.dat (.str (a ++ b))))) else none
    | _ => none) ρ
  | _ => none
end
end DL
set_option Elab.async false
set_option linter.all false
set_option maxRecDepth 100000
set_option maxHeartbeats 4000000
namespace DL
open PySem PySem.Spec PyProof.Rows L2
section
variable {X : Cx} {Cl : Nat → Addr} {W : WX} {K : PySem.W.Frag}
@[simp] def eLcO (i : Nat) (vs : List Nat) (st : Rho → D → Option Rho) (tt : FT) (fe : FE) (ρ : Rho) : Option (Except Er Val) := if noOwn ρ vs = true then match ρ[i]? with
  | some (.own ds) => match lcL tt fe (st (wipeR ρ vs)) ds with
    | some es => if lineOk es.length = true then some (.ok (.f es)) else none
    | none => none
  | _ => none else none
theorem lcO_read {i0 : Nat} {vs : List Nat} {g : TG} {st : Rho → D → Option Rho} {tt : FT} {fe : FE} {σ : St} {H : Hp} {Q : VK} (T : LcT K vs g st) (h : teOf K Cl W (eLcO i0 vs st tt fe) σ H Q) : tLc (iList K (teOf K Cl W (eV i0))) g (ttOf K Cl W0 tt) (teOf K Cl W0 fe) vs σ H Q := by
  obtain ⟨Z, ρ, r, I, e, q⟩ := h
  unfold eLcO at e
  split at e
  · rename_i hno
    split at e
    · rename_i ds e1
      cases e2 : lcL tt fe (st (wipeR ρ vs)) ds with
      | none => rw [e2] at e; cases e
      | some es =>
        rw [e2] at e
        dsimp only at e
        split at e
        · rename_i hline
          cases e
          refine ⟨Z, ρ, .ok (.b ds), I, by unfold eV; rw [e1], fun x H1 s1 hv => ?_⟩
          obtain ⟨p, xs, rfl, ow, hp, hds⟩ := hv
          refine ⟨p, rfl, ⟨xs, SqL.of hp⟩, ?_⟩
          intro L nL
          have I1 := I.same s1
          have hJ : ∀ H', Same Cl H1 H' → SameD (hide H1 (Zo Z σ ρ)) (hide H' (ZP (Zo Z σ ρ) L)) → (∀ i, i < ds.length → (Itl K p).go i H') ∧ (∀ i, ds.length ≤ i → (Itl K p).stop i H') ∧ ∀ i x H'' d, (Itl K p).yld i H' x H'' → ds[i]? = some d → Same Cl H' H'' ∧ Dp K (hide H'' (ZP (Zo Z σ ρ) L)) x d := fun H' s2 hk => by
            have q : SqL K H' p xs := SqL.of (s2.at hp)
            refine ⟨fun i hi => ⟨xs, xs[i]'(by rw [hds.length]; exact hi), q, List.getElem?_eq_getElem _⟩, fun i hi => ⟨xs, q, by rw [hds.length]; exact hi⟩, fun i x H'' d y hd => ?_⟩
            obtain ⟨rfl, y⟩ := y
            obtain ⟨v, e1, e2⟩ := hds.get hd
            have e3 := y xs q
            rw [e1] at e3
            cases e3
            exact ⟨Same.refl _, Dp.same hk e2⟩
          have hln := lineOk_ok hline
          refine ⟨fun i m H' => ∃ acc as rest, H' L = some (.lst acc) ∧ Same Cl H1 H' ∧ DpAll K (hide H' (ZP (Zo Z σ ρ) L)) acc as ∧ lcL tt fe (st (wipeR ρ vs)) (ds.drop i) = some rest ∧ as ++ rest = es ∧ m = ds.length - i ∧ i ≤ ds.length,
            ⟨_, [], [], es, upd_same, same_upd nL, .nil, e2, rfl, rfl, Nat.zero_le _⟩, fun i m H' => ?_⟩
          rintro ⟨acc, as, rest, hL, s2, hacc, er, ea, rfl, hi⟩
          have hk : SameD (hide H1 (Zo Z σ ρ)) (hide H' (ZP (Zo Z σ ρ) L)) := hide_mono s2 fun b hb => by
            rcases hb with hb | rfl
            · exact .inl hb
            · exact .inr nL
          have hlive : ∀ b, ZP (Zo Z σ ρ) L b → H' b ≠ none := fun b hb => by
            rcases hb with hb | rfl
            · exact (I1.same s2).liveZ hb
            · rw [hL]; intro z; cases z
          obtain ⟨go, stop, yld⟩ := hJ H' s2 hk
          by_cases hlt : i < ds.length
          · refine .inr ⟨go i hlt, fun H3 => ∃ acc as rest, H3 L = some (.lst acc) ∧ Same Cl H1 H3 ∧ DpAll K (hide H3 (ZP (Zo Z σ ρ) L)) acc as ∧ lcL tt fe (st (wipeR ρ vs)) (ds.drop (i + 1)) = some rest ∧ as ++ rest = es,
              fun H3 ⟨acc, as, rest, b1, b2, b3, b4, b5⟩ => ⟨ds.length - (i + 1), by omega, acc, as, rest, b1, b2, b3, b4, b5, rfl, hlt⟩, fun x H'' y => ?_⟩
            have hd : ds[i]? = some ds[i] := List.getElem?_eq_getElem hlt
            obtain ⟨s3, hx⟩ := yld i x H'' _ y hd
            rw [List.drop_eq_getElem_cons hlt] at er
            unfold lcL at er
            cases est : st (wipeR ρ vs) ds[i] with
            | none => rw [est] at er; cases er
            | some ρ' =>
              rw [est] at er
              dsimp only at er
              have B := I1.blk (vs := vs) hno (s2.trans s3) nL (s3.at hL)
              have zeq : ∀ b, Zo (ZP Z L) (wipe σ vs) (wipeR ρ vs) b → ZP (Zo Z σ ρ) L b := fun b hb => by
                rcases hb with (hb | hb) | ⟨j, z⟩
                · exact .inl (.inl hb)
                · exact .inr hb
                · exact .inl (.inr ⟨j, (own_wipe z).2⟩)
              have zeq2 : ∀ b, ZP (Zo Z σ ρ) L b → Zo (ZP Z L) (wipe σ vs) (wipeR ρ vs) b := fun b hb => by
                rcases hb with (hb | ⟨j, z⟩) | hb
                · exact .inl (.inl hb)
                · exact .inr ⟨j, own_unwipe hno z⟩
                · exact .inl (.inr hb)
              refine T.go Cl (ZP Z L) σ ρ ρ' H'' x ds[i] _ B (Dp.same (hide_monoD (SameD.refl _) fun b hb => .inl (zeq b hb)) hx) est fun σ' hw B' hs' hz' => ⟨hw, ?_⟩
              have up4 : ∀ H4, Same Cl H'' H4 → Same Cl H1 H4 := fun H4 s4 => s2.trans (s3.trans s4)
              have acc4 : ∀ H4, Same Cl H'' H4 → DpAll K (hide H4 (ZP (Zo Z σ ρ) L)) acc as := fun H4 s4 => DpAll.same (hide_mono (s3.trans s4) fun _ h => .inl h) hacc
              cases ett : tt ρ' with
              | none => rw [ett] at er; cases er
              | some rt =>
                rw [ett] at er
                cases rt with
                | error _ => cases er
                | ok b =>
                  refine tt_step B' ett (fun er z => by cases z) fun b1 H3 eb s4 B3 => ?_
                  cases eb
                  cases b with
                  | false =>
                    dsimp only at er
                    rw [if_neg Bool.false_ne_true]
                    exact ⟨acc, as, rest, s4.at (s3.at hL), up4 _ s4, acc4 _ s4, er, ea⟩
                  | true =>
                    dsimp only at er
                    rw [if_pos rfl]
                    cases efe : fe ρ' with
                    | none => rw [efe] at er; cases er
                    | some rf =>
                      rw [efe] at er
                      cases rf with
                      | error _ => cases er
                      | ok v =>
                        dsimp only at er
                        refine te_step B3 efe (fun er z => by cases z) fun v1 y H4 ev s5 hv B4 => ?_
                        cases ev
                        cases est : v.st with
                        | none => rw [est] at er; cases er
                        | some yd =>
                          rw [est] at er
                          dsimp only at er
                          cases el : lcL tt fe (st (wipeR ρ vs)) (ds.drop (i + 1)) with
                          | none => rw [el] at er; cases er
                          | some rest' =>
                            rw [el] at er
                            cases er
                            have s45 := s4.trans s5
                            have hL4 := s45.at (s3.at hL)
                            have hy := hv.stab B3 est
                            have hacc4 := acc4 _ s45
                            refine ⟨acc, hL4, ?_, ?_⟩
                            · have h1 := hacc4.length
                              have h2 := congrArg List.length ea
                              rw [List.length_append, List.length_cons] at h2
                              omega
                            · have hin : ∀ {H5 : Hp} , (∀ b, b ≠ L → H5 b = H4 b) → SameD (hide H4 (ZP (Zo Z σ ρ) L)) (hide H5 (ZP (Zo Z σ ρ) L)) := fun {H5} k b o e _ => by
                                obtain ⟨n, e1⟩ := hide_of e
                                exact hide_at n (by rw [k b fun z => n (.inr z)]; exact e1)
                              have k5 : ∀ b, b ≠ L → upd H4 L (.lst (acc ++ [y])) b = H4 b := fun b hb => upd_ne hb
                              have hy2 : Dp K (hide H4 (ZP (Zo Z σ ρ) L)) y yd := Dp.same (hide_monoD (SameD.refl _) fun b hb => .inl (hz' b (zeq2 b hb))) hy
                              refine ⟨acc ++ [y], as ++ [yd], rest', upd_same, (up4 _ s45).over nL hL4, DpAll.append (DpAll.same (hin k5) hacc4) (.cons (Dp.same (hin k5) hy2) .nil), rfl, by rw [← ea, List.append_assoc]; rfl⟩
          · have hie : i = ds.length := by omega
            subst hie
            rw [List.drop_length] at er
            cases er
            rw [List.append_nil] at ea
            subst ea
            exact .inl ⟨stop _ (Nat.le_refl _), q _ H' (s1.trans s2) ⟨L, acc, rfl, s1.free nL, hL, hacc⟩⟩
        · cases e
    · cases e
  · cases e
variable {elt tg iter : Expr} {ifs : List Expr} {scope : Scope} {own : List (Str × Nat)} {pos : Pos} {g : TG} {tt : FT} {fe : FE} {vs : List Nat} {st : Rho → D → Option Rho} {i0 : Nat}
theorem de_lcO (hc : X.calm = true) (hN : X.N.Nodup) (T : LcT X.K vs g st) (hi : DE X Cl W iter (eV i0)) (ok : BlkOk X.N X.env.scope scope own)
    (hg : ∀ (s : Shared) (H : Hp) (C : Addr) (cl : List (Str × Addr)) (fp : List Addr), PG (X.blk s H scope (compEnvC scope cl C X.env) fp) tg g) (ht : ∀ (s : Shared) (H : Hp) (C : Addr) (cl : List (Str × Addr)) (fp : List Addr), DTs (X.blk s H scope (compEnvC scope cl C X.env) fp) Cl W0 ifs tt)
    (he : ∀ (s : Shared) (H : Hp) (C : Addr) (cl : List (Str × Addr)) (fp : List Addr), DE (X.blk s H scope (compEnvC scope cl C X.env) fp) Cl W0 elt fe) (hv : own.map (·.2) = vs := by rfl) (hs : ∀ x, foldedSetIterable iter X.env x = pure x := by intro _; rfl) :
    DE X Cl W (.ListComp elt [⟨tg, iter, ifs, 0⟩] scope pos) (eLcO i0 vs st tt fe) := PE.imp (pe_lc (tt := ttOf X.K Cl W0 tt) (te := teOf X.K Cl W0 fe) hc hN (pi_list hi) ok hg ht he hs) fun σ H Q h => by
  rw [hv]
  exact lcO_read T h
end
end DL
set_option Elab.async false
set_option linter.all false
set_option maxRecDepth 100000
set_option maxHeartbeats 4000000
namespace DL
open PySem PySem.Spec PyProof.Rows L2
section
variable {X : Cx} {K : PySem.W.Frag} {Cl : Nat → Addr}
@[simp] def gEqS (a b : Val) : Option Val := match a.d, b.d with
  | .str i, .str j => some (.s (.bool (decide (i = j))))
  | _, _ => none
@[simp] def gNeS (a b : Val) : Option Val := match a.d, b.d with
  | .str i, .str j => some (.s (.bool (!decide (i = j))))
  | _, _ => none
end
end DL
set_option Elab.async false
set_option linter.all false
set_option maxRecDepth 100000
set_option maxHeartbeats 4000000
namespace DL
open PySem PySem.Spec PyProof.Rows L2
section
variable {X : Cx} {K : PySem.W.Frag} {Cl : Nat → Addr}
end
def CountAt (k : Int) (a e it : Addr) (i : Nat) (h : Heap) : Prop := (∃ old, IsEnum h e it (k + (i : Int)) old) ∧ h.IsListIter it a i ∧ e ≠ it
theorem CountAt.cell {k : Int} {a e it : Addr} {i : Nat} {h : Heap} (c : CountAt k a e it i h) {b : Addr} (m : b = e ∨ b = it) : ∃ o, h.get? b = some o ∧ ∀ v, o.data ≠ .cell v := by
  obtain ⟨⟨old, q⟩, ⟨o, q1, q2, q3⟩, _⟩ := c
  rcases m with rfl | rfl
  · exact ⟨_, q, fun v z => nomatch z⟩
  · exact ⟨o, q1, fun v z => by rw [q3] at z; cases z⟩
section
variable {M : Model} {A : Around} {E : Value → Shared → Prop} {s : Shared} {env : Env}
end
def cntD (k : Int) (ds : List D) : List D := ds.zipIdx.map fun p => .tuple [.int (k + (p.2 : Int)), p.1]
section
variable {X : Cx} {Cl : Nat → Addr} {W : WX} {e : Expr} {p pos : Pos} {g : FA}
@[simp] def iCount (k : Int) (g : FA) (ρ : Rho) : Option (Except Er (List D)) := match g ρ with
  | some (.ok vs) => match vs with
    | [.s (.list ds)] => some (.ok (cntD k ds))
    | _ => none
  | _ => none
end
end DL
set_option Elab.async false
set_option linter.all false
set_option maxRecDepth 100000
set_option maxHeartbeats 4000000
namespace DL
open PySem PySem.Spec PyProof.Rows L2
section
variable {X : Cx} {Cl : Nat → Addr} {W : WX} {K : PySem.W.Frag} {pos : Pos}
def hasS (y x : Str) : Bool := !(Builtin.Str.occurrences y x 0 y.length 1).isEmpty
@[simp] def gInS (a b : Val) : Option Val := match a.d, b.d with
  | .str i, .str j => some (.s (.bool (hasS j i)))
  | _, _ => none
@[simp] def gNotInS (a b : Val) : Option Val := match a.d, b.d with
  | .str i, .str j => some (.s (.bool (!hasS j i)))
  | _, _ => none
end
end DL
set_option Elab.async false
set_option linter.all false
set_option maxRecDepth 100000
set_option maxHeartbeats 4000000
namespace DL
open PySem PySem.Spec PyProof.Rows L2
section
variable {X : Cx} {Cl : Nat → Addr} {W : WX} {K : PySem.W.Frag} {e : Expr} {es : List Expr} {f : FE} {pos p : Pos} {ta : TA}
def excOf : D → Option (Addr × Int)
  | .dict [(.str _, .int i), (.int (.ofNat C), .none)] => some (C, i)
  | _ => none
@[simp] theorem excOf_exc (C : Addr) (i : Int) : excOf (excD C i) = some (C, i) := rfl
end
end DL
namespace DL
open PySem PySem.Spec PyProof.Rows L2
end DL
set_option Elab.async false
set_option linter.all false
set_option maxRecDepth 100000
set_option maxHeartbeats 4000000
namespace DL
open PySem PySem.Spec PyProof.Rows L2
mutual
def noLst : D → Bool
  | .none => true | .bool _ => true | .int _ => true | .str _ => true
  | .tuple ds => noLsts ds
  | _ => false
def noLsts : List D → Bool
  | [] => true
  | d :: ds => noLst d && noLsts ds
end
section
variable {K : PySem.W.Frag} {Cl : Nat → Addr} {Z : Addr → Prop} {H : Hp} {p : Addr} {ys : List V}
theorem hideP {b : Addr} {o : HO} (hp : H p = some (.lst ys)) (e : hide H Z b = some o) (n : o ≠ .lst ys) : hide H (ZP Z p) b = some o := by
  obtain ⟨h1, h2⟩ := hide_of e
  refine hide_at (fun z => ?_) h2
  rcases z with z | z
  · exact h1 z
  · rw [z, hp] at h2
    exact n (Option.some.inj h2).symm
mutual
theorem Dp.free (hp : H p = some (.lst ys)) : ∀ {v : V} {d : D}, noLst d = true → Dp K (hide H Z) v d → Dp K (hide H (ZP Z p)) v d
  | _, _, _, .non => .non
  | _, _, _, .bl b => .bl b
  | _, _, _, .int i => .int i
  | _, _, _, .str x => .str x
  | _, _, c, .lst h t => nomatch c
  | _, _, c, .tup h t => by
    refine .tup ?_ (DpAll.free hp c t)
    rcases h with (h | ⟨o, h⟩) | h
    · exact .inl (.inl (hideP hp h fun z => by cases z))
    · exact .inl (.inr ⟨o, hideP hp h fun z => by cases z⟩)
    · exact .inr h
  | _, _, c, .scr h => nomatch c
  | _, _, c, .exc _ _ => nomatch c
theorem DpAll.free (hp : H p = some (.lst ys)) : ∀ {vs : List V} {ds : List D}, noLsts ds = true → DpAll K (hide H Z) vs ds → DpAll K (hide H (ZP Z p)) vs ds
  | _, _, _, .nil => .nil
  | _, _, c, .cons h t => by
    have c' : (noLst _ && noLsts _) = true := c
    rw [Bool.and_eq_true] at c'
    exact .cons (Dp.free hp c'.1 h) (DpAll.free hp c'.2 t)
end
end
section
variable {K : PySem.W.Frag} {Cl : Nat → Addr}  {W : WX} {H0 H1 : Hp} {Z : Addr → Prop} {H H' : Hp} {σ : St} {ρ : Rho} {D : Ends}
end
section
variable {X : Cx} {Cl : Nat → Addr} {W : WX} {K : PySem.W.Frag}  {pos : Pos} {e : Expr} {es : List Expr} {g : FA}
end
end DL
set_option Elab.async false
set_option linter.all false
set_option maxRecDepth 100000
set_option maxHeartbeats 4000000
namespace DL
open PySem PySem.Spec PyProof.Rows L2
def maxI : List Int → Int
  | [] => 0
  | n :: ns => ns.foldl (fun a y => if a < y then y else a) n
theorem maxI_fold : ∀ (ns : List Int) (n : Int), (ns.foldl (fun a y => if a < y then y else a) n ∈ n :: ns) ∧ ∀ y ∈ n :: ns, y ≤ ns.foldl (fun a y => if a < y then y else a) n
  | [], n => ⟨List.mem_cons_self, fun y hy => by rw [List.mem_singleton.mp hy]; exact Int.le_refl _⟩
  | m :: ns, n => by
    obtain ⟨h1, h2⟩ := maxI_fold ns (if n < m then m else n)
    have hc : ((if n < m then m else n) = m ∨ (if n < m then m else n) = n) ∧ n ≤ (if n < m then m else n) ∧ m ≤ (if n < m then m else n) := by
      by_cases h : n < m
      · rw [if_pos h]
        exact ⟨.inl rfl, by omega, by omega⟩
      · rw [if_neg h]
        exact ⟨.inr rfl, by omega, by omega⟩
    rw [List.foldl_cons]
    generalize (if n < m then m else n) = c at h1 h2 hc
    refine ⟨?_, fun y hy => ?_⟩
    · rcases List.mem_cons.mp h1 with e | e
      · rw [e]
        rcases hc.1 with z | z <;> rw [z]
        · exact List.mem_cons_of_mem _ List.mem_cons_self
        · exact List.mem_cons_self
      · exact List.mem_cons_of_mem _ (List.mem_cons_of_mem _ e)
    · have h0 := h2 c List.mem_cons_self
      rcases List.mem_cons.mp hy with z | hy
      · rw [z]; omega
      · rcases List.mem_cons.mp hy with z | hy
        · rw [z]; omega
        · exact h2 y (List.mem_cons_of_mem _ hy)
theorem maxI_mem {ns : List Int} (h : 0 < ns.length) : maxI ns ∈ ns := by
  cases ns with
  | nil => simp at h
  | cons n ns => exact (maxI_fold ns n).1
theorem maxI_ge {ns : List Int} : ∀ y ∈ ns, y ≤ maxI ns := by
  cases ns with
  | nil => intro y hy; cases hy
  | cons n ns => exact (maxI_fold ns n).2
theorem maxI_one {ns : List Int} {m : Int} (h1 : m ∈ ns) (h2 : ∀ y, y ∈ ns → y ≤ m) : m = maxI ns := by
  have a := maxI_ge m h1
  have b := h2 _ (maxI_mem (List.length_pos_of_mem h1))
  omega
@[simp] def bMaxL : List Val → Option Val
  | [v] => match v.d with
    | .list ds => match intsD ds with
      | some ns => if ns.length = 0 then none else some (.s (.int (maxI ns)))
      | none => none
    | _ => none
  | _ => none
section
variable {X : Cx} {Cl : Nat → Addr} {W : WX} {K : PySem.W.Frag} {e : Expr} {f : FE}
theorem cr_maxL : CRD K (rMax K) bMaxL := fun Cl Z σ ρ H0 H xs vs v Q I s hv e q => by
  unfold bMaxL at e
  split at e
  · rename_i u
    obtain ⟨x, rfl, h⟩ := hv.one
    split at e
    · rename_i ds e1
      split at e
      · rename_i ns e2
        split at e
        · cases e
        · rename_i hne
          cases e
          have h1 := Dp.same hide_sub (h.dp I)
          rw [e1] at h1
          obtain ⟨p, ys, rfl, h2, h3⟩ := h1.lst_inv
          rw [intsD_eq e2] at h3
          have e3 := h3.ints
          subst e3
          refine ⟨p, ns, rfl, .inl h2, by omega, fun m m1 m2 => ?_⟩
          rw [maxI_one m1 m2]
          exact q _ H (Same.refl _) (.int _)
      · cases e
    · cases e
  · cases e
theorem Room.u2 {k : Nat} {A : Around} (r : Room k A) : A.units + 2 < cLine := by have := r.un; omega
@[simp] def gMaxDf (d : Int) (v : Val) : Option Val := match v.d with
  | .list ds => match intsD ds with
    | some ns => some (.s (.int (if ns = [] then d else maxI ns)))
    | none => none
  | _ => none
end
end DL
set_option Elab.async false
set_option linter.all false
set_option maxRecDepth 100000
set_option maxHeartbeats 4000000
namespace DL
open PySem PySem.Spec PyProof.Rows L2
section
variable {X : Cx} {K : PySem.W.Frag}
end
section
variable {P : Program} {w : World} {A : Around} {E : Value → Shared → Prop} {env : Env}
end
structure KeyEv (x : Str) (e : Expr) (k : D → Option D) : Prop where
  run : ∀ {P : Program} {w : World} {A : Around} {E : Value → Shared → Prop} {env : Env} {s : Shared} {m : Str → Option Value} {u : Value} {d kd : D} {as : List Addr} {Q : Value → Shared → Prop}, env.scope.kind = .function → env.kindOf x = some .local → s.heap.Ns env.locals m → m x = some u → Reads s.heap u d as → k d = some kd →
    (∀ v h' tk, (∀ b o, s.heap.get? b = some o → h'.get? b = some o) → Reads h' v kd [] → Q v { s with heap := h', toks := tk }) → wpAny (model P w) A (eval e env) Q E s
structure LamP (scope : Scope) (x : Str) : Prop where
  kind : scope.kind = .function
  co : scope.isCoroutine = false
  gen : scope.isGenerator = false
  cell : ∀ y ∈ scope.names, y.2 ≠ .cell
  loc : scope.names.lookup x = some .local
  free : ∀ y ∈ scope.names, y.2 ≠ .free
section
variable {P : Program} {w : World} {A : Around}
end
structure TabUp (P : Addr) (q : Str) (H H1 : Hp) : Prop where
  old : ∀ b o, H b = some o → b ≠ P → H1 b = some o
  tab : LamX.TabS H1 P q
  was : ∃ ps, H P = some (.tbl ps)
theorem TabUp.same {Cl : Nat → Addr} {P : Addr} {q : Str} {H H1 : Hp} (t : TabUp P q H H1) (hu : ∀ p ∈ LQ, Cl p.1 = P → p.2 = q) : Same Cl H H1 := by
  obtain ⟨ps, hP⟩ := t.was
  have nP : ∀ {b : Addr} {o : HO}, H b = some o → (∀ ps, o ≠ .tbl ps) → b ≠ P := fun {b o} e n z => by
    rw [z, hP] at e
    exact n ps (Option.some.inj e).symm
  refine ⟨fun b o e n => t.old b o e (nP e fun ps z => by rw [z] at n; cases n), fun T p hp n => ?_, fun b e => ?_⟩
  · by_cases hb : Cl p.1 = P
    · rw [hu p hp hb, hb]
      exact t.tab
    · obtain ⟨ps', h1, h2, h3⟩ := T p hp n
      refine ⟨ps', t.old _ _ h1 hb, h2, fun pos cv hc => ?_⟩
      obtain ⟨c, e1, e2⟩ := h3 pos cv hc
      exact ⟨c, e1, t.old _ _ e2 (nP e2 fun ps => LamX.codeO_ne ps)⟩
  · by_cases hb : b = P
    · obtain ⟨ps', h1, _⟩ := t.tab
      rw [hb, h1]
      intro z; cases z
    · cases q : H b with
      | none => exact absurd q e
      | some o =>
        rw [t.old b o q hb]
        intro z; cases z
section
variable {X : Cx} {pins : List (Addr × Obj)} {σ : St} {H : Hp} {s : Shared}
end
def kk (k : D → Option D) (d : D) : D := (k d).getD .none
structure SortKOk (k : D → Option D) (ds : List D) : Prop where
  ok : ∀ d ∈ ds, (k d).isSome = true
  al : PySem.W.AllAlike (ds.map (kk k))
  so : PySem.W.Sortable (ds.map (kk k))
  dp : ∀ d ∈ ds, PyData.depth (kk k d) ≤ 50
  ln : ds.length ≤ 16777216
  ly : PyData.canLayAll0 ds = true
section
variable {X : Cx} {Cl : Nat → Addr} {W : WX}
end
structure FunC (K : PySem.W.Frag) (x qual : Str) (st : Stmt) (f : Addr) (fd : FuncData) (cd : Value) : Prop where
  ex : ∃ (oc : Value) (od : Option Addr) (kV doc pm : Value) (an : Option Addr) (ct : Value) (osl : Array (Option Value)),
    fd = PySem.W.fnOf x qual (defArgs st) (defBody st) (defScope st) .none kV doc pm an cd ct ∧ K.lookup f = some ⟨oc, od, .func fd, osl⟩ ∧ PySem.W.codeIn K cd qual = true
section
variable {P : Program} {w : World} {K : PySem.W.Frag} {mg : Str → Option Value} {base : Heap} {Cl : Nat → Addr}
end
end DL
set_option Elab.async false
set_option linter.all false
set_option maxRecDepth 100000
set_option maxHeartbeats 4000000
namespace DL
open PySem PySem.Spec PyProof.Rows L2
def noSeq : HO → Bool
  | .tup _ => false
  | .frz _ _ => false
  | _ => true
theorem CellOk.noSeq {K : PySem.W.Frag} {Cl : Nat → Addr} {Hs : Hp} {a : Addr} {u : HO} {c : Cell} (h : CellOk K Cl Hs a u c) : DL.noSeq u = true := by
  cases c with
  | set ks =>
    obtain ⟨L, rfl, _, _⟩ := h
    rfl
  | lst ds =>
    obtain ⟨xs, rfl, _⟩ := h
    rfl
section
variable {K : PySem.W.Frag} {Z O : Addr → Prop} {H : Hp}
theorem hideO {b : Addr} {o : HO} (hO : ∀ a, O a → ∃ u, H a = some u ∧ noSeq u = true) (e : hide H Z b = some o) (n : noSeq o = false) : hide H (fun b => Z b ∨ O b) b = some o := by
  obtain ⟨h1, h2⟩ := hide_of e
  refine hide_at (fun z => ?_) h2
  rcases z with z | z
  · exact h1 z
  · obtain ⟨u, q, q2⟩ := hO b z
    rw [q] at h2
    cases h2
    rw [n] at q2
    cases q2
mutual
theorem Dp.freeO (hO : ∀ a, O a → ∃ u, H a = some u ∧ noSeq u = true) : ∀ {v : V} {d : D}, noLst d = true → Dp K (hide H Z) v d → Dp K (hide H (fun b => Z b ∨ O b)) v d
  | _, _, _, .non => .non
  | _, _, _, .bl b => .bl b
  | _, _, _, .int i => .int i
  | _, _, _, .str x => .str x
  | _, _, c, .lst h t => nomatch c
  | _, _, c, .tup h t => by
    refine .tup ?_ (DpAll.freeO hO c t)
    rcases h with (h | ⟨o, h⟩) | h
    · exact .inl (.inl (hideO hO h rfl))
    · exact .inl (.inr ⟨o, hideO hO h rfl⟩)
    · exact .inr h
  | _, _, c, .scr h => nomatch c
  | _, _, c, .exc _ _ => nomatch c
theorem DpAll.freeO (hO : ∀ a, O a → ∃ u, H a = some u ∧ noSeq u = true) : ∀ {vs : List V} {ds : List D}, noLsts ds = true → DpAll K (hide H Z) vs ds → DpAll K (hide H (fun b => Z b ∨ O b)) vs ds
  | _, _, _, .nil => .nil
  | _, _, c, .cons h t => by
    have c' : (noLst _ && noLsts _) = true := c
    rw [Bool.and_eq_true] at c'
    exact .cons (Dp.freeO hO c'.1 h) (DpAll.freeO hO c'.2 t)
end
theorem DI.ownLst {Cl : Nat → Addr} {σ : St} {ρ : Rho} (I : DI K Cl Z H σ ρ) : ∀ a, Owned σ ρ a → ∃ u, H a = some u ∧ noSeq u = true ∧ ntb u = true := fun a h => by
  obtain ⟨i, ⟨h1, ds, h2⟩ | ⟨k, ds, h2⟩ | ⟨c, h2⟩⟩ := h
  · obtain ⟨b, xs, e, hb, _⟩ := I.slots i _ h2
    rw [h1] at e
    cases e
    exact ⟨_, hb, rfl, rfl⟩
  · obtain ⟨T, e, ⟨xs, ys, es, _, _, _, _, hb, _⟩⟩ := I.slots i _ h2
    exact ⟨_, hb, rfl, rfl⟩
  · obtain ⟨_, u, hb, h⟩ := I.slots i _ h2
    exact ⟨u, hb, h.noSeq, h.ntb⟩
end
section
variable {X : Cx} {Cl : Nat → Addr} {W : WX} {e : Expr} {es : List Expr} {g : FA} {p pos : Pos}
def eCallL (F : DF) (n : Nat) (g : FA) (ρ : Rho) : Option (Except Er Val) := match g ρ with
  | none => none
  | some (.error e) => some (.error e)
  | some (.ok vs) => if vs.length = n then match F (vs.map Val.d) with
    | some (.exc c i) => some (.error (c, i))
    | some (.retF ds) => if noLsts ds = true then some (.ok (.f ds)) else none
    | _ => none else none
theorem de_callL {n k : Nat} {F : DF} {fa : Addr} {fd : FuncData} {ps : List Str} {x : Str} (G : FnOk X.prog X.w X.K X.mg X.base (L2.CX X.prog X.w) k fa fd ps (spD X.K Cl n F)) (tk : Takes X W) (hr : Room k X.A) (hm : X.mg x = some (.ref fa)) (hk : PySem.W.keepIn X.K (.ref fa) = true) (hb : Binds X.K fd ps [])
    (ha : DA X Cl W (e :: es) g) (hg : Gl X x := by rfl) (hdb : (x == ("__debug__" : Str)) = false := by decide) (he : starEach (e :: es) X.env = (false, eval e X.env) :: starEach es X.env := by rfl) (hpl : (backTo pos (starEach es X.env)).any (·.1) = false := by rfl) :
    DE X Cl W (.Call (.Name x p) (e :: es) [] pos) (eCallL F n g) := PE.imp (pe_callS (E := WE W) G hr hg hm hk hb (fun σ => passAt tk σ) ha hdb he hpl) fun σ H Q ⟨Z, ρ, r, I, e, q⟩ => by
  unfold eCallL at e
  cases e1 : g ρ with
  | none => rw [e1] at e; cases e
  | some r1 =>
    rw [e1] at e
    refine ta_step I e1 (fun er z => ?_) fun vs xs H1 ev s1 hvs I1 => ?_
    · subst z
      cases e
      exact q
    · subst ev
      dsimp only at e
      split at e
      · rename_i hn
        split at e
        · rename_i c i eF
          cases e
          exact ⟨Z, vs.map Val.d, _, ⟨fun b z => I1.live b z, I1.tb⟩, hvs.dp I, by rw [List.length_map]; exact hn, eF, fun dd H' s hd => q dd H' (s1.trans s) hd⟩
        · rename_i gs eF
          split at e
          · rename_i hno
            cases e
            refine ⟨Z, vs.map Val.d, _, ⟨fun b z => I1.live b z, I1.tb⟩, hvs.dp I, by rw [List.length_map]; exact hn, eF, fun p xs H' s n h2 h3 => ?_⟩
            have hO : ∀ a, Owned σ ρ a → ∃ u, H' a = some u ∧ noSeq u = true := fun a ha => by
              obtain ⟨u, hy, h1, h2⟩ := I1.ownLst a ha
              exact ⟨u, s.d a u hy h2, h1⟩
            have h4 := DpAll.freeO hO hno h3
            refine q _ H' (s1.trans s) ⟨p, xs, rfl, s1.free n, h2, DpAll.same (hide_monoD (SameD.refl _) fun b hb => .inl ?_) h4⟩
            rcases hb with (hb | hb) | hb
            · exact .inl (.inl hb)
            · exact .inr hb
            · exact .inl (.inr hb)
          · cases e
        · cases e
      · cases e
end
end DL
set_option Elab.async false
set_option linter.all false
set_option maxRecDepth 100000
set_option maxHeartbeats 4000000
namespace DL
open PySem PySem.Spec PyProof.Rows L2
section
variable {X : Cx} {Cl : Nat → Addr} {W : WX} {K : PySem.W.Frag}
end
end DL
set_option Elab.async false
set_option linter.all false
set_option maxRecDepth 100000
set_option maxHeartbeats 4000000
namespace DL
open PySem PySem.Spec PyProof.Rows L2
section
variable {P : Program} {w : World} {K : PySem.W.Frag} {mg : Str → Option Value} {base : Heap}
end
section
variable {X : Cx} {e : Expr} {es : List Expr} {ta : TA} {p pos : Pos}
end
end DL
set_option Elab.async false
set_option linter.all false
set_option maxRecDepth 100000
set_option maxHeartbeats 4000000
namespace DL
open PySem PySem.Spec PyProof.Rows L2
section
variable {X : Cx} {Cl : Nat → Addr} {W : WX} {K : PySem.W.Frag} {e : Expr} {es : List Expr} {f : FE} {g : FA} {p pos : Pos}
end
section
variable {P : Program} {w : World} {K : PySem.W.Frag} {mg : Str → Option Value} {base : Heap} {Cl : Nat → Addr}
end
section
variable {P : Program} {w : World} {K : PySem.W.Frag} {mg : Str → Option Value} {base : Heap} {Cl : Nat → Addr}
end
section
variable {X : Cx} {Cl : Nat → Addr} {W : WX}
end
end DL
set_option Elab.async false
set_option linter.all false
set_option maxRecDepth 100000
set_option maxHeartbeats 4000000
namespace DL
open PySem PySem.Spec PyProof.Rows L2
section
variable {P : Program} {w : World} {A : Around} {E : Value → Shared → Prop} {s : Shared} {a : Addr} {L : List (Addr × List Int)} {es : Array (Int × Value)} {ep : Nat} {t : SetTable}
end
end DL
set_option Elab.async false
set_option linter.all false
set_option maxRecDepth 100000
set_option maxHeartbeats 4000000
namespace DL
open PySem PySem.Spec PyProof.Rows L2
section
variable {X : Cx} {b : Bool}
theorem SetTR.ty {P : Program} {w : World} {s : Shared} {a : Addr} {L : List (Addr × List Int)} {es : Array (Int × Value)} {ep : Nat} {t : SetTable} (R : SetTR P w s.heap a L es ep t) : s.TypeIs (.ref a) "set" := by
  obtain ⟨o, h1, h2, _⟩ := R.ob
  exact ⟨o, h1, h2.1⟩
end
end DL
set_option Elab.async false
set_option linter.all false
set_option maxRecDepth 100000
set_option maxHeartbeats 4000000
namespace DL
open PySem PySem.Spec PyProof.Rows L2
section
variable {K : PySem.W.Frag} {Cl : Nat → Addr} {W : WX} {H0 H1 : Hp} {Z : Addr → Prop} {H H' : Hp} {σ : St} {ρ : Rho} {D : Ends}
theorem TBl.overC {H4 : Hp} {L : Addr} {u u' : HO} (t : TBl Cl H4) (hL : H4 L = some u) (n1 : ∀ ps, u ≠ .tbl ps) (n2 : ∀ q, u ≠ LamX.CodeO L q) : TBl Cl (upd H4 L u') := fun p hp n => by
  obtain ⟨ps, h1, h2, h3⟩ := t p hp n
  have a1 : Cl p.1 ≠ L := fun z => by
    rw [z, hL] at h1
    exact n1 _ (Option.some.inj h1)
  refine ⟨ps, by rw [upd_ne a1]; exact h1, h2, fun pos cv hc => ?_⟩
  obtain ⟨c, e1, e2⟩ := h3 pos cv hc
  have a2 : c ≠ L := fun z => by
    rw [z, hL] at e2
    exact n2 _ (Option.some.inj e2)
  exact ⟨c, e1, by rw [upd_ne a2]; exact e2⟩
theorem Same.overC {H1 H4 : Hp} {L : Addr} {u u' : HO} (s : Same Cl H1 H4) (nL : H1 L = none) (hL : H4 L = some u) (n1 : ∀ ps, u ≠ .tbl ps) (n2 : ∀ q, u ≠ LamX.CodeO L q) : Same Cl H1 (upd H4 L u') := by
  have ne : ∀ {b : Addr}, H1 b ≠ none → b ≠ L := fun {b} e z => e (by rw [z]; exact nL)
  exact ⟨fun b o e n => by rw [upd_ne (ne (by rw [e]; intro z; cases z))]; exact s.d b o e n, fun t => (s.tb t).overC hL n1 n2, fun b e => by rw [upd_ne (ne e)]; exact s.live b e⟩
end
section
variable {X : Cx} {Cl : Nat → Addr} {W : WX} {e : Expr} {fe : FE} {pos : Pos}
end
end DL
set_option Elab.async false
set_option linter.all false
set_option maxRecDepth 100000
set_option maxHeartbeats 4000000
namespace DL
open PySem PySem.Spec PyProof.Rows L2
abbrev TF := List D → Option (List D)
def tfD (F : TF) : DF := fun ds => (F ds).map .retF
section
variable {K : PySem.W.Frag} {Cl : Nat → Addr} {W : WX} {Z Z1 : Addr → Prop} {H0 H H' : Hp} {σ : St} {ρ : Rho}
theorem DI.hid (I : DI K Cl Z H σ ρ) (s : Same Cl H H') {S : Addr → Prop} (n : ∀ a, S a → H a = none) (l : ∀ a, S a → H' a ≠ none) : DI K Cl (fun a => Z a ∨ S a) H' σ ρ := by
  have I' := I.same s
  have hm : SameD (hide H (Zo Z σ ρ)) (hide H' (Zo (fun a => Z a ∨ S a) σ ρ)) := hide_mono s fun b hb => by
    rcases hb with (hb | hb) | hb
    · exact .inl (.inl hb)
    · exact .inr (n b hb)
    · exact .inl (.inr hb)
  refine ⟨I.len, I.one, fun a o z => z.elim (I.out a o) fun z => I.liveO o (n a z), fun a z => z.elim (I'.live a) (l a), fun i t e => ?_, I'.tb⟩
  have q := I.slots i t e
  cases t with
  | un => trivial
  | dat d =>
    obtain ⟨v, e1, h1⟩ := q
    exact ⟨v, e1, Dp.same hm h1⟩
  | own ds =>
    obtain ⟨a, xs, e1, e2, h1⟩ := q
    exact ⟨a, xs, e1, s.at e2, DpAll.same hm h1⟩
  | err a dd j => exact ⟨q.1, s.at q.2⟩
  | ownT a k gs =>
    obtain ⟨T, e1, h1⟩ := q
    exact ⟨T, e1, h1.same hm fun _ z => s.at z⟩
  | pin a => exact q
  | ob k fs => exact ObOk.same hm q
  | cel a c =>
    obtain ⟨e1, u, e2, h1⟩ := q
    exact ⟨e1, u, s.cel h1 e2, h1.same hm⟩
theorem DI.less (I : DI K Cl Z1 H σ ρ) (h : ∀ a, Z a → Z1 a) : DI K Cl Z H σ ρ := by
  have hm : SameD (hide H (Zo Z1 σ ρ)) (hide H (Zo Z σ ρ)) := hide_monoD (SameD.refl _) fun b hb => .inl (hb.elim (fun z => .inl (h b z)) .inr)
  refine ⟨I.len, I.one, fun a o z => I.out a o (h a z), fun a z => I.live a (h a z), fun i t e => ?_, I.tb⟩
  have q := I.slots i t e
  cases t with
  | un => trivial
  | dat d =>
    obtain ⟨v, e1, h1⟩ := q
    exact ⟨v, e1, Dp.same hm h1⟩
  | own ds =>
    obtain ⟨a, xs, e1, e2, h1⟩ := q
    exact ⟨a, xs, e1, e2, DpAll.same hm h1⟩
  | err a dd j => exact q
  | ownT a k gs =>
    obtain ⟨T, e1, h1⟩ := q
    exact ⟨T, e1, h1.same hm fun _ z => z⟩
  | pin a => exact q
  | ob k fs => exact ObOk.same hm q
  | cel a c =>
    obtain ⟨e1, u, e2, h1⟩ := q
    exact ⟨e1, u, e2, h1.same hm⟩
theorem SI.less (I : SI K Cl H0 Z1 H σ ρ) (h : ∀ a, Z a → Z1 a) : SI K Cl H0 Z H σ ρ := ⟨I.di.less h, I.same, I.new⟩
theorem SI.hid (I : SI K Cl H0 Z H σ ρ) (s : Same Cl H H') {S : Addr → Prop} (n : ∀ a, S a → H a = none) (l : ∀ a, S a → H' a ≠ none) : SI K Cl H0 (fun a => Z a ∨ S a) H' σ ρ := ⟨I.di.hid s n l, I.same.trans s, I.new⟩
theorem SI.poke (I : SI K Cl H0 Z H σ ρ) {q : Addr} {ys zs : List V} (hz : Z q) (h0 : H0 q = none) (hq : H q = some (.lst ys)) : SI K Cl H0 Z (upd H q (.lst zs)) σ ρ := by
  have hm : SameD (hide H (Zo Z σ ρ)) (hide (upd H q (.lst zs)) (Zo Z σ ρ)) := fun b o e _ => by
    obtain ⟨n, e1⟩ := hide_of e
    exact hide_at n (by rw [upd_ne fun z => n (.inl (by rw [z]; exact hz))]; exact e1)
  have no : ∀ a, Owned σ ρ a → a ≠ q := fun a o z => I.di.out a o (by rw [z]; exact hz)
  refine ⟨⟨I.di.len, I.di.one, I.di.out, fun a z => ?_, fun i t e => ?_, I.di.tb.over hq⟩, I.same.over h0 hq, I.new⟩
  · by_cases e : a = q
    · rw [e, upd_same]
      intro z; cases z
    · rw [upd_ne e]
      exact I.di.live a z
  · have k := I.di.slots i t e
    cases t with
    | un => trivial
    | dat d =>
      obtain ⟨v, e1, h1⟩ := k
      exact ⟨v, e1, Dp.same hm h1⟩
    | own ds =>
      obtain ⟨a, xs, e1, e2, h1⟩ := k
      exact ⟨a, xs, e1, by rw [upd_ne (no a ⟨i, .inl ⟨e1, ds, e⟩⟩)]; exact e2, DpAll.same hm h1⟩
    | err a dd j =>
      have nd : dd ≠ q := fun z => by
        have k2 := k.2
        rw [z, hq] at k2
        cases k2
      exact ⟨k.1, by rw [upd_ne nd]; exact k.2⟩
    | ownT a k' gs =>
      obtain ⟨T, e1, h1⟩ := k
      exact ⟨T, e1, h1.same hm fun _ z => by rw [upd_ne (no a ⟨i, .inr (.inl ⟨k', gs, e⟩)⟩)]; exact z⟩
    | pin a => exact k
    | ob k fs => exact ObOk.same hm k
    | cel a c =>
      obtain ⟨e1, u, e2, h1⟩ := k
      exact ⟨e1, u, by rw [upd_ne (no a ⟨i, .inr (.inr ⟨c, e⟩)⟩)]; exact e2, h1.same hm⟩
end
section
variable {X : Cx} {Cl : Nat → Addr} {W : WX} {K : PySem.W.Frag}
variable {elt tg iter : Expr} {scope : Scope} {own : List (Str × Nat)} {pos rpos : Pos} {it : FI} {g : TG} {fe : FE} {vs : List Nat} {st : Rho → D → Option Rho}
end
def mkT (n k : Nat) (f : Rho → Option (List D)) : TF := fun ds => f (ds.map .dat ++ List.replicate (k - n) .un)
end DL
set_option Elab.async false
set_option linter.all false
set_option maxRecDepth 100000
set_option maxHeartbeats 4000000
namespace DL
open PySem PySem.Spec PyProof.Rows L2
theorem pss_never {X : Cx} {st : List Stmt} : PSs X st (fun _ _ _ => False) := ⟨fun _ _ _ _ _ _ h => h.elim⟩
section
variable {X : Cx} {Cl : Nat → Addr} {W : WX} {e : Expr} {es : List Expr} {g : FA} {f2 : FE} {t3 : FT} {rest : FS}
end
end DL
set_option Elab.async false
set_option linter.all false
set_option maxRecDepth 100000
set_option maxHeartbeats 4000000
namespace DL
open PySem PySem.Spec PyProof.Rows L2
section
variable {X : Cx} {Cl : Nat → Addr} {pos : Pos}
end
end DL
set_option Elab.async false
set_option linter.all false
set_option maxRecDepth 100000
set_option maxHeartbeats 4000000
namespace DL
open PySem PySem.Spec PyProof.Rows L2
section
variable {X : Cx} {K : PySem.W.Frag} {Cl : Nat → Addr} {W : WX} {H0 H1 : Hp} {Z : Addr → Prop} {H H' : Hp} {σ : St} {ρ : Rho}
variable {tg : Expr} {x : Str} {pos p0 : Pos}
end
end DL
set_option Elab.async false
set_option linter.all false
set_option maxRecDepth 100000
set_option maxHeartbeats 4000000
namespace DL
open PySem PySem.Spec PyProof.Rows L2
def dicGet : List (Int × D) → Int → Option D
  | [], _ => none
  | (k, d) :: ps, n => if k = n then some d else dicGet ps n
theorem DicOk.get {K : PySem.W.Frag} {Hs : Hp} {n : Int} : ∀ {kvs : List (Key × V)} {ps : List (Int × D)}, DicOk K Hs kvs ps → Dp K Hs ((valV kvs (Sum.inl n : Key)).getD .non) ((dicGet ps n).getD .none)
  | _, _, .nil => .non
  | _, _, .cons (k := k) (v := v) (d := d) (kvs := kvs) (ps := ps) h t => by
    have ih := DicOk.get (n := n) t
    unfold valV at ih ⊢
    unfold dicGet
    by_cases z : k = n
    · subst z
      rw [if_pos rfl, List.find?_cons_of_pos (by simp)]
      exact h
    · rw [if_neg z, List.find?_cons_of_neg (by simp [z])]
      exact ih
section
variable {X : Cx} {Cl : Nat → Addr} {W : WX} {K : PySem.W.Frag} {f : Str} {e o : Expr} {es : List Expr} {fe : FE} {g : FA} {pos apos cpos : Pos}
end
section
variable {Cl : Nat → Addr} {K : PySem.W.Frag}
end
section
variable {X : Cx} {CX : CXT} {k : Nat} {g C : Addr} {fd : FuncData} {ps : List Str} {sp : Sp} {E : St → XK} {m : Str} {pos apos : Pos} {e o : Expr} {es : List Expr} {ta : TE} {t : TA}
end
section
variable {X : Cx} {Cl : Nat → Addr} {W : WX} {o e : Expr} {es : List Expr} {g : FA} {pos apos : Pos}
end
end DL
set_option Elab.async false
set_option linter.all false
set_option maxRecDepth 100000
set_option maxHeartbeats 4000000
namespace DL
open PySem PySem.Spec PyProof.Rows L2
structure WS where
  size : Int
  piece : List Int
  total : Int
  number : Int
  kind : Int
  stamp : Int
  ticks : Int
  skip : Int
  rows : List D
  tags : List D
  spots : List D
  named : List (Int × D)
def WS.of (s : WS) : List OF := [.dat (.int s.size), .dat (.list (s.piece.map .int)), .dat (.int s.total), .dat (.int s.number), .dat (.int s.kind), .dat (.int s.stamp), .dat (.int s.ticks), .dat (.int s.skip), .dat (.list s.rows), .dat (.list s.tags), .dat (.list s.spots), .dic s.named]
structure WAd where
  dx : Addr
  q : Addr
  r : Addr
  n : Addr
def inA (a : Addr) (w : WAd) : Addr → Prop := fun b => b = a ∨ b = w.dx ∨ b = w.q ∨ b = w.r ∨ b = w.n
def wVals (w : WAd) (s : WS) (vr vt : V) : List V := [.int s.size, .ref w.q, .int s.total, .int s.number, .int s.kind, .int s.stamp, .int s.ticks, .int s.skip, vr, vt, .ref w.r, .ref w.n]
structure WA (K : PySem.W.Frag) (Cl : Nat → Addr) (H Hs : Hp) (a : Addr) (w : WAd) (s : WS) : Prop where
  o : ∃ vr vt, H a = some (.ins (Cl 3000) w.dx ((fldN 3000).zip (wVals w s vr vt))) ∧ Dp K Hs vr (.list s.rows) ∧ Dp K Hs vt (.list s.tags)
  d : H w.dx = some (.own a)
  p : H w.q = some (.lst (s.piece.map V.int))
  sp : ∃ xs, H w.r = some (.lst xs) ∧ DpAll K Hs xs s.spots
  nm : ∃ kvs, H w.n = some (.dK kvs) ∧ DicOk K Hs kvs s.named
  qr : w.q ≠ w.r
def wKind : HO → Bool
  | .ins _ _ _ => true | .own _ => true | .lst _ => true | .dK _ => true
  | _ => false
section
variable {K : PySem.W.Frag} {Cl : Nat → Addr} {W : WX} {H H' H0 Hs Hs' : Hp} {a : Addr} {w w' : WAd} {s s' : WS} {Z : Addr → Prop} {σ σ' : St} {ρ ρ' : Rho} {iw : Nat}
theorem WA.at_ (h : WA K Cl H Hs a w s) {b : Addr} (hb : inA a w b) : ∃ u, H b = some u ∧ wKind u = true := by
  obtain ⟨vr, vt, h1, _, _⟩ := h.o
  obtain ⟨xs, h2, _⟩ := h.sp
  obtain ⟨kvs, h3, _⟩ := h.nm
  rcases hb with rfl | rfl | rfl | rfl | rfl
  · exact ⟨_, h1, rfl⟩
  · exact ⟨_, h.d, rfl⟩
  · exact ⟨_, h.p, rfl⟩
  · exact ⟨_, h2, rfl⟩
  · exact ⟨_, h3, rfl⟩
theorem WA.same (h : WA K Cl H Hs a w s) (h1 : ∀ b, inA a w b → H' b = H b) (m : SameD Hs Hs') : WA K Cl H' Hs' a w s := by
  obtain ⟨vr, vt, e1, e2, e3⟩ := h.o
  obtain ⟨xs, e4, e5⟩ := h.sp
  obtain ⟨kvs, e6, e7⟩ := h.nm
  exact ⟨⟨vr, vt, by rw [h1 a (.inl rfl)]; exact e1, Dp.same m e2, Dp.same m e3⟩, by rw [h1 _ (.inr (.inl rfl))]; exact h.d, by rw [h1 _ (.inr (.inr (.inl rfl)))]; exact h.p, ⟨xs, by rw [h1 _ (.inr (.inr (.inr (.inl rfl))))]; exact e4, DpAll.same m e5⟩, ⟨kvs, by rw [h1 _ (.inr (.inr (.inr (.inr rfl))))]; exact e6, e7.same m⟩, h.qr⟩
theorem wKind_ntb {u : HO} (h : wKind u = true) : ntb u = true := by cases u <;> first | rfl | cases h
theorem WA.kept (h : WA K Cl H Hs a w s) (sm : Same Cl H H') {b : Addr} (hb : inA a w b) : H' b = H b := by
  obtain ⟨u, e, k⟩ := h.at_ hb
  rw [e, sm.at e (wKind_ntb k)]
def ZA (Z : Addr → Prop) (a : Addr) (w : WAd) : Addr → Prop := fun b => Z b ∨ inA a w b
open Classical in
noncomputable def mixA (H0 H : Hp) (a : Addr) (w : WAd) : Hp := fun b => if inA a w b then H b else H0 b
theorem mixA_in {b : Addr} (h : inA a w b) : mixA H0 H a w b = H b := by unfold mixA; rw [if_pos h]
theorem mixA_out {b : Addr} (h : ¬ inA a w b) : mixA H0 H a w b = H0 b := by unfold mixA; rw [if_neg h]
structure SIW (K : PySem.W.Frag) (Cl : Nat → Addr) (H0 : Hp) (Z : Addr → Prop) (H : Hp) (σ : St) (ρ : Rho) (iw : Nat) (a : Addr) (w : WAd) (s : WS) : Prop where
  si : SI K Cl (mixA H0 H a w) (ZA Z a w) H σ (ρ.set iw (.pin a))
  wa : WA K Cl H (hide H (Zo (ZA Z a w) σ (ρ.set iw (.pin a)))) a w s
  h0 : ∀ b, inA a w b → H0 b = none
  nz : ∀ b, inA a w b → ¬ Z b
  un : ρ[iw]? = some .un
theorem SIW.mix (S : SIW K Cl H0 Z H σ ρ iw a w s) : Same Cl H0 (mixA H0 H a w) := by
  have ne : ∀ {b : Addr}, H0 b ≠ none → ¬ inA a w b := fun {b} e z => e (S.h0 b z)
  exact .of fun b o e => by rw [mixA_out (ne (by rw [e]; intro z; cases z))]; exact e
theorem SIW.base (S : SIW K Cl H0 Z H σ ρ iw a w s) : Same Cl H0 H := S.mix.trans S.si.same
theorem SIW.same (S : SIW K Cl H0 Z H σ ρ iw a w s) (sm : Same Cl H H') : SIW K Cl H0 Z H' σ ρ iw a w s := by
  have e : mixA H0 H' a w = mixA H0 H a w := funext fun b => by
    by_cases h : inA a w b
    · rw [mixA_in h, mixA_in h, S.wa.kept sm h]
    · rw [mixA_out h, mixA_out h]
  exact ⟨by rw [e]; exact S.si.same' sm, S.wa.same (fun b hb => S.wa.kept sm hb) (hide_mono sm fun _ h => .inl h), S.h0, S.nz, S.un⟩
theorem SIW.step (S : SIW K Cl H0 Z H σ ρ iw a w s) (I : SI K Cl (unown H σ (ρ.set iw (.pin a))) (ZA Z a w) H' σ' ρ') (hp : ρ'[iw]? = some (.pin a)) : SIW K Cl H0 Z H' σ' (ρ'.set iw .un) iw a w s := by
  have hi : iw < ρ'.length := (List.getElem?_eq_some_iff.mp hp).1
  have back : (ρ'.set iw .un).set iw (.pin a) = ρ' := by
    obtain ⟨h1, h2⟩ := List.getElem?_eq_some_iff.mp hp
    rw [List.set_set, ← h2, List.set_getElem_self h1]
  have no : ∀ b, inA a w b → ¬ Owned σ (ρ.set iw (.pin a)) b := fun b hb z => S.si.di.out b z (.inr hb)
  have kept : ∀ b, inA a w b → H' b = H b := fun b hb => by
    obtain ⟨u, e, k⟩ := S.wa.at_ hb
    rw [e, I.same.at (unown_at (no b hb) e) (wKind_ntb k)]
  have e : mixA H0 H' a w = mixA H0 H a w := funext fun b => by
    by_cases h : inA a w b
    · rw [mixA_in h, mixA_in h, kept b h]
    · rw [mixA_out h, mixA_out h]
  refine ⟨?_, ?_, S.h0, S.nz, by rw [List.getElem?_set, if_pos rfl, if_pos hi]⟩
  · rw [back, e]
    exact I.rebase S.si.based.1
  · rw [back]
    exact S.wa.same kept I.kept
structure After (Cl : Nat → Addr) (H : Hp) (a : Addr) (w : WAd) (H' : Hp) (w' : WAd) : Prop where
  s : Same Cl (hide H (inA a w)) H'
  tb : TBl Cl H → TBl Cl H'
  new : ∀ b, inA a w' b → inA a w b ∨ H b = none
theorem After.live (f : After Cl H a w H' w') {b : Addr} (n : ¬ inA a w b) (e : H b ≠ none) : H' b ≠ none := f.s.live b (by unfold hide; rw [if_neg n]; exact e)
theorem After.keep (f : After Cl H a w H' w') {b : Addr} {o : HO} (n : ¬ inA a w b) (e : H b = some o) (t : ntb o = true) : H' b = some o := f.s.at (hide_at n e) t
theorem SIW.afterD (S : SIW K Cl H0 Z H σ ρ iw a w s) (f : After Cl H a w H' w') : SameD (hide H (Zo (ZA Z a w) σ (ρ.set iw (.pin a)))) (hide H' (Zo (ZA Z a w') σ (ρ.set iw (.pin a)))) := fun b o e t => by
  obtain ⟨n, e1⟩ := hide_of e
  refine hide_at (fun z => ?_) (f.keep (fun z => n (.inl (.inr z))) e1 t)
  rcases z with (z | z) | z
  · exact n (.inl (.inl z))
  · rcases f.new b z with z | z
    · exact n (.inl (.inr z))
    · rw [z] at e1
      cases e1
  · exact n (.inr z)
theorem SIW.after (S : SIW K Cl H0 Z H σ ρ iw a w s) (f : After Cl H a w H' w') (wa' : WA K Cl H' (hide H' (Zo (ZA Z a w') σ (ρ.set iw (.pin a)))) a w' s') : SIW K Cl H0 Z H' σ ρ iw a w' s' := by
  have m := S.afterD f
  have noA : ∀ b, Owned σ (ρ.set iw (.pin a)) b → ¬ inA a w b := fun b o z => S.si.di.out b o (.inr z)
  have noA' : ∀ b, Owned σ (ρ.set iw (.pin a)) b → ¬ inA a w' b := fun b o z => by
    rcases f.new b z with z | z
    · exact noA b o z
    · exact S.si.di.liveO o z
  have h0' : ∀ b, inA a w' b → H0 b = none := fun b z => by
    rcases f.new b z with z | z
    · exact S.h0 b z
    · exact S.base.free z
  have nz' : ∀ b, inA a w' b → ¬ Z b := fun b z y => by
    rcases f.new b z with z | z
    · exact S.nz b z y
    · exact S.si.di.live b (.inl y) z
  have hown : ∀ {b : Addr} {o : HO}, Owned σ (ρ.set iw (.pin a)) b → H b = some o → ntb o = true → H' b = some o := fun {b o} ob e t => f.keep (noA b ob) e t
  refine ⟨⟨⟨S.si.di.len, S.si.di.one, fun b o z => ?_, fun b z => ?_, fun i t e => ?_, f.tb S.si.di.tb⟩, ?_, fun b o => ?_⟩, wa', h0', nz', S.un⟩
  · rcases z with z | z
    · exact S.si.di.out b o (.inl z)
    · exact noA' b o z
  · rcases z with z | z
    · exact f.live (fun y => S.nz b y z) (S.si.di.live b (.inl z))
    · obtain ⟨u, e, _⟩ := wa'.at_ z
      rw [e]
      intro y
      cases y
  · have k := S.si.di.slots i t e
    cases t with
    | un => trivial
    | dat d =>
      obtain ⟨v, e1, h1⟩ := k
      exact ⟨v, e1, Dp.same m h1⟩
    | own ds =>
      obtain ⟨b, xs, e1, e2, h1⟩ := k
      exact ⟨b, xs, e1, hown ⟨i, .inl ⟨e1, ds, e⟩⟩ e2 rfl, DpAll.same m h1⟩
    | err b dd j =>
      refine ⟨k.1, f.keep (fun z => ?_) k.2 rfl⟩
      obtain ⟨u, e3, k3⟩ := S.wa.at_ z
      have k2 := k.2
      rw [e3] at k2
      cases k2
      cases k3
    | ownT b k' gs =>
      obtain ⟨T, e1, h1⟩ := k
      exact ⟨T, e1, h1.same m fun ys z => hown ⟨i, .inr (.inl ⟨k', gs, e⟩)⟩ z rfl⟩
    | pin b => exact k
    | ob k' fs =>
      exact ObOk.same m k
    | cel b c =>
      obtain ⟨e1, u, e2, h1⟩ := k
      exact ⟨e1, u, hown ⟨i, .inr (.inr ⟨c, e⟩)⟩ e2 h1.ntb, h1.same m⟩
  · refine ⟨fun b o e t => ?_, fun _ => f.tb S.si.di.tb, fun b e => ?_⟩
    · by_cases h : inA a w' b
      · rw [mixA_in h] at e
        exact e
      · rw [mixA_out h] at e
        have n : ¬ inA a w b := fun z => by rw [S.h0 b z] at e; cases e
        exact f.keep n (S.si.same.d b o (by rw [mixA_out n]; exact e) t) t
    · by_cases h : inA a w' b
      · rw [mixA_in h] at e
        exact e
      · rw [mixA_out h] at e
        exact f.live (fun y => e (S.h0 b y)) (S.base.live b e)
  · rw [mixA_out (noA' b o)]
    have q := S.si.new b o
    rw [mixA_out (noA b o)] at q
    exact q
structure RTW (K : PySem.W.Frag) (Cl : Nat → Addr) (H0 : Hp) (Z : Addr → Prop) (H : Hp) (a : Addr) (w : WAd) (s : WS) : Prop where
  same : Same Cl H0 H
  tb : TBl Cl H
  wa : WA K Cl H (hide H (ZA Z a w)) a w s
  h0 : ∀ b, inA a w b → H0 b = none
  nz : ∀ b, inA a w b → ¬ Z b
theorem SIW.rt (S : SIW K Cl H0 Z H σ ρ iw a w s) : RTW K Cl H0 Z H a w s := ⟨S.base, S.si.di.tb, S.wa.same (fun _ _ => rfl) (hide_monoD (SameD.refl _) fun _ h => .inl (.inl h)), S.h0, S.nz⟩
def OkW (K : PySem.W.Frag) (Cl : Nat → Addr) (W : WX) (H0 : Hp) (Z : Addr → Prop) (iw : Nat) (a : Addr) (D : Ends) : WS × Out → Prop
  | (s, .nx ρ) => ∀ σ H w, SIW K Cl H0 Z H σ ρ iw a w s → D.nx σ H
  | (s, .brk ρ) => ∀ σ H w, SIW K Cl H0 Z H σ ρ iw a w s → D.bk σ H
  | (s, .ct ρ) => ∀ σ H w, SIW K Cl H0 Z H σ ρ iw a w s → D.ct σ H
  | (s, .ret d) => ∀ v H w, RTW K Cl H0 Z H a w s → Dp K (hide H (ZA Z a w)) v d → D.rt v H
  | (s, .retF ds) => ∀ p xs H w, RTW K Cl H0 Z H a w s → H0 p = none → ¬ inA a w p → H p = some (.lst xs) → DpAll K (hide H (ZP (ZA Z a w) p)) xs ds → D.rt (.ref p) H
  | (_, .retX _ _) => False
  | (s, .exc ρ c i) => ∀ dd σ H w, SIW K Cl H0 Z H σ ρ iw a w s → H dd = some (.xd [(("at" : Str), .int i)]) → W (.ref (Cl c)) (some dd) σ H
abbrev FW := WS → Rho → Option (WS × Out)
section
variable {X : Cx} {st : Stmt} {sts : List Stmt} {f : FS} {g h : FW}
end
end
end DL
set_option Elab.async false
set_option linter.all false
set_option maxRecDepth 100000
set_option maxHeartbeats 4000000
namespace DL
open PySem PySem.Spec PyProof.Rows L2
section
variable {K : PySem.W.Frag} {Cl : Nat → Addr} {W : WX} {H H' H0 Hs Hs' : Hp} {a : Addr} {w w' : WAd} {s s' : WS} {Z : Addr → Prop} {σ σ' : St} {ρ ρ' : Rho} {iw : Nat}
theorem own_plain {i : Nat} {s s' : Slot} (hs : ρ[i]? = some s) (n : ¬ s.owns) (n' : ¬ s'.owns) (j : Nat) (b : Addr) : OwnAt σ (ρ.set i s') j b ↔ OwnAt σ ρ j b := by
  by_cases hj : i = j
  · subst hj
    have hl : i < ρ.length := (List.getElem?_eq_some_iff.mp hs).1
    constructor
    · intro h
      obtain ⟨t, h1, h2⟩ := h.slot
      rw [List.getElem?_set, if_pos rfl, if_pos hl] at h1
      cases h1
      exact absurd h2 n'
    · intro h
      obtain ⟨t, h1, h2⟩ := h.slot
      rw [hs] at h1
      cases h1
      exact absurd h2 n
  · unfold OwnAt
    rw [List.getElem?_set_ne hj]
theorem WA.ob (h : WA K Cl H Hs a w s) (e : ∀ b, inA a w b → Hs' b = H b) (m : SameD Hs Hs') : ObAt K Cl Hs' a 3000 s.of := by
  obtain ⟨vr, vt, e1, e2, e3⟩ := h.o
  obtain ⟨xs, e4, e5⟩ := h.sp
  obtain ⟨kvs, e6, e7⟩ := h.nm
  have hl : ∀ {b : Addr} {xs : List V}, inA a w b → H b = some (.lst xs) → Rd Hs' b (.lst xs) := fun {b xs} hb q => Rd.of (by rw [e b hb]; exact q)
  refine ⟨w.dx, wVals w s vr vt, by rw [e a (.inl rfl)]; exact e1, rfl, rfl, fun j x hx => ?_⟩
  match j, hx with
  | 0, hx => cases hx; exact ⟨_, rfl, .int _⟩
  | 1, hx =>
    cases hx
    exact ⟨_, rfl, .lst (hl (.inr (.inr (.inl rfl))) h.p) (DpAll.of_ints _)⟩
  | 2, hx => cases hx; exact ⟨_, rfl, .int _⟩
  | 3, hx => cases hx; exact ⟨_, rfl, .int _⟩
  | 4, hx => cases hx; exact ⟨_, rfl, .int _⟩
  | 5, hx => cases hx; exact ⟨_, rfl, .int _⟩
  | 6, hx => cases hx; exact ⟨_, rfl, .int _⟩
  | 7, hx => cases hx; exact ⟨_, rfl, .int _⟩
  | 8, hx => cases hx; exact ⟨_, rfl, Dp.same m e2⟩
  | 9, hx => cases hx; exact ⟨_, rfl, Dp.same m e3⟩
  | 10, hx =>
    cases hx
    exact ⟨_, rfl, .lst (hl (.inr (.inr (.inr (.inl rfl)))) e4) (DpAll.same m e5)⟩
  | 11, hx =>
    cases hx
    exact ⟨_, rfl, w.n, kvs, rfl, by rw [e _ (.inr (.inr (.inr (.inr rfl))))]; exact e6, e7.same m⟩
  | j + 12, hx => cases hx
theorem SIW.err {e : Er} {D : Ends} (S : SIW K Cl H0 Z H σ ρ iw a w s) (h : OkW K Cl W H0 Z iw a D (s, .exc ρ e.1 e.2)) : ErOk Cl W σ H e := fun dd H' sm hd => h dd σ H' w (S.same sm) hd
section
variable {X : Cx} {c : Expr} {sa sb : List Stmt} {pos : Pos} {t : FT} {f g : FW}
end
theorem SIW.based (S : SIW K Cl H0 Z H σ ρ iw a w s) : Same Cl H0 (hide (unown H σ (ρ.set iw (.pin a))) (inA a w)) ∧ SIW K Cl (hide (unown H σ (ρ.set iw (.pin a))) (inA a w)) Z H σ ρ iw a w s := by
  obtain ⟨b0, I2⟩ := S.si.based
  have nA : ∀ {b : Addr}, H0 b ≠ none → ¬ inA a w b := fun {b} e z => e (S.h0 b z)
  have nt : ∀ {b : Addr} {o : HO}, unown H σ (ρ.set iw (.pin a)) b = some o → ((∃ ps, o = .tbl ps) ∨ ∃ q, o = LamX.CodeO b q) → ¬ inA a w b := fun {b o} e k z => by
    obtain ⟨u, e2, k2⟩ := S.wa.at_ z
    rw [(unown_of e).2] at e2
    cases e2
    rcases k with ⟨ps, rfl⟩ | ⟨q, rfl⟩
    · cases k2
    · unfold LamX.CodeO at k2
      cases k2
  have s0 := S.mix.trans b0
  refine ⟨⟨fun b o e t => hide_at (nA (by rw [e]; intro z; cases z)) (s0.d b o e t), fun t q hq n => ?_, fun b e z => ?_⟩, ?_, S.wa, fun b h => ?_, S.nz, S.un⟩
  · obtain ⟨ps, h1, h2, h3⟩ := s0.tb t q hq n
    refine ⟨ps, hide_at (nt h1 (.inl ⟨ps, rfl⟩)) h1, h2, fun pos cv hc => ?_⟩
    obtain ⟨c, e1, e2⟩ := h3 pos cv hc
    exact ⟨c, e1, hide_at (nt e2 (.inr ⟨_, rfl⟩)) e2⟩
  · have q := s0.live b e
    unfold hide at z
    rw [if_neg (nA e)] at z
    exact q z
  · have e : mixA (hide (unown H σ (ρ.set iw (.pin a))) (inA a w)) H a w = unown H σ (ρ.set iw (.pin a)) := funext fun b => by
      by_cases h : inA a w b
      · obtain ⟨u, e, _⟩ := S.wa.at_ h
        rw [mixA_in h, e, unown_at (fun z => S.si.di.out b z (.inr h)) e]
      · rw [mixA_out h]
        unfold hide
        rw [if_neg h]
    rw [e]
    exact I2
  · unfold hide
    rw [if_pos h]
theorem SIW.rebase {H1 : Hp} (S : SIW K Cl H1 Z H σ ρ iw a w s) (sm : Same Cl H0 H1) : SIW K Cl H0 Z H σ ρ iw a w s := by
  have h0 : ∀ b, inA a w b → H0 b = none := fun b h => sm.free (S.h0 b h)
  refine ⟨⟨S.si.di, ⟨fun b o e t => ?_, fun _ => S.si.di.tb, fun b e => ?_⟩, fun b o => ?_⟩, S.wa, h0, S.nz, S.un⟩
  · by_cases h : inA a w b
    · rw [mixA_in h] at e
      exact e
    · rw [mixA_out h] at e
      exact S.si.same.d b o (by rw [mixA_out h]; exact sm.d b o e t) t
  · by_cases h : inA a w b
    · rw [mixA_in h] at e
      exact e
    · rw [mixA_out h] at e
      exact S.si.same.live b (by rw [mixA_out h]; exact sm.live b e)
  · have n : ¬ inA a w b := fun z => S.si.di.out b o (.inr z)
    have q := S.si.new b o
    rw [mixA_out n] at q ⊢
    exact sm.free q
theorem RTW.rebase {H1 : Hp} (S : RTW K Cl H1 Z H a w s) (sm : Same Cl H0 H1) : RTW K Cl H0 Z H a w s := ⟨sm.trans S.same, S.tb, S.wa, fun b h => sm.free (S.h0 b h), S.nz⟩
theorem OkW.rebase {H1 : Hp} {D : Ends} {r : WS × Out} (sm : Same Cl H0 H1) (h : OkW K Cl W H0 Z iw a D r) : OkW K Cl W H1 Z iw a D r := by
  obtain ⟨s, o⟩ := r
  cases o with
  | nx ρ => exact fun σ H w S => h σ H w (S.rebase sm)
  | brk ρ => exact fun σ H w S => h σ H w (S.rebase sm)
  | ct ρ => exact fun σ H w S => h σ H w (S.rebase sm)
  | ret d => exact fun v H w R hd => h v H w (R.rebase sm) hd
  | retF ds => exact fun p xs H w R np nA hp hd => h p xs H w (R.rebase sm) (sm.free np) nA hp hd
  | retX ds k => exact h
  | exc ρ c i => exact fun dd σ H w S hd => h dd σ H w (S.rebase sm) hd
theorem SIW.kept (S : SIW K Cl (hide (unown H σ (ρ.set iw (.pin a))) (inA a w)) Z H' σ' ρ' iw a w' s') : SameD (hide H (Zo (ZA Z a w) σ (ρ.set iw (.pin a)))) (hide H' (Zo (ZA Z a w') σ' (ρ'.set iw (.pin a)))) := fun b o e nt => by
  obtain ⟨n, e1⟩ := hide_of e
  have e2 : hide (unown H σ (ρ.set iw (.pin a))) (inA a w) b = some o := hide_at (fun z => n (.inl (.inr z))) (unown_at (fun z => n (.inr z)) e1)
  have nA : ¬ inA a w' b := fun z => by rw [S.h0 b z] at e2; cases e2
  refine hide_at (fun z => ?_) (S.si.same.d b o (by rw [mixA_out nA]; exact e2) nt)
  rcases z with (z | z) | z
  · exact n (.inl (.inl z))
  · exact nA z
  · have q := S.si.new b z
    rw [mixA_out nA, e2] at q
    cases q
section
variable {X : Cx} {tg e : Expr} {body : List Stmt} {pos : Pos} {it : FI} {g : FG} {fb : FW}
end
end
end DL
set_option Elab.async false
set_option linter.all false
set_option maxRecDepth 100000
set_option maxHeartbeats 4000000
namespace DL
open PySem PySem.Spec PyProof.Rows L2
def litW (xs : List D) : Bool := xs.all fun d => match d with
  | .int _ => true
  | _ => false
def tupW : D → Bool
  | .tuple _ => true
  | _ => false
def freeL (s : WS) (xs : List D) : Bool := litW xs && (decide (xs.length ≠ s.piece.length) && !(xs.isEmpty && s.spots.isEmpty))
def freeI (s : WS) : D → Bool
  | .list xs => freeL s xs
  | d => scalarD d
def freeW (s : WS) (d : D) : Bool := s.spots.all tupW && match d with
  | .tuple ds => ds.all (freeI s)
  | d => scalarD d
section
variable {K : PySem.W.Frag} {Cl : Nat → Addr} {W : WX} {H H' H0 Hs Hs' : Hp} {a : Addr} {w w' : WAd} {s s' : WS} {Z Y : Addr → Prop} {σ σ' : St} {ρ ρ' : Rho} {iw : Nat}
theorem free_at (h : WA K Cl H Hs a w s) {b : Addr} {xs : List V} {ds : List D} (hb : H b = some (.lst xs)) (hd : DpAll K Hs' xs ds) (hf : freeL s ds = true) (ht : s.spots.all tupW = true) : ¬ inA a w b := fun z => by
  unfold freeL at hf
  rw [Bool.and_eq_true, Bool.and_eq_true, decide_eq_true_eq, Bool.not_eq_true', Bool.and_eq_false_iff] at hf
  obtain ⟨h1, h2, h3⟩ := hf
  have hl := hd.length
  rcases z with rfl | rfl | rfl | rfl | rfl
  · obtain ⟨vr, vt, e, _⟩ := h.o
    rw [e] at hb
    cases hb
  · rw [h.d] at hb
    cases hb
  · rw [h.p] at hb
    cases hb
    rw [List.length_map] at hl
    exact h2 hl.symm
  · obtain ⟨ys, e, hy⟩ := h.sp
    rw [e] at hb
    cases hb
    have hl2 := hy.length
    generalize s.spots = sp at hy hl2 h3 ht
    cases hd with
    | nil =>
      cases hy
      rcases h3 with h3 | h3 <;> cases h3
    | cons a1 a2 =>
      cases hy with
      | cons b1 b2 =>
        rename_i v vs d ds' d2 ds2
        unfold litW at h1
        rw [List.all_cons, Bool.and_eq_true] at h1 ht
        cases d <;> first | cases h1.1 | skip
        cases d2 <;> first | cases ht.1 | skip
        rw [a1.int_inv] at b1
        cases b1
  · obtain ⟨kvs, e, _⟩ := h.nm
    rw [e] at hb
    cases hb
theorem free_rd (h : WA K Cl H Hs a w s) {b : Addr} {xs : List V} {ds : List D} (hb : Rd (hide H Y) b (.lst xs)) (hd : DpAll K (hide H Y) xs ds) (hf : freeL s ds = true) (ht : s.spots.all tupW = true) : Rd (hide H fun b => Y b ∨ inA a w b) b (.lst xs) := by
  rcases hb with hb | ⟨o, hb⟩
  · obtain ⟨n, e⟩ := hide_of hb
    exact .inl (hide_at (fun z => z.elim n (free_at h e hd hf ht)) e)
  · obtain ⟨n, e⟩ := hide_of hb
    refine .inr ⟨o, hide_at (fun z => z.elim n fun z => ?_) e⟩
    obtain ⟨u, e2, k⟩ := h.at_ z
    rw [e] at e2
    cases e2
    cases k
theorem free_int {xs : List V} {ds : List D} (hl : litW ds = true) (hd : DpAll K Hs xs ds) : DpAll K Hs' xs ds := DpAll.scalar (by
  rw [List.all_eq_true]
  intro d hd
  unfold litW at hl
  have q := List.all_eq_true.mp hl d hd
  cases d <;> first | rfl | cases q) hd
theorem free_item (h : WA K Cl H Hs a w s) {v : V} {d : D} (hd : Dp K (hide H Y) v d) (hf : freeI s d = true) (ht : s.spots.all tupW = true) : Dp K (hide H fun b => Y b ∨ inA a w b) v d := by
  cases d with
  | list ds =>
    obtain ⟨b, xs, rfl, r1, r2⟩ := hd.lst_inv
    have hf : freeL s ds = true := hf
    have hl : litW ds = true := by
      unfold freeL at hf
      rw [Bool.and_eq_true] at hf
      exact hf.1
    exact .lst (free_rd h r1 r2 hf ht) (free_int hl r2)
  | none => exact Dp.scalar rfl hd
  | bool b => exact Dp.scalar rfl hd
  | int i => exact Dp.scalar rfl hd
  | str x => exact Dp.scalar rfl hd
  | tuple ds => cases hf
  | dict ks => cases hf
theorem free_items (h : WA K Cl H Hs a w s) (ht : s.spots.all tupW = true) : ∀ {xs : List V} {ds : List D}, DpAll K (hide H Y) xs ds → ds.all (freeI s) = true → DpAll K (hide H fun b => Y b ∨ inA a w b) xs ds
  | _, _, .nil, _ => .nil
  | _, _, .cons q1 q2, hf => by
    rw [List.all_cons, Bool.and_eq_true] at hf
    exact .cons (free_item h q1 hf.1 ht) (free_items h ht q2 hf.2)
theorem free_ok (h : WA K Cl H Hs a w s) {v : V} {d : D} (hd : Dp K (hide H Y) v d) (hf : freeW s d = true) : Dp K (hide H fun b => Y b ∨ inA a w b) v d := by
  unfold freeW at hf
  rw [Bool.and_eq_true] at hf
  obtain ⟨ht, hf⟩ := hf
  cases d with
  | tuple ds =>
    obtain ⟨T, xs, rfl, r1, r2⟩ := hd.tup_inv
    refine .tup ?_ (free_items h ht r2 hf)
    have nk : ∀ {o : HO}, H T = some o → wKind o = false → ¬ inA a w T := fun {o} e k z => by
      obtain ⟨u, e2, k2⟩ := h.at_ z
      rw [e] at e2
      cases e2
      rw [k] at k2
      cases k2
    rcases r1 with (r1 | ⟨o, r1⟩) | r1
    · obtain ⟨n, e⟩ := hide_of r1
      exact .inl (.inl (hide_at (fun z => z.elim n (nk e rfl)) e))
    · obtain ⟨n, e⟩ := hide_of r1
      exact .inl (.inr ⟨o, hide_at (fun z => z.elim n (nk e rfl)) e⟩)
    · exact .inr r1
  | none => exact Dp.scalar rfl hd
  | bool b => exact Dp.scalar rfl hd
  | int i => exact Dp.scalar rfl hd
  | str x => exact Dp.scalar rfl hd
  | list ds => cases hf
  | dict ks => cases hf
theorem SIW.pinAt (S : SIW K Cl H0 Z H σ ρ iw a w s) : (ρ.set iw (.pin a))[iw]? = some (.pin a) := by rw [List.getElem?_set, if_pos rfl, if_pos (List.getElem?_eq_some_iff.mp S.un).1]
theorem SIW.ownOb (S : SIW K Cl H0 Z H σ ρ iw a w s) (b : Addr) : Owned σ (ρ.set iw (.ob 3000 s.of)) b ↔ Owned σ (ρ.set iw (.pin a)) b := by
  have e : ρ.set iw (.ob 3000 s.of) = (ρ.set iw (.pin a)).set iw (.ob 3000 s.of) := by rw [List.set_set]
  rw [e]
  exact ⟨fun ⟨j, q⟩ => ⟨j, (own_plain (s := .pin a) (s' := .ob 3000 s.of) S.pinAt (show ¬ Slot.owns (.pin a) from fun z => z) (show ¬ Slot.owns (.ob 3000 s.of) from fun z => z) j b).mp q⟩, fun ⟨j, q⟩ => ⟨j, (own_plain (s := .pin a) (s' := .ob 3000 s.of) S.pinAt (show ¬ Slot.owns (.pin a) from fun z => z) (show ¬ Slot.owns (.ob 3000 s.of) from fun z => z) j b).mpr q⟩⟩
theorem SIW.free (S : SIW K Cl H0 Z H σ ρ iw a w s) {v : V} {d : D} (hd : Dp K (hide H (Zo Z σ (ρ.set iw (.ob 3000 s.of)))) v d) (hf : freeW s d = true) : Dp K (hide H (Zo (ZA Z a w) σ (ρ.set iw (.pin a)))) v d :=
  Dp.same (hide_monoD (SameD.refl _) fun b hb => .inl (by
    rcases hb with (hb | hb) | hb
    · exact .inl (.inl hb)
    · exact .inr hb
    · exact .inl (.inr ((S.ownOb b).mpr hb)))) (free_ok S.wa hd hf)
theorem SIW.setDat (S : SIW K Cl H0 Z H σ ρ iw a w s) {j : Nat} {v : V} {d : D} (hj : iw ≠ j) (hd : Dp K (hide H (Zo (ZA Z a w) σ (ρ.set iw (.pin a)))) v d) : SIW K Cl H0 Z H (σ.set j (some v)) (ρ.set j (.dat d)) iw a w s := by
  have e : (ρ.set j (.dat d)).set iw (.pin a) = (ρ.set iw (.pin a)).set j (.dat d) := List.set_comm _ _ (Ne.symm hj)
  have I := S.si.setDat (i := j) hd
  have m : SameD (hide H (Zo (ZA Z a w) σ (ρ.set iw (.pin a)))) (hide H (Zo (ZA Z a w) (σ.set j (some v)) ((ρ.set iw (.pin a)).set j (.dat d)))) := hide_monoD (SameD.refl _) fun b hb => .inl (hb.imp id fun ⟨k, q⟩ => ⟨k, own_sub (s := .dat d) (fun z => nomatch z) q⟩)
  exact ⟨by rw [e]; exact I, by rw [e]; exact S.wa.same (fun _ _ => rfl) m, S.h0, S.nz, by rw [List.getElem?_set_ne (Ne.symm hj)]; exact S.un⟩
section
variable {X : Cx} {e : Expr} {f : FE} {pos : Pos}
end
open Classical in
noncomputable def pinned {β : Type} (iw : Nat) (g : Rho → Option β) (ρ : Rho) : Option β := if h : ∃ o, ∀ a, g (ρ.set iw (.pin a)) = some o then some h.choose else none
theorem pinned_spec {β : Type} {iw : Nat} {g : Rho → Option β} {ρ : Rho} {o : β} (h : pinned iw g ρ = some o) (a : Addr) : g (ρ.set iw (.pin a)) = some o := by
  unfold pinned at h
  split at h
  · rename_i hh
    cases h
    exact hh.choose_spec a
  · cases h
theorem pinned_of {β : Type} {iw : Nat} {g : Rho → Option β} {ρ : Rho} {o : β} (h : ∀ a, g (ρ.set iw (.pin a)) = some o) : pinned iw g ρ = some o := by
  have hh : ∃ o, ∀ a, g (ρ.set iw (.pin a)) = some o := ⟨o, h⟩
  unfold pinned
  rw [dif_pos hh]
  have q := hh.choose_spec 0
  rw [h 0] at q
  rw [← Option.some.inj q]
theorem SIW.start {rest : List V} {ds : List D} {m : Nat} (live : LivT Cl (ZA Z a w) H) (wa : WA K Cl H (hide H (ZA Z a w)) a w s) (nz : ∀ b, inA a w b → ¬ Z b) (h : DpAll K (hide H (ZA Z a w)) rest ds) : SIW K Cl (hide H (inA a w)) Z H (some (.ref a) :: (rest.map some ++ List.replicate m none)) (.un :: (ds.map .dat ++ List.replicate m .un)) 0 a w s := by
  have e : mixA (hide H (inA a w)) H a w = H := funext fun b => by
    by_cases z : inA a w b
    · rw [mixA_in z]
    · rw [mixA_out z]
      unfold hide
      rw [if_neg z]
  have no : ∀ i b, ¬ OwnAt (some (.ref a) :: (rest.map some ++ List.replicate m none)) (.pin a :: (ds.map .dat ++ List.replicate m .un)) i b := fun i b ho => by
    obtain ⟨t, h2, h3⟩ := ho.slot
    cases i with
    | zero => cases h2; cases h3
    | succ i =>
      have h2 : (ds.map Slot.dat ++ List.replicate m .un)[i]? = some t := h2
      rw [List.getElem?_append] at h2
      split at h2
      · rw [List.getElem?_map] at h2
        cases e : ds[i]? with
        | none => rw [e] at h2; cases h2
        | some d => rw [e] at h2; cases h2; cases h3
      · rw [List.getElem?_replicate] at h2
        split at h2
        · cases h2; cases h3
        · cases h2
  have hl := h.length
  have hm : SameD (hide H (ZA Z a w)) (hide H (Zo (ZA Z a w) (some (.ref a) :: (rest.map some ++ List.replicate m none)) (.pin a :: (ds.map .dat ++ List.replicate m .un)))) := hide_monoD (SameD.refl _) fun b hb => .inl (hb.elim id fun ⟨j, z⟩ => absurd z (no j b))
  refine ⟨?_, wa.same (fun _ _ => rfl) hm, fun b z => by unfold hide; rw [if_pos z], nz, rfl⟩
  rw [e]
  refine ⟨⟨by simp [hl], fun i j b h1 => absurd h1 (no i b), fun b ⟨i, z⟩ => absurd z (no i b), live.lv, fun i t e => ?_, live.tb⟩, Same.refl _, fun b ⟨i, z⟩ => absurd z (no i b)⟩
  cases i with
  | zero =>
    cases e
    exact rfl
  | succ i =>
    have e : (ds.map Slot.dat ++ List.replicate m .un)[i]? = some t := e
    show SlotOk K Cl H _ ((rest.map some ++ List.replicate m none)[i]?) t
    rw [List.getElem?_append] at e
    split at e
    · rename_i hi
      rw [List.length_map] at hi
      rw [List.getElem?_map] at e
      cases e1 : ds[i]? with
      | none => rw [e1] at e; cases e
      | some d =>
        rw [e1] at e
        cases e
        obtain ⟨v, e2, e3⟩ := h.get e1
        refine ⟨v, ?_, Dp.same hm e3⟩
        rw [List.getElem?_append_left (by rw [List.length_map, hl]; exact hi), List.getElem?_map, e2]
        rfl
    · rw [List.getElem?_replicate] at e
      split at e
      · cases e; trivial
      · cases e
theorem RTW.after {w0 : WAd} (R : RTW K Cl (hide H (inA a w0)) Z H' a w s) : After Cl H a w0 H' w := ⟨R.same, fun _ => R.tb, fun b hb => by
  have q := R.h0 b hb
  unfold hide at q
  split at q
  · rename_i z
    exact .inl z
  · exact .inr q⟩
end
end DL
set_option Elab.async false
set_option linter.all false
set_option maxRecDepth 100000
set_option maxHeartbeats 4000000
namespace DL
open PySem PySem.Spec PyProof.Rows L2
section
variable {K : PySem.W.Frag} {Cl : Nat → Addr} {W : WX} {H H' H0 Hs Hs' : Hp} {a : Addr} {w w' : WAd} {s s' : WS} {Z Y : Addr → Prop} {σ σ' : St} {ρ ρ' : Rho} {iw : Nat}
theorem zeq : ZA (Zo Z σ ρ) a w = Zo (ZA Z a w) σ ρ := funext fun b => propext ⟨fun h => by
  rcases h with (h | h) | h
  · exact .inl (.inl h)
  · exact .inr h
  · exact .inl (.inr h), fun h => by
  rcases h with (h | h) | h
  · exact .inl (.inl h)
  · exact .inr h
  · exact .inl (.inr h)⟩
section
variable {X : Cx} {o e : Expr} {es : List Expr} {g : FA} {pos cpos apos : Pos}
end
def ws0 : WS := ⟨0, [], 0, 0, -1, 0, 0, 0, [], [], [], []⟩
structure IniW (Cl : Nat → Addr) (H H' : Hp) (x dx : Addr) (w : WAd) (pr pt : Addr) : Prop where
  edx : w.dx = dx
  o : H' x = some (.ins (Cl 3000) dx ((fldN 3000).zip (wVals w ws0 (.ref pr) (.ref pt))))
  d : H' dx = some (.own x)
  p : H' w.q = some (.lst [])
  r : H' w.r = some (.lst [])
  n : H' w.n = some (.dK [])
  hpr : H' pr = some (.lst [])
  hpt : H' pt = some (.lst [])
  nq : H w.q = none
  nr : H w.r = none
  nn : H w.n = none
  npr : H pr = none
  npt : H pt = none
  ap : w.q ≠ w.r ∧ pr ≠ w.q ∧ pr ≠ w.r ∧ pt ≠ w.q ∧ pt ≠ w.r
  keep : ∀ b o, H b = some o → b ≠ x → H' b = some o
section
variable {X : Cx} {srest : List Stmt} {rest : FW} {pos p pos0 p1 : Pos}
end
end
end DL
set_option Elab.async false
set_option linter.all false
set_option maxRecDepth 100000
set_option maxHeartbeats 4000000
namespace DL
open PySem PySem.Spec PyProof.Rows L2
section
variable {K : PySem.W.Frag} {Cl : Nat → Addr} {W : WX} {H H' H0 H1 H2 Hs Hs' : Hp} {a : Addr} {w w' : WAd} {s s' : WS} {Z Y : Addr → Prop} {σ σ' : St} {ρ ρ' : Rho} {iw : Nat}
theorem SIW.put (S : SIW K Cl H0 Z H σ ρ iw a w s) (sm : Same Cl H H1) (h2 : ∀ b, ¬ inA a w b → H2 b = H1 b) (new : ∀ b, inA a w' b → inA a w b ∨ H b = none) : After Cl H a w H2 w' := by
  have k1 : ∀ {b : Addr} {o : HO}, H1 b = some o → ((∃ ps, o = .tbl ps) ∨ ∃ q, o = LamX.CodeO b q) → ¬ inA a w b := fun {b o} e k z => by
    obtain ⟨u, e2, k2⟩ := S.wa.at_ z
    rw [S.wa.kept sm z, e2] at e
    cases e
    rcases k with ⟨ps, rfl⟩ | ⟨q, rfl⟩
    · cases k2
    · unfold LamX.CodeO at k2
      cases k2
  have tb : TBl Cl H → TBl Cl H2 := fun t q hq n => by
    obtain ⟨ps, e1, e2, e3⟩ := sm.tb t q hq n
    refine ⟨ps, by rw [h2 _ (k1 e1 (.inl ⟨ps, rfl⟩))]; exact e1, e2, fun pos cv hc => ?_⟩
    obtain ⟨c, e4, e5⟩ := e3 pos cv hc
    exact ⟨c, e4, by rw [h2 _ (k1 e5 (.inr ⟨_, rfl⟩))]; exact e5⟩
  refine ⟨⟨fun b o e t => ?_, fun _ => tb S.si.di.tb, fun b e => ?_⟩, tb, new⟩
  · obtain ⟨n, e1⟩ := hide_of e
    rw [h2 b n]
    exact sm.at e1 t
  · unfold hide at e
    split at e
    · exact absurd rfl e
    · rename_i n
      rw [h2 b n]
      exact sm.live b e
section
variable {X : Cx} {o e : Expr} {f : Str} {fe : FE} {pos pos' apos cpos : Pos}
end
end
end DL
set_option Elab.async false
set_option linter.all false
set_option maxRecDepth 100000
set_option maxHeartbeats 4000000
namespace DL
open PySem PySem.Spec PyProof.Rows L2
def intsW : List D → Option (List Int)
  | [] => some []
  | .int i :: r => (intsW r).map (i :: ·)
  | _ :: _ => none
theorem intsW_is : ∀ {ds : List D} {is : List Int}, intsW ds = some is → ds = is.map .int
  | [], _, h => by cases h; rfl
  | d :: r, is, h => by
    cases d with
    | int i =>
      unfold intsW at h
      cases e : intsW r with
      | none => rw [e] at h; cases h
      | some js =>
        rw [e] at h
        cases h
        rw [intsW_is e]
        rfl
    | _ => cases h
def scalT : D → Bool
  | .tuple es => es.all scalarD
  | _ => false
def dicPut (ps : List (Int × D)) (k : Int) (d : D) : List (Int × D) := if (ps.any fun p => decide (p.1 = k)) = true then ps.map (fun p => if p.1 = k then (p.1, d) else p) else ps ++ [(k, d)]
section
variable {K : PySem.W.Frag} {Cl : Nat → Addr} {W : WX} {H H' H0 H1 H2 Hs Hs' : Hp} {a : Addr} {w w' : WAd} {s s' : WS} {Z Y : Addr → Prop} {σ σ' : St} {ρ ρ' : Rho} {iw : Nat}
theorem DicOk.len : ∀ {kvs : List (Key × V)} {ps : List (Int × D)}, DicOk K Hs kvs ps → kvs.length = ps.length
  | _, _, .nil => rfl
  | _, _, .cons _ t => by rw [List.length_cons, List.length_cons, DicOk.len t]
theorem DicOk.any {k : Int} : ∀ {kvs : List (Key × V)} {ps : List (Int × D)}, DicOk K Hs kvs ps → (kvs.any fun kv => decide (kv.1 = (Sum.inl k : Key))) = ps.any fun p => decide (p.1 = k)
  | _, _, .nil => rfl
  | _, _, .cons (k := j) _ t => by
    rw [List.any_cons, List.any_cons, DicOk.any t]
    congr 1
    exact decide_eq_decide.mpr ⟨fun h => Sum.inl.inj h, fun h => congrArg Sum.inl h⟩
theorem DicOk.snoc {k : Int} {v : V} {d : D} (h : Dp K Hs v d) : ∀ {kvs : List (Key × V)} {ps : List (Int × D)}, DicOk K Hs kvs ps → DicOk K Hs (kvs ++ [(Sum.inl k, v)]) (ps ++ [(k, d)])
  | _, _, .nil => .cons h .nil
  | _, _, .cons q t => .cons q (DicOk.snoc h t)
theorem DicOk.repl {k : Int} {v : V} {d : D} (h : Dp K Hs v d) : ∀ {kvs : List (Key × V)} {ps : List (Int × D)}, DicOk K Hs kvs ps → DicOk K Hs (kvs.map fun kv => if kv.1 = (Sum.inl k : Key) then (kv.1, v) else kv) (ps.map fun p => if p.1 = k then (p.1, d) else p)
  | _, _, .nil => .nil
  | _, _, .cons (k := j) q t => by
    rw [List.map_cons, List.map_cons]
    by_cases z : j = k
    · subst z
      rw [if_pos rfl, if_pos rfl]
      exact .cons h (DicOk.repl h t)
    · rw [if_neg (fun y => z (Sum.inl.inj y)), if_neg z]
      exact .cons q (DicOk.repl h t)
theorem DicOk.put {k : Int} {v : V} {d : D} {kvs : List (Key × V)} {ps : List (Int × D)} (q : DicOk K Hs kvs ps) (h : Dp K Hs v d) : DicOk K Hs (putK kvs (Sum.inl k : Key) v) (dicPut ps k d) := by
  unfold putK dicPut
  rw [q.any]
  split
  · exact q.repl h
  · exact q.snoc h
theorem tup_out {B : Addr → Prop} (hB : ∀ b, B b → ∃ u, H b = some u ∧ wKind u = true) {v : V} {d : D} (hd : Dp K (hide H Y) v d) (hs : scalT d = true) : Dp K (hide H fun b => Y b ∨ B b) v d := by
  cases d with
  | tuple es =>
    obtain ⟨T, xs, rfl, r1, r2⟩ := hd.tup_inv
    have nk : ∀ {o : HO}, H T = some o → wKind o = false → ¬ B T := fun {o} e k z => by
      obtain ⟨u, e2, k2⟩ := hB T z
      rw [e] at e2
      cases e2
      rw [k] at k2
      cases k2
    refine .tup ?_ (DpAll.scalar hs r2)
    rcases r1 with (r1 | ⟨o, r1⟩) | r1
    · obtain ⟨n, e⟩ := hide_of r1
      exact .inl (.inl (hide_at (fun z => z.elim n (nk e rfl)) e))
    · obtain ⟨n, e⟩ := hide_of r1
      exact .inl (.inr ⟨o, hide_at (fun z => z.elim n (nk e rfl)) e⟩)
    · exact .inr r1
  | _ => cases hs
theorem SIW.app {i : Int} (S : SIW K Cl H0 Z H σ ρ iw a w s) : SIW K Cl H0 Z (upd H w.q (.lst (s.piece.map V.int ++ [.int i]))) σ ρ iw a w { s with piece := s.piece ++ [i] } := by
  obtain ⟨vr, vt, e1, e2, e3⟩ := S.wa.o
  have af := S.put (H1 := H) (H2 := upd H w.q (.lst (s.piece.map V.int ++ [.int i]))) (w' := w) (Same.refl _) (fun b n => upd_ne (fun z => n (.inr (.inr (.inl z))))) (fun b h => .inl h)
  have m := S.afterD af
  have ne : ∀ {b : Addr} {o : HO}, H b = some o → (∀ l, o ≠ .lst l) → b ≠ w.q := fun {b o} h n z => by
    rw [z, S.wa.p] at h
    exact n _ (Option.some.inj h).symm
  obtain ⟨xs, e4, e5⟩ := S.wa.sp
  obtain ⟨kvs, e6, e7⟩ := S.wa.nm
  refine S.after af ⟨⟨vr, vt, ?_, Dp.same m e2, Dp.same m e3⟩, ?_, ?_, ⟨xs, ?_, DpAll.same m e5⟩, ⟨kvs, ?_, e7.same m⟩, S.wa.qr⟩
  · rw [upd_ne (ne e1 fun _ z => by cases z)]
    exact e1
  · rw [upd_ne (ne S.wa.d fun _ z => by cases z)]
    exact S.wa.d
  · rw [upd_same]
    show _ = some (HO.lst ((s.piece ++ [i]).map V.int))
    rw [List.map_append]
    rfl
  · rw [upd_ne S.wa.qr.symm]
    exact e4
  · rw [upd_ne (ne e6 fun _ z => by cases z)]
    exact e6
theorem SIW.tup (S : SIW K Cl H0 Z H σ ρ iw a w s) {v : V} {d : D} (hd : Dp K (hide H (Zo Z σ (ρ.set iw (.ob 3000 s.of)))) v d) (hs : scalT d = true) : Dp K (hide H (Zo (ZA Z a w) σ (ρ.set iw (.pin a)))) v d :=
  Dp.same (hide_monoD (SameD.refl _) fun b hb => .inl (by
    rcases hb with (hb | hb) | hb
    · exact .inl (.inl hb)
    · exact .inr hb
    · exact .inl (.inr ((S.ownOb b).mpr hb)))) (tup_out (B := inA a w) (fun b hb => S.wa.at_ hb) hd hs)
section
variable {X : Cx} {o e i : Expr} {fe fk : FE} {pos pos' apos cpos : Pos}
end
end
end DL
set_option Elab.async false
set_option linter.all false
set_option maxRecDepth 100000
set_option maxHeartbeats 4000000
namespace DL
open PySem PySem.Spec PyProof.Rows L2
theorem putF_new : ∀ {ns : List Str} {vs : List V} {f : Str} {y : V}, f ∉ ns → vs.length = ns.length → putF f y (ns.zip vs) = (ns ++ [f]).zip (vs ++ [y])
  | [], [], f, y, _, _ => rfl
  | [], _ :: _, _, _, _, h => nomatch h
  | _ :: _, [], _, _, _, h => nomatch h
  | n :: ns, v :: vs, f, y, h1, h2 => by
    show (if n = f then (n, y) :: ns.zip vs else (n, v) :: putF f y (ns.zip vs)) = _
    rw [if_neg (fun z => h1 (by rw [z]; exact List.mem_cons_self)), putF_new (fun z => h1 (List.mem_cons_of_mem _ z)) (Nat.succ.inj h2)]
    rfl
structure Par (C : Addr) (H H' : Hp) (x dx : Addr) (ns : List Str) (vs : List V) (ls : List (Addr × HO)) : Prop where
  o : H' x = some (.ins C dx (ns.zip vs))
  hx : H x = some (.ins C dx [])
  ln : vs.length = ns.length
  hl : ∀ p ∈ ls, H' p.1 = some p.2 ∧ H p.1 = none
  nd : (ls.map (·.1)).Nodup
  keep : ∀ b o, H b = some o → b ≠ x → H' b = some o
section
variable {K : PySem.W.Frag} {C : Addr} {H H' : Hp} {x dx p : Addr} {ns : List Str} {vs : List V} {ls : List (Addr × HO)} {f : Str} {v : V} {o : HO} {D : Ends}
theorem Par.ne (S : Par C H H' x dx ns vs ls) {q : Addr × HO} (h : q ∈ ls) : q.1 ≠ x := fun z => by
  have := (S.hl q h).2
  rw [z, S.hx] at this
  cases this
theorem Par.val (S : Par C H H' x dx ns vs ls) (n : f ∉ ns) : Par C H (upd H' x (.ins C dx (putF f v (ns.zip vs)))) x dx (ns ++ [f]) (vs ++ [v]) ls :=
  ⟨by rw [upd_same, putF_new n S.ln], S.hx, by rw [List.length_append, List.length_append, S.ln]; rfl, fun q h => ⟨by rw [upd_ne (S.ne h)]; exact (S.hl q h).1, (S.hl q h).2⟩, S.nd, fun b o e n => by rw [upd_ne n]; exact S.keep b o e n⟩
theorem Par.ob (S : Par C H H' x dx ns vs ls) (np : H' p = none) : Par C H (upd H' p o) x dx ns vs (ls ++ [(p, o)]) := by
  have nx : x ≠ p := ne_of_none S.o np
  have nH : H p = none := by
    cases e : H p with
    | none => rfl
    | some u =>
      by_cases z : p = x
      · exact absurd z.symm nx
      · rw [S.keep p u e z] at np
        cases np
  refine ⟨by rw [upd_ne nx]; exact S.o, S.hx, S.ln, fun q h => ?_, ?_, fun b o e n => by rw [upd_ne (ne_of_none e nH)]; exact S.keep b o e n⟩
  · rcases List.mem_append.mp h with h | h
    · refine ⟨?_, (S.hl q h).2⟩
      rw [upd_ne (ne_of_none (S.hl q h).1 np)]
      exact (S.hl q h).1
    · cases List.mem_singleton.mp h
      exact ⟨upd_same, nH⟩
  · rw [List.map_append, List.nodup_append]
    refine ⟨S.nd, List.nodup_cons.mpr ⟨List.not_mem_nil, List.nodup_nil⟩, fun a ha b hb => ?_⟩
    obtain ⟨q, hq, rfl⟩ := List.mem_map.mp ha
    cases List.mem_singleton.mp hb
    exact ne_of_none (S.hl q hq).1 np
end
section
variable {K : PySem.W.Frag} {Cl : Nat → Addr} {vs : List V} {H : Hp} {Q : VK} {E : XK} {D : Ends}
end
end DL
set_option Elab.async false
set_option linter.all false
set_option maxRecDepth 100000
set_option maxHeartbeats 4000000
namespace DL
open PySem PySem.Spec PyProof.Rows L2
section
variable {X : Cx} {Cl : Nat → Addr} {W : WX} {st : Stmt}
end
end DL
set_option Elab.async false
set_option linter.all false
set_option maxRecDepth 100000
set_option maxHeartbeats 4000000
namespace DL
open PySem PySem.Spec PyProof.Rows L2
section
variable {X : Cx} {Cl : Nat → Addr} {W : WX} {a b c : Expr} {g : FA} {pos : Pos} {K : PySem.W.Frag} {H : Hp} {Z : Addr → Prop} {σ : St} {ρ : Rho}
end
end DL
set_option Elab.async false
set_option linter.all false
set_option maxRecDepth 100000
set_option maxHeartbeats 4000000
namespace DL
open PySem PySem.Spec PyProof.Rows L2
def TupX (K : PySem.W.Frag) (k : Nat) (H H' : Hp) (p : Addr) (v : V) (d : D) : Prop := ∃ (T : Addr) (ys : List V) (ds : List D) (q : Addr) (zs : List V) (ws : List D), v = V.ref T ∧ d = .tuple ds ∧ SqT K H' T ys ∧ ys[k]? = some (V.ref q) ∧ ds[k]? = some (.list ws) ∧ q ≠ p ∧ H q = none ∧ H' q = some (.lst zs) ∧ zs.length = ws.length
def RowsX (K : PySem.W.Frag) (k : Nat) (H H' : Hp) (p : Addr) (xs : List V) (es : List D) : Prop := ∀ (i : Nat) x d, xs[i]? = some x → es[i]? = some d → TupX K k H H' p x d
def spX (K : PySem.W.Frag) (Cl : Nat → Addr) (k n : Nat) (F : TF) : Sp := fun vs H Q E => ∃ Z ds es, LivT Cl Z H ∧ DpAll K (hide H Z) vs ds ∧ ds.length = n ∧ F ds = some es ∧
  ∀ p xs H', Same Cl H H' → H p = none → H' p = some (.lst xs) → DpAll K (hide H' (ZP Z p)) xs es → RowsX K k H H' p xs es → Q (.ref p) H'
theorem spX_of {K : PySem.W.Frag} {Cl : Nat → Addr} {k n : Nat} {F : TF} {vs : List V} {H : Hp} {Q : VK} {E : XK} (h : spD K Cl n (tfD F) vs H Q E) : spX K Cl k n F vs H Q E := by
  obtain ⟨Z, ds, o, h1, h2, h3, h4, h5⟩ := h
  unfold tfD at h4
  cases e : F ds with
  | none => rw [e] at h4; cases h4
  | some es =>
    rw [e] at h4
    cases h4
    exact ⟨Z, ds, es, h1, h2, h3, e, fun p xs H' a b c d _ => h5 p xs H' a b c d⟩
theorem SqT.updL {K : PySem.W.Frag} {H : Hp} {T q : Addr} {ys zs : List V} {u : HO} (h : SqT K H T ys) (hq : H q = some (.lst zs)) : SqT K (upd H q u) T ys := by
  rcases h with (h | ⟨o, h⟩) | h
  · exact .inl (.inl (by rw [upd_ne fun z => by rw [z, hq] at h; cases h]; exact h))
  · exact .inl (.inr ⟨o, by rw [upd_ne fun z => by rw [z, hq] at h; cases h]; exact h⟩)
  · exact .inr h
def deepOk (k : Nat) (ds : List D) : Bool := ds.all fun d => match d with
  | .tuple es => match es[k]? with
    | some (.list zs) => lineOk (zs.length + ds.length)
    | _ => false
  | _ => false
def fDeep (i j k kx : Nat) (F : TF) (n : Nat) (g : FA) (t1 : FT) (f2 : FE) (t3 : FT) (rest : FS) : FS := fun ρ => if (noOwn ρ [i, j, k] && (decide (i ≠ j) && (decide (i ≠ k) && (decide (j ≠ k) && (decide (i < ρ.length) && decide (k < ρ.length)))))) = true then match g ρ with
  | some (.ok vs) => match stAll vs with
    | some as => if as.length = n then match F as with
      | some ds => if deepOk kx ds = true then match t1 ((ρ.set i .un).set i (.dat (.list ds))) with
        | some (.ok false) => match f2 ((ρ.set i .un).set i (.dat (.list ds))) with
          | some (.ok (.f es)) => if noLsts es = true then match t3 (((ρ.set i .un).set j (.dat (.list es))).set i (.dat (.list ds))) with
            | some (.ok false) => rest ((((ρ.set i .un).set j (.dat (.list es))).set i .un).set k .un)
            | _ => none else none
          | _ => none
        | _ => none else none
      | none => none else none
    | none => none
  | _ => none else none
section
variable {X : Cx} {Cl : Nat → Addr} {W : WX} {e : Expr} {es : List Expr} {g : FA} {f2 : FE} {t1 t3 : FT} {rest : FS}
theorem dss_deep {n lv i j k kx : Nat} {F : TF} {fa : Addr} {fd : FuncData} {ps : List Str} {x y y2 y3 : Str} {c4 : D} {c1 e2 c3 app4 : Expr} {p p1 p2 p4 p5 pos0 pos1 pos2 pos3 pos4 pos5 pos6 : Pos} {sa1 sa srest : List Stmt} (hc : X.calm = true) (hN : X.N.Nodup) (hpo : PassesOwn (model X.prog X.w) X.A X.env X.xe)
    (G : FnOk X.prog X.w X.K X.mg X.base (L2.CX X.prog X.w) lv fa fd ps (spX X.K Cl kx n F)) (tk : Takes X W) (hr : Room lv X.A) (hm : X.mg x = some (.ref fa)) (hk : PySem.W.keepIn X.K (.ref fa) = true) (hb : Binds X.K fd ps [])
    (ha : DA X Cl W (e :: es) g) (h1 : DT X Cl W c1 t1) (h2 : DE X Cl W e2 f2) (h3 : DT X Cl W c3 t3) (hv : PE X (.Name y p4) (tVar i))
    (h4 : PE X app4 (tBM X.K "list" rAppend (tOp (rIxT X.K) (tVar k) (tC (.int (kx : Nat)))) (tCons (teOf X.K Cl W (eC c4)) tNil))) (hrest : DSs X Cl W srest rest)
    (hg : Gl X x := by rfl) (hdb : (x == ("__debug__" : Str)) = false := by decide) (he : starEach (e :: es) X.env = (false, eval e X.env) :: starEach es X.env := by rfl) (hpl : (backTo pos0 (starEach es X.env)).any (·.1) = false := by rfl)
    (hi : X.N[i]? = some y := by rfl) (hx : Loc X.env.scope y := by first | exact .inl rfl | exact .inr rfl) (hf : X.fn y = true ∨ X.env.scope.names.lookup y = some .local := by first | exact .inl rfl | exact .inr rfl)
    (hj : X.N[j]? = some y2 := by rfl) (hxj : Loc X.env.scope y2 := by first | exact .inl rfl | exact .inr rfl) (hfj : X.fn y2 = true ∨ X.env.scope.names.lookup y2 = some .local := by first | exact .inl rfl | exact .inr rfl)
    (hkk : X.N[k]? = some y3 := by rfl) (hxk : Loc X.env.scope y3 := by first | exact .inl rfl | exact .inr rfl) (hfk : X.fn y3 = true ∨ X.env.scope.names.lookup y3 = some .local := by first | exact .inl rfl | exact .inr rfl)
    (hs : swapsWith (.Call (.Name x p) (e :: es) [] pos0) (some (.Name y p1)) pos1.line X.env = pure false := by rfl) (hs2 : swapsWith e2 (some (.Name y2 p2)) pos2.line X.env = pure false := by rfl)
    (hs4 : swapsWith app4 none pos6.line X.env = pure false := by rfl) (hse : ∀ x, foldedSetIterable (.Name y p4) X.env x = pure x := by intro _; rfl) :
    DSs X Cl W (.Assign [.Name y p1] (.Call (.Name x p) (e :: es) [] pos0) pos1 :: .If c1 sa1 [] pos5 :: .Assign [.Name y2 p2] e2 pos2 :: .If c3 sa [] pos3 :: .For (.Name y3 p5) (.Name y p4) [.Expr app4 pos6] [] pos4 :: srest) (fDeep i j k kx F n g t1 f2 t3 rest) :=
  PSs.imp (pss_cons (ps_set hN hi hx (pe_callS (E := WE W) G hr hg hm hk hb (fun σ => passAt tk σ) ha hdb he hpl) hs hf) (pss_cons (ps_if h1 pss_never pss_nil) (pss_cons (ps_set hN hj hxj h2 hs2 hfj) (pss_cons (ps_if h3 pss_never pss_nil) (pss_cons (ps_for hpo hc (pi_list hv) (pg_name hN hkk hxk hfk) (pss_cons (ps_expr h4 hs4) pss_nil) hse) hrest))))) fun D σ H ⟨H0, Z, ρ, o, I, e, q⟩ => by
  unfold fDeep at e
  split at e
  · rename_i hno
    simp only [Bool.and_eq_true, decide_eq_true_eq] at hno
    obtain ⟨hno, hij, hik, hjk, hil, hkl⟩ := hno
    split at e
    · rename_i vs e1
      split at e
      · rename_i as hst
        split at e
        · rename_i hn
          split at e
          · rename_i ds eF
            split at e
            · rename_i hdeep
              split at e
              · rename_i et1
                split at e
                · rename_i es ef2
                  split at e
                  · rename_i hnl
                    split at e
                    · rename_i et3
                      refine ta_step I.di e1 (fun er z => nomatch z) fun vs' xs0 H1 ev s1 hvs I1 => ?_
                      cases ev
                      refine ⟨Zo Z σ ρ, as, ds, ⟨fun b z => I1.liveZ z, I1.tb⟩, hvs.stab I.di hst, hn, eF, fun p xs H2 s2 np hp hd hrn => ?_⟩
                      have I2 : SI X.K Cl H0 Z H1 σ ρ := I.same' s1
                      have hdl := hd.length
                      -- new lists are hidden
                      let S : Addr → Prop := fun a => H1 a = none ∧ ∃ zs, H2 a = some (.lst zs)
                      have hS1 : ∀ a, S a → H1 a = none := fun a h => h.1
                      have hS2 : ∀ a, S a → H2 a ≠ none := fun a h => by
                        obtain ⟨_, zs, h⟩ := h
                        rw [h]; intro z; cases z
                      have hS0 : ∀ a, S a → H0 a = none := fun a h => I2.same.free (hS1 a h)
                      have hlen : σ.length = ρ.length := I.di.len.symm
                      have set_id : ∀ (τ : St) (m : Nat) (x : Option V), τ[m]? = some x → τ.set m x = τ := fun τ m x h => by
                        obtain ⟨h1, h2⟩ := List.getElem?_eq_some_iff.mp h
                        rw [← h2]
                        exact List.set_getElem_self h1
                      have I3 := (I2.hid s2 hS1 hS2).setUn (i := i) (x := some (.ref p))
                      generalize hσ1 : σ.set i (some (.ref p)) = σ1 at I3
                      generalize hρ1 : ρ.set i .un = ρ1 at I3 et1 ef2 et3 e
                      have e1i : σ1[i]? = some (some (.ref p)) := by rw [← hσ1, List.getElem?_set, if_pos rfl, if_pos (by rw [hlen]; exact hil)]
                      have r1i : ρ1[i]? = some .un := by rw [← hρ1, List.getElem?_set, if_pos rfl, if_pos hil]
                      have own1 : ∀ a, Owned σ1 ρ1 a → Owned σ ρ a := fun a ⟨m, hm⟩ => ⟨m, by
                        rw [← hσ1, ← hρ1] at hm
                        exact own_sub (s := .un) (fun z => nomatch z) hm⟩
                      have l1 : σ1.length = ρ.length := by rw [← hσ1, List.length_set, hlen]
                      have np1 : ¬ Zo Z σ1 ρ1 p := fun z => by
                        rcases z with z | z
                        · exact I2.di.live p z np
                        · exact I3.di.out p z (.inr ⟨np, xs, hp⟩)
                      -- the tests see it as data
                      have hdp : Dp X.K (hide H2 (Zo Z σ1 ρ1)) (.ref p) (.list ds) := .lst (Rd.of (hide_at np1 hp)) (DpAll.same (hide_monoD (SameD.refl _) fun b hb => .inl (by
                        rcases hb with hb | hb
                        · exact .inl (.inl hb)
                        · exact .inl (.inr (own1 b hb)))) hd)
                      have V1 := (I3.less (Z := Z) fun a h => .inl h).di.setDat (i := i) hdp
                      rw [set_id σ1 i _ e1i] at V1
                      subst hσ1
                      refine tt_step V1 et1 (fun er z => by cases z) fun b1 H3 eb1 s3 V2 => ?_
                      cases eb1
                      rw [if_neg Bool.false_ne_true]
                      refine te_step V2 ef2 (fun er z => by cases z) fun v2 x2 H4 ev2 s4 hv2 V3 => ?_
                      cases ev2
                      obtain ⟨p2, ws, rfl, np2, hp2, hes⟩ := hv2
                      have I3' := I3.same' s3
                      have I4 := I3'.same' s4
                      have hx2 : Dp X.K (hide H4 (Zo (fun a => Z a ∨ S a) (σ.set i (some (.ref p))) ρ1)) (.ref p2) (.list es) := by
                        refine .lst (Rd.of (hide_at (fun z => I3'.di.liveZ z np2) hp2)) (DpAll.same (hide_monoD (SameD.refl _) fun b hb => .inl ?_) (DpAll.freeO (O := S) (fun a h => ?_) hnl hes))
                        · rcases hb with (hb | hb) | hb
                          · exact .inl (.inl (.inl hb))
                          · exact .inr hb
                          · obtain ⟨m, hm⟩ := hb
                            exact .inl (.inl (.inr ⟨m, (own_plain (s := .un) (s' := .dat (.list ds)) r1i (show ¬ Slot.owns .un from fun z => z) (show ¬ Slot.owns (.dat (.list ds)) from fun z => z) m b).mpr hm⟩))
                        · obtain ⟨_, zs, h⟩ := h
                          exact ⟨_, s4.at (s3.at h), rfl⟩
                      have I5 := I4.setDat (i := j) hx2
                      generalize hσ2 : (σ.set i (some (.ref p))).set j (some (.ref p2)) = σ2 at I5
                      generalize hρ2 : ρ1.set j (.dat (.list es)) = ρ2 at I5 et3 e
                      have e2i : σ2[i]? = some (some (.ref p)) := by rw [← hσ2, List.getElem?_set_ne (Ne.symm hij)]; exact e1i
                      have l2 : σ2.length = ρ.length := by rw [← hσ2, List.length_set, l1]
                      have own2 : ∀ a, Owned σ2 ρ2 a → Owned (σ.set i (some (.ref p))) ρ1 a := fun a ⟨m, hm⟩ => ⟨m, by
                        rw [← hσ2, ← hρ2] at hm
                        exact own_sub (s := .dat (.list es)) (fun z => nomatch z) hm⟩
                      have hdp2 : Dp X.K (hide H4 (Zo Z σ2 ρ2)) (.ref p) (.list ds) := Dp.same (hide_mono (s3.trans s4) fun b hb => .inl (hb.imp id (own2 b))) hdp
                      have V4 := (I5.less (Z := Z) fun a h => .inl h).di.setDat (i := i) hdp2
                      rw [set_id σ2 i _ e2i] at V4
                      subst hσ2
                      refine tt_step V4 et3 (fun er z => by cases z) fun b3 H5 eb3 s5 _ => ?_
                      cases eb3
                      rw [if_neg Bool.false_ne_true]
                      have I7 : SI X.K Cl H0 (fun a => Z a ∨ S a) H5 ((σ.set i (some (.ref p))).set j (some (.ref p2))) ((ρ2.set i .un).set k .un) := by
                        have q1 := (I5.same' s5).setUn (i := i) (x := some (.ref p))
                        rw [set_id _ i _ e2i] at q1
                        have q2 := q1.setUn (i := k) (x := (((σ.set i (some (.ref p))).set j (some (.ref p2)))[k]'(by rw [l2]; exact hkl)))
                        rw [set_id _ k _ (List.getElem?_eq_getElem _)] at q2
                        exact q2
                      have s25 : Same Cl H2 H5 := s3.trans (s4.trans s5)
                      have hrows : ∀ x ∈ xs, ∃ (T : Addr) (ys : List V) (q : Addr) (zs : List V), x = V.ref T ∧ SqT X.K H5 T ys ∧ ys[kx]? = some (V.ref q) ∧ q ≠ p ∧ S q ∧ H5 q = some (.lst zs) ∧ zs.length + (xs.length - 0) ≤ sizeLine := fun x hx => by
                        obtain ⟨m, hm, em⟩ := List.mem_iff_getElem.mp hx
                        have gx : xs[m]? = some x := by rw [List.getElem?_eq_getElem hm, em]
                        obtain ⟨d, hd1, hd3⟩ := hd.get' gx
                        obtain ⟨T, ys, dds, q', zs, ws', rfl, rfl, r1, r2, r3, r4, r5, r6, r7⟩ := hrn m x d gx hd1
                        refine ⟨T, ys, q', zs, rfl, SqT.same s25.d r1, r2, r4, ⟨r5, zs, r6⟩, s25.at r6, ?_⟩
                        unfold deepOk at hdeep
                        have z := List.all_eq_true.mp hdeep _ (List.mem_of_getElem? hd1)
                        dsimp only at z
                        rw [r3] at z
                        dsimp only at z
                        have := lineOk_ok z
                        omega
                      generalize hρ3 : (ρ2.set i .un).set k .un = ρ3 at I7 e
                      have e3k : ρ3.set k .un = ρ3 := by rw [← hρ3, List.set_set]
                      have l3 : ρ3.length = ρ.length := by rw [← hρ3, ← hρ2, ← hρ1]; simp
                      refine ⟨_, e2i, p, rfl, ⟨xs, .inl (.inl (s25.at hp))⟩, fun t m σ' H' => SI X.K Cl H0 (fun a => Z a ∨ S a) H' σ' ρ3 ∧ σ'[i]? = some (some (.ref p)) ∧ H' p = some (.lst xs) ∧ (∀ x ∈ xs, ∃ (T : Addr) (ys : List V) (q : Addr) (zs : List V), x = V.ref T ∧ SqT X.K H' T ys ∧ ys[kx]? = some (V.ref q) ∧ q ≠ p ∧ S q ∧ H' q = some (.lst zs) ∧ zs.length + (xs.length - t) ≤ sizeLine) ∧ m = xs.length - t ∧ t ≤ xs.length,
                        ⟨_, I7, e2i, s25.at hp, hrows, rfl, Nat.zero_le _⟩, fun t m σ' H' => ?_⟩
                      rintro ⟨I', ei, hp', hr', rfl, htl⟩
                      have lσ' : σ'.length = ρ.length := by rw [← I'.di.len, l3]
                      by_cases hlt : t < xs.length
                      · refine .inr ⟨⟨xs, xs[t], .inl (.inl hp'), List.getElem?_eq_getElem hlt⟩, fun σ3 H3 => SI X.K Cl H0 (fun a => Z a ∨ S a) H3 σ3 ρ3 ∧ σ3[i]? = some (some (.ref p)) ∧ H3 p = some (.lst xs) ∧ (∀ x ∈ xs, ∃ (T : Addr) (ys : List V) (q : Addr) (zs : List V), x = V.ref T ∧ SqT X.K H3 T ys ∧ ys[kx]? = some (V.ref q) ∧ q ≠ p ∧ S q ∧ H3 q = some (.lst zs) ∧ zs.length + (xs.length - (t + 1)) ≤ sizeLine),
                          fun σ3 H3 ⟨a1, a2, a3, a4⟩ => ⟨xs.length - (t + 1), by omega, a1, a2, a3, a4, rfl, hlt⟩, fun x H'' y => ?_⟩
                        obtain ⟨rfl, hx⟩ := y
                        have hx := hx xs (.inl (.inl hp'))
                        obtain ⟨T, ys, q', zs, rfl, hT, hyk, nq, hSq, hq, hql⟩ := hr' x (List.mem_of_getElem? hx)
                        have I8 : SI X.K Cl H0 (fun a => Z a ∨ S a) H'' (σ'.set k (some (.ref T))) ρ3 := by
                          have w := I'.setUn (i := k) (x := some (.ref T))
                          rw [e3k] at w
                          exact w
                        have hat : atI ys ((kx : Nat) : Int) = some (.ref q') := by
                          have hlt := (List.getElem?_eq_some_iff.mp hyk).1
                          unfold atI ixN
                          rw [if_pos (Int.natCast_nonneg _), if_pos (by omega), Int.toNat_natCast]
                          exact hyk
                        refine ⟨.ref T, by rw [List.getElem?_set, if_pos rfl, if_pos (by rw [lσ']; exact hkl)], T, ys, ((kx : Nat) : Int), .ref q', rfl, rfl, hT, hat, .inl ⟨rfl, zs, .inl (.inl hq)⟩, te_step (f := eC c4) I8.di rfl (fun er z => by cases z) fun v y H6 ev s6 hv I9 => ?_⟩
                        have hq6 := s6.at hq
                        refine ⟨q', zs, y, rfl, rfl, hq6, by omega, (I8.same' s6).poke (.inr hSq) (hS0 q' hSq) hq6, by rw [List.getElem?_set_ne (Ne.symm hik)]; exact ei, by rw [upd_ne (Ne.symm nq)]; exact s6.at hp', fun z hz => ?_⟩
                        obtain ⟨T2, ys2, q2, zs2, rfl, hT2, hyk2, nq2, hSq2, hq2, hql2⟩ := hr' z hz
                        have hT3 := SqT.updL (u := .lst (zs ++ [y])) (SqT.same s6.d hT2) hq6
                        by_cases eq : q2 = q'
                        · subst eq
                          refine ⟨T2, ys2, q2, zs ++ [y], rfl, hT3, hyk2, nq2, hSq2, upd_same, ?_⟩
                          rw [List.length_append, List.length_singleton]
                          omega
                        · exact ⟨T2, ys2, q2, zs2, rfl, hT3, hyk2, nq2, hSq2, by rw [upd_ne eq]; exact s6.at hq2, by omega⟩
                      · have het : t = xs.length := by omega
                        exact .inl ⟨⟨xs, .inl (.inl hp'), by omega⟩, H0, Z, ρ3, o, I'.less fun a h => .inl h, e, q⟩
                    · cases e
                  · cases e
                · cases e
              · cases e
            · cases e
          · cases e
        · cases e
      · cases e
    · cases e
  · cases e
end
end DL
set_option Elab.async false
set_option linter.all false
set_option maxRecDepth 100000
set_option maxHeartbeats 4000000
namespace DL
open PySem PySem.Spec PyProof.Rows L2
def TupN (K : PySem.W.Frag) (k : Nat) (H H' : Hp) (v : V) (d : D) : Prop := ∃ (T : Addr) (ys : List V) (ds : List D) (q : Addr) (zs : List V) (ws : List D), v = V.ref T ∧ d = .tuple ds ∧ SqT K H' T ys ∧ ys[k]? = some (V.ref q) ∧ ds[k]? = some (.list ws) ∧ H q = none ∧ H' q = some (.lst zs) ∧ zs.length = ws.length
abbrev TY := List D → Option D
def spY (K : PySem.W.Frag) (Cl : Nat → Addr) (k n : Nat) (F : TY) : Sp := fun vs H Q E => ∃ Z ds d, LivT Cl Z H ∧ DpAll K (hide H Z) vs ds ∧ ds.length = n ∧ F ds = some d ∧
  ∀ v H', Same Cl H H' → Dp K (hide H' Z) v d → TupN K k H H' v d → Q v H'
section
variable {K : PySem.W.Frag} {Cl : Nat → Addr} {H H0 H1 H2 : Hp} {k : Nat} {v : V} {d : D}
theorem TupN.same (t : TupN K k H0 H1 v d) (s : Same Cl H1 H2) : TupN K k H0 H2 v d := by
  obtain ⟨T, ys, ds, q, zs, ws, e1, e2, h1, h2, h3, h4, h5, h6⟩ := t
  exact ⟨T, ys, ds, q, zs, ws, e1, e2, SqT.same s.d h1, h2, h3, h4, s.at h5, h6⟩
theorem TupN.from (t : TupN K k H1 H2 v d) (s : Same Cl H0 H1) : TupN K k H0 H2 v d := by
  obtain ⟨T, ys, ds, q, zs, ws, e1, e2, h1, h2, h3, h4, h5, h6⟩ := t
  exact ⟨T, ys, ds, q, zs, ws, e1, e2, h1, h2, h3, s.free h4, h5, h6⟩
theorem TupN.updD (t : TupN K k H0 H1 v d) {a : Addr} {kvs : List (Key × V)} {u : HO} (ha : H1 a = some (.dK kvs)) : TupN K k H0 (upd H1 a u) v d := by
  obtain ⟨T, ys, ds, q, zs, ws, e1, e2, h1, h2, h3, h4, h5, h6⟩ := t
  refine ⟨T, ys, ds, q, zs, ws, e1, e2, ?_, h2, h3, h4, by rw [upd_ne fun z => by rw [z, ha] at h5; cases h5]; exact h5, h6⟩
  rcases h1 with (h | ⟨o, h⟩) | h
  · exact .inl (.inl (by rw [upd_ne fun z => by rw [z, ha] at h; cases h]; exact h))
  · exact .inl (.inr ⟨o, by rw [upd_ne fun z => by rw [z, ha] at h; cases h]; exact h⟩)
  · exact .inr h
end
def teX (K : PySem.W.Frag) (Cl : Nat → Addr) (k : Nat) (f : Rho → Option (List D)) : TE := fun σ H Q => ∃ Z ρ es, SI K Cl H Z H σ ρ ∧ f ρ = some es ∧
  ∀ p xs H', Same Cl H H' → H p = none → H' p = some (.lst xs) → DpAll K (hide H' (ZP Z p)) xs es → RowsX K k H H' p xs es → Q (.ref p) H'
def teY (K : PySem.W.Frag) (Cl : Nat → Addr) (k : Nat) (f : Rho → Option D) : TE := fun σ H Q => ∃ Z ρ d, SI K Cl H Z H σ ρ ∧ f ρ = some d ∧
  ∀ v H', Same Cl H H' → Dp K (hide H' Z) v d → TupN K k H H' v d → Q v H'
def mkY (n m : Nat) (f : Rho → Option D) : TY := fun ds => f (ds.map .dat ++ List.replicate (m - n) .un)
section
variable {K : PySem.W.Frag} {Cl : Nat → Addr}
theorem start_no {vs : List V} {ds : List D} {m : Nat} {i : Nat} {a : Addr} (ho : OwnAt (vs.map some ++ List.replicate m none) (ds.map .dat ++ List.replicate m .un) i a) : False := by
  obtain ⟨s, h2, h3⟩ := ho.slot
  rw [List.getElem?_append] at h2
  split at h2
  · rw [List.getElem?_map] at h2
    cases e : ds[i]? with
    | none => rw [e] at h2; cases h2
    | some d => rw [e] at h2; cases h2; cases h3
  · rw [List.getElem?_replicate] at h2
    split at h2
    · cases h2; cases h3
    · cases h2
theorem SI.start {Z : Addr → Prop} {H : Hp} {vs : List V} {ds : List D} {m : Nat} (live : LivT Cl Z H) (h : DpAll K (hide H Z) vs ds) : SI K Cl H Z H (vs.map some ++ List.replicate m none) (ds.map .dat ++ List.replicate m .un) :=
  ⟨DI.start live h, Same.refl _, fun b ⟨i, o⟩ => (start_no o).elim⟩
theorem def_okX {P : Program} {w : World} {mg : Str → Option Value} {base : Heap} {x qual : Str} {st : Stmt} {fa : Addr} {fd : FuncData} {N ps : List Str} {k n m kx : Nat} {fb : Rho → Option (List D)} (F : Fun K x qual st fa fd) (S : FnScope N ps (defScope st)) (hn : ps.length = n) (hm : N.length = m)
    (h : ∀ (cdv : Value) (A : Around) (outer : List Env) (s : Shared) (H : Hp) (E : XK), Room k (A.deeper (envOfC qual (defScope st) s.heap.objs.size fa cdv)) →
      PSs (cxOf (L2.CX P w) P w K mg base N qual (defScope st) fa cdv A outer s H E) (defBody st) (fun D σ H => teX K Cl kx fb σ H D.rt)) : FnOk P w K mg base (L2.CX P w) (k + 1) fa fd ps (spX K Cl kx n (mkT n m fb)) := by
  refine F.okX S (fun vs H Q E ⟨Z, ds, o, _, h1, h2, _⟩ => by rw [h1.length, h2, hn]) (fun cdv A outer s H vs Q E hr hsp => ⟨_, h cdv A outer s H E hr, ?_⟩)
  obtain ⟨Z, ds, es, live, h1, h2, e, q⟩ := hsp
  unfold mkT at e
  have hst : L2.start N vs = vs.map some ++ List.replicate (m - n) none := by
    unfold L2.start
    rw [hm, h1.length, h2]
  rw [hst]
  exact ⟨Z, _, es, SI.start (m := m - n) live h1, e, q⟩
theorem def_okY {P : Program} {w : World} {mg : Str → Option Value} {base : Heap} {x qual : Str} {st : Stmt} {fa : Addr} {fd : FuncData} {N ps : List Str} {k n m kx : Nat} {fb : Rho → Option D} (F : Fun K x qual st fa fd) (S : FnScope N ps (defScope st)) (hn : ps.length = n) (hm : N.length = m)
    (h : ∀ (cdv : Value) (A : Around) (outer : List Env) (s : Shared) (H : Hp) (E : XK), Room k (A.deeper (envOfC qual (defScope st) s.heap.objs.size fa cdv)) →
      PSs (cxOf (L2.CX P w) P w K mg base N qual (defScope st) fa cdv A outer s H E) (defBody st) (fun D σ H => teY K Cl kx fb σ H D.rt)) : FnOk P w K mg base (L2.CX P w) (k + 1) fa fd ps (spY K Cl kx n (mkY n m fb)) := by
  refine F.okX S (fun vs H Q E ⟨Z, ds, o, _, h1, h2, _⟩ => by rw [h1.length, h2, hn]) (fun cdv A outer s H vs Q E hr hsp => ⟨_, h cdv A outer s H E hr, ?_⟩)
  obtain ⟨Z, ds, d, live, h1, h2, e, q⟩ := hsp
  unfold mkY at e
  have hst : L2.start N vs = vs.map some ++ List.replicate (m - n) none := by
    unfold L2.start
    rw [hm, h1.length, h2]
  rw [hst]
  exact ⟨Z, _, d, SI.start (m := m - n) live h1, e, q⟩
end
def fCopy (k : Nat) (fa fb : FE) : Rho → Option D := fun ρ => match fa ρ, fb ρ with
  | some (.ok (.s (.tuple xs))), some (.ok (.f ws)) => if (decide (xs.length = k) && (decide (0 < k) && lineOk (k + 1))) = true then some (.tuple (xs ++ [.list ws])) else none
  | _, _ => none
section
variable {X : Cx} {Cl : Nat → Addr} {W : WX} {a b : Expr} {fa fb : FE}
theorem py_own {kx x1 : Nat} {tp bp rp : Pos} (ha : DE X Cl W a fa) (hb : DE X Cl W b fb) (hst : starEach [b] X.env = (false, eval b X.env) :: starEach [] X.env := by rfl) : PSs X [.Return (some (.BinOp a .Add (.Tuple [b] x1 tp) bp)) rp] (fun D σ H => teY X.K Cl kx (fCopy kx fa fb) σ H D.rt) :=
  PSs.imp (pss_cons (ps_ret (pe_op op_catT ha (pe_tup (pa_cons hb pa_nil (by exact hst))))) pss_nil) fun D σ H ⟨Z, ρ, d, I, e, q⟩ => by
  unfold fCopy at e
  split at e
  · rename_i xs ws ea eb
    split at e
    · rename_i hl
      cases e
      simp only [Bool.and_eq_true, decide_eq_true_eq] at hl
      obtain ⟨hk, hk0, hline⟩ := hl
      have hline := lineOk_ok hline
      refine te_step I.di ea (fun er z => nomatch z) fun v x H1 ev s1 hv I1 => ?_
      cases ev
      obtain ⟨p, us, rfl, h1, h2⟩ := Dp.tup_inv (show Dp X.K (hide H1 (Zo Z σ ρ)) x (.tuple xs) from hv)
      refine te_step I1 eb (fun er z => nomatch z) fun v y H2 ev s2 hv2 I2 => ?_
      cases ev
      obtain ⟨q', zs, rfl, nq, hq, hz⟩ := hv2
      have hul : us.length = kx := h2.length.trans hk
      refine ⟨by show 1 ≤ sizeLine; rw [sizeLine_eq]; omega, fun t nt => ⟨p, t, us, [.ref q'], rfl, rfl, SqT.same (same_upd (Cl := Cl) nt).d (SqT.same s2.d (SqT.same hide_sub h1)), SqT.of upd_same, fun z => by rw [z] at hul; simp at hul; omega, by rw [hul]; exact hline, (fun z => (nomatch z)), fun _ l nl => ?_⟩⟩
      have sT : Same Cl H2 (upd H2 t (.tup [.ref q'])) := same_upd nt
      have sL : Same Cl (upd H2 t (.tup [.ref q'])) (upd (upd H2 t (.tup [.ref q'])) l (.tup (us ++ [.ref q']))) := same_upd nl
      have s3 := sT.trans sL
      have s13 := s2.trans s3
      have nqZ : ¬ Z q' := fun z => I1.live q' z nq
      have nlZ : ¬ Z l := fun z => I1.live l z (s2.free (sT.free nl))
      have m1 : SameD (hide H1 (Zo Z σ ρ)) (hide (upd (upd H2 t (.tup [.ref q'])) l (.tup (us ++ [.ref q']))) Z) := hide_mono s13 fun b hb => .inl (.inl hb)
      have m2 : SameD (hide H2 (ZP (Zo Z σ ρ) q')) (hide (upd (upd H2 t (.tup [.ref q'])) l (.tup (us ++ [.ref q']))) Z) := hide_mono s3 fun b hb => .inl (.inl (.inl hb))
      refine q _ _ (s1.trans s13) (.tup (SqT.of (hide_at nlZ upd_same)) ((DpAll.same m1 h2).append (.cons (.lst (Rd.of (hide_at nqZ (s3.at hq))) (DpAll.same m2 hz)) .nil))) ?_
      refine ⟨l, us ++ [.ref q'], xs ++ [.list ws], q', zs, ws, rfl, rfl, SqT.of upd_same, ?_, ?_, s1.free nq, s3.at hq, hz.length⟩
      · rw [List.getElem?_append_right (by omega), hul, Nat.sub_self]
        rfl
      · rw [List.getElem?_append_right (by omega), hk, Nat.sub_self]
        rfl
    · cases e
  · cases e
end
end DL
set_option Elab.async false
set_option linter.all false
set_option maxRecDepth 100000
set_option maxHeartbeats 4000000
namespace DL
open PySem PySem.Spec PyProof.Rows L2
def sortI (ks : List Int) : List Int := ks.mergeSort fun a b => decide (a ≤ b)
theorem sortI_of {ks ys : List Int} (h : ys.Perm ks) (hp : ys.Pairwise (· ≤ ·)) : ys = sortI ks :=
  List.Perm.eq_of_pairwise (le := fun a b => a ≤ b) (fun a b _ _ h1 h2 => Int.le_antisymm h1 h2) hp (by
    have q := List.pairwise_mergeSort (le := fun a b : Int => decide (a ≤ b)) (fun a b c h1 h2 => by simp at *; omega) (fun a b => by simp; omega) ks
    exact q.imp fun h => by simpa using h) (h.trans (List.mergeSort_perm ks _).symm)
theorem ite_t {P Q : Prop} (h : P) : if (true : Bool) = true then P else Q := by
  rw [if_pos rfl]
  exact h
theorem mapM_at {α β : Type} {f : α → Option β} : ∀ {l : List α} {es : List β}, l.mapM f = some es → es.length = l.length ∧ ∀ (t : Nat) (n : α), l[t]? = some n → ∃ d, f n = some d ∧ es[t]? = some d
  | [], es, h => by
    rw [List.mapM_nil] at h
    cases h
    exact ⟨rfl, fun t n z => by simp at z⟩
  | a :: l, es, h => by
    rw [List.mapM_cons] at h
    cases e1 : f a with
    | none => rw [e1] at h; cases h
    | some d =>
      cases e2 : l.mapM f with
      | none => rw [e1, e2] at h; cases h
      | some es' =>
        rw [e1, e2] at h
        cases h
        obtain ⟨h1, h2⟩ := mapM_at e2
        refine ⟨by rw [List.length_cons, List.length_cons, h1], fun t n z => ?_⟩
        cases t with
        | zero => simp at z; subst z; exact ⟨d, e1, rfl⟩
        | succ t => exact h2 t n (by simpa using z)
section
variable {K : PySem.W.Frag} {Cl : Nat → Addr} {Hs : Hp}
theorem DicOk.some_iff {n : Int} : ∀ {kvs : List (Key × V)} {ps : List (Int × D)}, DicOk K Hs kvs ps → (valV kvs (Sum.inl n : Key)).isSome = (dicGet ps n).isSome
  | _, _, .nil => rfl
  | _, _, .cons (k := k) (v := v) (d := d) (kvs := kvs) (ps := ps) h t => by
    have ih := DicOk.some_iff (n := n) t
    unfold dicGet
    by_cases z : k = n
    · subst z
      rw [if_pos rfl, valV_pos (p := ((Sum.inl k : Key), v)) rfl]
      rfl
    · rw [if_neg z, valV_neg (p := ((Sum.inl k : Key), v)) (fun y => z (Sum.inl.inj y))]
      exact ih
theorem DicOk.at {n : Int} {d : D} : ∀ {kvs : List (Key × V)} {ps : List (Int × D)}, DicOk K Hs kvs ps → dicGet ps n = some d → ∃ (v : V) (j : Nat), valV kvs (Sum.inl n : Key) = some v ∧ kvs[j]? = some ((Sum.inl n : Key), v) ∧ ps[j]? = some (n, d) ∧ Dp K Hs v d
  | _, _, .nil, e => by cases e
  | _, _, .cons (k := k) (v := v) (d := d0) (kvs := kvs) (ps := ps) h t, e => by
    unfold dicGet at e
    by_cases z : k = n
    · subst z
      rw [if_pos rfl] at e
      cases e
      exact ⟨v, 0, valV_pos (p := ((Sum.inl k : Key), v)) rfl, rfl, rfl, h⟩
    · rw [if_neg z] at e
      obtain ⟨v2, j, h1, h2, h3, h4⟩ := DicOk.at t e
      exact ⟨v2, j + 1, by rw [valV_neg (p := ((Sum.inl k : Key), v)) (fun y => z (Sum.inl.inj y))]; exact h1, by simpa using h2, by simpa using h3, h4⟩
theorem DicOk.keys : ∀ {kvs : List (Key × V)} {ps : List (Int × D)}, DicOk K Hs kvs ps → kvs.map (·.1) = (ps.map (·.1)).map Sum.inl
  | _, _, .nil => rfl
  | _, _, .cons h t => by
    rw [List.map_cons, List.map_cons, List.map_cons, DicOk.keys t]
theorem SI.pokeD {H0 H : Hp} {Z : Addr → Prop} {σ : St} {ρ : Rho} (I : SI K Cl H0 Z H σ ρ) {q : Addr} {ys zs : List (Key × V)} (hz : Z q) (h0 : H0 q = none) (hq : H q = some (.dK ys)) : SI K Cl H0 Z (upd H q (.dK zs)) σ ρ := by
  have hm : SameD (hide H (Zo Z σ ρ)) (hide (upd H q (.dK zs)) (Zo Z σ ρ)) := fun b o e _ => by
    obtain ⟨n, e1⟩ := hide_of e
    exact hide_at n (by rw [upd_ne fun z => n (.inl (by rw [z]; exact hz))]; exact e1)
  have no : ∀ a, Owned σ ρ a → a ≠ q := fun a o z => I.di.out a o (by rw [z]; exact hz)
  have n1 : ∀ ps, (HO.dK ys) ≠ .tbl ps := fun ps z => nomatch z
  have n2 : ∀ s, (HO.dK ys) ≠ LamX.CodeO q s := fun s z => by unfold LamX.CodeO at z; cases z
  refine ⟨⟨I.di.len, I.di.one, I.di.out, fun a z => ?_, fun i t e => ?_, I.di.tb.overC hq n1 n2⟩, I.same.overC h0 hq n1 n2, I.new⟩
  · by_cases e : a = q
    · rw [e, upd_same]
      intro z; cases z
    · rw [upd_ne e]
      exact I.di.live a z
  · have k := I.di.slots i t e
    cases t with
    | un => trivial
    | dat d =>
      obtain ⟨v, e1, h1⟩ := k
      exact ⟨v, e1, Dp.same hm h1⟩
    | own ds =>
      obtain ⟨a, xs, e1, e2, h1⟩ := k
      exact ⟨a, xs, e1, by rw [upd_ne (no a ⟨i, .inl ⟨e1, ds, e⟩⟩)]; exact e2, DpAll.same hm h1⟩
    | err a dd j =>
      have nd : dd ≠ q := fun z => by
        have k2 := k.2
        rw [z, hq] at k2
        cases k2
      exact ⟨k.1, by rw [upd_ne nd]; exact k.2⟩
    | ownT a k' gs =>
      obtain ⟨T, e1, h1⟩ := k
      exact ⟨T, e1, h1.same hm fun _ z => by rw [upd_ne (no a ⟨i, .inr (.inl ⟨k', gs, e⟩)⟩)]; exact z⟩
    | pin a => exact k
    | ob k fs => exact ObOk.same hm k
    | cel a c =>
      obtain ⟨e1, u, e2, h1⟩ := k
      exact ⟨e1, u, by rw [upd_ne (no a ⟨i, .inr (.inr ⟨c, e⟩)⟩)]; exact e2, h1.same hm⟩
end
open Classical in
noncomputable def rollL (i : Nat) (g : FG) (t1 : FT) (ke : FE) (ga : FA) (F : TY) : List D → Rho → List (Int × D) → Option (List (Int × D))
  | [], _, ps => some ps
  | d :: r, ρ, ps => match g d ρ with
    | none => none
    | some ρ1 => if ρ1[i]? = ρ[i]? ∧ ρ1.length = ρ.length then match t1 ρ1 with
      | some (.ok false) => rollL i g t1 ke ga F r ρ1 ps
      | some (.ok true) => match ke ρ1 with
        | some (.ok v) => match v.d with
          | .int n => if (dicGet ps n).isSome = true then rollL i g t1 ke ga F r ρ1 ps else match ga ρ1 with
            | some (.ok us) => match stAll us with
              | some as => if as.length = 1 then match F as with
                | some d' => if ps.length < 63 then rollL i g t1 ke ga F r ρ1 (ps ++ [(n, d')]) else none
                | none => none else none
              | none => none
            | _ => none
          | _ => none
        | _ => none
      | _ => none else none
noncomputable def rollA (i : Nat) (it : FI) (g : FG) (t1 : FT) (ke : FE) (ga : FA) (F : TY) (ρ : Rho) : Option (List (Int × D)) := match it ρ with
  | some (.ok ds) => rollL i g t1 ke ga F ds ρ []
  | _ => none
noncomputable def fRoll (i nn : Nat) (it : FI) (g : FG) (t1 : FT) (ke : FE) (ga : FA) (F : TY) : Rho → Option (List D) := fun ρ => if (decide (i < ρ.length) && (decide (nn < ρ.length) && decide (i ≠ nn))) = true then (pinned i (rollA i it g t1 ke ga F) ρ).bind fun ps => (sortI (ps.map (·.1))).mapM (dicGet ps) else none
section
variable {X : Cx} {Cl : Nat → Addr} {W : WX} {tg iter c1 ke ke2 ae : Expr} {it : FI} {g : FG} {t1 : FT} {fk : FE} {ga : FA} {F : TY}
theorem px_roll {lv i nn kx : Nat} {fa : Addr} {fd : FuncData} {ps : List Str} {x y z : Str} {p1 p2 p3 p4 p5 p6 p7 p8 p9 p10 p11 p12 p13 p14 p15 p16 p17 p18 p19 p20 p21 p22 : Pos} {scope : Scope} (hc : X.calm = true) (hN : X.N.Nodup) (hpo : PassesOwn (model X.prog X.w) X.A X.env X.xe) (hu : X.A.units + 1 < cLine)
    (G : FnOk X.prog X.w X.K X.mg X.base (L2.CX X.prog X.w) lv fa fd ps (spY X.K Cl kx 1 F)) (tk : Takes X W) (hr : Room lv X.A) (hm : X.mg x = some (.ref fa)) (hk : PySem.W.keepIn X.K (.ref fa) = true) (hb : Binds X.K fd ps []) (hms : X.mg "sorted" = none)
    (hit : DIt X Cl W tg iter it) (hg : DG X Cl tg g) (h1 : DT X Cl W c1 t1) (hke : DE X Cl W ke fk) (hke2 : DE X Cl W ke2 fk) (ha : DA X Cl W [ae] ga) (hv : ∀ p, PE X (.Name y p) (tVar i))
    (ok : BlkOk X.N X.env.scope scope [(z, nn)])
    (hgz : ∀ (s : Shared) (H : Hp) (C : Addr) (cl : List (Str × Addr)) (fp : List Addr), PG (X.blk s H scope (compEnvC scope cl C X.env) fp) (.Name z p17) (gName nn))
    (hez : ∀ (s : Shared) (H : Hp) (C : Addr) (cl : List (Str × Addr)) (fp : List Addr), PE (X.blk s H scope (compEnvC scope cl C X.env) fp) (.Subscript (.Name y p14) (.Name z p15) p16) (tDGet (tVar i) (tVar nn)))
    (hgl : Gl X x := by rfl) (hdb : (x == ("__debug__" : Str)) = false := by decide) (he : starEach [ae] X.env = (false, eval ae X.env) :: starEach [] X.env := by rfl) (hpl : (backTo p10 (starEach [] X.env)).any (·.1) = false := by rfl)
    (hgs : Gl X "sorted" := by rfl) (hes : starEach [.Name y p19] X.env = (false, eval (.Name y p19) X.env) :: starEach [] X.env := by rfl) (hpls : (backTo p20 (starEach [] X.env)).any (·.1) = false := by rfl)
    (hi : X.N[i]? = some y := by rfl) (hx : Loc X.env.scope y := by first | exact .inl rfl | exact .inr rfl) (hf : X.fn y = true ∨ X.env.scope.names.lookup y = some .local := by first | exact .inl rfl | exact .inr rfl)
    (hs : swapsWith (.Dict [] [] p2) (some (.Name y p1)) p3.line X.env = pure false := by rfl) (hs2 : swapsWith (.Call (.Name x p9) [ae] [] p10) (some (.Subscript (.Name y p7) ke2 p8)) p11.line X.env = pure false := by rfl)
    (hsi : ∀ x, foldedSetIterable iter X.env x = pure x := by intro _; rfl) (hsz : ∀ x, foldedSetIterable (.Call (.Name "sorted" p18) [.Name y p19] [] p20) X.env x = pure x := by intro _; rfl)
    (hbm : behindInMarks .NotIn (.Name y p4) = false := by rfl) (hns : NoSl ke2 := by exact fun _ _ => rfl) :
    PSs X [.Assign [.Name y p1] (.Dict [] [] p2) p3, .For tg iter [.If (.BoolOp .And [c1, .Compare ke [.NotIn] [.Name y p4] p5] p6) [.Assign [.Subscript (.Name y p7) ke2 p8] (.Call (.Name x p9) [ae] [] p10) p11] [] p12] [] p13,
      .Return (some (.ListComp (.Subscript (.Name y p14) (.Name z p15) p16) [⟨.Name z p17, .Call (.Name "sorted" p18) [.Name y p19] [] p20, [], 0⟩] scope p21)) p22] (fun D σ H => teX X.K Cl kx (fRoll i nn it g t1 fk ga F) σ H D.rt) :=
  PSs.imp (pss_cons (ps_set hN hi hx pe_dnewK hs hf) (pss_cons (ps_for hpo hc hit hg (pss_cons (ps_if (PW.pt (pw_and h1 (pw_and1 (pt_cmp (pc_dnotin hu hke (hv p4)) hbm)))) (pss_cons (ps_dput hu (hv p7) hke2 (pe_callS (E := WE W) G hr hgl hm hk hb (fun σ => passAt tk σ) ha hdb he hpl) hs2) pss_nil) pss_nil) pss_nil) hsi)
    (pss_cons (ps_ret (pe_lc hc hN (pi_list (pe_callB (call_sortedDI hc) hgs hms (by decide +kernel) (pa_cons (hv p19) pa_nil (by exact hes)) (he := hes) (hpl := hpls))) ok hgz (fun _ _ _ _ _ => pts_nil) hez hsz)) pss_nil))) fun D σ H ⟨Z, ρ, es, I, e, q⟩ => by
  unfold fRoll at e
  split at e
  · rename_i hcond
    simp only [Bool.and_eq_true, decide_eq_true_eq] at hcond
    obtain ⟨hil, hnl, hin⟩ := hcond
    cases hp : pinned i (rollA i it g t1 fk ga F) ρ with
    | none => rw [hp] at e; cases e
    | some psF =>
      rw [hp] at e
      have e : (sortI (psF.map (·.1))).mapM (dicGet psF) = some es := e
      intro a na
      have noOw : ∀ b, ¬ Owned σ ρ b := fun b o => I.di.liveO o (I.new b o)
      have er := pinned_spec hp a
      have sA : Same Cl H (upd H a (.dK [])) := same_upd na
      have I1 := I.hid sA (S := fun b => b = a) (fun b h => by rw [h]; exact na) (fun b h => by rw [h, upd_same]; intro z; cases z)
      have I2 : SI X.K Cl H (fun b => Z b ∨ b = a) (upd H a (.dK [])) (σ.set i (some (.ref a))) (ρ.set i (.pin a)) := ⟨I1.di.setS (fun z => nomatch z) fun _ _ => rfl, I1.same, fun b ⟨j, z⟩ => I1.new b ⟨j, own_sub (s := .pin a) (fun z => nomatch z) z⟩⟩
      have noOw2 : ∀ b, ¬ Owned (σ.set i (some (.ref a))) (ρ.set i (.pin a)) b := fun b ⟨j, z⟩ => noOw b ⟨j, own_sub (s := .pin a) (fun z => nomatch z) z⟩
      unfold rollA at er
      cases eit : it (ρ.set i (.pin a)) with
      | none => rw [eit] at er; cases er
      | some rit =>
        cases rit with
        | error _ => rw [eit] at er; cases er
        | ok ds =>
          rw [eit] at er
          dsimp only at er
          refine ⟨fun b => Z b ∨ b = a, _, .ok ds, I2.di, eit, ?_⟩
          intro J H2 s1 hJ
          have I3 := I2.same' s1
          have hd2 : H2 a = some (.dK []) := s1.at upd_same
          -- the heap without the dict
          let U : Hp := hide H2 fun b => b = a
          have sHU : Same Cl H U := by
            have s := sA.trans s1
            refine ⟨fun b o h n => hide_at (fun z => by rw [z, na] at h; cases h) (s.d b o h n), fun t p hp n => ?_, fun b h z => ?_⟩
            · have w := (s.tb t) p hp n
              obtain ⟨qs, w1, w2, w3⟩ := w
              refine ⟨qs, hide_at (fun z => by rw [z, hd2] at w1; cases w1) w1, w2, fun pos cv hc => ?_⟩
              obtain ⟨c, v1, v2⟩ := w3 pos cv hc
              exact ⟨c, v1, hide_at (fun z => by rw [z, hd2] at v2; have := Option.some.inj v2; unfold LamX.CodeO at this; cases this) v2⟩
            · have l := s.live b h
              cases q2 : H2 b with
              | none => exact l q2
              | some o =>
                have : U b = some o := hide_at (fun y => h (by rw [y]; exact na)) q2
                rw [this] at z
                cases z
          have sU2 : Same Cl U H2 := .of fun b o h => (hide_of h).2
          have Ua : U a = none := by
            show hide H2 (fun b => b = a) a = none
            unfold hide
            rw [if_pos rfl]
          have I4 : SI X.K Cl U (fun b => Z b ∨ b = a) H2 (σ.set i (some (.ref a))) (ρ.set i (.pin a)) := ⟨I3.di, sU2, fun b o => absurd o (noOw2 b)⟩
          have kept : ∀ {H' : Hp} {σ' : St} {ρ' : Rho}, SI X.K Cl U (fun b => Z b ∨ b = a) H' σ' ρ' → SameD (hide H2 (Zo (fun b => Z b ∨ b = a) (σ.set i (some (.ref a))) (ρ.set i (.pin a)))) (hide H' (Zo (fun b => Z b ∨ b = a) σ' ρ')) := fun {H' σ' ρ'} I' b o h nt => by
            obtain ⟨n, h1⟩ := hide_of h
            have hU : U b = some o := hide_at (fun z => n (.inl (.inr z))) h1
            refine hide_at (fun z => z.elim (fun z => n (.inl z)) fun z => ?_) (I'.same.d b o hU nt)
            rw [I'.new b z] at hU
            cases hU
          have slot : ∀ {H' : Hp} {σ' : St} {ρ' : Rho}, SI X.K Cl U (fun b => Z b ∨ b = a) H' σ' ρ' → ρ'[i]? = some (.pin a) → σ'[i]? = some (some (.ref a)) := fun {H' σ' ρ'} I' h => I'.di.slots i _ h
          have hpin0 : (ρ.set i (.pin a))[i]? = some (.pin a) := by rw [List.getElem?_set, if_pos rfl, if_pos hil]
          refine ⟨fun t m σ' H' => ∃ ρ' kvs psa, SI X.K Cl U (fun b => Z b ∨ b = a) H' σ' ρ' ∧ ρ'[i]? = some (.pin a) ∧ ρ'.length = ρ.length ∧ H' a = some (.dK kvs) ∧ DicOk X.K (hide H' fun b => Z b ∨ b = a) kvs psa ∧ (∀ (j : Nat) kv pd, kvs[j]? = some kv → psa[j]? = some pd → TupN X.K kx H H' kv.2 pd.2) ∧ rollL i g t1 fk ga F (ds.drop t) ρ' psa = some psF ∧ psa.length ≤ 63 ∧ m = ds.length - t ∧ t ≤ ds.length,
            ⟨_, _, [], [], I4, hpin0, List.length_set, hd2, .nil, fun j kv pd h => by simp at h, er, Nat.zero_le _, rfl, Nat.zero_le _⟩, fun t m σ' H' => ?_⟩
          rintro ⟨ρ', kvs, psa, I', hpin, hrl, hda, hdic, htn, e', h63, rfl, htl⟩
          obtain ⟨go, stop, yld⟩ := hJ (Zo (fun b => Z b ∨ b = a) σ' ρ') H' (kept I') (fun b z => I'.di.liveZ z)
          by_cases hlt : t < ds.length
          · refine .inr ⟨go t hlt, fun σ3 H3 => ∃ ρ' kvs psa, SI X.K Cl U (fun b => Z b ∨ b = a) H3 σ3 ρ' ∧ ρ'[i]? = some (.pin a) ∧ ρ'.length = ρ.length ∧ H3 a = some (.dK kvs) ∧ DicOk X.K (hide H3 fun b => Z b ∨ b = a) kvs psa ∧ (∀ (j : Nat) kv pd, kvs[j]? = some kv → psa[j]? = some pd → TupN X.K kx H H3 kv.2 pd.2) ∧ rollL i g t1 fk ga F (ds.drop (t + 1)) ρ' psa = some psF ∧ psa.length ≤ 63,
              fun σ3 H3 ⟨ρ3, k3, s3, b1, b2, b2', b3, b4, b5, b6, b7⟩ => ⟨ds.length - (t + 1), by omega, ρ3, k3, s3, b1, b2, b2', b3, b4, b5, b6, b7, rfl, hlt⟩, fun x0 H'' y0 => ?_⟩
            have hd : ds[t]? = some ds[t] := List.getElem?_eq_getElem hlt
            obtain ⟨s2', hx0⟩ := yld t x0 H'' _ y0 hd
            have s2 := s2' Cl
            rw [List.drop_eq_getElem_cons hlt] at e'
            unfold rollL at e'
            cases eg : g ds[t] ρ' with
            | none => rw [eg] at e'; cases e'
            | some ρ1 =>
              rw [eg] at e'
              dsimp only at e'
              split at e'
              · rename_i hpin1
                obtain ⟨hpin1, hrl1⟩ := hpin1
                rw [hpin] at hpin1
                rw [hrl] at hrl1
                refine ⟨U, _, ρ', ds[t], ρ1, I'.same' s2, hx0, eg, fun σ1 I1' => ?_⟩
                cases et : t1 ρ1 with
                | none => rw [et] at e'; cases e'
                | some rt =>
                  cases rt with
                  | error _ => rw [et] at e'; cases e'
                  | ok bt =>
                    rw [et] at e'
                    refine tt_step I1'.di et (fun er z => nomatch z) fun b H3 eb s3 I3d => ?_
                    cases eb
                    have I3' := I1'.same' s3
                    have s23 := s2.trans s3
                    have keepD : ∀ {H5 : Hp}, Same Cl H' H5 → DicOk X.K (hide H5 fun b => Z b ∨ b = a) kvs psa := fun {H5} s => hdic.same (hide_mono s fun _ h => .inl h)
                    have keepT : ∀ {H5 : Hp}, Same Cl H' H5 → ∀ (j : Nat) kv pd, kvs[j]? = some kv → psa[j]? = some pd → TupN X.K kx H H5 kv.2 pd.2 := fun {H5} s j kv pd h1 h2 => (htn j kv pd h1 h2).same s
                    cases bt with
                    | false =>
                      dsimp only at e'
                      rw [if_neg Bool.false_ne_true]
                      show (if (false : Bool) = true then _ else _)
                      rw [if_neg Bool.false_ne_true]
                      exact ⟨ρ1, kvs, psa, I3', hpin1, hrl1, s23.at hda, keepD s23, keepT s23, e', h63⟩
                    | true =>
                      dsimp only at e'
                      rw [if_pos rfl]
                      cases ek : fk ρ1 with
                      | none => rw [ek] at e'; cases e'
                      | some rk =>
                        cases rk with
                        | error _ => rw [ek] at e'; cases e'
                        | ok v =>
                          rw [ek] at e'
                          dsimp only at e'
                          split at e'
                          · rename_i n hn
                            refine te_step I3'.di ek (fun er z => nomatch z) fun v1 y1 H4 ev s4 hv4 I4d => ?_
                            cases ev
                            have ey := hv4.int_inv I3'.di hn
                            subst ey
                            have I4' := I3'.same' s4
                            have s24 := s23.trans s4
                            refine ⟨_, slot I4' hpin1, a, _, rfl, DGet.k (k := Sum.inl n) (s24.at hda), _, rfl, ?_⟩
                            show (if (!(valV kvs (Sum.inl n : Key)).isSome) = true then _ else _)
                            rw [hdic.some_iff]
                            by_cases hin' : (dicGet psa n).isSome = true
                            · rw [if_pos hin'] at e'
                              rw [hin', if_neg (by decide)]
                              exact ⟨ρ1, kvs, psa, I4', hpin1, hrl1, s24.at hda, keepD s24, keepT s24, e', h63⟩
                            · rw [if_neg hin'] at e'
                              have hin2 : (dicGet psa n).isSome = false := by simpa using hin'
                              rw [hin2, if_pos (by decide)]
                              cases ega : ga ρ1 with
                              | none => rw [ega] at e'; cases e'
                              | some rg =>
                                cases rg with
                                | error _ => rw [ega] at e'; cases e'
                                | ok us =>
                                  rw [ega] at e'
                                  dsimp only at e'
                                  split at e'
                                  · rename_i as hst
                                    split at e'
                                    · rename_i has
                                      split at e'
                                      · rename_i d' eF
                                        split at e'
                                        · rename_i hl63
                                          refine ta_step I4'.di ega (fun er z => nomatch z) fun vs' xs0 H5 ev s5 hvs I5d => ?_
                                          cases ev
                                          have I5' := I4'.same' s5
                                          refine ⟨Zo (fun b => Z b ∨ b = a) σ1 ρ1, as, d', ⟨fun b z => I5'.di.liveZ z, I5'.di.tb⟩, hvs.stab I4'.di hst, has, eF, fun w H6 s6 hw htw => ?_⟩
                                          have I6 := I5'.same' s6
                                          refine ⟨_, slot I6 hpin1, te_step I6.di ek (fun er z => nomatch z) fun v2 y2 H7 ev s7 hv7 I7d => ?_⟩
                                          cases ev
                                          have ey := hv7.int_inv I6.di hn
                                          subst ey
                                          have I7 := I6.same' s7
                                          have s27 : Same Cl H' H7 := s24.trans (s5.trans (s6.trans s7))
                                          have hd7 := s27.at hda
                                          have hnone : valV kvs (Sum.inl n : Key) = none := by
                                            have z := hdic.some_iff (n := n)
                                            rw [hin2] at z
                                            cases q2 : valV kvs (Sum.inl n : Key) with
                                            | none => rfl
                                            | some _ => rw [q2] at z; cases z
                                          refine ⟨a, _, rfl, DPut.k (k := Sum.inl n) hd7 (by rw [hdic.len, sizeLine_eq]; omega), ?_⟩
                                          rw [putK_new w hnone]
                                          have hmU : SameD (hide H7 fun b => Z b ∨ b = a) (hide (upd H7 a (.dK (kvs ++ [(Sum.inl n, w)]))) fun b => Z b ∨ b = a) := fun b o h _ => by
                                            obtain ⟨nz, h1⟩ := hide_of h
                                            exact hide_at nz (by rw [upd_ne fun z => nz (.inr z)]; exact h1)
                                          have hw7 : Dp X.K (hide H7 fun b => Z b ∨ b = a) w d' := Dp.same (hide_mono s7 fun b hb => .inl (.inl hb)) hw
                                          have htw7 : TupN X.K kx H H7 w d' := (htw.same s7).from (sHU.trans I5'.same)
                                          refine ⟨ρ1, _, psa ++ [(n, d')], I7.pokeD (.inr rfl) Ua hd7, hpin1, hrl1, upd_same, ((keepD s27).snoc hw7).same hmU, fun j kv pd h1 h2 => ?_, e', by rw [List.length_append, List.length_singleton]; omega⟩
                                          have hlen := hdic.len
                                          rw [List.getElem?_append] at h1 h2
                                          split at h1
                                          · rename_i hj
                                            rw [if_pos (by omega)] at h2
                                            exact (keepT s27 j kv pd h1 h2).updD hd7
                                          · rename_i hj
                                            rw [if_neg (by omega)] at h2
                                            rw [List.getElem?_singleton] at h1 h2
                                            split at h1
                                            · cases h1
                                              rw [if_pos (by omega)] at h2
                                              cases h2
                                              exact htw7.updD hd7
                                            · cases h1
                                        · cases e'
                                      · cases e'
                                    · cases e'
                                  · cases e'
                          · cases e'
              · cases e'
          · have het : t = ds.length := by omega
            subst het
            refine .inl ⟨stop _ (Nat.le_refl _), ?_⟩
            rw [List.drop_length] at e'
            unfold rollL at e'
            cases e'
            have hkeys := hdic.keys
            refine ⟨_, slot I' hpin, a, kvs, psF.map (·.1), rfl, Rd.of hda, hkeys, by rw [List.length_map]; omega, fun ys p perm rising np => ?_⟩
            have hys := sortI_of perm rising
            rw [← hys] at e
            obtain ⟨hel, heat⟩ := mapM_at e
            have hi' : (wipe σ' [nn])[i]? = some (some (.ref a)) := by
              rw [wipe_out (by simpa using hin)]
              exact slot I' hpin
            have hnl' : nn < σ'.length := by
              rw [← I'.di.len, hrl]
              exact hnl
            have s9 : Same Cl H' (upd H' p (.lst (ys.map V.int))) := same_upd np
            refine ⟨p, rfl, ⟨ys.map V.int, SqL.of upd_same⟩, fun L nL => ?_⟩
            generalize hH9 : upd H' p (.lst (ys.map V.int)) = H9 at s9 nL
            have h9p : H9 p = some (.lst (ys.map V.int)) := by rw [← hH9, upd_same]
            refine lc_list (xs := ys.map V.int) (fun t H'' => ∃ acc as, H'' L = some (.lst acc) ∧ Same Cl H9 H'' ∧ DpAll X.K (hide H'' (ZP Z L)) acc as ∧ as = es.take t ∧ acc.length = t ∧ RowsX X.K kx H H'' L acc as) ⟨[], [], upd_same, same_upd nL, .nil, by simp, rfl, fun j x d h => by simp at h⟩ (fun t H'' _ ⟨acc, as, a1, a2, _⟩ => SqL.of (a2.at h9p)) (fun t x H'' hx ⟨acc, as, a1, a2, a3, a4, a5, a6⟩ => ?_) (fun H'' ⟨acc, as, a1, a2, a3, a4, a5, a6⟩ => ?_)
            · rw [List.getElem?_map] at hx
              cases eyt : ys[t]? with
              | none => rw [eyt] at hx; cases hx
              | some n =>
                rw [eyt] at hx
                cases hx
                obtain ⟨d, hd1, hd2⟩ := heat t n eyt
                obtain ⟨v, j, hv1, hv2, hv3, hv4⟩ := hdic.at hd1
                have htv := htn j _ _ hv2 hv3
                have s9'' := s9.trans a2
                refine ⟨?_, ?_⟩
                · show (((σ'.set nn none).set nn (some (V.int n))).set nn none) = σ'.set nn none
                  rw [List.set_set, List.set_set]
                unfold tYes
                refine ite_t ?_
                refine ⟨.ref a, by rw [List.getElem?_set_ne (Ne.symm hin)]; exact hi', .int n, ?_, a, v, rfl, by rw [← hv1]; exact DGet.k (k := Sum.inl n) (s9''.at hda), acc, a1, ?_, ?_⟩
                · show ((σ'.set nn none).set nn (some (V.int n)))[nn]? = _
                  rw [List.set_set, List.getElem?_set, if_pos rfl, if_pos hnl']
                · have : t < ys.length := (List.getElem?_eq_some_iff.mp eyt).1
                  have hl : ys.length = psF.length := by rw [perm.length_eq, List.length_map]
                  rw [a5, sizeLine_eq]
                  omega
                · have hmL : SameD (hide H'' (ZP Z L)) (hide (upd H'' L (.lst (acc ++ [v]))) (ZP Z L)) := fun b o h _ => by
                    obtain ⟨nz, h1⟩ := hide_of h
                    exact hide_at nz (by rw [upd_ne fun z => nz (.inr z)]; exact h1)
                  have hv5 : Dp X.K (hide H'' (ZP Z L)) v d := Dp.same (hide_mono s9'' fun b hb => by
                    rcases hb with hb | rfl
                    · exact .inl (.inl hb)
                    · exact .inr (s9.free nL)) hv4
                  refine ⟨acc ++ [v], as ++ [d], upd_same, a2.over nL a1, DpAll.append (DpAll.same hmL a3) (.cons (Dp.same hmL hv5) .nil), ?_, by rw [List.length_append, a5]; rfl, fun j' x d0 h1 h2 => ?_⟩
                  · rw [a4, List.take_add_one, hd2]
                    rfl
                  · have lift : ∀ {x : V} {d0 : DL.D}, TupX X.K kx H H'' L x d0 → TupX X.K kx H (upd H'' L (.lst (acc ++ [v]))) L x d0 := fun {x d0} ⟨T, ys, dds, q2, zs, ws, f1, f2, f3, f4, f5, f6, f7, f8, f9⟩ => ⟨T, ys, dds, q2, zs, ws, f1, f2, SqT.updL f3 a1, f4, f5, f6, f7, by rw [upd_ne f6]; exact f8, f9⟩
                    have hal := a3.length
                    rw [List.getElem?_append] at h1 h2
                    split at h1
                    · rename_i hj
                      rw [if_pos (by omega)] at h2
                      exact lift (a6 j' x d0 h1 h2)
                    · rename_i hj
                      rw [if_neg (by omega)] at h2
                      rw [List.getElem?_singleton] at h1 h2
                      split at h1
                      · cases h1
                        rw [if_pos (by omega)] at h2
                        cases h2
                        obtain ⟨T, ys, dds, q2, zs, ws, f1, f2, f3, f4, f5, f6, f7, f8⟩ := htv
                        exact lift ⟨T, ys, dds, q2, zs, ws, f1, f2, SqT.same s9''.d f3, f4, f5, (fun z => by rw [z] at f7; rw [s9.at f7] at nL; cases nL), f6, s9''.at f7, f8⟩
                      · cases h1
            · have sH : Same Cl H H'' := sHU.trans (I'.same.trans (s9.trans a2))
              have hes : as = es := by
                rw [a4, List.length_map, ← hel, List.take_length]
              subst hes
              exact q L acc H'' sH (sHU.free (I'.same.free (s9.free nL))) a1 a3 a6
  · cases e
end
end DL
set_option Elab.async false
set_option linter.all false
set_option maxRecDepth 100000
set_option maxHeartbeats 4000000
namespace DL
open PySem PySem.Spec PyProof.Rows L2
abbrev newS (w : World) : Obj := { cls := .type "set", dict := none, data := .set #[] 0 (.fresh 0 0 (!w.params.followText "set-order")) }
section
variable {P : Program} {w : World} {A : Around} {E : Value → Shared → Prop} {s : Shared}
set_option maxHeartbeats 6400000 in
theorem call_setL {l : Addr} {xs : Array Value} (ns : List Int) {Q : Value → Shared → Prop} (nh : A.handled = none) (isl : s.heap.IsList l xs) (hin : IntsAre xs.toList ns) (few : ns.length + 1 < scanBound)
    (k : ∀ (h' : Heap) (tk c : Nat), SetR w h' s.heap.objs.size (fun j => decide (j ∈ ns)) c → c ≤ ns.length → (∀ b o, s.heap.get? b = some o → h'.get? b = some o) → Q (.ref s.heap.objs.size) { s with heap := h', toks := tk }) :
    wpAny (model P w) A (call (.type "set") [.ref l]) Q E s := by
  have size : xs.size = ns.length := (Array.length_toList (xs := xs)).symm.trans (IntsAre.length hin)
  obtain ⟨cM, tM, m0⟩ := F.called_set.mro
  have m1 := F.called_set.made
  have m2 := F.called_set.sub
  refine wpAny_call (codeAny_of_tree ?_)
  show wpAny _ _ (callAny (.type "set") _) _ _ _
  refine wpAny_pure ⟨Code.quiet_builtin _ (by decide +kernel), codeAny_builtin F.entry_type_call ?_⟩
  rw [Around.under_plain (weight_type_call_type "set" [.ref l] []) rfl]
  have m3 := F.called_set.notType
  have m4 := F.called_set.canCreate
  have m5 := F.typeCall_set_1 (.ref l)
  repeat (any_goals (first | assumption | wp_step))
  refine codeAny_mono (code_set_led1 (.ref l) (E := E) (Q₁ := fun ob t => ob = .ref s.heap.objs.size ∧ t = { s with heap := s.heap.push (newS w) }) ⟨rfl, rfl⟩) fun r t hr => ?_
  match r, hr with
  | .error e, hr => exact hr
  | .ok (.ret ob), hr =>
    obtain ⟨rfl, rfl⟩ := hr
    have at0 : (s.heap.push (newS w)).get? s.heap.objs.size = some (newS w) := Heap.get?_push_size _ rfl
    have ty0 : Shared.TypeIs { s with heap := s.heap.push (newS w) } (.ref s.heap.objs.size) "set" := ⟨_, at0, rfl⟩
    have i1 := F.called_set.init.lookup
    have i2 := F.called_set.init.bind (.ref s.heap.objs.size)
    repeat (any_goals (first | assumption | wp_step))
    refine codeAny_mono (codeAny_call_builtin (R := wants (fun r u => r = .none ∧ ∃ g tk c, u = { s with heap := g, toks := tk } ∧ SetR w g s.heap.objs.size (fun j => decide (j ∈ ns)) c ∧ c ≤ ns.length ∧ ∀ b o, s.heap.get? b = some o → g.get? b = some o) E) F.called_set.init.plain F.entry_set_init (check_set_init_1 ty0 ?_)) fun r2 t2 hr2 => ?_
    · obtain ⟨⟨c0, d0, dat0, sl0⟩, o1, o2, o3, o4⟩ := isl
      simp only at o2 o4
      subst o2
      subst o4
      have o5 : (s.heap.push (newS w)).get? l = some { cls := .type "list", dict := d0, data := .seq xs o3, slots := sl0 } := Heap.get?_push_of_some _ o1
      have u1 := F.sub_list_set
      have u2 := F.sub_list_frozenset
      have u3 : (Value.type "list" == Value.type "dict") = false := by decide
      have il : (s.heap.push (newS w)).IsList l xs := ⟨_, o5, rfl, o3, rfl⟩
      unfold Builtin.«set.__init__» noKeywords Builtin.Frozenset.updateFrom
      generalize hPI : pyIter = PI
      wp_walk
      subst hPI
      refine wpAny_pyIter_list il (wpAny_bind (wpAny_runValue ?_))
      have lt := Heap.lt_size o1
      have hA : A.in1.in1.in1.handled = none := by simp [nh]
      have ne1 : l ≠ (s.heap.push (newS w)).objs.size := by
        rw [Heap.size_push]
        exact Nat.ne_of_lt (Nat.lt_succ_of_lt lt)
      have ne2 : s.heap.objs.size ∉ [(s.heap.push (newS w)).objs.size, l] := by
        rw [Heap.size_push, List.mem_cons, List.mem_singleton, not_or]
        exact ⟨Nat.ne_of_lt (Nat.lt_succ_self _), Nat.ne_of_gt lt⟩
      have vals : ∀ (i : Nat) (v : Value), xs[i]? = some v → ∃ n t, ns[i]? = some n ∧ v = .int n t := fun i v hv => by
        have lti : i < ns.length := by
          rw [← size]
          exact (Array.getElem?_eq_some_iff.mp hv).1
        obtain ⟨t, e⟩ := IntsAre.int_at hin i v (by rw [Array.getElem?_toList]; exact hv)
        have e2 := List.getElem?_eq_getElem lti
        exact ⟨ns[i], t, e2, by rw [e, List.getD_eq_getElem?_getD, e2] <;> rfl⟩
      refine set_update_ints ((Walks.list hA _ l ne1 xs).toS) s.heap.objs.size ne2 ns size few vals (xs.size - 0) 0 _ (by omega) (Nat.zero_le _) ⟨⟨_, Heap.get?_push_size _ rfl, rfl, rfl⟩, il.push _⟩ ⟨0, Nat.le_refl 0, setR_new_at (Heap.get?_push_of_some _ at0)⟩ fun t' c' mv lec R => ?_
      obtain ⟨g1, g2, g3, g4, g5⟩ := t'
      obtain rfl : g2 = s.gens := mv.gens
      obtain rfl : g3 = s.drawn := mv.drawn
      obtain rfl : g5 = s.os := mv.os
      rw [size] at lec
      refine wpAny_pure (wpAny_pure ⟨rfl, g1, g4, c', rfl, R, lec, fun b o e => ?_⟩)
      have l0 := Heap.lt_size e
      refine mv.heap b o ?_ (Heap.get?_push_of_some _ (Heap.get?_push_of_some _ e))
      simp only [List.mem_cons, List.not_mem_nil, or_false, not_or]
      exact ⟨Nat.ne_of_lt l0, by rw [Heap.size_push]; exact Nat.ne_of_lt (Nat.lt_succ_of_lt l0)⟩
    · match r2, hr2 with
      | .error e, hr2 => exact hr2
      | .ok (.ret r3), hr2 =>
        obtain ⟨rfl, g, tk, c, rfl, R, lec, old⟩ := hr2
        repeat (any_goals (first | assumption | wp_step))
        exact k _ _ _ R lec old
end
def insU (x : Int) : List Int → List Int
  | [] => [x]
  | y :: r => if x < y then x :: y :: r else if x = y then y :: r else y :: insU x r
def sortU (ns : List Int) : List Int := ns.foldr insU []
theorem insU_mem {x z : Int} : ∀ {l : List Int}, z ∈ insU x l ↔ z = x ∨ z ∈ l
  | [] => by simp [insU]
  | y :: r => by
    unfold insU
    split
    · simp
    · split
      · rename_i h
        subst h
        simp
      · rw [List.mem_cons, insU_mem (l := r), List.mem_cons]
        constructor
        · rintro (h | h | h)
          · exact .inr (.inl h)
          · exact .inl h
          · exact .inr (.inr h)
        · rintro (h | h | h)
          · exact .inr (.inl h)
          · exact .inl h
          · exact .inr (.inr h)
theorem insU_rise {x : Int} : ∀ {l : List Int}, l.Pairwise (· < ·) → (insU x l).Pairwise (· < ·)
  | [], _ => by simp [insU]
  | y :: r, h => by
    unfold insU
    have h' := List.pairwise_cons.mp h
    split
    · rename_i hx
      refine List.pairwise_cons.mpr ⟨fun z hz => ?_, h⟩
      rcases List.mem_cons.mp hz with rfl | hz
      · exact hx
      · have := h'.1 z hz
        omega
    · split
      · exact h
      · refine List.pairwise_cons.mpr ⟨fun z hz => ?_, insU_rise h'.2⟩
        rcases insU_mem.mp hz with rfl | hz
        · omega
        · exact h'.1 z hz
theorem sortU_mem {z : Int} : ∀ {ns : List Int}, z ∈ sortU ns ↔ z ∈ ns
  | [] => by simp [sortU]
  | y :: r => by
    show z ∈ insU y (sortU r) ↔ _
    rw [insU_mem, sortU_mem (ns := r), List.mem_cons]
theorem sortU_rise : ∀ {ns : List Int}, (sortU ns).Pairwise (· < ·)
  | [] => List.Pairwise.nil
  | y :: r => insU_rise (sortU_rise (ns := r))
theorem rise_one {a b : List Int} (ha : a.Pairwise (· < ·)) (hb : b.Pairwise (· < ·)) (h : ∀ z, z ∈ a ↔ z ∈ b) : a = b :=
  List.Perm.eq_of_pairwise (le := fun x y => x < y) (fun x y _ _ h1 h2 => by omega) ha hb ((List.perm_ext_iff_of_nodup (ha.imp fun h => by omega) (hb.imp fun h => by omega)).mpr h)
def rSetI (X : Cx) : List V → Hp → VK → Prop := fun xs H Q => ∃ (l : Addr) (ns : List Int), xs = [V.ref l] ∧ SqL X.K H l (ns.map V.int) ∧ ns.length < 63 ∧
  ∀ a c, H a = none → c ≤ ns.length → Q (.ref a) (upd H a (SetO X.w a (fun j => decide (j ∈ ns)) c))
section
variable {X : Cx} {Cl : Nat → Addr} {W : WX} {e : Expr} {fe : FE}
theorem cr_setI (hc : X.calm = true) : CallR X (.type "set") (rSetI X) := fun pins s σ H xs us Q I r h => by
  obtain ⟨l, ns, rfl, hl, hf, q⟩ := h
  rw [Vals.ref1 r]
  obtain ⟨its, rv, pl, hz⟩ := I.list hl
  refine call_setL (P := X.prog) (w := X.w) ns (I.ok.hd hc) pl.isList (by rw [List.toList_toArray]; exact ints_of_vals rv) (by unfold scanBound; omega) fun h' tk c R lec old => ?_
  exact ⟨.ref s.heap.objs.size, _, I.laid (t' := tk) old (Nat.le_refl _) (setO_new R), rfl, q _ c (I.hok.fresh (Nat.le_refl _)) lec⟩
def eSortSet (fe : FE) : FE := bE fe fun v _ => match v.d with
  | .list ds => match intsW ds with
    | some ns => if ns.length < 63 then some (.ok (.f ((sortU ns).map .int))) else none
    | none => none
  | _ => none
theorem de_sortSet {p1 p2 p3 p4 : Pos} (hc : X.calm = true) (hm : X.mg "set" = none) (hms : X.mg "sorted" = none) (he : DE X Cl W e fe) (hg : Gl X "set" := by rfl) (hgs : Gl X "sorted" := by rfl)
    (hst : starEach [e] X.env = (false, eval e X.env) :: starEach [] X.env := by rfl) (hst2 : starEach [.Call (.Name "set" p1) [e] [] p2] X.env = (false, eval (.Call (.Name "set" p1) [e] [] p2) X.env) :: starEach [] X.env := by rfl)
    (hpl : (backTo p2 (starEach [] X.env)).any (·.1) = false := by rfl) (hpl2 : (backTo p4 (starEach [] X.env)).any (·.1) = false := by rfl) :
    DE X Cl W (.Call (.Name "sorted" p3) [.Call (.Name "set" p1) [e] [] p2] [] p4) (eSortSet fe) :=
  PE.imp (pe_callB (cr_sortedSet hc) hgs hms (by decide +kernel) (pa_cons (pe_callTy (cr_setI hc) hg hm (by decide +kernel) (pa_cons he pa_nil (by exact hst)) (he := hst) (hpl := hpl)) pa_nil (by exact hst2)) (he := hst2) (hpl := hpl2)) fun σ H Q ⟨Z, ρ, r, I, e, q⟩ => by
  unfold eSortSet at e
  refine te_bind I e q fun v x H1 _ h1 s1 hv I1 q1 => ?_
  split at h1
  · rename_i ds hd
    split at h1
    · rename_i ns hns
      split at h1
      · rename_i hl
        cases h1
        have hx := hv.dp I
        rw [hd, intsW_is hns] at hx
        obtain ⟨l, xs, rfl, r1, r2⟩ := hx.lst_inv
        rw [DpAll.ints r2] at r1
        refine ⟨l, ns, rfl, .inl (Rd.same hide_sub r1), hl, fun a c na lec => ?_⟩
        refine ⟨a, _, c, rfl, upd_same, by omega, fun out p rise mem len np => ?_⟩
        have eo : out = sortU ns := rise_one rise sortU_rise fun z => by rw [mem, decide_eq_true_eq, sortU_mem]
        subst eo
        have s2 : Same Cl H1 (upd H1 a (SetO X.w a (fun j => decide (j ∈ ns)) c)) := same_upd na
        have s3 := same_upd (Cl := Cl) (o := .lst ((sortU ns).map V.int)) np
        exact q1 _ _ (s2.trans s3) ⟨p, _, rfl, s2.free np, upd_same, DpAll.of_ints _⟩
      · cases h1
    · cases h1
  · cases h1
end
end DL
set_option Elab.async false
set_option linter.all false
namespace FN
open PySem PySem.Spec PyProof.Rows L2 DL
noncomputable section
def b_stamps : FS := fRet (eSortSet (eLcG [1, 1, 2] (stT [1, 1, 2]) (iSeq (eV 0)) (fun _ => some (.ok true)) (e2 gIx (eV 2) (eC (.int 1)))))
def d_stamps : DF := mkD 1 3 b_stamps
def b_own : Rho → Option D := fCopy 8 (eSl (eV 0) (oNone) (oSome (eC (.int 8)))) (eG bList (aCons (e2 gIx (eV 0) (eC (.int 8))) (aNil)))
def t_own : TY := mkY 1 1 b_own
def b_roll : Rho → Option (List D) := fRoll 2 5 (iSeq (eV 0)) (gT 3 (gsCons 3 (gsCons 3 (gsCons 4 (gsNil))))) (tV (e2 gEq (e2 gIx (eV 4) (eC (.int 1))) (eV 1))) (e2 gIx (eV 4) (eC (.int 2))) (aCons (eV 4) (aNil)) FN.t_own
def t_roll : TF := mkT 2 6 b_roll
def d_roll : DF := tfD t_roll
def b_gaps : FS := fSeq (fSetO 1 (eLst (aNil))) (fSeq (fSet 2 (eC (.int 0))) (fSeq (fFor (iSeq (eV 0)) (gN 3) (fSeq (fIf (tV (e2 gGtX (e2 gIx (eV 3) (eC (.int 2))) (eV 2))) (fApp 1 (eTup (aCons (eV 2) (aCons (e2 gIx (eV 3) (eC (.int 2))) (aNil))))) (fNx)) (fSet 2 (e2 gAdd (e2 gIx (eV 3) (eC (.int 2))) (eC (.int 1)))))) (fSeq (fIf (tAndD (tV (e2 gGtX (eG bLen (aCons (eV 0) (aNil))) (eC (.int 0)))) (tV (e2 gNe (e2 gIx (e2 gIx (eV 0) (e1 gNeg (eC (.int 1)))) (eC (.int 0))) (eC (.int 4))))) (fApp 1 (eTup (aCons (eV 2) (aCons (e1 gNeg (eC (.int 1))) (aNil))))) (fNx)) (fRet (eV 1)))))
def d_gaps : DF := mkD 1 4 b_gaps
def b__law_due_roll : FS := fSeq (fSet 2 (eLst (aNil))) (fSeq (fFor (iRange1 (aCons (eC (.int 8)) (aNil))) (gN 3) (fSeq (fSet 4 (eLcG [5, 6, 7] (stT [5, 6, 7]) (iSeq (eV 0)) (tAndD (tV (e2 gEq (e2 gIx (eV 7) (eC (.int 1))) (eV 1))) (tV (e2 gEq (e2 gIx (eV 7) (eC (.int 2))) (eV 3)))) (eV 7))) (fSet 2 (e2 gAdd (eV 2) (eSl (eV 4) (oNone) (oSome (eC (.int 1)))))))) (fRet (eV 2)))
def d__law_due_roll : DF := mkD 2 8 b__law_due_roll
def b__law_due_gaps : FS := fSeq (fSet 1 (eLcG [2] (st1 2) (iSeq (eV 0)) (fun _ => some (.ok true)) (e2 gIx (eV 2) (eC (.int 2))))) (fSeq (fSetO 3 (eLst (aNil))) (fSeq (fSet 4 (eC .none)) (fSeq (fFor (iRange1 (aCons (e2 gAdd (eG bMaxL (aCons (e2 gAdd (eV 1) (eLst (aCons (e1 gNeg (eC (.int 1))) (aNil)))) (aNil))) (eC (.int 1))) (aNil))) (gN 5) (fSeq (fIf (tAndD (tV (e2 gNotIn (eV 5) (eV 1))) (tV (e2 gIsN (eV 4) (eC .none)))) (fSet 4 (eV 5)) (fNx)) (fIf (tAndD (tV (e2 gIn (eV 5) (eV 1))) (tV (e2 gNotN (eV 4) (eC .none)))) (fSeq (fApp 3 (eTup (aCons (eV 4) (aCons (eV 5) (aNil))))) (fSet 4 (eC .none))) (fNx)))) (fSeq (fIf (tAndD (tV (e2 gGtX (eG bLen (aCons (eV 0) (aNil))) (eC (.int 0)))) (tV (e2 gNe (e2 gIx (e2 gIx (eV 0) (e1 gNeg (eC (.int 1)))) (eC (.int 0))) (eC (.int 4))))) (fApp 3 (eTup (aCons (e2 gAdd (eG bMaxL (aCons (e2 gAdd (eV 1) (eLst (aCons (e1 gNeg (eC (.int 1))) (aNil)))) (aNil))) (eC (.int 1))) (aCons (e1 gNeg (eC (.int 1))) (aNil))))) (fNx)) (fRet (eV 3))))))
def d__law_due_gaps : DF := mkD 1 6 b__law_due_gaps
def b_law_k45 : FS := fSeq (fSet 1 (eCall FN.d__law_draws 1 (aCons (eV 0) (aNil)))) (fSeq (fSetO 2 (eLst (aNil))) (fSeq (fFor (iRange1 (aCons (eCall FN.d__law_at 3 (aCons (eV 1) (aCons (eC (.int 0)) (aCons (eC (.int 11)) (aNil))))) (aNil))) (gN 3) (fSeq (fSet 4 (e2 gAdd (eC (.int 1)) (e2 gMul (eC (.int 4)) (eV 3)))) (fSeq (fSet 5 (e2 gIx (eLst (aCons (eC (.int 7)) (aCons (eC (.int 0)) (aCons (eC (.int 4294967295)) (aNil))))) (eCall FN.d__law_at 3 (aCons (eV 1) (aCons (eV 4) (aCons (eC (.int 3)) (aNil))))))) (fSeq (fSet 6 (e2 gIx (eLst (aCons (eC (.int 2)) (aCons (eC (.int 2)) (aCons (eC (.int 2)) (aCons (eC (.int 0)) (aCons (eC (.int 4)) (aCons (eC (.int 1)) (aCons (eC (.int 3)) (aNil))))))))) (eCall FN.d__law_at 3 (aCons (eV 1) (aCons (e2 gAdd (eV 4) (eC (.int 1))) (aCons (eC (.int 7)) (aNil))))))) (fSeq (fSet 7 (eTup (aCons (eV 6) (aCons (eV 5) (aCons (eCall FN.d__law_at 3 (aCons (eV 1) (aCons (e2 gAdd (eV 4) (eC (.int 2))) (aCons (eC (.int 8)) (aNil))))) (aCons (eC (.int 1)) (aCons (eV 3) (aCons (eV 3) (aCons (eC (.int 1)) (aCons (eC (.int 1)) (aCons (eLst (aCons (eCall FN.d__law_at 3 (aCons (eV 1) (aCons (e2 gAdd (eV 4) (eC (.int 3))) (aCons (eC (.int 256)) (aNil))))) (aNil))) (aNil)))))))))))) (fApp 2 (eTup (aCons (e2 gAdd (e2 gMul (eC (.int 10)) (eV 3)) (eC (.int 1))) (aCons (e2 gAdd (e2 gMul (eC (.int 10)) (eV 3)) (eC (.int 9))) (aCons (eV 7) (aNil))))))))))) (fSeq (fSet 8 (eLcO 2 [9, 10, 7] (stT [9, 10, 7]) (fun _ => some (.ok true)) (eTup (aCons (eV 9) (aCons (eV 10) (aCons (e2 gAddT (eSl (eV 7) (oNone) (oSome (eC (.int 8)))) (eTup (aCons (eG bList (aCons (e2 gIx (eV 7) (eC (.int 8))) (aNil))) (aNil)))) (aNil))))))) (fSeq (fSet 11 (eLcG [5] (st1 5) (iSeq (eLst (aCons (eC (.int 0)) (aCons (eC (.int 7)) (aCons (eC (.int 4294967295)) (aNil)))))) (tV (e2 gGtX (eG bLen (aCons (eLcG [9, 10, 7] (stT [9, 10, 7]) (iSeq (eV 8)) (tV (e2 gEq (e2 gIx (eV 7) (eC (.int 1))) (eV 5))) (eV 7)) (aNil))) (eC (.int 0)))) (eV 5))) (fSeq (fSet 12 (eCallL FN.d_stamps 1 (aCons (eV 2) (aNil)))) (fSeq (fIf (tOrD (tNotD (tV (e1 (gIsi "list") (eV 12)))) (tV (e2 gNe (eV 12) (eV 11)))) (fRet (eC (.bool false))) (fNx)) (fSeq (fFor (iSeq (eLst (aCons (eC (.int 7)) (aCons (eC (.int 0)) (aCons (eC (.int 4294967295)) (aCons (eC (.int 5)) (aNil))))))) (gN 5) (fShare 2 (fDeep 13 14 7 8 FN.t_roll 2 (aCons (eV 2) (aCons (eV 5) (aNil))) (tOrD (tNotD (tV (e1 (gIsi "list") (eV 13)))) (tV (e2 gNe (eV 13) (eCall FN.d__law_due_roll 2 (aCons (eV 8) (aCons (eV 5) (aNil))))))) (eCall FN.d_gaps 1 (aCons (eV 13) (aNil))) (tOrD (tNotD (tV (e1 (gIsi "list") (eV 14)))) (tV (e2 gNe (eV 14) (eCall FN.d__law_due_gaps 1 (aCons (eCall FN.d__law_due_roll 2 (aCons (eV 8) (aCons (eV 5) (aNil)))) (aNil)))))) (fIf (tOrD (tV (e2 gNe (eV 2) (eV 8))) (tV (e2 gNe (eCall FN.d_roll 2 (aCons (eV 2) (aCons (eV 5) (aNil)))) (eCall FN.d__law_due_roll 2 (aCons (eV 8) (aCons (eV 5) (aNil))))))) (fRet (eC (.bool false))) (fNx))))) (fRet (eAndV (e2 gEq (eCall FN.d_stamps 1 (aCons (eV 2) (aNil))) (eV 11)) (e2 gEq (eV 2) (eV 8)))))))))))
def d_law_k45 : DF := mkD 1 15 b_law_k45
end
end FN
set_option Elab.async false
set_option linter.all false
set_option maxRecDepth 100000
set_option maxHeartbeats 4000000
namespace K45
open PySem PySem.Spec PyProof.Rows L2 DL

def topS (i : Nat) : Stmt := PySem.Challenge.pw_spoolbox_k45_rolls_and_gaps.main.body.getD i (.Pass ⟨0, 0, 0, 0⟩)
abbrev s__law_draws : Stmt := topS 7
theorem sc__law_draws : FnScope ["script", "draws", "k", "rest", "turn", "mixed"] ["script"] (defScope s__law_draws) := ⟨rfl, rfl, rfl, by decide +kernel, rfl, by decide +kernel, by decide +kernel⟩
abbrev s_stamps : Stmt := topS 2
theorem sc_stamps : FnScope ["finds", "_", "leaf"] ["finds"] (defScope s_stamps) := ⟨rfl, rfl, rfl, by decide +kernel, rfl, by decide +kernel, by decide +kernel⟩
abbrev s__law_at : Stmt := topS 8
theorem sc__law_at : FnScope ["draws", "k", "many"] ["draws", "k", "many"] (defScope s__law_at) := ⟨rfl, rfl, rfl, by decide +kernel, rfl, by decide +kernel, by decide +kernel⟩
abbrev s_own : Stmt := topS 4
theorem sc_own : FnScope ["leaf"] ["leaf"] (defScope s_own) := ⟨rfl, rfl, rfl, by decide +kernel, rfl, by decide +kernel, by decide +kernel⟩
abbrev s_roll : Stmt := topS 3
theorem sc_roll : FnScope ["finds", "stamp", "leaves", "_", "leaf", "number"] ["finds", "stamp"] (defScope s_roll) := ⟨rfl, rfl, rfl, by decide +kernel, rfl, by decide +kernel, by decide +kernel⟩
abbrev s_gaps : Stmt := topS 5
theorem sc_gaps : FnScope ["leaves", "pairs", "due", "leaf"] ["leaves"] (defScope s_gaps) := ⟨rfl, rfl, rfl, by decide +kernel, rfl, by decide +kernel, by decide +kernel⟩
abbrev s__law_due_roll : Stmt := topS 11
theorem sc__law_due_roll : FnScope ["finds", "stamp", "out", "number", "same", "start", "stop", "leaf"] ["finds", "stamp"] (defScope s__law_due_roll) := ⟨rfl, rfl, rfl, by decide +kernel, rfl, by decide +kernel, by decide +kernel⟩
abbrev s__law_due_gaps : Stmt := topS 10
theorem sc__law_due_gaps : FnScope ["leaves", "numbers", "leaf", "out", "first", "number"] ["leaves"] (defScope s__law_due_gaps) := ⟨rfl, rfl, rfl, by decide +kernel, rfl, by decide +kernel, by decide +kernel⟩
abbrev s_law : Stmt := topS 12
theorem sc_law : FnScope ["script", "draws", "finds", "k", "at", "stamp", "kind", "leaf", "kept", "start", "stop", "due", "told", "leaves", "missing"] ["script"] (defScope s_law) := ⟨rfl, rfl, rfl, by decide +kernel, rfl, by decide +kernel, by decide +kernel⟩
structure Txt (K : PySem.W.Frag) (mg : Str → Option Value) (Cl : Nat → Addr) where
  a__law_draws : Addr
  fd__law_draws : FuncData
  F__law_draws : Fun K "_law_draws" "_law_draws" s__law_draws a__law_draws fd__law_draws
  g__law_draws : mg "_law_draws" = some (.ref a__law_draws)
  b__law_draws : Binds K fd__law_draws ["script"] []
  a_stamps : Addr
  fd_stamps : FuncData
  F_stamps : Fun K "stamps" "stamps" s_stamps a_stamps fd_stamps
  g_stamps : mg "stamps" = some (.ref a_stamps)
  b_stamps : Binds K fd_stamps ["finds"] []
  a__law_at : Addr
  fd__law_at : FuncData
  F__law_at : Fun K "_law_at" "_law_at" s__law_at a__law_at fd__law_at
  g__law_at : mg "_law_at" = some (.ref a__law_at)
  b__law_at : Binds K fd__law_at ["draws", "k", "many"] []
  a_own : Addr
  fd_own : FuncData
  F_own : Fun K "own" "own" s_own a_own fd_own
  g_own : mg "own" = some (.ref a_own)
  b_own : Binds K fd_own ["leaf"] []
  a_roll : Addr
  fd_roll : FuncData
  F_roll : Fun K "roll" "roll" s_roll a_roll fd_roll
  g_roll : mg "roll" = some (.ref a_roll)
  b_roll : Binds K fd_roll ["finds", "stamp"] []
  a_gaps : Addr
  fd_gaps : FuncData
  F_gaps : Fun K "gaps" "gaps" s_gaps a_gaps fd_gaps
  g_gaps : mg "gaps" = some (.ref a_gaps)
  b_gaps : Binds K fd_gaps ["leaves"] []
  a__law_due_roll : Addr
  fd__law_due_roll : FuncData
  F__law_due_roll : Fun K "_law_due_roll" "_law_due_roll" s__law_due_roll a__law_due_roll fd__law_due_roll
  g__law_due_roll : mg "_law_due_roll" = some (.ref a__law_due_roll)
  b__law_due_roll : Binds K fd__law_due_roll ["finds", "stamp"] []
  a__law_due_gaps : Addr
  fd__law_due_gaps : FuncData
  F__law_due_gaps : Fun K "_law_due_gaps" "_law_due_gaps" s__law_due_gaps a__law_due_gaps fd__law_due_gaps
  g__law_due_gaps : mg "_law_due_gaps" = some (.ref a__law_due_gaps)
  b__law_due_gaps : Binds K fd__law_due_gaps ["leaves"] []
  a_law : Addr
  fd_law : FuncData
  F_law : Fun K "law" "law" s_law a_law fd_law
  g_law : mg "law" = some (.ref a_law)
  b_law : Binds K fd_law ["script"] []
  z_range : mg "range" = none
  z_min : mg "min" = none
  z_len : mg "len" = none
  z_abs : mg "abs" = none
  z_int : mg "int" = none
  z_sorted : mg "sorted" = none
  z_set : mg "set" = none
  z_list : mg "list" = none
  z_max : mg "max" = none
  z_isinstance : mg "isinstance" = none
  t_END : Tok
  g_END : mg "END" = some (.int 4 t_END)
section
variable {P : Program} {w : World} {K : PySem.W.Frag} {mg : Str → Option Value} {base : Heap} {Cl : Nat → Addr}
theorem ok__law_draws (T : Txt K mg Cl) : FnOk P w K mg base (L2.CX P w) 1 T.a__law_draws T.fd__law_draws ["script"] (spD K Cl 1 FN.d__law_draws) := by
  refine def_ok (k := 0) T.F__law_draws sc__law_draws rfl rfl fun cdv A outer s H E hr => ?_
  have tk := takes_of (X := cxOf (L2.CX P w) P w K mg base ["script", "draws", "k", "rest", "turn", "mixed"] "_law_draws" (defScope s__law_draws) T.a__law_draws cdv A outer s H E) rfl rfl rfl rfl
  have hp : PassesOwn (model P w) (cxOf (L2.CX P w) P w K mg base ["script", "draws", "k", "rest", "turn", "mixed"] "_law_draws" (defScope s__law_draws) T.a__law_draws cdv A outer s H E).A (cxOf (L2.CX P w) P w K mg base ["script", "draws", "k", "rest", "turn", "mixed"] "_law_draws" (defScope s__law_draws) T.a__law_draws cdv A outer s H E).env (cxOf (L2.CX P w) P w K mg base ["script", "draws", "k", "rest", "turn", "mixed"] "_law_draws" (defScope s__law_draws) T.a__law_draws cdv A outer s H E).xe := PassesOwn.leaving
  exact ds_cons (ds_setO (i := 1) sc__law_draws.nd (de_lst (da_nil))) (ds_cons (ds_for hp rfl (di_range1 T.z_range (da_cons (de_callB (call_min2 rfl) cr_min2 T.z_min (by decide +kernel) (da_cons (de_int) (da_cons (de_callB call_len cr_len T.z_len PySem.boot_len (da_cons (de_var (pv 0)) (da_nil))) (da_nil)))) (da_nil))) (dg_name (i := 2) sc__law_draws.nd) (ds_cons (ds_set (i := 3) sc__law_draws.nd (de_callB call_abs cr_abs T.z_abs (by decide +kernel) (da_cons (de_ix (de_var (pv 0)) (de_var (pv 2))) (da_nil)))) (ds_one (ds_if (dt_cmp op_geX r2_geX (de_var (pv 3)) (de_pow (de_int) (de_int)) (nomark _)) (ds_one (ds_for hp rfl (di_range1 T.z_range (da_cons (de_int) (da_nil))) (dg_name (i := 4) sc__law_draws.nd) (ds_one (ds_if (dt_cmp op_gtX r2_gtX (de_var (pv 3)) (de_int) (nomark _)) (ds_cons (ds_app (i := 1) (pe_bm PySem.F.plainAttrs_list PySem.F.slot_list_append PySem.F.type_list_append mt_append (pv 1) (pa_cons (de_mod (de_callTy call_int1 cr_int T.z_int (by decide +kernel) (da_cons (de_var (pv 3)) (da_nil))) (de_int)) pa_nil))) (ds_one (ds_set (i := 3) sc__law_draws.nd (de_div (de_var (pv 3)) (de_int))))) (ds_nil))))) (ds_cons (ds_set (i := 5) sc__law_draws.nd (de_mod (de_callTy call_int1 cr_int T.z_int (by decide +kernel) (da_cons (de_add (de_mul (de_var (pv 3)) (de_int)) (de_mul (de_add (de_var (pv 2)) (de_int)) (de_int))) (da_nil))) (de_int))) (ds_cons (ds_set (i := 5) sc__law_draws.nd (de_mod (de_callTy call_int1 cr_int T.z_int (by decide +kernel) (da_cons (de_add (de_add (de_mul (de_var (pv 5)) (de_int)) (de_mul (de_int) (de_var (pv 2)))) (de_int)) (da_nil))) (de_int))) (ds_cons (ds_app (i := 1) (pe_bm PySem.F.plainAttrs_list PySem.F.slot_list_append PySem.F.type_list_append mt_append (pv 1) (pa_cons (de_mod (de_callTy call_int1 cr_int T.z_int (by decide +kernel) (da_cons (de_var (pv 5)) (da_nil))) (de_int)) pa_nil))) (ds_one (ds_app (i := 1) (pe_bm PySem.F.plainAttrs_list PySem.F.slot_list_append PySem.F.type_list_append mt_append (pv 1) (pa_cons (de_mod (de_callTy call_int1 cr_int T.z_int (by decide +kernel) (da_cons (de_div (de_var (pv 5)) (de_int)) (da_nil))) (de_int)) pa_nil))))))))))) (ds_one (ds_ret (de_var (pv 1)))))
theorem ok_stamps (T : Txt K mg Cl) : FnOk P w K mg base (L2.CX P w) 1 T.a_stamps T.fd_stamps ["finds"] (spD K Cl 1 FN.d_stamps) := by
  refine def_ok (k := 0) T.F_stamps sc_stamps rfl rfl fun cdv A outer s H E hr => ?_
  have tk := takes_of (X := cxOf (L2.CX P w) P w K mg base ["finds", "_", "leaf"] "stamps" (defScope s_stamps) T.a_stamps cdv A outer s H E) rfl rfl rfl rfl
  have hp : PassesOwn (model P w) (cxOf (L2.CX P w) P w K mg base ["finds", "_", "leaf"] "stamps" (defScope s_stamps) T.a_stamps cdv A outer s H E).A (cxOf (L2.CX P w) P w K mg base ["finds", "_", "leaf"] "stamps" (defScope s_stamps) T.a_stamps cdv A outer s H E).env (cxOf (L2.CX P w) P w K mg base ["finds", "_", "leaf"] "stamps" (defScope s_stamps) T.a_stamps cdv A outer s H E).xe := PassesOwn.leaving
  exact ds_one (ds_ret (de_sortSet rfl T.z_set T.z_sorted (de_lc (own := [("_", 1), ("_", 1), ("leaf", 2)]) (tg := .Tuple _ _ _) rfl sc_stamps.nd (lctT (is := [1, 1, 2]) (by decide)) (di_seq (de_var (pv 0))) (blkOk_by (own := [("_", 1), ("_", 1), ("leaf", 2)]) (N := ["finds", "_", "leaf"]) (sc := defScope s_stamps) (by decide +kernel)) (fun _ _ _ _ _ => pg_tup rfl (pgs_cons (pg_name (i := 1) sc_stamps.nd rfl (by first | exact Or.inl rfl | exact Or.inr rfl)) (pgs_cons (pg_name (i := 1) sc_stamps.nd rfl (by first | exact Or.inl rfl | exact Or.inr rfl)) (pgs_cons (pg_name (i := 2) sc_stamps.nd rfl (by first | exact Or.inl rfl | exact Or.inr rfl)) (pgs_nil))))) (fun _ _ _ _ _ => dts_nil) (fun _ _ _ _ _ => de_ix (de_var (pv 2)) (de_int)))))
theorem ok__law_at (T : Txt K mg Cl) : FnOk P w K mg base (L2.CX P w) 1 T.a__law_at T.fd__law_at ["draws", "k", "many"] (spD K Cl 3 FN.d__law_at) := by
  refine def_ok (k := 0) T.F__law_at sc__law_at rfl rfl fun cdv A outer s H E hr => ?_
  have tk := takes_of (X := cxOf (L2.CX P w) P w K mg base ["draws", "k", "many"] "_law_at" (defScope s__law_at) T.a__law_at cdv A outer s H E) rfl rfl rfl rfl
  have hp : PassesOwn (model P w) (cxOf (L2.CX P w) P w K mg base ["draws", "k", "many"] "_law_at" (defScope s__law_at) T.a__law_at cdv A outer s H E).A (cxOf (L2.CX P w) P w K mg base ["draws", "k", "many"] "_law_at" (defScope s__law_at) T.a__law_at cdv A outer s H E).env (cxOf (L2.CX P w) P w K mg base ["draws", "k", "many"] "_law_at" (defScope s__law_at) T.a__law_at cdv A outer s H E).xe := PassesOwn.leaving
  exact ds_cons (ds_if (dt_cmp op_ltX r2_ltX (de_var (pv 1)) (de_callB call_len cr_len T.z_len PySem.boot_len (da_cons (de_var (pv 0)) (da_nil))) (nomark _)) (ds_one (ds_ret (de_mod (de_callTy call_int1 cr_int T.z_int (by decide +kernel) (da_cons (de_ix (de_var (pv 0)) (de_var (pv 1))) (da_nil))) (de_var (pv 2))))) (ds_nil)) (ds_one (ds_ret (de_int)))
theorem okY_own (T : Txt K mg Cl) : FnOk P w K mg base (L2.CX P w) 1 T.a_own T.fd_own ["leaf"] (spY K Cl 8 1 FN.t_own) := by
  refine def_okY (k := 0) T.F_own sc_own rfl rfl fun cdv A outer s H E hr => ?_
  have tk := takes_of (X := cxOf (L2.CX P w) P w K mg base ["leaf"] "own" (defScope s_own) T.a_own cdv A outer s H E) rfl rfl rfl rfl
  have hp : PassesOwn (model P w) (cxOf (L2.CX P w) P w K mg base ["leaf"] "own" (defScope s_own) T.a_own cdv A outer s H E).A (cxOf (L2.CX P w) P w K mg base ["leaf"] "own" (defScope s_own) T.a_own cdv A outer s H E).env (cxOf (L2.CX P w) P w K mg base ["leaf"] "own" (defScope s_own) T.a_own cdv A outer s H E).xe := PassesOwn.leaving
  exact py_own (W := fun cls d _ H2 => E cls d H2) (kx := 8) (de_sl (de_var (pv 0)) (do_none) (do_some (de_int))) (de_callTy call_list_of cr_list T.z_list (by decide +kernel) (da_cons (de_ix (de_var (pv 0)) (de_int)) (da_nil)))
theorem okX_roll (T : Txt K mg Cl) : FnOk P w K mg base (L2.CX P w) 2 T.a_roll T.fd_roll ["finds", "stamp"] (spX K Cl 8 2 FN.t_roll) := by
  have GY_own := okY_own (P := P) (w := w) (base := base) T
  refine def_okX (k := 1) T.F_roll sc_roll rfl rfl fun cdv A outer s H E hr => ?_
  have tk := takes_of (X := cxOf (L2.CX P w) P w K mg base ["finds", "stamp", "leaves", "_", "leaf", "number"] "roll" (defScope s_roll) T.a_roll cdv A outer s H E) rfl rfl rfl rfl
  have hp : PassesOwn (model P w) (cxOf (L2.CX P w) P w K mg base ["finds", "stamp", "leaves", "_", "leaf", "number"] "roll" (defScope s_roll) T.a_roll cdv A outer s H E).A (cxOf (L2.CX P w) P w K mg base ["finds", "stamp", "leaves", "_", "leaf", "number"] "roll" (defScope s_roll) T.a_roll cdv A outer s H E).env (cxOf (L2.CX P w) P w K mg base ["finds", "stamp", "leaves", "_", "leaf", "number"] "roll" (defScope s_roll) T.a_roll cdv A outer s H E).xe := PassesOwn.leaving
  exact px_roll (W := fun cls d _ H2 => E cls d H2) (i := 2) (nn := 5) (kx := 8) rfl sc_roll.nd hp (hu_of hr) GY_own tk (hr.mono (by decide)) T.g_own T.F_own.kp T.b_own T.z_sorted (di_seq (de_var (pv 0))) (dg_tup rfl (dgs_cons (i := 3) sc_roll.nd (dgs_cons (i := 3) sc_roll.nd (dgs_cons (i := 4) sc_roll.nd (dgs_nil))))) (dt_cmp (op_eqD hr.units) r2_eq (de_ix (de_var (pv 4)) (de_int)) (de_var (pv 1)) (nomark _)) (de_ix (de_var (pv 4)) (de_int)) (de_ix (de_var (pv 4)) (de_int)) (da_cons (de_var (pv 4)) (da_nil)) (fun p => pv 2) (blkOk_by (own := [("number", 5)]) (N := ["finds", "stamp", "leaves", "_", "leaf", "number"]) (sc := defScope s_roll) (by decide +kernel)) (fun _ _ _ _ _ => pg_name (i := 5) sc_roll.nd rfl (by first | exact Or.inl rfl | exact Or.inr rfl)) (fun _ _ _ _ _ => pe_dget (hu_of hr) (pv 2) (pv 5) (fun _ _ => rfl))
theorem ok_roll (T : Txt K mg Cl) : FnOk P w K mg base (L2.CX P w) 2 T.a_roll T.fd_roll ["finds", "stamp"] (spD K Cl 2 FN.d_roll) := (okX_roll T).imp fun vs H Q E h => spX_of h
theorem ok_gaps (T : Txt K mg Cl) : FnOk P w K mg base (L2.CX P w) 1 T.a_gaps T.fd_gaps ["leaves"] (spD K Cl 1 FN.d_gaps) := by
  refine def_ok (k := 0) T.F_gaps sc_gaps rfl rfl fun cdv A outer s H E hr => ?_
  have tk := takes_of (X := cxOf (L2.CX P w) P w K mg base ["leaves", "pairs", "due", "leaf"] "gaps" (defScope s_gaps) T.a_gaps cdv A outer s H E) rfl rfl rfl rfl
  have hp : PassesOwn (model P w) (cxOf (L2.CX P w) P w K mg base ["leaves", "pairs", "due", "leaf"] "gaps" (defScope s_gaps) T.a_gaps cdv A outer s H E).A (cxOf (L2.CX P w) P w K mg base ["leaves", "pairs", "due", "leaf"] "gaps" (defScope s_gaps) T.a_gaps cdv A outer s H E).env (cxOf (L2.CX P w) P w K mg base ["leaves", "pairs", "due", "leaf"] "gaps" (defScope s_gaps) T.a_gaps cdv A outer s H E).xe := PassesOwn.leaving
  exact ds_cons (ds_setO (i := 1) sc_gaps.nd (de_lst (da_nil))) (ds_cons (ds_set (i := 2) sc_gaps.nd (de_int)) (ds_cons (ds_for hp rfl (di_seq (de_var (pv 0))) (dg_name (i := 3) sc_gaps.nd) (ds_cons (ds_if (dt_cmp op_gtX r2_gtX (de_ix (de_var (pv 3)) (de_int)) (de_var (pv 2)) (nomark _)) (ds_one (ds_app (i := 1) (pe_bm PySem.F.plainAttrs_list PySem.F.slot_list_append PySem.F.type_list_append mt_append (pv 1) (pa_cons (de_tup (da_cons (de_var (pv 2)) (da_cons (de_ix (de_var (pv 3)) (de_int)) (da_nil)))) pa_nil)))) (ds_nil)) (ds_one (ds_set (i := 2) sc_gaps.nd (de_add (de_ix (de_var (pv 3)) (de_int)) (de_int)))))) (ds_cons (ds_if (dt_w (dw_and (dt_cmp op_gtX r2_gtX (de_callB call_len cr_len T.z_len PySem.boot_len (da_cons (de_var (pv 0)) (da_nil))) (de_int) (nomark _)) (dw_and1 (dt_cmp (op_neD hr.units) r2_ne (de_ix (de_ix (de_var (pv 0)) (de_neg (de_int))) (de_int)) (de_globI T.g_END) (nomark _))))) (ds_one (ds_app (i := 1) (pe_bm PySem.F.plainAttrs_list PySem.F.slot_list_append PySem.F.type_list_append mt_append (pv 1) (pa_cons (de_tup (da_cons (de_var (pv 2)) (da_cons (de_neg (de_int)) (da_nil)))) pa_nil)))) (ds_nil)) (ds_one (ds_ret (de_var (pv 1)))))))
theorem ok__law_due_roll (T : Txt K mg Cl) : FnOk P w K mg base (L2.CX P w) 1 T.a__law_due_roll T.fd__law_due_roll ["finds", "stamp"] (spD K Cl 2 FN.d__law_due_roll) := by
  refine def_ok (k := 0) T.F__law_due_roll sc__law_due_roll rfl rfl fun cdv A outer s H E hr => ?_
  have tk := takes_of (X := cxOf (L2.CX P w) P w K mg base ["finds", "stamp", "out", "number", "same", "start", "stop", "leaf"] "_law_due_roll" (defScope s__law_due_roll) T.a__law_due_roll cdv A outer s H E) rfl rfl rfl rfl
  have hp : PassesOwn (model P w) (cxOf (L2.CX P w) P w K mg base ["finds", "stamp", "out", "number", "same", "start", "stop", "leaf"] "_law_due_roll" (defScope s__law_due_roll) T.a__law_due_roll cdv A outer s H E).A (cxOf (L2.CX P w) P w K mg base ["finds", "stamp", "out", "number", "same", "start", "stop", "leaf"] "_law_due_roll" (defScope s__law_due_roll) T.a__law_due_roll cdv A outer s H E).env (cxOf (L2.CX P w) P w K mg base ["finds", "stamp", "out", "number", "same", "start", "stop", "leaf"] "_law_due_roll" (defScope s__law_due_roll) T.a__law_due_roll cdv A outer s H E).xe := PassesOwn.leaving
  exact ds_cons (ds_set (i := 2) sc__law_due_roll.nd (de_lst (da_nil))) (ds_cons (ds_for hp rfl (di_range1 T.z_range (da_cons (de_int) (da_nil))) (dg_name (i := 3) sc__law_due_roll.nd) (ds_cons (ds_setLc (i := 4) (own := [("start", 5), ("stop", 6), ("leaf", 7)]) (tg := .Tuple _ _ _) rfl sc__law_due_roll.nd (lctT (is := [5, 6, 7]) (by decide)) (di_seq (de_var (pv 0))) (blkOk_by (own := [("start", 5), ("stop", 6), ("leaf", 7)]) (N := ["finds", "stamp", "out", "number", "same", "start", "stop", "leaf"]) (sc := defScope s__law_due_roll) (by decide +kernel)) (fun _ _ _ _ _ => pg_tup rfl (pgs_cons (pg_name (i := 5) sc__law_due_roll.nd rfl (by first | exact Or.inl rfl | exact Or.inr rfl)) (pgs_cons (pg_name (i := 6) sc__law_due_roll.nd rfl (by first | exact Or.inl rfl | exact Or.inr rfl)) (pgs_cons (pg_name (i := 7) sc__law_due_roll.nd rfl (by first | exact Or.inl rfl | exact Or.inr rfl)) (pgs_nil))))) (fun _ _ _ _ _ => dts_one (dt_w (dw_and (dt_cmp (op_eqD hr.units) r2_eq (de_ix (de_var (pv 7)) (de_int)) (de_var (pv 1)) (nomark _)) (dw_and1 (dt_cmp (op_eqD hr.units) r2_eq (de_ix (de_var (pv 7)) (de_int)) (de_var (pv 3)) (nomark _)))))) (fun _ _ _ _ _ => de_var (pv 7)) (sw_true rfl rfl rfl (by decide +kernel))) (ds_one (ds_set (i := 2) sc__law_due_roll.nd (de_add (de_var (pv 2)) (de_sl (de_var (pv 4)) (do_none) (do_some (de_int)))))))) (ds_one (ds_ret (de_var (pv 2)))))
theorem ok__law_due_gaps (T : Txt K mg Cl) : FnOk P w K mg base (L2.CX P w) 1 T.a__law_due_gaps T.fd__law_due_gaps ["leaves"] (spD K Cl 1 FN.d__law_due_gaps) := by
  refine def_ok (k := 0) T.F__law_due_gaps sc__law_due_gaps rfl rfl fun cdv A outer s H E hr => ?_
  have tk := takes_of (X := cxOf (L2.CX P w) P w K mg base ["leaves", "numbers", "leaf", "out", "first", "number"] "_law_due_gaps" (defScope s__law_due_gaps) T.a__law_due_gaps cdv A outer s H E) rfl rfl rfl rfl
  have hp : PassesOwn (model P w) (cxOf (L2.CX P w) P w K mg base ["leaves", "numbers", "leaf", "out", "first", "number"] "_law_due_gaps" (defScope s__law_due_gaps) T.a__law_due_gaps cdv A outer s H E).A (cxOf (L2.CX P w) P w K mg base ["leaves", "numbers", "leaf", "out", "first", "number"] "_law_due_gaps" (defScope s__law_due_gaps) T.a__law_due_gaps cdv A outer s H E).env (cxOf (L2.CX P w) P w K mg base ["leaves", "numbers", "leaf", "out", "first", "number"] "_law_due_gaps" (defScope s__law_due_gaps) T.a__law_due_gaps cdv A outer s H E).xe := PassesOwn.leaving
  exact ds_cons (ds_setLc (i := 1) (own := [("leaf", 2)]) (tg := .Name _ _) rfl sc__law_due_gaps.nd lct1 (di_seq (de_var (pv 0))) (blkOk_by (own := [("leaf", 2)]) (N := ["leaves", "numbers", "leaf", "out", "first", "number"]) (sc := defScope s__law_due_gaps) (by decide +kernel)) (fun _ _ _ _ _ => pg_name (i := 2) sc__law_due_gaps.nd rfl (by first | exact Or.inl rfl | exact Or.inr rfl)) (fun _ _ _ _ _ => dts_nil) (fun _ _ _ _ _ => de_ix (de_var (pv 2)) (de_int)) (sw_true rfl rfl rfl (by decide +kernel))) (ds_cons (ds_setO (i := 3) sc__law_due_gaps.nd (de_lst (da_nil))) (ds_cons (ds_set (i := 4) sc__law_due_gaps.nd (de_non)) (ds_cons (ds_for hp rfl (di_range1 T.z_range (da_cons (de_add (de_callB (cr_max rfl) cr_maxL T.z_max (by decide +kernel) (da_cons (de_add (de_var (pv 1)) (de_lst (da_cons (de_neg (de_int)) (da_nil)))) (da_nil))) (de_int)) (da_nil))) (dg_name (i := 5) sc__law_due_gaps.nd) (ds_cons (ds_if (dt_w (dw_and (dt_cmp op_notIn_seq r2_in (de_var (pv 5)) (de_var (pv 1)) (by rfl)) (dw_and1 (dt_cmp op_isN r2_isN (de_var (pv 4)) (de_non) (nomark _))))) (ds_one (ds_set (i := 4) sc__law_due_gaps.nd (de_var (pv 5)))) (ds_nil)) (ds_one (ds_if (dt_w (dw_and (dt_cmp op_in_seq r2_in (de_var (pv 5)) (de_var (pv 1)) (by rfl)) (dw_and1 (dt_cmp op_notN r2_notN (de_var (pv 4)) (de_non) (nomark _))))) (ds_cons (ds_app (i := 3) (pe_bm PySem.F.plainAttrs_list PySem.F.slot_list_append PySem.F.type_list_append mt_append (pv 3) (pa_cons (de_tup (da_cons (de_var (pv 4)) (da_cons (de_var (pv 5)) (da_nil)))) pa_nil))) (ds_one (ds_set (i := 4) sc__law_due_gaps.nd (de_non)))) (ds_nil))))) (ds_cons (ds_if (dt_w (dw_and (dt_cmp op_gtX r2_gtX (de_callB call_len cr_len T.z_len PySem.boot_len (da_cons (de_var (pv 0)) (da_nil))) (de_int) (nomark _)) (dw_and1 (dt_cmp (op_neD hr.units) r2_ne (de_ix (de_ix (de_var (pv 0)) (de_neg (de_int))) (de_int)) (de_int) (nomark _))))) (ds_one (ds_app (i := 3) (pe_bm PySem.F.plainAttrs_list PySem.F.slot_list_append PySem.F.type_list_append mt_append (pv 3) (pa_cons (de_tup (da_cons (de_add (de_callB (cr_max rfl) cr_maxL T.z_max (by decide +kernel) (da_cons (de_add (de_var (pv 1)) (de_lst (da_cons (de_neg (de_int)) (da_nil)))) (da_nil))) (de_int)) (da_cons (de_neg (de_int)) (da_nil)))) pa_nil)))) (ds_nil)) (ds_one (ds_ret (de_var (pv 3))))))))
theorem ok_law (T : Txt K mg Cl) : FnOk P w K mg base (L2.CX P w) 3 T.a_law T.fd_law ["script"] (spD K Cl 1 FN.d_law_k45) := by
  have GX_roll := okX_roll (P := P) (w := w) (base := base) T
  have G__law_draws := ok__law_draws (P := P) (w := w) (base := base) T
  have G__law_at := ok__law_at (P := P) (w := w) (base := base) T
  have G_stamps := ok_stamps (P := P) (w := w) (base := base) T
  have G__law_due_roll := ok__law_due_roll (P := P) (w := w) (base := base) T
  have G_gaps := ok_gaps (P := P) (w := w) (base := base) T
  have G__law_due_gaps := ok__law_due_gaps (P := P) (w := w) (base := base) T
  have G_roll := ok_roll (P := P) (w := w) (base := base) T
  refine def_ok (k := 2) T.F_law sc_law rfl rfl fun cdv A outer s H E hr => ?_
  have tk := takes_of (X := cxOf (L2.CX P w) P w K mg base ["script", "draws", "finds", "k", "at", "stamp", "kind", "leaf", "kept", "start", "stop", "due", "told", "leaves", "missing"] "law" (defScope s_law) T.a_law cdv A outer s H E) rfl rfl rfl rfl
  have hp : PassesOwn (model P w) (cxOf (L2.CX P w) P w K mg base ["script", "draws", "finds", "k", "at", "stamp", "kind", "leaf", "kept", "start", "stop", "due", "told", "leaves", "missing"] "law" (defScope s_law) T.a_law cdv A outer s H E).A (cxOf (L2.CX P w) P w K mg base ["script", "draws", "finds", "k", "at", "stamp", "kind", "leaf", "kept", "start", "stop", "due", "told", "leaves", "missing"] "law" (defScope s_law) T.a_law cdv A outer s H E).env (cxOf (L2.CX P w) P w K mg base ["script", "draws", "finds", "k", "at", "stamp", "kind", "leaf", "kept", "start", "stop", "due", "told", "leaves", "missing"] "law" (defScope s_law) T.a_law cdv A outer s H E).xe := PassesOwn.leaving
  exact ds_cons (ds_set (i := 1) sc_law.nd (de_call G__law_draws tk (hr.mono (by decide)) T.g__law_draws T.F__law_draws.kp T.b__law_draws (da_cons (de_var (pv 0)) (da_nil)))) (ds_cons (ds_setO (i := 2) sc_law.nd (de_lst (da_nil))) (ds_cons (ds_for hp rfl (di_range1 T.z_range (da_cons (de_call G__law_at tk (hr.mono (by decide)) T.g__law_at T.F__law_at.kp T.b__law_at (da_cons (de_var (pv 1)) (da_cons (de_int) (da_cons (de_int) (da_nil))))) (da_nil))) (dg_name (i := 3) sc_law.nd) (ds_cons (ds_set (i := 4) sc_law.nd (de_add (de_int) (de_mul (de_int) (de_var (pv 3))))) (ds_cons (ds_set (i := 5) sc_law.nd (de_ix (de_lst (da_cons (de_int) (da_cons (de_int) (da_cons (de_int) (da_nil))))) (de_call G__law_at tk (hr.mono (by decide)) T.g__law_at T.F__law_at.kp T.b__law_at (da_cons (de_var (pv 1)) (da_cons (de_var (pv 4)) (da_cons (de_int) (da_nil))))))) (ds_cons (ds_set (i := 6) sc_law.nd (de_ix (de_lst (da_cons (de_int) (da_cons (de_int) (da_cons (de_int) (da_cons (de_int) (da_cons (de_int) (da_cons (de_int) (da_cons (de_int) (da_nil))))))))) (de_call G__law_at tk (hr.mono (by decide)) T.g__law_at T.F__law_at.kp T.b__law_at (da_cons (de_var (pv 1)) (da_cons (de_add (de_var (pv 4)) (de_int)) (da_cons (de_int) (da_nil))))))) (ds_cons (ds_set (i := 7) sc_law.nd (de_tup (da_cons (de_var (pv 6)) (da_cons (de_var (pv 5)) (da_cons (de_call G__law_at tk (hr.mono (by decide)) T.g__law_at T.F__law_at.kp T.b__law_at (da_cons (de_var (pv 1)) (da_cons (de_add (de_var (pv 4)) (de_int)) (da_cons (de_int) (da_nil))))) (da_cons (de_int) (da_cons (de_var (pv 3)) (da_cons (de_var (pv 3)) (da_cons (de_int) (da_cons (de_int) (da_cons (de_lst (da_cons (de_call G__law_at tk (hr.mono (by decide)) T.g__law_at T.F__law_at.kp T.b__law_at (da_cons (de_var (pv 1)) (da_cons (de_add (de_var (pv 4)) (de_int)) (da_cons (de_int) (da_nil))))) (da_nil))) (da_nil)))))))))))) (ds_one (ds_app (i := 2) (pe_bm PySem.F.plainAttrs_list PySem.F.slot_list_append PySem.F.type_list_append mt_append (pv 2) (pa_cons (de_tup (da_cons (de_add (de_mul (de_int) (de_var (pv 3))) (de_int)) (da_cons (de_add (de_mul (de_int) (de_var (pv 3))) (de_int)) (da_cons (de_var (pv 7)) (da_nil))))) pa_nil))))))))) (ds_cons (ds_set (i := 8) sc_law.nd (de_lcO (own := [("start", 9), ("stop", 10), ("leaf", 7)]) (tg := .Tuple _ _ _) rfl sc_law.nd (lctT (is := [9, 10, 7]) (by decide)) (de_var (pv 2)) (blkOk_by (own := [("start", 9), ("stop", 10), ("leaf", 7)]) (N := ["script", "draws", "finds", "k", "at", "stamp", "kind", "leaf", "kept", "start", "stop", "due", "told", "leaves", "missing"]) (sc := defScope s_law) (by decide +kernel)) (fun _ _ _ _ _ => pg_tup rfl (pgs_cons (pg_name (i := 9) sc_law.nd rfl (by first | exact Or.inl rfl | exact Or.inr rfl)) (pgs_cons (pg_name (i := 10) sc_law.nd rfl (by first | exact Or.inl rfl | exact Or.inr rfl)) (pgs_cons (pg_name (i := 7) sc_law.nd rfl (by first | exact Or.inl rfl | exact Or.inr rfl)) (pgs_nil))))) (fun _ _ _ _ _ => dts_nil) (fun _ _ _ _ _ => de_tup (da_cons (de_var (pv 9)) (da_cons (de_var (pv 10)) (da_cons (de_addT (de_sl (de_var (pv 7)) (do_none) (do_some (de_int))) (de_tup (da_cons (de_callTy call_list_of cr_list T.z_list (by decide +kernel) (da_cons (de_ix (de_var (pv 7)) (de_int)) (da_nil))) (da_nil)))) (da_nil))))))) (ds_cons (ds_setLc (i := 11) (own := [("stamp", 5)]) (tg := .Name _ _) rfl sc_law.nd lct1 (di_seq (de_lst (da_cons (de_int) (da_cons (de_int) (da_cons (de_int) (da_nil)))))) (blkOk_by (own := [("stamp", 5)]) (N := ["script", "draws", "finds", "k", "at", "stamp", "kind", "leaf", "kept", "start", "stop", "due", "told", "leaves", "missing"]) (sc := defScope s_law) (by decide +kernel)) (fun _ _ _ _ _ => pg_name (i := 5) sc_law.nd rfl (by first | exact Or.inl rfl | exact Or.inr rfl)) (fun _ _ _ _ _ => dts_one (dt_cmp op_gtX r2_gtX (de_callB call_len cr_len T.z_len PySem.boot_len (da_cons (de_lc (own := [("start", 9), ("stop", 10), ("leaf", 7)]) (tg := .Tuple _ _ _) rfl sc_law.nd (lctT (is := [9, 10, 7]) (by decide)) (di_seq (de_var (pv 8))) (blkOk_by (own := [("start", 9), ("stop", 10), ("leaf", 7)]) (N := ["script", "draws", "finds", "k", "at", "stamp", "kind", "leaf", "kept", "start", "stop", "due", "told", "leaves", "missing"]) (by rfl)) (fun _ _ _ _ _ => pg_tup rfl (pgs_cons (pg_name (i := 9) sc_law.nd rfl (by first | exact Or.inl rfl | exact Or.inr rfl)) (pgs_cons (pg_name (i := 10) sc_law.nd rfl (by first | exact Or.inl rfl | exact Or.inr rfl)) (pgs_cons (pg_name (i := 7) sc_law.nd rfl (by first | exact Or.inl rfl | exact Or.inr rfl)) (pgs_nil))))) (fun _ _ _ _ _ => dts_one (dt_cmp (op_eqD hr.units) r2_eq (de_ix (de_var (pv 7)) (de_int)) (de_var (pv 5)) (nomark _))) (fun _ _ _ _ _ => de_var (pv 7))) (da_nil))) (de_int) (nomark _))) (fun _ _ _ _ _ => de_var (pv 5)) (sw_true rfl rfl rfl (by decide +kernel))) (ds_cons (ds_set (i := 12) sc_law.nd (de_callL G_stamps tk (hr.mono (by decide)) T.g_stamps T.F_stamps.kp T.b_stamps (da_cons (de_var (pv 2)) (da_nil)))) (ds_cons (ds_if (dt_w (dw_or (dt_not (dt_val (de_isi rfl T.z_isinstance T.z_list (by decide +kernel) (by decide) (de_var (pv 12))))) (dw_or1 (dt_cmp (op_neD hr.units) r2_ne (de_var (pv 12)) (de_var (pv 11)) (nomark _))))) (ds_one (ds_ret (de_bl))) (ds_nil)) (ds_cons (ds_for hp rfl (di_seq (de_lst (da_cons (de_int) (da_cons (de_int) (da_cons (de_int) (da_cons (de_int) (da_nil))))))) (dg_name (i := 5) sc_law.nd) (dss_share (i := 2) (dss_deep (i := 13) (j := 14) (k := 7) (kx := 8) rfl sc_law.nd hp GX_roll tk (hr.mono (by decide)) T.g_roll T.F_roll.kp T.b_roll (da_cons (de_var (pv 2)) (da_cons (de_var (pv 5)) (da_nil))) (dt_w (dw_or (dt_not (dt_val (de_isi rfl T.z_isinstance T.z_list (by decide +kernel) (by decide) (de_var (pv 13))))) (dw_or1 (dt_cmp (op_neD hr.units) r2_ne (de_var (pv 13)) (de_call G__law_due_roll tk (hr.mono (by decide)) T.g__law_due_roll T.F__law_due_roll.kp T.b__law_due_roll (da_cons (de_var (pv 8)) (da_cons (de_var (pv 5)) (da_nil)))) (nomark _))))) (de_call G_gaps tk (hr.mono (by decide)) T.g_gaps T.F_gaps.kp T.b_gaps (da_cons (de_var (pv 13)) (da_nil))) (dt_w (dw_or (dt_not (dt_val (de_isi rfl T.z_isinstance T.z_list (by decide +kernel) (by decide) (de_var (pv 14))))) (dw_or1 (dt_cmp (op_neD hr.units) r2_ne (de_var (pv 14)) (de_call G__law_due_gaps tk (hr.mono (by decide)) T.g__law_due_gaps T.F__law_due_gaps.kp T.b__law_due_gaps (da_cons (de_call G__law_due_roll tk (hr.mono (by decide)) T.g__law_due_roll T.F__law_due_roll.kp T.b__law_due_roll (da_cons (de_var (pv 8)) (da_cons (de_var (pv 5)) (da_nil)))) (da_nil))) (nomark _))))) (pv 13) (pe_bm PySem.F.plainAttrs_list PySem.F.slot_list_append PySem.F.type_list_append mt_append (pe_ix ix_tup (pv 7) pe_int (fun _ _ => rfl)) (pa_cons (de_int) pa_nil)) (ds_one (ds_if (dt_w (dw_or (dt_cmp (op_neD hr.units) r2_ne (de_var (pv 2)) (de_var (pv 8)) (nomark _)) (dw_or1 (dt_cmp (op_neD hr.units) r2_ne (de_call G_roll tk (hr.mono (by decide)) T.g_roll T.F_roll.kp T.b_roll (da_cons (de_var (pv 2)) (da_cons (de_var (pv 5)) (da_nil)))) (de_call G__law_due_roll tk (hr.mono (by decide)) T.g__law_due_roll T.F__law_due_roll.kp T.b__law_due_roll (da_cons (de_var (pv 8)) (da_cons (de_var (pv 5)) (da_nil)))) (nomark _))))) (ds_one (ds_ret (de_bl))) (ds_nil)))))) (ds_one (ds_ret (de_andV (de_cmp (op_eqD hr.units) r2_eq (de_call G_stamps tk (hr.mono (by decide)) T.g_stamps T.F_stamps.kp T.b_stamps (da_cons (de_var (pv 2)) (da_nil))) (de_var (pv 11)) (nomark _)) (de_one (de_cmp (op_eqD hr.units) r2_eq (de_var (pv 2)) (de_var (pv 8)) (nomark _)))))))))))))
end
theorem all_mk {P : Program} {w : World} {K : PySem.W.Frag} {h : Heap} {mg : Str → Option Value} {fa : Addr} (X : K.In h) (G : h.Ns mainGlobals mg) (hfa : mg "law" = some (.ref fa)) (hl : ∀ ns : List Int, ns.length ≤ 63 → FN.d_law_k45 [scr ns] = some (.ret (.bool true)))
    {f0 : Addr} {od0 an0 : Option Addr} {sl0 : Array (Option Value)} {oc0 kV0 dc0 pm0 cd0 ct0 : Value}
    (a0 : PySem.W.nsIn K mainGlobals "_law_draws" = some (some (.ref f0))) (l0 : K.lookup f0 = some ⟨oc0, od0, .func (PySem.W.fnOf "_law_draws" "_law_draws" (defArgs s__law_draws) (defBody s__law_draws) (defScope s__law_draws) .none kV0 dc0 pm0 an0 cd0 ct0), sl0⟩) (c0 : PySem.W.codeIn K cd0 "_law_draws" = true) (k0 : PySem.W.keepIn K (.ref f0) = true)
    {f1 : Addr} {od1 an1 : Option Addr} {sl1 : Array (Option Value)} {oc1 kV1 dc1 pm1 cd1 ct1 : Value}
    (a1 : PySem.W.nsIn K mainGlobals "stamps" = some (some (.ref f1))) (l1 : K.lookup f1 = some ⟨oc1, od1, .func (PySem.W.fnOf "stamps" "stamps" (defArgs s_stamps) (defBody s_stamps) (defScope s_stamps) .none kV1 dc1 pm1 an1 cd1 ct1), sl1⟩) (c1 : PySem.W.codeIn K cd1 "stamps" = true) (k1 : PySem.W.keepIn K (.ref f1) = true)
    {f2 : Addr} {od2 an2 : Option Addr} {sl2 : Array (Option Value)} {oc2 kV2 dc2 pm2 cd2 ct2 : Value}
    (a2 : PySem.W.nsIn K mainGlobals "_law_at" = some (some (.ref f2))) (l2 : K.lookup f2 = some ⟨oc2, od2, .func (PySem.W.fnOf "_law_at" "_law_at" (defArgs s__law_at) (defBody s__law_at) (defScope s__law_at) .none kV2 dc2 pm2 an2 cd2 ct2), sl2⟩) (c2 : PySem.W.codeIn K cd2 "_law_at" = true) (k2 : PySem.W.keepIn K (.ref f2) = true)
    {f3 : Addr} {od3 an3 : Option Addr} {sl3 : Array (Option Value)} {oc3 kV3 dc3 pm3 cd3 ct3 : Value}
    (a3 : PySem.W.nsIn K mainGlobals "own" = some (some (.ref f3))) (l3 : K.lookup f3 = some ⟨oc3, od3, .func (PySem.W.fnOf "own" "own" (defArgs s_own) (defBody s_own) (defScope s_own) .none kV3 dc3 pm3 an3 cd3 ct3), sl3⟩) (c3 : PySem.W.codeIn K cd3 "own" = true) (k3 : PySem.W.keepIn K (.ref f3) = true)
    {f4 : Addr} {od4 an4 : Option Addr} {sl4 : Array (Option Value)} {oc4 kV4 dc4 pm4 cd4 ct4 : Value}
    (a4 : PySem.W.nsIn K mainGlobals "roll" = some (some (.ref f4))) (l4 : K.lookup f4 = some ⟨oc4, od4, .func (PySem.W.fnOf "roll" "roll" (defArgs s_roll) (defBody s_roll) (defScope s_roll) .none kV4 dc4 pm4 an4 cd4 ct4), sl4⟩) (c4 : PySem.W.codeIn K cd4 "roll" = true) (k4 : PySem.W.keepIn K (.ref f4) = true)
    {f5 : Addr} {od5 an5 : Option Addr} {sl5 : Array (Option Value)} {oc5 kV5 dc5 pm5 cd5 ct5 : Value}
    (a5 : PySem.W.nsIn K mainGlobals "gaps" = some (some (.ref f5))) (l5 : K.lookup f5 = some ⟨oc5, od5, .func (PySem.W.fnOf "gaps" "gaps" (defArgs s_gaps) (defBody s_gaps) (defScope s_gaps) .none kV5 dc5 pm5 an5 cd5 ct5), sl5⟩) (c5 : PySem.W.codeIn K cd5 "gaps" = true) (k5 : PySem.W.keepIn K (.ref f5) = true)
    {f6 : Addr} {od6 an6 : Option Addr} {sl6 : Array (Option Value)} {oc6 kV6 dc6 pm6 cd6 ct6 : Value}
    (a6 : PySem.W.nsIn K mainGlobals "_law_due_roll" = some (some (.ref f6))) (l6 : K.lookup f6 = some ⟨oc6, od6, .func (PySem.W.fnOf "_law_due_roll" "_law_due_roll" (defArgs s__law_due_roll) (defBody s__law_due_roll) (defScope s__law_due_roll) .none kV6 dc6 pm6 an6 cd6 ct6), sl6⟩) (c6 : PySem.W.codeIn K cd6 "_law_due_roll" = true) (k6 : PySem.W.keepIn K (.ref f6) = true)
    {f7 : Addr} {od7 an7 : Option Addr} {sl7 : Array (Option Value)} {oc7 kV7 dc7 pm7 cd7 ct7 : Value}
    (a7 : PySem.W.nsIn K mainGlobals "_law_due_gaps" = some (some (.ref f7))) (l7 : K.lookup f7 = some ⟨oc7, od7, .func (PySem.W.fnOf "_law_due_gaps" "_law_due_gaps" (defArgs s__law_due_gaps) (defBody s__law_due_gaps) (defScope s__law_due_gaps) .none kV7 dc7 pm7 an7 cd7 ct7), sl7⟩) (c7 : PySem.W.codeIn K cd7 "_law_due_gaps" = true) (k7 : PySem.W.keepIn K (.ref f7) = true)
    {f8 : Addr} {od8 an8 : Option Addr} {sl8 : Array (Option Value)} {oc8 kV8 dc8 pm8 cd8 ct8 : Value}
    (a8 : PySem.W.nsIn K mainGlobals "law" = some (some (.ref f8))) (l8 : K.lookup f8 = some ⟨oc8, od8, .func (PySem.W.fnOf "law" "law" (defArgs s_law) (defBody s_law) (defScope s_law) .none kV8 dc8 pm8 an8 cd8 ct8), sl8⟩) (c8 : PySem.W.codeIn K cd8 "law" = true) (k8 : PySem.W.keepIn K (.ref f8) = true)
    (z_range : PySem.W.nsIn K mainGlobals "range" = some none)
    (z_min : PySem.W.nsIn K mainGlobals "min" = some none)
    (z_len : PySem.W.nsIn K mainGlobals "len" = some none)
    (z_abs : PySem.W.nsIn K mainGlobals "abs" = some none)
    (z_int : PySem.W.nsIn K mainGlobals "int" = some none)
    (z_sorted : PySem.W.nsIn K mainGlobals "sorted" = some none)
    (z_set : PySem.W.nsIn K mainGlobals "set" = some none)
    (z_list : PySem.W.nsIn K mainGlobals "list" = some none)
    (z_max : PySem.W.nsIn K mainGlobals "max" = some none)
    (z_isinstance : PySem.W.nsIn K mainGlobals "isinstance" = some none)
    {t_END : Tok} (n_END : PySem.W.nsIn K mainGlobals "END" = some (some (.int 4 t_END)))
    : ∃ fd : FuncData, (∀ (s : Shared) (v : Value), BindsTo s fd ⟨[v], []⟩ [("script", v)]) ∧ ∀ base : Heap, K.In base → base.Ns mainGlobals mg → FnOk P w K mg base (L2.CX P w) 3 fa fd ["script"] (DL.spLaw K) := by
  have e := hfa.symm.trans (PySem.W.mg_of X G a8)
  cases e
  let T : Txt K mg (fun _ => 0) := ⟨f0, _, fun_mk l0 c0 k0, PySem.W.mg_of X G a0, (fun_mk (st := s__law_draws) l0 c0 k0).binds (ps := ["script"]) fun _ _ _ _ _ _ us hl => match us, hl with | [_], _ => rfl, f1, _, fun_mk l1 c1 k1, PySem.W.mg_of X G a1, (fun_mk (st := s_stamps) l1 c1 k1).binds (ps := ["finds"]) fun _ _ _ _ _ _ us hl => match us, hl with | [_], _ => rfl, f2, _, fun_mk l2 c2 k2, PySem.W.mg_of X G a2, (fun_mk (st := s__law_at) l2 c2 k2).binds (ps := ["draws", "k", "many"]) fun _ _ _ _ _ _ us hl => match us, hl with | [_, _, _], _ => rfl, f3, _, fun_mk l3 c3 k3, PySem.W.mg_of X G a3, (fun_mk (st := s_own) l3 c3 k3).binds (ps := ["leaf"]) fun _ _ _ _ _ _ us hl => match us, hl with | [_], _ => rfl, f4, _, fun_mk l4 c4 k4, PySem.W.mg_of X G a4, (fun_mk (st := s_roll) l4 c4 k4).binds (ps := ["finds", "stamp"]) fun _ _ _ _ _ _ us hl => match us, hl with | [_, _], _ => rfl, f5, _, fun_mk l5 c5 k5, PySem.W.mg_of X G a5, (fun_mk (st := s_gaps) l5 c5 k5).binds (ps := ["leaves"]) fun _ _ _ _ _ _ us hl => match us, hl with | [_], _ => rfl, f6, _, fun_mk l6 c6 k6, PySem.W.mg_of X G a6, (fun_mk (st := s__law_due_roll) l6 c6 k6).binds (ps := ["finds", "stamp"]) fun _ _ _ _ _ _ us hl => match us, hl with | [_, _], _ => rfl, f7, _, fun_mk l7 c7 k7, PySem.W.mg_of X G a7, (fun_mk (st := s__law_due_gaps) l7 c7 k7).binds (ps := ["leaves"]) fun _ _ _ _ _ _ us hl => match us, hl with | [_], _ => rfl, fa, _, fun_mk l8 c8 k8, PySem.W.mg_of X G a8, (fun_mk (st := s_law) l8 c8 k8).binds (ps := ["script"]) fun _ _ _ _ _ _ us hl => match us, hl with | [_], _ => rfl, PySem.W.mg_none_of X G z_range, PySem.W.mg_none_of X G z_min, PySem.W.mg_none_of X G z_len, PySem.W.mg_none_of X G z_abs, PySem.W.mg_none_of X G z_int, PySem.W.mg_none_of X G z_sorted, PySem.W.mg_none_of X G z_set, PySem.W.mg_none_of X G z_list, PySem.W.mg_none_of X G z_max, PySem.W.mg_none_of X G z_isinstance, _, PySem.W.mg_of X G n_END⟩
  exact ⟨T.fd_law, fun s v => .of_eq rfl, fun base _ _ => law_sp hl (ok_law T)⟩
end K45
set_option Elab.async false
set_option linter.all false
set_option maxRecDepth 100000
set_option maxHeartbeats 1000000
namespace DL
open PySem PySem.Spec PyProof.Rows L2
theorem atI_of {α : Type} {xs : List α} {i : Int} (h0 : 0 ≤ i) (h1 : i < xs.length) : atI xs i = some (xs[i.toNat]'(by omega)) := by
  unfold atI ixN
  rw [if_pos h0, if_pos h1]
  exact List.getElem?_eq_getElem _
theorem atI_map {α β : Type} (f : α → β) (xs : List α) (i : Int) : atI (xs.map f) i = (atI xs i).map f := by
  unfold atI
  rw [List.length_map]
  cases ixN xs.length i with
  | none => rfl
  | some j => simp
theorem cMod_ok {i j : Int} (h : 0 < j) : cMod i j = true := decide_eq_true h
theorem cDiv_is {i j : Int} (h : 0 < j) (h2 : j < 1073741824) : cDiv i j = true := by
  unfold cDiv
  rw [decide_eq_true h, decide_eq_true h2]
  rfl
theorem cMul_l {i j : Int} (h : -1000000000 < i) (h2 : i < 1000000000) : cMul i j = true := by
  unfold cMul
  rw [decide_eq_true (show -(2 ^ 64) < i by omega), decide_eq_true (show i < 2 ^ 64 by omega)]
  rfl
theorem cMul_r {i j : Int} (h : -1000000000 < j) (h2 : j < 1000000000) : cMul i j = true := by
  unfold cMul
  rw [decide_eq_true (show -(2 ^ 64) < j by omega), decide_eq_true (show j < 2 ^ 64 by omega)]
  exact Bool.or_true _
theorem cPow_is {i j : Int} (h0 : 0 ≤ j) (h1 : j ≤ 1000000) (h2 : -1000000000 < i) (h3 : i < 1000000000) : cPow i j = true := by
  unfold cPow
  rw [decide_eq_true h0, decide_eq_true h1, decide_eq_true (show i.natAbs < 2 ^ 64 by omega)]
  rfl
theorem cRng_is {j : Int} (h : -1000000000 < j) (h2 : j < 1000000000) : cRng j = true := by
  unfold cRng
  rw [decide_eq_true (show -(2 ^ 62) ≤ j by omega), decide_eq_true (show j < 2 ^ 62 by omega)]
  rfl
theorem lineOk_small {n : Nat} (h : n ≤ 16777216) : lineOk n = true := decide_eq_true h
theorem eqvAll_ints : ∀ (ns ms : List Int), PyData.eqvAll (ns.map PyData.int) (ms.map PyData.int) = decide (ns = ms)
  | [], [] => rfl
  | [], _ :: _ => rfl
  | _ :: _, [] => rfl
  | n :: ns, m :: ms => by
    show (PyData.eqv (.int n) (.int m) && PyData.eqvAll (ns.map PyData.int) (ms.map PyData.int)) = _
    rw [eqvAll_ints ns ms]
    show ((n == m) && decide (ns = ms)) = _
    by_cases h1 : n = m
    · by_cases h2 : ns = ms
      · simp [h1, h2]
      · simp [h1, h2]
    · simp [h1]
theorem canLay_ints : ∀ ns : List Int, PyData.canLayAll0 (ns.map PyData.int) = true
  | [] => rfl
  | n :: ns => canLay_ints ns
theorem depth_ints : ∀ ns : List Int, PyData.depthAll (ns.map PyData.int) = 0
  | [] => rfl
  | n :: ns => by
    show max 0 (PyData.depthAll (ns.map PyData.int)) = 0
    rw [depth_ints ns]
    rfl
@[simp] theorem shaped_int (i : Int) : SeqAt.shaped (.int i) = true := rfl
@[simp] theorem shaped_bool (i : Bool) : SeqAt.shaped (.bool i) = true := rfl
@[simp] theorem shaped_none : SeqAt.shaped .none = true := rfl
@[simp] theorem shaped_ints (ns : List Int) : SeqAt.shaped (.list (ns.map PyData.int)) = true := by
  unfold SeqAt.shaped
  have h1 : PyData.canLay0 (.list (ns.map PyData.int)) = true := canLay_ints ns
  have h2 : PyData.depth (.list (ns.map PyData.int)) = 1 := by
    show PyData.depthAll (ns.map PyData.int) + 1 = 1
    rw [depth_ints ns]
  rw [h1, h2]
  rfl
theorem eqD_refl {d : D} (h : SeqAt.shaped d = true) : eqD d d = some true := by
  unfold eqD
  rw [h]
  show some (PyData.eqv d d) = some true
  rw [SeqAt.eqv_refl d (SeqAt.canLay_of_shaped h)]
@[simp] theorem eqD_int (i j : Int) : eqD (.int i) (.int j) = some (i == j) := rfl
@[simp] theorem eqD_ints (ns ms : List Int) : eqD (.list (ns.map PyData.int)) (.list (ms.map PyData.int)) = some (decide (ns = ms)) := by
  unfold eqD
  rw [shaped_ints, shaped_ints]
  show some (PyData.eqvAll (ns.map PyData.int) (ms.map PyData.int)) = _
  rw [eqvAll_ints]
theorem forL_inv {g : FG} {body : FS} (Inv : Nat → Rho → Prop) {ds : List D} {ρ : Rho} (h0 : Inv 0 ρ)
    (h : ∀ i d ρ, ds[i]? = some d → Inv i ρ → ∃ ρ1 ρ2, g d ρ = some ρ1 ∧ body ρ1 = some (.nx ρ2) ∧ Inv (i + 1) ρ2) : ∃ ρ', forL g body ds ρ = some (.nx ρ') ∧ Inv ds.length ρ' := by
  have go : ∀ (k n : Nat) (ρ : Rho), ds.length - n = k → n ≤ ds.length → Inv n ρ → ∃ ρ', forL g body (ds.drop n) ρ = some (.nx ρ') ∧ Inv ds.length ρ' := by
    intro k
    induction k with
    | zero =>
      intro n ρ hk hn hI
      have e : n = ds.length := by omega
      subst e
      rw [List.drop_length]
      exact ⟨ρ, rfl, hI⟩
    | succ k ih =>
      intro n ρ hk hn hI
      have hlt : n < ds.length := by omega
      obtain ⟨ρ1, ρ2, h1, h2, h3⟩ := h n ds[n] ρ (List.getElem?_eq_getElem hlt) hI
      obtain ⟨ρ', h4, h5⟩ := ih (n + 1) ρ2 (by omega) hlt h3
      refine ⟨ρ', ?_, h5⟩
      rw [List.drop_eq_getElem_cons hlt]
      unfold forL
      rw [h1]
      dsimp only
      rw [h2]
      exact h4
  have q := go _ 0 ρ rfl (Nat.zero_le _) h0
  rw [List.drop_zero] at q
  exact q
theorem lcL_map {α : Type} {tt : FT} {fe : FE} {st : D → Option Rho} (dat : α → D) (F : α → D) : ∀ {xs : List α}, (∀ x ∈ xs, ∃ ρ v, st (dat x) = some ρ ∧ tt ρ = some (.ok true) ∧ fe ρ = some (.ok v) ∧ v.st = some (F x)) → lcL tt fe st (xs.map dat) = some (xs.map F)
  | [], _ => rfl
  | x :: xs, h => by
    obtain ⟨ρ, v, h1, h2, h3, h4⟩ := h x List.mem_cons_self
    have ih := lcL_map (tt := tt) (fe := fe) (st := st) dat F (xs := xs) fun y hy => h y (List.mem_cons_of_mem _ hy)
    rw [List.map_cons, List.map_cons]
    unfold lcL
    rw [h1]
    dsimp only
    rw [h2]
    dsimp only
    rw [h3]
    dsimp only
    rw [h4, ih]
    rfl
theorem rangeD_eq (lo : Int) (n : Nat) : rangeD lo n = (List.range n).map fun (i : Nat) => PyData.int (lo + (i : Int)) := rfl
end DL
set_option Elab.async false
set_option linter.all false
set_option maxRecDepth 100000
set_option maxHeartbeats 1000000
namespace DL
open PySem PySem.Spec PyProof.Rows L2
section
variable {f g : FS} {ρ ρ1 : Rho} {o : Option Out} {n k : Nat} {ds : List D} {d : D} {E F fa fb fc : FE} {t u : FT} {i : Nat} {v a b : Val}
theorem seqN (h1 : f ρ = some (.nx ρ1)) (h2 : g ρ1 = o) : fSeq f g ρ = o := by
  unfold fSeq
  rw [h1]
  exact h2
theorem mk_ret (h : f (ds.map .dat ++ List.replicate (k - n) .un) = some (.ret d)) : mkD n k f ds = some (.ret d) := by
  rw [mkD_ap, h]
theorem mk_retF {es : List D} (h : f (ds.map .dat ++ List.replicate (k - n) .un) = some (.retF es)) : mkD n k f ds = some (.retF es) := by
  rw [mkD_ap, h]
theorem r_e2 {h : Val → Val → Option Val} (ha : fa ρ = some (.ok a)) (hb : fb ρ = some (.ok b)) (e : h a b = some v) : e2 h fa fb ρ = some (.ok v) := by
  rw [e2_ap]
  unfold bE
  rw [ha]
  dsimp only
  rw [hb]
  dsimp only
  rw [e]
  rfl
theorem r_e1 {h : Val → Option Val} (ha : fa ρ = some (.ok a)) (e : h a = some v) : e1 h fa ρ = some (.ok v) := by
  rw [e1_ap]
  unfold bE
  rw [ha]
  dsimp only
  rw [e]
  rfl
theorem r_set {d : D} (q : E ρ = some (.ok v)) (h : v.st = some d) (e : ρ.set i (.dat d) = ρ1) : fSet i E ρ = some (.nx ρ1) := by
  rw [fSet_ap]
  unfold sE
  rw [q]
  dsimp only
  rw [h, ← e]
  rfl
theorem r_setO (q : E ρ = some (.ok (.f ds))) (e : ρ.set i (.own ds) = ρ1) : fSetO i E ρ = some (.nx ρ1) := by
  rw [fSetO_ap]
  unfold sE
  rw [q, ← e]
theorem r_ift (h : t ρ = some (.ok true)) (e : f ρ = o) : fIf t f g ρ = o := by
  unfold fIf
  rw [h]
  exact e
theorem r_iff (h : t ρ = some (.ok false)) (e : g ρ = o) : fIf t f g ρ = o := by
  unfold fIf
  rw [h]
  exact e
theorem r_ret (q : E ρ = some (.ok (.s d))) : fRet E ρ = some (.ret d) := by
  rw [fRet_ap]
  unfold sE
  rw [q]
theorem r_retF (q : E ρ = some (.ok (.f ds))) : fRet E ρ = some (.retF ds) := by
  rw [fRet_ap]
  unfold sE
  rw [q]
theorem r_retB (q : E ρ = some (.ok (.b ds))) : fRet E ρ = some (.retF ds) := by
  rw [fRet_ap]
  unfold sE
  rw [q]
theorem r_tV {x : Bool} (q : E ρ = some (.ok v)) (h : v.d = .bool x) : tV E ρ = some (.ok x) := by
  unfold tV
  rw [q]
  dsimp only
  rw [h]
theorem r_not {x : Bool} (q : t ρ = some (.ok x)) : tNotD t ρ = some (.ok (!x)) := by
  unfold tNotD
  rw [q]
theorem r_notT (q : t ρ = some (.ok true)) : tNotD t ρ = some (.ok false) := r_not q
theorem r_notF (q : t ρ = some (.ok false)) : tNotD t ρ = some (.ok true) := r_not q
theorem r_isi {T : String} (q : fa ρ = some (.ok v)) (n : excV v.d = false := by rfl) : e1 (gIsi T) fa ρ = some (.ok (.s (.bool (isTy T v.d)))) := r_e1 q (by unfold gIsi; rw [n]; rfl)
theorem r_or_t (q : t ρ = some (.ok true)) : tOrD t u ρ = some (.ok true) := by
  unfold tOrD
  rw [q]
theorem r_or_f {x : Bool} (q : t ρ = some (.ok false)) (q2 : u ρ = some (.ok x)) : tOrD t u ρ = some (.ok x) := by
  unfold tOrD
  rw [q]
  exact q2
theorem r_and_t {x : Bool} (q : t ρ = some (.ok true)) (q2 : u ρ = some (.ok x)) : tAndD t u ρ = some (.ok x) := by
  unfold tAndD
  rw [q]
  exact q2
theorem r_and_f (q : t ρ = some (.ok false)) : tAndD t u ρ = some (.ok false) := by
  unfold tAndD
  rw [q]
theorem r_args0 : aNil ρ = some (.ok []) := rfl
theorem r_args {A : FA} {vs : List Val} (q : E ρ = some (.ok v)) (q2 : A ρ = some (.ok vs)) : aCons E A ρ = some (.ok (v :: vs)) := by
  unfold aCons
  rw [q]
  dsimp only
  rw [q2]
theorem r_eG {h : List Val → Option Val} {A : FA} {vs : List Val} (q : A ρ = some (.ok vs)) (e : h vs = some v) : eG h A ρ = some (.ok v) := by
  unfold eG
  rw [q]
  dsimp only
  rw [e]
  rfl
theorem r_call {G : DF} {A : FA} {vs : List Val} {es : List D} {d : D} (q : A ρ = some (.ok vs)) (hs : stAll vs = some es) (hn : vs.length = n) (e : G es = some (.ret d)) : eCall G n A ρ = some (.ok (.s d)) := by
  unfold eCall
  rw [q]
  dsimp only
  rw [if_pos hn, stAll_d hs, e]
  dsimp only
  rw [hs]
theorem r_callF {G : DF} {A : FA} {vs : List Val} {es : List D} {ds : List D} (q : A ρ = some (.ok vs)) (hs : stAll vs = some es) (hn : vs.length = n) (e : G es = some (.retF ds)) : eCall G n A ρ = some (.ok (.f ds)) := by
  unfold eCall
  rw [q]
  dsimp only
  rw [if_pos hn, stAll_d hs, e]
  dsimp only
  rw [hs]
theorem r_callFs {G : DF} {A : FA} {vs : List Val} {es : List D} {ds : List D} (q : A ρ = some (.ok vs)) (hs : vs.map Val.d = es) (hn : vs.length = n) (e : G es = some (.retF ds)) (hd : ds.all scalarD = true) : eCall G n A ρ = some (.ok (.f ds)) := by
  unfold eCall
  rw [q]
  dsimp only
  rw [if_pos hn, hs, e]
  dsimp only
  cases stAll vs with
  | some _ => rfl
  | none =>
    dsimp only
    rw [if_pos hd]
theorem scalar_ints : ∀ ns : List Int, (ns.map PyData.int).all scalarD = true
  | [] => rfl
  | n :: ns => scalar_ints ns
theorem r_v {d : D} (h : ρ[i]? = some (.dat d)) : eV i ρ = some (.ok (.s d)) := by
  unfold eV
  rw [h]
  rfl
theorem r_eq {x : Bool} (ha : fa ρ = some (.ok a)) (hb : fb ρ = some (.ok b)) (e : eqD a.d b.d = some x) : e2 gEq fa fb ρ = some (.ok (.s (.bool x))) := r_e2 ha hb (by unfold gEq; rw [e]; rfl)
theorem r_ne {x : Bool} (ha : fa ρ = some (.ok a)) (hb : fb ρ = some (.ok b)) (e : eqD a.d b.d = some x) : e2 gNe fa fb ρ = some (.ok (.s (.bool (!x)))) := r_e2 ha hb (by unfold gNe; rw [e]; rfl)
theorem r_eqI {i j : Int} (ha : fa ρ = some (.ok (.s (.int i)))) (hb : fb ρ = some (.ok (.s (.int j)))) : e2 gEq fa fb ρ = some (.ok (.s (.bool (i == j)))) := r_eq ha hb rfl
theorem r_neI {i j : Int} (ha : fa ρ = some (.ok (.s (.int i)))) (hb : fb ρ = some (.ok (.s (.int j)))) : e2 gNe fa fb ρ = some (.ok (.s (.bool (!(i == j))))) := r_ne ha hb rfl
theorem r_eqI_t {i j : Int} (ha : fa ρ = some (.ok (.s (.int i)))) (hb : fb ρ = some (.ok (.s (.int j)))) (h : i = j) : tV (e2 gEq fa fb) ρ = some (.ok true) := r_tV (r_eqI ha hb) (by rw [beq_iff_eq.mpr h]; rfl)
theorem r_eqI_f {i j : Int} (ha : fa ρ = some (.ok (.s (.int i)))) (hb : fb ρ = some (.ok (.s (.int j)))) (h : i ≠ j) : tV (e2 gEq fa fb) ρ = some (.ok false) := r_tV (r_eqI ha hb) (by rw [beq_eq_false_iff_ne.mpr h]; rfl)
theorem r_neI_f {i j : Int} (ha : fa ρ = some (.ok (.s (.int i)))) (hb : fb ρ = some (.ok (.s (.int j)))) (h : i = j) : tV (e2 gNe fa fb) ρ = some (.ok false) := r_tV (r_neI ha hb) (by rw [beq_iff_eq.mpr h]; rfl)
theorem r_neI_t {i j : Int} (ha : fa ρ = some (.ok (.s (.int i)))) (hb : fb ρ = some (.ok (.s (.int j)))) (h : i ≠ j) : tV (e2 gNe fa fb) ρ = some (.ok true) := r_tV (r_neI ha hb) (by rw [beq_eq_false_iff_ne.mpr h]; rfl)
theorem r_app {es : List D} {d : D} (ho : ρ[i]? = some (.own es)) (q : E ρ = some (.ok v)) (h : v.st = some d) (hl : es.length + 1 ≤ 16777216) (e : ρ.set i (.own (es ++ [d])) = ρ1) : fApp i E ρ = some (.nx ρ1) := by
  rw [fApp_ap]
  unfold fOwn
  rw [ho]
  dsimp only
  unfold sE
  rw [q]
  dsimp only
  rw [h]
  dsimp only
  rw [if_pos (lineOk_small hl), ← e]
end
theorem atI_nat {α : Type} {xs : List α} {i : Nat} (h : i < xs.length) : atI xs (i : Int) = some xs[i] := by
  rw [atI_of (Int.natCast_nonneg i) (by omega)]
  simp
end DL
set_option Elab.async false
set_option linter.all false
set_option maxRecDepth 100000
set_option maxHeartbeats 1000000
namespace DL
open PySem PySem.Spec PyProof.Rows L2
def jd (row : List Nat) : List D := row.map fun (n : Nat) => .int (n : Int)
@[simp] theorem jd_nil : jd [] = [] := rfl
theorem jd_cons (n : Nat) (r : List Nat) : jd (n :: r) = .int (n : Int) :: jd r := rfl
theorem jd_len (r : List Nat) : (jd r).length = r.length := List.length_map ..
theorem jd_ints (r : List Nat) : jd r = (r.map fun (n : Nat) => (n : Int)).map PyData.int := by
  unfold jd
  rw [List.map_map]
  rfl
theorem jd_scalar (r : List Nat) : (jd r).all scalarD = true := by
  rw [jd_ints]
  exact scalar_ints _
theorem inD_jd (n : Nat) (r : List Nat) : inD (.int (n : Int)) (jd r) = r.contains n := by
  unfold inD inV
  induction r with
  | nil => rfl
  | cons m r ih =>
    rw [jd_cons, List.map_cons, List.any_cons, ih, List.contains_cons]
    congr 1
    show ((m : Int) == (n : Int)) = _
    by_cases h : n = m
    · rw [beq_iff_eq.mpr h, beq_iff_eq.mpr (by omega)]
    · rw [beq_eq_false_iff_ne.mpr h, beq_eq_false_iff_ne.mpr (by omega)]
section
variable {ρ ρ1 : Rho} {ds us : List D} {d : D} {E fa fb : FE} {A : FA} {vs : List Val} {i : Nat} {v : Val}
theorem r_for {it : FI} {g : FG} {body : FS} {xs : List D} {o : Out} (q : it ρ = some (.ok xs)) (h : forL g body xs ρ = some o) : fFor it g body ρ = some o := by
  unfold fFor
  rw [q]
  exact h
theorem r_seqF {xs : List D} (q : E ρ = some (.ok (.f xs))) : iSeq E ρ = some (.ok xs) := by
  unfold iSeq
  rw [q]
theorem r_seqL {xs : List D} (q : E ρ = some (.ok (.s (.list xs)))) : iSeq E ρ = some (.ok xs) := by
  unfold iSeq
  rw [q]
theorem r_oS {j : Int} (q : E ρ = some (.ok (.s (.int j)))) : oSome E ρ = some (.ok (some j)) := by
  unfold oSome
  rw [q]
  rfl
theorem r_sl {L R : FO} {lo hi : Option Int} {xs : List D} (q : E ρ = some (.ok v)) (hv : v = .s (.list xs) ∨ v = .b xs ∨ v = .f xs) (q1 : L ρ = some (.ok lo)) (q2 : R ρ = some (.ok hi)) : eSl E L R ρ = some (.ok (.f (cutL xs lo hi))) := by
  unfold eSl
  rw [q]
  dsimp only
  rw [q1]
  dsimp only
  rw [q2]
  rcases hv with rfl | rfl | rfl <;> rfl
theorem r_range {j : Int} (q : E ρ = some (.ok (.s (.int j)))) (h1 : -1000000000 < j) (h2 : j < 1000000000) : iRange1 (aCons E (aNil)) ρ = some (.ok (rangeD 0 j.toNat)) := by
  unfold iRange1
  rw [r_args q r_args0]
  show (if cRng j = true then some (Except.ok (rangeD 0 j.toNat)) else none) = _
  rw [if_pos (cRng_is h1 h2)]
theorem r_andV_t (q1 : fa ρ = some (.ok (.s (.bool true)))) (q2 : fb ρ = some (.ok v)) : eAndV fa fb ρ = some (.ok v) := by
  rw [eAndV_ap]
  unfold bE
  rw [q1]
  exact q2
theorem r_b (h : ρ[i]? = some (.own ds)) : eV i ρ = some (.ok (.b ds)) := by
  unfold eV
  rw [h]
theorem r_lst (q : A ρ = some (.ok vs)) (h : stAll vs = some ds) (hl : vs.length ≤ 16777216) : eLst A ρ = some (.ok (.f ds)) := by
  unfold eLst
  rw [q]
  dsimp only
  rw [if_pos (lineOk_small hl), h]
theorem r_len {es : List D} (q : E ρ = some (.ok v)) (h : v.d = .list es) : eG bLen (aCons E (aNil)) ρ = some (.ok (.s (.int (es.length : Int)))) := by
  refine r_eG (r_args q r_args0) ?_
  unfold bLen
  dsimp only
  rw [h]
  rfl
theorem r_addI {i j : Int} (ha : fa ρ = some (.ok (.s (.int i)))) (hb : fb ρ = some (.ok (.s (.int j)))) : e2 gAdd fa fb ρ = some (.ok (.s (.int (i + j)))) := r_e2 ha hb rfl
theorem r_subI {i j : Int} (ha : fa ρ = some (.ok (.s (.int i)))) (hb : fb ρ = some (.ok (.s (.int j)))) : e2 gSub fa fb ρ = some (.ok (.s (.int (i - j)))) := r_e2 ha hb rfl
theorem r_mulI {i j : Int} (ha : fa ρ = some (.ok (.s (.int i)))) (hb : fb ρ = some (.ok (.s (.int j)))) (h : cMul i j = true) : e2 gMul fa fb ρ = some (.ok (.s (.int (i * j)))) := r_e2 ha hb (by
  show (if cMul i j = true then some (Val.s (.int (i * j))) else none) = _
  rw [if_pos h])
theorem r_modI {i j : Int} (ha : fa ρ = some (.ok (.s (.int i)))) (hb : fb ρ = some (.ok (.s (.int j)))) (h : 0 < j) : e2 gMod fa fb ρ = some (.ok (.s (.int (i % j)))) := r_e2 ha hb (by
  show (if cMod i j = true then some (Val.s (.int (i % j))) else none) = _
  rw [if_pos (cMod_ok h)])
theorem r_divI {i j : Int} (ha : fa ρ = some (.ok (.s (.int i)))) (hb : fb ρ = some (.ok (.s (.int j)))) (h : 0 < j) (h2 : j < 1000000000) : e2 gDiv fa fb ρ = some (.ok (.s (.int (i / j)))) := r_e2 ha hb (by
  show (if cDiv i j = true then some (Val.s (.int (i / j))) else none) = _
  rw [if_pos (cDiv_is h (by omega))])
theorem r_int {i : Int} (ha : fa ρ = some (.ok (.s (.int i)))) : eG bInt (aCons fa (aNil)) ρ = some (.ok (.s (.int i))) := r_eG (r_args ha r_args0) rfl
theorem r_gtI {i j : Int} (ha : fa ρ = some (.ok (.s (.int i)))) (hb : fb ρ = some (.ok (.s (.int j)))) : tV (e2 gGtX fa fb) ρ = some (.ok (decide (j < i))) := r_tV (r_e2 ha hb rfl) rfl
theorem r_ltI {i j : Int} (ha : fa ρ = some (.ok (.s (.int i)))) (hb : fb ρ = some (.ok (.s (.int j)))) : tV (e2 gLtX fa fb) ρ = some (.ok (decide (i < j))) := r_tV (r_e2 ha hb rfl) rfl
theorem r_gtI_t {i j : Int} (ha : fa ρ = some (.ok (.s (.int i)))) (hb : fb ρ = some (.ok (.s (.int j)))) (h : j < i) : tV (e2 gGtX fa fb) ρ = some (.ok true) := by rw [r_gtI ha hb, decide_eq_true h]
theorem r_gtI_f {i j : Int} (ha : fa ρ = some (.ok (.s (.int i)))) (hb : fb ρ = some (.ok (.s (.int j)))) (h : i ≤ j) : tV (e2 gGtX fa fb) ρ = some (.ok false) := by rw [r_gtI ha hb, decide_eq_false (by omega)]
theorem r_ltI_t {i j : Int} (ha : fa ρ = some (.ok (.s (.int i)))) (hb : fb ρ = some (.ok (.s (.int j)))) (h : i < j) : tV (e2 gLtX fa fb) ρ = some (.ok true) := by rw [r_ltI ha hb, decide_eq_true h]
theorem r_ltI_f {i j : Int} (ha : fa ρ = some (.ok (.s (.int i)))) (hb : fb ρ = some (.ok (.s (.int j)))) (h : j ≤ i) : tV (e2 gLtX fa fb) ρ = some (.ok false) := by rw [r_ltI ha hb, decide_eq_false (by omega)]
theorem r_ix {es : List D} {j : Int} (ha : fa ρ = some (.ok (.s (.list es)))) (hb : fb ρ = some (.ok (.s (.int j)))) (h : atI es j = some d) : e2 gIx fa fb ρ = some (.ok (.s d)) := r_e2 ha hb (by
  show (atI es j).map Val.s = _
  rw [h]
  rfl)
theorem r_cat {xs ys : List D} {a b : Val} (ha : fa ρ = some (.ok a)) (hb : fb ρ = some (.ok b)) (h1 : a.items = some xs) (h2 : b.items = some ys) (hn : gAddI a b = none) (hl : xs.length + ys.length ≤ 16777216) : e2 gAdd fa fb ρ = some (.ok (.f (xs ++ ys))) := r_e2 ha hb (by
  unfold gAdd
  rw [hn]
  show gCat a b = _
  unfold gCat
  rw [h1, h2]
  dsimp only
  rw [if_pos (lineOk_small hl)])
theorem r_in0 {n : Nat} {r : List Nat} (ha : fa ρ = some (.ok (.s (.int (n : Int))))) (hb : fb ρ = some (.ok v)) (hv : v.d = .list (jd r)) : tV (e2 gIn fa fb) ρ = some (.ok (r.contains n)) := by
  refine r_tV (v := .s (.bool (r.contains n))) (r_e2 ha hb ?_) rfl
  unfold gIn gInX
  rw [hv]
  show (if (scalarD (.int (n : Int)) && (jd r).all scalarD) = true then some (Val.s (.bool (if false then !inD (.int (n : Int)) (jd r) else inD (.int (n : Int)) (jd r)))) else none) = _
  rw [if_pos (by rw [jd_scalar]; rfl), inD_jd]
  rfl
end
end DL
set_option Elab.async false
set_option linter.all false
set_option maxRecDepth 100000
set_option maxHeartbeats 1000000
namespace DL
open PySem PySem.Spec PyProof.Rows L2
section
variable {f g : FS} {ρ ρ1 : Rho} {o : Option Out} {n k : Nat} {ds : List D} {d : D} {E F fa fb fc : FE} {t u : FT} {i : Nat} {v a b : Val} {c : Nat} {j : Int}
theorem r_tup {A : FA} {vs : List Val} (q : A ρ = some (.ok vs)) (h : stAll vs = some ds) (hl : vs.length ≤ 16777216) : eTup A ρ = some (.ok (.s (.tuple ds))) := by
  unfold eTup
  rw [q]
  dsimp only
  rw [if_pos (lineOk_small hl), h]
end
end DL
set_option Elab.async false
set_option linter.all false
set_option maxRecDepth 100000
set_option maxHeartbeats 4000000
namespace FL
open PySem PySem.Spec PyProof.Rows L2 DL FN
def atD (ds : List Int) (k many : Int) : Int := if k < ds.length then (ds.getD k.toNat 0) % many else 0
theorem law_at_ok (ds : List Int) (k many : Int) (hk : 0 ≤ k) (hm : 0 < many) : d__law_at [.list (ds.map .int), .int k, .int many] = some (.ret (.int (atD ds k many))) := by
  unfold d__law_at b__law_at atD
  by_cases h : k < ds.length
  · have e := atI_of hk h
    simp [atI_map, e, h, hk, hm, cMod]
  · simp [h, hk, hm]
def Drawn (ds : List Int) : Prop := ∀ d ∈ ds, 0 ≤ d ∧ d < 65536
theorem drawn_app {ds : List Int} {d : Int} (h : Drawn ds) (h0 : 0 ≤ d) (h1 : d < 65536) : Drawn (ds ++ [d]) := fun x hx => by
  rcases List.mem_append.mp hx with hx | hx
  · exact h x hx
  · rw [List.mem_singleton.mp hx]
    exact ⟨h0, h1⟩
theorem draws_in (s0 s2 s4 s5 : DL.Slot) (ds : List Int) (rest : Int) (hd : Drawn ds) (hl : ds.length ≤ 60 * 63) (h0 : 0 ≤ rest) : ∃ (es : List Int) (r : Int) (s4' : DL.Slot), Drawn es ∧ es.length ≤ ds.length + 60 ∧
    forL (gN 4) (fIf (tV (e2 gGtX (eV 3) (eC (.int 0)))) (fSeq (fApp 1 (e2 gMod (eG bInt (aCons (eV 3) (aNil))) (eC (.int 65536)))) (fSet 3 (e2 gDiv (eV 3) (eC (.int 65536))))) (fNx)) (rangeD 0 60) [s0, .own (ds.map .int), s2, .dat (.int rest), s4, s5]
      = some (.nx [s0, .own (es.map .int), s2, .dat (.int r), s4', s5]) := by
  have key := forL_inv (g := gN 4) (ds := rangeD 0 60) (ρ := [s0, .own (ds.map .int), s2, .dat (.int rest), s4, s5])
    (body := fIf (tV (e2 gGtX (eV 3) (eC (.int 0)))) (fSeq (fApp 1 (e2 gMod (eG bInt (aCons (eV 3) (aNil))) (eC (.int 65536)))) (fSet 3 (e2 gDiv (eV 3) (eC (.int 65536))))) (fNx))
    (fun j ρ => ∃ (es : List Int) (r : Int) (s4 : DL.Slot), ρ = [s0, .own (es.map .int), s2, .dat (.int r), s4, s5] ∧ Drawn es ∧ es.length ≤ ds.length + j ∧ 0 ≤ r ∧ j ≤ 60)
    ⟨ds, rest, s4, rfl, hd, Nat.le_refl _, h0, by decide⟩ (by
      rintro j d ρ hj ⟨es, r, s4, rfl, he, hel, hr, _⟩
      have hj : j < 60 := by simpa [rangeD] using (List.getElem?_eq_some_iff.mp hj).1
      by_cases hpos : 0 < r
      · refine ⟨_, _, rfl, ?_, es ++ [r % 65536], r / 65536, .dat d, rfl, drawn_app he (by omega) (by omega), by simp; omega, by omega, hj⟩
        have hln : lineOk (es.length + 1) = true := lineOk_small (by omega)
        simp [hpos, cMod_ok, cDiv_is, hln]
      · refine ⟨_, _, rfl, ?_, es, r, .dat d, rfl, he, by omega, hr, hj⟩
        simp [hpos])
  obtain ⟨ρ', h1, es, r, s4', rfl, h3, h4, _⟩ := key
  refine ⟨es, r, s4', h3, ?_, h1⟩
  simpa [rangeD] using h4
def drawTurn : FS := fSeq (fSet 3 (eG bAbs (aCons (e2 gIx (eV 0) (eV 2)) (aNil)))) (fIf (tV (e2 gGeX (eV 3) (e2 gPow (eC (.int 10)) (eC (.int 18))))) (fFor (iRange1 (aCons (eC (.int 60)) (aNil))) (gN 4) (fIf (tV (e2 gGtX (eV 3) (eC (.int 0)))) (fSeq (fApp 1 (e2 gMod (eG bInt (aCons (eV 3) (aNil))) (eC (.int 65536)))) (fSet 3 (e2 gDiv (eV 3) (eC (.int 65536))))) (fNx))) (fSeq (fSet 5 (e2 gMod (eG bInt (aCons (e2 gAdd (e2 gMul (eV 3) (eC (.int 48271))) (e2 gMul (e2 gAdd (eV 2) (eC (.int 1))) (eC (.int 69621)))) (aNil))) (eC (.int 2147483647)))) (fSeq (fSet 5 (e2 gMod (eG bInt (aCons (e2 gAdd (e2 gAdd (e2 gMul (eV 5) (eC (.int 16807))) (e2 gMul (eC (.int 11)) (eV 2))) (eC (.int 5))) (aNil))) (eC (.int 2147483629)))) (fSeq (fApp 1 (e2 gMod (eG bInt (aCons (eV 5) (aNil))) (eC (.int 65536)))) (fApp 1 (e2 gMod (eG bInt (aCons (e2 gDiv (eV 5) (eC (.int 65536))) (aNil))) (eC (.int 32768))))))))
theorem draws_turn (ks : List (D × D)) (cell i : Int) (s3 s4 s5 : DL.Slot) (ds : List Int) (hd : Drawn ds) (hl : ds.length ≤ 60 * 62) (hat : atI ks i = some (.int cell, .none)) (hex : excL ks = false) :
    ∃ (es : List Int) (s3' s4' s5' : DL.Slot), Drawn es ∧ es.length ≤ ds.length + 60 ∧ drawTurn [.dat (.dict ks), .own (ds.map .int), .dat (.int i), s3, s4, s5] = some (.nx [.dat (.dict ks), .own (es.map .int), .dat (.int i), s3', s4', s5']) := by
  generalize hrest : (if cell < 0 then -cell else cell) = rest
  have h0 : 0 ≤ rest := by rw [← hrest]; split <;> omega
  by_cases hbig : (1000000000000000000 : Int) ≤ rest
  · obtain ⟨es, r, s4', he, hel, h3⟩ := draws_in (.dat (.dict ks)) (.dat (.int i)) s4 s5 ds rest hd (by omega) h0
    refine ⟨es, .dat (.int r), s4', s5, he, hel, ?_⟩
    simp [drawTurn, hat, hex, hrest, hbig, cPow_is, h3, cRng_is]
  · have hln : ∀ m, m ≤ 3790 → lineOk m = true := fun m h => lineOk_small (by omega)
    generalize hm1 : (rest * 48271 + (i + 1) * 69621) % 2147483647 = m1
    generalize hm2 : (m1 * 16807 + 11 * i + 5) % 2147483629 = m2
    refine ⟨ds ++ [m2 % 65536] ++ [m2 / 65536 % 32768], .dat (.int rest), s4, .dat (.int m2), drawn_app (drawn_app hd (by omega) (by omega)) (by omega) (by omega), by simp, ?_⟩
    simp [drawTurn, hat, hex, hrest, hbig, cPow_is, cMul_l, cMul_r, cMod_ok, cDiv_is, hm1, hm2, hln (ds.length + 1) (by omega), hln (ds.length + 1 + 1) (by omega)]
theorem law_draws_ok (ns : List Int) (hl : ns.length ≤ 63) : ∃ ds : List Int, Drawn ds ∧ ds.length ≤ 3780 ∧ d__law_draws [scr ns] = some (.retF (ds.map .int)) := by
  have hmin : (if ((ns.length : Nat) : Int) < 63 then ((ns.length : Nat) : Int) else 63) = (ns.length : Int) := by split <;> omega
  have key := forL_inv (g := gN 2) (ds := rangeD 0 ns.length) (ρ := [.dat (scr ns), .own [], .un, .un, .un, .un]) (body := drawTurn)
    (fun i ρ => ∃ (ds : List Int) (s2 s3 s4 s5 : DL.Slot), ρ = [.dat (scr ns), .own (ds.map .int), s2, s3, s4, s5] ∧ Drawn ds ∧ ds.length ≤ 60 * i ∧ i ≤ ns.length)
    ⟨[], _, _, _, _, rfl, (fun _ h => nomatch h), Nat.zero_le _, Nat.zero_le _⟩ (by
      rintro i d ρ hd ⟨ds, s2, s3, s4, s5, rfl, hdr, hlen, _⟩
      have hi : i < ns.length := by simpa [rangeD] using (List.getElem?_eq_some_iff.mp hd).1
      have ed : d = .int i := by
        rw [rangeD_eq, List.getElem?_map, List.getElem?_range hi] at hd
        cases hd
        simp
      subst ed
      have hat : atI (ns.map fun n => ((PyData.int n, PyData.none) : D × D)) (i : Int) = some (.int ns[i], .none) := by
        rw [atI_nat (j := i) (v := (.int ns[i], .none))]
        rw [List.getElem?_map, List.getElem?_eq_getElem hi]
        rfl
      obtain ⟨es, s3', s4', s5', h1, h2, h3⟩ := draws_turn _ _ i s3 s4 s5 ds hdr (by omega) hat (excL_scr ns)
      exact ⟨_, _, rfl, h3, es, _, _, _, _, rfl, h1, by omega, hi⟩)
  obtain ⟨ρ', h1, ds, s2, s3, s4, s5, rfl, hd, hlen, _⟩ := key
  have hlen' : ds.length ≤ 3780 := by
    have e : (rangeD 0 ns.length).length = ns.length := by simp [rangeD]
    rw [e] at hlen
    omega
  refine ⟨ds, hd, hlen', ?_⟩
  have hr : cRng (ns.length : Int) = true := by simp [cRng]; omega
  unfold drawTurn at h1
  simp [d__law_draws, b__law_draws, hmin, hr, h1, lineOk]
theorem atD_lo (ds : List Int) (k m : Int) (hm : 0 < m) : 0 ≤ atD ds k m := by
  unfold atD
  split
  · exact Int.emod_nonneg _ (by omega)
  · exact Int.le_refl _
theorem atD_hi (ds : List Int) (k m : Int) (hm : 0 < m) : atD ds k m < m := by
  unfold atD
  split
  · exact Int.emod_lt_of_pos _ hm
  · exact hm
theorem r_at {fa fb fc : FE} {ρ : Rho} {ds : List Int} {k m : Int} (h1 : fa ρ = some (.ok (.s (.list (ds.map .int))))) (h2 : fb ρ = some (.ok (.s (.int k)))) (h3 : fc ρ = some (.ok (.s (.int m)))) (hk : 0 ≤ k) (hm : 0 < m) :
    eCall d__law_at 3 (aCons fa (aCons fb (aCons fc (aNil)))) ρ = some (.ok (.s (.int (atD ds k m)))) := r_call (r_args h1 (r_args h2 (r_args h3 r_args0))) rfl rfl (law_at_ok ds k m hk hm)
end FL
set_option Elab.async false
set_option linter.all false
namespace FN
open PySem PySem.Spec PyProof.Rows L2 DL
noncomputable section
end
end FN
set_option Elab.async false
set_option linter.all false
namespace FN
open PySem PySem.Spec PyProof.Rows L2 DL
noncomputable section
end
end FN
set_option Elab.async false
set_option linter.all false
namespace FN
open PySem PySem.Spec PyProof.Rows L2 DL
noncomputable section
end
end FN
set_option Elab.async false
set_option linter.all false
namespace FN
open PySem PySem.Spec PyProof.Rows L2 DL
noncomputable section
end
end FN
set_option Elab.async false
set_option linter.all false
namespace FN
open PySem PySem.Spec PyProof.Rows L2 DL
noncomputable section
end
end FN
set_option Elab.async false
set_option linter.all false
set_option maxRecDepth 100000
namespace CR
def P : Nat := 3988292384
def f (x : Nat) : Nat := (x / 2) ^^^ (if x % 2 = 1 then P else 0)
def HV : List Nat := [0, 498536548, 997073096, 651767980, 1994146192, 1802195444, 1303535960, 1342533948, 3988292384, 4027552580, 3604390888, 3412177804, 2607071920, 2262029012, 2685067896, 3183342108]
def g (x : Nat) : Nat := (x / 16) ^^^ (HV.getD (x % 16) 0)
theorem hv4 : ∀ l : Fin 16, f (f (f (f l.1))) = HV.getD l.1 0 := by decide
def crc (β : Nat → Nat) (r : Nat) : Nat → Nat
  | 0 => r
  | n + 1 => f (crc β r n ^^^ β n)
end CR
set_option Elab.async false
set_option linter.all false
set_option maxRecDepth 100000
set_option maxHeartbeats 4000000
namespace FL
open PySem PySem.Spec PyProof.Rows L2 DL FN
open CR (crc g HV)
def J (row : List Nat) : List Int := row.map fun (n : Nat) => (n : Int)
def bitOf (row : List Nat) (k : Nat) : Nat := row.getD (k / 8) 0 / 2 ^ (k % 8) % 2
def sumOf (row : List Nat) : Nat := crc (bitOf row) 4294967295 (8 * row.length) ^^^ 4294967295
end FL
set_option Elab.async false
set_option linter.all false
namespace SN
def val (b : Nat → Nat) : Nat → Nat
  | 0 => 0
  | k + 1 => val b k + (b k % 128) * 128 ^ k
def steps (n : Nat) : List Nat := if h : n < 128 then [n] else (n % 128 + 128) :: steps (n / 128)
termination_by n
decreasing_by omega
structure Ends (b : Nat → Nat) (p : Nat) : Prop where
  big : ∀ j, j < p → 128 ≤ b j
  small : b p < 128
structure Spec (n : Nat) (l : List Nat) (p : Nat) : Prop where
  len : l.length = p + 1
  ends : Ends (fun j => l.getD j 0) p
  val : val (fun j => l.getD j 0) (p + 1) = n
  tight : 0 < p → l.getD p 0 ≠ 0
  size : 0 < p → 128 ^ p ≤ n
  byte : ∀ x ∈ l, x < 256
inductive At (b : Nat → Nat) (rest : Nat) : Prop
  | ends (p : Nat) : p < 6 → p < rest → Ends b p → At b rest
  | short : rest < 6 → (∀ j, j < rest → 128 ≤ b j) → At b rest
  | long : 6 ≤ rest → (∀ j, j < 6 → 128 ≤ b j) → At b rest
def dig (n : Nat) : List Nat := if h : n < 128 then [n] else (n % 128) :: dig (n / 128)
termination_by n
decreasing_by omega
structure Part (n k : Nat) (out : List Nat) (m : Nat) : Prop where
  le : m * 128 ^ k ≤ n
  now : (0 < k ∧ m = 0 ∧ out = dig n) ∨ ((k = 0 ∨ 0 < m) ∧ out ++ dig m = dig n)
end SN
set_option Elab.async false
set_option linter.all false
set_option maxRecDepth 100000
set_option maxHeartbeats 1000000
namespace DL
open PySem PySem.Spec PyProof.Rows L2
section
variable {f g : FS} {ρ ρ1 : Rho} {o : Option Out} {n k : Nat} {ds : List D} {d : D} {E F fa fb fc : FE} {t u : FT} {i : Nat} {v a b : Val} {c : Nat} {j : Int}
theorem r_ixF {es : List D} {j : Int} (ha : fa ρ = some (.ok (.f es))) (hb : fb ρ = some (.ok (.s (.int j)))) (h : atI es j = some d) (hs : scalarD d = true) : e2 gIx fa fb ρ = some (.ok (.s d)) := r_e2 ha hb (by
  show (atI es j).map Val.s = _
  rw [h]
  rfl)
theorem r_listOf {es : List D} (q : E ρ = some (.ok v)) (h : v.seq = some es) : eG bList (aCons E (aNil)) ρ = some (.ok (.f es)) := r_eG (r_args q r_args0) (by
  show v.seq.map Val.f = _
  rw [h]
  rfl)
end
theorem cutL_to {α : Type} (xs : List α) (i : Nat) : cutL xs none (some (i : Int)) = xs.take i := by
  unfold cutL
  rw [HT.sIx_none, HT.sIx_nat, List.drop_zero, Nat.sub_zero]
  by_cases h : i ≤ xs.length
  · rw [Nat.min_eq_left h]
  · rw [Nat.min_eq_right (by omega), List.take_length, List.take_of_length_le (by omega)]
section
variable {ρ ρ1 : Rho} {E F : FE} {v : Val} {r : List Nat} {i j : Nat}
end
end DL
set_option Elab.async false
set_option linter.all false
set_option maxRecDepth 100000
set_option maxHeartbeats 1000000
namespace DL
open PySem PySem.Spec PyProof.Rows L2
theorem rangeD_length (lo : Int) (n : Nat) : (rangeD lo n).length = n := by simp [rangeD]
theorem rangeD_at {lo n : Nat} {i : Nat} {d : D} (h : (rangeD (lo : Int) n)[i]? = some d) : i < n ∧ d = .int ((lo + i : Nat) : Int) := by
  have hi : i < n := by
    have := (List.getElem?_eq_some_iff.mp h).1
    rw [rangeD_length] at this
    exact this
  refine ⟨hi, ?_⟩
  rw [rangeD_eq, List.getElem?_map, List.getElem?_range hi] at h
  cases h
  rfl
theorem rangeD0_at {n : Nat} {i : Nat} {d : D} (h : (rangeD 0 n)[i]? = some d) : i < n ∧ d = .int (i : Int) := by
  have q := rangeD_at (lo := 0) h
  rw [Nat.zero_add] at q
  exact q
section
variable {f g : FS} {ρ ρ1 : Rho} {o : Option Out} {n k : Nat} {ds : List D} {d : D} {E F fa fb fc : FE} {t u : FT} {i j : Nat} {v a b : Val} {c : Nat}
theorem r_geI {x y : Int} (ha : fa ρ = some (.ok (.s (.int x)))) (hb : fb ρ = some (.ok (.s (.int y)))) : tV (e2 gGeX fa fb) ρ = some (.ok (decide (y ≤ x))) := r_tV (r_e2 ha hb rfl) rfl
theorem r_leI {x y : Int} (ha : fa ρ = some (.ok (.s (.int x)))) (hb : fb ρ = some (.ok (.s (.int y)))) : tV (e2 gLeX fa fb) ρ = some (.ok (decide (x ≤ y))) := r_tV (r_e2 ha hb rfl) rfl
theorem r_geI_t {x y : Int} (ha : fa ρ = some (.ok (.s (.int x)))) (hb : fb ρ = some (.ok (.s (.int y)))) (h : y ≤ x) : tV (e2 gGeX fa fb) ρ = some (.ok true) := by rw [r_geI ha hb, decide_eq_true h]
theorem r_geI_f {x y : Int} (ha : fa ρ = some (.ok (.s (.int x)))) (hb : fb ρ = some (.ok (.s (.int y)))) (h : x < y) : tV (e2 gGeX fa fb) ρ = some (.ok false) := by rw [r_geI ha hb, decide_eq_false (by omega)]
theorem r_leI_t {x y : Int} (ha : fa ρ = some (.ok (.s (.int x)))) (hb : fb ρ = some (.ok (.s (.int y)))) (h : x ≤ y) : tV (e2 gLeX fa fb) ρ = some (.ok true) := by rw [r_leI ha hb, decide_eq_true h]
theorem r_leI_f {x y : Int} (ha : fa ρ = some (.ok (.s (.int x)))) (hb : fb ρ = some (.ok (.s (.int y)))) (h : y < x) : tV (e2 gLeX fa fb) ρ = some (.ok false) := by rw [r_leI ha hb, decide_eq_false (by omega)]
theorem r_neg {x : Int} (ha : fa ρ = some (.ok (.s (.int x)))) : e1 gNeg fa ρ = some (.ok (.s (.int (-x)))) := r_e1 ha rfl
theorem r_lenJ {r : List Nat} (q : E ρ = some (.ok v)) (h : v.d = .list (jd r)) : eG bLen (aCons E (aNil)) ρ = some (.ok (.s (.int (r.length : Int)))) := by
  rw [r_len q h, jd_len]
theorem r_lenT {es : List D} (q : E ρ = some (.ok v)) (h : v.d = .tuple es) : eG bLen (aCons E (aNil)) ρ = some (.ok (.s (.int (es.length : Int)))) := by
  refine r_eG (r_args q r_args0) ?_
  unfold bLen
  dsimp only
  rw [h]
  rfl
end
theorem eLc_seq {α : Type} {vs : List Nat} {st : Rho → D → Option Rho} {it : FI} {tt : FT} {fe : FE} {ρ : Rho} (dat F : α → D) {xs : List α} (h0 : noOwn ρ vs = true) (ha : it ρ = some (.ok (xs.map dat))) (hl : xs.length ≤ 16777216)
    (h : ∀ x ∈ xs, ∃ ρ1 v, st (wipeR ρ vs) (dat x) = some ρ1 ∧ tt ρ1 = some (.ok true) ∧ fe ρ1 = some (.ok v) ∧ v.st = some (F x)) : eLcG vs st it tt fe ρ = some (.ok (.f (xs.map F))) := by
  have e : lcL tt fe (st (wipeR ρ vs)) (xs.map dat) = some (xs.map F) := lcL_map dat F h
  unfold eLcG
  rw [if_pos h0, ha]
  dsimp only
  rw [e]
  dsimp only
  rw [if_pos (lineOk_small (by rw [List.length_map]; exact hl))]
end DL
set_option Elab.async false
set_option linter.all false
set_option maxRecDepth 100000
set_option maxHeartbeats 4000000
namespace FL
open PySem PySem.Spec PyProof.Rows L2 DL FN
def from_ (r : List Nat) (at_ : Nat) : Nat → Nat := fun j => r.getD (at_ + j) 0
inductive Gs (r : List Nat) (a : Nat) : DOut → Prop
  | num (p : Nat) : p < 6 → a + p < r.length → SN.Ends (from_ r a) p → SN.val (from_ r a) (p + 1) < 2 ^ 40 → ¬ (0 < p ∧ from_ r a p = 0) → Gs r a (.ret (.tuple [.int (SN.val (from_ r a) (p + 1) : Nat), .int ((a + p + 1 : Nat) : Int)]))
  | loose (p : Nat) : p < 6 → a + p < r.length → SN.Ends (from_ r a) p → SN.val (from_ r a) (p + 1) < 2 ^ 40 → 0 < p → from_ r a p = 0 → Gs r a (.exc 2 (a : Nat))
  | great (p : Nat) : p < 6 → a + p < r.length → SN.Ends (from_ r a) p → 2 ^ 40 ≤ SN.val (from_ r a) (p + 1) → Gs r a (.exc 1 (a : Nat))
  | long : a + 6 ≤ r.length → (∀ j, j < 6 → 128 ≤ from_ r a j) → Gs r a (.exc 1 (a : Nat))
  | short : r.length - a < 6 → (∀ j, j < r.length - a → 128 ≤ from_ r a j) → Gs r a (.exc 3 (r.length : Nat))
end FL
set_option Elab.async false
set_option linter.all false
set_option maxHeartbeats 4000000
namespace LF
open FL (sumOf bitOf from_)
def four (n : Nat) : List Nat := [n % 256, n / 256 % 256, n / 65536 % 256, n / 16777216 % 256]
def num4 (l : List Nat) : Nat := l.getD 0 0 + l.getD 1 0 * 256 + l.getD 2 0 * 65536 + l.getD 3 0 * 16777216
structure Leaf where
  kind : Nat
  stamp : Nat
  number : Nat
  track : Nat
  ordinal : Nat
  time : Nat
  span : Nat
  key : Nat
  body : List Nat
structure Leaf.Ok (l : Leaf) : Prop where
  kind : l.kind ≤ 4
  stamp : l.stamp < 2 ^ 32
  number : l.number < 2 ^ 32
  track : l.track ≤ 15
  ordinal : l.ordinal ≤ 16777215
  time : l.time ≤ 1099511627775
  span : l.span ≤ 16777215
  key : l.key ≤ 1
  size : l.body.length ≤ 1024
  byte : ∀ x ∈ l.body, x < 256
def Leaf.fields (l : Leaf) : List Nat := [l.kind] ++ four l.stamp ++ four l.number ++ SN.steps l.track ++ SN.steps l.ordinal ++ SN.steps l.time ++ SN.steps l.span ++ [l.key] ++ SN.steps l.body.length ++ l.body
def Good (r : List Nat) (a top p : Nat) : Prop := p < 6 ∧ a + p < r.length ∧ SN.Ends (from_ r a) p ∧ SN.val (from_ r a) (p + 1) ≤ top ∧ ¬ (0 < p ∧ from_ r a p = 0)
open Classical in
noncomputable def rd (r : List Nat) (a top : Nat) : Option (Nat × Nat) := if h : ∃ p, Good r a top p then some (SN.val (from_ r a) (Classical.choose h + 1), a + Classical.choose h + 1) else none
noncomputable def readTail (r : List Nat) (track ordinal time span a4 : Nat) : Except (Nat × Nat) Leaf :=
  if r.length ≤ a4 ∨ 1 < r.getD a4 0 then .error (12, a4) else
  match rd r (a4 + 1) 1024 with
  | none => .error (13, a4 + 1)
  | some (size, a5) =>
    if r.length < a5 + size then .error (14, a5) else
    if r.drop (a5 + size) ≠ four (sumOf (r.take (a5 + size))) then .error (15, a5 + size) else
    .ok ⟨r.getD 0 0, num4 ((r.drop 1).take 4), num4 ((r.drop 5).take 4), track, ordinal, time, span, r.getD a4 0, (r.drop a5).take size⟩
noncomputable def read (r : List Nat) : Except (Nat × Nat) Leaf :=
  if r.length = 0 ∨ 4 < r.getD 0 0 then .error (5, 0) else
  if r.length < 5 then .error (6, 1) else
  if r.length < 9 then .error (7, 5) else
  match rd r 9 15 with
  | none => .error (8, 9)
  | some (track, a1) => match rd r a1 16777215 with
    | none => .error (9, a1)
    | some (ordinal, a2) => match rd r a2 1099511627775 with
      | none => .error (10, a2)
      | some (time, a3) => match rd r a3 16777215 with
        | none => .error (11, a3)
        | some (span, a4) => readTail r track ordinal time span a4
end LF
set_option Elab.async false
set_option linter.all false
set_option maxRecDepth 100000
set_option maxHeartbeats 4000000
namespace FL
open PySem PySem.Spec PyProof.Rows L2 DL FN
open LF (Leaf)
section
variable {f g : FS} {ρ ρ1 : Rho} {o : Out} {E fa fb : FE} {v : Val} {d : D} {c : Nat} {j : Int}
end
end FL
set_option Elab.async false
set_option linter.all false
set_option maxRecDepth 100000
set_option maxHeartbeats 4000000
namespace FL
open PySem PySem.Spec PyProof.Rows L2 DL FN
open LF (Leaf)
end FL
set_option Elab.async false
set_option linter.all false
set_option maxRecDepth 100000
set_option maxHeartbeats 4000000
namespace FL
open PySem PySem.Spec PyProof.Rows L2 DL FN
open LF (Leaf)
end FL
set_option Elab.async false
set_option linter.all false
set_option maxRecDepth 100000
set_option maxHeartbeats 4000000
namespace FL
open PySem PySem.Spec PyProof.Rows L2 DL FN
open LF (Leaf)
end FL
set_option Elab.async false
set_option linter.all false
namespace FN
open PySem PySem.Spec PyProof.Rows L2 DL
noncomputable section
end
end FN
set_option Elab.async false
set_option linter.all false
set_option maxRecDepth 100000
set_option maxHeartbeats 4000000
namespace FL
open PySem PySem.Spec PyProof.Rows L2 DL FN
open LF (Leaf)
section
variable {f g : FS} {ρ ρ1 : Rho} {o : Out} {n k : Nat} {ds : List D} {G : DF} {A : FA} {vs : List Val} {es as : List D} {d : D} {c : Nat} {j : Int}
end
end FL
set_option Elab.async false
set_option linter.all false
set_option maxRecDepth 100000
set_option maxHeartbeats 4000000
namespace FL
open PySem PySem.Spec PyProof.Rows L2 DL FN
open LF (Leaf)
end FL
namespace K04
end K04
set_option Elab.async false
set_option linter.all false
namespace FN
open PySem PySem.Spec PyProof.Rows L2 DL
noncomputable section
end
end FN
set_option Elab.async false
set_option linter.all false
set_option maxRecDepth 100000
set_option maxHeartbeats 1000000
namespace CG
def fr : List Nat → List Nat → Nat
  | x :: a, y :: b => if x = y then fr a b + 1 else 0
  | _, _ => 0
def bk (a b : List Nat) : Nat := min (fr a.reverse b.reverse) (min a.length b.length - fr a b)
def ap (a : List Nat) (f k : Nat) (m : List Nat) : List Nat := a.take f ++ (m ++ a.drop (a.length - k))
end CG
namespace FL
open PySem PySem.Spec PyProof.Rows L2 DL FN
open CG
section
variable (a b : List Nat) (s2 s3 : DL.Slot)
end
end FL
set_option Elab.async false
set_option linter.all false
namespace CG
section
variable {a m : List Nat} {f k : Nat}
end
end CG
set_option Elab.async false
set_option linter.all false
namespace DL
open PySem PySem.Spec PyProof.Rows L2
def pl (bb : Bool) : Nat → D → Bool
  | _, .int _ => true
  | _, .none => true
  | _, .bool _ => bb
  | _, .str x => PyData.canLay0 (.str x)
  | n + 1, .list xs => xs.all (pl bb n)
  | n + 1, .tuple xs => xs.all (pl bb n)
  | _, _ => false
theorem pl_lay {bb : Bool} : ∀ (n : Nat) (d : D), pl bb n d = true → PyData.canLay0 d = true ∧ PyData.depth d ≤ n := by
  intro n
  induction n with
  | zero =>
    intro d h
    cases d with
    | str x => exact ⟨h, Nat.le_refl _⟩
    | list xs => exact absurd h (by simp [pl])
    | tuple xs => exact absurd h (by simp [pl])
    | dict xs => exact absurd h (by simp [pl])
    | _ => exact ⟨rfl, Nat.le_refl _⟩
  | succ n ih =>
    have all : ∀ xs : List D, xs.all (pl bb n) = true → PyData.canLayAll0 xs = true ∧ PyData.depthAll xs ≤ n := by
      intro xs
      induction xs with
      | nil => intro _; exact ⟨rfl, Nat.zero_le _⟩
      | cons x xs ihx =>
        intro h
        rw [List.all_cons, Bool.and_eq_true] at h
        obtain ⟨h1, h2⟩ := ih x h.1
        obtain ⟨h3, h4⟩ := ihx h.2
        constructor
        · show (PyData.canLay0 x && PyData.canLayAll0 xs) = true
          rw [h1, h3]
          rfl
        · show max (PyData.depth x) (PyData.depthAll xs) ≤ n
          omega
    intro d h
    cases d with
    | str x => exact ⟨h, Nat.zero_le _⟩
    | list xs =>
      obtain ⟨h1, h2⟩ := all xs h
      refine ⟨h1, ?_⟩
      show PyData.depthAll xs + 1 ≤ n + 1
      omega
    | tuple xs =>
      obtain ⟨h1, h2⟩ := all xs h
      refine ⟨h1, ?_⟩
      show PyData.depthAll xs + 1 ≤ n + 1
      omega
    | dict xs => exact absurd h (by simp [pl])
    | none => exact ⟨rfl, Nat.zero_le _⟩
    | bool b => exact ⟨rfl, Nat.zero_le _⟩
    | int i => exact ⟨rfl, Nat.zero_le _⟩
theorem pl_shaped {bb : Bool} {d : D} (n : Nat) (h : pl bb n d = true) (hn : n ≤ 64 := by decide) : SeqAt.shaped d = true := by
  obtain ⟨h1, h2⟩ := pl_lay n d h
  unfold SeqAt.shaped
  rw [h1, decide_eq_true (show PyData.depth d ≤ 64 by omega)]
  rfl
theorem eqD_same {d : D} (n : Nat) (h : pl true n d = true) (hn : n ≤ 64 := by decide) : eqD d d = some true := eqD_refl (pl_shaped n h hn)
section
variable {f g : FS} {t u : FT} {E fa fb fc fd fe : FE} {ρ ρ1 : Rho} {o : Option Out} {i : Nat} {v a b : Val} {A : FA} {vs : List Val}
theorem seqSet {d : D} (q : E ρ = some (.ok v)) (h : v.st = some d) (k : g (ρ.set i (.dat d)) = o) : fSeq (fSet i E) g ρ = o := seqN (r_set q h rfl) k
theorem seqSetO {ds : List D} (q : E ρ = some (.ok (.f ds))) (k : g (ρ.set i (.own ds)) = o) : fSeq (fSetO i E) g ρ = o := seqN (r_setO q rfl) k
theorem seqIfT {f1 f2 : FS} (h : t ρ = some (.ok true)) (k : fSeq f1 g ρ = o) : fSeq (fIf t f1 f2) g ρ = o := by
  unfold fSeq at k ⊢
  rw [r_ift h rfl]
  exact k
theorem seqIfF {f1 f2 : FS} (h : t ρ = some (.ok false)) (k : fSeq f2 g ρ = o) : fSeq (fIf t f1 f2) g ρ = o := by
  unfold fSeq at k ⊢
  rw [r_iff h rfl]
  exact k
theorem seqNx (k : g ρ = o) : fSeq fNx g ρ = o := k
theorem r_maxI {x y : Int} (ha : fa ρ = some (.ok (.s (.int x)))) (hb : fb ρ = some (.ok (.s (.int y)))) : eG bMax (aCons fa (aCons fb (aNil))) ρ = some (.ok (.s (.int (max x y)))) := by
  refine r_eG (r_args ha (r_args hb r_args0)) ?_
  show some (Val.s (PyData.int (if x < y then y else x))) = _
  congr 3
  split <;> omega
theorem r_minI {x y : Int} (ha : fa ρ = some (.ok (.s (.int x)))) (hb : fb ρ = some (.ok (.s (.int y)))) : eG bMin (aCons fa (aCons fb (aNil))) ρ = some (.ok (.s (.int (min x y)))) := by
  refine r_eG (r_args ha (r_args hb r_args0)) ?_
  show some (Val.s (PyData.int (if y < x then y else x))) = _
  congr 3
  split <;> omega
theorem atI_neg {α : Type} {xs : List α} {j : Nat} (h0 : 0 < j) (h : j ≤ xs.length) : atI xs (-(j : Int)) = some (xs[xs.length - j]'(by omega)) := by
  unfold atI ixN
  rw [if_neg (by omega), if_pos (by omega)]
  show xs[(-(j : Int) + (xs.length : Int)).toNat]? = _
  have e : (-(j : Int) + (xs.length : Int)).toNat = xs.length - j := by omega
  rw [e, List.getElem?_eq_getElem]
end
end DL
set_option Elab.async false
set_option linter.all false
namespace FN
open PySem PySem.Spec PyProof.Rows L2 DL
noncomputable section
end
end FN
set_option Elab.async false
set_option linter.all false
set_option maxRecDepth 100000
set_option maxHeartbeats 1000000
namespace FL
open PySem PySem.Spec PyProof.Rows L2 DL FN
open CG
local macro_rules | `(tactic| walk_at "ev") => `(tactic| first
  | exact r_v rfl
  | exact r_b rfl
  | with_reducible assumption
  | exact (show eC _ _ = _ from rfl)
  | ((with_reducible apply r_at) <;> first | walk_at "ev" | omega)
  | ((with_reducible apply r_addI) <;> walk_at "ev")
  | ((with_reducible apply r_subI) <;> walk_at "ev")
  | ((with_reducible apply r_mulI) <;> first | walk_at "ev" | exact cMul_l (by omega) (by omega) | exact cMul_r (by omega) (by omega))
  | ((with_reducible apply r_modI) <;> first | walk_at "ev" | omega)
  | ((with_reducible apply r_divI) <;> first | walk_at "ev" | omega)
  | ((with_reducible apply r_neg) <;> walk_at "ev")
  | ((with_reducible apply r_int) <;> walk_at "ev")
  | ((with_reducible apply r_maxI) <;> walk_at "ev")
  | ((with_reducible apply r_minI) <;> walk_at "ev")
  | ((with_reducible apply r_lenJ) <;> first | rfl | walk_at "ev")
  | ((with_reducible apply r_lenT) <;> first | rfl | walk_at "ev")
  | ((with_reducible apply r_len) <;> first | rfl | walk_at "ev")
  | ((with_reducible apply r_listOf) <;> first | walk_at "ev" | rfl)
  | ((with_reducible apply r_args0))
  | ((with_reducible apply r_args) <;> walk_at "ev")
  | ((with_reducible apply r_tup) <;> first | walk_at "ev" | rfl | (simp; done))
  | ((with_reducible apply r_lst) <;> first | walk_at "ev" | rfl | (simp; done))
  | ((with_reducible apply r_eqI_t) <;> first | walk_at "ev" | omega)
  | ((with_reducible apply r_eqI_f) <;> first | walk_at "ev" | omega)
  | ((with_reducible apply r_neI_t) <;> first | walk_at "ev" | omega)
  | ((with_reducible apply r_neI_f) <;> first | walk_at "ev" | omega)
  | ((with_reducible apply r_ltI_t) <;> first | walk_at "ev" | omega)
  | ((with_reducible apply r_ltI_f) <;> first | walk_at "ev" | omega)
  | ((with_reducible apply r_leI_t) <;> first | walk_at "ev" | omega)
  | ((with_reducible apply r_leI_f) <;> first | walk_at "ev" | omega)
  | ((with_reducible apply r_gtI_t) <;> first | walk_at "ev" | omega)
  | ((with_reducible apply r_gtI_f) <;> first | walk_at "ev" | omega)
  | ((with_reducible apply r_geI_t) <;> first | walk_at "ev" | omega)
  | ((with_reducible apply r_geI_f) <;> first | walk_at "ev" | omega)
  | ((with_reducible apply r_and_t) <;> walk_at "ev")
  | ((with_reducible apply r_and_f) <;> walk_at "ev")
  | ((with_reducible apply r_or_t) <;> walk_at "ev")
  | ((with_reducible apply r_or_f) <;> walk_at "ev")
  | ((with_reducible apply r_notT) <;> walk_at "ev")
  | ((with_reducible apply r_notF) <;> walk_at "ev")
  | ((with_reducible apply r_oS) <;> walk_at "ev"))
local macro_rules | `(tactic| walk_at "set") => `(tactic| ((with_reducible apply seqSet); walk_at "ev"; rfl; dsimp only [List.set]))
local macro_rules | `(tactic| walk_at "ift") => `(tactic| ((first | with_reducible apply seqIfT | with_reducible apply r_ift); walk_at "ev"))
local macro_rules | `(tactic| walk_at "iff") => `(tactic| ((first | with_reducible apply seqIfF | with_reducible apply r_iff); walk_at "ev"))
section
variable (a b : List Nat)
end
section
variable (a m : List Nat) (f k : Nat)
end
end FL
set_option Elab.async false
set_option linter.all false
namespace DL
open PySem PySem.Spec PyProof.Rows L2
section
variable {f g : FS} {t u : FT} {E fa fb fc fd fe : FE} {ρ ρ1 : Rho} {o : Option Out} {i : Nat} {v a b : Val} {A : FA} {vs : List Val}
theorem r_isN {x : Bool} (q : E ρ = some (.ok v)) (h : isNone v.d = x) : tV (e2 gIsN E (eC .none)) ρ = some (.ok x) := by
  refine r_tV (r_e2 q rfl ?_) rfl (v := .s (.bool x))
  subst h
  rfl
theorem r_notN {x : Bool} (q : E ρ = some (.ok v)) (h : isNone v.d = x) : tV (e2 gNotN E (eC .none)) ρ = some (.ok (!x)) := by
  refine r_tV (r_e2 q rfl ?_) rfl (v := .s (.bool (!x)))
  subst h
  rfl
def pr (p : Int × Int) : D := .tuple [.int p.1, .int p.2]
theorem pl_pr (bb : Bool) (n : Nat) (p : Int × Int) : pl bb (n + 1) (pr p) = true := by
  show (pl bb n (.int p.1) && (pl bb n (.int p.2) && true)) = true
  cases n <;> rfl
theorem pl_prs (bb : Bool) (n : Nat) (l : List (Int × Int)) : (l.map pr).all (pl bb (n + 1)) = true := by
  rw [List.all_eq_true]
  intro x hx
  obtain ⟨k, _, rfl⟩ := List.mem_map.mp hx
  exact pl_pr bb n k
end
end DL
set_option Elab.async false
set_option linter.all false
set_option maxRecDepth 100000
set_option maxHeartbeats 4000000
namespace FL
open PySem PySem.Spec PyProof.Rows L2 DL FN
open LF (Leaf)
open CR (crc g HV)
end FL
set_option Elab.async false
set_option linter.all false
set_option maxRecDepth 100000
namespace ST
def dec : List (List Nat) → List Nat
  | [] => []
  | b :: bs => b ++ (if b.length < 254 then [0] else []) ++ dec bs
def enc : List (List Nat) → List Nat
  | [] => []
  | b :: bs => (b.length + 1) :: b ++ enc bs
def full (bs : List (List Nat)) : Nat := bs.countP fun b => b.length == 254
def Ok (b : List Nat) : Prop := b.length ≤ 254 ∧ ∀ x ∈ b, 0 < x ∧ x < 256
def stp (s : List Nat × List Nat) (x : Nat) : List Nat × List Nat :=
  if x = 0 then (s.1 ++ (s.2.length + 1) :: s.2, []) else if s.2.length + 1 = 254 then (s.1 ++ 255 :: (s.2 ++ [x]), []) else (s.1, s.2 ++ [x])
def run (row : List Nat) : List Nat × List Nat := row.foldl stp ([], [])
def stuffed (row : List Nat) : List Nat := (run row).1 ++ ((run row).2.length + 1) :: (run row).2
structure Inv (row : List Nat) (s : List Nat × List Nat) : Prop where
  bs : ∃ bs, s.1 = enc bs ∧ row = dec bs ++ s.2 ∧ ∀ b ∈ bs, Ok b
  len : s.2.length < 254
  ok : ∀ x ∈ s.2, 0 < x ∧ x < 256
  small : s.1.length + s.2.length ≤ 2 * row.length
end ST
set_option Elab.async false
set_option linter.all false
namespace FN
open PySem PySem.Spec PyProof.Rows L2 DL
noncomputable section
end
end FN
set_option Elab.async false
set_option linter.all false
set_option maxRecDepth 100000
set_option maxHeartbeats 4000000
namespace FL
open PySem PySem.Spec PyProof.Rows L2 DL FN
open ST (stp stuffed enc dec full)
end FL
set_option Elab.async false
set_option linter.all false
set_option maxRecDepth 100000
namespace ST
end ST
namespace ST
end ST
set_option Elab.async false
set_option linter.all false
namespace PL
def nz : List Nat → Nat
  | [] => 0
  | x :: r => if x = 0 then 0 else nz r + 1
section
variable {α : Type} (f : α → List Nat)
def body : List α → List Nat
  | [] => []
  | l :: ls => f l ++ 0 :: body ls
end
end PL
set_option Elab.async false
set_option linter.all false
set_option maxRecDepth 100000
set_option maxHeartbeats 1000000
namespace DL
open PySem PySem.Spec PyProof.Rows L2
theorem mk_ret_at {f : FS} {n k : Nat} {ds : List D} {d : D} {ρ0 : Rho} (e : ds.map .dat ++ List.replicate (k - n) .un = ρ0) (h : f ρ0 = some (.ret d)) : mkD n k f ds = some (.ret d) := by
  subst e
  exact mk_ret h
theorem lcL_filter {α : Type} {tt : FT} {fe : FE} {st : D → Option Rho} (dat : α → D) (F : α → D) (p : α → Bool) : ∀ {xs : List α}, (∀ x ∈ xs, ∃ ρ, st (dat x) = some ρ ∧ tt ρ = some (.ok (p x)) ∧ (p x = true → ∃ v, fe ρ = some (.ok v) ∧ v.st = some (F x))) → lcL tt fe st (xs.map dat) = some ((xs.filter p).map F)
  | [], _ => rfl
  | x :: xs, h => by
    obtain ⟨ρ, h1, h2, h3⟩ := h x List.mem_cons_self
    have ih := lcL_filter (tt := tt) (fe := fe) (st := st) dat F p (xs := xs) fun y hy => h y (List.mem_cons_of_mem _ hy)
    rw [List.map_cons, List.filter_cons]
    unfold lcL
    rw [h1]
    dsimp only
    rw [h2]
    cases hp : p x with
    | false => exact ih
    | true =>
      obtain ⟨v, h4, h5⟩ := h3 hp
      dsimp only
      rw [h4]
      dsimp only
      rw [h5, ih]
      rfl
theorem eLc_filter {α : Type} {vs : List Nat} {st : Rho → D → Option Rho} {it : FI} {tt : FT} {fe : FE} {ρ : Rho} (dat F : α → D) (p : α → Bool) {xs : List α} (h0 : noOwn ρ vs = true) (ha : it ρ = some (.ok (xs.map dat))) (hl : xs.length ≤ 16777216)
    (h : ∀ x ∈ xs, ∃ ρ1, st (wipeR ρ vs) (dat x) = some ρ1 ∧ tt ρ1 = some (.ok (p x)) ∧ (p x = true → ∃ v, fe ρ1 = some (.ok v) ∧ v.st = some (F x))) : eLcG vs st it tt fe ρ = some (.ok (.f ((xs.filter p).map F))) := by
  have e : lcL tt fe (st (wipeR ρ vs)) (xs.map dat) = some ((xs.filter p).map F) := lcL_filter dat F p h
  unfold eLcG
  rw [if_pos h0, ha]
  dsimp only
  rw [e]
  dsimp only
  rw [if_pos (lineOk_small (by
    rw [List.length_map]
    have := List.length_filter_le p xs
    omega))]
end DL
namespace FL
open PySem PySem.Spec PyProof.Rows L2 DL FN
open LF (Leaf)
open PL
open ST (stuffed)
local macro_rules | `(tactic| walk_at "ev") => `(tactic| first
  | exact r_v rfl
  | exact r_b rfl
  | with_reducible assumption
  | exact (show eC _ _ = _ from rfl)
  | ((with_reducible apply r_at) <;> first | walk_at "ev" | omega)
  | ((with_reducible apply r_addI) <;> walk_at "ev")
  | ((with_reducible apply r_subI) <;> walk_at "ev")
  | ((with_reducible apply r_mulI) <;> first | walk_at "ev" | exact cMul_l (by omega) (by omega) | exact cMul_r (by omega) (by omega))
  | ((with_reducible apply r_modI) <;> first | walk_at "ev" | omega)
  | ((with_reducible apply r_divI) <;> first | walk_at "ev" | omega)
  | ((with_reducible apply r_neg) <;> walk_at "ev")
  | ((with_reducible apply r_int) <;> walk_at "ev")
  | ((with_reducible apply r_maxI) <;> walk_at "ev")
  | ((with_reducible apply r_minI) <;> walk_at "ev")
  | ((with_reducible apply r_lenJ) <;> first | rfl | walk_at "ev")
  | ((with_reducible apply r_lenT) <;> first | rfl | walk_at "ev")
  | ((with_reducible apply r_len) <;> first | rfl | walk_at "ev")
  | ((with_reducible apply r_listOf) <;> first | walk_at "ev" | rfl)
  | ((with_reducible apply r_args0))
  | ((with_reducible apply r_args) <;> walk_at "ev")
  | ((with_reducible apply r_tup) <;> first | walk_at "ev" | rfl | (simp; done))
  | ((with_reducible apply r_lst) <;> first | walk_at "ev" | rfl | (simp; done))
  | ((with_reducible apply r_eqI_t) <;> first | walk_at "ev" | omega)
  | ((with_reducible apply r_eqI_f) <;> first | walk_at "ev" | omega)
  | ((with_reducible apply r_neI_t) <;> first | walk_at "ev" | omega)
  | ((with_reducible apply r_neI_f) <;> first | walk_at "ev" | omega)
  | ((with_reducible apply r_ltI_t) <;> first | walk_at "ev" | omega)
  | ((with_reducible apply r_ltI_f) <;> first | walk_at "ev" | omega)
  | ((with_reducible apply r_leI_t) <;> first | walk_at "ev" | omega)
  | ((with_reducible apply r_leI_f) <;> first | walk_at "ev" | omega)
  | ((with_reducible apply r_gtI_t) <;> first | walk_at "ev" | omega)
  | ((with_reducible apply r_gtI_f) <;> first | walk_at "ev" | omega)
  | ((with_reducible apply r_geI_t) <;> first | walk_at "ev" | omega)
  | ((with_reducible apply r_geI_f) <;> first | walk_at "ev" | omega)
  | ((with_reducible apply r_and_t) <;> walk_at "ev")
  | ((with_reducible apply r_and_f) <;> walk_at "ev")
  | ((with_reducible apply r_or_t) <;> walk_at "ev")
  | ((with_reducible apply r_or_f) <;> walk_at "ev")
  | ((with_reducible apply r_notT) <;> walk_at "ev")
  | ((with_reducible apply r_notF) <;> walk_at "ev")
  | ((with_reducible apply r_oS) <;> walk_at "ev"))
local macro_rules | `(tactic| walk_at "set") => `(tactic| ((with_reducible apply seqSet); walk_at "ev"; rfl; dsimp only [List.set]))
local macro_rules | `(tactic| walk_at "ift") => `(tactic| ((first | with_reducible apply seqIfT | with_reducible apply r_ift); walk_at "ev"))
local macro_rules | `(tactic| walk_at "iff") => `(tactic| ((first | with_reducible apply seqIfF | with_reducible apply r_iff); walk_at "ev"))
end FL
set_option Elab.async false
set_option linter.all false
set_option maxRecDepth 100000
set_option maxHeartbeats 4000000
namespace DL
open PySem PySem.Spec PyProof.Rows L2
theorem intsW_map : ∀ ns : List Int, intsW (ns.map .int) = some ns
  | [] => rfl
  | n :: ns => by
    rw [List.map_cons]
    unfold intsW
    rw [intsW_map ns]
    rfl
theorem r_sortSet {fe : FE} {ρ : Rho} {v : Val} {ns : List Int} (q : fe ρ = some (.ok v)) (hv : v.d = .list (ns.map .int)) (hl : ns.length < 63) : eSortSet fe ρ = some (.ok (.f ((sortU ns).map .int))) := by
  unfold eSortSet bE
  rw [q]
  dsimp only
  rw [hv]
  dsimp only
  rw [intsW_map]
  dsimp only
  rw [if_pos hl]
theorem r_deep {i j k kx n : Nat} {F : TF} {g : FA} {t1 t3 : FT} {f2 : FE} {rest : FS} {ρ : Rho} {vs : List Val} {as ds es : List D} (h0 : (noOwn ρ [i, j, k] && (decide (i ≠ j) && (decide (i ≠ k) && (decide (j ≠ k) && (decide (i < ρ.length) && decide (k < ρ.length)))))) = true) (hg : g ρ = some (.ok vs)) (hst : stAll vs = some as) (hn : as.length = n)
    (hF : F as = some ds) (hd : deepOk kx ds = true) (h1 : t1 ((ρ.set i .un).set i (.dat (.list ds))) = some (.ok false)) (h2 : f2 ((ρ.set i .un).set i (.dat (.list ds))) = some (.ok (.f es))) (hnl : noLsts es = true)
    (h3 : t3 (((ρ.set i .un).set j (.dat (.list es))).set i (.dat (.list ds))) = some (.ok false)) : fDeep i j k kx F n g t1 f2 t3 rest ρ = rest ((((ρ.set i .un).set j (.dat (.list es))).set i .un).set k .un) := by
  unfold fDeep
  rw [if_pos h0, hg]
  dsimp only
  rw [hst]
  dsimp only
  rw [if_pos hn, hF]
  dsimp only
  rw [if_pos hd, h1]
  dsimp only
  rw [h2]
  dsimp only
  rw [if_pos hnl, h3]
end DL
namespace FL
open PySem PySem.Spec PyProof.Rows L2 DL FN
structure QF where
  kind : Int
  stamp : Int
  num : Int
  k : Nat
  b : Int
def lf45 (f : QF) : D := .tuple [.int f.kind, .int f.stamp, .int f.num, .int 1, .int (f.k : Int), .int (f.k : Int), .int 1, .int 1, .list [.int f.b]]
def fd45 (f : QF) : D := .tuple [.int (10 * (f.k : Int) + 1), .int (10 * (f.k : Int) + 9), lf45 f]
theorem pl_lf45 (f : QF) : pl true 2 (lf45 f) = true := rfl
theorem pl_lfs45 (fs : List QF) : pl true 3 (.list (fs.map lf45)) = true := by
  show (fs.map lf45).all (pl true 2) = true
  rw [List.all_map]
  exact List.all_eq_true.mpr fun f _ => pl_lf45 f
theorem pl_fds45 (fs : List QF) : pl true 4 (.list (fs.map fd45)) = true := by
  show (fs.map fd45).all (pl true 3) = true
  rw [List.all_map]
  exact List.all_eq_true.mpr fun f _ => rfl
theorem stamps45_ok (fs : List QF) (h : fs.length ≤ 60) : FN.d_stamps [.list (fs.map fd45)] = some (.retF ((sortU (fs.map (·.stamp))).map .int)) := by
  unfold FN.d_stamps FN.b_stamps
  refine mk_retF (r_retF (r_sortSet (v := .f (fs.map fun f => .int f.stamp)) (eLc_seq (dat := fd45) (F := fun f => .int f.stamp) rfl (r_seqL (r_v rfl)) (by omega) fun f hf => ⟨_, _, rfl, rfl, rfl, rfl⟩) (by rw [List.map_map]; rfl) (by rw [List.length_map]; omega)))
theorem own45_ok (f : QF) : FN.t_own [lf45 f] = some (lf45 f) := rfl
def stepR (s : Int) (ps : List (Int × QF)) (f : QF) : List (Int × QF) := if f.stamp = s then (if (ps.find? fun p => p.1 == f.num).isSome then ps else ps ++ [(f.num, f)]) else ps
def enR (ps : List (Int × QF)) : List (Int × D) := ps.map fun p => (p.1, lf45 p.2)
theorem dicGet_enR (n : Int) : ∀ ps : List (Int × QF), dicGet (enR ps) n = (ps.find? fun p => p.1 == n).map fun p => lf45 p.2
  | [] => rfl
  | p :: ps => by
    show (if p.1 = n then some (lf45 p.2) else dicGet (enR ps) n) = _
    rw [List.find?_cons]
    by_cases h : p.1 = n
    · rw [if_pos h, show (p.1 == n) = true from beq_iff_eq.mpr h]
      rfl
    · rw [if_neg h, show (p.1 == n) = false from beq_eq_false_iff_ne.mpr h, dicGet_enR n ps]
theorem rollL45 (s : Int) (d0 : D) (a : Addr) : ∀ (fs : List QF) (ps : List (Int × QF)) (s3 s4 : DL.Slot), ps.length + fs.length ≤ 60 →
    rollL 2 (gT 3 (gsCons 3 (gsCons 3 (gsCons 4 (gsNil))))) (tV (e2 gEq (e2 gIx (eV 4) (eC (.int 1))) (eV 1))) (e2 gIx (eV 4) (eC (.int 2))) (aCons (eV 4) (aNil)) FN.t_own (fs.map fd45) [.dat d0, .dat (.int s), .pin a, s3, s4, .un] (enR ps) = some (enR (fs.foldl (stepR s) ps))
  | [], ps, s3, s4, _ => by
    rw [List.map_nil]
    unfold rollL
    rfl
  | f :: fs, ps, s3, s4, hl => by
    rw [List.length_cons] at hl
    rw [List.map_cons]
    unfold rollL
    rw [show gT 3 (gsCons 3 (gsCons 3 (gsCons 4 (gsNil)))) (fd45 f) [.dat d0, .dat (.int s), .pin a, s3, s4, .un] = some [.dat d0, .dat (.int s), .pin a, .dat (.int (10 * (f.k : Int) + 9)), .dat (lf45 f), .un] from rfl]
    dsimp only
    rw [if_pos ⟨rfl, rfl⟩]
    have et : tV (e2 gEq (e2 gIx (eV 4) (eC (.int 1))) (eV 1)) [.dat d0, .dat (.int s), .pin a, .dat (.int (10 * (f.k : Int) + 9)), .dat (lf45 f), .un] = some (.ok (f.stamp == s)) := r_tV (r_eqI (i := f.stamp) (j := s) rfl rfl) rfl
    have ek : e2 gIx (eV 4) (eC (.int 2)) [.dat d0, .dat (.int s), .pin a, .dat (.int (10 * (f.k : Int) + 9)), .dat (lf45 f), .un] = some (.ok (.s (.int f.num))) := rfl
    have eg : aCons (eV 4) (aNil) [.dat d0, .dat (.int s), .pin a, .dat (.int (10 * (f.k : Int) + 9)), .dat (lf45 f), .un] = some (.ok [.s (lf45 f)]) := rfl
    rw [et, List.foldl_cons]
    by_cases hs : f.stamp = s
    · rw [show (f.stamp == s) = true from beq_iff_eq.mpr hs]
      dsimp only
      rw [ek]
      show (if (dicGet (enR ps) f.num).isSome = true then _ else _) = _
      rw [dicGet_enR, Option.isSome_map]
      by_cases hi : (ps.find? fun p => p.1 == f.num).isSome = true
      · rw [if_pos hi, show stepR s ps f = ps by unfold stepR; rw [if_pos hs, if_pos hi]]
        exact rollL45 s d0 a fs ps _ _ (by omega)
      · rw [if_neg hi, eg]
        show (if (1 : Nat) = 1 then _ else _) = _
        rw [if_pos rfl, own45_ok]
        dsimp only
        rw [if_pos (by unfold enR; rw [List.length_map]; omega), show stepR s ps f = ps ++ [(f.num, f)] by unfold stepR; rw [if_pos hs, if_neg hi]]
        have e : enR ps ++ [(f.num, lf45 f)] = enR (ps ++ [(f.num, f)]) := by unfold enR; rw [List.map_append]; rfl
        rw [e]
        exact rollL45 s d0 a fs _ _ _ (by rw [List.length_append, List.length_singleton]; omega)
    · rw [show (f.stamp == s) = false from beq_eq_false_iff_ne.mpr hs]
      dsimp only
      rw [show stepR s ps f = ps by unfold stepR; rw [if_neg hs]]
      exact rollL45 s d0 a fs ps _ _ (by omega)
def fstQ (fs : List QF) (s n : Int) : Option QF := fs.find? fun f => f.stamp == s && f.num == n
structure RInv (s : Int) (pre : List QF) (acc : List (Int × QF)) : Prop where
  get : ∀ n, (acc.find? fun p => p.1 == n).map (·.2) = fstQ pre s n
  nd : (acc.map (·.1)).Nodup
  num : ∀ p ∈ acc, p.1 = p.2.num ∧ p.2 ∈ pre
theorem RInv.step {s : Int} {pre : List QF} {acc : List (Int × QF)} (I : RInv s pre acc) (f : QF) : RInv s (pre ++ [f]) (stepR s acc f) := by
  have app : ∀ n, fstQ (pre ++ [f]) s n = (fstQ pre s n).or (if (f.stamp == s && f.num == n) = true then some f else none) := fun n => by
    unfold fstQ
    rw [List.find?_append]
    congr 1
    rw [List.find?_cons]
    cases (f.stamp == s && f.num == n) <;> rfl
  unfold stepR
  by_cases hs : f.stamp = s
  · rw [if_pos hs]
    by_cases hi : (acc.find? fun p => p.1 == f.num).isSome = true
    · rw [if_pos hi]
      refine ⟨fun n => ?_, I.nd, fun p hp => ⟨(I.num p hp).1, List.mem_append_left _ (I.num p hp).2⟩⟩
      rw [app, I.get]
      by_cases hn : f.num = n
      · subst hn
        have := I.get f.num
        cases q : fstQ pre s f.num with
        | none =>
          rw [q] at this
          rw [Option.map_eq_none_iff.mp this] at hi
          cases hi
        | some g => rfl
      · rw [show (f.num == n) = false from beq_eq_false_iff_ne.mpr hn, Bool.and_false, if_neg (by decide)]
        cases fstQ pre s n <;> rfl
    · rw [if_neg hi]
      have hnone : (acc.find? fun p => p.1 == f.num) = none := by
        cases q : (acc.find? fun p => p.1 == f.num) with
        | none => rfl
        | some p => rw [q] at hi; exact absurd rfl hi
      refine ⟨fun n => ?_, ?_, fun p hp => ?_⟩
      · rw [app, List.find?_append]
        by_cases hn : f.num = n
        · subst hn
          rw [hnone]
          have := I.get f.num
          rw [hnone] at this
          rw [← this, show (f.stamp == s) = true from beq_iff_eq.mpr hs]
          simp
        · have e1 : ([(f.num, f)].find? fun p => p.1 == n) = none := by
            rw [List.find?_cons, show (f.num == n) = false from beq_eq_false_iff_ne.mpr hn]
            rfl
          rw [e1, show (f.num == n) = false from beq_eq_false_iff_ne.mpr hn, Bool.and_false, if_neg (by decide), Option.or_none, Option.or_none]
          exact I.get n
      · rw [List.map_append, List.nodup_append]
        refine ⟨I.nd, by simp, fun a ha b hb => ?_⟩
        obtain ⟨p, hp, rfl⟩ := List.mem_map.mp ha
        have hb' : b = f.num := by simpa using hb
        subst hb'
        intro z
        have := List.find?_eq_none.mp hnone p hp
        rw [z] at this
        simp at this
      · rcases List.mem_append.mp hp with hp | hp
        · exact ⟨(I.num p hp).1, List.mem_append_left _ (I.num p hp).2⟩
        · have : p = (f.num, f) := by simpa using hp
          subst this
          exact ⟨rfl, List.mem_append_right _ (by simp)⟩
  · rw [if_neg hs]
    refine ⟨fun n => ?_, I.nd, fun p hp => ⟨(I.num p hp).1, List.mem_append_left _ (I.num p hp).2⟩⟩
    rw [app, show (f.stamp == s) = false from beq_eq_false_iff_ne.mpr hs, Bool.false_and, if_neg (by decide), Option.or_none]
    exact I.get n
theorem RInv.fold {s : Int} : ∀ (fs pre : List QF) (acc : List (Int × QF)), RInv s pre acc → RInv s (pre ++ fs) (fs.foldl (stepR s) acc)
  | [], pre, acc, I => by rw [List.append_nil]; exact I
  | f :: fs, pre, acc, I => by
    have := RInv.fold fs (pre ++ [f]) _ (I.step f)
    rw [List.append_assoc] at this
    exact this
def rl45 (fs : List QF) (s : Int) : List QF := (List.range 8).filterMap fun (n : Nat) => fstQ fs s (n : Int)
def numsOk (fs : List QF) : Prop := ∀ f ∈ fs, 0 ≤ f.num ∧ f.num < 8
theorem fstQ_at {fs : List QF} {s n : Int} {f : QF} (h : fstQ fs s n = some f) : f ∈ fs ∧ f.stamp = s ∧ f.num = n := by
  have h1 := List.mem_of_find?_eq_some h
  have h2 := List.find?_some h
  simp at h2
  exact ⟨h1, h2.1, h2.2⟩
theorem mapM_range {β : Type} (G : Int → Option β) : ∀ (l : List Nat), ((l.filter fun (n : Nat) => (G (n : Int)).isSome).map fun (n : Nat) => (n : Int)).mapM G = some (l.filterMap fun (n : Nat) => G (n : Int))
  | [] => rfl
  | n :: l => by
    rw [List.filter_cons, List.filterMap_cons]
    cases h : G (n : Int) with
    | none =>
      rw [if_neg (by simp)]
      exact mapM_range G l
    | some x =>
      rw [if_pos (by rfl), List.map_cons, List.mapM_cons, h, mapM_range G l]
      rfl
theorem roll45_t {fs : List QF} (hn : numsOk fs) (hl : fs.length ≤ 60) (s : Int) : FN.t_roll [.list (fs.map fd45), .int s] = some ((rl45 fs s).map lf45) := by
  have I := RInv.fold (s := s) fs [] [] ⟨fun n => rfl, List.Pairwise.nil, fun p hp => nomatch hp⟩
  rw [List.nil_append] at I
  generalize hps : fs.foldl (stepR s) [] = ps at I
  have hp : pinned 2 (rollA 2 (iSeq (eV 0)) (gT 3 (gsCons 3 (gsCons 3 (gsCons 4 (gsNil))))) (tV (e2 gEq (e2 gIx (eV 4) (eC (.int 1))) (eV 1))) (e2 gIx (eV 4) (eC (.int 2))) (aCons (eV 4) (aNil)) FN.t_own) [.dat (.list (fs.map fd45)), .dat (.int s), .un, .un, .un, .un] = some (enR ps) := pinned_of fun a => by
    show (match iSeq (eV 0) [.dat (.list (fs.map fd45)), .dat (.int s), .pin a, .un, .un, .un] with
      | some (.ok ds) => _
      | _ => none) = _
    rw [show iSeq (eV 0) [.dat (.list (fs.map fd45)), .dat (.int s), .pin a, .un, .un, .un] = some (.ok (fs.map fd45)) from r_seqL (r_v rfl)]
    dsimp only
    have := rollL45 s (.list (fs.map fd45)) a fs [] .un .un (by simpa using hl)
    rw [hps] at this
    exact this
  show fRoll 2 5 _ _ _ _ _ _ [.dat (.list (fs.map fd45)), .dat (.int s), .un, .un, .un, .un] = _
  unfold fRoll
  refine (if_pos (by rfl)).trans ?_
  rw [hp]
  show (sortI ((enR ps).map (·.1))).mapM (dicGet (enR ps)) = _
  have hk : (enR ps).map (·.1) = ps.map (·.1) := by unfold enR; rw [List.map_map]; rfl
  have hG : ∀ n, dicGet (enR ps) n = (fstQ fs s n).map lf45 := fun n => by
    rw [dicGet_enR, ← I.get n, Option.map_map]
    rfl
  have hmem : ∀ z, z ∈ ps.map (·.1) ↔ (fstQ fs s z).isSome = true := fun z => by
    rw [← I.get z, Option.isSome_map, List.find?_isSome]
    simp
  have hns : (((List.range 8).filter fun (n : Nat) => ((fstQ fs s (n : Int)).map lf45).isSome).map fun (n : Nat) => (n : Int)) = sortI (ps.map (·.1)) := by
    refine sortI_of ?_ ?_
    · refine (List.perm_ext_iff_of_nodup ?_ I.nd).mpr fun z => ?_
      · exact List.pairwise_map.mpr (List.Pairwise.filter _ ((List.pairwise_lt_range (n := 8)).imp fun h => by omega))
      · rw [hmem, List.mem_map]
        constructor
        · rintro ⟨n, hn, rfl⟩
          have := (List.mem_filter.mp hn).2
          rw [Option.isSome_map] at this
          exact this
        · intro h
          obtain ⟨f, hf⟩ := Option.isSome_iff_exists.mp h
          obtain ⟨h1, _, h3⟩ := fstQ_at hf
          have := hn f h1
          refine ⟨z.toNat, List.mem_filter.mpr ⟨List.mem_range.mpr (by omega), ?_⟩, by omega⟩
          rw [Option.isSome_map, show ((z.toNat : Nat) : Int) = z by omega]
          exact h
    · refine List.pairwise_map.mpr (List.Pairwise.filter _ ?_)
      exact (List.pairwise_lt_range (n := 8)).imp fun h => by omega
  rw [hk, ← hns, show dicGet (enR ps) = fun n => (fstQ fs s n).map lf45 from funext hG]
  have := mapM_range (fun n => (fstQ fs s n).map lf45) (List.range 8)
  rw [this]
  unfold rl45
  rw [List.map_filterMap]
theorem roll45_ok {fs : List QF} (hn : numsOk fs) (hl : fs.length ≤ 60) (s : Int) : FN.d_roll [.list (fs.map fd45), .int s] = some (.retF ((rl45 fs s).map lf45)) := by
  show (FN.t_roll [.list (fs.map fd45), .int s]).map DOut.retF = _
  rw [roll45_t hn hl s]
  rfl
end FL
set_option Elab.async false
set_option linter.all false
set_option maxRecDepth 100000
set_option maxHeartbeats 4000000
namespace FL
open PySem PySem.Spec PyProof.Rows L2 DL FN
theorem take1_find {α : Type} (p : α → Bool) : ∀ l : List α, (l.filter p).take 1 = (l.find? p).toList
  | [] => rfl
  | x :: l => by
    rw [List.filter_cons, List.find?_cons]
    cases h : p x with
    | true => rw [if_pos rfl]; rfl
    | false => rw [if_neg (by decide)]; exact take1_find p l
theorem fm_one {α β : Type} (G : α → Option β) (x : α) : [x].filterMap G = (G x).toList := by
  rw [List.filterMap_cons, List.filterMap_nil]
  cases G x <;> rfl
theorem due_roll45_ok {fs : List QF} (hl : fs.length ≤ 60) (s : Int) : FN.d__law_due_roll [.list (fs.map fd45), .int s] = some (.ret (.list ((rl45 fs s).map lf45))) := by
  unfold FN.d__law_due_roll FN.b__law_due_roll
  refine mk_ret ?_
  show (_ : FS) [.dat (.list (fs.map fd45)), .dat (.int s), .un, .un, .un, .un, .un, .un] = _
  refine seqSet (v := .f []) (d := .list []) rfl rfl ?_
  dsimp only [List.set]
  obtain ⟨ρ', e, s3, s4, rfl⟩ := forL_inv (g := gN 3) (body := fSeq (fSet 4 (eLcG [5, 6, 7] (stT [5, 6, 7]) (iSeq (eV 0)) (tAndD (tV (e2 gEq (e2 gIx (eV 7) (eC (.int 1))) (eV 1))) (tV (e2 gEq (e2 gIx (eV 7) (eC (.int 2))) (eV 3)))) (eV 7))) (fSet 2 (e2 gAdd (eV 2) (eSl (eV 4) (oNone) (oSome (eC (.int 1)))))))
    (ds := rangeD 0 8) (ρ := [.dat (.list (fs.map fd45)), .dat (.int s), .dat (.list []), .un, .un, .un, .un, .un])
    (fun i ρ => ∃ s3 s4 : DL.Slot, ρ = [.dat (.list (fs.map fd45)), .dat (.int s), .dat (.list (((List.range i).filterMap fun (n : Nat) => fstQ fs s (n : Int)).map lf45)), s3, s4, .un, .un, .un]) ⟨_, _, rfl⟩ (by
      rintro i d ρ hd ⟨s3, s4, rfl⟩
      obtain ⟨hi, rfl⟩ := rangeD0_at hd
      refine ⟨[.dat (.list (fs.map fd45)), .dat (.int s), .dat (.list (((List.range i).filterMap fun (n : Nat) => fstQ fs s (n : Int)).map lf45)), .dat (.int (i : Int)), s4, .un, .un, .un], _, rfl, ?_, .dat (.int (i : Int)), .dat (.list ((fs.filter fun f => f.stamp == s && f.num == (i : Int)).map lf45)), rfl⟩
      have q := eLc_filter (vs := [5, 6, 7]) (st := stT [5, 6, 7]) (it := iSeq (eV 0)) (tt := tAndD (tV (e2 gEq (e2 gIx (eV 7) (eC (.int 1))) (eV 1))) (tV (e2 gEq (e2 gIx (eV 7) (eC (.int 2))) (eV 3)))) (fe := eV 7)
        (ρ := [.dat (.list (fs.map fd45)), .dat (.int s), .dat (.list (((List.range i).filterMap fun (n : Nat) => fstQ fs s (n : Int)).map lf45)), .dat (.int (i : Int)), s4, .un, .un, .un]) fd45 lf45 (fun f => f.stamp == s && f.num == (i : Int)) (xs := fs) rfl (r_seqL (r_v rfl)) (by omega) (fun f hf => by
          refine ⟨[.dat (.list (fs.map fd45)), .dat (.int s), .dat (.list (((List.range i).filterMap fun (n : Nat) => fstQ fs s (n : Int)).map lf45)), .dat (.int (i : Int)), s4, .dat (.int (10 * (f.k : Int) + 1)), .dat (.int (10 * (f.k : Int) + 9)), .dat (lf45 f)], rfl, ?_, fun _ => ⟨.s (lf45 f), rfl, rfl⟩⟩
          have e1 : tV (e2 gEq (e2 gIx (eV 7) (eC (.int 1))) (eV 1)) [.dat (.list (fs.map fd45)), .dat (.int s), .dat (.list (((List.range i).filterMap fun (n : Nat) => fstQ fs s (n : Int)).map lf45)), .dat (.int (i : Int)), s4, .dat (.int (10 * (f.k : Int) + 1)), .dat (.int (10 * (f.k : Int) + 9)), .dat (lf45 f)] = some (.ok (f.stamp == s)) := r_tV (r_eqI (i := f.stamp) (j := s) rfl rfl) rfl
          cases hb : (f.stamp == s) with
          | false =>
            rw [hb] at e1
            exact r_and_f e1
          | true =>
            rw [hb] at e1
            exact r_and_t e1 (r_tV (r_eqI (i := f.num) (j := (i : Int)) rfl rfl) rfl))
      refine seqN (r_set q rfl rfl) ?_
      have c := cutL_to ((fs.filter fun f => f.stamp == s && f.num == (i : Int)).map lf45) 1
      refine r_set (d := .list (((List.range (i + 1)).filterMap fun (n : Nat) => fstQ fs s (n : Int)).map lf45)) (v := .f (((List.range (i + 1)).filterMap fun (n : Nat) => fstQ fs s (n : Int)).map lf45)) ?_ rfl rfl
      have hlen := List.length_filterMap_le (fun (n : Nat) => fstQ fs s (n : Int)) (List.range i)
      rw [List.length_range] at hlen
      have q2 := r_cat (xs := ((List.range i).filterMap fun (n : Nat) => fstQ fs s (n : Int)).map lf45) (ys := ((fs.filter fun f => f.stamp == s && f.num == (i : Int)).map lf45).take 1) (fa := eV 2) (fb := eSl (eV 4) (oNone) (oSome (eC (.int 1)))) (ρ := [.dat (.list (fs.map fd45)), .dat (.int s), .dat (.list (((List.range i).filterMap fun (n : Nat) => fstQ fs s (n : Int)).map lf45)), .dat (.int (i : Int)), .dat (.list ((fs.filter fun f => f.stamp == s && f.num == (i : Int)).map lf45)), .un, .un, .un])
        (r_v rfl) (r_sl (xs := (fs.filter fun f => f.stamp == s && f.num == (i : Int)).map lf45) (lo := none) (hi := some 1) (r_v rfl) (.inl rfl) rfl (r_oS rfl)) rfl (by rw [← c]; rfl) rfl (by
          rw [List.length_map]
          have := List.length_take_le 1 ((fs.filter fun f => f.stamp == s && f.num == (i : Int)).map lf45)
          omega)
      have e : ((List.range i).filterMap fun (n : Nat) => fstQ fs s (n : Int)).map lf45 ++ ((fs.filter fun f => f.stamp == s && f.num == (i : Int)).map lf45).take 1 = ((List.range (i + 1)).filterMap fun (n : Nat) => fstQ fs s (n : Int)).map lf45 := by
        rw [List.range_succ, List.filterMap_append, List.map_append, fm_one, ← List.map_take, take1_find]
        rfl
      rw [e] at q2
      exact q2)
  refine seqN (r_for (xs := rangeD 0 8) rfl e) ?_
  exact r_ret (r_v rfl)
end FL
set_option Elab.async false
set_option linter.all false
set_option maxRecDepth 100000
set_option maxHeartbeats 4000000
namespace DL
open PySem PySem.Spec PyProof.Rows L2
theorem r_notIn0 {fa fb : FE} {ρ : Rho} {v : Val} {n : Nat} {r : List Nat} (ha : fa ρ = some (.ok (.s (.int (n : Int))))) (hb : fb ρ = some (.ok v)) (hv : v.d = .list (jd r)) : tV (e2 gNotIn fa fb) ρ = some (.ok (!r.contains n)) := by
  refine r_tV (v := .s (.bool (!r.contains n))) (r_e2 ha hb ?_) rfl
  unfold gNotIn gInX
  rw [hv]
  show (if (scalarD (.int (n : Int)) && (jd r).all scalarD) = true then some (Val.s (.bool (if true then !inD (.int (n : Int)) (jd r) else inD (.int (n : Int)) (jd r)))) else none) = _
  rw [if_pos (by rw [jd_scalar]; rfl), inD_jd]
  rfl
end DL
namespace FL
open PySem PySem.Spec PyProof.Rows L2 DL FN
def endF (ls : List QF) : Bool := match ls.getLast? with
  | some f => !(f.kind == 4)
  | none => false
theorem end_test {ls : List QF} {ρ : Rho} (h : ρ[0]? = some (.dat (.list (ls.map lf45)))) : tAndD (tV (e2 gGtX (eG bLen (aCons (eV 0) (aNil))) (eC (.int 0)))) (tV (e2 gNe (e2 gIx (e2 gIx (eV 0) (e1 gNeg (eC (.int 1)))) (eC (.int 0))) (eC (.int 4)))) ρ = some (.ok (endF ls)) := by
  have hl := r_len (es := ls.map lf45) (E := eV 0) (ρ := ρ) (r_v h) rfl
  rcases List.eq_nil_or_concat ls with rfl | ⟨l, f, rfl⟩
  · exact r_and_f (r_gtI_f hl rfl (by simp))
  · rw [List.concat_eq_append] at h hl ⊢
    refine r_and_t (r_gtI_t hl rfl (by rw [List.length_map, List.length_append]; simp)) ?_
    have e : endF (l ++ [f]) = !(f.kind == 4) := by
      unfold endF
      rw [List.getLast?_append]
      rfl
    rw [e]
    have hat : atI ((l ++ [f]).map lf45) (-1) = some (lf45 f) := by
      have := atI_neg (xs := (l ++ [f]).map lf45) (j := 1) (by decide) (by rw [List.length_map, List.length_append]; simp)
      rw [show (-((1 : Nat) : Int)) = -1 from rfl] at this
      rw [this]
      congr 1
      simp
    have q := r_ix (fa := eV 0) (fb := e1 gNeg (eC (.int 1))) (ρ := ρ) (r_v h) (r_neg rfl) hat
    have q2 : e2 gIx (e2 gIx (eV 0) (e1 gNeg (eC (.int 1)))) (eC (.int 0)) ρ = some (.ok (.s (.int f.kind))) := r_e2 q rfl rfl
    exact r_tV (r_neI q2 rfl) rfl
def gstep (st : List (Int × Int) × Int) (f : QF) : List (Int × Int) × Int := (if st.2 < f.num then st.1 ++ [(st.2, f.num)] else st.1, f.num + 1)
def gp45 (ls : List QF) : List (Int × Int) := (ls.foldl gstep ([], 0)).1 ++ (if endF ls = true then [((ls.foldl gstep ([], 0)).2, -1)] else [])
theorem gstep_len : ∀ (ls : List QF) (st : List (Int × Int) × Int), (ls.foldl gstep st).1.length ≤ st.1.length + ls.length
  | [], st => by simp
  | f :: ls, st => by
    rw [List.foldl_cons, List.length_cons]
    have := gstep_len ls (gstep st f)
    have h : (gstep st f).1.length ≤ st.1.length + 1 := by
      unfold gstep
      dsimp only
      split
      · rw [List.length_append, List.length_singleton]; omega
      · omega
    omega
theorem gaps45_ok {ls : List QF} (hl : ls.length ≤ 60) : FN.d_gaps [.list (ls.map lf45)] = some (.retF ((gp45 ls).map pr)) := by
  unfold FN.d_gaps FN.b_gaps
  refine mk_retF ?_
  show (_ : FS) [.dat (.list (ls.map lf45)), .un, .un, .un] = _
  refine seqSetO (ds := []) rfl ?_
  refine seqSet (v := .s (.int 0)) rfl rfl ?_
  dsimp only [List.set]
  obtain ⟨ρ', e, s3, rfl⟩ := forL_inv (g := gN 3) (body := fSeq (fIf (tV (e2 gGtX (e2 gIx (eV 3) (eC (.int 2))) (eV 2))) (fApp 1 (eTup (aCons (eV 2) (aCons (e2 gIx (eV 3) (eC (.int 2))) (aNil))))) (fNx)) (fSet 2 (e2 gAdd (e2 gIx (eV 3) (eC (.int 2))) (eC (.int 1)))))
    (ds := ls.map lf45) (ρ := [.dat (.list (ls.map lf45)), .own [], .dat (.int 0), .un])
    (fun i ρ => ∃ s3 : DL.Slot, ρ = [.dat (.list (ls.map lf45)), .own (((ls.take i).foldl gstep ([], 0)).1.map pr), .dat (.int ((ls.take i).foldl gstep ([], 0)).2), s3]) ⟨_, rfl⟩ (by
      rintro i d ρ hd ⟨s3, rfl⟩
      rw [List.getElem?_map] at hd
      cases hf : ls[i]? with
      | none => rw [hf] at hd; cases hd
      | some f =>
        rw [hf] at hd
        cases hd
        have hstep : (ls.take (i + 1)).foldl gstep ([], 0) = gstep ((ls.take i).foldl gstep ([], 0)) f := by
          rw [List.take_add_one, hf, List.foldl_append]
          rfl
        have hlen := gstep_len (ls.take i) ([], 0)
        have htl := List.length_take_le i ls
        have htl2 := List.length_take_le' i ls
        generalize (ls.take i).foldl gstep ([], 0) = st at hstep hlen ⊢
        have hb : st.1.length ≤ 60 := by simp at hlen; omega
        refine ⟨[.dat (.list (ls.map lf45)), .own (st.1.map pr), .dat (.int st.2), .dat (lf45 f)], _, rfl, ?_, .dat (lf45 f), rfl⟩
        rw [hstep]
        unfold gstep
        have et : tV (e2 gGtX (e2 gIx (eV 3) (eC (.int 2))) (eV 2)) [.dat (.list (ls.map lf45)), .own (st.1.map pr), .dat (.int st.2), .dat (lf45 f)] = some (.ok (decide (st.2 < f.num))) := r_gtI (i := f.num) (j := st.2) rfl rfl
        by_cases h : st.2 < f.num
        · rw [decide_eq_true h] at et
          refine seqN (r_ift et (r_app (es := st.1.map pr) (d := pr (st.2, f.num)) rfl (v := .s (pr (st.2, f.num))) rfl rfl (by rw [List.length_map]; omega) rfl)) ?_
          rw [if_pos h]
          refine r_set (d := .int (f.num + 1)) (v := .s (.int (f.num + 1))) (r_addI rfl rfl) rfl ?_
          rw [List.map_append]
          rfl
        · rw [decide_eq_false h] at et
          refine seqN (r_iff et rfl) ?_
          rw [if_neg h]
          exact r_set (d := .int (f.num + 1)) (v := .s (.int (f.num + 1))) (r_addI rfl rfl) rfl rfl)
  refine seqN (r_for (r_seqL (r_v rfl)) e) ?_
  rw [List.length_map, List.take_length]
  have hlen := gstep_len ls ([], 0)
  have et := end_test (ls := ls) (ρ := [.dat (.list (ls.map lf45)), .own ((ls.foldl gstep ([], 0)).1.map pr), .dat (.int (ls.foldl gstep ([], 0)).2), s3]) rfl
  unfold gp45
  generalize ls.foldl gstep ([], 0) = st at hlen et ⊢
  have hb : st.1.length ≤ 60 := by simp at hlen; omega
  cases he : endF ls with
  | true =>
    rw [he] at et
    refine seqN (r_ift et (r_app (es := st.1.map pr) (d := pr (st.2, -1)) rfl (v := .s (pr (st.2, -1))) rfl rfl (by rw [List.length_map]; omega) rfl)) ?_
    rw [if_pos rfl, List.map_append]
    exact r_retB (r_b rfl)
  | false =>
    rw [he] at et
    refine seqN (r_iff et rfl) ?_
    rw [if_neg (by decide), List.append_nil]
    exact r_retB (r_b rfl)
def mxN (ns : List Nat) : Int := maxI ((ns.map fun (n : Nat) => (n : Int)) ++ [-1])
def dstep (ns : List Nat) (st : List (Int × Int) × Option Int) (n : Nat) : List (Int × Int) × Option Int :=
  let f1 := if ns.contains n = false ∧ st.2 = none then some (n : Int) else st.2
  if ns.contains n = true then match f1 with
    | some a => (st.1 ++ [(a, (n : Int))], none)
    | none => (st.1, none) else (st.1, f1)
def dg45 (ns : List Nat) (e : Bool) : List (Int × Int) := ((List.range (mxN ns + 1).toNat).foldl (dstep ns) ([], none)).1 ++ (if e = true then [(mxN ns + 1, -1)] else [])
theorem dstep_len (ns : List Nat) : ∀ (l : List Nat) (st : List (Int × Int) × Option Int), (l.foldl (dstep ns) st).1.length ≤ st.1.length + l.length
  | [], st => by simp
  | n :: l, st => by
    rw [List.foldl_cons, List.length_cons]
    have := dstep_len ns l (dstep ns st n)
    have h : (dstep ns st n).1.length ≤ st.1.length + 1 := by
      unfold dstep
      dsimp only
      split
      · split
        · rw [List.length_append, List.length_singleton]; omega
        · simp
      · simp
    omega
def optD : Option Int → D
  | some a => .int a
  | none => .none
def numN (ls : List QF) : List Nat := ls.map fun f => f.num.toNat
theorem mx45_ok {ls : List QF} (hn : numsOk ls) (hl : ls.length ≤ 60) (ρ : Rho) (h : ρ[1]? = some (.dat (.list (jd (numN ls))))) : eG bMaxL (aCons (e2 gAdd (eV 1) (eLst (aCons (e1 gNeg (eC (.int 1))) (aNil)))) (aNil)) ρ = some (.ok (.s (.int (mxN (numN ls))))) := by
  have q := r_cat (xs := jd (numN ls)) (ys := [.int (-1)]) (r_v h) (r_lst (A := aCons (e1 gNeg (eC (.int 1))) (aNil)) (ds := [.int (-1)]) (r_args (v := .s (.int (-1))) (r_neg rfl) r_args0) rfl (by show 1 ≤ 16777216; decide)) rfl rfl rfl (by rw [jd_len]; unfold numN; rw [List.length_map]; show _ + 1 ≤ _; omega)
  refine r_eG (r_args q r_args0) ?_
  show (match intsD (jd (numN ls) ++ [.int (-1)]) with
    | some ns => if ns.length = 0 then none else some (Val.s (.int (maxI ns)))
    | none => none) = _
  rw [show (jd (numN ls) ++ [PyData.int (-1)]) = (((numN ls).map fun (n : Nat) => (n : Int)) ++ [-1]).map PyData.int by rw [List.map_append, jd_ints]; rfl, intsD_map]
  dsimp only
  rw [if_neg (by rw [List.length_append]; show ¬ (_ + 1 = 0); omega)]
  rfl
theorem mx_bound {ls : List QF} (hn : numsOk ls) : -1 ≤ mxN (numN ls) ∧ mxN (numN ls) < 8 := by
  have h1 := maxI_ge (ns := ((numN ls).map fun (n : Nat) => (n : Int)) ++ [-1]) (-1) (by simp)
  have h2 := maxI_mem (ns := ((numN ls).map fun (n : Nat) => (n : Int)) ++ [-1]) (by simp)
  refine ⟨h1, ?_⟩
  show maxI _ < 8
  rcases List.mem_append.mp h2 with h | h
  · obtain ⟨n, hn', e⟩ := List.mem_map.mp h
    obtain ⟨f, hf, rfl⟩ := List.mem_map.mp hn'
    have := hn f hf
    omega
  · have : maxI (((numN ls).map fun (n : Nat) => (n : Int)) ++ [-1]) = -1 := by simpa using h
    omega
theorem due_gaps45_ok {ls : List QF} (hn : numsOk ls) (hl : ls.length ≤ 60) : FN.d__law_due_gaps [.list (ls.map lf45)] = some (.retF ((dg45 (numN ls) (endF ls)).map pr)) := by
  obtain ⟨m0, m1⟩ := mx_bound hn
  unfold FN.d__law_due_gaps FN.b__law_due_gaps
  refine mk_retF ?_
  show (_ : FS) [.dat (.list (ls.map lf45)), .un, .un, .un, .un, .un] = _
  have q := eLc_seq (vs := [2]) (st := st1 2) (it := iSeq (eV 0)) (tt := fun _ => some (.ok true)) (fe := e2 gIx (eV 2) (eC (.int 2))) (ρ := [.dat (.list (ls.map lf45)), .un, .un, .un, .un, .un]) lf45 (fun f => .int ((f.num.toNat : Nat) : Int)) (xs := ls) rfl (r_seqL (r_v rfl)) (by omega) (fun f hf => ⟨_, .s (.int f.num), rfl, rfl, rfl, by
    rw [show ((f.num.toNat : Nat) : Int) = f.num by have := hn f hf; omega]
    rfl⟩)
  refine seqSet (d := .list (jd (numN ls))) q (by
    show some (PyData.list _) = some _
    unfold jd numN
    rw [List.map_map]
    rfl) ?_
  refine seqSetO (ds := []) rfl ?_
  refine seqSet (v := .s .none) rfl rfl ?_
  dsimp only [List.set]
  have hmx := mx45_ok hn hl [.dat (.list (ls.map lf45)), .dat (.list (jd (numN ls))), .un, .own [], .dat .none, .un] rfl
  have hit := r_range (E := e2 gAdd (eG bMaxL (aCons (e2 gAdd (eV 1) (eLst (aCons (e1 gNeg (eC (.int 1))) (aNil)))) (aNil))) (eC (.int 1))) (r_addI hmx rfl) (by omega) (by omega)
  obtain ⟨ρ', e, s5, rfl⟩ := forL_inv (g := gN 5) (body := fSeq (fIf (tAndD (tV (e2 gNotIn (eV 5) (eV 1))) (tV (e2 gIsN (eV 4) (eC .none)))) (fSet 4 (eV 5)) (fNx)) (fIf (tAndD (tV (e2 gIn (eV 5) (eV 1))) (tV (e2 gNotN (eV 4) (eC .none)))) (fSeq (fApp 3 (eTup (aCons (eV 4) (aCons (eV 5) (aNil))))) (fSet 4 (eC .none))) (fNx)))
    (ds := rangeD 0 (mxN (numN ls) + 1).toNat) (ρ := [.dat (.list (ls.map lf45)), .dat (.list (jd (numN ls))), .un, .own [], .dat .none, .un])
    (fun i ρ => ∃ s5 : DL.Slot, ρ = [.dat (.list (ls.map lf45)), .dat (.list (jd (numN ls))), .un, .own (((List.range i).foldl (dstep (numN ls)) ([], none)).1.map pr), .dat (optD ((List.range i).foldl (dstep (numN ls)) ([], none)).2), s5]) ⟨_, rfl⟩ (by
      rintro i d ρ hd ⟨s5, rfl⟩
      obtain ⟨hi, rfl⟩ := rangeD0_at hd
      have hstep : (List.range (i + 1)).foldl (dstep (numN ls)) ([], none) = dstep (numN ls) ((List.range i).foldl (dstep (numN ls)) ([], none)) i := by
        rw [List.range_succ, List.foldl_append]
        rfl
      have hlen := dstep_len (numN ls) (List.range i) ([], none)
      rw [List.length_range] at hlen
      rw [hstep]
      generalize (List.range i).foldl (dstep (numN ls)) ([], none) = st at hlen ⊢
      obtain ⟨out, fst⟩ := st
      have hb : out.length ≤ 60 := by simp at hlen; omega
      dsimp only
      refine ⟨[.dat (.list (ls.map lf45)), .dat (.list (jd (numN ls))), .un, .own (out.map pr), .dat (optD fst), .dat (.int (i : Int))], _, rfl, ?_, .dat (.int (i : Int)), rfl⟩
      generalize hns : numN ls = ns
      have tn : tV (e2 gNotIn (eV 5) (eV 1)) [.dat (.list (ls.map lf45)), .dat (.list (jd ns)), .un, .own (out.map pr), .dat (optD fst), .dat (.int (i : Int))] = some (.ok (!ns.contains i)) := r_notIn0 (v := .s (.list (jd ns))) rfl rfl rfl
      have isn : tV (e2 gIsN (eV 4) (eC .none)) [.dat (.list (ls.map lf45)), .dat (.list (jd ns)), .un, .own (out.map pr), .dat (optD fst), .dat (.int (i : Int))] = some (.ok fst.isNone) := r_isN (v := .s (optD fst)) rfl (by cases fst <;> rfl)
      cases hc : ns.contains i with
      | false =>
        rw [hc] at tn
        cases fst with
        | none =>
          refine seqN (r_ift (r_and_t tn isn) (r_set (d := .int (i : Int)) (v := .s (.int (i : Int))) rfl rfl rfl)) ?_
          have tin := r_in0 (fa := eV 5) (fb := eV 1) (ρ := [.dat (.list (ls.map lf45)), .dat (.list (jd ns)), .un, .own (out.map pr), .dat (.int (i : Int)), .dat (.int (i : Int))]) (v := .s (.list (jd ns))) (r := ns) (n := i) rfl rfl rfl
          rw [hc] at tin
          refine r_iff (r_and_f tin) ?_
          unfold dstep
          rw [hc]
          rfl
        | some a =>
          refine seqN (r_iff (r_and_t tn isn) rfl) ?_
          have tin := r_in0 (fa := eV 5) (fb := eV 1) (ρ := [.dat (.list (ls.map lf45)), .dat (.list (jd ns)), .un, .own (out.map pr), .dat (optD (some a)), .dat (.int (i : Int))]) (v := .s (.list (jd ns))) (r := ns) (n := i) rfl rfl rfl
          rw [hc] at tin
          refine r_iff (r_and_f tin) ?_
          unfold dstep
          rw [hc]
          rfl
      | true =>
        rw [hc] at tn
        refine seqN (r_iff (r_and_f tn) rfl) ?_
        have tin := r_in0 (fa := eV 5) (fb := eV 1) (ρ := [.dat (.list (ls.map lf45)), .dat (.list (jd ns)), .un, .own (out.map pr), .dat (optD fst), .dat (.int (i : Int))]) (v := .s (.list (jd ns))) (r := ns) (n := i) rfl rfl rfl
        rw [hc] at tin
        cases fst with
        | none =>
          refine r_iff (r_and_t tin (r_notN (v := .s .none) rfl rfl)) ?_
          unfold dstep
          rw [hc]
          rfl
        | some a =>
          refine r_ift (r_and_t tin (r_notN (v := .s (.int a)) (x := false) rfl rfl)) ?_
          refine seqN (r_app (es := out.map pr) (d := pr (a, (i : Int))) rfl (v := .s (pr (a, (i : Int)))) rfl rfl (by rw [List.length_map]; omega) rfl) ?_
          refine r_set (d := .none) (v := .s .none) rfl rfl ?_
          unfold dstep
          rw [hc]
          simp only [Bool.true_eq_false, false_and, if_false, if_true, List.map_append]
          rfl)
  refine seqN (r_for hit e) ?_
  rw [rangeD_length]
  have hlen := dstep_len (numN ls) (List.range (mxN (numN ls) + 1).toNat) ([], none)
  rw [List.length_range] at hlen
  unfold dg45
  generalize (List.range (mxN (numN ls) + 1).toNat).foldl (dstep (numN ls)) ([], none) = st at hlen ⊢
  obtain ⟨out, fst⟩ := st
  have hb : out.length ≤ 60 := by simp at hlen; omega
  dsimp only
  have et := end_test (ls := ls) (ρ := [.dat (.list (ls.map lf45)), .dat (.list (jd (numN ls))), .un, .own (out.map pr), .dat (optD fst), s5]) rfl
  have hm2 := mx45_ok hn hl [.dat (.list (ls.map lf45)), .dat (.list (jd (numN ls))), .un, .own (out.map pr), .dat (optD fst), s5] rfl
  cases he : endF ls with
  | true =>
    rw [he] at et
    refine seqN (r_ift et (r_app (es := out.map pr) (d := pr (mxN (numN ls) + 1, -1)) rfl (r_tup (ds := [.int (mxN (numN ls) + 1), .int (-1)]) (r_args (r_addI hm2 rfl) (r_args (v := .s (.int (-1))) (r_neg rfl) r_args0)) rfl (by show 2 ≤ 16777216; decide)) rfl (by rw [List.length_map]; omega) rfl)) ?_
    rw [if_pos rfl, List.map_append]
    exact r_retB (r_b rfl)
  | false =>
    rw [he] at et
    refine seqN (r_iff et rfl) ?_
    rw [if_neg (by decide), List.append_nil]
    exact r_retB (r_b rfl)
def subs : List Nat → List (List Nat)
  | [] => [[]]
  | a :: l => subs l ++ (subs l).map (a :: ·)
theorem filter_subs (p : Nat → Bool) : ∀ l : List Nat, l.filter p ∈ subs l
  | [] => by simp [subs]
  | a :: l => by
    rw [List.filter_cons]
    unfold subs
    split
    · exact List.mem_append_right _ (List.mem_map.mpr ⟨_, filter_subs p l, rfl⟩)
    · exact List.mem_append_left _ (filter_subs p l)
def gstepN (st : List (Int × Int) × Int) (n : Nat) : List (Int × Int) × Int := (if st.2 < (n : Int) then st.1 ++ [(st.2, (n : Int))] else st.1, (n : Int) + 1)
def gpN (ns : List Nat) (e : Bool) : List (Int × Int) := (ns.foldl gstepN ([], 0)).1 ++ (if e = true then [((ns.foldl gstepN ([], 0)).2, -1)] else [])
theorem gstep_N : ∀ (ls : List QF) (st : List (Int × Int) × Int), numsOk ls → ls.foldl gstep st = (numN ls).foldl gstepN st
  | [], st, _ => rfl
  | f :: ls, st, h => by
    show ls.foldl gstep (gstep st f) = (numN ls).foldl gstepN (gstepN st f.num.toNat)
    have e : gstepN st f.num.toNat = gstep st f := by
      unfold gstepN gstep
      rw [show ((f.num.toNat : Nat) : Int) = f.num by have := h f (by simp); omega]
    rw [e]
    exact gstep_N ls _ fun g hg => h g (List.mem_cons_of_mem _ hg)
theorem all_subs : ((subs (List.range 8)).all fun ns => decide (gpN ns true = dg45 ns true) && decide (gpN ns false = dg45 ns false)) = true := by decide +kernel
theorem rl_num {fs : List QF} (s : Int) : ∀ l : List Nat, numN (l.filterMap fun (n : Nat) => fstQ fs s (n : Int)) = l.filter fun (n : Nat) => (fstQ fs s (n : Int)).isSome
  | [] => rfl
  | n :: l => by
    rw [List.filterMap_cons, List.filter_cons]
    cases h : fstQ fs s (n : Int) with
    | none =>
      rw [if_neg (by simp)]
      exact rl_num s l
    | some f =>
      rw [if_pos (by rfl)]
      have := (fstQ_at h).2.2
      show f.num.toNat :: numN _ = _
      rw [rl_num s l, this]
      rfl
theorem rl_mem {fs : List QF} {s : Int} {f : QF} (h : f ∈ rl45 fs s) : f ∈ fs := by
  obtain ⟨n, _, h⟩ := List.mem_filterMap.mp h
  exact (fstQ_at h).1
theorem gaps_same {fs : List QF} (hn : numsOk fs) (s : Int) : gp45 (rl45 fs s) = dg45 (numN (rl45 fs s)) (endF (rl45 fs s)) := by
  have hr : numsOk (rl45 fs s) := fun f hf => hn f (rl_mem hf)
  have h1 : gp45 (rl45 fs s) = gpN (numN (rl45 fs s)) (endF (rl45 fs s)) := by
    unfold gp45 gpN
    rw [gstep_N _ _ hr]
  rw [h1]
  have hm : numN (rl45 fs s) ∈ subs (List.range 8) := by
    unfold rl45
    rw [rl_num]
    exact filter_subs _ _
  have q := List.all_eq_true.mp all_subs _ hm
  rw [Bool.and_eq_true, decide_eq_true_eq, decide_eq_true_eq] at q
  cases endF (rl45 fs s)
  · exact q.2
  · exact q.1
end FL
set_option Elab.async false
set_option linter.all false
set_option maxRecDepth 100000
set_option maxHeartbeats 4000000
namespace FL
open PySem PySem.Spec PyProof.Rows L2 DL FN
theorem r_callL45 {F : DF} {n : Nat} {A : FA} {vs : List Val} {ds : List D} {ρ : Rho} (q : A ρ = some (.ok vs)) (hn : vs.length = n) (e : F (vs.map Val.d) = some (.retF ds)) (h : noLsts ds = true) : eCallL F n A ρ = some (.ok (.f ds)) := by
  unfold eCallL
  rw [q]
  dsimp only
  rw [if_pos hn, e]
  dsimp only
  rw [if_pos h]
theorem r_shareO {i : Nat} {g : FS} {ρ : Rho} {ds : List D} {o : Option Out} (h : ρ[i]? = some (.own ds)) (k : g (ρ.set i (.dat (.list ds))) = o) : fShare i g ρ = o := by
  unfold fShare
  rw [h]
  exact k
theorem r_shareD {i : Nat} {g : FS} {ρ : Rho} {d : D} {o : Option Out} (h : ρ[i]? = some (.dat d)) (k : g ρ = o) : fShare i g ρ = o := by
  unfold fShare
  rw [h]
  exact k
theorem noLsts_ints : ∀ ns : List Int, noLsts (ns.map .int) = true
  | [] => rfl
  | n :: ns => by
    show (true && noLsts (ns.map .int)) = true
    rw [noLsts_ints ns]
    rfl
theorem noLsts_prs : ∀ ps : List (Int × Int), noLsts (ps.map pr) = true
  | [] => rfl
  | p :: ps => by
    show (noLst (pr p) && noLsts (ps.map pr)) = true
    rw [noLsts_prs ps]
    rfl
theorem deep45 (ls : List QF) (h : ls.length ≤ 60) : deepOk 8 (ls.map lf45) = true := by
  unfold deepOk
  rw [List.all_map]
  refine List.all_eq_true.mpr fun f _ => ?_
  show lineOk (1 + (ls.map lf45).length) = true
  rw [List.length_map]
  exact lineOk_small (by omega)
def goodQ (f : QF) : Prop := (f.stamp = 7 ∨ f.stamp = 0 ∨ f.stamp = 4294967295) ∧ 0 ≤ f.num ∧ f.num < 8
def due45 (fs : List QF) : List Int := [0, 7, 4294967295].filter fun s => decide (0 < (fs.filter fun f => f.stamp == s).length)
theorem due45_ok {fs : List QF} (h : ∀ f ∈ fs, goodQ f) : sortU (fs.map (·.stamp)) = due45 fs := by
  refine rise_one sortU_rise (List.Pairwise.filter _ (by simp)) fun z => ?_
  rw [sortU_mem]
  unfold due45
  rw [List.mem_filter, List.mem_map]
  constructor
  · rintro ⟨f, hf, rfl⟩
    refine ⟨?_, decide_eq_true ?_⟩
    · rcases (h f hf).1 with e | e | e <;> rw [e] <;> simp
    · exact List.length_pos_of_mem (List.mem_filter.mpr ⟨hf, beq_iff_eq.mpr rfl⟩)
  · rintro ⟨_, hp⟩
    obtain ⟨f, hf⟩ := List.exists_mem_of_length_pos (of_decide_eq_true hp)
    obtain ⟨h1, h2⟩ := List.mem_filter.mp hf
    exact ⟨f, h1, beq_iff_eq.mp h2⟩
theorem st45 (ds : List Int) (k : Int) : ∃ x : Int, (x = 7 ∨ x = 0 ∨ x = 4294967295) ∧ atI ([.int 7, .int 0, .int 4294967295] : List D) (atD ds k 3) = some (.int x) := by
  have b0 := atD_lo ds k 3 (by omega)
  have b1 := atD_hi ds k 3 (by omega)
  have : atD ds k 3 = 0 ∨ atD ds k 3 = 1 ∨ atD ds k 3 = 2 := by omega
  rcases this with h | h | h <;> rw [h]
  · exact ⟨7, .inl rfl, rfl⟩
  · exact ⟨0, .inr (.inl rfl), rfl⟩
  · exact ⟨4294967295, .inr (.inr rfl), rfl⟩
theorem kd45 (ds : List Int) (k : Int) : ∃ x : Int, atI ([.int 2, .int 2, .int 2, .int 0, .int 4, .int 1, .int 3] : List D) (atD ds k 7) = some (.int x) := by
  have b0 := atD_lo ds k 7 (by omega)
  have b1 := atD_hi ds k 7 (by omega)
  have : atD ds k 7 = 0 ∨ atD ds k 7 = 1 ∨ atD ds k 7 = 2 ∨ atD ds k 7 = 3 ∨ atD ds k 7 = 4 ∨ atD ds k 7 = 5 ∨ atD ds k 7 = 6 := by omega
  rcases this with h | h | h | h | h | h | h <;> rw [h] <;> exact ⟨_, rfl⟩
noncomputable def fdB45 : FS := fSeq (fSet 4 (e2 gAdd (eC (.int 1)) (e2 gMul (eC (.int 4)) (eV 3)))) (fSeq (fSet 5 (e2 gIx (eLst (aCons (eC (.int 7)) (aCons (eC (.int 0)) (aCons (eC (.int 4294967295)) (aNil))))) (eCall FN.d__law_at 3 (aCons (eV 1) (aCons (eV 4) (aCons (eC (.int 3)) (aNil))))))) (fSeq (fSet 6 (e2 gIx (eLst (aCons (eC (.int 2)) (aCons (eC (.int 2)) (aCons (eC (.int 2)) (aCons (eC (.int 0)) (aCons (eC (.int 4)) (aCons (eC (.int 1)) (aCons (eC (.int 3)) (aNil))))))))) (eCall FN.d__law_at 3 (aCons (eV 1) (aCons (e2 gAdd (eV 4) (eC (.int 1))) (aCons (eC (.int 7)) (aNil))))))) (fSeq (fSet 7 (eTup (aCons (eV 6) (aCons (eV 5) (aCons (eCall FN.d__law_at 3 (aCons (eV 1) (aCons (e2 gAdd (eV 4) (eC (.int 2))) (aCons (eC (.int 8)) (aNil))))) (aCons (eC (.int 1)) (aCons (eV 3) (aCons (eV 3) (aCons (eC (.int 1)) (aCons (eC (.int 1)) (aCons (eLst (aCons (eCall FN.d__law_at 3 (aCons (eV 1) (aCons (e2 gAdd (eV 4) (eC (.int 3))) (aCons (eC (.int 256)) (aNil))))) (aNil))) (aNil)))))))))))) (fApp 2 (eTup (aCons (e2 gAdd (e2 gMul (eC (.int 10)) (eV 3)) (eC (.int 1))) (aCons (e2 gAdd (e2 gMul (eC (.int 10)) (eV 3)) (eC (.int 9))) (aCons (eV 7) (aNil)))))))))
def plainS (s : DL.Slot) : Prop := s = .un ∨ ∃ d, s = .dat d
theorem finds45 (ns : List Int) (ds : List Int) (m : Nat) (hm : m < 11) : ∃ (fs : List QF) (s3 s4 s5 s6 s7 : DL.Slot), fs.length = m ∧ (∀ f ∈ fs, goodQ f) ∧ plainS s5 ∧ plainS s7 ∧
    forL (gN 3) fdB45 (rangeD 0 m) [.dat (DL.scr ns), .dat (.list (ds.map .int)), .own [], .un, .un, .un, .un, .un, .un, .un, .un, .un, .un, .un, .un] = some (.nx [.dat (DL.scr ns), .dat (.list (ds.map .int)), .own (fs.map fd45), s3, s4, s5, s6, s7, .un, .un, .un, .un, .un, .un, .un]) := by
  obtain ⟨ρ', e, fs, s3, s4, s5, s6, s7, h1, h2, h5, h3, rfl⟩ := forL_inv (g := gN 3) (body := fdB45) (ds := rangeD 0 m) (ρ := [.dat (DL.scr ns), .dat (.list (ds.map .int)), .own [], .un, .un, .un, .un, .un, .un, .un, .un, .un, .un, .un, .un])
    (fun i ρ => ∃ (fs : List QF) (s3 s4 s5 s6 s7 : DL.Slot), fs.length = i ∧ (∀ f ∈ fs, goodQ f) ∧ plainS s5 ∧ plainS s7 ∧ ρ = [.dat (DL.scr ns), .dat (.list (ds.map .int)), .own (fs.map fd45), s3, s4, s5, s6, s7, .un, .un, .un, .un, .un, .un, .un]) ⟨[], _, _, _, _, _, rfl, fun f hf => (nomatch hf), .inl rfl, .inl rfl, rfl⟩ (by
      rintro i d ρ hd ⟨fs, s3, s4, s5, s6, s7, hl, hg, hs5, hs7, rfl⟩
      obtain ⟨hi, rfl⟩ := rangeD0_at hd
      obtain ⟨st, hst, est⟩ := st45 ds (1 + 4 * (i : Int))
      obtain ⟨kd, ekd⟩ := kd45 ds (1 + 4 * (i : Int) + 1)
      have n0 := atD_lo ds (1 + 4 * (i : Int) + 2) 8 (by omega)
      have n1 := atD_hi ds (1 + 4 * (i : Int) + 2) 8 (by omega)
      let f : QF := ⟨kd, st, atD ds (1 + 4 * (i : Int) + 2) 8, i, atD ds (1 + 4 * (i : Int) + 3) 256⟩
      refine ⟨[.dat (DL.scr ns), .dat (.list (ds.map .int)), .own (fs.map fd45), .dat (.int (i : Int)), s4, s5, s6, s7, .un, .un, .un, .un, .un, .un, .un], _, rfl, ?_, fs ++ [f], .dat (.int (i : Int)), .dat (.int (1 + 4 * (i : Int))), .dat (.int st), .dat (.int kd), .dat (lf45 f), by rw [List.length_append, List.length_singleton, hl], fun g hg' => ?_, .inr ⟨_, rfl⟩, .inr ⟨_, rfl⟩, rfl⟩
      · unfold fdB45
        refine seqSet (d := .int (1 + 4 * (i : Int))) (r_addI (i := 1) rfl (r_mulI (i := 4) (j := (i : Int)) rfl rfl (cMul_l (by decide) (by decide)))) rfl ?_
        refine seqSet (d := .int st) (DL.r_ixF (r_lst (ds := [.int 7, .int 0, .int 4294967295]) (r_args rfl (r_args rfl (r_args rfl r_args0))) rfl (by show 3 ≤ 16777216; decide)) (r_at (r_v rfl) (r_v rfl) rfl (by omega) (by omega)) est rfl) rfl ?_
        refine seqSet (d := .int kd) (DL.r_ixF (r_lst (ds := [.int 2, .int 2, .int 2, .int 0, .int 4, .int 1, .int 3]) (r_args rfl (r_args rfl (r_args rfl (r_args rfl (r_args rfl (r_args rfl (r_args rfl r_args0))))))) rfl (by show 7 ≤ 16777216; decide)) (r_at (r_v rfl) (r_addI (j := 1) (r_v rfl) rfl) rfl (by omega) (by omega)) ekd rfl) rfl ?_
        refine seqSet (d := lf45 f) (r_tup (ds := [.int kd, .int st, .int (atD ds (1 + 4 * (i : Int) + 2) 8), .int 1, .int (i : Int), .int (i : Int), .int 1, .int 1, .list [.int (atD ds (1 + 4 * (i : Int) + 3) 256)]])
          (r_args (r_v rfl) (r_args (r_v rfl) (r_args (r_at (r_v rfl) (r_addI (j := 2) (r_v rfl) rfl) rfl (by omega) (by omega)) (r_args (v := .s (.int 1)) rfl (r_args (r_v rfl) (r_args (r_v rfl) (r_args (v := .s (.int 1)) rfl (r_args (v := .s (.int 1)) rfl (r_args (r_lst (ds := [.int (atD ds (1 + 4 * (i : Int) + 3) 256)]) (r_args (r_at (r_v rfl) (r_addI (j := 3) (r_v rfl) rfl) rfl (by omega) (by omega)) r_args0) rfl (by show 1 ≤ 16777216; decide)) r_args0))))))))) rfl (by show 9 ≤ 16777216; decide)) rfl ?_
        refine r_app (es := fs.map fd45) (d := fd45 f) rfl (r_tup (ds := [.int (10 * (i : Int) + 1), .int (10 * (i : Int) + 9), lf45 f]) (r_args (r_addI (j := 1) (r_mulI (i := 10) (j := (i : Int)) rfl rfl (cMul_l (by decide) (by decide))) rfl) (r_args (r_addI (j := 9) (r_mulI (i := 10) (j := (i : Int)) rfl rfl (cMul_l (by decide) (by decide))) rfl) (r_args (r_v rfl) r_args0))) rfl (by show 3 ≤ 16777216; decide)) rfl (by rw [List.length_map]; omega) ?_
        rw [List.map_append]
        rfl
      · rcases List.mem_append.mp hg' with h | h
        · exact hg g h
        · have : g = f := by simpa using h
          subst this
          exact ⟨hst, n0, n1⟩)
  rw [rangeD_length] at h1
  exact ⟨fs, s3, s4, s5, s6, s7, h1, h2, h5, h3, e⟩
noncomputable def rlB45 : FS := fShare 2 (fDeep 13 14 7 8 FN.t_roll 2 (aCons (eV 2) (aCons (eV 5) (aNil))) (tOrD (tNotD (tV (e1 (gIsi "list") (eV 13)))) (tV (e2 gNe (eV 13) (eCall FN.d__law_due_roll 2 (aCons (eV 8) (aCons (eV 5) (aNil))))))) (eCall FN.d_gaps 1 (aCons (eV 13) (aNil))) (tOrD (tNotD (tV (e1 (gIsi "list") (eV 14)))) (tV (e2 gNe (eV 14) (eCall FN.d__law_due_gaps 1 (aCons (eCall FN.d__law_due_roll 2 (aCons (eV 8) (aCons (eV 5) (aNil)))) (aNil)))))) (fIf (tOrD (tV (e2 gNe (eV 2) (eV 8))) (tV (e2 gNe (eCall FN.d_roll 2 (aCons (eV 2) (aCons (eV 5) (aNil)))) (eCall FN.d__law_due_roll 2 (aCons (eV 8) (aCons (eV 5) (aNil))))))) (fRet (eC (.bool false))) (fNx)))
theorem turn45 {fs : List QF} (hn : numsOk fs) (hl : fs.length ≤ 60) (s : Int) (s0 s1 s3 s4 s6 s7 s9 s10 s11 s12 s14 : DL.Slot) (h7 : plainS s7) (h14 : plainS s14) :
    (fDeep 13 14 7 8 FN.t_roll 2 (aCons (eV 2) (aCons (eV 5) (aNil))) (tOrD (tNotD (tV (e1 (gIsi "list") (eV 13)))) (tV (e2 gNe (eV 13) (eCall FN.d__law_due_roll 2 (aCons (eV 8) (aCons (eV 5) (aNil))))))) (eCall FN.d_gaps 1 (aCons (eV 13) (aNil))) (tOrD (tNotD (tV (e1 (gIsi "list") (eV 14)))) (tV (e2 gNe (eV 14) (eCall FN.d__law_due_gaps 1 (aCons (eCall FN.d__law_due_roll 2 (aCons (eV 8) (aCons (eV 5) (aNil)))) (aNil)))))) (fIf (tOrD (tV (e2 gNe (eV 2) (eV 8))) (tV (e2 gNe (eCall FN.d_roll 2 (aCons (eV 2) (aCons (eV 5) (aNil)))) (eCall FN.d__law_due_roll 2 (aCons (eV 8) (aCons (eV 5) (aNil))))))) (fRet (eC (.bool false))) (fNx)))
      [s0, s1, .dat (.list (fs.map fd45)), s3, s4, .dat (.int s), s6, s7, .dat (.list (fs.map fd45)), s9, s10, s11, s12, .un, s14] = some (.nx [s0, s1, .dat (.list (fs.map fd45)), s3, s4, .dat (.int s), s6, .un, .dat (.list (fs.map fd45)), s9, s10, s11, s12, .un, .dat (.list ((gp45 (rl45 fs s)).map pr))]) := by
  have hr : numsOk (rl45 fs s) := fun f hf => hn f (rl_mem hf)
  have hrl : (rl45 fs s).length ≤ 8 := by
    have := List.length_filterMap_le (fun (n : Nat) => fstQ fs s (n : Int)) (List.range 8)
    rw [List.length_range] at this
    exact this
  have isl : ∀ {E : FE} {ρ : Rho} {xs : List D}, E ρ = some (.ok (.s (.list xs))) → tNotD (tV (e1 (gIsi "list") E)) ρ = some (.ok false) := fun {E ρ xs} h => r_notT (r_tV (r_isi h) rfl)
  have due : ∀ {ρ : Rho}, ρ[8]? = some (.dat (.list (fs.map fd45))) → ρ[5]? = some (.dat (.int s)) → eCall FN.d__law_due_roll 2 (aCons (eV 8) (aCons (eV 5) (aNil))) ρ = some (.ok (.s (.list ((rl45 fs s).map lf45)))) := fun {ρ} h8 h5 => r_call (r_args (r_v h8) (r_args (r_v h5) r_args0)) rfl rfl (due_roll45_ok hl s)
  refine (r_deep (vs := [.s (.list (fs.map fd45)), .s (.int s)]) (as := [.list (fs.map fd45), .int s]) (ds := (rl45 fs s).map lf45) (es := (gp45 (rl45 fs s)).map pr) ?_ (r_args (r_v rfl) (r_args (r_v rfl) r_args0)) rfl rfl (roll45_t hn hl s) (deep45 _ (by omega)) ?_ ?_ (noLsts_prs _) ?_).trans ?_
  · rcases h7 with rfl | ⟨d7, rfl⟩ <;> rcases h14 with rfl | ⟨d14, rfl⟩ <;> rfl
  · exact r_or_f (isl (r_v rfl)) (r_tV (r_ne (x := true) (r_v rfl) (due rfl rfl) (eqD_same 3 (pl_lfs45 _))) rfl)
  · exact r_callF (r_args (r_v rfl) r_args0) rfl rfl (gaps45_ok (by omega))
  · have dg := due_gaps45_ok hr (by omega)
    rw [← gaps_same hn s] at dg
    exact r_or_f (isl (r_v rfl)) (r_tV (r_ne (x := true) (r_v rfl) (r_callF (r_args (due rfl rfl) r_args0) rfl rfl dg) (eqD_same 2 (pl_prs true 0 _))) rfl)
  · refine r_iff (r_or_f (r_tV (r_ne (x := true) (r_v rfl) (r_v rfl) (eqD_same 4 (pl_fds45 _))) rfl) (r_tV (r_ne (x := true) (r_callF (r_args (r_v rfl) (r_args (r_v rfl) r_args0)) rfl rfl (roll45_ok hn hl s)) (due rfl rfl) (eqD_same 3 (pl_lfs45 _))) rfl)) rfl
theorem k45_true (ns : List Int) (h : ns.length ≤ 63) : FN.d_law_k45 [DL.scr ns] = some (.ret (.bool true)) := by
  obtain ⟨ds, hd, hlen, he⟩ := law_draws_ok ns h
  have m0 := atD_lo ds 0 11 (by omega)
  have m1 := atD_hi ds 0 11 (by omega)
  obtain ⟨m, em⟩ : ∃ m : Nat, atD ds 0 11 = (m : Nat) := ⟨(atD ds 0 11).toNat, by omega⟩
  obtain ⟨fs, s3, s4, s5, s6, s7, hfl, hg, h5, h7, efd⟩ := finds45 ns ds m (by omega)
  have hl : fs.length ≤ 60 := by omega
  have hn : numsOk fs := fun f hf => (hg f hf).2
  unfold d_law_k45 b_law_k45
  refine mk_ret_at (ρ0 := [.dat (DL.scr ns), .un, .un, .un, .un, .un, .un, .un, .un, .un, .un, .un, .un, .un, .un]) rfl ?_
  refine seqSet (d := .list (ds.map .int)) (r_callFs (r_args (r_v rfl) r_args0) rfl rfl he (scalar_ints ds)) rfl ?_
  refine seqSetO (ds := []) rfl ?_
  have hit : iRange1 (aCons (eCall FN.d__law_at 3 (aCons (eV 1) (aCons (eC (.int 0)) (aCons (eC (.int 11)) (aNil))))) (aNil)) [.dat (DL.scr ns), .dat (.list (ds.map .int)), .own [], .un, .un, .un, .un, .un, .un, .un, .un, .un, .un, .un, .un] = some (.ok (rangeD 0 m)) := by
    have q := r_range (E := eCall FN.d__law_at 3 (aCons (eV 1) (aCons (eC (.int 0)) (aCons (eC (.int 11)) (aNil))))) (ρ := [.dat (DL.scr ns), .dat (.list (ds.map .int)), .own [], .un, .un, .un, .un, .un, .un, .un, .un, .un, .un, .un, .un]) (r_at (r_v rfl) rfl rfl (by omega) (by omega)) (by omega) (by omega)
    rw [em, Int.toNat_natCast] at q
    exact q
  refine seqN (r_for hit efd) ?_
  refine seqSet (d := .list (fs.map fd45)) (v := .f (fs.map fd45)) (by
    unfold eLcO
    refine (if_pos (by rcases h7 with rfl | ⟨_, rfl⟩ <;> rfl)).trans ?_
    have q := lcL_map (tt := fun _ => some (.ok true)) (fe := eTup (aCons (eV 9) (aCons (eV 10) (aCons (e2 gAddT (eSl (eV 7) (oNone) (oSome (eC (.int 8)))) (eTup (aCons (eG bList (aCons (e2 gIx (eV 7) (eC (.int 8))) (aNil))) (aNil)))) (aNil))))) (st := stT [9, 10, 7] (wipeR [.dat (DL.scr ns), .dat (.list (ds.map .int)), .own (fs.map fd45), s3, s4, s5, s6, s7, .un, .un, .un, .un, .un, .un, .un] [9, 10, 7])) fd45 fd45 (xs := fs) (fun f hf => ⟨[.dat (DL.scr ns), .dat (.list (ds.map .int)), .own (fs.map fd45), s3, s4, s5, s6, .dat (lf45 f), .un, .dat (.int (10 * (f.k : Int) + 1)), .dat (.int (10 * (f.k : Int) + 9)), .un, .un, .un, .un], .s (fd45 f), rfl, rfl, rfl, rfl⟩)
    show (match lcL _ _ _ (fs.map fd45) with
      | some es => if lineOk es.length = true then some (Except.ok (Val.f es)) else none
      | none => none) = _
    rw [q]
    dsimp only
    rw [if_pos (lineOk_small (by rw [List.length_map]; omega))]) rfl ?_
  refine seqSet (d := .list ((due45 fs).map .int)) (eLc_filter (dat := fun z : Int => .int z) (F := fun z : Int => .int z) (p := fun s => decide (0 < (fs.filter fun f => f.stamp == s).length)) (xs := [0, 7, 4294967295]) (by rcases h5 with rfl | ⟨_, rfl⟩ <;> rfl) (r_seqF (r_lst (ds := [.int 0, .int 7, .int 4294967295]) (r_args rfl (r_args rfl (r_args rfl r_args0))) rfl (by show 3 ≤ 16777216; decide))) (by decide) (fun z hz => ⟨_, rfl, by
      have q := eLc_filter (vs := [9, 10, 7]) (st := stT [9, 10, 7]) (it := iSeq (eV 8)) (tt := tV (e2 gEq (e2 gIx (eV 7) (eC (.int 1))) (eV 5))) (fe := eV 7) (ρ := [.dat (DL.scr ns), .dat (.list (ds.map .int)), .own (fs.map fd45), s3, s4, .dat (.int z), s6, s7, .dat (.list (fs.map fd45)), .un, .un, .un, .un, .un, .un]) fd45 lf45 (fun f => f.stamp == z) (xs := fs) (by rcases h7 with rfl | ⟨d7, rfl⟩ <;> rfl) (r_seqL (r_v rfl)) (by omega) (fun f hf => ⟨[.dat (DL.scr ns), .dat (.list (ds.map .int)), .own (fs.map fd45), s3, s4, .dat (.int z), s6, .dat (lf45 f), .dat (.list (fs.map fd45)), .dat (.int (10 * (f.k : Int) + 1)), .dat (.int (10 * (f.k : Int) + 9)), .un, .un, .un, .un], rfl, r_tV (r_eqI (i := f.stamp) (j := z) rfl rfl) rfl, fun _ => ⟨.s (lf45 f), rfl, rfl⟩⟩)
      have q2 := r_gtI (r_len q rfl) (fb := eC (.int 0)) (j := 0) rfl
      rw [List.length_map] at q2
      refine q2.trans ?_
      congr 2
      exact decide_eq_decide.mpr (by omega), fun _ => ⟨.s (.int z), rfl, rfl⟩⟩)) rfl ?_
  refine seqSet (d := .list ((due45 fs).map .int)) (r_callL45 (vs := [.b (fs.map fd45)]) (ds := (due45 fs).map .int) (r_args (r_b rfl) r_args0) rfl (by
    rw [← due45_ok hg]
    exact stamps45_ok fs hl) (noLsts_ints _)) rfl ?_
  refine seqIfF (r_or_f (r_notT (r_tV (r_isi (r_v rfl)) rfl)) (r_tV (r_ne (x := true) (r_v rfl) (r_v rfl) (by rw [show ((Val.s (PyData.list ((due45 fs).map .int))).d) = PyData.list ((due45 fs).map .int) from rfl, eqD_ints, decide_eq_true rfl])) rfl)) (seqNx ?_)
  dsimp only [List.set]
  obtain ⟨ρ', e, t5, t7, t14, _, _, rfl⟩ := forL_inv (g := gN 5) (body := rlB45) (ds := ([7, 0, 4294967295, 5] : List Int).map .int) (ρ := [.dat (DL.scr ns), .dat (.list (ds.map .int)), .own (fs.map fd45), s3, s4, s5, s6, s7, .dat (.list (fs.map fd45)), .un, .un, .dat (.list ((due45 fs).map .int)), .dat (.list ((due45 fs).map .int)), .un, .un])
    (fun i ρ => ∃ t5 t7 t14 : DL.Slot, plainS t7 ∧ plainS t14 ∧ ρ = [.dat (DL.scr ns), .dat (.list (ds.map .int)), (match i with | 0 => .own (fs.map fd45) | _ + 1 => .dat (.list (fs.map fd45))), s3, s4, t5, s6, t7, .dat (.list (fs.map fd45)), .un, .un, .dat (.list ((due45 fs).map .int)), .dat (.list ((due45 fs).map .int)), .un, t14]) ⟨_, _, _, h7, .inl rfl, rfl⟩ (by
      rintro i d ρ hd ⟨t5, t7, t14, q7, q14, rfl⟩
      rw [List.getElem?_map] at hd
      obtain ⟨s, _, rfl⟩ : ∃ s : Int, ([7, 0, 4294967295, 5] : List Int)[i]? = some s ∧ d = .int s := by
        cases hz : ([7, 0, 4294967295, 5] : List Int)[i]? with
        | none => rw [hz] at hd; cases hd
        | some s => rw [hz] at hd; cases hd; exact ⟨s, rfl, rfl⟩
      refine ⟨_, _, rfl, ?_, .dat (.int s), .un, .dat (.list ((gp45 (rl45 fs s)).map pr)), .inl rfl, .inr ⟨_, rfl⟩, rfl⟩
      unfold rlB45
      cases i with
      | zero => exact r_shareO (ds := fs.map fd45) rfl (turn45 hn hl s _ _ _ _ _ _ _ _ _ _ _ q7 q14)
      | succ i => exact r_shareD (d := .list (fs.map fd45)) rfl (turn45 hn hl s _ _ _ _ _ _ _ _ _ _ _ q7 q14))
  refine seqN (r_for (r_seqF (r_lst (ds := [.int 7, .int 0, .int 4294967295, .int 5]) (r_args rfl (r_args rfl (r_args rfl (r_args rfl r_args0)))) rfl (by show 4 ≤ 16777216; decide))) e) ?_
  refine r_ret (r_andV_t (r_eq (x := true) (r_callF (r_args (v := .s (.list (fs.map fd45))) rfl r_args0) rfl rfl (stamps45_ok fs hl)) (r_v rfl) (by
    rw [due45_ok hg]
    show eqD (.list ((due45 fs).map .int)) (.list ((due45 fs).map .int)) = _
    rw [eqD_ints, decide_eq_true rfl])) (r_eq (x := true) (a := .s (.list (fs.map fd45))) (b := .s (.list (fs.map fd45))) rfl rfl (eqD_same 4 (pl_fds45 _))))
end FL
namespace K45
theorem law_true : ∀ ns : List Int, ns.length ≤ 63 → FN.d_law_k45 [DL.scr ns] = some (.ret (.bool true)) := FL.k45_true
end K45
set_option Elab.async false
open PySem PySem.W PyProof.Rows
set_option maxRecDepth 100000 in
set_option maxHeartbeats 0 in
theorem PySem.Challenge.cw_spoolbox_k45_rolls_and_gaps_holds : PySem.Challenge.rw_spoolbox_k45_rolls_and_gaps.Holds := by
  w_on; o_law; k_head; (case hw => w_witness2)
  k_fill
  refine L2.walk_of (l := PySem.Challenge.rw_spoolbox_k45_rolls_and_gaps) (n := 63) (k := 3) (x := "script") (CX := fun w => L2.CX PySem.Challenge.rw_spoolbox_k45_rolls_and_gaps.prog w) (sp := fun w => DL.spLaw _) rfl (by decide) rfl ⟨rfl, by decide, by decide⟩ (fun w h Y => PySem.W.kIn_of Y) ?F (fun _ _ a ns hl _ hS => ⟨a, ns, rfl, hS, hl, fun _ => rfl⟩) (fun _ _ _ _ _ h => DL.cx_none h)
  case F =>
    intro w mg fa h KX G hmg
    refine' K45.all_mk KX G hmg K45.law_true ?a0 ?l0 ?c0 ?k0 ?a1 ?l1 ?c1 ?k1 ?a2 ?l2 ?c2 ?k2 ?a3 ?l3 ?c3 ?k3 ?a4 ?l4 ?c4 ?k4 ?a5 ?l5 ?c5 ?k5 ?a6 ?l6 ?c6 ?k6 ?a7 ?l7 ?c7 ?k7 ?a8 ?l8 ?c8 ?k8 ?z_range ?z_min ?z_len ?z_abs ?z_int ?z_sorted ?z_set ?z_list ?z_max ?z_isinstance ?n_END
    (case a0 => k_is)
    (case l0 => k_is)
    (case c0 => k_is)
    (case k0 => k_is)
    (case a1 => k_is)
    (case l1 => k_is)
    (case c1 => k_is)
    (case k1 => k_is)
    (case a2 => k_is)
    (case l2 => k_is)
    (case c2 => k_is)
    (case k2 => k_is)
    (case a3 => k_is)
    (case l3 => k_is)
    (case c3 => k_is)
    (case k3 => k_is)
    (case a4 => k_is)
    (case l4 => k_is)
    (case c4 => k_is)
    (case k4 => k_is)
    (case a5 => k_is)
    (case l5 => k_is)
    (case c5 => k_is)
    (case k5 => k_is)
    (case a6 => k_is)
    (case l6 => k_is)
    (case c6 => k_is)
    (case k6 => k_is)
    (case a7 => k_is)
    (case l7 => k_is)
    (case c7 => k_is)
    (case k7 => k_is)
    (case a8 => k_is)
    (case l8 => k_is)
    (case c8 => k_is)
    (case k8 => k_is)
    (case z_range => k_is)
    (case z_min => k_is)
    (case z_len => k_is)
    (case z_abs => k_is)
    (case z_int => k_is)
    (case z_sorted => k_is)
    (case z_set => k_is)
    (case z_list => k_is)
    (case z_max => k_is)
    (case z_isinstance => k_is)
    (case n_END => k_is)
